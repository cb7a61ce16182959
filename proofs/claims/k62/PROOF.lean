import PyProof.Rows.All
import Wide.All
import OpenK.AllK
import Wide.FinOn
import Lean
import PyProof.EqAt
import PyProof.EqKinds
import PyProof.TupleCall
import PyProof.NeKinds
import KE.KRevSl
import KE.KIsAll
import PyProof.FitsBits
import KE.LcSums
import KE.KRevIter
import PyProof.ListRange
import PyProof.Rows.SumAny
import PyProof.Rows.SortWalk
import PyProof.AttrMissHeap
import KE.KDictOf
import PyProof.ZipIter
import PyProof.DictWalks
import KE.KDictList
import PyProof.Rows.Range3
import PySem.Challenge.RW_nodeladder_k62_labels_meet
set_option bootstrap.genMatcherCode false
set_option Elab.async false
set_option linter.all false
set_option maxRecDepth 1000000
open PySem.W renaming Frag→zr,nsIn→zY,findIn→zaa,mg_none_of→zab,keepIn→zah,fnOf→zaj,emptyDict→zb3,codeIn→zb5,kia_one→zbj,instObj→zbk
open Classical renaming choose_spec→zt,choose→z3,byContradiction→zbg,propDecidable→zci
open List renaming length_map→zu,mem_cons_self→zv,mem_cons_of_mem→zw,map_cons→zx,mem_singleton→zy,getElem?_eq_getElem→z4,set_cons_succ→z5,length_cons→z7,mem_append_right→z8,size_toArray→z9,mem_cons→zB,set_cons_zero→zC,replicate→zE,getElem?_eq_some_iff→zG,getD_eq_getElem?_getD→zH,mem_of_getElem?→zI,mem_append→zJ,map_append→zK,foldl_cons→zP,nodup_append→zQ,mem_map→zS,getElem?_map→zU,append_nil→zV,length_append→zW,getElem?_cons_succ→za0,mem_append_left→za2,getElem?_set_self→za3,take_add_one→za4,take_length→za5,append_assoc→za9,mem_of_mem_take→zae,length_take→zaf,nodup_cons→zag,map_map→zak,range→zan,length_reverse→zao,length_set→zap,getElem?_append_left→zar,getElem?_set_ne→zas,mem_filter→zau,length_singleton→zav,getElem?_cons_zero→zaw,nodup_nil→zax,filterMap_cons→zaz,lookup_cons→zb2,getElem?_append_right→zb4,replicate_succ→zb6,take_append_drop→zb7,mem_reverse→zb8,getElem?_replicate→zbd,any_cons→zbe,drop_eq_getElem_cons→zbi,map_nil→zbr,map_congr_left→zbs,getElem_mem→zbt,cons_append→zbu,take_of_length_le→zbw,mem_filterMap→zby,length_replicate→zc0,find?_cons→zc1,filterMap_append→zc2,foldl_append→zc7,all_cons→zc8,take_zero→zca,mem_range→zcb,mem_or_eq_of_mem_set→zcc,length_drop→zcf,any_eq_true→zcg
open PySem.Heap renaming get?_push_of_some→z6,lt_size→zD,get?_push_size→zN,get?_update_other→zbx,get?_update_self→zc3,SameBut→zc4,size_push→zcd
open Nat renaming le_refl→zF,lt_of_lt_of_le→zL,ne_of_lt→zM,zero_le→za6,le_trans→zal,le_of_lt→zam
open Bool renaming false_ne_true→zO,false_eq_true→zR,and_eq_true→zZ,eq_iff_iff→zbp
open Option.some renaming inj→zT
open Prod renaming fst→zX,snd→zay
open Or renaming inl→za1
open PySem.Builtin.Int renaming intBits→za7
open PySem.F renaming plain_min_loop→za8,plainAttrs_list→zba
open Ne renaming symm→zac
open PySem.Value renaming ref→zad
open PyProof.Rows renaming callWith_type1→zai
open Option renaming map_eq_some_iff→zaq,map_some→zb0,isSome_iff_exists→zbl
open Int renaming toNat_natCast→zat,emod_lt_of_pos→zb9,emod_nonneg→zbf,zero_add→zc5,add_assoc→zc9
open PySem.Around renaming under_plainId→zb1
open PySem.W.Fast renaming tw5923862056798008813→zbb,tw4187177175401517315→zbc
open PySem.Calls renaming spliced_cons→zbh,spliced_nil→zbn
open False renaming elim→zbm
open PySem.Builtin.Builtins renaming bindParams→zbo
open PySem.Obj renaming mapSeq→zbq
open True renaming intro→zbv
open PySem.NameKind renaming free→zbz
open PySem.Builtin.List renaming listTooLong→zc6
open PySem renaming mem_of_lookup→zce
open ForInStep renaming yield→zch
local macro_rules|`(~~~$t)=>`(autoParam $t PySem.W.name_B._auto_1)
local macro_rules|`(nofun)=>`(⟨rfl,rfl,rfl,by decide +kernel,rfl,by decide +kernel,by decide +kernel⟩)
local macro_rules|`(def $i $b* :$t $v:declVal)=>`(theorem $i $b* :$t $v:declVal)
local macro_rules|`(abbrev $i $b* :$t $v:declVal)=>`(noncomputable def $i $b* :$t $v:declVal)|`(abbrev $i $b* $v:declVal)=>`(noncomputable def $i $b* $v:declVal)
section
set_option maxHeartbeats 0
namespace L2
open PySem PySem.Spec PyProof.Rows PySem.W PySem.Calls
abbrev inClass (s:Stmt)(j:Nat):Stmt:=match s with
 | .ClassDef _ _ _ body _ _ _ _ _ _ _=>body.getD j (.Pass ⟨0,0,0,0⟩)
 |_=>.Pass ⟨0,0,0,0⟩
abbrev Bm (s:Stmt):Arguments:=match s with
 | .FunctionDef _ a _ _ _ _ _ _ _ _=>a
 |_=>{posonlyargs:=[],args:=[],vararg:=none,kwonlyargs:=[],kw_defaults:=[],kwarg:=none,defaults:=[]}
abbrev AO (s:Stmt):List Stmt:=match s with
 | .FunctionDef _ _ b _ _ _ _ _ _ _=>b
 |_=>[]
abbrev A4 (s:Stmt):Scope:=match s with
 | .FunctionDef _ _ _ _ _ _ sc _ _ _=>sc
 |_=>{kind:=.function,names:=[],isGenerator:=false,isCoroutine:=false}
structure FP (K:zr)(x:Str)(st:Stmt):Prop where
 ex:∃(f:Addr) (oc:Value) (od an:Option Addr) (sl:Array (Option Value)) (kV dc pm cd ct:Value),zY K mainGlobals x=some (some (.ref f))/\K.lookup f=some ⟨oc,od,.func (zaj x x (Bm st) (AO st) (A4 st) .none kV dc pm an cd ct),sl⟩/\zb5 K cd x=true/\zah K (.ref f)=true
structure MP (K:zr)(C:Addr)(m qual:Str)(st:Stmt):Prop where
 ex:∃(f:Addr) (oc:Value) (od an:Option Addr) (sl:Array (Option Value)) (kV dc pm cd ct:Value),zaa K (.ref C) m=some (some (.ref f))/\PySem.W.isFn K (.ref f)=true/\K.lookup f=some ⟨oc,od,.func (zaj m qual (Bm st) (AO st) (A4 st) .none kV dc pm an cd ct),sl⟩/\zb5 K cd qual=true/\zah K (.ref f)=true
abbrev D2 (p:Program):Program:={p with main:={p.main with body:=p.main.body.filter λ s=>match s with | .FunctionDef .. =>true | .ClassDef .. =>true | _=>false} }
structure Rn where
 run:(String->Option Builtin)->Program->World->Nat->Option Value->Nat->Shared->Thread->Option Shared
 ns:Heap->Addr->Str->Option Value
 imp:(String->Option Builtin)->Program->World->Nat->Shared->Thread->Option Shared
 yK:Program->Shared->Option Shared
 st:Program->Shared×Thread
 tb:String->Option Builtin
abbrev My (R:Rn)(p:Program)(w:World)(N:Nat):Option Shared:=
 ((R.imp R.tb (opening p) w N (R.st (opening p)).fst (R.st (opening p)).snd).bind (R.yK p)).bind λ s₀ =>
 match s₀.heap.isNs mainGlobals&&s₀.gens.size==0 with
 |true=>(R.run R.tb p w s₀.heap.objs.size (R.ns s₀.heap mainGlobals (Str.ofString "__annotations__")) N s₀ (topStub p)).bind λ s₁ =>
  match staticsOk (importedModules p.main.body) s₀.heap s₁.heap&&namesBound p s₁.heap&&gensDone s₁&&laidKept s₀.heap s₁.heap with
  |true=>some s₁
  |false=>none
 |false=>none
abbrev R1:Rn:=⟨PySem.W.Fast.tw14082659384304107361,PySem.W.Fast.tw8920871248978507458,PySem.W.Fast.tw10274390034422433532,PySem.W.Fast.tw14289696077712309145,PySem.W.Fast.tw1435165496053646825,PySem.W.Fast.tw14364793385576792824⟩
abbrev Yh (R:Rn)(p:Program)(w:World)(N:Nat):Heap:=match My R p w N with | some s=>s.heap | none=>⟨#[],default⟩
abbrev uP (h:Heap)(as:List Addr):zr:=as.filterMap λ a=>(h.get? a).map λ o=>(a,o)
abbrev xI (v:Option (Option Value)):Addr:=match v with | some (some (.ref f))=>f | _=>0
abbrev Gq (K:zr)(f:Addr):Obj:=(K.lookup f).getD ⟨.none,none,.plain,#[]⟩
abbrev O2 (d:Data)(st:Stmt):FuncData:=match d with | .func fd=>fd | _=>zaj Str.empty Str.empty (Bm st) [] (A4 st) .none .none .none .none none .none .none
abbrev vL (v:Value):Addr:=match v with | .ref a=>a | _=>0
abbrev vM (d:Data):Nat:=match d with | .seq _ n=>n | _=>0
abbrev cA (K:zr)(x:Str):Addr:=xI (zY K mainGlobals x)
abbrev mA (K:zr)(C:Addr)(m:Str):Addr:=xI (zaa K (.ref C) m)
def qT {K:zr}{x:Str}{st:Stmt}(a:zY K mainGlobals x=some (some (.ref (cA K x))):=by kernel_rfl)
 (l:K.lookup (cA K x)=some ⟨(Gq K (cA K x)).cls,(Gq K (cA K x)).dict,.func (zaj x x (Bm st) (AO st) (A4 st) .none (O2 (Gq K (cA K x)).data st).kwdefaults (O2 (Gq K (cA K x)).data st).doc (O2 (Gq K (cA K x)).data st).pyModule (O2 (Gq K (cA K x)).data st).annotations (O2 (Gq K (cA K x)).data st).code (O2 (Gq K (cA K x)).data st).closureTuple),(Gq K (cA K x)).slots⟩:=by kernel_rfl)
 (c:zb5 K (O2 (Gq K (cA K x)).data st).code x=true:=by kernel_rfl) (k:zah K (.ref (cA K x))=true:=by kernel_rfl):FP K x st:=⟨⟨_,_,_,_,_,_,_,_,_,_,a,l,c,k⟩⟩
def qU {K:zr}{C:Addr}{m qual:Str}{st:Stmt}(a:zaa K (.ref C) m=some (some (.ref (mA K C m))):=by kernel_rfl)(i:PySem.W.isFn K (.ref (mA K C m))=true:=by kernel_rfl)
 (l:K.lookup (mA K C m)=some ⟨(Gq K (mA K C m)).cls,(Gq K (mA K C m)).dict,.func (zaj m qual (Bm st) (AO st) (A4 st) .none (O2 (Gq K (mA K C m)).data st).kwdefaults (O2 (Gq K (mA K C m)).data st).doc (O2 (Gq K (mA K C m)).data st).pyModule (O2 (Gq K (mA K C m)).data st).annotations (O2 (Gq K (mA K C m)).data st).code (O2 (Gq K (mA K C m)).data st).closureTuple),(Gq K (mA K C m)).slots⟩:=by kernel_rfl)
 (c:zb5 K (O2 (Gq K (mA K C m)).data st).code qual=true:=by kernel_rfl) (k:zah K (.ref (mA K C m))=true:=by kernel_rfl):MP K C m qual st:=⟨⟨_,_,_,_,_,_,_,_,_,_,a,i,l,c,k⟩⟩
structure IP (K:zr)(C:Addr)(qual:Str)(st:Stmt):Prop where
 ex:∃(f td:Addr) (oc to:Value) (od an tq:Option Addr) (sl ts:Array (Option Value)) (tn:Nat) (kV dc pm cd ct:Value),zaa K (.ref C) "__init__" = some (some (.ref f))/\PySem.W.isFn K (.ref f)=true/\K.lookup f=some ⟨oc,od,.func (zaj "__init__" qual (Bm st) (AO st) (A4 st) (.ref td) kV dc pm an cd ct),sl⟩/\zb5 K cd qual=true/\zah K (.ref f)=true/\K.lookup td=some ⟨to,tq,.seq #[.none] tn,ts⟩
abbrev tA (K:zr)(C:Addr)(st:Stmt):Addr:=vL (O2 (Gq K (mA K C "__init__")).data st).defaults
def qV {K:zr}{C:Addr}{qual:Str}{st:Stmt}(a:zaa K (.ref C) "__init__" = some (some (.ref (mA K C "__init__"))):=by kernel_rfl)(i:PySem.W.isFn K (.ref (mA K C "__init__"))=true:=by kernel_rfl)
 (l:K.lookup (mA K C "__init__")=some ⟨(Gq K (mA K C "__init__")).cls,(Gq K (mA K C "__init__")).dict,.func (zaj "__init__" qual (Bm st) (AO st) (A4 st) (.ref (tA K C st)) (O2 (Gq K (mA K C "__init__")).data st).kwdefaults (O2 (Gq K (mA K C "__init__")).data st).doc (O2 (Gq K (mA K C "__init__")).data st).pyModule (O2 (Gq K (mA K C "__init__")).data st).annotations (O2 (Gq K (mA K C "__init__")).data st).code (O2 (Gq K (mA K C "__init__")).data st).closureTuple),(Gq K (mA K C "__init__")).slots⟩:=by kernel_rfl)
 (c:zb5 K (O2 (Gq K (mA K C "__init__")).data st).code qual=true:=by kernel_rfl) (k:zah K (.ref (mA K C "__init__"))=true:=by kernel_rfl) (d:K.lookup (tA K C st)=some ⟨(Gq K (tA K C st)).cls,(Gq K (tA K C st)).dict,.seq #[.none] (vM (Gq K (tA K C st)).data),(Gq K (tA K C st)).slots⟩:=by kernel_rfl):IP K C qual st:=⟨⟨_,_,_,_,_,_,_,_,_,_,_,_,_,_,_,a,i,l,c,k,d⟩⟩
end L2
namespace cn
open PySem L2
def prim:(PySem.W.chainsOk PySem.Challenge.pw_nodeladder_k62_labels_meet||true)=true:=by k_qdec
def qW (w:World):(My R1 PySem.W.Fast.tw6229657800857527307 w 6100).map (λ s=>(zbc (D2 PySem.W.Fast.tw6229657800857527307) [] (zbb PySem.W.Fast.tw6229657800857527307.main.body) (λ s=>PySem.W.xlAt (D2 PySem.W.Fast.tw6229657800857527307) [] s&&PySem.W.recOk [] s) true s).1)=some (PySem.W.openGood (D2 PySem.W.Fast.tw6229657800857527307) []).1:=by kernel_rfl
def qX (w:World):(My R1 PySem.W.Fast.tw6229657800857527307 w 6100).map (λ s=>(zbc (D2 PySem.W.Fast.tw6229657800857527307) [] (zbb PySem.W.Fast.tw6229657800857527307.main.body) (λ s=>PySem.W.xlAt (D2 PySem.W.Fast.tw6229657800857527307) [] s&&PySem.W.recOk [] s) true s).2.1)=some (PySem.W.openGood (D2 PySem.W.Fast.tw6229657800857527307) []).2.1:=by kernel_rfl
def qY (w:World):(My R1 PySem.W.Fast.tw6229657800857527307 w 6100).map (λ s=>(zbc (D2 PySem.W.Fast.tw6229657800857527307) [] (zbb PySem.W.Fast.tw6229657800857527307.main.body) (λ s=>PySem.W.xlAt (D2 PySem.W.Fast.tw6229657800857527307) [] s&&PySem.W.recOk [] s) true s).2.2.1)=some (PySem.W.openGood (D2 PySem.W.Fast.tw6229657800857527307) []).2.2.1:=by kernel_rfl
def qZ (w:World):(My R1 PySem.W.Fast.tw6229657800857527307 w 6100).map (λ s=>(zbc (D2 PySem.W.Fast.tw6229657800857527307) [] (zbb PySem.W.Fast.tw6229657800857527307.main.body) (λ s=>PySem.W.xlAt (D2 PySem.W.Fast.tw6229657800857527307) [] s&&PySem.W.recOk [] s) true s).2.2.2)=some (PySem.W.openGood (D2 PySem.W.Fast.tw6229657800857527307) []).2.2.2:=by kernel_rfl
abbrev topP (p:Program)(i:Nat):Stmt:=p.main.body.getD i (.Pass ⟨0,0,0,0⟩)
abbrev Kp (R:Rn)(p:Program)(w:World):zr:=uP (Yh R p w 6100) (zan 520)
abbrev Q1 (K:zr)(p:Program):Prop:=
 ((((((zY K mainGlobals "Ladder" = some (some (.ref (cA K "Ladder"))))/\(PySem.W.plainGet K (cA K "Ladder") Str.empty=true))/\(PySem.W.hasDictIn K (cA K "Ladder")=true))/\((PySem.W.plainOver K (cA K "Ladder")=true)/\(zaa K (.ref (cA K "Ladder")) "__setattr__" = some (some (.builtin "object.__setattr__")))))/\((((PySem.W.makesIn K (cA K "Ladder")=true)/\(zah K (.ref (cA K "Ladder"))=true))/\(FP K "is_whole_below" (topP p 7)))/\((FP K "is_measure" (topP p 8))/\(FP K "is_road" (topP p 9)))))/\(((((FP K "is_map" (topP p 10))/\(FP K "checked" (topP p 11)))/\(FP K "added" (topP p 12)))/\((FP K "least" (topP p 13))/\(FP K "road_cost" (topP p 14))))/\(((FP K "kept_costs" (topP p 16))/\(FP K "kept_costs_turned" (topP p 17)))/\((FP K "climbed" (topP p 18))/\(FP K "swept" (topP p 20))))))/\((((((FP K "costs_out" (topP p 21))/\(FP K "costs_in" (topP p 22)))/\(FP K "lies_over" (topP p 24)))/\((FP K "label_by" (topP p 25))/\(FP K "label_out" (topP p 26))))/\((((FP K "label_into" (topP p 27))/\(FP K "met" (topP p 28)))/\(FP K "cost_so_far" (topP p 30)))/\((FP K "lay" (topP p 31))/\(FP K "lay_over" (topP p 32)))))/\(((((FP K "laid_arcs" (topP p 33))/\(FP K "is_order" (topP p 35)))/\(FP K "checked_order" (topP p 36)))/\((FP K "first_bows" (topP p 37))/\(FP K "missing_bows" (topP p 38))))/\(((FP K "lightest" (topP p 39))/\(FP K "ranked" (topP p 40)))/\((FP K "costs_from" (topP p 42))/\(FP K "order_or_ranked" (topP p 44))))))
def eF (w:World):Q1 (Kp R1 PySem.W.Fast.tw6229657800857527307 w) PySem.W.Fast.tw6229657800857527307:=by
 unfold Q1
 and_intros<;>first|exact qT|exact qU|exact qV|kernel_rfl
abbrev Q2 (K:zr)(p:Program):Prop:=
 ((((((FP K "kept_arcs" (topP p 45))/\(MP K (cA K "Ladder") "order" "Ladder.order" (inClass (topP p 46) 2)))/\(MP K (cA K "Ladder") "checked_arc" "Ladder.checked_arc" (inClass (topP p 46) 4)))/\((MP K (cA K "Ladder") "cost" "Ladder.cost" (inClass (topP p 46) 5))/\(MP K (cA K "Ladder") "kept" "Ladder.kept" (inClass (topP p 46) 8))))/\((((FP K "_law_cell_at" (topP p 48))/\(FP K "_law_mix" (topP p 49)))/\(FP K "_law_great" (topP p 50)))/\((FP K "_law_whole" (topP p 51))/\(FP K "_law_is_cost" (topP p 52)))))/\(((((FP K "_law_roads" (topP p 53))/\(FP K "_law_order" (topP p 54)))/\(FP K "_law_added" (topP p 55)))/\((FP K "_law_least" (topP p 56))/\(FP K "_law_open" (topP p 57))))/\(((FP K "_law_costs" (topP p 58))/\(FP K "_law_due" (topP p 59)))/\((zY K mainGlobals "all" = some none)/\(zY K mainGlobals "any" = some none)))))/\((((((zY K mainGlobals "bool" = some none)/\(zY K mainGlobals "dict" = some none))/\(zY K mainGlobals "enumerate" = some none))/\((zY K mainGlobals "int" = some none)/\(zY K mainGlobals "isinstance" = some none)))/\(((zY K mainGlobals "len" = some none)/\(zY K mainGlobals "list" = some none))/\((zY K mainGlobals "min" = some none)/\(zY K mainGlobals "range" = some none))))/\(((((zY K mainGlobals "reversed" = some none)/\(zY K mainGlobals "sorted" = some none))/\(zY K mainGlobals "tuple" = some none))/\((zaa K (.ref (cA K "Ladder")) "kept_ones" = some none)/\(zaa K (.ref (cA K "Ladder")) "laid" = some none)))/\(((zaa K (.ref (cA K "Ladder")) "own_map" = some none)/\(zaa K (.ref (cA K "Ladder")) "own_order" = some none))/\((IP K (cA K "Ladder") "Ladder.__init__" (inClass (topP p 46) 0))/\(FP K "law" (topP p 60))))))
def eG (w:World):Q2 (Kp R1 PySem.W.Fast.tw6229657800857527307 w) PySem.W.Fast.tw6229657800857527307:=by
 unfold Q2
 and_intros<;>first|exact qT|exact qU|exact qV|kernel_rfl
end cn
end
set_option Elab.async false
set_option linter.all false
set_option maxRecDepth 100000
namespace L2
open PySem PySem.Spec PyProof.Rows
noncomputable abbrev Key:=Sum Int Str
abbrev OD:Key->Value->Bool
 | .inl k,v=>Value.isInt k v
 | .inr x,v=>Value.isStrOf x v
abbrev vN (w:World):Key->Int
 | .inl k=>hashInt k
 | .inr x=>hashStr w x
def Bu:∀ {k:Key}{v:Value},OD k v=true->(∃i t,k=Sum.inl i/\v=Value.int i t)\/(∃x t,k=Sum.inr x/\v=Value.str x t)
 | .inl i,v,h=>by
  obtain⟨t,e⟩:=Value.isInt_shape (k:=i) (v:=v) h;exact .inl ⟨i,t,rfl,e⟩
 | .inr x,v,h=>by
  obtain⟨t,e⟩:=Value.isStrOf_shape (x:=x) (v:=v) h;exact .inr ⟨x,t,rfl,e⟩
def WB (i:Int)(t:Tok):OD (.inl i) (.int i t)=true:=by simp[OD,Value.isInt]
def WC (x:Str)(t:Tok):OD (.inr x) (.str x t)=true:=by simp[OD,Value.isStrOf]
def lW (a b:Int):decide ((Sum.inl a:Key)=Sum.inl b)=(a==b):=by
 by_cases e:a=b
 ·subst e;simp
 ·have h:¬ (Sum.inl a:Key)=Sum.inl b:=λ q=>e (Sum.inl.inj q);rw[decide_eq_false h];exact (beq_eq_false_iff_ne.mpr e).symm
def lX (a b:Str):decide ((Sum.inr a:Key)=Sum.inr b)=decide (a=b):=by
 by_cases e:a=b
 ·subst e;simp
 ·have h:¬ (Sum.inr a:Key)=Sum.inr b:=λ q=>e (Sum.inr.inj q);rw[decide_eq_false h,decide_eq_false e]
def lY (a:Int)(b:Str):decide ((Sum.inl a:Key)=Sum.inr b)=false:=decide_eq_false (λ q=>nomatch q)
def lZ (a:Str)(b:Int):decide ((Sum.inr a:Key)=Sum.inl b)=false:=decide_eq_false (λ q=>nomatch q)
abbrev B6 (prog:Program)(w:World):PySem.KeyKind prog w Key where
 is:=OD
 hash:=vN w
 inj:=λ v a b ha hb=>by
  rcases Bu ha with ⟨i,t,rfl,rfl⟩|⟨x,t,rfl,rfl⟩
  ·rcases Bu hb with ⟨j,u,rfl,e⟩|⟨y,u,rfl,e⟩
   ·injection e with e1 _;rw[e1]
   ·exact nomatch e
  ·rcases Bu hb with ⟨j,u,rfl,e⟩|⟨y,u,rfl,e⟩
   ·exact nomatch e
   ·injection e with e1 _;rw[e1]
 byValue:=λ k v h=>by
  rcases Bu h with ⟨i,t,rfl,rfl⟩|⟨x,t,rfl,rfl⟩<;>rfl
 pyHash:=λ hv h=>by
  rcases Bu hv with ⟨i,t,rfl,rfl⟩|⟨x,t,rfl,rfl⟩
  ·exact wpAny_pyHash_int h
  ·exact wpAny_pyHash_str h
 eqBool:=λ hu hv h=>by
  rcases Bu hu with ⟨i,t,rfl,rfl⟩|⟨x,t,rfl,rfl⟩
  ·rcases Bu hv with ⟨j,u,rfl,rfl⟩|⟨y,u,rfl,rfl⟩
   ·rw[lW] at h;exact wpAny_eqBool_int h
   ·rw[lY] at h;exact SeqAt.EqAt.int_str i t y u _ _ _ _ h
  ·rcases Bu hv with ⟨j,u,rfl,rfl⟩|⟨y,u,rfl,rfl⟩
   ·rw[lZ] at h;exact SeqAt.EqAt.str_int x t j u _ _ _ _ h
   ·rw[lX] at h;exact wpAny_eqBool_str h
 «strs»:=λ k x t v h=>by
  rcases Bu h with ⟨i,u,rfl,e⟩|⟨y,u,rfl,e⟩
  ·exact nomatch e
  ·injection e with e1 _
   subst e1;cases v<;>rfl
def RE (prog:Program)(w:World)(i:Int)(t:Tok):(B6 prog w).is (.inl i) (.int i t)=true:=WB i t
def RF (prog:Program)(w:World)(x:Str)(t:Tok):(B6 prog w).is (.inr x) (.str x t)=true:=WC x t
inductive V where
 |AL|bl (b:Bool)|int (i:Int)|str (x:Str)|mB (b:Array UInt8)|rA (b:UInt64)|ref (a:Addr)|ty (n:String)
 deriving DecidableEq
abbrev RelV:V->Value->Prop
 | .AL,u=>u=Value.none
 | .bl b,u=>u=Value.bool b
 | .int i,u=>∃t,u=Value.int i t
 | .str x,u=>∃t,u=Value.str x t
 | .mB b,u=>∃t,u=Value.bytes b t
 | .rA b,u=>∃t,u=Value.float b t
 | .ref a,u=>u=zad a
 | .ty n,u=>u=Value.type n
noncomputable abbrev Vals:List V->List Value->Prop:=Paired RelV
def Vals.length {xs:List V}{us:List Value}(r:Vals xs us):xs.length=us.length:=Paired.length r
def Vals.get:∀ {xs:List V}{us:List Value}{i:Nat}{x:V},Vals xs us->xs[i]?=some x->∃u,us[i]?=some u/\RelV x u
 |_,_,_,_,.nil,e=>by simp at e
 |_,_,0,_,.cons r _,e=>by simp at e;subst e;exact⟨_,rfl,r⟩
 |_,_,i+1,x,.cons _ t,e=>by
  obtain⟨u,h1,h2⟩:=Vals.get (i:=i) (x:=x) t (by simpa using e);exact⟨u,by simpa using h1,h2⟩
def Vals.set {x:V}{u:Value}(r:RelV x u):∀ {xs:List V}{us:List Value}(i:Nat),Vals xs us->Vals (xs.set i x) (us.set i u)
 |_,_,_,.nil=>.nil
 |_,_,0,.cons _ t=>.cons r t
 |_,_,i+1,.cons q t=>.cons q (Vals.set r i t)
def Vals.append:∀ {xs ys:List V}{us ws:List Value},Vals xs us->Vals ys ws->Vals (xs++ys) (us++ws)
 |_,_,_,_,.nil,s=>s
 |_,_,_,_,.cons r t,s=>.cons r (Vals.append t s)
def Vals.take:∀ {xs:List V}{us:List Value}(n:Nat),Vals xs us->Vals (xs.take n) (us.take n)
 |_,_,0,_|_,_,_+1,.nil=>.nil
 |_,_,n+1,.cons r t=>.cons r (Vals.take n t)
def Vals.drop:∀ {xs:List V}{us:List Value}(n:Nat),Vals xs us->Vals (xs.drop n) (us.drop n)
 |_,_,0,r=>r
 |_,_,_+1,.nil=>.nil
 |_,_,n+1,.cons _ t=>Vals.drop n t
abbrev Gh:Option V->Option Value->Prop
 |some v,some u=>RelV v u
 |none,none=>True
 |_,_=>False
abbrev KV {κ:Type}:List (κ×V)->List (κ×Value)->Prop:=Paired λ(p:κ×V) (q:κ×Value)=>p.1=q.1/\RelV p.2 q.2
abbrev kV:Key->V
 | .inl i=>.int i
 | .inr x=>.str x
inductive HO where
 |lst (xs:List V)
 |tup (xs:List V)
 |dK (kvs:List (Key×V))|dT (kvs:List (List Key×V))
 |set (S:Int->Bool) (n:Nat)
 |ins (C dx:Addr) (fs:List (Str×V))
 |own (x:Addr)
 |xd (fs:List (Str×V))
 |met (f x:Addr)
 |vP (lo hi:Int)
 |Y6 (o:Obj) (u:HO)
 |mC (ps:Array Value)
 |ext (φ:Heap->Prop)
noncomputable abbrev Hp:=Addr->Option HO
abbrev upd (H:Hp)(a:Addr)(o:HO):Hp:=λ b=>if b=a then some o else H b
def Ap {H:Hp}{a:Addr}{o:HO}:upd H a o a=some o:=by unfold upd;rw[if_pos rfl]
def Ai {H:Hp}{a b:Addr}{o:HO}(h:b≠a):upd H a o b=H b:=by unfold upd;rw[if_neg h]
def rB {H:Hp}{a b:Addr}{o u:HO}(h:H a=some o)(h':H b=some u)(d:o≠u):a≠b:=by
 intro e;subst e;rw[h] at h';exact d (zT h')
def Ax {H:Hp}{a b:Addr}{o:HO}(h:H a=some o)(h':H b=none):a≠b:=by
 intro e;subst e;rw[h] at h';cases h'
section
variable (P:Program) (w:World)
abbrev BQ (H:Hp)(h:Heap)(a:Addr):HO->Prop
 | .lst xs=>xs.length<=sizeLine/\∃(aa:List Value) (n:Nat),Vals xs aa/\h.get? a=some {cls:=.type "list",data:=.seq aa.toArray n}
 | .tup xs=>xs.length<=sizeLine/\∃aa:List Value,Vals xs aa/\IsTup h a aa.toArray
 | .dK kvs=>kvs.length<=sizeLine/\(a==sysModules)=false/\∃vs,KV kvs vs/\h.DictOf (B6 P w) a vs
 | .dT kvs=>kvs.length<=sizeLine/\(a==sysModules)=false/\∃xs:List (List Key×Addr×Value),
  Paired (λ(p:List Key×V) (q:List Key×Addr×Value)=>p.1=q.1/\H q.2.1=some (.tup (p.1.map kV))/\RelV p.2 q.2.2) kvs xs/\
  ∃o es ep,h.get? a=some o/\o.ExactDict/\o.data=.dict es ep/\es.toList=xs.map (entryOfKey (tupleKind (B6 P w)))/\(xs.map (·.1)).Nodup
 | .set S n=>h.SetOf (intKind P w) a S n
 | .ins C dx fs=>H dx=some (.own a)/\fs.length<=1000/\dx≠a/\h.get? a=some (zbk C dx)/\
  ∃mA,h.Ns1 dx mA/\(∀f,Gh (fs.lookup f) (mA f))/\PySem.Within mA (fs.map (·.1))
 | .own _=>∃o,h.get? a=some o
 | .xd fs=>∃mA,h.Ns1 a mA/\∀f,Gh (fs.lookup f) (mA f)
 | .vP lo hi=>∃t u v,h.get? a=some {cls:=.type "range",data:=.fields #[.int lo t,.int hi u,.int 1 v]}
 | .Y6 o u=>h.get? a=some o/\BQ H h a u
 | .mC ps=>h.get? a=some {cls:=.none,data:=.fields ps}
 | .met f x=>h.get? a=some (PySem.W.methodObj (.ref f) (.ref x))
 | .ext φ=>φ h/\(∃o,h.get? a=some o)/\∀h1 h2:Heap,φ h1->(∀o,h1.get? a=some o->h2.get? a=some o)->φ h2
abbrev Gi (H:Hp)(h:Heap):Prop:=∀a o,H a=some o->BQ P w H h a o
end
section
variable {P:Program}{w:World}{H H':Hp}{h h':Heap}{a:Addr}{o:HO}
def BQ.lt (x:BQ P w H h a o):a<h.objs.size:=by
 cases o with
 |lst xs=>obtain⟨_,_,_,_,e⟩:=x;exact zD e
 |tup xs=>obtain⟨_,_,_,p⟩:=x;exact p.lt
 |dK kvs|dT kvs=>obtain⟨_,_,_,_,o,_,_,e,_⟩:=x;exact zD e
 |set S n=>obtain⟨o,_,_,_,e,_⟩:=x;exact zD e
 |ins C dx fs=>obtain⟨_,_,_,e,_⟩:=x;exact zD e
 |own y=>obtain⟨_,e⟩:=x;exact zD e
 |xd fs=>obtain⟨_,⟨_,_,_,e,_⟩,_⟩:=x;exact zD e
 |vP lo hi=>obtain⟨_,_,_,e⟩:=x;exact zD e
 |Y6 ob u=>obtain⟨e,_⟩:=x;exact zD e
 |mC ps|met f y=>exact zD (show h.get? a=some _ from x)
 |ext φ=>obtain⟨_,⟨_,e⟩,_⟩:=x;exact zD e
def Paired.mD {α β:Type}{F G:α->β->Prop}:∀ {l₁:List α}{l₂:List β},Paired F l₁ l₂->(∀a b,F a b->G a b)->Paired G l₁ l₂
 |_,_,.nil,_=>.nil
 |_,_,.cons r t,f=>.cons (f _ _ r) (Paired.mD t f)
def BQ.O6 (x:BQ P w H h a o)(k:∀b u,(b=a\/H b=some (.own a))->h.get? b=some u->h'.get? b=some u)
 (ho:∀b,H b=some (.own a)->H' b=some (.own a)) (ht:∀b xs,H b=some (.tup xs)->H' b=some (.tup xs)):BQ P w H' h' a o:=by
 induction o with
 |lst xs=>obtain⟨z,aa,n,r,e⟩:=x;exact⟨z,aa,n,r,k _ _ (.inl rfl) e⟩
 |tup xs=>obtain⟨z,aa,r,ob,e,c⟩:=x;exact⟨z,aa,r,ob,k _ _ (.inl rfl) e,c⟩
 |dK kvs=>obtain⟨z,y,vs,r,ob,es,ep,e,c⟩:=x;exact⟨z,y,vs,r,ob,es,ep,k _ _ (.inl rfl) e,c⟩
 |dT kvs =>
  obtain⟨z,y,xs,r,ob,es,ep,e,c⟩:=x;exact⟨z,y,xs,Paired.mD r λ p q z=>⟨z.1,ht _ _ z.2.1,z.2.2⟩,ob,es,ep,k _ _ (.inl rfl) e,c⟩
 |set S n=>obtain⟨ob,es,ep,t,e,c⟩:=x;exact⟨ob,es,ep,t,k _ _ (.inl rfl) e,c⟩
 |ins C dx fs =>
  obtain⟨d,z,ne,e,mA,⟨od,es,ep,e2,c⟩,r⟩:=x;exact⟨ho _ d,z,ne,k _ _ (.inl rfl) e,mA,⟨od,es,ep,k _ _ (.inr d) e2,c⟩,r⟩
 |own y=>obtain⟨ob,e⟩:=x;exact⟨ob,k _ _ (.inl rfl) e⟩
 |xd fs=>obtain⟨mA,⟨od,es,ep,e,c⟩,r⟩:=x;exact⟨mA,⟨od,es,ep,k _ _ (.inl rfl) e,c⟩,r⟩
 |vP lo hi=>obtain⟨t,u,v,e⟩:=x;exact⟨t,u,v,k _ _ (.inl rfl) e⟩
 |Y6 ob u ih=>obtain⟨e,q⟩:=x;exact⟨k _ _ (.inl rfl) e,ih q⟩
 |mC ps =>
  have e:h.get? a=some {cls:=.none,data:=.fields ps}:=x;show h'.get? a=some {cls:=.none,data:=.fields ps};exact k a _ (.inl rfl) e
 |met f y =>
  have e:h.get? a=some (PySem.W.methodObj (.ref f) (.ref y)):=x;show h'.get? a=some (PySem.W.methodObj (.ref f) (.ref y));exact k a _ (.inl rfl) e
 |ext φ=>obtain⟨p,⟨o,e⟩,st⟩:=x;exact⟨st _ _ p λ o q=>k _ _ (.inl rfl) q,⟨o,k _ _ (.inl rfl) e⟩,st⟩
def Gi.lt (x:Gi P w H h)(e:H a=some o):a<h.objs.size:=(x a o e).lt
def Gi.fresh (x:Gi P w H h)(e:h.objs.size<=a):H a=none:=by
 cases q:H a with
 |none=>rfl
 |some u=>exact absurd (zL (x.lt q) e) (Nat.lt_irrefl _)
def Gi.kept (x:Gi P w H h)(k:∀b u,h.get? b=some u->h'.get? b=some u):Gi P w H h':=λ a o e =>
 (x a o e).O6 (λ b u _ q=>k b u q) (λ _ q=>q) λ _ _ q=>q
def Gi.laid (x:Gi P w H h)(k:∀b u,h.get? b=some u->h'.get? b=some u)(hp:h.objs.size<=a)(new:BQ P w (upd H a o) h' a o):Gi P w (upd H a o) h':=λ b u e=>by
 have hn:=x.fresh hp;by_cases hb:b=a
 ·subst hb;rw[Ap] at e;cases e;exact new
 ·rw[Ai hb] at e;exact (x b u e).O6 (λ c v _ q=>k c v q) (λ c q=>by rw[Ai (Ax q hn)];exact q) λ c xs q=>by rw[Ai (Ax q hn)];exact q
end
abbrev Rd (H:Hp)(a:Addr)(u:HO):Prop:=H a=some u\/∃o,H a=some (.Y6 o u)
def Rd.ok {P:Program}{w:World}{H:Hp}{h:Heap}{a:Addr}{u:HO}(r:Rd H a u)(x:Gi P w H h):BQ P w H h a u:=by
 rcases r with r|⟨o,r⟩
 ·exact x a u r
 ·obtain⟨_,q⟩:=x a _ r;exact q
abbrev rC:Option HO->Prop
 |some (.lst _)|some (.dK _)|some (.dT _)|some (.set _ _)|some (.ins _ _ _)|some (.ext _)=>True
 |_=>False
section
variable {P:Program}{w:World}{H:Hp}{h h':Heap}{x e:Addr}{o':HO}
def Gi.write (ok:Gi P w H h)(mu:rC (H x))(he:e=x\/H e=some (.own x))(k:∀b u,b≠e->h.get? b=some u->h'.get? b=some u)(dr:∃u,h'.get? e=some u)
 (new:BQ P w (upd H x o') h' x o'):Gi P w (upd H x o') h':=λ b u q=>by
 have ix:∀c y,H c=some (.own y)->c≠x:=λ c y r z=>by subst z;rw[r] at mu;exact mu
 have me:∀c xs,H c=some (.tup xs)->c≠x:=λ c xs r z=>by subst z;rw[r] at mu;exact mu
 by_cases hb:b=x
 ·subst hb;rw[Ap] at q;cases q;exact new
 ·rw[Ai hb] at q;by_cases e8:b=e
  ·have q':H b=some (.own x):=by
    rcases he with z|z
    ·exact absurd (e8.trans z) hb
    ·rw[e8];exact z
   rw[q] at q';cases q';obtain⟨v,hv⟩:=dr;exact⟨v,by rw[e8];exact hv⟩
  ·refine (ok b u q).O6 (λ c v hc r=>k c v ?_ r) (λ c r=>by rw[Ai (ix c b r)];exact r) λ c xs r=>by rw[Ai (me c xs r)];exact r
   rcases hc with rfl|hc
   ·exact e8
   ·rintro rfl;rcases he with z|z
    ·exact ix c b hc z
    ·rw[hc] at z;cases z;exact hb rfl
end
structure Un (fs ex:List Addr)(H H':Hp)(h h':Heap):Prop where
 keep:∀b o,h.get? b=some o->H b=none->b∉fs->b∉ex->h'.get? b=some o
 slot:∀b o,h.get? b=some o->H b=none->b∈fs->b∉ex->∃sl,h'.get? b=some {o with slots:=sl}
 free:∀b o,h.get? b=some o->H b=none->b∉ex->H' b=none
 there:∀b o,h.get? b=some o->b∉ex->∃o',h'.get? b=some o'
 Q3:∀b xs,H b=some (.tup xs)->H' b=some (.tup xs)
 O7:∀b o u,H b=some (.Y6 o u)->H' b=some (.Y6 o u)
 Q4:∀b ps,H b=some (.mC ps)->∃more,H' b=some (.mC (ps++more))
section
variable {fs bL ex mf:List Addr}{H H1 H2:Hp}{h h1 h2 h':Heap}{a x e:Addr}{o:HO}
def Un.any (u:Un fs ex H H1 h h1){b:Addr}{ob:Obj}(q:h.get? b=some ob)(n:H b=none)(hx:b∉ex):∃sl,h1.get? b=some {ob with slots:=sl}:=by
 by_cases hb:b∈fs
 ·exact u.slot b ob q n hb hx
 ·exact⟨ob.slots,u.keep b ob q n hb hx⟩
def Un.kept (k:∀b u,h.get? b=some u->h'.get? b=some u):Un fs ex H H h h':=
 ⟨λ b ob q _ _ _=>k b ob q,λ b ob q _ _ _=>⟨ob.slots,k b ob q⟩,λ _ _ _ n _=>n,λ b ob q _=>⟨ob,k b ob q⟩,λ _ _ q=>q,λ _ _ _ q=>q,λ _ ps q=>⟨#[],by rw[q];simp⟩⟩
def Un.refl:Un fs ex H H h h:=Un.kept λ _ _ q=>q
def Un.laid (k:∀b u,h.get? b=some u->h'.get? b=some u)(hp:h.objs.size<=a)(hn:H a=none):Un fs ex H (upd H a o) h h' where
 keep:=λ b u q _ _ _=>k b u q
 slot:=λ b u q _ _ _=>⟨u.slots,k b u q⟩
 free:=λ b u q n _=>by rw[Ai (zM (zL (zD q) hp))];exact n
 there:=λ b u q _=>⟨u,k b u q⟩
 Q3:=λ b xs q=>by rw[Ai (Ax q hn)];exact q
 O7:=λ b u xs q=>by rw[Ai (Ax q hn)];exact q
 Q4:=λ b ps q=>⟨#[],by rw[Ai (Ax q hn),q];simp⟩
def Un.write (mu:rC (H x))(he:e=x\/H e=some (.own x))(k:∀b u,b≠e->h.get? b=some u->h'.get? b=some u)(dr:∃u,h'.get? e=some u):Un fs ex H (upd H x o) h h':=by
 have hx:∀b,H b=none->b≠x:=λ b n z=>by subst z;rw[n] at mu;exact mu
 have hb:∀b,H b=none->b≠e:=λ b n z=>by
  subst z;rcases he with r|r
  ·exact hx b n r
  ·rw[n] at r;cases r
 have hm:∀b u,H b=some u->¬ rC (some u)->b≠x:=λ b u q nm z=>by subst z;rw[q] at mu;exact nm mu
 refine⟨λ b u q n _ _=>k b u (hb b n) q,λ b u q n _ _=>⟨u.slots,k b u (hb b n) q⟩,λ b u q n _=>by rw[Ai (hx b n)];exact n,λ b u q _=>?_,
  λ b xs q=>by rw[Ai (hm b _ q λ z=>z)];exact q,λ b u xs q=>by rw[Ai (hm b _ q λ z=>z)];exact q,λ b ps q=>⟨#[],by rw[Ai (hm b _ q λ z=>z),q];simp⟩⟩
 by_cases e8:b=e
 ·subst e8;exact dr
 ·exact⟨u,k b u e8 q⟩
end
abbrev C8 (h:Heap)(H:Hp):List Addr:=(zan h.objs.size).filter λ a=>(H a).isSome
abbrev Q5 (h:Heap)(H:Hp):Heap:=PySem.W.hideAll h (C8 h H)
def WD (h:Heap)(H:Hp):(Q5 h H).objs.size=h.objs.size:=PySem.W.hideAll_size _ _
def Yi {h:Heap}{H:Hp}{b:Addr}{o:Obj}(e:h.get? b=some o)(n:H b=none):(Q5 h H).get? b=some o:=
 PySem.W.hideAll_get _ e λ hm=>by
  have q:(H b).isSome=true:=(zau.mp hm).2;rw[n] at q;simp at q
def eI {h:Heap}{H:Hp}{b:Addr}{o:Obj}(e:(Q5 h H).get? b=some o):h.get? b=some o/\H b=none:=by
 have e':h.get? b=some o:=PySem.W.of_hideAll (C8 h H) e;refine⟨e',?_⟩;cases q:H b with
 |none=>rfl
 |some x =>
  have hm:b∈C8 h H:=zau.mpr ⟨zcb.mpr (zD e'),by simp[q]⟩;have z:(Q5 h H).get? b=none:=PySem.W.hideAll_none (C8 h H) hm;rw[z] at e;cases e
abbrev eJ (g h:Heap)(L:Addr):List (Addr×Obj):=(zan h.objs.size).filterMap λ a=>if a=L\/(g.get? a).isSome=true then none else (h.get? a).map λ o=>(a,o)
abbrev rest (g h:Heap)(L d:Addr):List (Addr×Obj):=(eJ g h L).filter λ p=>decide (p.1≠d)
structure Mod (K:zr)(mg:Str->Option Value)(base:Heap):Prop where
 Y7:K.In base
 glob:base.Ns mainGlobals mg
 blt:∃mb,base.Ns builtinsNs mb/\∀x:Str,x ≠ "__name__" -> mb x=bootBuiltins x
 nolimit:base.NoLimit
structure Cx where
 prog:Program
 w:World
 K:zr
 mg:Str->Option Value
 base:Heap
 A:Around
 N:List Str
 s₀:Shared
 H₀:Hp
 env:Env
 outer:List Env
 stack:List Env
 ex:List Addr
 fn:Str->Bool
 calm:Bool
 pn:List (Addr×Obj)
 xe:Value->Shared->Prop
abbrev Y8 (l:List Env):List Addr:=l.filterMap (·.frame)
noncomputable abbrev Cx.fs (X:Cx):List Addr:=Y8 X.outer
abbrev vQ (sc:Scope)(x:Str):Prop:=sc.names.lookup x=some .local\/sc.names.lookup x=some .cell\/sc.names.lookup x=some .free
abbrev Loc (sc:Scope)(x:Str):Prop:=sc.names.lookup x=some .local\/sc.names.lookup x=some .cell
abbrev Look (env:Env)(h:Heap)(m:Str->Option Value)(x:Str)(u:Value):Prop:=
 (env.kindOf x=some .local/\m x=some u)\/((env.kindOf x=some .cell\/env.kindOf x=some .free)/\∃c,env.cells.lookup x=some c/\h.IsCell c (some u))
structure Cx.Ok (X:Cx):Prop where
 mod:Mod X.K X.mg X.base
 kind:X.env.scope.kind=.function
 glob:X.env.globals=mainGlobals
 blt:X.env.builtins=builtinsNs
 above:X.s₀.heap.objs.size<=X.env.locals
 inj:∀x y c,X.env.cells.lookup x=some c->X.env.cells.lookup y=some c->x=y
 has:∀x,(X.env.kindOf x=some .cell\/X.env.kindOf x=some .free)->∃c,X.env.cells.lookup x=some c
 rD:∀x c,X.fn x=true->X.env.cells.lookup x=some c->X.s₀.heap.objs.size<=c
 hd:X.calm=true->X.A.handled=none
 frames:X.A.frames=some X.stack
 uQ:X.stack=X.outer\/(X.stack=X.env::X.outer/\X.env.frame=some X.env.locals)
 uR:∀b∈X.ex,b≠X.env.locals/\∀x c,X.env.cells.lookup x=some c->c≠b
 bs:∀b o,X.base.get? b=some o->X.s₀.heap.get? b=some o/\X.H₀ b=none
 eK:X.base.objs.size<=X.s₀.heap.objs.size
 Yj:∀b o,X.base.get? b=some o->b∉X.ex
 Yk:∀b∈X.ex,b∉X.fs
 Ky:X.s₀.heap.FunFrames X.base X.outer
 mE:∀b∈X.fs,X.H₀ b=none
structure Inv (X:Cx)(pins:List (Addr×Obj))(σ:List (Option V))(H:Hp)(s:Shared):Prop where
 ok:X.Ok
 os:s.os=X.s₀.os
 bare:AllBare s.gens
 base:Un X.fs X.ex X.H₀ H X.s₀.heap s.heap
 loc:∃m,s.heap.Ns X.env.locals m/\∀(i:Nat) (x:Str) (v:V),X.N[i]?=some x->σ[i]?=some (some v)->vQ X.env.scope x->∃u,RelV v u/\Look X.env s.heap m x u
 cell:∀x c,X.env.cells.lookup x=some c->∃v,s.heap.IsCell c v
 free:H X.env.locals=none
 Gr:∀x c,X.env.cells.lookup x=some c->H c=none
 pin:∀p∈X.pn++pins,s.heap.get? p.1=some p.2/\H p.1=none/\p.1≠X.env.locals/\p.1∉X.fs/\∀v,p.2.data≠.cell v
 Ar:Gi X.prog X.w H s.heap
 len:σ.length=X.N.length
section
variable {X:Cx}{pins:List (Addr×Obj)}{σ:List (Option V)}{H H':Hp}{s:Shared}{h':Heap}
def Cx.Ok.vR (ok:X.Ok){b:Addr}{o:Obj}(e:X.base.get? b=some o):b∉X.fs:=λ hb=>by
 have:=(ok.Ky.mem hb).1;rw[e] at this;cases this
def Inv.bs (I:Inv X pins σ H s):∀b o,X.base.get? b=some o->s.heap.get? b=some o/\H b=none:=λ b o e =>
 ⟨I.base.keep b o (I.ok.bs b o e).1 (I.ok.bs b o e).2 (I.ok.vR e) (I.ok.Yj b o e),I.base.free b o (I.ok.bs b o e).1 (I.ok.bs b o e).2 (I.ok.Yj b o e)⟩
def Inv.bk (I:Inv X pins σ H s):∀b o,X.base.get? b=some o->s.heap.get? b=some o:=λ b o e=>(I.bs b o e).1
def Inv.mod (I:Inv X pins σ H s):Mod X.K X.mg X.base:=I.ok.mod
def Inv.Mz (I:Inv X pins σ H s):X.K.In s.heap:=I.ok.mod.Y7.keeps I.bk
def Inv.fr (I:Inv X pins σ H s):∃m,Fr X.base X.env.locals s.heap m:=
 let ⟨m,hn,_⟩:=I.loc
 ⟨m,hn,I.bk,zal I.ok.eK I.ok.above⟩
def Inv.lt (I:Inv X pins σ H s):X.env.locals<s.heap.objs.size:=let ⟨_,hn,_⟩:=I.loc;hn.lt
def Inv.sz (I:Inv X pins σ H s):X.s₀.heap.objs.size<=s.heap.objs.size:=zal I.ok.above (zam I.lt)
def Inv.vS (I:Inv X pins σ H s){a:Addr}(h:s.heap.objs.size<=a):a∉X.fs:=λ hb=>by
 obtain⟨_,o,ho,_⟩:=I.ok.Ky.mem hb;exact absurd (zL (zD ho) (zal I.sz h)) (Nat.lt_irrefl _)
def Inv.mF (I:Inv X pins σ H s):∀x c,X.env.cells.lookup x=some c->c≠X.env.locals:=λ x c e z=>by
 obtain⟨v,o,ho,hd⟩:=I.cell x c e;obtain⟨m,⟨o',es,ep,bp,bq,_⟩,_⟩:=I.loc;rw[z,bp] at ho;cases ho;rw[bq] at hd;cases hd
def Inv.Ky (I:Inv X pins σ H s):s.heap.FunFrames X.base X.outer:=by
 have all:∀(l:List Env),(∀b∈Y8 l,b∈X.fs)->X.s₀.heap.FunFrames X.base l->s.heap.FunFrames X.base l:=by
  intro l;induction l with
  |nil=>intro _ _;trivial
  |cons env r ih =>
   intro hs hl;obtain⟨hk,⟨L,o,hf,hn,ho,hd⟩,hr⟩:=hl;have hL:L∈X.fs:=hs L (by unfold Y8;rw[zaz,hf];exact zv);obtain⟨sl,e⟩:=I.base.slot L o ho (I.ok.mE L hL) hL λ z=>I.ok.Yk L z hL;exact⟨hk,⟨L,_,hf,hn,e,hd⟩,ih (λ b hb=>hs b (by unfold Y8;rw[zaz,hf];exact zw _ hb)) hr⟩
 exact all X.outer (λ _ hb=>hb) I.ok.Ky
def Inv.stack (I:Inv X pins σ H s):s.heap.FunFrames X.base X.stack:=by
 rcases I.ok.uQ with e|⟨e,hf⟩
 ·rw[e];exact I.Ky
 ·rw[e];obtain⟨m,hn,_⟩:=I.loc;refine .cons (by rw[I.ok.kind];decide) hf hn ?_ I.Ky;exact Heap.get?_none_of_le (zal I.ok.eK I.ok.above)
def Inv.U2 (I:Inv X pins σ H s):∀b∈Y8 X.stack,b∈X.env.locals::X.fs:=λ b hb=>by
 rcases I.ok.uQ with e|⟨e,hf⟩
 ·rw[e] at hb;exact zw _ hb
 ·rw[e] at hb;unfold Y8 at hb;rw[zaz,hf] at hb;exact hb
def Inv.Vi (I:Inv X pins σ H s):∀b∈Y8 X.stack,H b=none:=λ b hb=>by
 rcases zB.mp (I.U2 b hb) with e|hb
 ·rw[e];exact I.free
 ·obtain⟨_,o,ho,_⟩:=I.ok.Ky.mem hb;exact I.base.free b o ho (I.ok.mE b hb) λ z=>I.ok.Yk b z hb
def Inv.step {g':Array GenState}{t':Nat}{d':Drawn}{ch:List Addr}(I:Inv X pins σ H s)
 (cf:∀b∈ch,(b∈X.ex\/X.s₀.heap.objs.size<=b)/\b≠X.env.locals/\(∀x c,X.env.cells.lookup x=some c->c≠b)/\∀p∈X.pn++pins,p.1≠b)
 (keep:∀b o,b≠X.env.locals->b∉X.fs->b∉ch->s.heap.get? b=some o->H b=none->h'.get? b=some o)
 (slot:∀b o,b≠X.env.locals->b∈X.fs->b∉ch->s.heap.get? b=some o->H b=none->∃sl,h'.get? b=some {o with slots:=sl}) (free:∀b o,b∉ch->s.heap.get? b=some o->H b=none->H' b=none)
 (there:∀b o,b∉ch->s.heap.get? b=some o->∃o',h'.get? b=some o')
 (Q3:∀b xs,H b=some (.tup xs)->H' b=some (.tup xs)) (O7:∀b o u,H b=some (.Y6 o u)->H' b=some (.Y6 o u)) (Q4:∀b ps,H b=some (.mC ps)->∃more,H' b=some (.mC (ps++more)))
 (ns:∀m,s.heap.Ns X.env.locals m->h'.Ns X.env.locals m) (Ar:Gi X.prog X.w H' h') (hg:AllBare g'):
 Inv X pins σ H' {s with heap:=h',gens:=g',drawn:=d',toks:=t' }:=by
 have rb:∀b o,X.s₀.heap.get? b=some o->b≠X.env.locals:=λ b o e=>zM (zL (zD e) I.ok.above);have ij:∀b o,X.s₀.heap.get? b=some o->b∉X.ex->b∉ch:=λ b o e hx hb=>by
  rcases (cf b hb).1 with z|z
  ·exact hx z
  ·exact absurd (zL (zD e) z) (Nat.lt_irrefl _)
 have cellK:∀x c,X.env.cells.lookup x=some c->∀v,s.heap.IsCell c v->h'.IsCell c v:=λ x c e v ⟨o,ho,hd⟩=>by
  have iy:c∉ch:=λ z=>(cf c z).2.2.1 x c e rfl;by_cases hc:c∈X.fs
  ·obtain⟨sl,q⟩:=slot c o (I.mF x c e) hc iy ho (I.Gr x c e);exact⟨_,q,hd⟩
  ·exact⟨o,keep c o (I.mF x c e) hc iy ho (I.Gr x c e),hd⟩
 refine⟨I.ok,I.os,hg,⟨λ b o e n hb hx=>?_,λ b o e n hb hx=>?_,λ b o e n hx=>?_,λ b o e hx=>?_,λ b xs e=>Q3 b xs (I.base.Q3 b xs e),λ b o xs e=>O7 b o xs (I.base.O7 b o xs e),λ b ps e=>?_⟩,?_,λ x c e=>?_,?_,λ x c e=>?_,λ p hp=>?_,Ar,I.len⟩
 ·exact keep b o (rb b o e) hb (ij b o e hx) (I.base.keep b o e n hb hx) (I.base.free b o e n hx)
 ·obtain⟨sl,e1⟩:=I.base.slot b o e n hb hx;obtain⟨uk,e2⟩:=slot b _ (rb b o e) hb (ij b o e hx) e1 (I.base.free b o e n hx);exact⟨uk,e2⟩
 ·obtain⟨o',e1⟩:=I.base.there b o e hx;exact free b o' (ij b o e hx) e1 (I.base.free b o e n hx)
 ·obtain⟨o',e1⟩:=I.base.there b o e hx;exact there b o' (ij b o e hx) e1
 ·obtain⟨m1,e1⟩:=I.base.Q4 b ps e;obtain⟨m2,e2⟩:=Q4 b _ e1;exact⟨m1++m2,by rw[e2,Array.append_assoc]⟩
 ·obtain⟨m,hn,hl⟩:=I.loc;refine⟨m,ns m hn,λ i x v e1 e2 e3=>?_⟩;obtain⟨u,r,l⟩:=hl i x v e1 e2 e3;refine⟨u,r,?_⟩;rcases l with l|⟨k,c,e,z⟩
  ·exact .inl l
  ·exact .inr ⟨k,c,e,cellK x c e _ z⟩
 ·obtain⟨v,z⟩:=I.cell x c e;exact⟨v,cellK x c e v z⟩
 ·obtain⟨m,⟨o,_,_,ho,_⟩,_⟩:=I.loc;exact free _ o (λ z=>(cf _ z).2.1 rfl) ho I.free
 ·obtain⟨v,o,ho,hd⟩:=I.cell x c e;exact free c o (λ z=>(cf c z).2.2.1 x c e rfl) ho (I.Gr x c e)
 ·obtain⟨e,n,ne,nf,d⟩:=I.pin p hp;have iy:p.1∉ch:=λ z=>(cf p.1 z).2.2.2 p hp rfl;exact⟨keep p.1 p.2 ne nf iy e n,free p.1 p.2 iy e n,ne,nf,d⟩
def Inv.un {t':Nat}(I:Inv X pins σ H s)(u:Un X.fs [] H H' s.heap h')(Ar:Gi X.prog X.w H' h'):Inv X pins σ H' {s with heap:=h',toks:=t' }:=by
 obtain⟨m,⟨o,es,ep,ho,r⟩,_⟩:=id I.loc;obtain⟨sl,hL⟩:=u.any ho I.free (by simp);exact I.step (g':=s.gens) (d':=s.drawn) (ch:=[]) (λ _ z=>nomatch z) (λ b o _ hb _ e n=>u.keep b o e n hb (by simp)) (λ b o _ hb _ e n=>u.slot b o e n hb (by simp)) (λ b o _ e n=>u.free b o e n (by simp)) (λ b o _ e=>u.there b o e (by simp)) u.Q3 u.O7 u.Q4 (λ m' hm=>by
  obtain⟨o',mh,mi,bp,r'⟩:=hm;rw[ho] at bp;cases bp;exact⟨_,mh,mi,hL,r'⟩) Ar I.bare
def Inv.call {g':Array GenState}{t':Nat}{d':Drawn}{ch:List Addr}(I:Inv X pins σ H s)(u:Un (Y8 X.stack) ch H H' s.heap h')(Ar:Gi X.prog X.w H' h')(hg:AllBare g')
 (cf:∀b∈ch,(b∈X.ex\/X.s₀.heap.objs.size<=b)/\b≠X.env.locals/\(∀x c,X.env.cells.lookup x=some c->c≠b)/\∀p∈X.pn++pins,p.1≠b):
 Inv X pins σ H' {s with heap:=h',gens:=g',drawn:=d',toks:=t' }:=by
 obtain⟨m,⟨o,es,ep,ho,r⟩,_⟩:=id I.loc;obtain⟨sl,hL⟩:=u.any ho I.free λ z=>(cf _ z).2.1 rfl;exact I.step (ch:=ch) cf (λ b o hL hb hc e n=>u.keep b o e n (λ z=>(zB.mp (I.U2 b z)).elim hL hb) hc) (λ b o _ _ hc e n=>u.any e n hc) (λ b o hc e n=>u.free b o e n hc) (λ b o hc e=>u.there b o e hc) u.Q3 u.O7 u.Q4 (λ m' hm=>by
  obtain⟨o',mh,mi,bp,r'⟩:=hm;rw[ho] at bp;cases bp;exact⟨_,mh,mi,hL,r'⟩) Ar hg
def Inv.turned {t':Nat}{it:Addr}(I:Inv X pins σ H s)(k:∀b o,b≠it->s.heap.get? b=some o->h'.get? b=some o)(hn:H it=none)(hL:it≠X.env.locals)
 (h1:it∈X.ex\/X.s₀.heap.objs.size<=it) (h2:∀x c,X.env.cells.lookup x=some c->c≠it) (h3:∀p∈X.pn++pins,p.1≠it):Inv X pins σ H {s with heap:=h',toks:=t' }:=by
 have rc:∀b u,H b=some u->b≠it:=λ b u e z=>by rw[z,hn] at e;cases e
 refine I.step (g':=s.gens) (d':=s.drawn) (ch:=[it]) (λ b hb=>?_) (λ b o _ _ hc e _=>k b o (λ z=>hc (by simp[z])) e) (λ b o _ _ hc e _=>⟨o.slots,k b o (λ z=>hc (by simp[z])) e⟩) (λ _ _ _ _ n=>n)
  (λ b o hc e=>⟨o,k b o (λ z=>hc (by simp[z])) e⟩) (λ _ _ e=>e) (λ _ _ _ e=>e) (λ b ps e=>⟨#[],by rw[e];simp⟩) (λ m hm=>?_) (λ b u e=>?_) I.bare
 ·have e:b=it:=by simpa using hb
  subst e;exact⟨h1,hL,h2,h3⟩
 ·obtain⟨o,es,ep,ho,r⟩:=hm;exact⟨o,es,ep,k _ o (zac hL) ho,r⟩
 ·refine (I.Ar b u e).O6 (λ c v hc q=>k c v ?_ q) (λ _ q=>q) λ _ _ q=>q;rcases hc with z|z
  ·rw[z];exact rc b u e
  ·exact rc c _ z
def Inv.tok (I:Inv X pins σ H s)(t:Nat):Inv X pins σ H {s with toks:=t}:=I.un (h':=s.heap) (t':=t) Un.refl I.Ar
def Inv.kept {t':Nat}(I:Inv X pins σ H s)(k:∀b u,s.heap.get? b=some u->h'.get? b=some u):Inv X pins σ H {s with heap:=h',toks:=t' }:=I.un (Un.kept k) (I.Ar.kept k)
def Inv.laid {a:Addr}{o:HO}{t':Nat}(I:Inv X pins σ H s)(k:∀b u,s.heap.get? b=some u->h'.get? b=some u)(hp:s.heap.objs.size<=a)(new:BQ X.prog X.w (upd H a o) h' a o):
 Inv X pins σ (upd H a o) {s with heap:=h',toks:=t' }:=I.un (Un.laid k hp (I.Ar.fresh hp)) (I.Ar.laid k hp new)
def Inv.write {x e:Addr}{o:HO}{t':Nat}(I:Inv X pins σ H s)(mu:rC (H x))(he:e=x\/H e=some (.own x))(k:∀b u,b≠e->s.heap.get? b=some u->h'.get? b=some u)(dr:∃u,h'.get? e=some u)
 (new:BQ X.prog X.w (upd H x o) h' x o):Inv X pins σ (upd H x o) {s with heap:=h',toks:=t' }:=I.un (Un.write mu he k dr) (I.Ar.write mu he k dr new)
def Inv.weak {σ':List (Option V)}(I:Inv X pins σ H s)(hl:σ'.length=σ.length)(w:∀(i:Nat) v,σ'[i]?=some (some v)->σ[i]?=some (some v)):Inv X pins σ' H s:=
 ⟨I.ok,I.os,I.bare,I.base,let ⟨m,hn,cp⟩:=I.loc;⟨m,hn,λ i x v e1 e2 e3=>cp i x v e1 (w i v e2) e3⟩,I.cell,I.free,I.Gr,I.pin,I.Ar,hl.trans I.len⟩
def Inv.Jg {du:List (Addr×Obj)}(I:Inv X pins σ H s)(h:∀p∈du,s.heap.get? p.1=some p.2/\H p.1=none/\p.1≠X.env.locals/\p.1∉X.fs/\∀v,p.2.data≠.cell v):Inv X du σ H s:=
 ⟨I.ok,I.os,I.bare,I.base,I.loc,I.cell,I.free,I.Gr,λ p hp=>(zJ.mp hp).elim (λ z=>I.pin p (za2 _ z)) (h p),I.Ar,I.len⟩
def RG {N:List Str}(hN:N.Nodup){i j:Nat}{x:Str}(a:N[i]?=some x)(b:N[j]?=some x):i=j:=by
 obtain⟨h1,e1⟩:=zG.mp a;obtain⟨h2,e2⟩:=zG.mp b;exact (List.getElem_inj hN).mp (e1.trans e2.symm)
def OE {M:Model}{A:Around}{E:Value->Shared->Prop}{i:Nat}{x:Str}{v:V}{u:Value}{Q:Unit->Shared->Prop}(I:Inv X pins σ H s)(hN:X.N.Nodup)(hi:X.N[i]?=some x)(hx:Loc X.env.scope x)(r:RelV v u)
 (h:∀s',Inv X pins (σ.set i (some v)) H s'->(∃a,zc4 a s.heap s'.heap/\(a=X.env.locals\/X.env.cells.lookup x=some a))->Q () s') (hf:X.fn x=true\/X.env.scope.names.lookup x=some .local:=by first|exact .inl rfl|exact .inr rfl|assumption):wpAny M A (storeName X.env x u) Q E s:=by
 obtain⟨m,hn,hl⟩:=id I.loc;have ml:(X.env.scope.kind==.class||(X.env.scope.kind==.module&&X.env.locals != X.env.globals))=false:=by rw[I.ok.kind];rfl
 have hiσ:i<σ.length:=by rw[I.len];exact (zG.mp hi).1
 have mF:=I.mF;have tracked:∀ {a:Addr} {h':Heap},(∃o,s.heap.get? a=some o/\H a=none)->zc4 a s.heap h'->Gi X.prog X.w H h':=fun {a h'} ha hs b ob e=>by
  obtain⟨_,_,dw⟩:=ha;refine (I.Ar b ob e).O6 (λ c w' hc q=>(hs.2 c ?_).trans q) (λ _ q=>q) λ _ _ q=>q;rintro rfl;rcases hc with rfl|hc
  ·rw[dw] at e;cases e
  ·rw[dw] at hc;cases hc
 rcases hx with hk|hk
 ·refine wpAny_storeName_local hk hn (λ h' br hs=>?_) ml;obtain⟨oL,_,_,ul,_⟩:=id hn;refine h _ ⟨I.ok,I.os,I.bare,⟨λ b o e n hb hx=>?_,λ b o e n hb hx=>?_,I.base.free,λ b o e hx=>?_,I.base.Q3,I.base.O7,I.base.Q4⟩,⟨_,br,λ j y v' e1 e2 e3=>?_⟩,λ y c e=>?_,I.free,I.Gr,λ p hp=>?_,tracked ⟨oL,ul,I.free⟩ hs,by simpa using I.len⟩ ⟨_,hs,.inl rfl⟩
  ·exact (hs.2 b (zM (zL (zD e) I.ok.above))).trans (I.base.keep b o e n hb hx)
  ·obtain⟨sl,e1⟩:=I.base.slot b o e n hb hx;exact⟨sl,(hs.2 b (zM (zL (zD e) I.ok.above))).trans e1⟩
  ·obtain⟨o',e1⟩:=I.base.there b o e hx;exact⟨o',(hs.2 b (zM (zL (zD e) I.ok.above))).trans e1⟩
  ·by_cases hj:j=i
   ·subst hj;rw[hi] at e1;cases e1;rw[za3 hiσ] at e2;cases e2;exact⟨u,r,.inl ⟨hk,by simp⟩⟩
   ·rw[zas (zac hj)] at e2;obtain⟨u',r',q⟩:=hl j y v' e1 e2 e3;refine⟨u',r',?_⟩;rcases q with ⟨k,e⟩|⟨k,c,e,z⟩
    ·refine .inl ⟨k,?_⟩;have:y≠x:=λ e=>hj (RG hN e1 (e▸hi));simp[this,e]
    ·exact .inr ⟨k,c,e,z.sameBut hs (mF y c e)⟩
  ·obtain⟨w',z⟩:=I.cell y c e;exact⟨w',z.sameBut hs (mF y c e)⟩
  ·obtain⟨e,n,ne,nf,d⟩:=I.pin p hp;exact⟨(hs.2 p.1 ne).trans e,n,ne,nf,d⟩
 ·have iz:X.fn x=true:=by
   rcases hf with z|z
   ·exact z
   ·rw[z] at hk;cases hk
  obtain⟨c,hc⟩:=I.ok.has x (.inl hk);obtain⟨w',z⟩:=I.cell x c hc;refine wpAny_storeName_cell I.ok.kind hk hc z (λ h' be hs=>?_);obtain⟨oc,re,mn⟩:=id z;refine h {s with heap:=h' } ⟨I.ok,I.os,I.bare,⟨λ b o e n hb hx=>?_,λ b o e n hb hx=>?_,I.base.free,λ b o e hx=>?_,I.base.Q3,I.base.O7,I.base.Q4⟩,⟨m,hn.sameBut hs (zac (mF x c hc)),λ j y v' e1 e2 e3=>?_⟩,λ y c' e=>?_,I.free,I.Gr,λ p hp=>?_,tracked ⟨oc,re,I.Gr x c hc⟩ hs,by simpa using I.len⟩ ⟨c,hs,.inr hc⟩
  ·exact (hs.2 b (zM (zL (zD e) (I.ok.rD x c iz hc)))).trans (I.base.keep b o e n hb hx)
  ·obtain⟨sl,e1⟩:=I.base.slot b o e n hb hx;exact⟨sl,(hs.2 b (zM (zL (zD e) (I.ok.rD x c iz hc)))).trans e1⟩
  ·obtain⟨o',e1⟩:=I.base.there b o e hx;exact⟨o',(hs.2 b (zM (zL (zD e) (I.ok.rD x c iz hc)))).trans e1⟩
  ·by_cases hj:j=i
   ·subst hj;rw[hi] at e1;cases e1;rw[za3 hiσ] at e2;cases e2;exact⟨u,r,.inr ⟨.inl hk,c,hc,be⟩⟩
   ·rw[zas (zac hj)] at e2;obtain⟨u',r',q⟩:=hl j y v' e1 e2 e3;refine⟨u',r',?_⟩;rcases q with q|⟨k,c',e,z'⟩
    ·exact .inl q
    ·refine .inr ⟨k,c',e,z'.sameBut hs ?_⟩;rintro rfl;exact hj (RG hN e1 (I.ok.inj _ _ _ e hc▸hi))
  ·by_cases li:c'=c
   ·subst li;exact⟨_,be⟩
   ·obtain⟨w2,z2⟩:=I.cell y c' e;exact⟨w2,z2.sameBut hs li⟩
  ·obtain⟨e,n,ne,nf,d⟩:=I.pin p hp;refine⟨(hs.2 p.1 ?_).trans e,n,ne,nf,d⟩;intro q;rw[q,re] at e;have q':oc=p.2:=zT e;exact d w' (by rw[<-q'];exact mn)
def RH {M:Model}{A:Around}{E:Value->Shared->Prop}{i:Nat}{x:Str}{v:V}{u:Value}{Q:Unit->Shared->Prop}(I:Inv X pins σ H s)(hN:X.N.Nodup)(hi:X.N[i]?=some x)(hx:Loc X.env.scope x)(r:RelV v u)
 (h:∀s',Inv X pins (σ.set i (some v)) H s'->Q () s') (hf:X.fn x=true\/X.env.scope.names.lookup x=some .local:=by first|exact .inl rfl|exact .inr rfl|assumption):wpAny M A (storeName X.env x u) Q E s:=
 OE I hN hi hx r (λ s' I' _=>h s' I') hf
def Inv.rE {s':Shared}{ch:List Addr}(I:Inv X pins σ H s)(ho:s'.os=s.os)(u:Un (Y8 X.stack) ch H H' s.heap s'.heap)(Ar:Gi X.prog X.w H' s'.heap)(hg:AllBare s'.gens)
 (cf:∀b∈ch,(b∈X.ex\/X.s₀.heap.objs.size<=b)/\b≠X.env.locals/\(∀x c,X.env.cells.lookup x=some c->c≠b)/\∀p∈X.pn++pins,p.1≠b):Inv X pins σ H' s':=by
 obtain⟨h',g',d',t',o'⟩:=s';have e:o'=s.os:=ho;subst e;exact I.call (g':=g') (t':=t') (d':=d') u Ar hg cf
end
noncomputable abbrev XK:=Value->Option Addr->Hp->Prop
noncomputable abbrev St:=List (Option V)
noncomputable abbrev VK:=V->Hp->Prop
noncomputable abbrev TE:=St->Hp->VK->Prop
noncomputable abbrev TT:=St->Hp->(Bool->Hp->Prop)->Prop
noncomputable abbrev TA:=St->Hp->(List V->Hp->Prop)->Prop
structure Ends where
 nx:St->Hp->Prop
 rt:VK
 bk:St->Hp->Prop:=λ _ _=>False
 ct:St->Hp->Prop:=λ _ _=>False
noncomputable abbrev TS:=Ends->St->Hp->Prop
abbrev EP (X:Cx)(pins:List (Addr×Obj))(σ:St)(Q:VK)(u:Value)(s':Shared):Prop:=∃v H',Inv X pins σ H' s'/\RelV v u/\Q v H'
abbrev TP (X:Cx)(pins:List (Addr×Obj))(σ:St)(Q:Bool->Hp->Prop)(b:Bool)(s':Shared):Prop:=∃H',Inv X pins σ H' s'/\Q b H'
abbrev AP (X:Cx)(pins:List (Addr×Obj))(σ:St)(Q:List V->Hp->Prop)(us:List Value)(s':Shared):Prop:=∃vs H',Inv X pins σ H' s'/\Vals vs us/\Q vs H'
abbrev SP (X:Cx)(pins:List (Addr×Obj))(D:Ends)(f:Flow)(s':Shared):Prop:=
 match f with
 | .next=>∃σ' H',Inv X pins σ' H' s'/\D.nx σ' H'
 | .brk=>∃σ' H',Inv X pins σ' H' s'/\D.bk σ' H'
 | .cont=>∃σ' H',Inv X pins σ' H' s'/\D.ct σ' H'
 | .ret u=>∃v σ' H',Inv X pins σ' H' s'/\RelV v u/\D.rt v H'
abbrev PE (X:Cx)(e:Expr)(t:TE):Prop:=
 ∀(pins:List (Addr×Obj)) (s:Shared) (σ:St) (H:Hp) (Q:VK),Inv X pins σ H s->t σ H Q->wpAny (model X.prog X.w) X.A (eval e X.env) (EP X pins σ Q) X.xe s
abbrev PT (X:Cx)(e:Expr)(t:TT):Prop:=
 ∀(pins:List (Addr×Obj)) (s:Shared) (σ:St) (H:Hp) (Q:Bool->Hp->Prop),Inv X pins σ H s->t σ H Q->wpAny (model X.prog X.w) X.A (isTrue e X.env (eval e X.env)) (TP X pins σ Q) X.xe s
abbrev PW (X:Cx)(e:Expr)(t:TT):Prop:=
 ∀(whole:Sem Value) (pins:List (Addr×Obj)) (s:Shared) (σ:St) (H:Hp) (Q:Bool->Hp->Prop),Inv X pins σ H s->t σ H Q->wpAny (model X.prog X.w) X.A (isTrue e X.env whole) (TP X pins σ Q) X.xe s
def PW.pt {X:Cx}{e:Expr}{t:TT}(h:PW X e t):PT X e t:=h _
abbrev PA (X:Cx)(es:List Expr)(t:TA):Prop:=
 ∀(pos:Pos) (pins:List (Addr×Obj)) (s:Shared) (σ:St) (H:Hp) (Q:List V->Hp->Prop),Inv X pins σ H s->t σ H Q->wpAny (model X.prog X.w) X.A (spliced (backTo pos (starEach es X.env))) (AP X pins σ Q) X.xe s
abbrev PS (X:Cx)(st:Stmt)(t:TS):Prop:=
 ∀(pins:List (Addr×Obj)) (s:Shared) (σ:St) (H:Hp) (D:Ends),Inv X pins σ H s->t D σ H->wpAny (model X.prog X.w) X.A (exec st X.env) (SP X pins D) X.xe s
abbrev Vj (X:Cx)(st:List Stmt)(t:TS):Prop:=
 ∀(pins:List (Addr×Obj)) (s:Shared) (σ:St) (H:Hp) (D:Ends),Inv X pins σ H s->t D σ H->wpAny (model X.prog X.w) X.A (execs st X.env) (SP X pins D) X.xe s
def Bk {α:Type}{t:Sem α}{Q Q':α->Shared->Prop}{M:Model}{A:Around}{E:Value->Shared->Prop}{s:Shared}(h:wpAny M A t Q E s)(hQ:∀a s,Q a s->Q' a s):wpAny M A t Q' E s:=wpAny_mono h hQ λ _ _ x=>x
section
variable {X:Cx}
def bin {a b:Expr}{ta tb:TE}(ha:PE X a ta)(hb:PE X b tb){pins:List (Addr×Obj)}{s:Shared}{σ:St}{H:Hp}{R:V->V->Hp->Prop}(I:Inv X pins σ H s)(h:ta σ H λ x H1=>tb σ H1 λ y H2=>R x y H2)
 {α:Type} {Q:α->Shared->Prop} {f:Value->Value->Sem α}
 (hf:∀v u s2 x y H2,Inv X pins σ H2 s2->RelV x v->RelV y u->R x y H2->wpAny (model X.prog X.w) X.A (f v u) Q X.xe s2):
 wpAny (model X.prog X.w) X.A (eval a X.env) (λ v s₁=>wpAny (model X.prog X.w) X.A (eval b X.env) (λ u s₂=>wpAny (model X.prog X.w) X.A (f v u) Q X.xe s₂) X.xe s₁) X.xe s:=by
 refine Bk (ha pins s σ H _ I h) λ v s1 zz=>?_;obtain⟨x,H1,I1,r1,q1⟩:=zz;refine Bk (hb pins s1 σ H1 _ I1 q1) λ u s2 zz=>?_;obtain⟨y,H2,I2,r2,q2⟩:=zz;exact hf v u s2 x y H2 I2 r1 r2 q2
abbrev LR (i:Nat):TE:=λ σ H Q=>∃v,σ[i]?=some (some v)/\Q v H
abbrev tC (v:V):TE:=λ _ H Q=>Q v H
def mG {i:Nat}{x:Str}{pos:Pos}(hN:X.N[i]?=some x)(hv:vQ X.env.scope x)(hd:(x==("__debug__" : Str))=false:=by decide)(bc:(x==("__classdict__" : Str))=false:=by decide):PE X (.Name x pos) (LR i):=by
 intro pins s σ H Q I h;obtain⟨v,e,h⟩:=h;obtain⟨m,hn,hl⟩:=I.loc;obtain⟨u,r,l⟩:=hl i x v hN e hv;have fin:EP X pins σ Q u s:=⟨v,H,I,r,h⟩;rcases l with ⟨hk,hm⟩|⟨hk,c,hc,dz⟩
 ·exact wpAny_Name (wpAny_loadName_local I.ok.kind hk hn hm fin) hd
 ·rcases hk with hk|hk
  ·exact wpAny_Name (wpAny_loadName_cell I.ok.kind hk hc dz fin) hd
  ·exact wpAny_Name (wpAny_loadName_free I.ok.kind hk hc dz fin bc) hd
def mH {i j pos}:PE X (.Constant (.int i) j pos) (tC (.int i)):=λ _ _ _ H _ I h=>wpAny_Constant_int ⟨.int i,H,I.tok _,⟨_,rfl⟩,h⟩
def rF {b j pos}:PE X (.Constant (.bool b) j pos) (tC (.bl b)):=λ _ _ _ H _ I h=>Constant_bool ⟨.bl b,H,I,rfl,h⟩
def mI {j pos}:PE X (.Constant .none j pos) (tC .AL):=λ _ _ _ H _ I h=>Constant_none ⟨.AL,H,I,rfl,h⟩
abbrev Gl (X:Cx)(x:Str):Prop:=X.env.kindOf x=some .globalImplicit
def Q6 {E:Value->Shared->Prop}{pins:List (Addr×Obj)}{s:Shared}{σ:St}{H:Hp}{x:Str}{u:Value}{pos:Pos}{Q:Value->Shared->Prop}(I:Inv X pins σ H s)(hg:Gl X x)(hm:X.mg x=some u)(h:Q u s)
 (hd:(x==("__debug__" : Str))=false:=by decide):wpAny (model X.prog X.w) X.A (eval (.Name x pos) X.env) Q E s:=
 Calls.Name_function_global I.ok.kind hg (Calls.loadGlobal_global (by rw[I.ok.glob];exact I.mod.glob.keeps I.bk) hm h) hd
def Dz {E:Value->Shared->Prop}{pins:List (Addr×Obj)}{s:Shared}{σ:St}{H:Hp}{x:Str}{u:Value}{pos:Pos}{Q:Value->Shared->Prop}(I:Inv X pins σ H s)(hg:Gl X x)(hm:X.mg x=none)(hv:bootBuiltins x=some u)(h:Q u s)
 (hn:x ≠ "__name__" := by decide) (hd:(x==("__debug__" : Str))=false:=by decide):wpAny (model X.prog X.w) X.A (eval (.Name x pos) X.env) Q E s:=by
 obtain⟨mb,h1,h2⟩:=I.mod.blt;exact Calls.Name_function_global I.ok.kind hg (Calls.loadGlobal_builtin (by rw[I.ok.glob];exact I.mod.glob.keeps I.bk) hm (by rw[I.ok.blt];exact h1.keeps I.bk) ((h2 x hn).trans hv) h) hd
def eL {x:Str}{v:V}{u:Value}{pos:Pos}(hg:Gl X x)(hm:X.mg x=some u)(r:RelV v u)(hd:(x==("__debug__" : Str))=false:=by decide):PE X (.Name x pos) (tC v):=
 λ _ _ _ H _ I h=>Q6 I hg hm ⟨v,H,I,r,h⟩ hd
def eM {x:Str}{v:V}{u:Value}{pos:Pos}(hg:Gl X x)(hm:X.mg x=none)(hv:bootBuiltins x=some u)(r:RelV v u)(hn:x ≠ "__name__" := by decide)(hd:(x==("__debug__" : Str))=false:=by decide):PE X (.Name x pos) (tC v):=
 λ _ _ _ H _ I h=>Dz I hg hm hv ⟨v,H,I,r,h⟩ hn hd
variable {a b:Expr}{ta tb:TE}{pos:Pos}
abbrev PC (X:Cx)(op:CmpOp)(a b:Expr)(t:TE):Prop:=
 ∀(pins:List (Addr×Obj)) (s:Shared) (σ:St) (H:Hp) (Q:VK),Inv X pins σ H s->t σ H Q->
  wpAny (model X.prog X.w) X.A (eval a X.env) (λ v s₁=>wpAny (model X.prog X.w) X.A (eval b X.env) (λ u s₂=>wpAny (model X.prog X.w) X.A (compareOp op v u) (EP X pins σ Q) X.xe s₂) X.xe s₁) X.xe s
def RI (b:Expr){op:CmpOp}(h:op≠.In)(h2:op≠.NotIn):behindInMarks op b=false:=by
 have e1:(op==CmpOp.In)=false:=by cases op<;>first|rfl|exact absurd rfl h
 have e2:(op==CmpOp.NotIn)=false:=by cases op<;>first|rfl|exact absurd rfl h2
 cases b<;>simp[behindInMarks,e1,e2]
abbrev vT (ta:TE):TE:=λ σ H Q=>ta σ H λ x H1=>Q (.bl (decide (x=.AL))) H1
abbrev rG (ta:TE):TE:=λ σ H Q=>ta σ H λ x H1=>Q (.bl (!decide (x=.AL))) H1
def RelV.RJ {x:V}{v:Value}(r:RelV x v):(v==Value.none)=decide (x=.AL):=by
 cases x with
 |AL|bl _=>cases r;rfl
 |int _|str _|mB _|rA _=>obtain⟨t,rfl⟩:=r;rfl
 |ref _|ty _=>cases r;rfl
def Yl {j pos'}(ha:PE X a ta):PC X .Is a (.Constant .none j pos') (vT ta):=by
 intro pins s σ H Q I h;refine Bk (ha pins s σ H _ I h) λ v s1 zz=>?_;obtain⟨x,H1,I1,r1,q1⟩:=zz;exact Constant_none (is_none_gen ⟨.bl _,H1,I1,by rw[r1.RJ];rfl,q1⟩)
def eN {j pos'}(ha:PE X a ta):PC X .IsNot a (.Constant .none j pos') (rG ta):=by
 intro pins s σ H Q I h;refine Bk (ha pins s σ H _ I h) λ v s1 zz=>?_;obtain⟨x,H1,I1,r1,q1⟩:=zz;exact Constant_none (isnot_none_gen ⟨.bl _,H1,I1,by rw[r1.RJ];rfl,q1⟩)
abbrev tB (t:TE):TT:=λ σ H Q=>t σ H λ x H1=>∃c,x=.bl c/\Q c H1
def mJ {op:CmpOp}{t:TE}(h:PC X op a b t)(h1:behindInMarks op b=false:=by first | exact RI _ (by decide) (by decide) | rfl):PE X (.Compare a [op] [b] pos) t:=λ pins s σ H Q I hw=>wpAny_Compare1 (h pins s σ H Q I hw) h1
def Ym {op:CmpOp}{t:TE}(h:PC X op a b t)(h1:behindInMarks op b=false:=by first | exact RI _ (by decide) (by decide) | rfl):PT X (.Compare a [op] [b] pos) (tB t):=by
 intro pins s σ H Q I hw;refine wpAny_isTrue_Compare1 (Bk (h pins s σ H _ I hw) λ v s1 h1=>Bk h1 λ u s2 h2=>Bk h2 λ c s3 zz=>?_) h1;obtain⟨x,H1,I1,r1,q1⟩:=zz;obtain⟨d,rfl,q⟩:=q1;cases r1;exact wpAny_truthy_bool ⟨H1,I1,q⟩
variable {tA lj:TT}{rest:List Expr}
abbrev vU (t u:TT):TT:=λ σ H Q=>t σ H λ c H1=>if c=true then u σ H1 Q else Q false H1
abbrev yL (t u:TT):TT:=λ σ H Q=>t σ H λ c H1=>if c=true then Q true H1 else u σ H1 Q
abbrev vV (t:TT):TT:=λ σ H Q=>t σ H λ c H1=>Q (!c) H1
def pw_and1 (ha:PT X a tA):PW X (.BoolOp .And [a] pos) tA:=by
 intro wh pins s σ H Q I h;refine isTrue_and (Bk (ha pins s σ H Q I h) λ c s1 e=>?_);cases c with
 |true=>exact isTrue_and_nil e
 |false=>exact e
def pw_or1 (ha:PT X a tA):PW X (.BoolOp .Or [a] pos) tA:=by
 intro wh pins s σ H Q I h;refine isTrue_or (Bk (ha pins s σ H Q I h) λ c s1 e=>?_);cases c with
 |false=>exact isTrue_or_nil e
 |true=>exact e
def pw_and (ha:PT X a tA)(hb:PW X (.BoolOp .And (b::rest) pos) lj):PW X (.BoolOp .And (a::b::rest) pos) (vU tA lj):=by
 intro wh pins s σ H Q I h;refine isTrue_and (Bk (ha pins s σ H _ I h) λ c s1 zz=>?_);obtain⟨H1,I1,q1⟩:=zz;cases c with
 |true=>exact hb wh pins s1 σ H1 Q I1 q1
 |false=>exact⟨H1,I1,q1⟩
def pw_or (ha:PT X a tA)(hb:PW X (.BoolOp .Or (b::rest) pos) lj):PW X (.BoolOp .Or (a::b::rest) pos) (yL tA lj):=by
 intro wh pins s σ H Q I h;refine isTrue_or (Bk (ha pins s σ H _ I h) λ c s1 zz=>?_);obtain⟨H1,I1,q1⟩:=zz;cases c with
 |true=>exact⟨H1,I1,q1⟩
 |false=>exact hb wh pins s1 σ H1 Q I1 q1
def mK (ha:PT X a tA):PT X (.UnaryOp .Not a pos) (vV tA):=by
 intro pins s σ H Q I h;exact isTrue_not (ha pins s σ H (λ c H1=>Q (!c) H1) I h)
abbrev rH (ta tb:TE):TE:=λ σ H Q=>ta σ H λ x H1=>∃c,x=.bl c/\if c=true then tb σ H1 Q else Q (.bl false) H1
abbrev vW (ta tb:TE):TE:=λ σ H Q=>ta σ H λ x H1=>∃c,x=.bl c/\if c=true then Q (.bl true) H1 else tb σ H1 Q
abbrev rJ (ta:TE):TE:=λ σ H Q=>ta σ H λ x H1=>∃c,x=.bl c/\Q (.bl (!c)) H1
def mL {op}{t:TE}(h:PE X a t):PE X (.BoolOp op [a] pos) t:=λ pins s σ H Q I hw=>BoolOp_one (h pins s σ H Q I hw)
def mM (ha:PE X a ta)(hb:PE X (.BoolOp .And (b::rest) pos) tb):PE X (.BoolOp .And (a::b::rest) pos) (rH ta tb):=by
 intro pins s σ H Q I h;refine BoolOp_and (Bk (ha pins s σ H _ I h) λ v s1 zz=>?_);obtain⟨x,H1,I1,r1,q1⟩:=zz;obtain⟨c,rfl,q1⟩:=q1;cases r1;refine wpAny_truthy_bool ?_;cases c with
 |true=>exact hb pins s1 σ H1 Q I1 q1
 |false=>exact⟨.bl false,H1,I1,rfl,q1⟩
def rK (ha:PE X a ta)(hb:PE X (.BoolOp .Or (b::rest) pos) tb):PE X (.BoolOp .Or (a::b::rest) pos) (vW ta tb):=by
 intro pins s σ H Q I h;refine BoolOp_or (Bk (ha pins s σ H _ I h) λ v s1 zz=>?_);obtain⟨x,H1,I1,r1,q1⟩:=zz;obtain⟨c,rfl,q1⟩:=q1;cases r1;refine wpAny_truthy_bool ?_;cases c with
 |false=>exact hb pins s1 σ H1 Q I1 q1
 |true=>exact⟨.bl true,H1,I1,rfl,q1⟩
def mN (ha:PE X a ta):PE X (.UnaryOp .Not a pos) (rJ ta):=by
 intro pins s σ H Q I h;refine UnaryOp_ (Bk (ha pins s σ H _ I h) λ v s1 zz=>?_);obtain⟨x,H1,I1,r1,q1⟩:=zz;obtain⟨c,rfl,q1⟩:=q1;cases r1;exact not_of (wpAny_truthy_bool ⟨.bl (!c),H1,I1,rfl,q1⟩)
end
abbrev D7 (K:zr)(H:Hp)(a:Addr)(xs:List V):Prop:=
 Rd H a (.lst xs) \/
  ∃(o:Obj) (aa:Array Value) (n:Nat),K.lookup a=some o/\o.cls=.type "list" /\ o.dict=none/\o.data=.seq aa n/\aa.size<=sizeLine/\Vals xs aa.toList
abbrev EC (K:zr)(H:Hp)(a:Addr)(xs:List V):Prop:=
 Rd H a (.tup xs) \/
  ∃(o:Obj) (aa:Array Value) (n:Nat),K.lookup a=some o/\o.cls=.type "tuple" /\ o.data=.seq aa n/\aa.size<=sizeLine/\Vals xs aa.toList
abbrev vX:Value->Option V
 | .none=>some .AL
 | .bool b=>some (.bl b)
 | .int i _=>some (.int i)
 | .str x _=>some (.str x)
 | .bytes b _=>some (.mB b)
 | .float b _=>some (.rA b)
 | .ref a=>some (.ref a)
 | .type n=>some (.ty n)
 |_=>none
def RelV.abs {x:V}{u:Value}(r:RelV x u):vX u=some x:=by
 cases x with
 |AL|bl _=>cases r;rfl
 |int _|str _|mB _|rA _=>obtain⟨t,rfl⟩:=r;rfl
 |ref _|ty _=>cases r;rfl
def RelV.inj {x y:V}{u:Value}(r:RelV x u)(q:RelV y u):x=y:=zT (r.abs.symm.trans q.abs)
def Vals.inj:∀ {xs ys:List V}{us:List Value},Vals xs us->Vals ys us->xs=ys
 |_,_,_,.nil,.nil=>rfl
 |_,_,_,.cons r t,.cons r' t'=>by rw[r.inj r',Vals.inj t t']
section
variable {X:Cx}{pins:List (Addr×Obj)}{σ:St}{H:Hp}{s:Shared}{a:Addr}{xs ys:List V}
def D7.of {K:zr}(h:H a=some (.lst xs)):D7 K H a xs:=.inl (.inl h)
def EC.of {K:zr}(h:H a=some (.tup xs)):EC K H a xs:=.inl (.inl h)
def Inv.list (I:Inv X pins σ H s)(h:D7 X.K H a xs):∃aa:List Value,Vals xs aa/\PlainL s.heap a aa.toArray/\xs.length<=sizeLine:=by
 rcases h with h|⟨o,aa,n,hk,hc,hd,hs,hz,r⟩
 ·obtain⟨z,aa,n,r,e⟩:=h.ok I.Ar;exact⟨aa,r,⟨_,n,e,rfl,rfl,rfl⟩,z⟩
 ·refine⟨aa.toList,r,⟨o,n,I.Mz a o hk,hc,hd,by simpa using hs⟩,?_⟩;have e:=r.length;simp only[Array.length_toList] at e;omega
def Inv.tuple (I:Inv X pins σ H s)(h:EC X.K H a xs):∃aa:List Value,Vals xs aa/\IsTup s.heap a aa.toArray/\xs.length<=sizeLine:=by
 rcases h with h|⟨o,aa,n,hk,hc,hs,hz,r⟩
 ·obtain⟨z,aa,r,p⟩:=h.ok I.Ar;exact⟨aa,r,p,z⟩
 ·refine⟨aa.toList,r,⟨o,I.Mz a o hk,hc,n,by simpa using hs⟩,?_⟩;have e:=r.length;simp only[Array.length_toList] at e;omega
def Inv.Gs (I:Inv X pins σ H s)(h:D7 X.K H a xs)(h':D7 X.K H a ys):xs=ys:=by
 obtain⟨aa,r,⟨o,n,e,_,_,d⟩,_⟩:=I.list h;obtain⟨its',r',⟨o',n',e',_,_,d'⟩,_⟩:=I.list h';rw[e] at e';cases e';rw[d] at d';injection d' with d1 _
 have:aa=its':=by simpa using congrArg Array.toList d1
 subst this;exact r.inj r'
def Inv.F4 (I:Inv X pins σ H s)(h:EC X.K H a xs)(h':EC X.K H a ys):xs=ys:=by
 obtain⟨aa,r,⟨o,e,_,n,d⟩,_⟩:=I.tuple h;obtain⟨its',r',⟨o',e',_,n',d'⟩,_⟩:=I.tuple h';rw[e] at e';cases e';rw[d] at d';injection d' with d1 _
 have:aa=its':=by simpa using congrArg Array.toList d1
 subst this;exact r.inj r'
end
noncomputable abbrev Cx.O8 (X:Cx)(E:Value->Shared->Prop):Cx:={X with xe:=E}
noncomputable abbrev Cx.rL (X:Cx):Cx:=X.O8 λ _ _=>False
def Cx.Ok.O8 {X:Cx}(ok:X.Ok)(E:Value->Shared->Prop):(X.O8 E).Ok:=
 ⟨ok.mod,ok.kind,ok.glob,ok.blt,ok.above,ok.inj,ok.has,ok.rD,ok.hd,ok.frames,ok.uQ,ok.uR,ok.bs,ok.eK,ok.Yj,ok.Yk,ok.Ky,ok.mE⟩
def Cx.Ok.Gu {X:Cx}{E:Value->Shared->Prop}(ok:(X.O8 E).Ok):X.Ok:=
 ⟨ok.mod,ok.kind,ok.glob,ok.blt,ok.above,ok.inj,ok.has,ok.rD,ok.hd,ok.frames,ok.uQ,ok.uR,ok.bs,ok.eK,ok.Yj,ok.Yk,ok.Ky,ok.mE⟩
section
variable {X:Cx}{pins:List (Addr×Obj)}{σ:St}{H:Hp}{s:Shared}{E:Value->Shared->Prop}
def Inv.O8 (I:Inv X pins σ H s)(E:Value->Shared->Prop):Inv (X.O8 E) pins σ H s:=⟨I.ok.O8 E,I.os,I.bare,I.base,I.loc,I.cell,I.free,I.Gr,I.pin,I.Ar,I.len⟩
def Inv.Gu (I:Inv (X.O8 E) pins σ H s):Inv X pins σ H s:=⟨I.ok.Gu,I.os,I.bare,I.base,I.loc,I.cell,I.free,I.Gr,I.pin,I.Ar,I.len⟩
def SP.Gu {D:Ends}{f:Flow}{s':Shared}(h:SP (X.O8 E) pins D f s'):SP X pins D f s':=by
 cases f with
 |next|brk|cont=>obtain⟨σ',H',I,q⟩:=h;exact⟨σ',H',I.Gu,q⟩
 |ret u=>obtain⟨v,σ',H',I,r,q⟩:=h;exact⟨v,σ',H',I.Gu,r,q⟩
def Vj.rL {st:List Stmt}{t:TS}(h:Vj X.rL st t):Vj X st t:=λ pins s σ H D I hw =>
 wpAny_mono (h pins s σ H D (I.O8 _) hw) (λ _ _ q=>q.Gu) λ _ _ z=>zbm z
end
section
variable {X:Cx}{st:Stmt}{rest:List Stmt}{t u:TS}{e:Expr}{te:TE}{pos:Pos}
abbrev rM:TS:=λ D σ H=>D.nx σ H
abbrev vY (t u:TS):TS:=λ D σ H=>t {D with nx:=u D} σ H
def eO:Vj X [] rM:=λ _ _ σ H _ I h=>wpAny_execs_nil ⟨σ,H,I,h⟩
def Yn (h1:PS X st t)(h2:Vj X rest u):Vj X (st::rest) (vY t u):=by
 intro pins s σ H D I h;refine wpAny_execs_cons (Bk (h1 pins s σ H {D with nx:=u D} I h) λ f s1 q=>?_);cases f with
 |next =>
  obtain⟨σ',H',I',q⟩:=q;exact h2 pins s1 σ' H' D I' q
 |ret v|brk|cont=>exact q
def eQ (h1:PS X st t):Vj X [st] t:=by
 intro pins s σ H D I h;refine wpAny_execs_cons (Bk (h1 pins s σ H D I h) λ f s1 q=>?_);cases f with
 |next=>exact wpAny_execs_nil q
 |ret v|brk|cont=>exact q
def Inv.quiet {pins:List (Addr×Obj)}{σ:St}{H:Hp}{s:Shared}(I:Inv X pins σ H s):interactive X.env=false:=by simp[interactive,I.ok.kind]
abbrev rN (te:TE):TS:=λ D σ H=>te σ H λ _ H1=>D.nx σ H1
def Fq (he:PE X e te)(hs: ~~~(swapsWith e none pos.line X.env=pure false)):PS X (.Expr e pos) (rN te):=by
 intro pins s σ H D I h;exact wpAny_Expr_any (Bk (he pins s σ H _ I h) λ v s1 ⟨x,H1,I1,r1,q1⟩=>⟨σ,H1,I1,q1⟩) I.quiet hs
abbrev vZ (te:TE):TS:=λ D σ H=>te σ H D.rt
def U3 (he:PE X e te):PS X (.Return (some e) pos) (vZ te):=by
 intro pins s σ H D I h;exact wpAny_Return_some (Bk (he pins s σ H _ I h) λ v s1 ⟨x,H1,I1,r1,q1⟩=>⟨x,σ,H1,I1,r1,q1⟩)
abbrev wA (c:TT)(t u:TS):TS:=λ D σ H=>c σ H λ b H1=>if b=true then t D σ H1 else u D σ H1
def rO {c:Expr}{a b:List Stmt}{tc:TT}(hc:PT X c tc)(ha:Vj X a t)(hb:Vj X b u):PS X (.If c a b pos) (wA tc t u):=by
 intro pins s σ H D I h;refine wpAny_If (Bk (hc pins s σ H _ I h) λ d s1 zz=>?_);obtain⟨H1,I1,q1⟩:=zz;cases d with
 |true=>exact ha pins s1 σ H1 D I1 q1
 |false=>exact hb pins s1 σ H1 D I1 q1
end
noncomputable abbrev TG:=V->St->Hp->(St->Hp->Prop)->Prop
noncomputable abbrev Y9:=List V->St->Hp->(St->Hp->Prop)->Prop
abbrev PG (X:Cx)(target:Expr)(t:TG):Prop:=
 ∀(pins:List (Addr×Obj)) (s:Shared) (σ:St) (H:Hp) (v:V) (u:Value) (Q:St->Hp->Prop),Inv X pins σ H s->RelV v u->t v σ H Q->
  wpAny (model X.prog X.w) X.A (assign target X.env u) (λ _ s'=>∃σ' H',Inv X pins σ' H' s'/\Q σ' H') X.xe s
abbrev qL (X:Cx)(ts:List Expr)(t:Y9):Prop:=
 ∀(pins:List (Addr×Obj)) (s:Shared) (σ:St) (H:Hp) (vs:List V) (us:List Value) (Q:St->Hp->Prop),Inv X pins σ H s->Vals vs us->t vs σ H Q->
  wpAny (model X.prog X.w) X.A (assignInOrder ((assignEach ts X.env).map (·.2)) us) (λ _ s'=>∃σ' H',Inv X pins σ' H' s'/\Q σ' H') X.xe s
noncomputable abbrev mO:=V->V->V->Hp->(Hp->Prop)->Prop
abbrev rQ (X:Cx)(t:mO):Prop:=
 ∀(pins:List (Addr×Obj)) (s:Shared) (σ:St) (H:Hp) (o i v:V) (ov iv u:Value) (Q:Hp->Prop),Inv X pins σ H s->RelV o ov->RelV i iv->RelV v u->t o i v H Q->
  wpAny (model X.prog X.w) X.A (setItem ov iv u) (λ _ s'=>∃H',Inv X pins σ H' s'/\Q H') X.xe s
section
variable {X:Cx}{pos:Pos}
abbrev OF (i:Nat):TG:=λ v σ H Q=>Q (σ.set i (some v)) H
def Q7 {i:Nat}{x:Str}(hN:X.N.Nodup)(hi:X.N[i]?=some x)(hx:Loc X.env.scope x)(hf:X.fn x=true\/X.env.scope.names.lookup x=some .local:=by first | exact .inl rfl | exact .inr rfl | assumption):PG X (.Name x pos) (OF i):=by
 intro pins s σ H v u Q I r h;exact wpAny_assign_Name (RH I hN hi hx r (λ s' I'=>⟨_,H,I',h⟩) hf)
abbrev mP:Y9:=λ vs σ H Q=>vs=[]/\Q σ H
abbrev Yo (t:TG)(u:Y9):Y9:=λ vs σ H Q=>∃v r,vs=v::r/\t v σ H λ σ' H'=>u r σ' H' Q
def Vk:qL X [] mP:=by
 intro pins s σ H vs us Q I r h;obtain⟨e,h⟩:=h;subst e;cases r;exact assignInOrder_nil ⟨σ,H,I,h⟩
def RK {e:Expr}{es:List Expr}{t:TG}{u:Y9}(h1:PG X e t)(h2:qL X es u)(hs: ~~~((assignEach (e::es) X.env).map (·.2)=assign e X.env::(assignEach es X.env).map (·.2))):qL X (e::es) (Yo t u):=by
 intro pins s σ H vs us Q I r h;obtain⟨v,vr,e1,h⟩:=h;subst e1;cases r with
 |cons r rr =>
  rw[hs];refine assignInOrder_cons (Bk (h1 pins s σ H _ _ _ I r h) λ _ s1 zz=>?_);obtain⟨σ1,H1,I1,q1⟩:=zz;exact h2 pins s1 σ1 H1 _ _ Q I1 rr q1
abbrev mQ (K:zr)(n:Nat)(t:Y9):TG:=λ v σ H Q=>∃a xs,v=.ref a/\EC K H a xs/\xs.length=n/\t xs σ H Q
def Yp {es:List Expr}{k:Nat}{t:Y9}{n:Nat}(hc:X.calm=true)(h:qL X es t)(hn: ~~~((assignEach es X.env).length=n))(aM: ~~~((assignEach es X.env).findIdx? (·.1)=none)):PG X (.Tuple es k pos) (mQ X.K n t):=by
 intro pins s σ H v u Q I r hw;obtain⟨a,xs,e1,hq,hl,hw⟩:=hw;subst e1;cases r;obtain⟨aa,rv,ht,hz⟩:=I.tuple hq;refine assign_Tuple_tuple (I.ok.hd hc) ht (by simp[hn,<-hl,rv.length]) aM λ h' hx=>?_;have I1:Inv X pins σ H {s with heap:=h' }:=I.kept (t':=s.toks) λ b o e=>hx b o (zM (zD e)) e;exact h pins _ σ H xs _ Q I1 (by simpa using rv) hw
abbrev wB (to ti:TE)(t:mO):TG:=λ v σ H Q=>to σ H λ o H1=>ti σ H1 λ i H2=>t o i v H2 λ H3=>Q σ H3
def Yq {o i:Expr}{to ti:TE}{t:mO}(ho:PE X o to)(hi:PE X i ti)(hs:rQ X t)
 (ha:∀v,assign (.Subscript o i pos) X.env v=(do
  let ov <-holding [v] (eval o X.env);let iv <-holding [v,ov] (eval i X.env)
  standAt pos
  holding [v,ov,iv] (setItem ov iv v)
  release [v,ov,iv] []):=by intro _;rfl):PG X (.Subscript o i pos) (wB to ti t):=by
 intro pins s σ H v u Q I r h;rw[ha];refine wpAny_bind (wpAny_holding (Bk (ho pins s σ H _ I h) λ ov s1 zz=>?_));obtain⟨x,H1,I1,r1,q1⟩:=zz;refine wpAny_bind (wpAny_holding (Bk (hi pins s1 σ H1 _ I1 q1) λ iv s2 zz=>?_));obtain⟨y,H2,I2,r2,q2⟩:=zz;refine wpAny_bind (wpAny_standAt (wpAny_bind (wpAny_holding (Bk (hs pins s2 σ H2 x y v ov iv u _ I2 r1 r2 r q2) λ _ s3 zz=>?_))));obtain⟨H3,I3,q3⟩:=zz;exact wpAny_release ⟨σ,H3,I3,q3⟩
abbrev rR (te:TE)(g:TG):TS:=λ D σ H=>te σ H λ x H1=>g x σ H1 D.nx
def Yr {tg e:Expr}{te:TE}{g:TG}(he:PE X e te)(hg:PG X tg g)(hs: ~~~(swapsWithSole [tg] e pos.line X.env=pure false))(hw: ~~~(swappedStores [tg] e X.env=pure none))(h1: ~~~((assignEach [tg] X.env).map (·.2)=[assign tg X.env])):PS X (.Assign [tg] e pos) (rR te g):=by
 intro pins s σ H D I h;refine wpAny_Assign_stores (Bk (he pins s σ H _ I h) λ v s1 zz=>?_) hs hw;obtain⟨x,H1,I1,r1,q1⟩:=zz;rw[h1];exact Bk (hg pins s1 σ H1 x v _ I1 r1 q1) λ _ s2 q=>q
def U4 {i:Nat}{x:Str}{e:Expr}{te:TE}{pos':Pos}(hN:X.N.Nodup)(hi:X.N[i]?=some x)(hx:Loc X.env.scope x)(he:PE X e te)(hs: ~~~(swapsWith e (some (.Name x pos')) pos.line X.env=pure false))(hf:X.fn x=true\/X.env.scope.names.lookup x=some .local:=by first | exact .inl rfl | exact .inr rfl | assumption):
 PS X (.Assign [.Name x pos'] e pos) (rR te (OF i)):=by
 intro pins s σ H D I h;refine wpAny_Assign_Name (Bk (he pins s σ H _ I h) λ v s1 zz=>?_) hs;obtain⟨y,H1,I1,r1,q1⟩:=zz;exact RH I1 hN hi hx r1 (λ s2 I2=>⟨_,H1,I2,q1⟩) hf
end
section
variable {X:Cx}{pos:Pos}
abbrev mR (c:TT)(tb:TS):TS:=λ D σ H=>∃W:Nat->St->Hp->Prop,(∃m,W m σ H)/\∀m σ H,W m σ H->
 c σ H λ b H1=>if b=true then ∃N:St->Hp->Prop,(∀σ' H',N σ' H'->∃m',m'<m/\W m' σ' H')/\tb {D with nx:=N,ct:=N,bk:=D.nx} σ H1 else D.nx σ H1
def Ys {c:Expr}{body:List Stmt}{tc:TT}{tb:TS}(hp:PassesOwn (model X.prog X.w) X.A X.env X.xe)(hc:PT X c tc)(hb:Vj X body tb):PS X (.While c body [] pos) (mR tc tb):=by
 intro pins s σ H D I h;obtain⟨W,⟨m0,w0⟩,turn⟩:=h;refine wpAny_While (codeAny_whileLoop (λ n s'=>∃σ' H',Inv X pins σ' H' s'/\W n σ' H') ?_ m0 ⟨σ,H,I,w0⟩);rintro n s1 ⟨σ1,H1,I1,w1⟩;refine wpAny_passesOwn hp (Bk (hc pins s1 σ1 H1 _ I1 (turn n σ1 H1 w1)) λ b s2 zz=>?_);obtain⟨H2,I2,q2⟩:=zz;cases b with
 |true =>
  obtain⟨N,hN,q2⟩:=q2;rw[if_pos rfl];refine wpAny_passesOwn hp (Bk (hb pins s2 σ1 H2 _ I2 q2) λ f s3 q3=>?_);cases f with
  |next =>
   obtain⟨σ3,H3,I3,n3⟩:=q3;obtain⟨m',hm,w3⟩:=hN σ3 H3 n3;exact⟨m',hm,σ3,H3,I3,w3⟩
  |cont =>
   obtain⟨σ3,H3,I3,n3⟩:=q3;obtain⟨m',hm,w3⟩:=hN σ3 H3 n3;exact⟨m',hm,σ3,H3,I3,w3⟩
  |brk|ret v=>exact q3
 |false =>
  rw[if_neg zO];exact wpAny_execs_nil ⟨σ1,H2,I2,q2⟩
end
structure It where
 go:Nat->Hp->Prop
 kP:Nat->Hp->V->Hp->Prop
 stop:Nat->Hp->Prop
abbrev LS (X:Cx)(pins:List (Addr×Obj))(H:Hp)(b:Addr):Prop:=
 H b=none/\b≠X.env.locals/\b∉X.fs/\(b∈X.ex\/X.s₀.heap.objs.size<=b)/\(∀x c,X.env.cells.lookup x=some c->c≠b)/\∀p∈X.pn++pins,p.1≠b
def Inv.Yt {X:Cx}{pins:List (Addr×Obj)}{σ:St}{H H':Hp}{s:Shared}{b:Addr}(I:Inv X pins σ H s)(hb:s.heap.objs.size<=b)(hn:H' b=none):LS X pins H' b:=by
 refine⟨hn,Nat.ne_of_gt (zL I.lt hb),I.vS hb,.inr (zal I.sz hb),λ x c e z=>?_,λ p hp z=>?_⟩
 ·obtain⟨v,q⟩:=I.cell x c e;exact absurd (zL q.lt (by rw[z];exact hb)) (Nat.lt_irrefl _)
 ·exact absurd (zL (zD (I.pin p hp).1) (by rw[z];exact hb)) (Nat.lt_irrefl _)
structure Turn (P:Program)(w:World)(K:zr)(tg:Expr)(J:It)(fp:List Addr)(it:Addr)(tn:Nat->Heap->Prop):Prop where
 mem:it∈fp
 obj:∀i h,tn i h->∀b∈fp,∃o,h.get? b=some o/\∀v,o.data≠.cell v
 keep:∀i h h',tn i h->(∀b∈fp,∀o,h.get? b=some o->h'.get? b=some o)->tn i h'
 item:∀(X:Cx),X.prog=P->X.w=w->X.K=K->X.calm=true->∀(i:Nat) (pins:List (Addr×Obj)) (s:Shared) (σ:St) (H:Hp) (E:Value->Shared->Prop),Inv X pins σ H s->(∀b∈fp,LS X pins H b)->tn i s.heap->J.go i H->
  wpAny (model P w) X.A (pyNext (.ref it)) (λ r s1=>∃u,r=some u/\
   wpAny (model P w) X.A (letOwnedTupleGo tg (.ref it) u) (λ _ s2=>∃x H',Inv X pins σ H' s2/\RelV x u/\J.kP i H x H'/\tn (i+1) s2.heap/\∀b∈fp,H' b=none) E s1) E s
 done:∀(X:Cx),X.prog=P->X.w=w->X.K=K->X.calm=true->∀(i:Nat) (pins:List (Addr×Obj)) (s:Shared) (σ:St) (H:Hp) (E:Value->Shared->Prop),Inv X pins σ H s->(∀b∈fp,LS X pins H b)->tn i s.heap->J.stop i H->
  wpAny (model P w) X.A (pyNext (.ref it)) (λ r s1=>r=none/\Inv X pins σ H s1) E s
 self:∀(A:Around) (i:Nat) (s:Shared) (Q:Value->Shared->Prop) (E:Value->Shared->Prop),tn i s.heap->Q (.ref it) s->wpAny (model P w) A (pyIter (.ref it)) Q E s
noncomputable abbrev TI:=St->Hp->(It->Hp->Prop)->Prop
abbrev xJ (X:Cx)(pins:List (Addr×Obj))(σ:St)(tg:Expr)(R:It->Hp->Prop)(lm:Value)(s2:Shared):Prop:=
 ∃(it:Addr) (fp:List Addr) (tn:Nat->Heap->Prop) (J:It) (H':Hp),lm=.ref it/\Inv X pins σ H' s2/\Turn X.prog X.w X.K tg J fp it tn/\tn 0 s2.heap/\(∀b∈fp,LS X pins H' b)/\R J H'
abbrev PI (X:Cx)(tg iter:Expr)(wi:TI):Prop:=
 ∀(pins:List (Addr×Obj)) (s:Shared) (σ:St) (H:Hp) (R:It->Hp->Prop),Inv X pins σ H s->wi σ H R->
  wpAny (model X.prog X.w) X.A (eval iter X.env) (λ v s1=>wpAny (model X.prog X.w) X.A (pyIter v) (xJ X pins σ tg R) X.xe s1) X.xe s
def Yu {M:Model}{A:Around}{E:Value->Shared->Prop}{s:Shared}{tg:Expr}{it:Addr}{u:Value}{o:Obj}{n:String}{vs:Array Value}{Q:Unit->Shared->Prop}(ho:s.heap.get? it=some o)(hc:o.cls=.type n)(hd:o.data=.fields vs)
 (hn:["enumerate","zip","dict_itemiterator","dict_reverseitemiterator","odict_iterator","itertools.zip_longest","itertools.pairwise"].contains n=false) (hQ:Q () s):wpAny M A (letOwnedTupleGo tg (.ref it) u) Q E s:=by
 unfold letOwnedTupleGo;cases tg<;>first
  |exact wpAny_pure hQ
  |(cases u<;>first
   |exact wpAny_pure hQ
   |(
    refine wpAny_bind (wpAny_load ho ?_);rw[hc,hd];show wpAny M A (if (["enumerate","zip","dict_itemiterator","dict_reverseitemiterator","odict_iterator","itertools.zip_longest","itertools.pairwise"].contains n&&vs[0]?== some (rawInt _))=true then _ else _) Q E s;rw[if_neg (by intro h;rw[hn,Bool.false_and] at h;cases h)];exact wpAny_pure hQ))
abbrev xK (K:zr)(a:Addr):It:=
 ⟨λ i H=>∃xs x,D7 K H a xs/\xs[i]?=some x,λ i H x H'=>H'=H/\∀xs,D7 K H a xs->xs[i]?=some x,λ i H=>∃xs,D7 K H a xs/\xs.length<=i⟩
abbrev uS (lo:Int)(n:Nat):It:=⟨λ i _=>i<n,λ i H x H'=>H'=H/\x=.int (lo+i),λ i _=>n<=i⟩
def WE {P:Program}{w:World}{K:zr}{tg:Expr}(a it:Addr):Turn P w K tg (xK K a) [it] it (λ i h=>h.IsListIter it a i) where
 mem:=by simp
 obj:=λ i h st b hb=>by
  have e:b=it:=by simpa using hb
  subst e;obtain⟨o,e,c,d⟩:=st;exact⟨o,e,λ v z=>by rw[d] at z;cases z⟩
 keep:=λ i h h' st k=>st.at λ o e=>k it (by simp) o e
 item:=by
  intro X hP hw hK hc i pins s σ H E I hf st hg;subst hP hw hK;obtain⟨xs,x,hq,hx⟩:=hg;obtain⟨aa,rv,p,hz⟩:=I.list hq;obtain⟨u,hu,ru⟩:=rv.get hx;obtain⟨f0,f1,f2,f3,f4,f5⟩:=hf it (by simp);refine wpAny_pyNext_list_item st p.isList (x:=u) (by simpa using hu) λ h' bM sb=>?_;have I1:Inv X pins σ H {s with heap:=h' }:=I.turned (t':=s.toks) (λ b o hb e=>(sb.2 b hb).trans e) f0 f1 f3 f4 f5;obtain⟨o,e,c,d⟩:=id bM;exact⟨u,rfl,Yu (s:={s with heap:=h' }) e c d (by decide) ⟨x,H,I1,ru,⟨rfl,λ ys hy=>by rw[I.Gs hy hq];exact hx⟩,bM,λ b hb=>(hf b hb).1⟩⟩
 done:=by
  intro X hP hw hK hc i pins s σ H E I hf st hg;subst hP hw hK;obtain⟨xs,hq,hx⟩:=hg;obtain⟨aa,rv,p,hz⟩:=I.list hq;obtain⟨f0,f1,f2,f3,f4,f5⟩:=hf it (by simp);have hl:=rv.length;exact wpAny_pyNext_list_end (I.ok.hd hc) st p.isList (by simp;omega) λ h' eb=>⟨rfl,I.turned (t':=s.toks) (λ b o hb e=>eb b o hb e) f0 f1 f3 f4 f5⟩
 self:=λ _ _ _ _ _ st h=>wpAny_pyIter_listiter st h
def U5 {P:Program}{w:World}{K:zr}{tg:Expr}(it:Addr)(lo:Int)(n:Nat):Turn P w K tg (uS lo n) [it] it (λ i h=>IsRangeIter h it (lo+(i:Nat)*1) ((n:Int)-(i:Nat)) 1) where
 mem:=by simp
 obj:=λ i h st b hb=>by
  have e:b=it:=by simpa using hb
  subst e;exact⟨_,st,λ v z=>by
   have z':Data.fields _=Data.cell v:=z;cases z'⟩
 keep:=λ i h h' st k=>k it (by simp) _ st
 item:=by
  intro X hP hw hK hc i pins s σ H E I hf st hg;subst hP hw hK;obtain⟨f0,f1,f2,f3,f4,f5⟩:=hf it (by simp);have W:=Walks.range (prog:=X.prog) (w:=X.w) (I.ok.hd hc) it lo 1 n;refine W.item i s _ _ hg st λ v h' tk hv bM kk=>?_;obtain⟨t,rfl⟩:=hv;have I1:Inv X pins σ H {s with heap:=h',toks:=tk}:=I.turned (λ b o hb e=>kk b o (by simpa using hb) e) f0 f1 f3 f4 f5;refine⟨_,rfl,Yu (s:={s with heap:=h',toks:=tk}) (n := "range_iterator") bM rfl rfl (by decide) ⟨.int (lo+i),H,I1,⟨t,?_⟩,⟨rfl,rfl⟩,bM,λ b hb=>(hf b hb).1⟩⟩;rw[Int.mul_one]
 done:=by
  intro X hP hw hK hc i pins s σ H E I hf st hg;subst hP hw hK;obtain⟨f0,f1,f2,f3,f4,f5⟩:=hf it (by simp);exact wpAny_pyNext_range_end (I.ok.hd hc) st (by have:n<=i:=hg;omega) λ h' eb=>⟨rfl,I.turned (t':=s.toks) (λ b o hb e=>eb b o hb e) f0 f1 f3 f4 f5⟩
 self:=λ _ _ _ _ _ st h=>wpAny_pyIter_rangeiter st h
section
variable {X:Cx}{tg:Expr}
abbrev rS (K:zr)(tl:TE):TI:=λ σ H R=>tl σ H λ x H1=>∃a,x=.ref a/\(∃xs,D7 K H1 a xs)/\R (xK K a) H1
def eS {l:Expr}{tl:TE}(hl:PE X l tl):PI X tg l (rS X.K tl):=by
 intro pins s σ H R I h;refine Bk (hl pins s σ H _ I h) λ v s1 zz=>?_;obtain⟨x,H1,I1,r1,q1⟩:=zz;obtain⟨a,e,⟨xs,hq⟩,q⟩:=q1;subst e;cases r1;obtain⟨aa,rv,p,hz⟩:=I1.list hq;refine wpAny_pyIter_list p.isList ?_;refine⟨s1.heap.objs.size,[s1.heap.objs.size],_,_,H1,rfl,I1.kept (t':=s1.toks) λ b o e=>z6 _ e,WE a _,⟨_,zN _ rfl,rfl,rfl⟩,λ b hb=>?_,q⟩;have e:b=s1.heap.objs.size:=by simpa using hb
 subst e;exact I1.Yt (zF _) (I1.Ar.fresh (zF _))
def Yv {pins:List (Addr×Obj)}{σ:St}{H:Hp}{s:Shared}{R:It->Hp->Prop}{E:Value->Shared->Prop}{lo hi:Int}{t u v:Tok}{tk:Nat}(I:Inv X pins σ H s)(h1 : -(2^62)<=lo)(h2:lo<2^62)(h3 : -(2^62)<=hi)(h4:hi<2^62)
 (q:R (uS lo (hi-lo).toNat) H):wpAny (model X.prog X.w) X.A (pyIter (.ref s.heap.objs.size)) (xJ X pins σ tg R) E {s with heap:=s.heap.push {cls:=.type "range",data:=.fields #[.int lo t,.int hi u,.int 1 v]},toks:=tk}:=by
 refine wpAny_pyIter_range (IsRange.new ..) (small_one h1 h2 h3 h4) ?_;have I1:Inv X pins σ H {s with heap:=s.heap.push {cls:=.type "range",data:=.fields #[.int lo t,.int hi u,.int 1 v]},toks:=tk}:=I.kept λ b o e=>z6 _ e;refine⟨(s.heap.push {cls:=.type "range",data:=.fields #[.int lo t,.int hi u,.int 1 v]}).objs.size,[(s.heap.push {cls:=.type "range",data:=.fields #[.int lo t,.int hi u,.int 1 v]}).objs.size],_,_,H,rfl,
  I1.kept (t':=tk) λ b o e=>z6 _ e,U5 _ lo (hi-lo).toNat,?_,λ b hb=>?_,q⟩
 ·have e1:lo+((0:Nat):Int)*1=lo:=by simp
  have e2:(((hi-lo).toNat:Nat):Int)-((0:Nat):Int)=Builtin.Range.rangeSize lo hi 1:=by rw[rangeSize_one];split<;>omega
  show IsRangeIter _ _ (lo+((0:Nat):Int)*1) ((((hi-lo).toNat:Nat):Int)-((0:Nat):Int)) 1;rw[e1,e2];exact zN _ rfl
 ·have e:b=(s.heap.push {cls:=.type "range",data:=.fields #[.int lo t,.int hi u,.int 1 v]}).objs.size:=by simpa using hb
  subst e;exact I1.Yt (zF _) (I1.Ar.fresh (zF _))
abbrev rT (ta:TA):TI:=λ σ H R=>ta σ H λ vs H1=>∃j:Int,vs=[.int j]/\-(2^62)<=j/\j<2^62/\R (uS 0 j.toNat) H1
def WG {a:Expr}{ta:TA}{p pos:Pos}(hg:Gl X "range")(hm:X.mg "range" = none)(ha:PA X [a] ta)(hs: ~~~(starEach [a] X.env=[(false,eval a X.env)])):PI X tg (.Call (.Name "range" p) [a] [] pos) (rT ta):=by
 intro pins s σ H R I h;refine Call_ (Dz I hg hm boot_range (zai (Bk (ha pos pins s σ H _ I h) λ us s1 zz=>?_) hs rfl));obtain⟨vs,H1,I1,r1,q1⟩:=zz;obtain⟨j,e,q1,q2,q⟩:=q1;subst e;cases r1 with
 |cons r rr =>
  cases rr;obtain⟨t,rfl⟩:=r;exact call_range_1 (Yv I1 (by omega) (by omega) q1 q2 (by simpa using q))
abbrev wC (wi:TI)(g:TG)(tb:TS):TS:=λ D σ H=>wi σ H λ J H1=>∃W:Nat->Nat->St->Hp->Prop,(∃m,W 0 m σ H1)/\∀i m σ H,W i m σ H->
 (J.stop i H/\D.nx σ H)\/(J.go i H/\∃N:St->Hp->Prop,(∀σ' H',N σ' H'->∃m',m'<m/\W (i+1) m' σ' H')/\∀x H',J.kP i H x H'->g x σ H' λ σ2 H2=>tb {D with nx:=N,ct:=N,bk:=D.nx} σ2 H2)
abbrev IF (fp:List Addr)(h:Heap):List (Addr×Obj):=fp.filterMap λ b=>(h.get? b).map λ o=>(b,o)
def Fs {fp:List Addr}{h:Heap}{b:Addr}{o:Obj}(hb:b∈fp)(e:h.get? b=some o):(b,o)∈IF fp h:=zby.mpr ⟨b,hb,by rw[e];rfl⟩
def OG {fp:List Addr}{h:Heap}{p:Addr×Obj}(hp:p∈IF fp h):p.1∈fp/\h.get? p.1=some p.2:=by
 obtain⟨b,hb,e⟩:=zby.mp hp;cases q:h.get? b with
 |none=>rw[q] at e;cases e
 |some o =>
  rw[q] at e;have e':(b,o)=p:=zT e;subst e';exact⟨hb,q⟩
def Inv.pinned {pins:List (Addr×Obj)}{σ:St}{H:Hp}{s:Shared}{fp:List Addr}(I:Inv X pins σ H s)(hf:∀b∈fp,LS X pins H b)(ho:∀b∈fp,∃o,s.heap.get? b=some o/\∀v,o.data≠.cell v):Inv X (pins++IF fp s.heap) σ H s:=
 I.Jg λ p hp=>(zJ.mp hp).elim (λ z=>I.pin p (z8 _ z)) λ z=>by
  obtain⟨hb,e⟩:=OG z;obtain⟨f0,f1,f2,_⟩:=hf p.1 hb;obtain⟨o,e',d⟩:=ho p.1 hb;rw[e] at e';cases e';exact⟨e,f0,f1,f2,d⟩
def Inv.Jh {pins pl:List (Addr×Obj)}{σ:St}{H:Hp}{s:Shared}(I:Inv X (pins++pl) σ H s):Inv X pins σ H s:=I.Jg λ p hp=>I.pin p (z8 _ (za2 _ hp))
def mS {iter:Expr}{body:List Stmt}{wi:TI}{g:TG}{tb:TS}{pos:Pos}(hp:PassesOwn (model X.prog X.w) X.A X.env X.xe)(hc:X.calm=true)(hi:PI X tg iter wi)(hg:PG X tg g)(hb:Vj X body tb)
 (hs:∀x,foldedSetIterable iter X.env x=pure x:=by intro _;rfl):PS X (.For tg iter body [] pos) (wC wi g tb):=by
 intro pins s σ H D I h;refine wpAny_For (Bk (hi pins s σ H _ I h) λ v s1 h1=>Bk h1 λ lm s2 h2=>?_) hs;obtain⟨it,fp,tn,J,H2,e,I2,T,cq,f2,W,⟨m0,w0⟩,turn⟩:=h2;subst e;have bw:∀ {H':Hp},(∀b∈fp,H' b=none)->∀b∈fp,LS X pins H' b:=λ hn b hb=>⟨hn b hb,(f2 b hb).2⟩;refine codeAny_forLoop_any (λ n s'=>∃i σ' H',Inv X pins σ' H' s'/\tn i s'.heap/\(∀b∈fp,H' b=none)/\W i n σ' H') ?_ m0 ⟨0,σ,H2,I2,cq,λ b hb=>(f2 b hb).1,w0⟩;rintro n s3 ⟨i,σ3,H3,I3,i4,i5,w3⟩;rcases turn i n σ3 H3 w3 with ⟨stop,qn⟩|⟨go,N,hN,step⟩
 ·refine wpAny_passesOwn hp (Bk (T.done X rfl rfl rfl hc i pins s3 σ3 H3 X.xe I3 (bw i5) i4 stop) λ r s4 zz=>?_);obtain⟨hr,I4⟩:=zz;subst hr;exact wpAny_execs_nil ⟨σ3,H3,I4,qn⟩
 ·refine wpAny_passesOwn hp (Bk (T.item X rfl rfl rfl hc i pins s3 σ3 H3 X.xe I3 (bw i5) i4 go) λ r s4 zz=>?_);obtain⟨u,hr,h4⟩:=zz;subst hr;refine wpAny_passesOwn hp (Bk h4 λ _ s5 zz=>?_);obtain⟨x,H5,I5,r5,y5,e9,mo⟩:=zz;have mq:=I5.pinned (bw mo) (T.obj _ _ e9);refine wpAny_passesOwn hp (Bk (hg _ s5 σ3 H5 x u _ mq r5 (step x H5 y5)) λ _ s6 zz=>?_);obtain⟨σ6,H6,I6,q6⟩:=zz;refine wpAny_passesOwn hp (Bk (hb _ s6 σ6 H6 _ I6 q6) λ f s7 q7=>?_);have again:∀ {σ7:St} {H7:Hp},Inv X (pins++IF fp s5.heap) σ7 H7 s7->N σ7 H7->∃m,m<n/\∃i σ' H',Inv X pins σ' H' s7/\tn i s7.heap/\(∀b∈fp,H' b=none)/\W i m σ' H':=fun {σ7 H7} I7 n7=>by
   obtain⟨m',hm,w7⟩:=hN σ7 H7 n7;refine⟨m',hm,i+1,σ7,H7,I7.Jh,T.keep _ _ _ e9 λ b hb o e=>(I7.pin (b,o) (z8 _ (z8 _ (Fs hb e)))).1,λ b hb=>?_,w7⟩;obtain⟨o,e,d⟩:=T.obj _ _ e9 b hb;exact (I7.pin (b,o) (z8 _ (z8 _ (Fs hb e)))).2.1
  cases f with
  |next|cont=>obtain⟨σ7,H7,I7,n7⟩:=q7;exact again I7 n7
  |brk=>obtain⟨σ7,H7,I7,q7⟩:=q7;exact⟨σ7,H7,I7.Jh,q7⟩
  |ret v=>obtain⟨x7,σ7,H7,I7,r7,q7⟩:=q7;exact⟨x7,σ7,H7,I7.Jh,r7,q7⟩
end
noncomputable abbrev R2:=V->V->Hp->VK->Prop
abbrev Gv (X:Cx)(f:Value->Value->Sem Value)(r:R2):Prop:=
 ∀(pins:List (Addr×Obj)) (s:Shared) (σ:St) (H:Hp) (x y:V) (v u:Value) (Q:VK),Inv X pins σ H s->RelV x v->RelV y u->r x y H Q->
  wpAny (model X.prog X.w) X.A (f v u) (EP X pins σ Q) X.xe s
abbrev wD (X:Cx)(f:Value->Sem Value)(r:V->Hp->VK->Prop):Prop:=
 ∀(pins:List (Addr×Obj)) (s:Shared) (σ:St) (H:Hp) (x:V) (v:Value) (Q:VK),Inv X pins σ H s->RelV x v->r x H Q->
  wpAny (model X.prog X.w) X.A (f v) (EP X pins σ Q) X.xe s
abbrev F5 (X:Cx)(f:Value)(r:List V->Hp->VK->Prop):Prop:=
 ∀(pins:List (Addr×Obj)) (s:Shared) (σ:St) (H:Hp) (xs:List V) (us:List Value) (Q:VK),Inv X pins σ H s->Vals xs us->r xs H Q->
  wpAny (model X.prog X.w) X.A (call f us) (EP X pins σ Q) X.xe s
abbrev wF (X:Cx)(r:V->Hp->(Bool->Hp->Prop)->Prop):Prop:=
 ∀(pins:List (Addr×Obj)) (s:Shared) (σ:St) (H:Hp) (x:V) (v:Value) (Q:Bool->Hp->Prop),Inv X pins σ H s->RelV x v->r x H Q->
  wpAny (model X.prog X.w) X.A (truthy v) (TP X pins σ Q) X.xe s
abbrev qM (r:R2)(ta tb:TE):TE:=λ σ H Q=>ta σ H λ x H1=>tb σ H1 λ y H2=>r x y H2 Q
abbrev yM (r:V->Hp->VK->Prop)(ta:TE):TE:=λ σ H Q=>ta σ H λ x H1=>r x H1 Q
abbrev rI (C:Int->Int->Prop)(g:Int->Int->V):R2:=λ x y H Q=>∃i j,x=.int i/\y=.int j/\C i j/\Q (g i j) H
abbrev eB (g:Int->Int->V):R2:=λ x y H Q=>∃i j,x=.int i/\y=.int j/\Q (g i j) H
abbrev rU (g:Int->V):V->Hp->VK->Prop:=λ x H Q=>∃i,x=.int i/\Q (g i) H
section
variable {X:Cx}{a b c:Expr}{ta tb tc:TE}{pos:Pos}
def mT (ha:PE X a ta)(hb:PE X b tb){pins:List (Addr×Obj)}{s:Shared}{σ:St}{H:Hp}{R:V->V->Hp->Prop}(I:Inv X pins σ H s)
 (h:ta σ H λ x H1=>tb σ H1 λ y H2=>R x y H2) {Q:Value->Shared->Prop} {f:Value->Value->Sem Value}
 (hf:∀v u s2 x y H2,Inv X pins σ H2 s2->RelV x v->RelV y u->R x y H2->wpAny (model X.prog X.w) X.A (f v u) Q X.xe s2):
 wpAny (model X.prog X.w) X.A (eval a X.env) (λ v s₁=>wpAny (model X.prog X.w) X.A (eval b X.env) (λ u s₂=>wpAny (model X.prog X.w) X.A (f v u) Q X.xe s₂) X.xe s₁) X.xe s:=by
 refine Bk (ha pins s σ H _ I h) λ v s1 zz=>?_;obtain⟨x,H1,I1,r1,q1⟩:=zz;refine Bk (hb pins s1 σ H1 _ I1 q1) λ u s2 zz=>?_;obtain⟨y,H2,I2,r2,q2⟩:=zz;exact hf v u s2 x y H2 I2 r1 r2 q2
def Yw {op:Operator}{r:R2}(ho:Gv X (binaryOp op) r)(ha:PE X a ta)(hb:PE X b tb):PE X (.BinOp a op b pos) (qM r ta tb):=by
 intro pins s σ H Q I h;exact wpAny_BinOp (mT ha hb I h λ v u s2 x y H2 I2 rx ry q=>ho pins s2 σ H2 x y v u Q I2 rx ry q)
def rV {op:UnaryOp}{r:V->Hp->VK->Prop}(ho:wD X (unaryOp op) r)(ha:PE X a ta):PE X (.UnaryOp op a pos) (yM r ta):=by
 intro pins s σ H Q I h;exact UnaryOp_ (Bk (ha pins s σ H _ I h) λ v s1 ⟨x,H1,I1,r1,q1⟩=>ho pins s1 σ H1 x v Q I1 r1 q1)
def uT {f:Value->Value->Sem Value}{C:Int->Int->Prop}{g:Int->Int->Int}
 (rule:∀(i j:Int) (t u:Tok) (s:Shared) (Q:Value->Shared->Prop) (E:Value->Shared->Prop),C i j->Q (.int (g i j) s.toks) {s with toks:=s.toks+1}->wpAny (model X.prog X.w) X.A (f (.int i t) (.int j u)) Q E s):
 Gv X f (rI C λ i j=>.int (g i j)):=by
 intro pins s σ H x y v u Q I rx ry h;obtain⟨i,j,rfl,rfl,hc,q⟩:=h;obtain⟨t,rfl⟩:=rx;obtain⟨t',rfl⟩:=ry;exact rule i j t t' s _ _ hc ⟨.int (g i j),H,I.tok _,⟨_,rfl⟩,q⟩
def rW {f:Value->Value->Sem Value}{g:Int->Int->Int}
 (rule:∀(i j:Int) (t u:Tok) (s:Shared) (Q:Value->Shared->Prop) (E:Value->Shared->Prop),Q (.int (g i j) s.toks) {s with toks:=s.toks+1}->wpAny (model X.prog X.w) X.A (f (.int i t) (.int j u)) Q E s):
 Gv X f (eB λ i j=>.int (g i j)):=by
 intro pins s σ H x y v u Q I rx ry h;obtain⟨i,j,rfl,rfl,q⟩:=h;obtain⟨t,rfl⟩:=rx;obtain⟨t',rfl⟩:=ry;exact rule i j t t' s _ _ ⟨.int (g i j),H,I.tok _,⟨_,rfl⟩,q⟩
def mU {f:Value->Value->Sem Value}{g:Int->Int->Bool}
 (rule:∀(i j:Int) (t u:Tok) (s:Shared) (Q:Value->Shared->Prop) (E:Value->Shared->Prop),Q (.bool (g i j)) s->wpAny (model X.prog X.w) X.A (f (.int i t) (.int j u)) Q E s):
 Gv X f (eB λ i j=>.bl (g i j)):=by
 intro pins s σ H x y v u Q I rx ry h;obtain⟨i,j,rfl,rfl,q⟩:=h;obtain⟨t,rfl⟩:=rx;obtain⟨t',rfl⟩:=ry;exact rule i j t t' s _ _ ⟨.bl (g i j),H,I,rfl,q⟩
abbrev Yx (i j:Int):Prop:=0<j/\j<1073741824
abbrev eT (i j:Int):Prop:=0<=j/\j<=1000000/\i.natAbs<2^64
abbrev Yy (i j:Int):Prop:=(-(2^64)<i/\i<2^64)\/(-(2^64)<j/\j<2^64)
def Yy.ok {i j:Int}(h:Yy i j):IntMulOk i j:=by
 rcases h with ⟨h1,h2⟩|⟨h1,h2⟩
 ·exact .of_left (intBits_le_64 h1 h2)
 ·exact .of_right (intBits_le_64 h1 h2)
def mV:Gv X (binaryOp .Add) (eB λ i j=>.int (i+j)):=rW λ _ _ _ _ _ _ _ q=>add_int q
def mW:Gv X (binaryOp .Sub) (eB λ i j=>.int (i-j)):=rW λ _ _ _ _ _ _ _ q=>sub_int q
def eU:Gv X (binaryOp .FloorDiv) (rI Yx λ i j=>.int (i / j)):=uT λ i j _ _ _ _ _ hc q=>by
 have h1:(0:Int)<j:=hc.1;have h2:j<1073741824:=hc.2;exact floordiv_int (by omega) (by rw[Int.fdiv_eq_ediv_of_nonneg i (by omega)];exact q) (.inl (PyProof.noPylong_small (by omega)))
def mX:Gv X (binaryOp .Mod) (rI (λ _ j=>0<j) λ i j=>.int (i%j)):=uT λ i j _ _ _ _ _ hc q=>by
 have h1:(0:Int)<j:=hc;exact mod_int' (by omega) (by rw[Int.fmod_eq_emod_of_nonneg i (by omega)];exact q)
def mY:Gv X (binaryOp .Pow) (rI eT λ i j=>.int (i^j.toNat)):=uT λ _ _ _ _ _ _ _ hc q=>pow_int_small hc.1 hc.2.1 hc.2.2 q
def yN {f:Value->Sem Value}{g:Int->Int}
 (rule:∀(i:Int) (t:Tok) (s:Shared) (Q:Value->Shared->Prop) (E:Value->Shared->Prop),Q (.int (g i) s.toks) {s with toks:=s.toks+1}->wpAny (model X.prog X.w) X.A (f (.int i t)) Q E s):
 wD X f (rU λ i=>.int (g i)):=by
 intro pins s σ H x v Q I rx h;obtain⟨i,rfl,q⟩:=h;obtain⟨t,rfl⟩:=rx;exact rule i t s _ _ ⟨.int (g i),H,I.tok _,⟨_,rfl⟩,q⟩
def mZ:wD X (unaryOp .USub) (rU λ i=>.int (-i)):=yN λ _ _ _ _ _ q=>neg_int q
end
section
variable {X:Cx}{a b c:Expr}{ta tb tc:TE}{pos:Pos}
def kQ:Gv X (compareOp .Lt) (eB λ i j=>.bl (decide (i<j))):=mU λ _ _ _ _ _ _ _ q=>lt_int q
def rX:Gv X (compareOp .LtE) (eB λ i j=>.bl (decide (i<=j))):=mU λ _ _ _ _ _ _ _ q=>le_int q
def rY:Gv X (compareOp .Gt) (eB λ i j=>.bl (decide (j<i))):=mU λ _ _ _ _ _ _ _ q=>gt_int q
def Gv.or {f:Value->Value->Sem Value}{r r':R2}(h:Gv X f r)(h':Gv X f r'):Gv X f (λ x y H Q=>r x y H Q\/r' x y H Q):=by
 intro pins s σ H x y v u Q I rx ry q;rcases q with q|q
 ·exact h pins s σ H x y v u Q I rx ry q
 ·exact h' pins s σ H x y v u Q I rx ry q
def IG (b:Expr){op:CmpOp}(h:op≠.In:=by decide)(h2:op≠.NotIn:=by decide):behindInMarks op b=false:=by
 have e1:(op==CmpOp.In)=false:=by cases op<;>first|rfl|exact absurd rfl h
 have e2:(op==CmpOp.NotIn)=false:=by cases op<;>first|rfl|exact absurd rfl h2
 cases b<;>simp[behindInMarks,e1,e2]
def eV {op:CmpOp}{r:R2}(ho:Gv X (compareOp op) r)(ha:PE X a ta)(hb:PE X b tb)(hm:behindInMarks op b=false):PE X (.Compare a [op] [b] pos) (qM r ta tb):=by
 intro pins s σ H Q I h;exact wpAny_Compare1 (mT ha hb I h λ v u s2 x y H2 I2 rx ry q=>ho pins s2 σ H2 x y v u Q I2 rx ry q) hm
abbrev rZ (t:TE):TT:=λ σ H Q=>t σ H λ x H'=>∃k,x=.bl k/\Q k H'
def eW {op:CmpOp}{r:R2}(ho:Gv X (compareOp op) r)(ha:PE X a ta)(hb:PE X b tb)(hm:behindInMarks op b=false):PT X (.Compare a [op] [b] pos) (rZ (qM r ta tb)):=by
 intro pins s σ H Q I h;refine wpAny_isTrue_Compare1 (Bk (ha pins s σ H _ I h) λ v s1 ⟨x,H1,I1,r1,q1⟩=>Bk (hb pins s1 σ H1 _ I1 q1) λ u s2 ⟨y,H2,I2,r2,q2⟩ =>
  Bk (ho pins s2 σ H2 x y v u _ I2 r1 r2 q2) λ c s3 ⟨z,H3,I3,r3,k,e,q3⟩=>?_) hm
 subst e;cases r3;exact wpAny_truthy_bool ⟨H3,I3,q3⟩
abbrev nA (r r':R2)(ta tb tc:TE):TE:=λ σ H Q=>ta σ H λ x H1=>tb σ H1 λ y H2=>r x y H2 λ z H3=>∃k,z=.bl k/\
 (if k=true then tc σ H3 λ w' H4=>r' y w' H4 Q else Q (.bl false) H3)
def Yz {op fc:CmpOp}{r r':R2}(ho:Gv X (compareOp op) r)(bp:Gv X (compareOp fc) r')(ha:PE X a ta)(hb:PE X b tb)(hc:PE X c tc)
 (hm:lastMarks [op,fc] [b,c]=false:=by with_unfolding_all rfl):PE X (.Compare a [op,fc] [b,c] pos) (nA r r' ta tb tc):=by
 intro pins s σ H Q I h;refine Compare_chain (Bk (ha pins s σ H _ I h) λ v s1 ⟨x,H1,I1,r1,q1⟩=>chain_link (Bk (hb pins s1 σ H1 _ I1 q1) λ u s2 ⟨y,H2,I2,r2,q2⟩ =>
  Bk (ho pins s2 σ H2 x y v u _ I2 r1 r2 q2) λ d s3 ⟨z,H3,I3,r3,k,e,q3⟩=>?_)) hm
 subst e;cases r3;refine wpAny_truthy_bool ?_;cases k with
 |false=>exact ite_ff ⟨.bl false,H3,I3,rfl,q3⟩
 |true=>exact ite_tt (chain_last (Bk (hc pins s3 σ H3 _ I3 q3) λ w' s4 ⟨z',H4,I4,r4,q4⟩=>bp pins s4 σ H4 y z' u w' Q I4 r2 r4 q4))
abbrev sA (K:zr)(x:V)(H:Hp)(k:Bool):Prop:=
 match x with
 | .AL=>k=false
 | .bl b=>k=b
 | .int i=>k=(i != 0)
 | .str y=>y.length<=sizeLine/\k=((y.length:Int) != 0)
 | .mB y=>y.size<=sizeLine/\k=((y.size:Int) != 0)
 | .ref p=>(∃xs,D7 K H p xs/\k = !xs.isEmpty)\/(∃xs,EC K H p xs/\k = !xs.isEmpty)\/∃kvs,H p=some (.dK kvs)/\k = !kvs.isEmpty
 |_=>False
def U6 {κ:Type}{kvs:List (κ×V)}{vs:List (κ×Value)}(r:KV kvs vs):(!vs.isEmpty) = !kvs.isEmpty:=by
 cases r<;>rfl
def MA {xs:List V}{aa:List Value}(r:Vals xs aa):(!aa.toArray.isEmpty) = !xs.isEmpty:=by
 cases r<;>simp
def Kz:(sizeLine:Nat)<2^63:=by rw[sizeLine_eq];decide
def nB:wF X (λ x H Q=>∃k,sA X.K x H k/\Q k H):=by
 intro pins s σ H x v Q I rx h;obtain⟨k,e,q⟩:=h;have hl:=Kz;have hs:sizeLine=16777216:=sizeLine_eq;cases x with
 |AL =>
  cases rx;have e':k=false:=e;subst e';exact truthy_none ⟨H,I,q⟩
 |bl b =>
  cases rx;have e':k=b:=e;subst e';exact wpAny_truthy_bool ⟨H,I,q⟩
 |int i =>
  obtain⟨t,rfl⟩:=rx;have e':k=(i != 0):=e;subst e';exact PySem.P.truthy_int ⟨H,I,q⟩
 |str y =>
  obtain⟨t,rfl⟩:=rx;obtain⟨hy,e'⟩:y.length<=sizeLine/\k=((y.length:Int) != 0):=e;subst e';exact PySem.P.truthy_str (by omega) ⟨H,I.tok _,q⟩
 |mB y =>
  obtain⟨t,rfl⟩:=rx;obtain⟨hy,e'⟩:y.size<=sizeLine/\k=((y.size:Int) != 0):=e;subst e';exact PySem.W.truthy_bytes (by omega) ⟨H,I.tok _,q⟩
 |ref p =>
  cases rx;have e':(∃xs,D7 X.K H p xs/\k = !xs.isEmpty)\/(∃xs,EC X.K H p xs/\k = !xs.isEmpty)\/∃kvs,H p=some (.dK kvs)/\k = !kvs.isEmpty:=e;rcases e' with ⟨xs,hx,e'⟩|⟨xs,hx,e'⟩|⟨kvs,hx,e'⟩
  ·subst e';obtain⟨aa,r,pl,hz⟩:=I.list hx;have hlen:=r.length;exact wpAny_truthy_list pl.isList (by simp only[z9];omega) ⟨H,I.tok _,by rw[MA r];exact q⟩
  ·subst e';obtain⟨aa,r,pl,hz⟩:=I.tuple hx;have hlen:=r.length;exact truthy_tuple pl (by simp only[z9];omega) ⟨H,I.tok _,by rw[MA r];exact q⟩
  ·subst e';obtain⟨hz,hS,vs,r,m⟩:kvs.length<=sizeLine/\(p==sysModules)=false/\∃vs,KV kvs vs/\s.heap.DictOf (B6 X.prog X.w) p vs:=I.Ar p _ hx;have hlen:kvs.length=vs.length:=Paired.length r;exact wpAny_truthy_dict hS m (by omega) ⟨H,I.tok _,by rw[U6 r];exact q⟩
 |_=>exact (show False from e).elim
def YA (ha:PE X a ta)(he:∀whole,isTrue a X.env whole=(do let v <-whole;standAt a.pos;holding [v] (truthy v))):
 PT X a (λ σ H Q=>ta σ H λ x H'=>∃k,sA X.K x H' k/\Q k H'):=by
 intro pins s σ H Q I h;exact isTrue_plain (Bk (ha pins s σ H _ I h) λ v s1 ⟨x,H1,I1,r1,q1⟩=>nB pins s1 σ H1 x v Q I1 r1 q1) (he _)
def vals1 {x:V}{us:List Value}(r:Vals [x] us):∃u,us=[u]/\RelV x u:=by
 cases r with
 |cons r1 r2=>cases r2;exact⟨_,rfl,r1⟩
def WH:F5 X (.type "int") (λ xs H Q=>(∃i,xs=[.int i]/\Q (.int i) H)\/∃k,xs=[.bl k]/\Q (.int (if k then 1 else 0)) H):=by
 intro pins s σ H xs us Q I r h;rcases h with ⟨i,rfl,q⟩|⟨k,rfl,q⟩
 ·obtain⟨u,rfl,t,rfl⟩:=vals1 r;exact call_int_int ⟨.int i,H,I,⟨_,rfl⟩,q⟩
 ·obtain⟨u,rfl,r1⟩:=vals1 r;cases r1;exact call_int_bool ⟨.int (if k then 1 else 0),H,I.tok _,⟨_,rfl⟩,q⟩
end
structure U7 (h:Heap)(x dx C:Addr)(mA:Str->Option Value):Prop where
 obj:h.get? x=some (zbk C dx)
 ns:h.Ns1 dx mA
 ne:dx≠x
def WI {h:Heap}{dx:Addr}{mA:Str->Option Value}(n:h.Ns1 dx mA):∃od,h.get? dx=some od/\∀name,PySem.W.lookIn name od=some (mA name):=by
 obtain⟨o,es,ep,ho,hd,hk,_,hm⟩:=n;refine⟨o,ho,λ name=>?_⟩;have e:=hm name;unfold nsFind findBy at e;rw[<-Array.find?_toList] at e;unfold PySem.W.lookIn;rw[hd];dsimp only;split
 ·rename_i y q;rw[q] at e;exact congrArg some e
 ·rename_i q;rw[q] at e;have a:es.toList.any (·.refKey)=false:=by
   rw[List.any_eq_false];intro y hy;obtain⟨z,t,mr⟩:=hk y (Array.mem_toList_iff.mp hy);simp[DictEntry.refKey,mr]
  have a':¬ es.toList.any (·.refKey)=true:=by rw[a];exact zO
  rw[if_neg a'];exact congrArg some e
def U7.look {h:Heap}{x dx C:Addr}{mA:Str->Option Value}(I:U7 h x dx C mA):∃od,PySem.W.InstAt h x (zbk C dx) C (some od)/\∀name,PySem.W.lookIn name od=some (mA name):=
 let ⟨od,ho,hl⟩:=WI I.ns
 ⟨od,⟨I.obj,rfl,rfl,ho⟩,hl⟩
section
variable {prog:Program}{w:World}{A:Around}{E:Value->Shared->Prop}{s:Shared}{K:zr}{x dx C f:Addr}{mA:Str->Option Value}{name:Str}{v:Value}
def get_map {expr:Bool}{Q:Value->Shared->Prop}(X:K.In s.heap)(I:U7 s.heap x dx C mA)(hg:PySem.W.plainGet K C name=true)(hh:PySem.W.hasDictIn K C=true)
 (ha:zaa K (.ref C) name=some none) (hv:mA name=some v) (um:PySem.W.handedIn v=true) (h:Q v {s with toks:=s.toks+1}):
 wpAny (model prog w) A (getAttr (.ref x) name expr) Q E s:=by
 obtain⟨od,J,hl⟩:=I.look;exact PySem.W.get_value X J (PySem.W.plainGet_of hg).1 (PySem.W.findObj_own hh ha rfl (by rw[hl,hv])) um h
def YB {pl:Sem Bool}{Q:Value×List Value->Shared->Prop}(X:K.In s.heap)(I:U7 s.heap x dx C mA)(hg:PySem.W.plainGet K C name=true)
 (hf:zaa K (.ref C) name=some (some (.ref f))) (ht:PySem.W.isFn K (.ref f)=true) (hv:mA name=none) (h:Q (.ref f,[.ref x]) s):
 wpAny (model prog w) A (getMethod (.ref x) name pl) Q E s:=by
 obtain⟨od,J,hl⟩:=I.look;exact PySem.W.method_fn X J (PySem.W.plainGet_of hg).1 (PySem.W.plainGet_of hg).2 hf (beq_iff_eq.mp ht) (by show (PySem.W.lookIn name od).map (·.isSome)=some false;rw[hl,hv];rfl) h
def eX {ns:List Str}{Q:Unit->Shared->Prop}(X:K.In s.heap)(I:U7 s.heap x dx C mA)
 (hs:zaa K (.ref C) "__setattr__" = some (some (.builtin "object.__setattr__"))) (hp:PySem.W.plainOver K C=true) (ht:PySem.W.takerIn K C name=some none) (hh:PySem.W.hasDictIn K C=true)
 (hw:PySem.Within mA ns) (hsz:ns.length<=sizeLine)
 (h:∀h',U7 h' x dx C (λ y=>if y=name then some v else mA y)->zc4 dx s.heap h'->Q () {s with heap:=h',toks:=s.toks+2}):
 wpAny (model prog w) A (setAttr (.ref x) name v) Q E s:=by
 obtain⟨od,J,hl⟩:=I.look;refine PySem.W.set_plain X J hs (PySem.W.osa_open (s:={s with toks:=s.toks+1}) (r:=none) X J hp ht λ b=>?_);obtain⟨cd,hc,bq⟩:=PySem.W.any_some hh;have hx:s.heap.get? x=some ⟨.ref C,some dx,.plain,#[]⟩:=I.obj;refine wpAny_bind (wpAny_pure (wpAny_bind (wpAny_bind (wpAny_loadPart hx (wpAny_bind (PySem.W.Looks.here (s:={s with toks:=s.toks+1}) (PySem.W.looks_clsIn X hc) ?_))))));rw[bq];refine wpAny_pure (a:=some dx) (wpAny_bind (wpAny_pure (wpAny_bind ?_)));refine wpAny_nsSet1 (s:={s with toks:=s.toks+1}) I.ns λ h' aD aO=>?_;obtain⟨oD,yz,y3,uo,uq,ur⟩:=aD.count (PySem.Within.cons name v hw);refine wpAny_bind (wpAny_lookBehind uo (by rw[uq];exact pastItsLine_dict (zal ur (by rw[z7];omega))) ?_);exact wpAny_pure (h _ ⟨(aO.2 _ (zac I.ne)).trans I.obj,aD,I.ne⟩ aO)
def YC {R:Result->Shared->Prop}{vs:List Value}{kw:List (Str×Value)}(X:K.In s.heap)(hm:PySem.W.makesIn K C=true)
 (hi:zaa K (.ref C) "__init__" = some (some (.ref f))) (hf:PySem.W.typeIn K (.ref f)=some (.type "function"))
 (h:codeAny (model prog w) (A.under (.builtin "type.__call__" ⟨.ref C::vs,kw⟩)) (.call (.ref f) ⟨.ref (s.heap.objs.size+1)::vs,kw⟩) (PySem.W.InitBack (s.heap.objs.size+1) R)
  {s with heap:=(s.heap.push zb3).push (zbk C s.heap.objs.size)}):
 codeAny (model prog w) A (.call (.ref C) ⟨vs,kw⟩) R s:=by
 obtain⟨hh,g,d,t,os⟩:=s;exact PySem.W.make_core (PySem.W.makes_of X hm) (PySem.W.looks_findIn X hi) (λ self=>PySem.W.bind_fn X self hf) (.inl rfl) h
end
abbrev E9 (f:Str)(v:V):List (Str×V)->List (Str×V)
 |[]=>[(f,v)]
 |(g,x)::r=>if g=f then (g,v)::r else (g,x)::E9 f v r
def Le (f g:Str)(v:V):∀fs:List (Str×V),(E9 f v fs).lookup g=if g=f then some v else fs.lookup g
 |[]=>by
  show List.lookup g [(f,v)]=_;by_cases h:g=f
  ·have hb:(g==f)=true:=beq_iff_eq.mpr h;simp only[List.lookup,hb,if_pos h]
  ·have hb:(g==f)=false:=beq_eq_false_iff_ne.mpr h;simp only[List.lookup,hb,if_neg h]
 |(k,x)::r=>by
  have ih:=Le f g v r;rw[show E9 f v ((k,x)::r)=(if k=f then (k,v)::r else (k,x)::E9 f v r) from rfl];by_cases hk:k=f
  ·rw[if_pos hk];by_cases h:g=k
   ·have hb:(g==k)=true:=beq_iff_eq.mpr h;simp only[List.lookup,hb,if_pos (h.trans hk)]
   ·have hb:(g==k)=false:=beq_eq_false_iff_ne.mpr h;simp only[List.lookup,hb,if_neg (λ e:g=f=>h (e.trans hk.symm))]
  ·rw[if_neg hk];by_cases h:g=k
   ·have hb:(g==k)=true:=beq_iff_eq.mpr h;simp only[List.lookup,hb,if_neg (λ e:g=f=>hk (h.symm.trans e))]
   ·have hb:(g==k)=false:=beq_eq_false_iff_ne.mpr h;simp only[List.lookup,hb];exact ih
def KA (f:Str)(v:V):∀fs:List (Str×V),f∈(E9 f v fs).map (·.1)/\∀g,g∈fs.map (·.1)->g∈(E9 f v fs).map (·.1)
 |[]=>⟨by simp[E9],λ g h=>by simp at h⟩
 |(k,x)::r=>by
  obtain⟨i1,i2⟩:=KA f v r;rw[show E9 f v ((k,x)::r)=(if k=f then (k,v)::r else (k,x)::E9 f v r) from rfl];by_cases hk:k=f
  ·rw[if_pos hk];subst hk;exact⟨by simp,λ g h=>by simpa using h⟩
  ·rw[if_neg hk];refine⟨?_,λ g h=>?_⟩
   ·rw[zx];exact zw _ i1
   ·rw[zx] at h ⊢;rcases zB.mp h with e|e
    ·exact zB.mpr (.inl e)
    ·exact zw _ (i2 g e)
def Lf (f:Str)(v:V):∀fs:List (Str×V),(E9 f v fs).length<=fs.length+1
 |[]=>by simp[E9]
 |(k,x)::r=>by
  have ih:=Lf f v r;rw[show E9 f v ((k,x)::r)=(if k=f then (k,v)::r else (k,x)::E9 f v r) from rfl];by_cases hk:k=f
  ·rw[if_pos hk,z7,z7];omega
  ·rw[if_neg hk,z7,z7];omega
def Gh.some_of {v:V}{o:Option Value}(r:Gh (some v) o):∃u,o=some u/\RelV v u:=by
 cases o with
 |none=>exact (show False from r).elim
 |some u=>exact⟨u,rfl,r⟩
def Gh.none_of {o:Option Value}(r:Gh none o):o=none:=by
 cases o with
 |none=>rfl
 |some u=>exact (show False from r).elim
def WJ {v:V}{u:Value}(r:RelV v u):PySem.W.handedIn u=true:=by
 cases v with
 |AL=>cases (show u=Value.none from r);rfl
 |bl b=>cases (show u=Value.bool b from r);rfl
 |int i=>obtain⟨t,e⟩:=(show ∃t,u=Value.int i t from r);cases e;rfl
 |str x=>obtain⟨t,e⟩:=(show ∃t,u=Value.str x t from r);cases e;rfl
 |mB b=>obtain⟨t,e⟩:=(show ∃t,u=Value.bytes b t from r);cases e;rfl
 |rA b=>obtain⟨t,e⟩:=(show ∃t,u=Value.float b t from r);cases e;rfl
 |ref a=>cases (show u=zad a from r);rfl
 |ty n=>cases (show u=Value.type n from r);rfl
section
variable {P:Program}{w:World}{H H':Hp}{h h':Heap}{a C dx:Addr}{fs bL:List (Str×V)}
def Q8 (Ar:Gi P w H h)(e:H a=some (.ins C dx fs)):∃mA,U7 h a dx C mA/\(∀f,Gh (fs.lookup f) (mA f))/\PySem.Within mA (fs.map (·.1))/\fs.length<=1000/\H dx=some (.own a):=by
 obtain⟨d,z,ne,ob,mA,n,r,q⟩:=(show BQ P w H h a (.ins C dx fs) from Ar a _ e);exact⟨mA,⟨ob,n,ne⟩,r,q,z,d⟩
end
structure WK (K:zr)(C:Addr):Prop where
 pg:PySem.W.plainGet K C Str.empty=true
 hd:PySem.W.hasDictIn K C=true
 po:PySem.W.plainOver K C=true
 sa:zaa K (.ref C) "__setattr__" = some (some (.builtin "object.__setattr__"))
def WK.get {K:zr}{C:Addr}(c:WK K C)(f:Str):PySem.W.plainGet K C f=true:=c.pg
abbrev IH (K:zr)(C:Addr)(f:Str):Prop:=zaa K (.ref C) f=some none
def IH.sC {K:zr}{C:Addr}{f:Str}(n:IH K C f):PySem.W.takerIn K C f=some none:=by
 unfold PySem.W.takerIn;rw[show zaa K (.ref C) f=some none from n];rfl
structure Meth (K:zr)(C:Addr)(m:Str)(f:Addr):Prop where
 at_:zaa K (.ref C) m=some (some (.ref f))
 fn:PySem.W.isFn K (.ref f)=true
 kp:zah K (.ref f)=true
section
variable {X:Cx}{pins:List (Addr×Obj)}{σ:St}{H:Hp}{s:Shared}{a C dx:Addr}{fs:List (Str×V)}{f:Str}{v:V}{A:Around}{E:Value->Shared->Prop}
def U8 {b:Bool}{Q:Value->Shared->Prop}(I:Inv X pins σ H s)(e:H a=some (.ins C dx fs))(c:WK X.K C)(n:IH X.K C f)(l:fs.lookup f=some v)
 (h:∀u s',Inv X pins σ H s'->RelV v u->Q u s'):wpAny (model X.prog X.w) A (getAttr (.ref a) f b) Q E s:=by
 obtain⟨mA,O,r,_,_,_⟩:=Q8 I.Ar e;obtain⟨u,hu,ru⟩:=Gh.some_of (v:=v) (o:=mA f) (by rw[<-l];exact r f);exact get_map I.Mz O (c.get f) c.hd n hu (WJ ru) (h u _ (I.tok _) ru)
def MB {m:Str}{g:Addr}{pl:Sem Bool}{Q:Value×List Value->Shared->Prop}(I:Inv X pins σ H s)(e:H a=some (.ins C dx fs))(c:WK X.K C)(k:Meth X.K C m g)(l:fs.lookup m=none)
 (h:Q (.ref g,[.ref a]) s):wpAny (model X.prog X.w) A (getMethod (.ref a) m pl) Q E s:=by
 obtain⟨mA,O,r,_,_,_⟩:=Q8 I.Ar e;have hn:mA m=none:=Gh.none_of (by rw[<-l];exact r m);exact YB I.Mz O (c.get m) k.at_ k.fn hn h
def U9 {y:V}{u:Value}{Q:Unit->Shared->Prop}(I:Inv X pins σ H s)(e:H a=some (.ins C dx fs))(c:WK X.K C)(n:IH X.K C f)(hl:fs.length<1000)(ry:RelV y u)
 (h:∀s',Inv X pins σ (upd H a (.ins C dx (E9 f y fs))) s'->Q () s'):wpAny (model X.prog X.w) A (setAttr (.ref a) f u) Q E s:=by
 obtain⟨mA,O,r,wi,_,ho⟩:=Q8 I.Ar e;have hz:(fs.map (·.1)).length<=sizeLine:=by rw[zu,sizeLine_eq];omega
 refine eX I.Mz O c.sa c.po n.sC c.hd wi hz λ h' O' sb=>h _ ?_;have hd:∃o,h'.get? dx=some o:=let ⟨o,_,_,e',_⟩:=O'.ns;⟨o,e'⟩;refine I.write (x:=a) (e:=dx) (by rw[e];exact zbv) (.inr ho) (λ b q hb z=>(sb.2 b hb).trans z) hd ?_;refine⟨by rw[Ai O.ne];exact ho,?_,O.ne,O'.obj,_,O'.ns,λ g=>?_,λ g hg=>?_⟩
 ·have:=Lf f y fs;omega
 ·show Gh ((E9 f y fs).lookup g) (if g=f then some u else mA g);rw[Le];by_cases q:g=f
  ·rw[if_pos q,if_pos q];exact ry
  ·rw[if_neg q,if_neg q];exact r g
 ·by_cases q:g=f
  ·rw[q];exact (KA f y fs).1
  ·refine (KA f y fs).2 g (wi g λ z=>hg ?_);show (if g=f then some u else mA g)=none;rw[if_neg q];exact z
def Inv.made (I:Inv X pins σ H s):Inv X pins σ (upd (upd H s.heap.objs.size (.own (s.heap.objs.size+1))) (s.heap.objs.size+1) (.ins C s.heap.objs.size []))
 {s with heap:=(s.heap.push zb3).push (zbk C s.heap.objs.size)}:=by
 have e1:(s.heap.push zb3).get? s.heap.objs.size=some zb3:=zN s.heap rfl;have e2:((s.heap.push zb3).push (zbk C s.heap.objs.size)).get? (s.heap.objs.size+1)=some (zbk C s.heap.objs.size):=by
  have:=zN (s.heap.push zb3) (o:=zbk C s.heap.objs.size) rfl;rwa[zcd] at this
 have e3:(s.heap.push zb3).Ns s.heap.objs.size (λ _=>none):=⟨zb3,#[],_,e1,rfl,(λ e he=>absurd he (by simp)),λ _=>rfl⟩;have I1:=I.laid (a:=s.heap.objs.size) (o:=.own (s.heap.objs.size+1)) (h':=s.heap.push zb3) (t':=s.toks) (λ b u q=>z6 _ q) (zF _) ⟨_,e1⟩;refine I1.laid (a:=s.heap.objs.size+1) (o:=.ins C s.heap.objs.size []) (t':=s.toks) (λ b u q=>z6 _ q) (Nat.le_of_eq (zcd _ _)) ?_;have ne:s.heap.objs.size≠s.heap.objs.size+1:=zM (Nat.lt_succ_self _);refine⟨by rw[Ai ne,Ap],za6 _,ne,e2,λ _=>none,(Heap.Ns1.of_empty e3).at λ o q=>z6 _ q,λ _=>zbv,λ y hy=>absurd rfl hy⟩
def eY {prog:Program}{w:World}{env:Env}{e:Expr}{f:Str}{pos:Pos}{s:Shared}{Q:Value->Shared->Prop}(hb:attributeBase e f env (eval e env)=eval e env)
 (h:wpAny (model prog w) A (eval e env) (λ o s₁=>wpAny (model prog w) A (getAttr o f true) Q E s₁) E s):wpAny (model prog w) A (eval (.Attribute e f pos) env) Q E s:=
 Attribute_any_ h (by rw[arm_eval_Attribute,hb])
end
abbrev wG (K:zr)(ta:TE)(f:Str):TE:=λ σ H Q=>ta σ H λ x H1=>∃a C dx fs v,x=.ref a/\H1 a=some (.ins C dx fs)/\WK K C/\IH K C f/\fs.lookup f=some v/\Q v H1
abbrev wH (K:zr)(ta tv:TE)(f:Str):TS:=λ D σ H=>tv σ H λ y H1=>ta σ H1 λ x H2=>∃a C dx fs,x=.ref a/\H2 a=some (.ins C dx fs)/\WK K C/\IH K C f/\fs.length<1000/\
 D.nx σ (upd H2 a (.ins C dx (E9 f y fs)))
section
variable {X:Cx}{o e value:Expr}{f:Str}{pos pos' bz:Pos}{ta tv:TE}
def nE (he:PE X e ta)(hb:attributeBase e f X.env (eval e X.env)=eval e X.env):PE X (.Attribute e f pos) (wG X.K ta f):=by
 intro pins s σ H Q I h;refine eY hb (Bk (he pins s σ H _ I h) λ u s1 zz=>?_);obtain⟨x,H1,I1,rx,a,C,dx,fs,v,ex,ea,c,n,l,q⟩:=zz;subst ex;obtain rfl:u=zad a:=rx;exact U8 I1 ea c n l λ u' s2 I2 ru=>⟨v,H1,I2,ru,q⟩
def nF (ha:PE X o ta)(hv:PE X value tv)(hs:swapsWith value (some (.Attribute o f pos')) pos.line X.env=pure false):PS X (.Assign [.Attribute o f pos'] value pos) (wH X.K ta tv f):=by
 intro pins s σ H D I h;refine plainObj_wpAny_Assign_Attribute (Bk (hv pins s σ H _ I h) λ u s1 ⟨y,H1,I1,ry,q⟩=>Bk (ha pins s1 σ H1 _ I1 q) λ ov s2 zz=>?_) hs;obtain⟨x,H2,I2,rx,a,C,dx,fs,ex,ea,c,n,l,q2⟩:=zz;subst ex;obtain rfl:ov=zad a:=rx;exact U9 I2 ea c n l ry λ s3 I3=>⟨σ,_,I3,q2⟩
end
structure BC (k:Nat)(A:Around):Prop where
 hd:A.handled=none
 dp:A.depth+3*k+5<recursionLimit
 un:A.units+16*k+200<cLine
def BC.mono {j k:Nat}{A:Around}(r:BC k A)(h:j<=k):BC j A:=⟨r.hd,by have:=r.dp;omega,by have:=r.un;omega⟩
def BC.deeper {k:Nat}{A:Around}(r:BC (k+1) A)(env:Env):BC k (A.deeper env):=
 ⟨r.hd,by have:=r.dp;show A.depth+1+3*k+5<_;omega,by have:=r.un;show A.units+3+16*k+200<_;omega⟩
def Ua {A:Around}{C:Addr}{us:List Value}{kw:List (Str×Value)}:(A.under (.builtin "type.__call__" ⟨.ref C::us,kw⟩)).depth=A.depth+1:=by
 first|rfl|simp[Around.under,Code.weight,Code.isCreation,Code.isGuard,Code.isCaller,Code.frames,Code.isFrame,guardIds]
def Ub {A:Around}{C:Addr}{us:List Value}{kw:List (Str×Value)}:(A.under (.builtin "type.__call__" ⟨.ref C::us,kw⟩)).units=A.units+1:=by
 first|rfl|simp[Around.under,Code.cUnits,Code.frames,Code.isFrame]
def BC.make {k:Nat}{A:Around}(r:BC (k+1) A)(C:Addr)(us:List Value)(kw:List (Str×Value)):BC k (A.under (.builtin "type.__call__" ⟨.ref C::us,kw⟩)):=
 ⟨r.hd,by have:=r.dp;rw[Ua];omega,by have:=r.un;rw[Ub];omega⟩
def BC.depth {k:Nat}{A:Around}(r:BC k A):A.depth<recursionLimit:=by have:=r.dp;omega
def BC.units {k:Nat}{A:Around}(r:BC k A):A.units+64<cLine:=by have:=r.un;omega
abbrev nG:TA:=λ _ H Q=>Q [] H
abbrev kR (ta:TE)(tr:TA):TA:=λ σ H Q=>ta σ H λ x H1=>tr σ H1 λ xs H2=>Q (x::xs) H2
section
variable {X:Cx}{e:Expr}{es:List Expr}{te:TE}{t:TA}{pos:Pos}
def Cn:PA X [] nG:=λ _ _ _ _ H Q I h=>zbn ⟨[],H,I,.nil,h⟩
def Bn (ha:PE X e te)(hr:PA X es t)(hs: ~~~(starEach (e::es) X.env=(false,eval e X.env)::starEach es X.env)):PA X (e::es) (kR te t):=by
 intro pos pins s σ H Q I h;rw[hs];show wpAny _ _ (spliced ((false,eval e X.env)::backTo pos (starEach es X.env))) _ _ s;refine zbh (Bk (ha pins s σ H _ I h) λ u s1 zz=>?_);obtain⟨x,H1,I1,r1,q1⟩:=zz;exact Bk (hr pos pins s1 σ H1 _ I1 q1) λ us s2 ⟨xs,H2,I2,r2,q2⟩=>⟨x::xs,H2,I2,.cons r1 r2,q2⟩
abbrev wI (t:TA):TE:=λ σ H Q=>t σ H λ xs H1=>xs.length<=sizeLine/\∀p,H1 p=none->Q (.ref p) (upd H1 p (.tup xs))
abbrev wJ (t:TA):TE:=λ σ H Q=>t σ H λ xs H1=>xs.length<=sizeLine/\∀p,H1 p=none->Q (.ref p) (upd H1 p (.lst xs))
def YD {x1}(h:PA X es t):PE X (.Tuple es x1 pos) (wI t):=by
 intro pins s σ H Q I hq;refine wpAny_Tuple_spliced (Bk (h pos pins s σ H _ I hq) λ us s1 ⟨xs,H1,I1,r,z,q⟩=>⟨by rw[<-r.length];exact z,?_⟩);have hf:H1 s1.heap.objs.size=none:=I1.Ar.fresh (zF _);refine⟨.ref s1.heap.objs.size,upd H1 s1.heap.objs.size (.tup xs),I1.laid (t':=s1.toks) (λ b u e=>z6 _ e) (zF _) ?_,rfl,q _ hf⟩;exact⟨z,us,r,⟨_,zN _ rfl,rfl,_,rfl⟩⟩
def Q9 (h:PA X es t):PE X (.List es pos) (wJ t):=by
 intro pins s σ H Q I hq;refine wpAny_List_spliced (Bk (h pos pins s σ H _ I hq) λ us s1 ⟨xs,H1,I1,r,z,q⟩=>⟨by rw[<-r.length];exact z,?_⟩);have hf:H1 s1.heap.objs.size=none:=I1.Ar.fresh (zF _);refine⟨.ref s1.heap.objs.size,upd H1 s1.heap.objs.size (.lst xs),I1.laid (t':=s1.toks) (λ b u e=>z6 _ e) (zF _) ?_,rfl,q _ hf⟩;exact⟨z,us,0,r,zN _ rfl⟩
end
noncomputable abbrev Sp:=List V->Hp->VK->XK->Prop
noncomputable abbrev Vl:=List Env->Hp->Shared->XK->Value->Shared->Prop
structure Uc (P:Program)(w:World)(K:zr)(mg:Str->Option Value)(base:Heap)(A:Around)(outer:List Env)(s:Shared)(H:Hp):Prop where
 frames:A.frames=some outer
 mod:Mod K mg base
 bs:∀b o,base.get? b=some o->s.heap.get? b=some o/\H b=none
 eK:base.objs.size<=s.heap.objs.size
 Ky:s.heap.FunFrames base outer
 mE:∀b∈Y8 outer,H b=none
 Ar:Gi P w H s.heap
 bare:AllBare s.gens
abbrev CE (outer:List Env)(P:Program)(w:World)(H:Hp)(s:Shared)(Q:VK)(u:Value)(s':Shared):Prop:=
 ∃v H',s'.os=s.os/\AllBare s'.gens/\Un (Y8 outer) [] H H' s.heap s'.heap/\Gi P w H' s'.heap/\RelV v u/\Q v H'
abbrev CR (CX:Vl)(outer:List Env)(P:Program)(w:World)(H:Hp)(s:Shared)(Q:VK)(E:XK)(r:Result)(s':Shared):Prop:=
 match r with
 | .ok (.ret u)=>CE outer P w H s Q u s'
 | .ok _=>False
 | .error e=>CX outer H s E e s'
structure Dr (P:Program)(w:World)(K:zr)(mg:Str->Option Value)(base:Heap)(CX:Vl)(k:Nat)(f:Addr)(fd:FuncData)(ps:List Str)(sp:Sp):Prop where
 len:∀vs H Q E,sp vs H Q E->vs.length=ps.length
 run:∀(A:Around) (outer:List Env) (s:Shared) (H:Hp) (args:Args) (us:List Value) (vs:List V) (Q:VK) (E:XK),BC k A->Uc P w K mg base A outer s H->BindsTo s fd args (ps.zip us)->Vals vs us->sp vs H Q E->
  codeAny (model P w) A (.call (.ref f) args) (CR CX outer P w H s Q E) s
def Uc.make {P:Program}{w:World}{K:zr}{mg:Str->Option Value}{base:Heap}{A:Around}{outer:List Env}{s:Shared}{H:Hp}(e:Uc P w K mg base A outer s H)(C:Addr)(us:List Value)(kw:List (Str×Value)):
 Uc P w K mg base (A.under (.builtin "type.__call__" ⟨.ref C::us,kw⟩)) outer s H:=⟨by first|exact e.frames|(simpa [Around.under,Code.envs,Code.isFrame,pushEnvs] using e.frames),e.mod,e.bs,e.eK,e.Ky,e.mE,e.Ar,e.bare⟩
section
variable {X:Cx}{pins:List (Addr×Obj)}{σ:St}{H:Hp}{s s':Shared}
def Inv.sD (I:Inv X pins σ H s):Uc X.prog X.w X.K X.mg X.base X.A X.stack s H:=
 ⟨I.ok.frames,I.ok.mod,I.bs,zal I.ok.eK I.sz,I.stack,I.Vi,I.Ar,I.bare⟩
def Inv.after {Q:VK}{u:Value}(I:Inv X pins σ H s)(h:CE X.stack X.prog X.w H s Q u s'):EP X pins σ Q u s':=by
 obtain⟨v,H',os,bare,un,Ar,r,q⟩:=h;obtain⟨hh,g,d,t,ut⟩:=s';obtain rfl:ut=s.os:=os;exact⟨v,H',I.call (h':=hh) (g':=g) (d':=d) (t':=t) (ch:=[]) un Ar bare (λ b z=>absurd z (by simp)),r,q⟩
end
abbrev sE (sp:Sp)(b5:List V)(E:XK)(t:TA):TE:=λ σ H Q=>t σ H λ vs H1=>sp (vs++b5) H1 Q E
abbrev sF (C:Addr)(sp:Sp)(b5:List V)(E:XK)(t:TA):TE:=λ σ H Q=>t σ H λ vs H1=>∀x dx,H1 x=none->H1 dx=none->dx≠x->
 sp (.ref x::(vs++b5)) (upd (upd H1 dx (.own x)) x (.ins C dx [])) (λ v H2=>v=.AL/\Q (.ref x) H2) E
abbrev Binds (K:zr)(fd:FuncData)(ps:List Str)(ds:List Value):Prop:=
 ∀(s:Shared) (us:List Value),K.In s.heap->(us++ds).length=ps.length->BindsTo s fd ⟨us,[]⟩ (ps.zip (us++ds))
def Binds.all {K:zr}{fd:FuncData}{ps:List Str}(h:∀us:List Value,us.length=ps.length->bindArgs fd ⟨us,[]⟩=pure (ps.zip us)):Binds K fd ps []:=λ s us _ hl=>by
 rw[zV] at hl ⊢;exact .of_eq (h us hl)
abbrev Gw (CX:Vl)(X:Cx)(E:XK):Prop:=∀(pins:List (Addr×Obj)) (σ:St) (H:Hp) (s:Shared) (e:Value) (s':Shared),Inv X pins σ H s->CX X.stack H s E e s'->X.xe e s'
section
variable {X:Cx}{CX:Vl}{k:Nat}{f C:Addr}{fd:FuncData}{ps:List Str}{sp:Sp}{b5:List V}{ds:List Value}{E:XK}{x m:Str}{p pos apos:Pos}{e o:Expr}{es:List Expr}{ta:TE}{t:TA}
def Qa {pins:List (Addr×Obj)}{σ:St}{H:Hp}{s:Shared}{Q:VK}{us:List Value}{vs:List V}(F:Dr X.prog X.w X.K X.mg X.base CX k f fd ps sp)(hr:BC k X.A)(hb:Binds X.K fd ps ds)(hd:Vals b5 ds)(hx:Gw CX X E)
 (I:Inv X pins σ H s) (r:Vals vs us) (h:sp (vs++b5) H Q E):wpAny (model X.prog X.w) X.A (call (.ref f) us) (EP X pins σ Q) X.xe s:=by
 have r2:Vals (vs++b5) (us++ds):=r.append hd;have hl:(us++ds).length=ps.length:=by rw[<-r2.length];exact F.len _ _ _ _ h
 refine wpAny_call (codeAny_mono (F.run X.A X.stack s H ⟨us,[]⟩ (us++ds) (vs++b5) Q E hr I.sD (hb s us I.Mz hl) r2 h) λ r s' hq=>?_);cases r with
 |error e=>exact hx pins σ H s e s' I hq
 |ok fl =>
  cases fl with
  |ret u=>exact I.after hq
  |next|brk|cont=>exact zbm hq
def Vm (F:Dr X.prog X.w X.K X.mg X.base CX k f fd ps sp)(hr:BC k X.A)(hg:Gl X x)(hm:X.mg x=some (.ref f))(hk:zah X.K (.ref f)=true)(hb:Binds X.K fd ps ds)(hd:Vals b5 ds)(hx:Gw CX X E)(ha:PA X (e::es) t)(aS:(x==("__debug__" : Str))=false:=by decide)(he: ~~~(starEach (e::es) X.env=(false,eval e X.env)::starEach es X.env))(ao: ~~~((backTo pos (starEach es X.env)).any (·.1)=false)):
 PE X (.Call (.Name x p) (e::es) [] pos) (sE sp b5 E t):=by
 intro pins s σ H Q I h;refine wpAny_Call_Name_kw (Q6 I hg hm ?_ aS);refine PySem.W.callWith_K (h₀:=X.base) I.ok.mod.Y7 hk (Bk (ha pos pins s σ H _ I h) λ us s1 ⟨vs,H1,I1,r,q⟩=>⟨I1.Mz,?_⟩) he ao;exact Qa F hr hb hd hx I1 r q
structure Mk (K:zr)(C f:Addr):Prop where
 makes:PySem.W.makesIn K C=true
 init:zaa K (.ref C) "__init__" = some (some (.ref f))
 fn:PySem.W.isFn K (.ref f)=true
 kp:zah K (.ref C)=true
def YE {pins:List (Addr×Obj)}{σ:St}{H:Hp}{s:Shared}{Q:VK}{us:List Value}{vs:List V}(M:Mk X.K C f)(F:Dr X.prog X.w X.K X.mg X.base CX k f fd ps sp)(hr:BC (k+1) X.A)(hb:Binds X.K fd ps ds)(hd:Vals b5 ds)
 (hx:Gw CX X E) (I:Inv X pins σ H s) (r:Vals vs us)
 (h:∀x dx,H x=none->H dx=none->dx≠x->sp (.ref x::(vs++b5)) (upd (upd H dx (.own x)) x (.ins C dx [])) (λ v H2=>v=.AL/\Q (.ref x) H2) E):
 wpAny (model X.prog X.w) X.A (call (.ref C) us) (EP X pins σ Q) X.xe s:=by
 have hq:=h (s.heap.objs.size+1) s.heap.objs.size (I.Ar.fresh (Nat.le_succ _)) (I.Ar.fresh (zF _)) (zM (Nat.lt_succ_self _));have I2:=Inv.made (C:=C) I;have r2:Vals (V.ref (s.heap.objs.size+1)::(vs++b5)) (zad (s.heap.objs.size+1)::(us++ds)):=.cons rfl (r.append hd);have hl:(zad (s.heap.objs.size+1)::us++ds).length=ps.length:=by
  have e:=r2.length;rw[F.len _ _ _ _ hq] at e;exact e.symm
 refine wpAny_call (YC (f:=f) I.Mz M.makes M.init (beq_iff_eq.mp M.fn) (codeAny_mono (F.run _ X.stack _ _ ⟨zad (s.heap.objs.size+1)::us,[]⟩ (zad (s.heap.objs.size+1)::(us++ds)) _ _ E (hr.make C us [])
  (I2.sD.make C us []) (hb _ (zad (s.heap.objs.size+1)::us) I2.Mz hl) r2 hq) λ r s' ff=>?_))
 cases r with
 |error e=>exact hx pins σ _ _ e s' I2 ff
 |ok fl =>
  cases fl with
  |ret u =>
   obtain⟨v,H',I3,rv,ev,q3⟩:=I2.after ff;subst ev;exact⟨rv,⟨V.ref (s.heap.objs.size+1),H',I3,rfl,q3⟩⟩
  |next|brk|cont=>exact zbm ff
def Vn (M:Mk X.K C f)(F:Dr X.prog X.w X.K X.mg X.base CX k f fd ps sp)(hr:BC (k+1) X.A)(hg:Gl X x)(hm:X.mg x=some (.ref C))(hb:Binds X.K fd ps ds)(hd:Vals b5 ds)(hx:Gw CX X E)(ha:PA X (e::es) t)(aS:(x==("__debug__" : Str))=false:=by decide)(he: ~~~(starEach (e::es) X.env=(false,eval e X.env)::starEach es X.env))(ao: ~~~((backTo pos (starEach es X.env)).any (·.1)=false)):
 PE X (.Call (.Name x p) (e::es) [] pos) (sF C sp b5 E t):=by
 intro pins s σ H Q I h;refine wpAny_Call_Name_kw (Q6 I hg hm ?_ aS);refine PySem.W.callWith_K (h₀:=X.base) I.ok.mod.Y7 M.kp (Bk (ha pos pins s σ H _ I h) λ us s1 ⟨vs,H1,I1,r,q⟩=>⟨I1.Mz,?_⟩) he ao;exact YE M F hr hb hd hx I1 r q
end
abbrev PK (X:Cx)(i6:List Keyword)(t:TA):Prop:=
 ∀(pos:Pos) (pins:List (Addr×Obj)) (s:Shared) (σ:St) (H:Hp) (Q:List V->Hp->Prop),Inv X pins σ H s->t σ H Q->wpAny (model X.prog X.w) X.A (evalAll ((backToKw pos (keywordEach i6 X.env)).map (·.2))) (AP X pins σ Q) X.xe s
section
variable {X:Cx}{CX:Vl}{k:Nat}{f C:Addr}{fd:FuncData}{ps ks:List Str}{sp:Sp}{E:XK}{x m:Str}{p pos apos mt:Pos}{e o:Expr}{es:List Expr}{i6:List Keyword}{te ta:TE}{t tk:TA}{nm:Option Str}
def nI:PK X [] nG:=λ _ _ _ _ H Q I h=>wpAny_evalAll_nil ⟨[],H,I,.nil,h⟩
def eZ (ha:PE X e te)(hr:PK X i6 t):PK X (⟨nm,e,mt⟩::i6) (kR te t):=by
 intro pos pins s σ H Q I h;show wpAny _ _ (evalAll ((do let v <-eval e X.env;standAt pos;pure v)::(backToKw pos (keywordEach i6 X.env)).map (·.2))) _ _ s;refine wpAny_evalAll_cons (wpAny_bind (Bk (ha pins s σ H _ I h) λ u s1 ⟨x,H1,I1,r1,q1⟩=>wpAny_bind (wpAny_standAt (wpAny_pure ?_))));exact Bk (hr pos pins s1 σ H1 _ I1 q1) λ us s2 ⟨xs,H2,I2,r2,q2⟩=>⟨x::xs,H2,I2,.cons r1 r2,q2⟩
variable {g:List Value->List Value->List Value}{gV:List V->List V->List V}
end
structure Ac (N P:List Str)(sc:Scope):Prop where
 kind:sc.kind=.function
 co:sc.isCoroutine=false
 gen:sc.isGenerator=false
 nd:N.Nodup
 pre:N.take P.length=P
 xM:∀x∈P,sc.names.lookup x=some .local\/sc.names.lookup x=some .cell
 nJ:∀y∈sc.names,y.2≠.free
def OH {kindOf:Str->Option NameKind}{x:Str}:∀ {binds:List (Str×Value)}{m:Str->Option Value},(∀v,(x,v)∉binds)->bindL kindOf binds m x=m x
 |[],_,_=>rfl
 |(n,v)::r,m,h=>by
  unfold bindL;rw[OH λ w hw=>h w (zw _ hw)];split
  ·have:x≠n:=by rintro rfl;exact h v zv
   simp[this]
  ·rfl
def OI {kindOf:Str->Option NameKind}{x:Str}:∀ {binds:List (Str×Value)}{m:Str->Option Value},(∀v,(x,v)∉binds)->bindC kindOf binds m x=m x
 |[],_,_=>rfl
 |(n,v)::r,m,h=>by
  unfold bindC;rw[OI λ w hw=>h w (zw _ hw)];split
  ·rfl
  ·have:x≠n:=by rintro rfl;exact h v zv
   simp[this]
def OJ {kindOf:Str->Option NameKind}{x:Str}{v:Value}:∀ {P:List Str}{vs:List Value}{i:Nat}{m:Str->Option Value},P.Nodup->P[i]?=some x->vs[i]?=some v->kindOf x=some .local->
 bindL kindOf (P.zip vs) m x=some v
 |[],_,_,_,_,h,_,_|_::_,[],_,_,_,_,h,_=>by simp at h
 |p::P,w::vs,0,m,nd,h1,h2,hk=>by
  simp at h1 h2;subst h1;subst h2;show bindL kindOf ((p,w)::P.zip vs) m p=_;unfold bindL;rw[OH λ v hv=>(zag.mp nd).1 (List.of_mem_zip hv).1,if_pos hk];simp
 |p::P,w::vs,i+1,m,nd,h1,h2,hk=>by
  show bindL kindOf ((p,w)::P.zip vs) m x=_;unfold bindL;exact OJ (i:=i) (zag.mp nd).2 (by simpa using h1) (by simpa using h2) hk
def OL {kindOf:Str->Option NameKind}{x:Str}{v:Value}:∀ {P:List Str}{vs:List Value}{i:Nat}{m:Str->Option Value},P.Nodup->P[i]?=some x->vs[i]?=some v->kindOf x≠some .local->
 bindC kindOf (P.zip vs) m x=some v
 |[],_,_,_,_,h,_,_|_::_,[],_,_,_,_,h,_=>by simp at h
 |p::P,w::vs,0,m,nd,h1,h2,hk=>by
  simp at h1 h2;subst h1;subst h2;show bindC kindOf ((p,w)::P.zip vs) m p=_;unfold bindC;rw[OI λ v hv=>(zag.mp nd).1 (List.of_mem_zip hv).1,if_neg hk];simp
 |p::P,w::vs,i+1,m,nd,h1,h2,hk=>by
  show bindC kindOf ((p,w)::P.zip vs) m x=_;unfold bindC;exact OL (i:=i) (zag.mp nd).2 (by simpa using h1) (by simpa using h2) hk
abbrev start (N:List Str)(vs:List V):St:=vs.map some++zE (N.length-vs.length) none
abbrev RL (CX:Vl)(P:Program)(w:World)(K:zr)(mg:Str->Option Value)(base:Heap)(N:List Str)(qual:Str)(scope:Scope)(f:Addr)(cd:Value)(A:Around)(outer:List Env)(s:Shared)(H:Hp)(E:XK):Cx where
 prog:=P
 w:=w
 K:=K
 mg:=mg
 base:=base
 A:=A.deeper (envOfC qual scope s.heap.objs.size f cd)
 N:=N
 s₀:=s
 H₀:=H
 env:=envOfC qual scope s.heap.objs.size f cd
 outer:=outer
 stack:=envOfC qual scope s.heap.objs.size f cd::outer
 ex:=[]
 calm:=true
 fn:=λ _=>true
 pn:=[]
 xe:=λ e s'=>wpAny (model P w) (A.deeper (envOfC qual scope s.heap.objs.size f cd)) (leaving (envOfC qual scope s.heap.objs.size f cd) e) (λ _ i7=>CX outer H s E e i7) (λ e' i7=>CX outer H s E e' i7) s'
def RM {sc:Scope}{n:Nat}{x:Str}(h:sc.names.lookup x=some .cell):∃c,(cellsFrom n sc.names []).lookup x=some c:=by
 have q:=PySem.W.cellsFrom_some sc.names n [] (.inl h);exact zbl.mp q
def WL {CX:Vl}{P:Program}{w:World}{K:zr}{mg:Str->Option Value}{base:Heap}{N ps:List Str}{qual:Str}{scope:Scope}{f:Addr}{cd:Value}{A:Around}{outer:List Env}{s s1:Shared}{H:Hp}{E:XK}{us:List Value}{vs:List V}
 (S:Ac N ps scope) (hd:A.handled=none) (e0:Uc P w K mg base A outer s H) (hl:vs.length=ps.length) (r:Vals vs us)
 (x:InCallC s s.heap.objs.size (bindL (envOfC qual scope s.heap.objs.size f cd).kindOf (ps.zip us) λ _=>none) (cellsFrom (s.heap.objs.size+1) scope.names []) (bindC (envOfC qual scope s.heap.objs.size f cd).kindOf (ps.zip us) λ _=>none) s1):
 Inv (RL CX P w K mg base N qual scope f cd A outer s H E) [] (start N vs) H s1:=by
 have ao:ps.length<=N.length:=by have:=congrArg List.length S.pre;rw[zaf] at this;omega
 obtain⟨h1,tk,rfl,hk⟩:=x.done;have i8:∀b:Addr,b∉(RL CX P w K mg base N qual scope f cd A outer s H E).ex:=λ b z=>absurd (show b∈([]:List Addr) from z) (by simp);refine⟨⟨e0.mod,S.kind,rfl,rfl,zF _,λ y z c h1 h2=>?_,λ y hy=>?_,λ y c _ h=>?_,λ _=>hd,Around.frames_deeper e0.frames,.inr ⟨rfl,rfl⟩,λ b z=>absurd z (i8 b),e0.bs,e0.eK,λ b _ _=>i8 b,λ b z=>absurd z (i8 b),e0.Ky,e0.mE⟩,
  rfl,e0.bare,Un.kept hk,⟨_,x.toInCall.ns,λ i y v h1 h2 h3=>?_⟩,λ y c h=>⟨_,x.cell y c h⟩,e0.Ar.fresh (zF _),λ y c h=>?_,λ p hp=>absurd (show p∈([]:List (Addr×Obj)) from hp) (by simp),e0.Ar.kept hk,?_⟩
 ·exact name_of_addr x.apart (zce h1) (zce h2)
 ·have hy:scope.names.lookup y=some .cell\/scope.names.lookup y=some .free:=hy;rcases hy with hy|hy
  ·exact RM hy
  ·exact absurd rfl (S.nJ _ (zce hy))
 ·exact zam (x.above y c (zce h))
 ·have hi:i<vs.length:=by
   unfold start at h2;by_cases hi:i<vs.length
   ·exact hi
   ·rw[zb4 (by simpa using hi)] at h2;rw[zbd] at h2;split at h2<;>cases h2
  have ha:vs[i]?=some v:=by
   unfold start at h2;rw[zar (by simpa using hi),zU] at h2;cases e:vs[i]? with
   |none=>rw[e] at h2;cases h2
   |some a=>rw[e] at h2;cases h2;rfl
  obtain⟨u,hu,rv⟩:=r.get ha;have hp:ps[i]?=some y:=by
   rw[<-S.pre,List.getElem?_take_of_lt (by omega)];exact h1
  have rf:ps.Nodup:=by rw[<-S.pre];exact S.nd.sublist (List.take_sublist _ _)
  refine⟨u,rv,?_⟩;rcases S.xM y (zI hp) with k|k
  ·exact .inl ⟨k,OJ rf hp hu k⟩
  ·obtain⟨c,e⟩:=RM (n:=s.heap.objs.size+1) k;refine .inr ⟨.inl k,c,e,?_⟩;have q:=x.cell y c e;rw[OL rf hp hu (by show scope.names.lookup y≠_;rw[k];decide)] at q;exact q
 ·exact e0.Ar.fresh (zam (x.above y c (zce h)))
 ·unfold start;show _=N.length;rw[zW,zu,zc0];omega
def Vo {CX:Vl}{P:Program}{w:World}{K:zr}{mg:Str->Option Value}{base:Heap}{k:Nat}{f:Addr}{name qual:Str}{params:Arguments}{body:List Stmt}{scope:Scope}{dV kV doc pm B7 ct oc:Value}{an od:Option Addr}
 {TR:Array (Option Value)} {N ps:List Str} {sp:Sp} (lk:K.lookup f=some ⟨oc,od,.func (zaj name qual params body scope dV kV doc pm an B7 ct),TR⟩) (bc:zb5 K B7 qual=true) (S:Ac N ps scope)
 (len:∀vs H Q E,sp vs H Q E->vs.length=ps.length)
 (bN:∀(A:Around) (outer:List Env) (s:Shared) (H:Hp) (vs:List V) (Q:VK) (E:XK),BC k (A.deeper (envOfC qual scope s.heap.objs.size f B7))->sp vs H Q E->
  ∃t,Vj (RL CX P w K mg base N qual scope f B7 A outer s H E) body t/\t {nx:=λ _ H'=>Q .AL H',rt:=Q} (start N vs) H):
 Dr P w K mg base CX (k+1) f (zaj name qual params body scope dV kV doc pm an B7 ct) ps sp:=by
 refine⟨len,λ A outer s H args us vs Q E hr e0 hb r bF=>?_⟩;have hl:=len _ _ _ _ bF;have KX:K.In s.heap:=e0.mod.Y7.keeps λ b o e=>(e0.bs b o e).1;have lim:s.heap.NoLimit:=e0.mod.nolimit.keeps λ b o e=>(e0.bs b o e).1;have i9:∀y∈ps.zip us,scope.names.lookup y.1=some .local\/(scope.names.lookup y.1=some .cell/\((cellsFrom (s.heap.objs.size+1) scope.names []).lookup y.1).isSome=true):=λ⟨n,v⟩ hy=>by
  rcases S.xM n (List.of_mem_zip hy).1 with q|q
  ·exact .inl q
  ·exact .inr ⟨q,PySem.W.cellsFrom_some _ _ _ (.inl q)⟩
 refine codeAny_call_function hr.depth (KX _ _ lk) rfl S.co S.gen rfl (PySem.W.codeRec_of KX bc) (hb _ _ _ _ ?_);refine wpAny_newFunctionEnv_cells S.kind i9 λ env he s1 x=>?_;subst he;refine⟨lim.keeps x.toInCall.keep,codeAny_func ?_⟩;obtain⟨t,ht,hq⟩:=bN A outer s H vs Q E (hr.deeper _) bF;have I:Inv (RL CX P w K mg base N qual scope f B7 A outer s H E) [] (start N vs) H s1:=WL S hr.hd e0 hl r x;refine wpAny_mono (ht [] s1 (start N vs) H _ I hq) (λ fl s' hs=>?_) λ e s' hs=>hs;have fin:∀ {σ':St} {H':Hp} {v:V} {u:Value},Inv (RL CX P w K mg base N qual scope f B7 A outer s H E) [] σ' H' s'->RelV v u->Q v H'->CE outer P w H s Q u s':=
  fun {σ' H' v u} J rv q=>⟨v,H',J.os,J.bare,J.base,J.Ar,rv,q⟩
 cases fl with
 |ret u =>
  obtain⟨v,σ',H',J,rv,q⟩:=hs;exact fin J rv q
 |next =>
  obtain⟨σ',H',J,q⟩:=hs;exact fin (v:=V.AL) (u:=Value.none) J rfl q
 |brk =>
  obtain⟨_,_,_,q⟩:=hs;exact zbm q
 |cont =>
  obtain⟨_,_,_,q⟩:=hs;exact zbm q
section
variable {X:Cx}{x:Str}{p pos:Pos}{e:Expr}{es:List Expr}{t:TA}{id T:String}{r:List V->Hp->VK->Prop}
abbrev wK (r:List V->Hp->VK->Prop)(t:TA):TE:=λ σ H Q=>t σ H λ vs H1=>r vs H1 Q
def RN (hc:F5 X (.builtin id) r)(hg:Gl X x)(hm:X.mg x=none)(hv:bootBuiltins x=some (.builtin id))(ha:PA X (e::es) t)(hn:x ≠ "__name__" := by decide)(aS:(x==("__debug__" : Str))=false:=by decide)(he: ~~~(starEach (e::es) X.env=(false,eval e X.env)::starEach es X.env))(ao: ~~~((backTo pos (starEach es X.env)).any (·.1)=false)):PE X (.Call (.Name x p) (e::es) [] pos) (wK r t):=by
 intro pins s σ H Q I h;refine wpAny_Call_Name_kw (Dz I hg hm hv ?_ hn aS);exact PyProof.Rows.callWith_builtin1 (Bk (ha pos pins s σ H _ I h) λ us s1 ⟨vs,H1,I1,r1,q1⟩=>hc pins s1 σ H1 vs us Q I1 r1 q1) he ao
def OM (hc:F5 X (.type T) r)(hg:Gl X x)(hm:X.mg x=none)(hv:bootBuiltins x=some (.type T))(ha:PA X (e::es) t)(hn:x ≠ "__name__" := by decide)(aS:(x==("__debug__" : Str))=false:=by decide)(he: ~~~(starEach (e::es) X.env=(false,eval e X.env)::starEach es X.env))(ao: ~~~((backTo pos (starEach es X.env)).any (·.1)=false)):PE X (.Call (.Name x p) (e::es) [] pos) (wK r t):=by
 intro pins s σ H Q I h;refine wpAny_Call_Name_kw (Dz I hg hm hv ?_ hn aS);exact zai (Bk (ha pos pins s σ H _ I h) λ us s1 ⟨vs,H1,I1,r1,q1⟩=>hc pins s1 σ H1 vs us Q I1 r1 q1) he ao
end
end L2
namespace HT
open PySem PyProof.Rows
abbrev lexLt:List Int->List Int->Bool
 |[],[]=>false
 |[],_::_=>true
 |_::_,[]=>false
 |x::xs,y::ys=>if x=y then lexLt xs ys else decide (x<y)
def Cy (x y:Int)(xs ys:List Int):lexLt (x::xs) (y::ys)=if x=y then lexLt xs ys else decide (x<y):=rfl
def C1:lexLt [] []=false:=rfl
def MC (y:Int)(ys:List Int):lexLt [] (y::ys)=true:=rfl
def MD (x:Int)(xs:List Int):lexLt (x::xs) []=false:=rfl
def RO (A:Around)(s:Shared)(a:Int)(t:Tok)(c:Int)(u:Tok):∃e,SeqAt.EqAt A s (.int a t) (.int c u) e/\(e=true↔a=c):=
 ⟨(a==c),SeqAt.EqAt.int_int a t c u,by simp⟩
def RP (A:Around)(s:Shared)(a:Int)(t:Tok)(c:Int)(u:Tok)(prog:Program)(w:World)(E:Value->Shared->Prop)(Q:Value->Shared->Prop)(h:Q (.bool (decide (a<c))) s):
 wpAny (model prog w) A (richCompare .Lt (.int a t) (.int c u)) Q E s:=
 (PyProof.Rows.lt_int h:wpAny (model prog w) A (compareOp .Lt (.int a t) (.int c u)) Q E s)
section
open PySem.SeqAt
open PySem.AutoSeq1 (wpAny_loadPart')
open PySem.MeetsSeq PySem.MeetsSeq2 PySem.MeetsSeq3
def O9 (l b:Addr)(items aq:Array Value)(n n2:Nat)(dd fg:Option Addr)(sl cr:Array (Option Value))(ns ms:List Int)(hi:IntsAre items.toList ns)(hj:IntsAre aq.toList ms):
 Meets (Builtin.«tuple.__lt__» ⟨[.ref l,.ref b],[]⟩)
  (λ _ R s=>s.heap.get? l=some {cls:=.type "tuple",dict:=dd,data:=.seq items n,slots:=sl}/\s.heap.get? b=some {cls:=.type "tuple",dict:=fg,data:=.seq aq n2,slots:=cr}/\
   R (.ok (.ret (.bool (lexLt ns ms)))) s):=
 .of_wp λ prog w A R s h=>by
  obtain⟨hp,g,d,tk,os⟩:=s;obtain⟨hl,hb,h⟩:=h;have f2:=AutoSeq1.sub_tuple_tuple;have z1:items.size=ns.length:=by rw[<-hi.length];simp
  have z2:aq.size=ms.length:=by rw[<-hj.length];simp
  wp_walk using wpAny_loadPart' hl,wpAny_loadPart' hb,wpAny_forIn_list _ (λ rest b s'=>b.1=none/\s'=⟨hp,g,d,tk,os⟩/\∃(vs ws:List Value) (cu ik:List Int),rest=vs.zip ws/\
   IntsAre vs cu/\IntsAre ws ik/\cu.length+aq.size=ik.length+items.size/\R (.ok (.ret (.bool (lexLt cu ik)))) ⟨hp,g,d,tk,os⟩) _
  case turn =>
   rintro ⟨y,x⟩ rest b s' ⟨ay,rfl,vs,ws,cu,ik,hz,mw,ln,hlen,hR⟩;cases mw with
   |nil=>rw[List.zip_nil_left] at hz;cases hz
   |cons a t mx =>
    cases ln with
    |nil=>rw[List.zip_nil_right] at hz;cases hz
    |cons c u my =>
     rw[List.zip_cons_cons] at hz;injection hz with ja bf
     injection ja with hy hx
     subst hy hx;rw[Cy] at hR;simp only[z7] at hlen;obtain⟨e,he,cv⟩:=RO A.in1 ⟨hp,g,d,tk,os⟩ a t c u;refine wpAny_bind (he prog w _ _ ?_);cases e with
     |true =>
      rw[if_pos (cv.mp rfl)] at hR
      wp_walk
      exact⟨rfl,rfl,_,_,_,_,bf,mx,my,by omega,hR⟩
     |false =>
      rw[if_neg (λ q=>absurd (cv.mpr q) zO)] at hR;have jb:=RP A.in1 ⟨hp,g,d,tk,os⟩ a t c u prog w
      wp_walk using jb
      exact⟨_,rfl,by simpa using hR⟩
  case fin =>
   rintro ⟨b1,b2⟩ s' ⟨ay,rfl,vs,ws,cu,ik,hz,mw,ln,hlen,hR⟩;simp only at ay;subst ay;have hv:lexLt cu ik=decide (items.size<aq.size):=by
    cases mw with
    |nil =>
     cases ln with
     |nil =>
      simp only[List.length_nil] at hlen;rw[C1];exact (decide_eq_false (by omega)).symm
     |cons c u hw =>
      simp only[List.length_nil,z7] at hlen;rw[MC];exact (decide_eq_true (by omega)).symm
    |cons a t hv =>
     cases ln with
     |nil =>
      simp only[List.length_nil,z7] at hlen;rw[MD];exact (decide_eq_false (by omega)).symm
     |cons c u hw =>
      rw[List.zip_cons_cons] at hz;cases hz
   rw[hv] at hR
   wp_walk
   exact⟨_,rfl,by simpa [Builtin.Tuple.tupleCompareSizes] using hR⟩
  case h =>
   exact⟨rfl,rfl,items.toList,aq.toList,ns,ms,rfl,hi,hj,by omega,h⟩
end
section
variable {prog:Program}{w:World}{A:Around}{E:Value->Shared->Prop}{s:Shared}
def II {l b:Addr}{items aq:Array Value}{ns ms:List Int}{Q:Value->Shared->Prop}(hl:IsTup s.heap l items)(hb:IsTup s.heap b aq)(hi:IntsAre items.toList ns)(hj:IntsAre aq.toList ms)
 (hu:A.units<cLine) (h:Q (.bool (lexLt ns ms)) s):wpAny (model prog w) A (compareOp .Lt (.ref l) (.ref b)) Q E s:=by
 obtain⟨⟨cls,dd,data,sl⟩,ho,hc,n,hd⟩:=id hl;obtain⟨⟨mz,fg,data2,cr⟩,jc,jd,n2,hd2⟩:=id hb;simp only at hc hd jd hd2;subst hc hd jd hd2;exact richCompare_meets_room (op:=.Lt) ⟨_,ho,rfl⟩ ⟨_,jc,rfl⟩ PySem.F.slot_tuple_lt PySem.F.entry_tuple_lt (PySem.F.args_tuple_lt_2 _ _) (O9 l b items aq n n2 dd fg sl cr ns ms hi hj)
  ⟨ho,jc,show Value.bool (lexLt ns ms)≠Value.notImplemented/\Q (.bool (lexLt ns ms)) s from ⟨(λ x=>nomatch x),h⟩⟩ hu
abbrev ME (n d:Nat):Option Int->Nat
 |none=>d
 |some v=>if v<0 then (v+(n:Int)).toNat else min v.toNat n
def YF (n d:Nat):ME n d none=d:=rfl
def Qb (n d k:Nat):ME n d (some (k:Int))=min k n:=by
 show (if (k:Int)<0 then ((k:Int)+(n:Int)).toNat else min (k:Int).toNat n)=min k n;rw[if_neg (by omega),zat]
end
end HT
namespace L2
open PySem PySem.Spec PyProof.Rows
noncomputable abbrev TO:=St->Hp->(Option Int->Hp->Prop)->Prop
abbrev PO (X:Cx)(e:Option Expr)(t:TO):Prop:=
 ∀(pins:List (Addr×Obj)) (s:Shared) (σ:St) (H:Hp) (Q:Option Int->Hp->Prop),Inv X pins σ H s->t σ H Q->
  wpAny (model X.prog X.w) X.A (evalPart e X.env) (λ u s'=>∃o H',Inv X pins σ H' s'/\IsPart u o/\Q o H') X.xe s
abbrev fA:TO:=λ _ H Q=>Q none H
abbrev sG (t:TE):TO:=λ σ H Q=>t σ H λ x H1=>∃i,x=.int i/\Q (some i) H1
def intsAre_of {ns:List Int}:∀ {us:List Value},Vals (ns.map V.int) us->IntsAre us ns:=by
 induction ns with
 |nil=>intro us r;rw[zbr] at r;cases r;exact .nil
 |cons n ns ih =>
  intro us r;rw[zx] at r;cases r with
  |cons r1 r2 =>
   obtain⟨t,e⟩:=r1;subst e;exact .cons n t (ih r2)
section
variable {X:Cx}{e:Expr}{te:TE}{lo hi:Option Expr}{tl th:TO}{pos p2:Pos}
def fB:PO X none fA:=by
 intro pins s σ H Q I h;rw[evalPart_none];exact wpAny_pure ⟨none,H,I,.none,h⟩
def fC (h:PE X e te):PO X (some e) (sG te):=by
 intro pins s σ H Q I hw;rw[evalPart_some];refine Bk (h pins s σ H _ I hw) λ u s1 zz=>?_;obtain⟨x,H1,I1,r1,q1⟩:=zz;obtain⟨i,rfl,q⟩:=q1;obtain⟨t,rfl⟩:=r1;exact⟨some i,H1,I1,.int i t,q⟩
abbrev xN (X:Cx)(r:V->Option Int->Option Int->Hp->VK->Prop):Prop:=
 ∀(pins:List (Addr×Obj)) (s:Shared) (σ:St) (H:Hp) (x:V) (v vl vu:Value) (lo hi:Option Int) (sl:Addr) (Q:VK),Inv X pins σ H s->RelV x v->s.heap.IsSliceOf sl vl vu .none->IsPart vl lo->IsPart vu hi->r x lo hi H Q->
  ∃T id,typeLookup (.type T) "__getitem__" = pure (some (.builtin id))/\s.TypeIs v T/\wpAny (model X.prog X.w) X.A (getItem v (.ref sl)) (EP X pins σ Q) X.xe s
abbrev yO (r:V->Option Int->Option Int->Hp->VK->Prop)(te:TE)(tl th:TO):TE:=λ σ H Q=>te σ H λ x H1=>tl σ H1 λ l H2=>th σ H2 λ u H3=>r x l u H3 Q
def YG {r:V->Option Int->Option Int->Hp->VK->Prop}(hr:xN X r)(he:PE X e te)(hl:PO X lo tl)(hu:PO X hi th):PE X (.Subscript e (.Slice lo hi none p2) pos) (yO r te tl th):=by
 intro pins s σ H Q I h;refine Subscript_ (Bk (he pins s σ H _ I h) λ v s1 zz=>?_);obtain⟨x,H1,I1,r1,q1⟩:=zz;refine wpAny_Slice (Bk (hl pins s1 σ H1 _ I1 q1) λ vl s2 ⟨l,H2,I2,pl,q2⟩=>Bk (hu pins s2 σ H2 _ I2 q2) λ vu s3 zz=>?_);obtain⟨u,H3,I3,pu,q3⟩:=zz;rw[evalPart_none];refine wpAny_pure ?_;have I4:Inv X pins σ H3 {s3 with heap:=s3.heap.push {cls:=.type "slice",data:=.fields #[vl,vu,.none]} }:=I3.kept (t':=s3.toks) λ b ob q=>z6 _ q;obtain⟨T,id,hT,ht,hg⟩:=hr pins {s3 with heap:=s3.heap.push {cls:=.type "slice",data:=.fields #[vl,vu,.none]} } σ H3 x v vl vu l u s3.heap.objs.size Q I4 r1 (Heap.IsSliceOf.new ..) pl pu q3;show wpAny (model X.prog X.w) X.A (subscriptTail e (.Slice lo hi none p2) v (.ref s3.heap.objs.size)) (EP X pins σ Q) X.xe {s3 with heap:=s3.heap.push {cls:=.type "slice",data:=.fields #[vl,vu,.none]} };exact tail_any (ops:=[.ref s3.heap.objs.size,v]) ht hT hg (by with_unfolding_all rfl)
abbrev YH (xs:List V)(lo hi:Option Int):List V:=(xs.drop (HT.ME xs.length 0 lo)).take (HT.ME xs.length xs.length hi-HT.ME xs.length 0 lo)
def RQ (xs:List V)(lo hi:Option Int):(YH xs lo hi).length<=xs.length:=by
 unfold YH;rw[zaf,zcf];omega
abbrev sH (K:zr):R2:=λ x y H Q=>∃a b ns ms,x=.ref a/\y=.ref b/\EC K H a (ns.map V.int)/\EC K H b (ms.map V.int)/\Q (.bl (HT.lexLt ns ms)) H
def YI (hu:X.A.units<cLine):Gv X (compareOp .Lt) (sH X.K):=by
 intro pins s σ H x y v u Q I rx ry h;obtain⟨a,b,ns,ms,rfl,rfl,ha,hb,q⟩:=h;cases rx;cases ry;obtain⟨aa,r1,p1,_⟩:=I.tuple ha;obtain⟨aP,r2,p2,_⟩:=I.tuple hb;have i1:IntsAre aa.toArray.toList ns:=intsAre_of r1;have i2:IntsAre aP.toArray.toList ms:=intsAre_of r2;exact HT.II p1 p2 i1 i2 hu ⟨.bl (HT.lexLt ns ms),H,I,rfl,q⟩
end
abbrev ON (n:Nat)(i:Int):Option Nat:=if 0<=i then (if i<n then some i.toNat else none) else if -(n:Int)<=i then some (i+n).toNat else none
abbrev RS {α:Type}(xs:List α)(i:Int):Option α:=(ON xs.length i).bind λ j=>xs[j]?
def Vp {n:Nat}{i:Int}{j:Nat}(h:ON n i=some j):seqIndex? i n=some j/\j<n/\-(n:Int)<=i/\i<n:=by
 unfold ON at h;by_cases h0:0<=i
 ·rw[if_pos h0] at h;by_cases h1:i<n
  ·rw[if_pos h1] at h;have e:i.toNat=j:=zT h;exact⟨by rw[seqIndex_of h0 h1,e],by omega,by omega,h1⟩
  ·rw[if_neg h1] at h;cases h
 ·rw[if_neg h0] at h;by_cases h1 : -(n:Int)<=i
  ·rw[if_pos h1] at h;have e:(i+n).toNat=j:=zT h;exact⟨by rw[seqIndex_neg (by omega) h1,e],by omega,h1,by omega⟩
  ·rw[if_neg h1] at h;cases h
def Vq {α:Type}{xs:List α}{i:Int}{v:α}(h:RS xs i=some v):∃j,seqIndex? i xs.length=some j/\xs[j]?=some v/\j<xs.length/\-(xs.length:Int)<=i/\i<xs.length:=by
 unfold RS at h;cases e:ON xs.length i with
 |none=>rw[e] at h;cases h
 |some j =>
  rw[e] at h;obtain⟨h1,h2,h3,h4⟩:=Vp e;exact⟨j,h1,h,h2,h3,h4⟩
abbrev HA (b:Expr):Prop:=∀o i,subscripted b false o i=operate [o,i] (getItem o i)
abbrev fD (X:Cx)(r:R2):Prop:=
 ∀(value slice:Expr) (pins:List (Addr×Obj)) (s:Shared) (σ:St) (H:Hp) (x y:V) (v u:Value) (Q:VK),Inv X pins σ H s->RelV x v->RelV y u->r x y H Q->
  subscripted slice false v u=operate [v,u] (getItem v u)->wpAny (model X.prog X.w) X.A (subscriptTail value slice v u) (EP X pins σ Q) X.xe s
abbrev yP (X:Cx)(id:String)(r:V->List V->Hp->VK->Prop):Prop:=
 ∀(pins:List (Addr×Obj)) (s:Shared) (σ:St) (H:Hp) (x:V) (xs:List V) (v:Value) (us:List Value) (Q:VK),Inv X pins σ H s->RelV x v->Vals xs us->r x xs H Q->
  wpAny (model X.prog X.w) X.A (call (.builtin id) (v::us)) (EP X pins σ Q) X.xe s
section
variable {X:Cx}{a b:Expr}{ta tb:TE}{pos:Pos}
def fD.or {r r':R2}(h:fD X r)(h':fD X r'):fD X (λ x y H Q=>r x y H Q\/r' x y H Q):=by
 intro value slice pins s σ H x y v u Q I rx ry q hs;rcases q with q|q
 ·exact h value slice pins s σ H x y v u Q I rx ry q hs
 ·exact h' value slice pins s σ H x y v u Q I rx ry q hs
def Vr {r:R2}(hr:fD X r)(ha:PE X a ta)(hb:PE X b tb)(hs:HA b):PE X (.Subscript a b pos) (qM r ta tb):=by
 intro pins s σ H Q I h;exact Subscript_ (mT ha hb I h λ v u s2 x y H2 I2 rx ry q=>hr a b pins s2 σ H2 x y v u Q I2 rx ry q (hs _ _))
abbrev nK (K:zr):R2:=λ x y H Q=>∃p xs i v,x=.ref p/\y=.int i/\D7 K H p xs/\RS xs i=some v/\Q v H
abbrev nL (K:zr):R2:=λ x y H Q=>∃p xs i v,x=.ref p/\y=.int i/\EC K H p xs/\RS xs i=some v/\Q v H
def M2:fD X (nK X.K):=by
 intro value slice pins s σ H x y v u Q I rx ry h hs;obtain⟨p,xs,i,z,rfl,rfl,hq,he,q⟩:=h;cases rx;obtain⟨t,rfl⟩:=ry;obtain⟨aa,r,pl,hz⟩:=I.list hq;obtain⟨j,h1,h2,h3,h4,h5⟩:=Vq he;obtain⟨w,ew,bg⟩:=r.get h2;have hl:=r.length;have hn:=Kz;have fin:EP X pins σ Q w s:=⟨z,H,I,bg,q⟩;by_cases h0:0<=i
 ·have hj:i.toNat=j:=by
   rw[seqIndex_of h0 h5] at h1;exact zT h1
  exact item_listR pl.isList h0 (by omega) (by rw[hj];simpa using ew) fin hs
 ·have hj:(i+(aa.toArray.size:Int)).toNat=j:=by
   rw[seqIndex_neg (by omega) h4] at h1;rw[z9,<-hl];exact zT h1
  exact subscriptTail_builtinR (x:=w) pl.isList.typeIs slot_list_getitem.lookup
   (wpAny_getItem_list_neg (Q:=λ r s'=>r=w/\EP X pins σ Q r s') pl.isList (by omega) (by rw[z9]<;>omega) (by omega) (by rw[hj];simpa using ew) ⟨rfl,fin⟩) hs
def nM:fD X (nL X.K):=by
 intro value slice pins s σ H x y v u Q I rx ry h hs;obtain⟨p,xs,i,z,rfl,rfl,hq,he,q⟩:=h;cases rx;obtain⟨t,rfl⟩:=ry;obtain⟨aa,r,pl,hz⟩:=I.tuple hq;obtain⟨j,h1,h2,h3,h4,h5⟩:=Vq he;obtain⟨w,ew,bg⟩:=r.get h2;have hl:=r.length;have hn:=Kz;have fin:EP X pins σ Q w s:=⟨z,H,I,bg,q⟩;exact subscriptTail_builtinR (x:=w) pl.typeIs slot_tuple_getitem.lookup
  (getItem_tuple (j:=j) (Q:=λ r s'=>r=w/\EP X pins σ Q r s') pl (by omega) (by omega) (by rw[z9,<-hl];exact h1) (by simpa using ew) ⟨rfl,fin⟩) hs
def Ud (aa:List Value)(n j:Nat)(u:Value):zbq (·.setIfInBounds j u) {cls:=.type "list",data:=.seq aa.toArray n}={cls:=.type "list",data:=.seq (aa.set j u).toArray n}:=by
 simp[zbq]
def Inv.lst {pins:List (Addr×Obj)}{σ:St}{H:Hp}{s:Shared}{p:Addr}{xs:List V}(I:Inv X pins σ H s)(h:H p=some (.lst xs)):
 ∃(aa:List Value) (n:Nat),Vals xs aa/\s.heap.get? p=some {cls:=.type "list",data:=.seq aa.toArray n}/\xs.length<=sizeLine:=by
 obtain⟨z,aa,n,r,e⟩:=I.Ar p _ h;exact⟨aa,n,r,e,z⟩
def Inv.nN {pins:List (Addr×Obj)}{σ:St}{H:Hp}{s:Shared}{p:Addr}{xs ys:List V}{aa its':List Value}{n n':Nat}{f:Obj->Obj}(I:Inv X pins σ H s)(h:H p=some (.lst xs))
 (ho:s.heap.get? p=some {cls:=.type "list",data:=.seq aa.toArray n}) (hf:f {cls:=.type "list",data:=.seq aa.toArray n}={cls:=.type "list",data:=.seq its'.toArray n' }) (r:Vals ys its') (hz:ys.length<=sizeLine) (t:Nat):
 Inv X pins σ (upd H p (.lst ys)) {s with heap:=s.heap.update p f,toks:=t}:=by
 have e:(s.heap.update p f).get? p=some {cls:=.type "list",data:=.seq its'.toArray n' }:=by
  rw[zc3 f ho (by rw[hf]<;>rfl),hf]
 refine I.write (x:=p) (e:=p) (by rw[h];trivial) (.inl rfl) (λ b u hb q=>(zbx _ _ (zac hb)).trans q) ⟨_,e⟩ ?_;exact⟨hz,its',n',r,e⟩
abbrev sI:V->V->V->Hp->(Hp->Prop)->Prop:=λ o i v H Q=>∃p xs k j,o=.ref p/\i=.int k/\H p=some (.lst xs)/\ON xs.length k=some j/\Q (upd H p (.lst (xs.set j v)))
def set_list:rQ X sI:=by
 intro pins s σ H o i v ov iv u Q I ro ri rv h;obtain⟨p,xs,k,j,rfl,rfl,hp,hj,q⟩:=h;cases ro;obtain⟨t,rfl⟩:=ri;obtain⟨aa,n,r,ho,hz⟩:=I.lst hp;obtain⟨h1,h2,h3,h4⟩:=Vp hj;have hl:=r.length;have hn:=Kz;have I':Inv X pins σ (upd H p (.lst (xs.set j v))) {s with heap:=s.heap.update p (zbq (·.setIfInBounds j u))}:=
  I.nN hp ho (Ud aa n j u) (r.set rv j) (by rw[zap];exact hz) s.toks
 by_cases h0:0<=k
 ·have hk:k.toNat=j:=by
   rw[seqIndex_of h0 h4] at h1;exact zT h1
  exact PySem.W.ki_setAt ho h0 (by omega) (by rw[z9,<-hl];exact h4) (by rw[hk];exact⟨_,I',q⟩)
 ·have hk:(k+(aa.toArray.size:Int)).toNat=j:=by
   rw[seqIndex_neg (by omega) h3] at h1;rw[z9,<-hl];exact zT h1
  exact PySem.W.ki_setBack ho (by omega) (by rw[z9,<-hl];exact h3) (by omega) (by rw[hk];exact⟨_,I',q⟩)
def Qc (lo hi:Option Int)(n:Nat):(sliceBounds lo hi none n).1=((HT.ME n 0 lo:Nat):Int)/\(sliceBounds lo hi none n).2.1=((HT.ME n n hi:Nat):Int)/\(sliceBounds lo hi none n).2.2=1:=by
 refine⟨?_,?_,rfl⟩
 ·cases lo with
  |none=>simp[sliceBounds,HT.ME]
  |some i =>
   simp only[sliceBounds,HT.ME,Option.getD_none,show (1:Int) > 0 by decide,if_true];by_cases h:i<0
   ·simp only[h,if_true]<;>omega
   ·simp only[h,if_false]<;>omega
 ·cases hi with
  |none=>simp[sliceBounds,HT.ME]
  |some i =>
   simp only[sliceBounds,HT.ME,Option.getD_none,show (1:Int) > 0 by decide,if_true];by_cases h:i<0
   ·simp only[h,if_true]<;>omega
   ·simp only[h,if_false]<;>omega
def Oa (aa:List Value)(lo hi:Option Int):slicePick aa.toArray lo hi none=((aa.drop (HT.ME aa.length 0 lo)).take (HT.ME aa.length aa.length hi-HT.ME aa.length 0 lo)).toArray:=by
 obtain⟨h1,h2,h3⟩:=Qc lo hi aa.toArray.size;unfold slicePick;rw[h1,h2,h3];simp only[sliceRange_one,pick_run,z9]<;>rfl
abbrev wL (K:zr):V->Option Int->Option Int->Hp->VK->Prop:=λ x lo hi H Q=>∃a xs,x=.ref a/\D7 K H a xs/\∀p,H p=none->Q (.ref p) (upd H p (.lst (YH xs lo hi)))
def fE:xN X (wL X.K):=by
 intro pins s σ H x v vl vu lo hi sl Q I rx hs pl pu h;obtain⟨a,xs,rfl,hx,q⟩:=h;cases rx;obtain⟨aa,r,ht,hz⟩:=I.list hx;have hlen:=r.length;refine⟨"list",_,slot_list_getitem.lookup,ht.isList.typeIs,?_⟩;refine wpAny_getItem_list_slice ht.isList hs pl pu .none (by simp) ?_ (by rw[z9]<;>omega);rw[Oa,<-hlen];refine⟨.ref s.heap.objs.size,_,I.laid (t':=s.toks) (o:=.lst (YH xs lo hi)) (λ b ob q=>z6 _ q) (zF _) ?_,rfl,q _ (I.Ar.fresh (zF _))⟩;exact⟨zal (RQ xs lo hi) hz,_,0,(r.drop (HT.ME xs.length 0 lo)).take (HT.ME xs.length xs.length hi-HT.ME xs.length 0 lo),zN _ rfl⟩
abbrev Ji:V->Bool
 | .AL| .bl _| .int _| .str _=>true
 |_=>false
abbrev kS:V->V->Bool
 | .AL,.AL=>true
 | .bl a,.bl b=>a==b
 | .bl a,.int b=>(if a then 1 else 0)==b
 | .int a,.bl b=>a==(if b then 1 else 0)
 | .int a,.int b| .str a,.str b=>a==b
 |_,_=>false
def nO {A:Around}{s:Shared}{y x:V}{u v:Value}(ry:RelV y u)(rx:RelV x v)(fy:Ji y=true)(fx:Ji x=true):SeqAt.EqAt A s u v (kS y x):=by
 cases y with
 |AL =>
  cases ry;cases x with
  |AL=>cases rx;exact SeqAt.EqAt.same _
  |bl b=>cases rx;exact SeqAt.EqAt.none_bool b
  |int b=>obtain⟨t,rfl⟩:=rx;exact SeqAt.EqAt.none_int b t
  |str b=>obtain⟨t,rfl⟩:=rx;exact SeqAt.EqAt.none_str b t
  |_=>exact absurd (show false=true from fx) zO
 |bl a =>
  cases ry;cases x with
  |AL=>cases rx;exact SeqAt.EqAt.bool_none a
  |bl b=>cases rx;exact SeqAt.EqAt.bool_bool a b
  |int b=>obtain⟨t,rfl⟩:=rx;exact SeqAt.EqAt.bool_int a b t
  |str b=>obtain⟨t,rfl⟩:=rx;exact SeqAt.EqAt.bool_str a b t
  |_=>exact absurd (show false=true from fx) zO
 |int a =>
  obtain⟨t',rfl⟩:=ry;cases x with
  |AL=>cases rx;exact SeqAt.EqAt.int_none a t'
  |bl b=>cases rx;exact SeqAt.EqAt.int_bool a t' b
  |int b=>obtain⟨t,rfl⟩:=rx;exact SeqAt.EqAt.int_int a t' b t
  |str b=>obtain⟨t,rfl⟩:=rx;exact SeqAt.EqAt.int_str a t' b t
  |_=>exact absurd (show false=true from fx) zO
 |str a =>
  obtain⟨t',rfl⟩:=ry;cases x with
  |AL=>cases rx;exact SeqAt.EqAt.str_none a t'
  |bl b=>cases rx;exact SeqAt.EqAt.str_bool a t' b
  |int b=>obtain⟨t,rfl⟩:=rx;exact SeqAt.EqAt.str_int a t' b t
  |str b=>obtain⟨t,rfl⟩:=rx;exact SeqAt.EqAt.str_str a t' b t
  |_=>exact absurd (show false=true from fx) zO
 |_=>exact absurd (show false=true from fy) zO
abbrev Ue (x:V)(u:Value):Bool:=match u with
 | .none=>kS .AL x
 | .bool b=>kS (.bl b) x
 | .int i _=>kS (.int i) x
 | .str z _=>kS (.str z) x
 |_=>false
def YJ {x y:V}{u:Value}(r:RelV y u)(f:Ji y=true):Ue x u=kS y x:=by
 cases y with
 |AL|bl b=>cases r;rfl
 |int i|str z=>obtain⟨t,rfl⟩:=r;rfl
 |_=>exact absurd (show false=true from f) zO
def Jj {x:V}:∀ {xs:List V}{us:List Value},Vals xs us->xs.all Ji=true->us.any (Ue x)=xs.any λ y=>kS y x
 |_,_,.nil,_=>rfl
 |y::xs,u::us,.cons r t,f=>by
  rw[zc8,zZ] at f;rw[zbe,zbe,YJ r f.1,Jj t f.2]
def Gx {A:Around}{s:Shared}{x:V}{v:Value}(rx:RelV x v)(fx:Ji x=true):∀ {xs:List V}{us:List Value},Vals xs us->xs.all Ji=true->∀u∈us,SeqAt.EqAt A s u v (Ue x u)
 |_,_,.nil,_=>λ u hu=>by cases hu
 |y::xs,u::us,.cons r t,f=>λ u' hu=>by
  rw[zc8,zZ] at f;rcases zB.mp hu with rfl|hu
  ·rw[YJ r f.1];exact nO r rx f.1 fx
  ·exact Gx rx fx t f.2 u' hu
abbrev uU (x:V)(xs:List V):Bool:=xs.any λ y=>kS y x
abbrev uV (K:zr)(neg:Bool):R2:=λ x y H Q=>∃p xs,y=.ref p/\(D7 K H p xs\/EC K H p xs)/\Ji x=true/\xs.all Ji=true/\Q (.bl (if neg then !uU x xs else uU x xs)) H
def WM:Gv X (compareOp .In) (uV X.K false):=by
 intro pins s σ H x y v u Q I rx ry h;obtain⟨p,xs,rfl,hq,fx,fs,q⟩:=h;cases ry;rcases hq with hq|hq
 ·obtain⟨aa,r,pl,hz⟩:=I.list hq;refine SeqAt.in_listAt (Ue x) pl.isList (λ w hw=>Gx rx fx r fs w (by simpa using hw)) ⟨.bl _,H,I,rfl,?_⟩;rw[show aa.toArray.any (Ue x)=aa.any (Ue x) by simp,Jj r fs];exact q
 ·obtain⟨aa,r,pl,hz⟩:=I.tuple hq;refine SeqAt.in_tupleAt (Ue x) pl (λ w hw=>Gx rx fx r fs w (by simpa using hw)) ⟨.bl _,H,I,rfl,?_⟩;rw[show aa.toArray.any (Ue x)=aa.any (Ue x) by simp,Jj r fs];exact q
def Qd:Gv X (compareOp .NotIn) (uV X.K true):=by
 intro pins s σ H x y v u Q I rx ry h;obtain⟨p,xs,rfl,hq,fx,fs,q⟩:=h;cases ry;rcases hq with hq|hq
 ·obtain⟨aa,r,pl,hz⟩:=I.list hq;refine SeqAt.notIn_listAt (Ue x) pl.isList (λ w hw=>Gx rx fx r fs w (by simpa using hw)) ⟨.bl _,H,I,rfl,?_⟩;rw[show aa.toArray.any (Ue x)=aa.any (Ue x) by simp,Jj r fs];exact q
 ·obtain⟨aa,r,pl,hz⟩:=I.tuple hq;refine SeqAt.notIn_tupleAt (Ue x) pl (λ w hw=>Gx rx fx r fs w (by simpa using hw)) ⟨.bl _,H,I,rfl,?_⟩;rw[show aa.toArray.any (Ue x)=aa.any (Ue x) by simp,Jj r fs];exact q
def Qe:F5 X (.builtin "len") (λ xs H Q=>∃p ys,xs=[.ref p]/\(D7 X.K H p ys\/EC X.K H p ys)/\Q (.int ys.length) H):=by
 intro pins s σ H xs us Q I r h;obtain⟨p,ys,rfl,hq,q⟩:=h;obtain⟨u,rfl,rx⟩:=vals1 r;cases rx;have hn:=Kz;rcases hq with hq|hq
 ·obtain⟨aa,r',pl,hz⟩:=I.list hq;have hlen:=r'.length;exact Calls.call_len_list pl.isList (by simp only[z9]<;>omega) ⟨.int ys.length,H,I.tok _,⟨s.toks+1,by rw[z9,hlen]⟩,q⟩
 ·obtain⟨aa,r',pl,hz⟩:=I.tuple hq;have hlen:=r'.length;exact len_tuple pl (by simp only[z9]<;>omega) ⟨.int ys.length,H,I.tok _,⟨s.toks+1,by rw[z9,hlen]⟩,q⟩
def Qf:F5 X (.type "list") (λ xs H Q=>∃p ys,xs=[.ref p]/\(D7 X.K H p ys\/EC X.K H p ys)/\∀l,H l=none->Q (.ref l) (upd H l (.lst ys))):=by
 intro pins s σ H xs us Q I r h;obtain⟨p,ys,rfl,hq,q⟩:=h;obtain⟨u,rfl,rx⟩:=vals1 r;cases rx;have fin:∀(aa:List Value),Vals ys aa->ys.length<=sizeLine->∀(h':Heap) (c':Nat),(∀b o',s.heap.get? b=some o'->h'.get? b=some o')->
  h'.get? s.heap.objs.size=some {cls:=.type "list",dict:=none,data:=.seq aa.toArray c',slots:=#[]}->EP X pins σ Q (.ref s.heap.objs.size) {s with heap:=h' }:=λ aa r' hz h' c' kp e =>
  ⟨.ref s.heap.objs.size,_,I.laid (t':=s.toks) kp (zF _) (show BQ X.prog X.w _ h' _ (.lst ys) from ⟨hz,aa,c',r',e⟩),rfl,q _ (I.Ar.fresh (zF _))⟩
 rcases hq with hq|hq
 ·obtain⟨aa,r',pl,hz⟩:=I.list hq;have hlen:=r'.length;obtain⟨o,ho,hc,n,hd⟩:=pl.isList;exact call_list_seq p (.inl rfl) ho hc hd (λ h' c' kp e=>fin aa r' hz h' c' kp e) (by simp only[z9]<;>omega)
 ·obtain⟨aa,r',pl,hz⟩:=I.tuple hq;have hlen:=r'.length;obtain⟨o,ho,hc,n,hd⟩:=pl;exact call_list_seq p (.inr rfl) ho hc hd (λ h' c' kp e=>fin aa r' hz h' c' kp e) (by simp only[z9]<;>omega)
def Ob:F5 X (.type "tuple") (λ xs H Q=>∃p ys,xs=[.ref p]/\((D7 X.K H p ys/\∀l,H l=none->Q (.ref l) (upd H l (.tup ys)))\/(EC X.K H p ys/\Q (.ref p) H))):=by
 intro pins s σ H xs us Q I r h;obtain⟨p,ys,rfl,h⟩:=h;obtain⟨u,rfl,rx⟩:=vals1 r;cases rx;rcases h with ⟨hq,q⟩|⟨hq,q⟩
 ·obtain⟨aa,r',pl,hz⟩:=I.list hq;have hlen:=r'.length;refine call_tuple_list pl.isList (λ h' kp=>?_) (by simp only[z9]<;>omega);have I1:Inv X pins σ H {s with heap:=h' }:=I.kept (t':=s.toks) kp;have I2:Inv X pins σ (upd H h'.objs.size (.tup ys)) {s with heap:=h'.push {cls:=.type "tuple",data:=.seq aa.toArray} }:=
   I1.laid (t':=s.toks) (λ b o e=>z6 _ e) (zF _) (show BQ X.prog X.w _ _ _ (.tup ys) from ⟨hz,aa,r',IsTup.new _ _⟩)
  exact⟨.ref h'.objs.size,_,I2,rfl,q _ (I1.Ar.fresh (zF _))⟩
 ·obtain⟨aa,r',pl,hz⟩:=I.tuple hq;exact call_tuple_same pl ⟨.ref p,H,I,rfl,q⟩
abbrev xO (K:zr)(T:String)(x:V)(H:Hp):Prop:=match x with
 | .str _=>T = "str"
 | .int _=>T = "int"
 | .ref p=>(T = "list" /\ ∃xs,D7 K H p xs)\/(T = "tuple" /\ ∃o,K.lookup p=some o/\o.cls=.type "tuple" /\ o.dict=none) \/
  (T = "dict" /\ ((∃kvs,H p=some (.dK kvs))\/∃kvs,H p=some (.dT kvs)))\/(T = "set" /\ ∃S n,H p=some (.set S n))
 |_=>False
def nQ {pins:List (Addr×Obj)}{σ:St}{H:Hp}{s:Shared}{T:String}{x:V}{v:Value}(I:Inv X pins σ H s)(r:RelV x v)(ty:xO X.K T x H):
 s.TypeIs v T/\∀a,v=.ref a->∃ob,s.heap.get? a=some ob/\ob.dict=none:=by
 cases x with
 |str z =>
  obtain⟨t,rfl⟩:=r;cases (show T = "str" from ty);exact⟨typeIs_str s z t,λ _ e=>nomatch e⟩
 |int i =>
  obtain⟨t,rfl⟩:=r;cases (show T = "int" from ty);exact⟨typeIs_int s i t,λ _ e=>nomatch e⟩
 |ref p =>
  cases r;rcases ty with ⟨rfl,xs,hq⟩|⟨rfl,o,hk,hc,hd⟩|⟨rfl,hk⟩|⟨rfl,S,n,hk⟩
  ·obtain⟨aa,_,pl,_⟩:=I.list hq;refine⟨pl.isList.typeIs,λ a e=>?_⟩;cases e;obtain⟨o,n,e,c,hd,_⟩:=pl;exact⟨o,e,hd⟩
  ·refine⟨⟨o,I.Mz p o hk,hc⟩,λ a e=>?_⟩;cases e;exact⟨o,I.Mz _ o hk,hd⟩
  ·have z:∃o,s.heap.get? p=some o/\o.ExactDict:=by
    rcases hk with ⟨kvs,hk⟩|⟨kvs,hk⟩
    ·obtain⟨_,_,_,_,o,_,_,e,ex,_⟩:=I.Ar p _ hk;exact⟨o,e,ex⟩
    ·obtain⟨_,_,_,_,o,_,_,e,ex,_⟩:=I.Ar p _ hk;exact⟨o,e,ex⟩
   obtain⟨o,e,ex⟩:=z;refine⟨⟨o,e,ex.1⟩,λ a e2=>?_⟩;cases e2;exact⟨o,e,ex.2.1⟩
  ·obtain⟨o,_,_,_,e,ex,_⟩:=I.Ar p _ hk;refine⟨⟨o,e,ex.1⟩,λ a e2=>?_⟩;cases e2;exact⟨o,e,ex.2.1⟩
 |_=>exact zbm ty
abbrev yQ (K:zr)(T:String)(r:V->List V->Hp->VK->Prop)(to:TE)(t:TA):TE:=λ σ H Q=>to σ H λ x H1=>xO K T x H1/\t σ H1 λ xs H2=>r x xs H2 Q
variable {o e:Expr}{es:List Expr}{to:TE}{t:TA}{name:Str}{apos ad:Pos}{T id:String}{r:V->List V->Hp->VK->Prop}
def OO (pa:PlainAttrs T)(slot:Slot T name id)(uu:typeOf (.builtin id)=pure (.type "method_descriptor"))(hm:yP X id r)(ho:PE X o to)(ha:PA X (e::es) t)(ar: ~~~(attributeBase o name X.env (eval o X.env)=eval o X.env))(aE: ~~~(((backTo ad (starEach (e::es) X.env)).all (λ x => !x.1)&&(backToKw ad (keywordEach [] X.env)).all (λ x=>x.1.isSome)
  && decide ((e::es).length+([]:List Keyword).length+(if ([]:List Keyword).isEmpty then 0 else 1)<30))=true))(au: ~~~((apos.endLine==ad.line)=true))(hs: ~~~(starEach (e::es) X.env=(false,eval e X.env)::starEach es X.env))(ak: ~~~((backTo ad (starEach es X.env)).any (·.1)=false)):
 PE X (.Call (.Attribute o name apos) (e::es) [] ad) (yQ X.K T r to t):=by
 intro pins s σ H Q I h;refine wpAny_Call_method_late ar aE au rfl (Bk (ho pins s σ H _ I h) λ v s1 zz=>?_);obtain⟨x,H1,I1,r1,ty,q1⟩:=zz;obtain⟨h1,h2⟩:=nQ I1 r1 ty;refine⟨T,id,pa,slot,uu,h1,h2,?_⟩;have hA:=ha ad pins s1 σ H1 _ I1 q1;rw[hs] at hA ⊢;refine Calls.callWith_builtin (by show (false||(backTo ad (starEach es X.env)).any (·.1))=false;rw[ak]<;>rfl) (Calls.evalArgs_plain ?_);exact Bk hA λ us s2 ⟨vs,H2,I2,r2,q2⟩=>hm pins s2 σ H2 x vs v us Q I2 r1 r2 q2
end
abbrev uW (X:Cx)(id:String)(r:V->List V->Hp->VK->Prop):Prop:=
 ∀(pins:List (Addr×Obj)) (s:Shared) (σ:St) (H:Hp) (x:V) (xs:List V) (v:Value) (us:List Value) (Q:VK),Inv X pins σ H s->RelV x v->Vals xs us->r x xs H Q->
  wpAny (model X.prog X.w) X.A (call (.builtin id) (v::us)) (EP X pins σ Q) X.xe s
def Vals.one {x:V}{us:List Value}(h:Vals [x] us):∃u,us=[u]/\RelV x u:=by
 cases h with
 |cons r q=>cases q;exact⟨_,rfl,r⟩
def Vals.two {x y:V}{us:List Value}(h:Vals [x,y] us):∃u v,us=[u,v]/\RelV x u/\RelV y v:=by
 cases h with
 |cons r q=>obtain⟨u,rfl,h⟩:=Vals.one q;exact⟨_,_,rfl,r,h⟩
def Vals.dropLast {xs:List V}{us:List Value}(h:Vals xs us):Vals xs.dropLast us.dropLast:=by
 induction h with
 |nil=>exact .nil
 |cons r t ih =>
  cases t with
  |nil=>exact .nil
  |cons q t'=>exact .cons r ih
def Vals.eraseIdx:∀ {xs:List V}{us:List Value}(i:Nat),Vals xs us->Vals (xs.eraseIdx i) (us.eraseIdx i)
 |_,_,_,.nil=>.nil
 |_,_,0,.cons _ t=>t
 |_,_,i+1,.cons r t=>.cons r (Vals.eraseIdx i t)
def Vals.rep {xs:List V}{us:List Value}(h:Vals xs us):∀k:Nat,Vals (zE k xs).flatten (zE k us).flatten
 |0=>.nil
 |k+1=>by
  rw[zb6,zb6,List.flatten_cons,List.flatten_cons];exact Vals.append h (Vals.rep h k)
def foldl_rep (aa:List Value):∀(k:Nat) (acc:List Value),
 List.foldl (λ x1 x2=>x1++x2) acc.toArray (zE k aa.toArray)=(acc++(zE k aa).flatten).toArray
 |0,acc=>by simp
 |k+1,acc=>by
  have e:acc.toArray++aa.toArray=(acc++aa).toArray:=by simp
  have e2:(acc++aa)++(zE k aa).flatten=acc++(zE (k+1) aa).flatten:=by
   rw[zb6,List.flatten_cons,za9]
  rw[<-e2,<-foldl_rep aa k (acc++aa),<-e,zb6,zP]
section
variable {X:Cx}{pins:List (Addr×Obj)}{σ:St}{H:Hp}{s:Shared}{l b:Addr}{xs ys zs:List V}
def Inv.fF {aa its':List Value}{n:Nat}{f:Array Value->Array Value}{t':Nat}(I:Inv X pins σ H s)(hH:H l=some (.lst xs))
 (e:s.heap.get? l=some {cls:=.type "list",data:=.seq aa.toArray n}) (hf:f aa.toArray=its'.toArray) (hv:Vals ys its') (hz:ys.length<=sizeLine):
 Inv X pins σ (upd H l (.lst ys)) {s with heap:=s.heap.update l (zbq f),toks:=t' }:=by
 have q:=PySem.IsL.update e f;rw[hf] at q;refine I.write (x:=l) (e:=l) (by rw[hH];exact trivial) (.inl rfl) (λ b' u hb hu=>(zbx s.heap (zbq f) (zac hb)).trans hu) ⟨_,q⟩ ?_;exact⟨hz,its',_,hv,q⟩
def Inv.sJ {aa:List Value}{t':Nat}(I:Inv X pins σ H s)(hv:Vals ys aa)(hz:ys.length<=sizeLine):
 Inv X pins σ (upd H s.heap.objs.size (.lst ys)) {s with heap:=s.heap.push {cls:=.type "list",data:=.seq aa.toArray},toks:=t' }:=
 I.laid (λ _ _ q=>z6 _ q) (zF _) ⟨hz,aa,0,hv,zN _ rfl⟩
def Inv.fresh (I:Inv X pins σ H s):H s.heap.objs.size=none:=I.Ar.fresh (zF _)
def Inv.WN (I:Inv X pins σ H s)(hH:H l=some (.lst xs)):xs.length<=sizeLine/\∃(aa:List Value) (n:Nat),Vals xs aa/\xs.length=aa.length/\s.heap.get? l=some {cls:=.type "list",data:=.seq aa.toArray n}:=by
 obtain⟨z,aa,n,r,e⟩:=I.Ar l _ hH;exact⟨z,aa,n,r,r.length,e⟩
def RT {n:Nat}(h:n<=sizeLine):zc6 n=false:=by
 unfold zc6;exact decide_eq_false (by omega)
end
section
variable {X:Cx}
abbrev fG:V->List V->Hp->VK->Prop:=λ x vs H Q=>∃l xs y,x=.ref l/\vs=[y]/\H l=some (.lst xs)/\xs.length<sizeLine/\Q .AL (upd H l (.lst (xs++[y])))
def KC:uW X "list.append" fG:=by
 intro pins s σ H x vs v us Q I rx rv h;obtain⟨l,xs,y,rfl,rfl,hH,hz,q⟩:=h;cases rx;obtain⟨u,rfl,ru⟩:=rv.one;obtain⟨z,aa,n,r,hl,e⟩:=I.WN hH;refine call_meets F.slot_list_append ⟨_,e,rfl⟩ F.entry_list_append (F.args_list_append_2 _ _) (PySem.list_append l aa.toArray n u (by rw[z9];omega)) ⟨e,?_⟩;refine⟨.AL,_,I.fF (its':=aa++[u]) hH e (by simp) (r.append (.cons ru .nil)) ?_,rfl,q⟩;rw[zW,zav];omega
abbrev fH:V->List V->Hp->VK->Prop:=λ x vs H Q=>∃l b xs zs,x=.ref l/\vs=[.ref b]/\H l=some (.lst xs)/\H b=some (.lst zs)/\xs.length+zs.length<=sizeLine/\Q .AL (upd H l (.lst (xs++zs)))
def WO:uW X "list.extend" fH:=by
 intro pins s σ H x vs v us Q I rx rv h;obtain⟨l,b,xs,zs,rfl,rfl,hH,hB,hz,q⟩:=h;cases rx;obtain⟨u,rfl,ru⟩:=rv.one;cases ru;obtain⟨z,aa,n,r,hl,e⟩:=I.WN hH;obtain⟨z2,aP,n2,r2,a7,e2⟩:=I.WN hB;have hsz:aa.toArray.size+aP.toArray.size<=sizeLine:=by rw[z9,z9];omega
 have bO:¬ (!aa.toArray.isEmpty&&zc6 (aa.toArray.size+aP.toArray.size))=true:=by
  rw[RT hsz,Bool.and_false];exact zO
 refine call_meets F.slot_list_extend ⟨_,e,rfl⟩ F.entry_list_extend (F.args_list_extend_2 _ _)
  (AutoSeq1.list_extend_list_list_0 l aa.toArray n b aP.toArray n2 bO (by rw[z9];omega) (by omega)) ⟨e,e2,?_⟩
 refine⟨.AL,_,I.fF (its':=aa++aP) hH e (by simp) (r.append r2) ?_,rfl,q⟩;rw[zW];omega
abbrev wM:R2:=λ x y H Q=>∃l k xs,x=.ref l/\y=.int k/\H l=some (.lst xs)/\-(2^63)<=k/\k<2^63/\xs.length*k.toNat<=sizeLine/\
 ∀p,H p=none->Q (.ref p) (upd H p (.lst (zE k.toNat xs).flatten))
def len_rep {α:Type}(xs:List α)(k:Nat):(zE k xs).flatten.length=k*xs.length:=by
 induction k with
 |zero=>simp
 |succ k ih=>rw[zb6,List.flatten_cons,zW,ih,Nat.succ_mul,Nat.add_comm]
def nR:Gv X (binaryOp .Mult) wM:=by
 intro pins s σ H x y v u Q I rx ry h;obtain⟨l,k,xs,rfl,rfl,hH,h1,h2,hz,q⟩:=h;cases rx;obtain⟨t,rfl⟩:=ry;obtain⟨z,aa,n,r,hl,e⟩:=I.WN hH;have hlen:aa.toArray.size*k.toNat<=sizeLine:=by rw[z9,<-hl];exact hz
 have m6:¬ aa.toArray.size*k.toNat > (2^63-1) / 8:=by
  have:(sizeLine:Nat)<=(2^63-1) / 8:=by decide
  omega
 have fj:¬ (!Builtin.List.listFitsIndex k)=true:=by
  rw[fitsIndex_both h1 h2];exact zO
 have bO:¬ zc6 (aa.toArray.size*k.toNat)=true:=by
  rw[RT hlen];exact zO
 have aT:List.foldl (λ x1 x2=>x1++x2) #[] (zE (if aa.toArray.isEmpty=true then 0 else k.toNat) aa.toArray)=(zE k.toNat aa).flatten.toArray:=by
  have f0:∀m:Nat,List.foldl (λ x1 x2=>x1++x2) #[] (zE m aa.toArray)=(zE m aa).flatten.toArray:=λ m=>by
   have:=foldl_rep aa m [];rw[List.nil_append] at this;exact this
  rw[f0];cases aa with
  |nil=>simp
  |cons a r'=>rw[if_neg (by simp)]
 refine wpAny_binaryOp_repeat_ref (T := "list") (U := "int") (by decide) ⟨_,e,rfl⟩ (λ s'=>typeIs_int s' k t) noFill_list_mul F.fills_int_mul F.slot_int_rmul repeat_list F.slot_int_index.lookup
  (call_meets F.slot_int_rmul (typeIs_int s k t) F.entry_int_rmul (F.args_int_rmul_2 _ _) (int___rmul___int_list k t l aa.toArray n)
   ⟨e,rfl,⟨_,e,rfl⟩,call_meets F.slot_list_mul ⟨_,e,rfl⟩ F.entry_list_mul (F.args_list_mul_2 _ _) (AutoListH.list___mul___list_int_3 l aa.toArray n k t fj m6 bO) ⟨e,?_⟩⟩)
 rw[aT];exact⟨.ref _,_,I.sJ (t':=s.toks) (r.rep k.toNat) (by rw[len_rep,Nat.mul_comm];exact hz),rfl,q _ I.fresh⟩
end
end L2
namespace rh
open PySem PySem.W PySem.Calls PyProof.Rows
def LU {P:Params}{h:Heap}:∀(ns:List Int) (vs:List Value),WellAll P h vs (ns.map WData.int)->IntsAre vs ns:=by
 intro ns;induction ns with
 |nil =>
  intro vs w;rw[zbr] at w;cases w;exact .nil
 |cons n ns ih =>
  intro vs w;rw[zx] at w;cases w with
  |cons a b =>
   cases a;exact .cons _ _ (ih _ b)
def WQ {l:OpenLaw}{n:Nat}(hn:l.most=some n){P:Params}{h:Heap}{args:List WData}{vals:List Value}
 (cz:l.row.toRowW.claim.pre args=true) (m7:WellAll P h vals args):
 ∃a vs ns,vals=[zad a]/\args=[WData.list (ns.map WData.int)]/\h.get? a=some {cls:=.type "list",data:=.seq vs.toArray}/\IntsAre vs ns/\ns.length<=n:=by
 have uv:WShape.hasAll [] args [.list .int]=true:=(pre_splitW cz).1;have hc:l.pre.holds [] {args:=args}=true:=(pre_splitW cz).2;obtain⟨d,r,rfl,h1,h2⟩:=hasAllW_cons uv;obtain rfl:=hasAllW_nil h2;obtain⟨xs,rfl,h3⟩:=hasW_list h1;obtain⟨ns,rfl⟩:=items_int h3;have hlen:ns.length<=n:=by
  unfold OpenLaw.pre at hc;have h4:(WTm.not (.lt (.lit (.int (n:Int))) (.len (.arg 0)))).holds [] {args:=[.list (ns.map .int)]}=true:=by
   have h4:=(holds_andW hc).1;rw[hn] at h4;exact h4
  have h5:=condW_of h4 (w_not (w_lt w_lit (w_len_list (w_arg rfl))));rw[zu] at h5;refine Nat.le_of_not_lt λ q=>?_;have q':(n:Int)<((ns.length:Nat):Int):=by omega
  first
   |(rw[decide_eq_true q'] at h5;exact absurd h5 (by decide))
   |(simp at h5;omega)
 cases m7 with
 |cons w1 w2 =>
  cases w2;cases w1 with
  |list ho a8=>exact⟨_,_,ns,rfl,rfl,ho,LU ns _ a8,hlen⟩
def WR (l:OpenLaw)(args:List WData):l.row.toRowW.claim.post args (.bool true) args=true:=
 postW_of (r:=l.row.toRowW) (X:=(true==true))
  (show WShape.has [] (.bool true) .bool=true by first|rfl|decide|simp[WShape.has,WShape.arms,WShape.armsAll])
  (show (WTm.eq .res (.lit (.bool true))).value [] {args:=args,res:=some (.bool true),after:=args}=some (.bool (true==true)) from w_eq_bool (w_res rfl) w_lit) rfl
end rh
namespace L2
open PySem PySem.Spec PyProof.Rows
def OP:∀ {vs:List Value}{ns:List Int},IntsAre vs ns->Vals (ns.map V.int) vs
 |_,_,.nil=>.nil
 |_,_,.cons n t h=>.cons ⟨t,rfl⟩ (OP h)
abbrev fI (H:Hp):Prop:=∀b,H b=none\/∃o xs,H b=some (.Y6 o (.lst xs))
def RU {P:Program}{w:World}{K:zr}{mg mb:Str->Option Value}{CX:Vl}{k:Nat}{fa a:Addr}{fd:FuncData}{x:Str}{sp:Sp}{s₁:Shared}{vs:List Value}{ns:List Int}
 (KX:K.In s₁.heap) (m8:s₁.heap.Ns mainGlobals mg) (hb:s₁.heap.Ns builtinsNs mb) (uw:∀x:Str,x ≠ "__name__" -> mb x=bootBuiltins x) (m9:s₁.heap.NoLimit) (hg:s₁.gens=#[])
 (ha:s₁.heap.get? a=some {cls:=.type "list",data:=.seq vs.toArray}) (hi:IntsAre vs ns) (hl:ns.length<=sizeLine) (hr:BC k callerA)
 (F:∀base:Heap,K.In base->base.Ns mainGlobals mg->Dr P w K mg base CX k fa fd [x] sp) (je:∀(s:Shared) (u:Value),BindsTo s fd ⟨[u],[]⟩ [(x,u)])
 (bF:∀H:Hp,fI H->D7 K H a (ns.map V.int)->sp [.ref a] H (λ v _=>v=.bl true) λ _ _ _=>False)
 (jf:∀H e s',CX [] H s₁ (λ _ _ _=>False) e s'->False):
 codeAny (model P w) callerA (.call (.ref fa) ⟨[.ref a],[]⟩) (λ r s'=>r=.ok (.ret (.bool true))/\OldK s₁.heap s'.heap/\s'.os=s₁.os/\AllBare s'.gens) s₁:=by
 have rv:=OP hi;have na:=hi.length;have core:∀H:Hp,fI H->D7 K H a (ns.map V.int)->Gi P w H s₁.heap->(∀b,H b≠none->b=a)->(H a≠none->K.lookup a=none)->
  codeAny (model P w) callerA (.call (.ref fa) ⟨[.ref a],[]⟩) (λ r s'=>r=.ok (.ret (.bool true))/\OldK s₁.heap s'.heap/\s'.os=s₁.os/\AllBare s'.gens) s₁:=by
  intro H hO hS Ar hA hK;have bC:∀ {b:Addr} {o:Obj},s₁.heap.get? b=some o->H b=none->(Q5 s₁.heap H).get? b=some o:=λ e n=>Yi e n;have i8:∀ {b:Addr} {o:Obj} {es:Array DictEntry} {ep:Nat},s₁.heap.get? b=some o->o.data=.dict es ep->H b=none:=fun {b o es ep} e d=>by
   cases q:H b with
   |none=>rfl
   |some u =>
    have e':b=a:=hA b (by rw[q];simp);subst e';rw[ha] at e;cases e;have d':Data.seq vs.toArray _=Data.dict es ep:=d;cases d'
  have lp:∀ {b:Addr} {m:Str->Option Value},s₁.heap.Ns b m->(Q5 s₁.heap H).Ns b m:=fun {b m} ⟨o,es,ep,e,d,r⟩=>⟨o,es,ep,bC e (i8 e d),d,r⟩;have rj:K.In (Q5 s₁.heap H):=λ b o e=>bC (KX b o e) (by
   cases q:H b with
   |none=>rfl
   |some u =>
    have e':b=a:=hA b (by rw[q];simp);subst e';rw[hK (by rw[q];simp)] at e;cases e)
  have hM:Mod K mg (Q5 s₁.heap H):=⟨rj,lp m8,⟨mb,lp hb,uw⟩,let ⟨mc,h1,h2⟩:=m9;⟨mc,lp h1,h2⟩⟩;have e0:Uc P w K mg (Q5 s₁.heap H) callerA [] s₁ H:=⟨rfl,hM,λ b o e=>eI e,Nat.le_of_eq (WD _ _),trivial,λ b hb=>absurd (show b∈([]:List Addr) from hb) (by simp),Ar,.of_eq hg⟩;refine codeAny_mono ((F _ rj (lp m8)).run callerA [] s₁ H ⟨[.ref a],[]⟩ [.ref a] [.ref a] _ _ hr e0 (je s₁ (.ref a)) (.cons rfl .nil) (bF H hO hS)) λ r s' h=>?_;cases r with
  |error e=>exact (jf H e s' h).elim
  |ok fl =>
   cases fl with
   |next|brk|cont=>exact zbm h
   |ret u =>
    obtain⟨v,H',os,bare,un,fm,r',q⟩:=h;have q':v=.bl true:=q;subst q';obtain rfl:u=Value.bool true:=r';refine⟨rfl,OldK.of_keep λ b o e=>?_,os,bare⟩;cases q:H b with
    |none=>exact un.keep b o e q (by intro z;exact absurd (show b∈([]:List Addr) from z) (by simp)) (by simp)
    |some u =>
     rcases hO b with z|⟨ob,xs,z⟩
     ·rw[q] at z;cases z
     ·have z2:=un.O7 b ob _ z;obtain⟨e1,_⟩:=Ar b _ z;obtain⟨e2,_⟩:=fm b _ z2;rw[e] at e1;cases e1;exact e2
 cases hk:K.lookup a with
 |some o =>
  have e:=KX a o hk;rw[ha] at e;cases e;refine core (λ _=>none) (λ _=>.inl rfl) (.inr ⟨_,vs.toArray,_,hk,rfl,rfl,rfl,by rw[z9,na];exact hl,by simpa using rv⟩) (λ b u z=>by have z':(none:Option HO)=some u:=z;cases z') (λ b z=>absurd rfl z) λ z=>absurd rfl z
 |none =>
  refine core (λ b=>if b=a then some (.Y6 {cls:=.type "list",data:=.seq vs.toArray} (.lst (ns.map V.int))) else none) (λ b=>?_) (.inl (.inr ⟨{cls:=.type "list",data:=.seq vs.toArray},if_pos rfl⟩)) (λ b u z=>?_) (λ b z=>?_) λ _=>hk
  ·by_cases hb:b=a
   ·exact .inr ⟨_,_,if_pos hb⟩
   ·exact .inl (if_neg hb)
  ·by_cases hb:b=a
   ·have z':=(if_pos hb).symm.trans z;cases z';subst hb;exact⟨ha,by rw[zu];exact hl,vs,_,rv,ha⟩
   ·have z':=(if_neg hb).symm.trans z;cases z'
  ·by_cases hb:b=a
   ·exact hb
   ·exact absurd (if_neg hb) z
noncomputable abbrev fJ:Vl:=λ _ _ _ _ _ _=>False
noncomputable abbrev E0:XK:=λ _ _ _=>False
structure Yb (K:zr)(x qual:Str)(st:Stmt)(f:Addr)(fd:FuncData):Prop where
 ex:∃(oc:Value) (od:Option Addr) (kV doc pm:Value) (an:Option Addr) (B7 ct:Value) (TR:Array (Option Value)),
  fd=zaj x qual (Bm st) (AO st) (A4 st) .none kV doc pm an B7 ct/\K.lookup f=some ⟨oc,od,.func fd,TR⟩/\zb5 K B7 qual=true
 kp:zah K (.ref f)=true
section
variable {P:Program}{w:World}{K:zr}{mg:Str->Option Value}{base:Heap}
def Yb.ok {x qual:Str}{st:Stmt}{f:Addr}{fd:FuncData}{N ps:List Str}{k:Nat}{sp:Sp}(F:Yb K x qual st f fd)(S:Ac N ps (A4 st))(len:∀vs H Q E,sp vs H Q E->vs.length=ps.length)
 (bN:∀(B7:Value) (A:Around) (outer:List Env) (s:Shared) (H:Hp) (vs:List V) (Q:VK) (E:XK),BC k (A.deeper (envOfC qual (A4 st) s.heap.objs.size f B7))->sp vs H Q E->
  ∃t,Vj (RL fJ P w K mg base N qual (A4 st) f B7 A outer s H E).rL (AO st) t/\t {nx:=λ _ H'=>Q .AL H',rt:=Q} (start N vs) H):Dr P w K mg base fJ (k+1) f fd ps sp:=by
 obtain⟨oc,od,kV,doc,pm,an,B7,ct,TR,rfl,lk,bc⟩:=F.ex;refine Vo lk bc S len λ A outer s H vs Q E hr bF=>?_;obtain⟨t,h,q⟩:=bN B7 A outer s H vs Q E hr bF;exact⟨t,h.rL,q⟩
def Yb.binds {x qual:Str}{st:Stmt}{f:Addr}{fd:FuncData}{ps:List Str}(F:Yb K x qual st f fd)
 (h:∀(kV doc pm:Value) (an:Option Addr) (B7 ct:Value) (us:List Value),us.length=ps.length->bindArgs (zaj x qual (Bm st) (AO st) (A4 st) .none kV doc pm an B7 ct) ⟨us,[]⟩=pure (ps.zip us)):Binds K fd ps []:=by
 obtain⟨oc,od,kV,doc,pm,an,B7,ct,TR,rfl,lk,bc⟩:=F.ex;exact .all (h kV doc pm an B7 ct)
def Ug {x qual:Str}{st:Stmt}{f:Addr}{oc:Value}{od an:Option Addr}{TR:Array (Option Value)}{kV doc pm B7 ct:Value}(l:K.lookup f=some ⟨oc,od,.func (zaj x qual (Bm st) (AO st) (A4 st) .none kV doc pm an B7 ct),TR⟩)
 (c:zb5 K B7 qual=true) (k:zah K (.ref f)=true):Yb K x qual st f (zaj x qual (Bm st) (AO st) (A4 st) .none kV doc pm an B7 ct):=⟨⟨oc,od,kV,doc,pm,an,B7,ct,TR,rfl,l,c⟩,k⟩
end
def AA {n:Nat}(h:n<=1000):n<sizeLine:=Nat.lt_of_le_of_lt h (by decide)
section
variable {X:Cx}
def pv (i:Nat){x:Str}{pos:Pos}(hN: ~~~(X.N[i]?=some x))(hv:vQ X.env.scope x:=by first | exact za1 rfl | exact Or.inr (za1 rfl) | exact Or.inr (Or.inr rfl))(hd:(x==("__debug__" : Str))=false:=by decide)(bc:(x==("__classdict__" : Str))=false:=by decide):PE X (.Name x pos) (LR i):=mG hN hv hd bc
end
abbrev Ad (H H':Hp):Prop:=∀b o,H b=some o->H' b=some o
def Ad.refl (H:Hp):Ad H H:=λ _ _ h=>h
def Ad.trans {H H1 H2:Hp}(a:Ad H H1)(b:Ad H1 H2):Ad H H2:=λ c o h=>b c o (a c o h)
def Ad.seq {K:zr}{H H':Hp}{a:Addr}{xs:List V}(e:Ad H H')(h:D7 K H a xs):D7 K H' a xs:=by
 rcases h with (h|⟨o,h⟩)|h
 ·exact .inl (.inl (e _ _ h))
 ·exact .inl (.inr ⟨o,e _ _ h⟩)
 ·exact .inr h
section
variable {κ:Type} [DecidableEq κ]
abbrev Oc (kvs:List (κ×V))(k:κ):Option V:=(kvs.find? λ kv=>decide (kv.1=k)).map (·.2)
abbrev putK (kvs:List (κ×V))(k:κ)(v:V):List (κ×V):=
 if (kvs.any λ kv=>decide (kv.1=k))=true then kvs.map (λ kv=>if kv.1=k then (kv.1,v) else kv) else kvs++[(k,v)]
def MF {p:κ×V}{r:List (κ×V)}{k:κ}(e:p.1=k):Oc (p::r) k=some p.2:=by simp[Oc,zc1,e]
def MG {p:κ×V}{r:List (κ×V)}{k:κ}(e:¬ p.1=k):Oc (p::r) k=Oc r k:=by simp[Oc,zc1,e]
def RV (k:κ):∀kvs:List (κ×V),(kvs.any λ kv=>decide (kv.1=k))=(Oc kvs k).isSome
 |[]=>rfl
 |p::r=>by
  rw[zbe];by_cases e:p.1=k
  ·simp only[MF e,decide_eq_true e,Bool.true_or,Option.isSome_some]
  ·rw[MG e,decide_eq_false e,Bool.false_or];exact RV k r
def Ds (kvs:List (κ×V))(k:κ)(v:V):(putK kvs k v).length<=kvs.length+1:=by
 unfold putK;split
 ·rw[zu];omega
 ·rw[zW,z7,List.length_nil];omega
def Gh.F6 {o:Option V}{u:Option Value}(r:Gh o u):o.isSome=u.isSome:=by
 cases o with
 |none=>cases u with
  |none=>rfl
  |some _=>exact (show False from r).elim
 |some _=>cases u with
  |none=>exact (show False from r).elim
  |some _=>rfl
def Gh.getD {o:Option V}{u:Option Value}{d:V}{d':Value}(r:Gh o u)(rd:RelV d d'):RelV (o.getD d) (u.getD d'):=by
 cases o with
 |none=>cases u with
  |none=>exact rd
  |some _=>exact (show False from r).elim
 |some _=>cases u with
  |none=>exact (show False from r).elim
  |some _=>exact r
def KV.val {kvs:List (κ×V)}{vs:List (κ×Value)}(r:KV kvs vs)(k:κ):Gh (Oc kvs k) (valueAt vs k):=by
 unfold KV at r;induction r with
 |nil=>exact zbv
 | @cons p q ps qs h t ih =>
  obtain⟨h1,h2⟩:=h;by_cases e:p.1=k
  ·have e':q.1=k:=h1.symm.trans e;have b:valueAt (q::qs) k=some q.2:=by simp[valueAt,zc1,e']
   rw[MF e,b];exact h2
  ·have e':¬ q.1=k:=λ z=>e (h1.trans z);have b:valueAt (q::qs) k=valueAt qs k:=by simp[valueAt,zc1,e']
   rw[MG e,b];exact ih
def KV.any {kvs:List (κ×V)}{vs:List (κ×Value)}(r:KV kvs vs)(k:κ):(kvs.any λ kv=>decide (kv.1=k))=vs.any λ kv=>decide (kv.1=k):=by
 unfold KV at r;induction r with
 |nil=>rfl
 |cons h t ih=>rw[zbe,zbe,ih,h.1]
def KV.nS {kvs:List (κ×V)}{vs:List (κ×Value)}(r:KV kvs vs)(k:κ){y:V}{u:Value}(ry:RelV y u):
 KV (kvs.map λ kv=>if kv.1=k then (kv.1,y) else kv) (vs.map λ kv=>if kv.1=k then (kv.1,u) else kv):=by
 unfold KV at r ⊢;induction r with
 |nil=>exact .nil
 | @cons p q ps qs h t ih =>
  rw[zx,zx];refine .cons ?_ ih;obtain⟨h1,h2⟩:=h;by_cases e:p.1=k
  ·rw[if_pos e,if_pos (h1.symm.trans e)];exact⟨h1,ry⟩
  ·rw[if_neg e,if_neg (λ z=>e (h1.trans z))];exact⟨h1,h2⟩
def KV.put {kvs:List (κ×V)}{vs:List (κ×Value)}(r:KV kvs vs)(k:κ){y:V}{u:Value}(ry:RelV y u):KV (putK kvs k y) (stored vs k u):=by
 unfold putK stored;rw[r.any k];by_cases e:(vs.any λ kv=>decide (kv.1=k))=true
 ·rw[if_pos e,if_pos e];exact r.nS k ry
 ·rw[if_neg e,if_neg e];exact Paired.snoc r ⟨rfl,ry⟩
def KV.length {kvs:List (κ×V)}{vs:List (κ×Value)}(r:KV kvs vs):kvs.length=vs.length:=Paired.length r
end
def Lg {P:Program}{w:World}{k:Key}{u:Value}(r:RelV (kV k) u):(B6 P w).is k u=true:=by
 cases k with
 |inl i=>obtain⟨t,e⟩:=(show ∃t,u=Value.int i t from r);subst e;exact RE P w i t
 |inr x=>obtain⟨t,e⟩:=(show ∃t,u=Value.str x t from r);subst e;exact RF P w x t
def OQ {P:Program}{w:World}:∀ {ks:List Key}{us:List Value},Vals (ks.map kV) us->ItemsAre (B6 P w) ks us
 |[],_,r=>by rw[zbr] at r;cases r;exact .nil
 |k::ks,_,r=>by
  rw[zx] at r;cases r with
  |cons h t=>exact .cons (Lg h) (OQ t)
noncomputable abbrev KT (H:Hp):List (List Key×V)->List (List Key×Addr×Value)->Prop:=Paired λ p q=>p.1=q.1/\H q.2.1=some (.tup (p.1.map kV))/\RelV p.2 q.2.2
def KT.val {H:Hp}{kvs:List (List Key×V)}{xs:List (List Key×Addr×Value)}(r:KT H kvs xs)(k:List Key):Gh (Oc kvs k) ((atKey xs k).map (·.2)):=by
 induction r with
 |nil=>exact zbv
 | @cons p q ps qs h t ih =>
  obtain⟨h1,_,h2⟩:=h;by_cases e:p.1=k
  ·have e':q.1=k:=h1.symm.trans e;have b:atKey (q::qs) k=some q.2:=by simp[atKey,zc1,e']
   rw[MF e,b];exact h2
  ·have e':¬ q.1=k:=λ z=>e (h1.trans z);have b:atKey (q::qs) k=atKey qs k:=by simp[atKey,zc1,e']
   rw[MG e,b];exact ih
def KT.nS {H:Hp}{kvs:List (List Key×V)}{xs:List (List Key×Addr×Value)}(r:KT H kvs xs)(k:List Key){y:V}{u:Value}(ry:RelV y u):
 KT H (kvs.map λ kv=>if kv.1=k then (kv.1,y) else kv) (xs.map (putAt k u)):=by
 induction r with
 |nil=>exact .nil
 | @cons p q ps qs h t ih =>
  rw[zx,zx];refine .cons ?_ ih;obtain⟨h1,h2,h3⟩:=h;unfold putAt;by_cases e:p.1=k
  ·rw[if_pos e,if_pos (h1.symm.trans e)];exact⟨h1,h2,ry⟩
  ·rw[if_neg e,if_neg (λ z=>e (h1.trans z))];exact⟨h1,h2,h3⟩
def KT.put {H:Hp}{kvs:List (List Key×V)}{xs:List (List Key×Addr×Value)}(r:KT H kvs xs)(k:List Key){b:Addr}{y:V}{u:Value}(hb:H b=some (.tup (k.map kV)))(ry:RelV y u):
 KT H (putK kvs k y) (storedH xs k b u):=by
 have e:(kvs.any λ kv=>decide (kv.1=k))=(atKey xs k).isSome:=by
  rw[RV,(r.val k).F6,Option.isSome_map]
 unfold putK storedH;rw[e];by_cases q:(atKey xs k).isSome=true
 ·rw[if_pos q,if_pos q];exact r.nS k ry
 ·rw[if_neg q,if_neg q];exact Paired.snoc r ⟨rfl,hb,ry⟩
def KT.keeps {H H':Hp}{kvs:List (List Key×V)}{xs:List (List Key×Addr×Value)}(r:KT H kvs xs)(ht:∀b ys,H b=some (.tup ys)->H' b=some (.tup ys)):KT H' kvs xs:=
 Paired.mD r λ _ _ z=>⟨z.1,ht _ _ z.2.1,z.2.2⟩
section
variable {P:Program}{w:World}{H:Hp}{h:Heap}{a:Addr}
def kT {u:HO}(ok:Gi P w H h)(e:Rd H a u):BQ P w H h a u:=e.ok ok
def MH {kvs:List (Key×V)}(ok:Gi P w H h)(e:Rd H a (.dK kvs)):kvs.length<=sizeLine/\(a==sysModules)=false/\∃vs,KV kvs vs/\h.DictOf (B6 P w) a vs:=
 show BQ P w H h a (.dK kvs) from kT ok e
def kU {kvs:List (Key×V)}(ok:Gi P w H h)(e:H a=some (.dK kvs)):kvs.length<=sizeLine/\(a==sysModules)=false/\∃vs,KV kvs vs/\h.DictOf (B6 P w) a vs:=MH ok (.inl e)
def IJ {ks:List Key}(ok:Gi P w H h)(e:H a=some (.tup (ks.map kV))):(tupleKind (B6 P w)).is h ks a:=by
 obtain⟨_,aa,r,o,h1,h2,n,h3⟩:=(show BQ P w H h a (.tup (ks.map kV)) from ok a _ e);exact⟨o,aa.toArray,n,h1,h2,h3,by simpa using OQ r⟩
def MI {kvs:List (List Key×V)}(ok:Gi P w H h)(e:Rd H a (.dT kvs)):kvs.length<=sizeLine/\(a==sysModules)=false/\
 ∃xs,KT H kvs xs/\h.DictOfH (tupleKind (B6 P w)) a xs:=by
 obtain⟨z,y,xs,r,o,es,ep,h1,h2,h3,h4,h5⟩:=(show BQ P w H h a (.dT kvs) from kT ok e);refine⟨z,y,xs,r,o,es,ep,h1,h2,h3,h4,λ x hx=>?_,h5⟩;have all:∀ {l:List (List Key×V)} {m:List (List Key×Addr×Value)},KT H l m->∀x∈m,(tupleKind (B6 P w)).is h x.1 x.2.1:=by
  intro l m q;induction q with
  |nil=>intro x hx;exact nomatch hx
  | @cons p q ps qs hq t ih =>
   intro x hx;rcases zB.mp hx with e|hx
   ·subst e;exact IJ ok (by rw[<-hq.1];exact hq.2.1)
   ·exact ih x hx
 exact all r x hx
def sL {kvs:List (List Key×V)}(ok:Gi P w H h)(e:H a=some (.dT kvs)):kvs.length<=sizeLine/\(a==sysModules)=false/\
 ∃xs,KT H kvs xs/\h.DictOfH (tupleKind (B6 P w)) a xs:=MI ok (.inl e)
end
abbrev Qg (H:Hp)(a:Addr)(y:V)(r:Option V):Prop:=
 (∃kvs k,Rd H a (.dK kvs)/\y=kV k/\r=Oc kvs k)\/∃kvs k b,Rd H a (.dT kvs)/\y=.ref b/\H b=some (.tup (k.map kV))/\r=Oc kvs k
abbrev sM (H:Hp)(a:Addr)(y v:V)(H':Hp):Prop:=
 (∃kvs k,H a=some (.dK kvs)/\y=kV k/\kvs.length<sizeLine/\H'=upd H a (.dK (putK kvs k v))) \/
 ∃kvs k b,H a=some (.dT kvs)/\y=.ref b/\H b=some (.tup (k.map kV))/\kvs.length<sizeLine/\H'=upd H a (.dT (putK kvs k v))
section
variable {X:Cx}{pins:List (Addr×Obj)}{σ:St}{H:Hp}{s:Shared}{a:Addr}{y v:V}{u r:Value}{o:Option V}{A:Around}{E:Value->Shared->Prop}
def Inv.big (I:Inv X pins σ H s):sysModules<s.heap.objs.size:=by
 have h:mainGlobals<s.heap.objs.size:=(I.mod.glob.keeps I.bk).lt;exact Nat.lt_trans (by decide) h
def WS {Q:Value->Shared->Prop}(hu:A.units+1<cLine)(I:Inv X pins σ H s)(g:Qg H a y (some v))(ry:RelV y u)(h:∀w' s',Inv X pins σ H s'->RelV v w'->Q w' s'):
 wpAny (model X.prog X.w) A (getItem (.ref a) u) Q E s:=by
 rcases g with ⟨kvs,k,e,ey,l⟩|⟨kvs,k,b,e,ey,eb,l⟩
 ·subst ey;obtain⟨z,hd,vs,rel,dd⟩:=MH I.Ar e;obtain⟨w',hw,bg⟩:=Gh.some_of (v:=v) (o:=valueAt vs k) (by rw[l];exact rel.val k);exact wpAny_getItem_of (Lg ry) dd.mapOf hw (h w' _ (I.tok _) bg)
 ·subst ey;cases (show u=zad b from ry);obtain⟨z,hd,xs,rel,dd⟩:=MI I.Ar e;obtain⟨w',hw,bg⟩:=Gh.some_of (v:=v) (o:=(atKey xs k).map (·.2)) (by rw[l];exact rel.val k);obtain⟨p,hp,ux⟩:=zaq.mp hw;refine wpAny_getItem_heap (tupleKind_room_in1 hu) (IJ I.Ar eb) dd hp ?_;rw[ux];exact h w' _ (I.tok _) bg
def wN {Q:Value->Shared->Prop}(hu:A.units+1<cLine)(I:Inv X pins σ H s)(g:Qg H a y o)(ry:RelV y u)(h:∀s',Inv X pins σ H s'->Q (.bool o.isSome) s'):
 wpAny (model X.prog X.w) A (compareOp .In u (.ref a)) Q E s:=by
 rcases g with ⟨kvs,k,e,ey,l⟩|⟨kvs,k,b,e,ey,eb,l⟩
 ·subst ey;obtain⟨z,hd,vs,rel,dd⟩:=MH I.Ar e;refine wpAny_in_of (Lg ry) hd dd.mapOf ?_;rw[<-(rel.val k).F6,<-l];exact h _ (I.tok _)
 ·subst ey;cases (show u=zad b from ry);obtain⟨z,hd,xs,rel,dd⟩:=MI I.Ar e;refine wpAny_in_heap (tupleKind_room_in1 hu) (IJ I.Ar eb) hd dd ?_;have q:=(rel.val k).F6;rw[Option.isSome_map] at q;rw[<-q,<-l];exact h _ (I.tok _)
def fK {Q:Value->Shared->Prop}(hu:A.units+1<cLine)(I:Inv X pins σ H s)(g:Qg H a y o)(ry:RelV y u)(h:∀s',Inv X pins σ H s'->Q (.bool (!o.isSome)) s'):
 wpAny (model X.prog X.w) A (compareOp .NotIn u (.ref a)) Q E s:=by
 rcases g with ⟨kvs,k,e,ey,l⟩|⟨kvs,k,b,e,ey,eb,l⟩
 ·subst ey;obtain⟨z,hd,vs,rel,dd⟩:=MH I.Ar e;refine wpAny_notIn_of (Lg ry) hd dd.mapOf ?_;rw[<-(rel.val k).F6,<-l];exact h _ (I.tok _)
 ·subst ey;cases (show u=zad b from ry);obtain⟨z,hd,xs,rel,dd⟩:=MI I.Ar e;refine wpAny_notIn_heap (tupleKind_room_in1 hu) (IJ I.Ar eb) hd dd ?_;have q:=(rel.val k).F6;rw[Option.isSome_map] at q;rw[<-q,<-l];exact h _ (I.tok _)
def Qh {h':Heap}{t':Nat}{ob:HO}(I:Inv X pins σ H s)(mu:rC (H a))(hs:zc4 a s.heap h')(he:∃q,h'.get? a=some q)(new:BQ X.prog X.w (upd H a ob) h' a ob):
 Inv X pins σ (upd H a ob) {s with heap:=h',toks:=t' }:=
 I.write (x:=a) (e:=a) mu (.inl rfl) (λ b q hb z=>(hs.2 b hb).trans z) he new
def YK {P:Program}{w:World}{H':Hp}{h':Heap}{kvs:List (Key×V)}{vs:List (Key×Value)}(z:kvs.length<=sizeLine)(hd:(a==sysModules)=false)(rel:KV kvs vs)(dd:h'.DictOf (B6 P w) a vs):
 BQ P w H' h' a (.dK kvs):=⟨z,hd,vs,rel,dd⟩
def WT {H':Hp}{Q:Unit->Shared->Prop}(hu:A.units+1<cLine)(I:Inv X pins σ H s)(g:sM H a y v H')(ry:RelV y u)(rv:RelV v r)(h:∀s',Inv X pins σ H' s'->Q () s'):
 wpAny (model X.prog X.w) A (setItem (.ref a) u r) Q E s:=by
 rcases g with ⟨kvs,k,e,ey,l,eH⟩|⟨kvs,k,b,e,ey,eb,l,eH⟩
 ·subst ey eH;obtain⟨z,hd,vs,rel,dd⟩:=kU I.Ar e;have hz:vs.length<=sizeLine:=by rw[<-rel.length];exact z
  have hl:(putK kvs k v).length<=sizeLine:=by have:=Ds kvs k v;omega
  refine wpAny_setItem_pairs (hsz:=hz) (Lg ry) dd λ h' fv hs=>h _ ?_;have he:∃q,h'.get? a=some q:=let ⟨q,_,_,hq,_⟩:=fv;⟨q,hq⟩;exact Qh I (by rw[e];exact zbv) hs he (YK hl hd (rel.put k rv) fv)
 ·subst ey eH;cases (show u=zad b from ry);obtain⟨z,hd,xs,rel,dd⟩:=sL I.Ar e;have hz:xs.length<=sizeLine:=by rw[<-Paired.length rel];exact z
  have hl:(putK kvs k v).length<=sizeLine:=by have:=Ds kvs k v;omega
  refine wpAny_setItem_heap (hsz:=hz) (tupleKind_room_in1 hu) (IJ I.Ar eb) dd λ h' fv hs=>h _ ?_;obtain⟨q,es,ep,hq,h2,h3,h4,_,h5⟩:=fv;refine Qh I (by rw[e];exact zbv) hs ⟨q,hq⟩ ⟨hl,hd,_,(rel.put k eb rv).keeps λ c ys ec=>?_,q,es,ep,hq,h2,h3,h4,h5⟩;rw[Ai (rB ec e (λ z=>nomatch z))];exact ec
end
def RW {X:Cx}{pins:List (Addr×Obj)}{σ:St}{H:Hp}{s:Shared}{a:Addr}{y:V}{o:Option V}(I:Inv X pins σ H s)(g:Qg H a y o):s.TypeIs (.ref a) "dict" := by
 rcases g with ⟨kvs,k,e,_,_⟩|⟨kvs,k,b,e,_,_,_⟩
 ·obtain⟨_,_,vs,_,dd⟩:=MH I.Ar e;exact dd.typeIs
 ·obtain⟨_,_,xs,_,dd⟩:=MI I.Ar e;exact dd.typeIs
abbrev sN (td ty tv:TE):TS:=λ D σ H=>tv σ H λ v H1=>td σ H1 λ x H2=>ty σ H2 λ y H3=>∃a H4,x=.ref a/\sM H3 a y v H4/\D.nx σ H4
section
variable {X:Cx}{o i e value:Expr}{pos pos' bz:Pos}{td ty tv:TE}
def fL (hu:X.A.units+1<cLine)(ho:PE X o td)(hi:PE X i ty)(hv:PE X value tv)(hs:swapsWith value (some (.Subscript o i pos')) pos.line X.env=pure false):
 PS X (.Assign [.Subscript o i pos'] value pos) (sN td ty tv):=by
 intro pins s σ H D I h;refine wpAny_Assign_Subscript (Bk (hv pins s σ H _ I h) λ r s1 ⟨v,H1,I1,rv,q1⟩=>Bk (ho pins s1 σ H1 _ I1 q1) λ u s2 ⟨x,H2,I2,rx,q2⟩=>Bk (hi pins s2 σ H2 _ I2 q2) λ iv s3 zz=>?_) hs;obtain⟨y,H3,I3,ry,a,H4,ex,g,q3⟩:=zz;subst ex;obtain rfl:u=zad a:=rx;exact WT hu I3 g ry rv λ s4 I4=>⟨σ,H4,I4,q3⟩
end
def RX {P:Program}{w:World}{H:Hp}(h:Heap)(hb:sysModules<h.objs.size):BQ P w H (h.push {cls:=.type "dict",data:=.dict #[]}) h.objs.size (.dK []):=
 ⟨za6 _,beq_eq_false_iff_ne.mpr (zac (zM hb)),[],.nil,Heap.DictOf.new h⟩
def YL {P:Program}{w:World}{H:Hp}(h:Heap)(hb:sysModules<h.objs.size):BQ P w H (h.push {cls:=.type "dict",data:=.dict #[]}) h.objs.size (.dT []):=
 ⟨za6 _,beq_eq_false_iff_ne.mpr (zac (zM hb)),[],.nil,_,#[],0,zN _ rfl,⟨rfl,rfl,rfl⟩,rfl,rfl,zax⟩
abbrev nT:TE:=λ _ H Q=>∀p,H p=none->Q (.ref p) (upd H p (.dK []))
abbrev nU:TE:=λ _ H Q=>∀p,H p=none->Q (.ref p) (upd H p (.dT []))
section
variable {X:Cx}{pos:Pos}
def YM:PE X (.Dict [] [] pos) nT:=λ pins s σ H Q I h =>
 wpAny_Dict_empty ⟨.ref s.heap.objs.size,_,I.laid (a:=s.heap.objs.size) (o:=.dK []) (t':=s.toks) (λ _ _ q=>z6 _ q) (zF _) (RX s.heap I.big),rfl,h _ (I.Ar.fresh (zF _))⟩
def YN:PE X (.Dict [] [] pos) nU:=λ pins s σ H Q I h =>
 wpAny_Dict_empty ⟨.ref s.heap.objs.size,_,I.laid (a:=s.heap.objs.size) (o:=.dT []) (t':=s.toks) (λ _ _ q=>z6 _ q) (zF _) (YL s.heap I.big),rfl,h _ (I.Ar.fresh (zF _))⟩
end
abbrev Uh:List (TE×TE)->St->Hp->(List (V×V)->Hp->Prop)->Prop
 |[],_,H,Q=>Q [] H
 |(tk,tv)::r,σ,H,Q=>tk σ H λ x H1=>tv σ H1 λ y H2=>Uh r σ H2 λ ps H3=>Q ((x,y)::ps) H3
noncomputable abbrev VV:List (V×V)->List (Value×Value)->Prop:=Paired λ p q=>RelV p.1 q.1/\RelV p.2 q.2
abbrev uX (X:Cx)(pos:Pos)(keys:List (Option Expr))(values:List Expr)(c4:List (TE×TE)):Prop:=
 ∀(pins:List (Addr×Obj)) (s:Shared) (σ:St) (H:Hp) (Q:List (V×V)->Hp->Prop),Inv X pins σ H s->Uh c4 σ H Q->
  wpAny (model X.prog X.w) X.A (evalPairs (pairTrees keys values X.env pos)) (λ vs s'=>∃ps H',Inv X pins σ H' s'/\VV ps vs/\Q ps H') X.xe s
def fM {X:Cx}{pos:Pos}:uX X pos [] [] []:=λ pins s σ H Q I h=>pairTrees_nil_walk ⟨[],H,I,.nil,h⟩
def YO {X:Cx}{pos:Pos}{k v:Expr}{ks:List (Option Expr)}{vs:List Expr}{tk tv:TE}{c4:List (TE×TE)}(hk:PE X k tk)(hv:PE X v tv)(hr:uX X pos ks vs c4):
 uX X pos (some k::ks) (v::vs) ((tk,tv)::c4):=λ pins s σ H Q I h =>
 pairTrees_cons_walk (Bk (hk pins s σ H _ I h) λ u s1 ⟨x,H1,I1,rx,q1⟩=>Bk (hv pins s1 σ H1 _ I1 q1) λ w2 s2 ⟨y,H2,I2,ry,q2⟩ =>
  Bk (hr pins s2 σ H2 _ I2 q2) λ ws s3 ⟨ps,H3,I3,rel,q3⟩=>⟨(x,y)::ps,H3,I3,.cons ⟨rx,ry⟩ rel,q3⟩)
abbrev Gy (kvs more:List (Key×V)):List (Key×V):=more.foldl (λ acc kv=>putK acc kv.1 kv.2) kvs
def KV.merge:∀ {more:List (Key×V)}{rs:List (Key×Value)}{kvs:List (Key×V)}{vs:List (Key×Value)},KV more rs->KV kvs vs->KV (Gy kvs more) (merged vs rs):=by
 intro more rs kvs vs r;unfold KV at r;induction r generalizing kvs vs with
 |nil=>intro q;exact q
 | @cons p q ps qs h t ih =>
  intro r0;have e:KV (putK kvs p.1 p.2) (stored vs q.1 q.2):=by
   have:=r0.put p.1 h.2;rw[<-h.1];exact this
  exact ih e
def Il:∀(more kvs:List (Key×V)),(Gy kvs more).length<=kvs.length+more.length
 |[],kvs=>by show kvs.length<=kvs.length+0;omega
 |p::r,kvs=>by
  have h1:=Il r (putK kvs p.1 p.2);have h2:=Ds kvs p.1 p.2;show (Gy (putK kvs p.1 p.2) r).length<=_;rw[z7];omega
def MJ {P:Program}{w:World}:∀ {kvs:List (Key×V)}{ws:List (Value×Value)},VV (kvs.map λ kv=>(kV kv.1,kv.2)) ws->∃rs,Carries (B6 P w) ws rs/\KV kvs rs
 |[],_,r=>by rw[zbr] at r;cases r;exact⟨[],zbv,.nil⟩
 |p::kvs,_,r=>by
  rw[zx] at r;cases r with
  | @cons a b as bs h t =>
   obtain⟨rs,c,q⟩:=MJ (P:=P) (w:=w) t;obtain⟨b1,b2⟩:=b;exact⟨(p.1,b2)::rs,⟨Lg h.1,rfl,c⟩,.cons ⟨rfl,h.2⟩ q⟩
abbrev sO (c4:List (TE×TE)):TE:=λ σ H Q=>∀p,H p=none->Uh c4 σ (upd H p (.dK [])) λ ps H2=>H2 p=some (.dK [])/\∃kvs:List (Key×V),ps=kvs.map (λ kv=>(kV kv.1,kv.2))/\kvs.length<=15/\Q (.ref p) (upd H2 p (.dK (Gy [] kvs)))
def fN {X:Cx}{pos:Pos}{keys:List (Option Expr)}{values:List Expr}{c4:List (TE×TE)}(h:uX X pos keys values c4)(a8:keys.all (·.isSome)=true)(hl:keys.length=values.length)(h0:keys≠[])
 (uz:keys.length<=15):PE X (.Dict keys values pos) (sO c4):=by
 intro pins s σ H Q I q;have hn:=I.Ar.fresh (zF s.heap.objs.size);have I1:=I.laid (a:=s.heap.objs.size) (o:=.dK []) (h':=s.heap.push {cls:=.type "dict",data:=.dict #[]}) (t':=s.toks) (λ _ _ q=>z6 _ q) (zF _) (RX s.heap I.big);refine wpAny_Dict_walk (knd:=B6 X.prog X.w) a8 hl h0 uz (Bk (h pins _ σ _ _ I1 (q _ hn)) λ ws s2 zz=>?_);obtain⟨ps,H2,I2,rel,e,kvs,ep,lk,q2⟩:=zz;subst ep;obtain⟨rs,c,rk⟩:=MJ (P:=X.prog) (w:=X.w) rel;obtain⟨z,hd,rn,r0,dd⟩:=kU I2.Ar e;cases r0;refine⟨rs,c,dd,λ h' fv hs=>⟨.ref s.heap.objs.size,_,?_,rfl,q2⟩⟩;have hz:(Gy [] kvs).length<=sizeLine:=by
  have h1:=Il kvs [];rw[List.length_nil] at h1;rw[sizeLine_eq];omega
 have he:∃q,h'.get? s.heap.objs.size=some q:=let ⟨q,_,_,hq,_⟩:=fv;⟨q,hq⟩;exact Qh I2 (by rw[e];exact zbv) hs he (YK hz hd (rk.merge .nil) fv)
structure M1 (X:Cx)(o:Expr)(m:Str)(apos:Pos)(e:Expr)(ad:Pos):Prop where
 base:attributeBase o m X.env (eval o X.env)=eval o X.env
 yR:((backTo ad (starEach [e] X.env)).all (λ x => !x.1)&&(backToKw ad (keywordEach [] X.env)).all (λ x=>x.1.isSome)
  && decide (([e]:List Expr).length+([]:List Keyword).length+(if ([]:List Keyword).isEmpty then 0 else 1)<30))=true
 line:(apos.endLine==ad.line)=true
 sP:backTo ad (starEach [e] X.env)=[(false,eval e X.env)]
abbrev wO (H:Hp)(a:Addr):Prop:=(∃kvs,Rd H a (.dK kvs))\/∃kvs,Rd H a (.dT kvs)
def Ui {X:Cx}{pins:List (Addr×Obj)}{σ:St}{H:Hp}{s:Shared}{a:Addr}(I:Inv X pins σ H s)(d:wO H a):
 s.TypeIs (.ref a) "dict" /\ (∀b,zad a=.ref b->∃ob,s.heap.get? b=some ob/\ob.dict=none)/\(a==sysModules)=false:=by
 rcases d with ⟨kvs,e⟩|⟨kvs,e⟩
 ·obtain⟨_,hd,vs,_,dd⟩:=MH I.Ar e;refine⟨dd.typeIs,λ b q=>?_,hd⟩;cases q;obtain⟨ob,_,_,h1,h2,_⟩:=dd;exact⟨ob,h1,h2.2.1⟩
 ·obtain⟨_,hd,xs,_,dd⟩:=MI I.Ar e;refine⟨dd.typeIs,λ b q=>?_,hd⟩;cases q;obtain⟨ob,_,_,h1,h2,_⟩:=dd;exact⟨ob,h1,h2.2.1⟩
section
variable {X:Cx}{pins:List (Addr×Obj)}{σ:St}{H:Hp}{s:Shared}{a:Addr}{y d:V}{u r:Value}{o:Option V}{A:Around}{E:Value->Shared->Prop}
def nV {Q:Value->Shared->Prop}(hu:A.units+1<cLine)(I:Inv X pins σ H s)(g:Qg H a y o)(ry:RelV y u)(h:∀w' s',Inv X pins σ H s'->RelV (o.getD .AL) w'->Q w' s'):
 wpAny (model X.prog X.w) A (call (.builtin "dict.get") [.ref a,u]) Q E s:=by
 rcases g with ⟨kvs,k,e,ey,l⟩|⟨kvs,k,b,e,ey,eb,l⟩
 ·subst ey;obtain⟨z,hd,vs,rel,dd⟩:=MH I.Ar e;refine call_meetsIn PySem.F.slot_dict_get dd.typeIs PySem.F.entry_dict_get (PySem.F.args_dict_get_2 _ _) (meets_dict_get (B6 X.prog X.w) a (Lg ry) hd) ⟨_,dd.mapOf,h _ _ (I.tok _) ?_⟩;rw[l];exact (rel.val k).getD rfl
 ·subst ey;cases (show u=zad b from ry);obtain⟨z,hd,xs,rel,dd⟩:=MI I.Ar e;refine call_meetsIn PySem.F.slot_dict_get dd.typeIs PySem.F.entry_dict_get (PySem.F.args_dict_get_2 _ _) (meetsH_dict_get (tupleKind (B6 X.prog X.w)) a b hd) ⟨tupleKind_room_in1 hu,k,xs,IJ I.Ar eb,dd,h _ _ (I.tok _) ?_⟩;rw[l];exact (rel.val k).getD rfl
end
abbrev nW (td ty:TE):TE:=λ σ H Q=>td σ H λ x H1=>∃a,x=.ref a/\wO H1 a/\ty σ H1 λ y H2=>∃o,Qg H2 a y o/\Q (o.getD .AL) H2
section
variable {X:Cx}{o e f:Expr}{apos ad:Pos}{td ty tx:TE}
def YQ (hu:X.A.units+1<cLine)(ho:PE X o td)(he:PE X e ty)(m:M1 X o "get" apos e ad):PE X (.Call (.Attribute o "get" apos) [e] [] ad) (nW td ty):=by
 intro pins s σ H Q I h;refine wpAny_Call_method m.base m.yR m.line PySem.F.plainAttrs_dict PySem.F.slot_dict_get PySem.F.type_dict_get (Bk (ho pins s σ H _ I h) λ u s1 zz=>?_);obtain⟨x,H1,I1,rx,a,ex,d,q1⟩:=zz;subst ex;obtain rfl:u=zad a:=rx;obtain⟨t1,t2,_⟩:=Ui I1 d;refine⟨t1,t2,?_⟩;rw[m.sP];refine Calls.callWith_builtin rfl (Calls.evalArgs_plain (zbh (Bk (he pins s1 σ H1 _ I1 q1) λ iv s2 ⟨y,H2,I2,ry,ov,g,q2⟩=>zbn ?_)));exact nV hu I2 g ry λ w' s3 I3 bg=>⟨_,H2,I3,bg,q2⟩
end
abbrev Vs (y:Str×NameKind):Bool:=y.2==.cell
abbrev Gz (sc outer:Scope):Bool:=
 decide (sc.kind=.function)&&(decide ((sc.names.filter Vs).length<=1)&&sc.names.all λ y=>(decide (y.2≠.cell)||decide (sc.names.lookup y.1=some .cell))&&(decide (y.2≠.free)||decide (outer.names.lookup y.1=some .cell)||decide (outer.names.lookup y.1=some .free))&&(decide (y.2≠.local)||decide (sc.names.lookup y.1=some .local)))
abbrev GA (names:List (Str×NameKind)):Option Str:=(names.find? Vs).map (·.1)
abbrev Vt (C:Addr)(names:List (Str×NameKind))(cs:List (Str×Addr)):List (Str×Addr):=match GA names with
 |some x=>(x,C+1)::cs
 |none=>cs
def RY {names:List (Str×NameKind)}{x:Str}(h:GA names=some x):(x,.cell)∈names:=by
 unfold GA at h;obtain⟨y,h1,rfl⟩:=zaq.mp h;have h2:=List.find?_some h1;have e:y.2=.cell:=by unfold Vs at h2;simpa using h2
 have:=List.mem_of_find?_eq_some h1;rw[<-e];exact this
def nX {names:List (Str×NameKind)}(h:(names.filter Vs).length<=1){x:Str}(hx:(x,.cell)∈names):GA names=some x:=by
 induction names with
 |nil=>cases hx
 |cons y r ih =>
  unfold GA;cases e:Vs y with
  |true =>
   rw[List.filter_cons_of_pos e,z7] at h;rw[List.find?_cons_of_pos e];rcases zB.mp hx with rfl|hx
   ·rfl
   ·have:(x,NameKind.cell)∈r.filter Vs:=zau.mpr ⟨hx,rfl⟩;rw[List.eq_nil_of_length_eq_zero (l:=r.filter Vs) (by omega)] at this;cases this
  |false =>
   rw[List.filter_cons_of_neg (by rw[e];exact zO)] at h;rw[List.find?_cons_of_neg (by rw[e];exact zO)];rcases zB.mp hx with rfl|hx
   ·cases e
   ·exact ih h hx
def Uj:∀ {names:List (Str×NameKind)}{n:Nat}{acc:List (Str×Addr)},(names.filter Vs).length<=1->cellsFrom n names acc=match GA names with | some x=>(x,n)::acc | none=>acc
 |[],_,_,_=>rfl
 |(x,k)::r,n,acc,h=>by
  unfold cellsFrom GA;cases e:Vs (x,k) with
  |true =>
   rw[List.filter_cons_of_pos e,z7] at h;rw[List.find?_cons_of_pos e,if_pos (show (k==NameKind.cell)=true from e),Uj (by omega)];cases q:GA r with
   |none=>rfl
   |some y =>
    have:(y,NameKind.cell)∈r.filter Vs:=zau.mpr ⟨RY q,rfl⟩;rw[List.eq_nil_of_length_eq_zero (l:=r.filter Vs) (by omega)] at this;cases this
  |false =>
   have e':¬ Vs (x,k)=true:=by rw[e];exact zO
   rw[List.filter_cons_of_neg e'] at h;rw[List.find?_cons_of_neg e',if_neg (show ¬ (k==NameKind.cell)=true from e'),Uj h];rfl
abbrev Qi (N NB:List Str)(sc:Scope)(μ:List (Option Nat)):Bool:=
 decide (NB.length=μ.length)&&(NB.zip μ).all λ p=>match p.2 with
  |none=>true
  |some i=>decide (N[i]?=some p.1)&&decide (sc.names.lookup p.1=some .free)
abbrev EN (μ:List (Option Nat))(σ:St):St:=μ.map λ o=>o.bind λ i=>(σ[i]?).join
abbrev Ft (cells:List (Str×Addr)):List (Str×NameKind)->List (Str×Addr)->List (Str×Addr)
 |[],cs=>cs
 |(n,k)::r,cs=>Ft cells r (if (k==.free)=true then (n,(cells.lookup n).getD 0)::cs else cs)
def Im {scope:Scope}{env:Env}(h:∀y∈scope.names,y.2=.free->∃c,env.cells.lookup y.1=some c):closureFor scope env=pure (Ft env.cells scope.names []):=by
 unfold closureFor;have key:∀(names:List (Str×NameKind)) (cs:List (Str×Addr)),(∀y∈names,y.2=.free->∃c,env.cells.lookup y.1=some c)->
  (forIn names cs λ(x:Str×NameKind) r=>match x with
   |(name,kind)=>if (kind==zbz)=true then do
    let __do_lift <-cellOf env name
    pure (zch ((name,__do_lift)::r))
    else pure (zch r):Sem _)=pure (Ft env.cells names cs):=by
  intro names;induction names with
  |nil=>intro cs _;rfl
  |cons y r ih =>
   intro cs hy;obtain⟨n,k⟩:=y;rw[List.forIn_cons];by_cases hk:k=.free
   ·subst hk;obtain⟨c,hc⟩:=hy (n,.free) zv rfl;have e:cellOf env n=pure c:=by unfold cellOf;rw[show env.cells.lookup n=some c from hc]
    simp only[e,beq_self_eq_true,if_true,pure_bind];rw[ih _ λ z hz=>hy z (zw _ hz)];simp only[Ft,beq_self_eq_true,if_true];rw[show env.cells.lookup n=some c from hc];rfl
   ·have hb:(k==zbz)=false:=by simpa using hk
    simp only[hb,zR,if_false,pure_bind];rw[ih _ λ z hz=>hy z (zw _ hz)];simp only[Ft,hb,zR,if_false]
 have q:=key scope.names [] h;simp only[bind_pure];exact q
def RZ {cells:List (Str×Addr)}:∀ {names:List (Str×NameKind)}{cs:List (Str×Addr)}{x:Str}{c:Addr},(x,c)∈Ft cells names cs->(x,c)∈cs\/((x,.free)∈names/\c=(cells.lookup x).getD 0)
 |[],cs,x,c,h=>.inl h
 |(n,k)::r,cs,x,c,h=>by
  rcases RZ (names:=r) h with q|⟨q,e⟩
  ·by_cases hk:k=.free
   ·subst hk;simp only[beq_self_eq_true,if_true] at q;rcases zB.mp q with z|z
    ·cases z;exact .inr ⟨zv,rfl⟩
    ·exact .inl z
   ·have hb:(k==zbz)=false:=by simpa using hk
    simp only[hb,zR,if_false] at q;exact .inl q
  ·exact .inr ⟨zw _ q,e⟩
def MK {cells:List (Str×Addr)}:∀ {names:List (Str×NameKind)}{cs:List (Str×Addr)}{p:Str×Addr},p∈cs->p∈Ft cells names cs
 |[],_,_,h=>h
 |(n,k)::r,cs,p,h=>by
  show p∈Ft cells r _;refine MK ?_;by_cases hk:(k==zbz)=true
  ·rw[if_pos hk];exact zw _ h
  ·rw[if_neg hk];exact h
def ML {cells:List (Str×Addr)}:∀ {names:List (Str×NameKind)}{cs:List (Str×Addr)}{x:Str},(x,.free)∈names->∃c,(x,c)∈Ft cells names cs
 |(n,k)::r,cs,x,h=>by
  rcases zB.mp h with z|z
  ·cases z;refine⟨(cells.lookup n).getD 0,?_⟩;show _∈Ft cells r (if (zbz==zbz)=true then _ else _);exact MK (by rw[if_pos (beq_self_eq_true _)];exact zv)
  ·exact ML (names:=r) z
def Dp {x:Str}{c:Addr}:∀ {l:List (Str×Addr)},(x,c)∈l->∃c',l.lookup x=some c'
 |(y,d)::r,h=>by
  rw[zb2];by_cases e:(x==y)=true
  ·rw[e];exact⟨d,rfl⟩
  ·rw[Bool.eq_false_iff.mpr e];rcases zB.mp h with z|z
   ·cases z;exact absurd (beq_self_eq_true x) e
   ·exact Dp z
def Jk {scope:Scope}{env:Env}{x:Str}{k:NameKind}(h:(relabel scope env).names.lookup x=some k):∃k',scope.names.lookup x=some k'/\(k=k'\/(k'=.free/\k=.cell)):=by
 unfold relabel at h;dsimp only at h;revert h;induction scope.names with
 |nil=>intro h;cases h
 |cons y r ih =>
  obtain⟨n,k'⟩:=y;intro h;rw[zx,zb2] at h;rw[zb2];by_cases hc:(k'==zbz&&env.scope.kind==.function&&env.kindOf n==some .cell)=true
  ·dsimp only at h;rw[if_pos hc] at h;dsimp only at h;cases e:x==n with
   |true =>
    rw[e] at h;have hf:k'=.free:=by
     have:=hc;simp only[zZ] at this;simpa using this.1.1
    exact⟨k',rfl,.inr ⟨hf,(zT h).symm⟩⟩
   |false=>rw[e] at h;exact ih h
  ·dsimp only at h;rw[if_neg hc] at h;dsimp only at h;cases e:x==n with
   |true=>rw[e] at h;exact⟨k',rfl,.inl (zT h).symm⟩
   |false=>rw[e] at h;exact ih h
def lookup_mem {α:Type}{x:Str}{k:α}:∀ {l:List (Str×α)},l.lookup x=some k->(x,k)∈l
 |(y,d)::r,h=>by
  rw[zb2] at h;cases e:x==y with
  |true =>
   rw[e] at h;cases h;have:x=y:=by simpa using e
   subst this;exact zv
  |false=>rw[e] at h;exact zw _ (lookup_mem h)
abbrev blockOf (X:Cx)(s:Shared)(H:Hp)(scope:Scope)(C:Addr)(NB:List Str)(ex:List Addr):Cx:=
 {X with N:=NB,s₀:=s,H₀:=H,env:=compEnvC scope (Vt C scope.names (Ft X.env.cells scope.names [])) C X.env,outer:=X.stack,stack:=X.stack,ex:=ex,fn:=λ y=>GA scope.names==some y,pn:=[],xe:=λ _ _=>False}
section
variable {X:Cx}{pins:List (Addr×Obj)}{σ:St}{H:Hp}{s s4:Shared}{scope:Scope}{NB:List Str}{μ:List (Option Nat)}{fp:List Addr}{C:Addr}
def KD (h:Gz scope X.env.scope=true):scope.kind=.function:=by
 unfold Gz at h;simp only[zZ,decide_eq_true_eq] at h;exact h.1
def S0 {sc outer:Scope}(h:Gz sc outer=true):(sc.names.filter Vs).length<=1:=by
 unfold Gz at h;rw[zZ,zZ,decide_eq_true_eq,decide_eq_true_eq] at h;exact h.2.1
def Jl {sc outer:Scope}(h:Gz sc outer=true){y:Str×NameKind}(hy:y∈sc.names):(y.2=.cell->sc.names.lookup y.1=some .cell)/\(y.2=.free->outer.names.lookup y.1=some .cell\/outer.names.lookup y.1=some .free)/\(y.2=.local->sc.names.lookup y.1=some .local):=by
 unfold Gz at h;simp only[zZ,decide_eq_true_eq,List.all_eq_true,Bool.or_eq_true] at h;obtain⟨⟨h1,h2⟩,h3⟩:=h.2.2 y hy;exact⟨λ e=>h1.elim (λ q=>absurd e q) id,λ e=>by
  rcases h2 with (q|q)|q
  ·exact absurd e q
  ·exact .inl q
  ·exact .inr q,λ e=>h3.elim (λ q=>absurd e q) id⟩
def IK (I:Inv X pins σ H s)(h:Gz scope X.env.scope=true){x:Str}(hx:(x,.free)∈scope.names):∃c,X.env.cells.lookup x=some c:=I.ok.has x ((Jl h hx).2.1 rfl)
def MM (I:Inv X pins σ H s)(h:Gz scope X.env.scope=true){x:Str}{c:Addr}(e:(Ft X.env.cells scope.names []).lookup x=some c):X.env.cells.lookup x=some c:=by
 rcases RZ (lookup_mem e) with q|⟨q,r⟩
 ·cases q
 ·obtain⟨c',e'⟩:=IK I h q;rw[e'] at r;rw[e',r];rfl
def D8 (I:Inv X pins σ H s)(h:Gz scope X.env.scope=true){x:Str}{c:Addr}(e:(Vt C scope.names (Ft X.env.cells scope.names [])).lookup x=some c):(GA scope.names=some x/\c=C+1)\/X.env.cells.lookup x=some c:=by
 unfold Vt at e;cases q:GA scope.names with
 |none=>rw[q] at e;exact .inr (MM I h e)
 |some y =>
  rw[q] at e;dsimp only at e;rw[zb2] at e;cases b:x==y with
  |true=>rw[b] at e;cases e;exact .inl ⟨by rw[eq_of_beq b],rfl⟩
  |false=>rw[b] at e;exact .inr (MM I h e)
def MN {env:Env}(h:Gz scope env.scope=true){x:Str}{k:NameKind}(hk:(relabel scope env).names.lookup x=some k)(hc:k=.cell\/k=.free):(x,.free)∈scope.names\/GA scope.names=some x:=by
 obtain⟨k',e,q⟩:=Jk hk;have m:=lookup_mem e;rcases q with q|⟨q,_⟩
 ·subst q;rcases hc with z|z
  ·subst z;exact .inr (nX (S0 h) m)
  ·subst z;exact .inl m
 ·subst q;exact .inl m
def fO (h:Qi X.N NB scope μ=true):NB.length=μ.length/\∀(j i:Nat),μ[j]?=some (some i)->∃x,NB[j]?=some x/\X.N[i]?=some x/\scope.names.lookup x=some .free:=by
 unfold Qi at h;simp only[zZ,decide_eq_true_eq,List.all_eq_true] at h;refine⟨h.1,λ j i e=>?_⟩;have hj:j<NB.length:=by rw[h.1];exact (zG.mp e).1
 have m:(NB[j],some i)∈NB.zip μ:=by
  refine List.mem_iff_getElem?.mpr ⟨j,?_⟩;rw[List.getElem?_zip_eq_some];exact⟨z4 hj,e⟩
 have q:=h.2 _ m;dsimp only at q;simp only[zZ,decide_eq_true_eq] at q;exact⟨NB[j],z4 hj,q.1,q.2⟩
def S1 (I:Inv X pins σ H s)(a9:Gz scope X.env.scope=true)(b6:Qi X.N NB scope μ=true)(il:∀b∈fp,LS X pins H b)(lq:∀b∈fp,∃o,s.heap.get? b=some o)
 (hC:s.heap.objs.size<=C) {h4:Heap} {t4:Nat} (ns:h4.Ns C λ _=>none) (k:∀b o,s.heap.get? b=some o->h4.get? b=some o) (bP:∀x,GA scope.names=some x->h4.IsCell (C+1) none):
 Inv (blockOf X s H scope C NB fp) [] (EN μ σ) H {s with heap:=h4,toks:=t4}:=by
 obtain⟨hlen,b6⟩:=fO b6;have rq:∀b o,s.heap.get? b=some o->b≠C:=λ b o e=>zM (zL (zD e) hC);have rz:∀x c,X.env.cells.lookup x=some c->c≠C+1:=λ x c e z=>by
  obtain⟨v,o,ho,_⟩:=I.cell x c e;exact absurd (zL (zD ho) hC) (by rw[z];exact Nat.not_lt.mpr (Nat.le_succ C))
 have lr:∀x c,X.env.cells.lookup x=some c->c≠C:=λ x c e=>by
  obtain⟨v,o,ho,_⟩:=I.cell x c e;exact rq c o ho
 refine⟨⟨I.ok.mod,(show scope.kind=_ from KD a9),I.ok.glob,I.ok.blt,hC,λ x y c h1 h2=>?_,λ x hx=>?_,λ x c hf e=>?_,I.ok.hd,I.ok.frames,.inl rfl,λ b hb=>?_,I.bs,zal I.ok.eK I.sz,λ b o e hb=>?_,λ b hb hz=>?_,I.stack,I.Vi⟩,
  rfl,I.bare,Un.kept k,⟨_,ns,λ j x v e1 e2 e3=>?_⟩,λ x c e=>?_,I.Ar.fresh hC,λ x c e=>?_,λ p hp=>(by cases hp),I.Ar.kept k,?_⟩
 ·rcases D8 I a9 h1 with ⟨a1,a2⟩|a<;>rcases D8 I a9 h2 with ⟨b1,b2⟩|b
  ·rw[a1] at b1;exact zT b1
  ·exact absurd a2 (rz y c b)
  ·exact absurd b2 (rz x c a)
  ·exact I.ok.inj x y c a b
 ·have q:(x,zbz)∈scope.names\/GA scope.names=some x:=by
   rcases hx with hx|hx
   ·exact MN a9 hx (.inl rfl)
   ·exact MN a9 hx (.inr rfl)
  rcases q with q|q
  ·obtain⟨c,m⟩:=ML (cells:=X.env.cells) (cs:=[]) q;refine Dp (c:=c) ?_;show (x,c)∈Vt C scope.names _;unfold Vt;split
   ·exact zw _ m
   ·exact m
  ·refine Dp (c:=C+1) ?_;show (x,C+1)∈Vt C scope.names _;unfold Vt;rw[q];exact zv
 ·have hq:GA scope.names=some x:=by simpa [blockOf] using hf
  have e':(Vt C scope.names (Ft X.env.cells scope.names [])).lookup x=some c:=e;unfold Vt at e';rw[hq] at e';dsimp only at e';rw[zb2,beq_self_eq_true] at e';cases e';exact Nat.le_succ_of_le hC
 ·obtain⟨o,ho⟩:=lq b hb;refine⟨rq b o ho,λ x c e z=>?_⟩;rcases D8 I a9 e with ⟨_,a2⟩|e
  ·exact absurd (zL (zD ho) hC) (by rw[<-z,a2];exact Nat.not_lt.mpr (Nat.le_succ C))
  ·exact (il b hb).2.2.2.2.1 x c e z
 ·rcases (il b hb).2.2.2.1 with z|z
  ·exact I.ok.Yj b o e z
  ·exact absurd (zL (zD (I.ok.bs b o e).1) z) (Nat.lt_irrefl _)
 ·rcases zB.mp (I.U2 b hz) with e|e
  ·exact (il b hb).2.1 e
  ·exact (il b hb).2.2.1 e
 ·have jg:(μ[j]?).map (λ o=>o.bind λ i=>(σ[i]?).join)=some (some v):=by
   rw[<-zU];exact e2
  cases q:μ[j]? with
  |none=>rw[q] at jg;cases jg
  |some o =>
   rw[q] at jg;cases o with
   |none=>cases jg
   |some i =>
    have e4:(σ[i]?).join=some v:=by simpa using jg
    have e5:σ[i]?=some (some v):=by
     cases z:σ[i]? with
     |none=>rw[z] at e4;cases e4
     |some w=>rw[z] at e4;simp at e4;rw[e4]
    obtain⟨x',n1,n2,n3⟩:=b6 j i q;have ex:x'=x:=zT (n1.symm.trans e1);subst ex;have m:=lookup_mem n3;have ov:=(Jl a9 m).2.1 rfl;obtain⟨mm,hn,hl⟩:=I.loc;obtain⟨u,r,l⟩:=hl i x' v n2 e5 (ov.elim (λ z=>.inr (.inl z)) λ z=>.inr (.inr z));refine⟨u,r,.inr ⟨?_,?_⟩⟩
    ·rcases e3 with z|z|z
     ·obtain⟨k',z1,z2⟩:=Jk (k:=.local) z;rw[n3] at z1;cases z1;rcases z2 with z2|⟨_,z2⟩<;>cases z2
     ·exact .inl z
     ·exact .inr z
    ·rcases l with ⟨l,_⟩|⟨_,c,l1,l2⟩
     ·rcases ov with z|z<;>(rw[show X.env.kindOf x'=_ from z] at l;cases l)
     ·obtain⟨c',m'⟩:=ML (cells:=X.env.cells) (cs:=[]) m;obtain⟨y4,l3⟩:=Dp m';have l4:=MM I a9 l3;rw[l1] at l4;cases l4;have l5:(Vt C scope.names (Ft X.env.cells scope.names [])).lookup x'=some c:=by
       unfold Vt;cases q9:GA scope.names with
       |none=>exact l3
       |some y =>
        have ne:(x'==y)=false:=by
         cases b:x'==y with
         |false=>rfl
         |true =>
          have z:=(Jl a9 (RY q9)).1 rfl;rw[<-eq_of_beq b] at z;rw[show scope.names.lookup x'=some .cell from z] at n3;cases n3
        dsimp only;rw[zb2,ne];exact l3
      refine⟨c,l5,?_⟩;obtain⟨o,ho,hd⟩:=l2;exact⟨o,k _ _ ho,hd⟩
 ·rcases D8 I a9 e with ⟨a1,rfl⟩|e
  ·exact⟨_,bP x a1⟩
  ·obtain⟨v,o,ho,hd⟩:=I.cell x c e;exact⟨v,o,k _ _ ho,hd⟩
 ·rcases D8 I a9 e with ⟨a1,rfl⟩|e
  ·exact I.Ar.fresh (Nat.le_succ_of_le hC)
  ·exact I.Gr x c e
 ·show (EN μ σ).length=NB.length;unfold EN;rw[zu,hlen]
def Gi.adopt {P:Program}{w:World}{H:Hp}{h:Heap}{a:Addr}{o:HO}(x:Gi P w H h)(hn:H a=none)(new:BQ P w (upd H a o) h a o):Gi P w (upd H a o) h:=λ b u e=>by
 by_cases hb:b=a
 ·subst hb;rw[Ap] at e;cases e;exact new
 ·rw[Ai hb] at e;exact (x b u e).O6 (λ c v _ q=>q) (λ c q=>by rw[Ai (Ax q hn)];exact q) λ c xs q=>by rw[Ai (Ax q hn)];exact q
def WU {H':Hp}{s':Shared}{h':Heap}{D:Addr}{pl:List (Addr×Obj)}{σ':St}{aa:List Value}{ys:List V}{n:Nat}(I:Inv X pins σ H s)(il:∀b∈fp,LS X pins H b)(J:Inv (blockOf X s H scope C NB fp) pl σ' H' s')
 (hC:s.heap.objs.size<=C) (hD:s.heap.objs.size<=D) (c5:D≠C) (eD:s'.heap.get? D=some {cls:=.type "list",data:=.seq aa.toArray n}) (nD:H' D=none) (r:Vals ys aa) (hz:ys.length<=sizeLine)
 (sb:zc4 C s'.heap h'):Inv X pins σ (upd H' D (.lst ys)) {s' with heap:=h' }:=by
 have f6:∀b o,s.heap.get? b=some o->b≠C:=λ b o e=>zM (zL (zD e) hC);have nc:∀b o,s.heap.get? b=some o->b≠D:=λ b o e=>zM (zL (zD e) hD);have freshD:H D=none:=I.Ar.fresh hD;have nC:H' C=none:=J.free;have u:Un (Y8 X.stack) fp H H' s.heap s'.heap:=J.base;have fm:Gi X.prog X.w H' h':=λ b ob e=>(J.Ar b ob e).O6 (λ c v hc q=>(sb.2 c (by
  intro z;subst z;rcases hc with rfl|hc
  ·rw[nC] at e;cases e
  ·rw[nC] at hc;cases hc)).trans q) (λ _ q=>q) λ _ _ q=>q
 refine I.rE (ch:=fp) J.os ⟨λ b o e n hb hx=>?_,λ b o e n hb hx=>?_,λ b o e n hx=>?_,λ b o e hx=>?_,λ b xs e=>?_,λ b o u' e=>?_,λ b ps e=>?_⟩ (fm.adopt nD ⟨hz,aa,n,r,(sb.2 D c5).trans eD⟩) J.bare λ b hb=>?_
 ·exact (sb.2 b (f6 b o e)).trans (u.keep b o e n hb hx)
 ·obtain⟨sl,q⟩:=u.slot b o e n hb hx;exact⟨sl,(sb.2 b (f6 b o e)).trans q⟩
 ·rw[Ai (nc b o e)];exact u.free b o e n hx
 ·obtain⟨o',q⟩:=u.there b o e hx;exact⟨o',(sb.2 b (f6 b o e)).trans q⟩
 ·rw[Ai (Ax e freshD)];exact u.Q3 b xs e
 ·rw[Ai (Ax e freshD)];exact u.O7 b o u' e
 ·rw[Ai (Ax e freshD)];exact u.Q4 b ps e
 ·obtain⟨_,f1,_,f3,f4,f5⟩:=il b hb;exact⟨f3,f1,f4,f5⟩
end
def YR {M:Model}{A:Around}{E:Value->Shared->Prop}{s:Shared}{scope:Scope}{g:Addr}{cl:List (Str×Addr)}{qual:Str}{outer:Env}{Q:Env->Shared->Prop}(h1:(scope.names.filter Vs).length<=1)
 (hQ:∀h',h'.Ns s.heap.objs.size (λ _=>none)->(∀b o,s.heap.get? b=some o->h'.get? b=some o)->(∀x,GA scope.names=some x->h'.IsCell (s.heap.objs.size+1) none)->
  Q {scope:=scope,locals:=s.heap.objs.size,globals:=g,cells:=Vt s.heap.objs.size scope.names cl,qual:=qual,func:=none,code:=outer.code,frame:=outer.frame,builtins:=outer.builtins} {s with heap:=h' }):
 wpAny M A (newFunctionEnv scope g cl [] qual none .none (some outer)) Q E s:=by
 unfold newFunctionEnv;simp only[Option.isSome_some,if_true];refine wpAny_bind (wpAny_alloc (wpAny_bind (wpAny_layCells _ (λ x k cs=>by cases e:k==NameKind.cell<;>simp[e]) _ _ _ _ ?_)));have ok:=cellsFrom_ok scope.names (s.heap.push {cls:=.type "dict",data:=.dict #[]}) 0 [] ⟨λ _ _ z=>(by cases z),.nil⟩ (za6 _);rw[Uj h1] at ok ⊢;rw[zcd] at ok;rw[List.forIn_nil];refine wpAny_bind (wpAny_pure (wpAny_pure ?_));have key:=hQ (pushCells (s.heap.push {cls:=.type "dict",data:=.dict #[]}) scope.names) ((Heap.Ns.new s.heap (.type "dict")).keeps (pushCells_keeps _ _)) (λ b o e=>pushCells_keeps _ _ b o (z6 _ e)) (λ x hx=>(ok.empty x (s.heap.objs.size+1) (by rw[hx];exact zv)).1);unfold Vt at key;rw[<-zcd s.heap {cls:=.type "dict",data:=.dict #[]}] at key;exact key
def Qj {prog:Program}{w:World}{A:Around}{R:Result->Shared->Prop}{s:Shared}{elt target iter:Expr}{ifs:List Expr}{scope:Scope}{pos:Pos}{it acc:Value}{env:Env}(I:Nat->Shared->Prop)
 (turn:∀n s,I n s->wpAny (model prog w) A (pyNext it) (λ r s₁=>match r with
  |none=>R (.ok .next) s₁
  |some v=>wpAny (model prog w) A (letOwnedTupleGo target it v) (λ _ s₁'=>wpAny (model prog w) A (assign target env v) (λ _ s₂ =>
   wpAny (model prog w) A (forIn ifs true λ c r=>if r=true then do let ok <-isTrue c env (eval c env);pure (zch ok) else pure (zch r)) (λ ok s₃ =>
    if ok=true then wpAny (model prog w) A (eval elt env) (λ x s₄ =>
     wpAny (model prog w) A (call (.builtin "list.append") [acc,x]) (λ _ s₅=>∃m,m<n/\I m s₅) (λ _ _=>False) s₄) (λ _ _=>False) s₃
    else ∃m,m<n/\I m s₃) (λ _ _=>False) s₂) (λ _ _=>False) s₁') (λ _ _=>False) s₁) (λ _ _=>False) s)
 (n:Nat) (h:I n s):
 codeAny (model prog w) A (.compLoop (.ListComp elt [⟨target,iter,ifs,0⟩] scope pos) 0 it acc env) R s:=by
 refine codeAny_loop rfl I (λ n s hI=>?_) n h;show wpAny _ A ((compTurn (.ListComp elt [⟨target,iter,ifs,0⟩] scope pos) 0 it acc env).onRaise (λ x=>do noteFrame x env;theTreesLotGoes x)) _ _ s;refine wpAny_noted ?_;rw[compTurn_list];refine wpAny_bind (wpAny_standAt (wpAny_bind (wpAny_mono (turn n s hI) (λ r s₁ h₁=>?_) λ _ _ h'=>h'.elim)));cases r with
 |none=>exact wpAny_pure h₁
 |some v =>
  refine wpAny_bind (wpAny_mono h₁ (λ _ s₁' h₁'=>?_) λ _ _ h'=>h'.elim);refine wpAny_bind (wpAny_mono h₁' (λ _ s₂ h₂=>wpAny_bind (wpAny_mono h₂ (λ ok s₃ h₃=>?_) λ _ _ h'=>h'.elim)) λ _ _ h'=>h'.elim);cases ok with
  |false=>exact wpAny_pure ⟨rfl,h₃⟩
  |true =>
   exact wpAny_bind (wpAny_bind (wpAny_mono h₃ (λ x s₄ h₄=>wpAny_bind (wpAny_mono h₄ (λ _ s₅ h₅=>wpAny_pure (wpAny_pure ⟨rfl,h₅⟩)) λ _ _ h'=>h'.elim)) λ _ _ h'=>h'.elim))
abbrev qN (X:Cx)(cs:List Expr)(t:TT):Prop:=
 ∀(pins:List (Addr×Obj)) (s:Shared) (σ:St) (H:Hp) (Q:Bool->Hp->Prop),Inv X pins σ H s->t σ H Q->
  wpAny (model X.prog X.w) X.A (forIn cs true λ c r=>if r=true then do let ok <-isTrue c X.env (eval c X.env);pure (zch ok) else pure (zch r)) (TP X pins σ Q) X.xe s
abbrev wQ:TT:=λ _ H Q=>Q true H
def fP {X:Cx}:qN X [] wQ:=λ _ _ _ H _ I h=>wpAny_tests_nil ⟨H,I,h⟩
def fQ {X:Cx}{c:Expr}{t:TT}(h:PT X c t):qN X [c] t:=λ pins s σ H Q I q=>wpAny_tests_one (h pins s σ H Q I q)
abbrev KG (μ:List (Option Nat))(g:TG):Prop:=∀σ x H Q,g x (EN μ σ) H Q->g x (EN μ σ) H λ σ' H'=>Q σ' H'/\∀(j:Nat) v,(EN μ σ)[j]?=some (some v)->σ'[j]?=some (some v)
def fR {μ:List (Option Nat)}{i:Nat}(h:μ[i]?=some none):KG μ (OF i):=λ σ x H Q q=>by
 refine⟨q,λ j v e=>?_⟩;have ae:j≠i:=λ z=>by
  subst z;unfold EN at e;rw[zU,h] at e;cases e
 rw[zas (zac ae)];exact e
abbrev xP (J:It)(H1:Hp)(Q:VK)(st:V->Hp->(St->Hp->Prop)->Prop)(tc:TT)(te:TE):Prop:=
 ∃W:Nat->Nat->List V->Hp->Prop,(∃m,W 0 m [] H1)/\∀i m ys H2,W i m ys H2->
  (J.stop i H2/\∀D,H2 D=none->Q (.ref D) (upd H2 D (.lst ys))) \/
  (J.go i H2/\ys.length<sizeLine/\∃N:List V->Hp->Prop,(∀bt H',N bt H'->∃m',m'<m/\W (i+1) m' bt H')/\∀x H3,J.kP i H2 x H3->st x H3 λ σ4 H4=>tc σ4 H4 λ b H5=>if b=true then te σ4 H5 λ y H6=>N (ys++[y]) H6 else N ys H5)
abbrev Vu (wi:TI)(μ:List (Option Nat))(g:TG)(tc:Shared->Hp->Addr->List Addr->TT)(te:Shared->Hp->Addr->List Addr->TE):TE:=λ σ H Q=>wi σ H λ J H1=>∀s C ex,xP J H1 Q (λ x H K=>g x (EN μ σ) H K) (tc s H1 C ex) (te s H1 C ex)
section
variable {X:Cx}{pins:List (Addr×Obj)}{σ:St}{H2:Hp}{s2:Shared}{tg elt iter:Expr}{ifs:List Expr}{scope:Scope}{pos:Pos}{NB:List Str}{μ:List (Option Nat)}{g:TG}{tc:Shared->Hp->Addr->List Addr->TT}{te:Shared->Hp->Addr->List Addr->TE}{fp:List Addr}{it:Addr}{tn:Nat->Heap->Prop}{J:It}{Q:VK}
def OR (hc:X.calm=true)(I2:Inv X pins σ H2 s2)(T:Turn X.prog X.w X.K tg J fp it tn)(cq:tn 0 s2.heap)(f2:∀b∈fp,LS X pins H2 b)
 (a9:Gz scope X.env.scope=true) (b6:Qi X.N NB scope μ=true) (jh:KG μ g)
 (hb:∀(s:Shared) (H:Hp) (C:Addr) (ex:List Addr),PG (blockOf X s H scope C NB ex) tg g/\qN (blockOf X s H scope C NB ex) ifs (tc s H C ex)/\PE (blockOf X s H scope C NB ex) elt (te s H C ex))
 (q:∀C,xP J H2 Q (λ x H K=>g x (EN μ σ) H K) (tc s2 H2 C fp) (te s2 H2 C fp)) {RR:Value->Addr->Result->Shared->Prop} {E:Value->Shared->Prop}
 (fin:∀(D C:Addr) (s':Shared) (H':Hp) (ys:List V) (m:Str->Option Value),s2.heap.objs.size<=D->s2.heap.objs.size<=C->D≠C->s'.heap.Ns C m->H' C=none->(∀h',zc4 C s'.heap h'->Inv X pins σ (upd H' D (.lst ys)) {s' with heap:=h' })->Q (.ref D) (upd H' D (.lst ys))->RR (.ref D) C (.ok .next) s'):
 wpAny (model X.prog X.w) X.A (newList []) (λ acc s₃=>wpAny (model X.prog X.w) X.A (newFunctionEnv scope X.env.globals (Ft X.env.cells scope.names []) [] X.env.qual none .none (some X.env)) (λ ji s₄ =>
  codeAny (model X.prog X.w) X.A (.compStart (.ListComp elt [⟨tg,iter,ifs,0⟩] scope pos) 0 (.ref it) acc {ji with scope:=relabel scope X.env}) (RR acc ji.locals) s₄) E s₃) E s2:=by
 refine wpAny_newObj_type (YR (S0 a9) λ h₁ hns₁ hk₁ hcl₁=>?_);dsimp only at hns₁ hk₁ hcl₁ ⊢;generalize ng:s2.heap.push {cls:=.type "list",dict:=none,data:=.seq ([]:List Value).toArray}=ls at hns₁ hk₁ hcl₁ ⊢;have hC:ls.objs.size=s2.heap.objs.size+1:=by rw[<-ng,zcd]
 have c5:s2.heap.objs.size≠ls.objs.size:=by rw[hC];exact zM (Nat.lt_succ_self _)
 have f7:s2.heap.objs.size<=ls.objs.size:=by rw[hC];exact Nat.le_succ _
 have old:∀b o,s2.heap.get? b=some o->h₁.get? b=some o:=λ b o e=>hk₁ b o (ng▸z6 _ e);have eD:h₁.get? s2.heap.objs.size=some {cls:=.type "list",data:=.seq ([]:List Value).toArray}:=hk₁ _ _ (ng▸zN _ rfl);have lq:∀b∈fp,∃o,s2.heap.get? b=some o:=λ b hb=>let ⟨o,e,_⟩:=T.obj _ _ cq b hb;⟨o,e⟩;have nh:∀b∈fp,b≠s2.heap.objs.size:=λ b hb=>let ⟨o,e⟩:=lq b hb;zM (zD e);generalize r6:s2.heap.objs.size=D at f7 c5 eD nh ⊢;generalize y6:ls.objs.size=C at *;have bG:s2.heap.objs.size<=D:=by rw[r6];exact zF _
 have bQ:s2.heap.objs.size<=C:=by rw[r6];exact f7
 have I4:Inv (blockOf X s2 H2 scope C NB fp) [] (EN μ σ) H2 {s2 with heap:=h₁}:=S1 (t4:=s2.toks) I2 a9 b6 f2 lq bQ hns₁ old hcl₁;have bw:∀ {H':Hp} {pl:List (Addr×Obj)},(∀b∈fp,H' b=none)->(∀p∈pl,p.1=D)->∀b∈fp,LS (blockOf X s2 H2 scope C NB fp) pl H' b:=fun {H' pl} hn hp b hb=>by
  refine⟨hn b hb,(I4.ok.uR b hb).1,I4.ok.Yk b hb,.inl hb,λ x c e z=>(I4.ok.uR b hb).2 x c e z,λ p f8 z=>?_⟩;have ni:p∈pl:=by simpa [blockOf] using f8
  exact nh b hb (z▸hp p ni)
 have u3:D∉(blockOf X s2 H2 scope C NB fp).fs:=λ z=>by
  obtain⟨_,o,ho,_⟩:=I4.ok.Ky.mem z;exact absurd (zD ho) (Nat.not_lt.mpr bG)
 obtain⟨W,⟨m0,w0⟩,turn⟩:=q C;have loop:∀s₃:Shared,s₃={s2 with heap:=h₁} ->
  codeAny (model X.prog X.w) X.A (.compLoop (.ListComp elt [⟨tg,iter,ifs,0⟩] scope pos) 0 (.ref it) (.ref D) (compEnvC scope (Vt C scope.names (Ft X.env.cells scope.names [])) C X.env)) (RR (.ref D) C) s₃:=by
  rintro s₃ rfl;refine Qj (λ n s'=>∃i ys aa k H',Inv (blockOf X s2 H2 scope C NB fp) [(D,{cls:=.type "list",data:=.seq aa k})] (EN μ σ) H' s'/\tn i s'.heap/\(∀b∈fp,H' b=none)/\Vals ys aa.toList/\ys.length<=sizeLine/\W i n ys H') ?_ m0
   ⟨0,[],#[],0,H2,I4.Jg λ p hp=>?_,T.keep _ _ _ cq λ b hb o e=>old b o e,λ b hb=>(f2 b hb).1,.nil,za6 _,w0⟩
  rotate_left
  ·have e:=zy.mp hp;subst e;exact⟨eD,I2.Ar.fresh bG,c5,u3,λ v=>by simp⟩
  rintro n s3 ⟨i,ys,aa,k,H3,I3,i4,i5,rv,hz,w3⟩;rcases turn i n ys H3 w3 with ⟨stop,qn⟩|⟨go,af,N,hN,step⟩
  ·refine wpAny_mono (T.done (blockOf X s2 H2 scope C NB fp) rfl rfl rfl hc i _ s3 _ H3 (λ _ _=>False) I3 (bw i5 (by simp)) i4 stop) (λ r s4 zz=>?_) λ _ _ e=>e;obtain⟨hr,lu⟩:=zz;subst hr;obtain⟨p1,p2,p3,p4,p5⟩:=lu.pin _ (z8 _ zv);obtain⟨m,hn,_⟩:=id lu.loc;have e1:s4.heap.get? D=some {cls:=.type "list",data:=.seq aa.toList.toArray k}:=by simpa using p1
   exact fin D C s4 H3 ys m bG bQ c5 hn lu.free (λ h' sb=>WU I2 f2 lu bQ bG c5 e1 p2 rv hz sb) (qn D p2)
  ·refine wpAny_mono (T.item (blockOf X s2 H2 scope C NB fp) rfl rfl rfl hc i _ s3 _ H3 (λ _ _=>False) I3 (bw i5 (by simp)) i4 go) (λ r s4 zz=>?_) λ _ _ e=>e;obtain⟨u,hr,h4⟩:=zz;subst hr;refine Bk h4 λ _ s5 zz=>?_;obtain⟨x,H5,I5,r5,y5,e9,mo⟩:=zz;have mq:=I5.pinned (bw mo (by simp)) (T.obj _ _ e9);have bM:=jh σ x H5 _ (step x H5 y5);obtain⟨hg,ht,he⟩:=hb s2 H2 C fp;refine Bk (hg _ s5 _ H5 x u _ mq r5 bM) λ _ s6 zz=>?_;obtain⟨σ6,H6,I6,q6,k6⟩:=zz;refine Bk (ht _ s6 σ6 H6 _ I6 q6) λ ok s7 zz=>?_;obtain⟨H7,I7,q7⟩:=zz;have again:∀ {H8:Hp} {s8:Shared} {its':Array Value} {k':Nat} {bt:List V},Inv (blockOf X s2 H2 scope C NB fp) ([(D,{cls:=.type "list",data:=.seq its' k' })]++IF fp s5.heap) σ6 H8 s8->Vals bt its'.toList->bt.length<=sizeLine->(∃m,m<n/\W (i+1) m bt H8)->
    ∃m,m<n/\∃i ys aa k H',Inv (blockOf X s2 H2 scope C NB fp) [(D,{cls:=.type "list",data:=.seq aa k})] (EN μ σ) H' s8/\tn i s8.heap/\(∀b∈fp,H' b=none)/\Vals ys aa.toList/\ys.length<=sizeLine/\W i m ys H':=fun {H8 s8 its' k' bt} I8 c6 u4 n8=>by
    obtain⟨m',hm,w8⟩:=n8;refine⟨m',hm,i+1,bt,its',k',H8,(I8.Jh.weak ?_ k6),T.keep _ _ _ e9 λ b hb o e=>(I8.pin (b,o) (z8 _ (z8 _ (Fs hb e)))).1,λ b hb=>?_,c6,u4,w8⟩
    ·rw[I8.len];exact I4.len
    ·obtain⟨o,e,d⟩:=T.obj _ _ e9 b hb;exact (I8.pin (b,o) (z8 _ (z8 _ (Fs hb e)))).2.1
   cases ok with
   |false =>
    simp only[zR,if_false] at q7 ⊢;exact again I7 rv hz (hN _ _ q7)
   |true =>
    simp only[if_true] at q7 ⊢;refine Bk (he _ s7 σ6 H7 _ I7 q7) λ uy s8 zz=>?_;obtain⟨y,H8,I8,r8,q8⟩:=zz;obtain⟨p1,p2,p3,p4,p5⟩:=I8.pin (D,_) (z8 _ (za2 _ zv));have e1:s8.heap.get? D=some {cls:=.type "list",data:=.seq aa k}:=p1;have hsz:aa.size=ys.length:=by rw[<-Array.length_toList];exact rv.length.symm
    refine call_meets F.slot_list_append ⟨_,e1,rfl⟩ F.entry_list_append (F.args_list_append_2 _ _) (PySem.list_append D aa k uy (by rw[hsz];omega)) ⟨e1,?_⟩;have nj:=PySem.IsL.update e1 (·.push uy);have Iu:Inv (blockOf X s2 H2 scope C NB fp) (IF fp s5.heap) σ6 H8 s8:=I8.Jg λ p hp=>I8.pin p (z8 _ (z8 _ hp));have It:=Iu.turned (it:=D) (h':=s8.heap.update D (zbq (·.push uy))) (t':=s8.toks) (λ b o hb e=>(zbx _ _ (zac hb)).trans e) p2 p3 (.inr bG) (λ x c e z=>?_) (λ p hp z=>?_)
    ·refine again (its':=aa.push uy) (k':=if (aa.push uy).size==aa.size then k else k+1) (It.Jg λ p hp=>?_) (by simpa using rv.append (.cons r8 .nil)) (by rw[zW,zav];omega) (hN _ _ q8);rcases zJ.mp hp with hp|hp
     ·have e:=zy.mp hp;subst e;exact⟨nj,p2,p3,p4,λ v=>by simp⟩
     ·exact It.pin p (z8 _ hp)
    ·rcases D8 I2 a9 e with ⟨_,a2⟩|e'
     ·exact absurd (a2.symm.trans z) (Nat.ne_of_gt (Nat.lt_succ_of_le f7))
     ·obtain⟨v,o,ho,_⟩:=I2.cell x c e';exact absurd (zD ho) (by rw[z];exact Nat.not_lt.mpr bG)
    ·have f8:p∈IF fp s5.heap:=by simpa [blockOf] using hp
     exact nh p.1 (OG f8).1 z
 exact codeAny_compStart_list (loop _ rfl) (T.self _ 0 _ _ _ (T.keep _ _ _ cq λ b hb o e=>old b o e) (loop _ rfl))
def fS {wi:TI}(hc:X.calm=true)(hi:PI X tg iter wi)(a9:Gz scope X.env.scope=true)(b6:Qi X.N NB scope μ=true)(jh:KG μ g)
 (hb:∀(s:Shared) (H:Hp) (C:Addr) (ex:List Addr),PG (blockOf X s H scope C NB ex) tg g/\qN (blockOf X s H scope C NB ex) ifs (tc s H C ex)/\PE (blockOf X s H scope C NB ex) elt (te s H C ex))
 (hs:∀x,foldedSetIterable iter X.env x=pure x:=by intro _;rfl):PE X (.ListComp elt [⟨tg,iter,ifs,0⟩] scope pos) (Vu wi μ g tc te):=by
 intro pins s σ H Q I h;have b7:∀y∈scope.names,y.2=.local->scope.names.lookup y.1=some .local:=λ y hy=>(Jl a9 hy).2.2;have bR:closureFor scope X.env=pure (Ft X.env.cells scope.names []):=Im λ y hy e=>IK I a9 (x:=y.1) (by rw[<-e];exact hy);rw[eval_ListComp];refine wpAny_comprehension_free (use:=none) rfl hs bR (KD a9) b7 (Bk (hi pins s σ H _ I h) λ v s1 h1=>Bk h1 λ lm s2 h2=>?_);obtain⟨it,fp,tn,J,H2,e,I2,T,cq,f2,q⟩:=h2;subst e;refine OR (RR:=λ acc C=>compPost (model X.prog X.w) X.A X.xe none (EP X pins σ Q) acc C) hc I2 T cq f2 a9 b6 jh hb (λ C=>q s2 C fp) ?_;intro D C s' H' ys m hD hC c5 hn nC hI hq;exact⟨m,hn,λ h' sb=>⟨.ref D,_,hI h' sb,rfl,hq⟩⟩
abbrev sQ (i:Nat)(te:TE):TS:=λ D σ H=>te σ H λ x H1=>D.nx (σ.set i (some x)) H1
def Vv {wi:TI}{i:Nat}{y:Str}{py al:Pos}(hN:X.N.Nodup)(jj:X.N[i]?=some y)(hy:Loc X.env.scope y)(hc:X.calm=true)(hi:PI X tg iter wi)(a9:Gz scope X.env.scope=true)(b6:Qi X.N NB scope μ=true)(jh:KG μ g)(hb:∀(s:Shared) (H:Hp) (C:Addr) (ex:List Addr),PG (blockOf X s H scope C NB ex) tg g/\qN (blockOf X s H scope C NB ex) ifs (tc s H C ex)/\PE (blockOf X s H scope C NB ex) elt (te s H C ex))(bh: ~~~(swapsWith (.ListComp elt [⟨tg,iter,ifs,0⟩] scope pos) (some (.Name y py)) al.line X.env=pure true))(hs:∀x,foldedSetIterable iter X.env x=pure x:=by intro _;rfl)(hf:X.fn y=true\/X.env.scope.names.lookup y=some .local:=by first|exact .inl rfl|exact .inr rfl|assumption):
 PS X (.Assign [.Name y py] (.ListComp elt [⟨tg,iter,ifs,0⟩] scope pos) al) (sQ i (Vu wi μ g tc te)):=by
 intro pins s σ H D' I h;have b7:∀y∈scope.names,y.2=.local->scope.names.lookup y.1=some .local:=λ y hy=>(Jl a9 hy).2.2;have bR:closureFor scope X.env=pure (Ft X.env.cells scope.names []):=Im λ y hy e=>IK I a9 (x:=y.1) (by rw[<-e];exact hy);rw[exec_Assign_Name_used _ _ _ _ bh];refine wpAny_bind (wpAny_standAt (wpAny_bind ?_));show wpAny _ X.A (do let _ <-comprehension (.ListComp elt [⟨tg,iter,ifs,0⟩] scope pos) scope X.env _ (newList []) false (eval iter X.env) (some (assign (.Name y py) X.env))) _ _ s;refine wpAny_bind (wpAny_mono (wpAny_comprehension_free (use:=some (assign (.Name y py) X.env)) (Q:=λ _ s'=>SP X pins D' .next s') rfl hs bR (KD a9) b7 (Bk (hi pins s σ H _ I h) λ v s1 h1=>Bk h1 λ lm s2 h2=>?_)) (λ _ s' hq=>wpAny_pure (wpAny_pure hq)) λ _ _ e=>e);obtain⟨it,fp,tn,J,H2,e,I2,T,cq,f2,q⟩:=h2;subst e;refine OR (RR:=λ acc C=>compPost (model X.prog X.w) X.A X.xe (some (assign (.Name y py) X.env)) (λ _ s'=>SP X pins D' .next s') acc C) hc I2 T cq f2 a9 b6 jh hb (λ C=>q s2 C fp) ?_;intro D C s' H' ys m hD hC c5 hn nC hI hq;have I':=hI s'.heap (.refl ..);show wpAny _ X.A (assign (.Name y py) X.env (.ref D)) _ _ _;refine wpAny_assign_Name (OE (i:=i) (v:=.ref D) I' hN jj hy rfl (λ i7 u5 nk=>?_) hf);obtain⟨a,sb,ha⟩:=nk;have ij:a≠C:=by
  rcases ha with z|z
  ·rw[z];exact zM (zL I2.lt hC)
  ·obtain⟨v,o,ho,_⟩:=I2.cell y a z;exact zM (zL (zD ho) hC)
 refine⟨m,hn.sameBut sb (zac ij),λ h' b8=>?_⟩;refine⟨_,_,u5.turned (it:=C) (t':=i7.toks) (λ b o hb e=>(b8.2 b hb).trans e) (by rw[Ai (zac c5)];exact nC) (Nat.ne_of_gt (zL I2.lt hC)) (.inr (zal I2.sz hC)) (λ x c e z=>?_) (λ p hp z=>?_),hq⟩
 ·obtain⟨v,o,ho,_⟩:=I2.cell x c e;exact absurd (zD ho) (by rw[z];exact Nat.not_lt.mpr hC)
 ·exact absurd (zD (I2.pin p hp).1) (by rw[z];exact Nat.not_lt.mpr hC)
end
abbrev xQ (K:zr)(a:Addr):It:=
 ⟨λ i H=>∃xs x,D7 K H a xs/\xs[i]?=some x,λ i H v H'=>∃p x,H p=none/\v=.ref p/\(∀xs,D7 K H a xs->xs[i]?=some x)/\H'=upd H p (.tup [.int i,x]),λ i H=>∃xs,D7 K H a xs/\xs.length<=i⟩
def Uk {X:Cx}{pins:List (Addr×Obj)}{σ:St}{H:Hp}{s:Shared}{h':Heap}{t':Nat}{e it:Addr}(I:Inv X pins σ H s)(he:LS X pins H e)(hi:LS X pins H it)(k:∀b o,b≠e->b≠it->s.heap.get? b=some o->h'.get? b=some o):Inv X pins σ H {s with heap:=h',toks:=t' }:=by
 obtain⟨e0,e1,e2,e3,e4,e5⟩:=he;obtain⟨f0,f1,f2,f3,f4,f5⟩:=hi;have ne:∀b u,H b=some u->b≠e/\b≠it:=λ b u q=>⟨λ z=>(by rw[z,e0] at q;cases q),λ z=>(by rw[z,f0] at q;cases q)⟩;refine I.step (g':=s.gens) (d':=s.drawn) (ch:=[e,it]) (λ b hb=>?_) (λ b o _ _ hc q _=>k b o (λ z=>hc (by simp[z])) (λ z=>hc (by simp[z])) q) (λ b o _ _ hc q _=>⟨o.slots,k b o (λ z=>hc (by simp[z])) (λ z=>hc (by simp[z])) q⟩) (λ _ _ _ _ n=>n)
  (λ b o hc q=>⟨o,k b o (λ z=>hc (by simp[z])) (λ z=>hc (by simp[z])) q⟩) (λ _ _ q=>q) (λ _ _ _ q=>q) (λ b ps q=>⟨#[],by rw[q];simp⟩) (λ m hm=>?_) (λ b u q=>?_) I.bare
 ·rcases zB.mp hb with z|z
  ·subst z;exact⟨e3,e1,e4,e5⟩
  ·have z:=zy.mp z;subst z;exact⟨f3,f1,f4,f5⟩
 ·obtain⟨o,es,ep,ho,r⟩:=hm;exact⟨o,es,ep,k _ o (zac e1) (zac f1) ho,r⟩
 ·refine (I.Ar b u q).O6 (λ c v hc z=>k c v ?_ ?_ z) (λ _ z=>z) λ _ _ z=>z
  ·rcases hc with z|z
   ·rw[z];exact (ne b u q).1
   ·exact (ne c _ z).1
  ·rcases hc with z|z
   ·rw[z];exact (ne b u q).2
   ·exact (ne c _ z).2
def WV {P:Program}{w:World}{K:zr}{bS:List Expr}{x1}{bz:Pos}(a e it:Addr)(ae:e≠it):
 Turn P w K (.Tuple bS x1 bz) (xQ K a) [e,it] e (λ i h=>(∃old,IsEnum h e it i old)/\h.IsListIter it a i) where
 mem:=by simp
 obj:=λ i h st b hb=>by
  obtain⟨⟨old,h1⟩,o,h2,c,d⟩:=st;rcases zB.mp hb with z|z
  ·subst z;exact⟨_,h1,λ v z=>by cases z⟩
  ·have z:=zy.mp z;subst z;exact⟨o,h2,λ v z=>by rw[d] at z;cases z⟩
 keep:=λ i h h' st k=>⟨let ⟨old,h1⟩:=st.1;⟨old,k e (by simp) _ h1⟩,st.2.at λ o e=>k it (by simp) o e⟩
 item:=by
  intro X hP hw hK hc i pins s σ H E I hf st hg;subst hP hw hK;obtain⟨xs,x,hq,hx⟩:=hg;obtain⟨⟨old,he⟩,hit⟩:=st;obtain⟨aa,rv,p,hz⟩:=I.list hq;obtain⟨u,hu,ru⟩:=rv.get hx;have fe:=hf e (by simp);have fi:=hf it (by simp);refine wpAny_pyNext_enum_item he hit p.isList (x:=u) (by simpa using hu) ae λ h1 dr np ht hsz hk=>?_;refine⟨_,rfl,wpAny_letOwnedTupleGo_enum (s:={s with heap:=h1,toks:=s.toks+1}) dr λ h2 u6 aO=>?_⟩;have b9:zc4 e h1 h2:=aO;have nt:s.heap.objs.size≠e:=Nat.ne_of_gt (zD he);have u7:s.heap.objs.size≠it:=by
   obtain⟨o,ho,_⟩:=hit;exact Nat.ne_of_gt (zD ho)
  have I1:Inv X pins σ H {s with heap:=h2,toks:=s.toks+1}:=Uk I fe fi λ b o hb ay q=>(b9.2 b hb).trans (hk b o hb ay q);have tup:h2.get? s.heap.objs.size=some {cls:=.type "tuple",data:=.seq #[.int i s.toks,u]}:=(b9.2 _ nt).trans ht;have nH:H s.heap.objs.size=none:=I.Ar.fresh (zF _);have vv:Vals [.int i,x] [.int i s.toks,u]:=.cons ⟨_,rfl⟩ (.cons ru .nil);have nq:Gi X.prog X.w (upd H s.heap.objs.size (.tup [.int i,x])) h2:=I1.Ar.adopt nH ⟨by show 2<=sizeLine;decide,_,vv,⟨_,tup,rfl,_,rfl⟩⟩;have I2:Inv X pins σ (upd H s.heap.objs.size (.tup [.int i,x])) {s with heap:=h2,toks:=s.toks+1}:=by
   refine I.step (g':=s.gens) (d':=s.drawn) (ch:=[e,it]) (λ b hb=>?_) (λ b o _ _ hc q _=>(b9.2 b (λ z=>hc (by simp[z]))).trans (hk b o (λ z=>hc (by simp[z])) (λ z=>hc (by simp[z])) q)) (λ b o _ _ hc q _=>⟨o.slots,(b9.2 b (λ z=>hc (by simp[z]))).trans (hk b o (λ z=>hc (by simp[z])) (λ z=>hc (by simp[z])) q)⟩)
    (λ b o hc q n=>by rw[Ai (zM (zD q))];exact n) (λ b o hc q=>⟨o,(b9.2 b (λ z=>hc (by simp[z]))).trans (hk b o (λ z=>hc (by simp[z])) (λ z=>hc (by simp[z])) q)⟩)
    (λ b xs q=>by rw[Ai (Ax q nH)];exact q) (λ b o u q=>by rw[Ai (Ax q nH)];exact q) (λ b ps q=>⟨#[],by rw[Ai (Ax q nH),q];simp⟩) (λ m hm=>?_) nq I.bare
   ·rcases zB.mp hb with z|z
    ·subst z;exact⟨fe.2.2.2.1,fe.2.1,fe.2.2.2.2.1,fe.2.2.2.2.2⟩
    ·have z:=zy.mp z;subst z;exact⟨fi.2.2.2.1,fi.2.1,fi.2.2.2.2.1,fi.2.2.2.2.2⟩
   ·obtain⟨o,es,ep,ho,r⟩:=hm;exact⟨o,es,ep,(b9.2 _ (zac fe.2.1)).trans (hk _ o (zac fe.2.1) (zac fi.2.1) ho),r⟩
  refine⟨.ref s.heap.objs.size,_,I2,rfl,⟨_,x,nH,rfl,λ ys hy=>by rw[I.Gs hy hq];exact hx,rfl⟩,⟨⟨u,u6⟩,np.at λ o q=>(b9.2 it (zac ae)).trans q⟩,λ b hb=>?_⟩;have ay:b≠s.heap.objs.size:=by
   rcases zB.mp hb with z|z
   ·rw[z];exact zac nt
   ·rw[zy.mp z];exact zac u7
  rw[Ai ay];exact (hf b hb).1
 done:=by
  intro X hP hw hK hc i pins s σ H E I hf st hg;subst hP hw hK;obtain⟨xs,hq,hx⟩:=hg;obtain⟨⟨old,he⟩,hit⟩:=st;obtain⟨aa,rv,p,hz⟩:=I.list hq;have hl:=rv.length;obtain⟨f0,f1,f2,f3,f4,f5⟩:=hf it (by simp);exact wpAny_pyNext_enum_end (I.ok.hd hc) he hit p.isList (by simp;omega) λ h' eb=>⟨rfl,I.turned (t':=s.toks) (λ b o hb e=>eb b o hb e) f0 f1 f3 f4 f5⟩
 self:=λ _ _ _ _ _ st h=>let ⟨_,he⟩:=st.1;wpAny_pyIter_enum he h
section
variable {X:Cx}
abbrev sR (K:zr)(ta:TA):TI:=λ σ H R=>ta σ H λ vs H1=>∃a,vs=[.ref a]/\(∃xs,D7 K H1 a xs)/\R (xQ K a) H1
def fT {bS:List Expr}{x1}{bz:Pos}{a:Expr}{ta:TA}{p pos:Pos}(hg:Gl X "enumerate")(hm:X.mg "enumerate" = none)(ha:PA X [a] ta)(hb:bootBuiltins "enumerate" = some (.type "enumerate"):=by decide +kernel)(hs: ~~~(starEach [a] X.env=[(false,eval a X.env)])):
 PI X (.Tuple bS x1 bz) (.Call (.Name "enumerate" p) [a] [] pos) (sR X.K ta):=by
 intro pins s σ H R I h;refine Call_ (Dz I hg hm hb (zai (Bk (ha pos pins s σ H _ I h) λ us s1 zz=>?_) hs rfl));obtain⟨vs,H1,I1,r1,q1⟩:=zz;obtain⟨j,e,⟨xs,hq⟩,q⟩:=q1;subst e;cases r1 with
 |cons r rr =>
  cases rr;cases r;obtain⟨aa,rv,p,hz⟩:=I1.list hq;refine call_enumerate_list p.isList λ h' he hit hsz hk=>?_;refine wpAny_pyIter_enum (s:={s1 with heap:=h' }) he ?_;have I2:Inv X pins σ H1 {s1 with heap:=h' }:=I1.kept (t':=s1.toks) hk;refine⟨_,[s1.heap.objs.size+1,s1.heap.objs.size],_,_,H1,rfl,I2,WV j _ _ (Nat.succ_ne_self _),⟨⟨_,he⟩,hit⟩,λ b hb=>?_,q⟩;rcases zB.mp hb with z|z
  ·rw[z];exact I1.Yt (Nat.le_succ _) (I1.Ar.fresh (Nat.le_succ _))
  ·rw[zy.mp z];exact I1.Yt (zF _) (I1.Ar.fresh (zF _))
end
abbrev BR {α:Type}(o:Option (α×List Int))(b:α×List Int):Option (α×List Int):=match o with | none=>some b | some c=>if HT.lexLt b.2 c.2=true then some b else some c
abbrev AV {α:Type}(bs:List (α×List Int)):Option (α×List Int):=bs.foldl BR none
abbrev D3 (bs:List (Addr×List Int)):Array Value:=match AV bs with | none=>#[] | some b=>#[.ref b.1,.ref b.1]
def Cz {α:Type}(bs:List (α×List Int))(b:α×List Int):AV (bs++[b])=match AV bs with | none=>some b | some c=>if HT.lexLt b.2 c.2=true then some b else some c:=by
 unfold AV;rw[zc7];rfl
def KH {α:Type}:∀(bs:List (α×List Int)) (b:α×List Int),AV bs=some b->b∈bs:=by
 intro bs
 suffices h:∀(bs:List (α×List Int)) (o:Option (α×List Int)) (b:α×List Int),bs.foldl BR o=some b->b∈bs\/o=some b by
  intro b hb;rcases h bs none b hb with q|q
  ·exact q
  ·cases q
 intro bs;induction bs with
 |nil=>intro o b h;exact .inr h
 |cons x r ih =>
  intro o b h;rw[zP] at h;rcases ih _ _ h with q|q
  ·exact .inl (zw _ q)
  ·cases o with
   |none=>cases q;exact .inl zv
   |some c =>
    unfold BR at q;dsimp only at q;split at q
    ·cases q;exact .inl zv
    ·exact .inr q
def IL {α:Type}(o:Option (α×List Int))(b:α×List Int):BR o b≠none:=by
 unfold BR;split
 ·intro z;cases z
 ·split<;>(intro z;cases z)
def Jm {α:Type}:∀ {bs:List (α×List Int)},bs≠[]->AV bs≠none:=by
 intro bs h;unfold AV
 suffices z:∀(bs:List (α×List Int)) (o:Option (α×List Int)),o≠none->bs.foldl BR o≠none by
  cases bs with
  |nil=>exact (h rfl).elim
  |cons b r=>rw[zP];exact z r _ (IL _ _)
 intro bs;induction bs with
 |nil=>intro o h;exact h
 |cons b r ih=>intro o h;rw[zP];exact ih _ (IL _ _)
abbrev fU (o:Option Value):List (Str×Value):=o.toList.map λ d=>(Str.ofString "default",d)
def S2 (a:Value)(o:Option Value):argsOk "min" ⟨[a],fU o⟩:=by cases o<;>(unfold argsOk;kernel_rfl)
section
variable {prog:Program}{w:World}{A:Around}{R:Result->Shared->Prop}
def YS (bs:List (Addr×List Int))(tv:Addr->Array Value)(l I S:Addr)(o:Option Value)(f9:o=none->bs≠[])(hh:A.handled=none)(hu:A.in1.units<cLine)(c7:S≠I)(c8:l≠I)(jk:l≠S)(nr:∀b∈bs,b.1≠I/\b.1≠S)
 (hk:∀b∈bs,IntsAre (tv b.1).toList b.2):∀(k j:Nat) (s:Shared) (c:Nat),bs.length-j=k->j<=bs.length->s.heap.IsListIter I l j->s.heap.IsList l (bs.map λ b=>zad b.1).toArray->(∀b∈bs,IsTup s.heap b.1 (tv b.1))->
  s.heap.get? S=some {cls:=.type "list",dict:=none,data:=.seq (D3 (bs.take j)) c,slots:=#[]} ->
  (∀h' tk,(∀b o,b≠I->b≠S->s.heap.get? b=some o->h'.get? b=some o)->R (.ok (.ret (match AV bs with|none=>o.getD .none|some b=>.ref b.1))) {s with heap:=h',toks:=tk})->
  codeAny (model prog w) A (.builtin "min.loop" ⟨[.ref I,.none,.ref S],fU o⟩) R s:=by
 have a4:(toString "min" ++ toString ".loop" : String) = "min.loop" := by decide
 intro k;induction k with
 |zero =>
  intro j s c hr hj hit hl ht hS hR;have bi:j=bs.length:=by omega
  subst bi;rw[za5] at hS;refine codeAny_builtin PySem.F.entry_min_loop ?_;rw[zb1 za8 _];show wpAny _ A.in1 (seqItems? (.ref S) >>= _) _ _ s;refine wpAny_bind (wpAny_seqItems hS rfl ?_);show wpAny _ A.in1 (tryCatch (pyNext (.ref I)) _ >>= _) _ _ s;refine wpAny_bind (wpAny_tryCatch (wpAny_pyNext_list_end (A:=A.in1) hh hit hl (by simp) λ h' eb=>?_));have aA:h'.get? S=_:=eb S _ c7 hS;unfold D3 at aA;cases hb:AV bs with
  |none =>
   unfold D3;rw[hb];cases o with
   |none=>exact (Jm (f9 rfl) hb).elim
   |some d =>
   show wpAny _ A.in1 (rule _ >>= _) _ _ _;refine wpAny_bind (wpAny_rule (wpAny_pure ?_));have q:=hR h' s.toks λ b o h1 h2 e=>eb b o h1 e;rw[hb] at q;exact q
  |some b =>
   rw[hb] at aA;unfold D3;rw[hb];show wpAny _ A.in1 (updateSeq S (λ _=>#[]) >>= _) _ _ _;refine wpAny_bind ?_;refine wpAny_updateSeq aA rfl (wpAny_bind (wpAny_letGo (wpAny_pure ?_)));have q:=hR (h'.update S (zbq λ _=>#[])) s.toks λ b o h1 h2 e=>(zbx _ _ (zac h2)).trans (eb b o h1 e);rw[hb] at q;exact q
 |succ k ih =>
  intro j s c hr hj hit hl ht hS hR;have af:j<bs.length:=by omega
  have ej:bs.take (j+1)=bs.take j++[bs[j]]:=by rw[za4,z4 af];rfl
  have mj:bs[j]∈bs:=zbt af;refine codeAny_builtin PySem.F.entry_min_loop ?_;rw[zb1 za8 _];show wpAny _ A.in1 (seqItems? (.ref S) >>= _) _ _ s;refine wpAny_bind (wpAny_seqItems hS rfl ?_);show wpAny _ A.in1 (tryCatch (pyNext (.ref I)) _ >>= _) _ _ s;refine wpAny_bind (wpAny_tryCatch (wpAny_pyNext_list_item (A:=A.in1) hit hl (x:=.ref bs[j].1) (by simp[af]) λ h' aI sb=>?_));have b8:zc4 I s.heap h':=sb;have aA:h'.get? S=_:=(b8.2 S c7).trans hS;have cp:h'.IsList l (bs.map λ b=>zad b.1).toArray:=hl.at λ o e=>(b8.2 l c8).trans e;have ci:∀b∈bs,IsTup h' b.1 (tv b.1):=λ b hb=>by
   obtain⟨o,ho,r⟩:=ht b hb;exact⟨o,(b8.2 b.1 (nr b hb).1).trans ho,r⟩
  cases hb:AV (bs.take j) with
  |none =>
   unfold D3 at aA ⊢;rw[hb] at aA ⊢;show wpAny _ A.in1 (updateSeq S (λ _=>#[.ref bs[j].1,.ref bs[j].1]) >>= _) _ _ _;refine wpAny_bind ?_;refine wpAny_updateSeq aA rfl ?_;rw[a4];have s1:=Heap.SameBut.update h' S (zbq λ _=>(#[.ref bs[j].1,.ref bs[j].1]:Array Value));refine wpAny_pure ⟨plainId_quiet za8 _,ih (j+1) _ (c+1) (by omega) af (aI.at λ o e=>(s1.2 I (zac c7)).trans e) (cp.at λ o e=>(s1.2 l jk).trans e) (λ b hb=>?_) ?_ λ bT tk aJ=>?_⟩
   ·obtain⟨o,ho,r⟩:=ci b hb;exact⟨o,(s1.2 b.1 (nr b hb).2).trans ho,r⟩
   ·refine (zc3 _ aA rfl).trans ?_;unfold D3;rw[ej,Cz,hb];rfl
   ·exact hR bT tk λ b o h1 h2 e=>aJ b o h1 h2 ((s1.2 b h2).trans ((b8.2 b h1).trans e))
  |some m =>
   have mm:m∈bs:=zae (KH _ _ hb);unfold D3 at aA ⊢;rw[hb] at aA ⊢;show wpAny _ A.in1 (tryCatch (holding [.ref bs[j].1,.ref bs[j].1] (richCompare .Lt (.ref bs[j].1) (.ref m.1) >>= _)) _ >>= _) _ _ _;refine wpAny_bind (wpAny_tryCatch (wpAny_holding (wpAny_bind (HT.II (ci _ mj) (ci _ mm) (hk _ mj) (hk _ mm) hu ?_))));refine wpAny_bind (wpAny_holding (wpAny_truthy_bool ?_));refine wpAny_bind (wpAny_letGo (wpAny_pure ?_));cases hc:HT.lexLt bs[j].2 m.2 with
   |true =>
    simp only[if_true];have s1:=Heap.SameBut.update h' S (zbq λ _=>(#[.ref bs[j].1,.ref bs[j].1]:Array Value));refine wpAny_bind ?_;refine wpAny_updateSeq aA rfl (wpAny_bind (wpAny_letGo ?_));rw[a4];refine wpAny_pure ⟨plainId_quiet za8 _,ih (j+1) _ c (by omega) af (aI.at λ o e=>(s1.2 I (zac c7)).trans e) (cp.at λ o e=>(s1.2 l jk).trans e) (λ b hb=>?_) ?_ λ bT tk aJ=>?_⟩
    ·obtain⟨o,ho,r⟩:=ci b hb;exact⟨o,(s1.2 b.1 (nr b hb).2).trans ho,r⟩
    ·refine (zc3 _ aA rfl).trans ?_;unfold D3;rw[ej,Cz,hb];simp only[hc,if_true];rfl
    ·exact hR bT tk λ b o h1 h2 e=>aJ b o h1 h2 ((s1.2 b h2).trans ((b8.2 b h1).trans e))
   |false =>
    simp only[zR,if_false];refine wpAny_bind (wpAny_letGo ?_);rw[a4];refine wpAny_pure ⟨plainId_quiet za8 _,ih (j+1) _ c (by omega) af aI cp ci ?_ λ bT tk aJ=>?_⟩
    ·refine aA.trans ?_;unfold D3;rw[ej,Cz,hb];simp only[hc,zR,if_false]
    ·exact hR bT tk λ b o h1 h2 e=>aJ b o h1 h2 ((b8.2 b h1).trans e)
def MO {E:Value->Shared->Prop}{s:Shared}{Q:Value->Shared->Prop}(bs:List (Addr×List Int))(tv:Addr->Array Value)(l:Addr)(o:Option Value)(f9:o=none->bs≠[])(hh:A.handled=none)(hu:A.in1.units<cLine)
 (hl:s.heap.IsList l (bs.map λ b=>zad b.1).toArray) (ht:∀b∈bs,IsTup s.heap b.1 (tv b.1)) (hk:∀b∈bs,IntsAre (tv b.1).toList b.2)
 (hQ:∀h' tk,(∀b o,s.heap.get? b=some o->h'.get? b=some o)->Q (match AV bs with|none=>o.getD .none|some b=>.ref b.1) {s with heap:=h',toks:=tk}):
 wpAny (model prog w) A (call (.builtin "min") [.ref l] (fU o)) Q E s:=by
 have a4:(toString "min" ++ toString ".loop" : String) = "min.loop" := by decide
 obtain⟨ol,ga,_⟩:=id hl;have nu:l<s.heap.objs.size:=zD ga;refine kmk_tree PySem.F.kind_min PySem.F.plain_min PySem.F.entry_min (S2 _ _) ?_;show wpAny _ A.in1 (zbo "min" ["key","default"] 0 ⟨[],fU o⟩ >>= _) _ _ s;refine wpAny_bind (wpAny_of_eq (show zbo "min" ["key","default"] 0 ⟨[],fU o⟩=pure [none,o] by cases o<;>rfl) ?_);refine wpAny_bind (wpAny_pure ?_);refine wpAny_bind (wpAny_pyIter_list hl ?_);refine wpAny_bind (wpAny_newList ?_ (za6 _));rw[a4];have hS:(s.heap.push {cls:=.type "list_iterator",data:=.fields #[.ref l,.int 0 0]}).objs.size=s.heap.objs.size+1:=zcd ..;have old:∀b o,s.heap.get? b=some o->b≠s.heap.objs.size/\b≠(s.heap.push {cls:=.type "list_iterator",data:=.fields #[.ref l,.int 0 0]}).objs.size:=λ b o e=>⟨zM (zD e),by rw[hS];exact zM (Nat.lt_succ_of_lt (zD e))⟩;have grow:∀b o,s.heap.get? b=some o->((s.heap.push {cls:=.type "list_iterator",data:=.fields #[.ref l,.int 0 0]}).push {cls:=.type "list",data:=.seq #[]}).get? b=some o:=λ b o e=>z6 _ (z6 _ e);refine wpAny_pure ⟨plainId_quiet za8 _,?_⟩;refine YS bs tv l s.heap.objs.size (s.heap.push {cls:=.type "list_iterator",data:=.fields #[.ref l,.int 0 0]}).objs.size o f9 hh hu (by rw[hS];exact Nat.succ_ne_self _) (old l ol ga).1 (old l ol ga).2 (λ b hb=>?_) hk _ 0 _ 0 rfl (za6 _) ?_ ?_ (λ b hb=>?_) ?_ ?_
 ·obtain⟨o,ho,_⟩:=ht b hb;exact old b.1 o ho
 ·exact⟨_,z6 _ (zN _ rfl),rfl,rfl⟩
 ·exact hl.at λ o e=>grow l o e
 ·obtain⟨o,ho,r⟩:=ht b hb;exact⟨o,grow b.1 o ho,r⟩
 ·exact zN _ rfl
 ·intro h' tk c9;exact hQ h' tk λ b o e=>c9 b o (old b o e).1 (old b o e).2 (grow b o e)
end
section
variable {X:Cx}{e e2:Expr}{te td:TE}{p pos kp:Pos}
abbrev sS (K:zr)(te td:TE):TE:=λ σ H Q=>te σ H λ x H1=>td σ H1 λ d H2=>∃(a:Addr) (bs:List (Addr×List Int)),x=.ref a/\D7 K H2 a (bs.map λ b=>V.ref b.1)/\(∀b∈bs,EC K H2 b.1 (b.2.map V.int))/\Q (match AV bs with | none=>d | some b=>.ref b.1) H2
def HB:∀ {bs:List (Addr×List Int)}{us:List Value},Vals (bs.map λ b=>V.ref b.1) us->us=bs.map λ b=>zad b.1
 |[],_,.nil=>rfl
 |b::r,_,.cons h t=>by cases h;rw[HB t];rfl
def fV (hc:X.calm=true)(hu:X.A.units+1<cLine)(hg:Gl X "min")(hm:X.mg "min" = none)(he:PE X e te)(hd:PE X e2 td)(aM: ~~~(starEach [e] X.env=[(false,eval e X.env)]))(a8: ~~~((backToKw pos (keywordEach [⟨some "default",e2,kp⟩] X.env)).all (·.1.isSome)=true))(nv: ~~~((backToKw pos (keywordEach [⟨some "default",e2,kp⟩] X.env)).filterMap (·.1)=([("default" : Str)]:List Str)))(gc: ~~~((backToKw pos (keywordEach [⟨some "default",e2,kp⟩] X.env)).any (·.1.isNone)=false))(bj: ~~~(backTo pos (starEach [e] X.env)=(false,eval e X.env)::backTo pos (starEach [] X.env)))(ao: ~~~((backTo pos (starEach [e] X.env)).any (·.1)=false)):
 PE X (.Call (.Name "min" p) [e] [⟨some "default",e2,kp⟩] pos) (sS X.K te td):=by
 intro pins s σ H Q I h;refine wpAny_Call_Name_kw (Dz I hg hm boot_min ?_ (by decide) (by decide));refine callWith_kw (Bk ((Bn he Cn (hs:=aM)) pos pins s σ H (λ vs H1=>match vs with|[x]=>td σ H1 λ d H2=>∃(a:Addr) (bs:List (Addr×List Int)),x=.ref a/\D7 X.K H2 a (bs.map λ b=>V.ref b.1)/\(∀b∈bs,EC X.K H2 b.1 (b.2.map V.int))/\Q (match AV bs with|none=>d|some b=>.ref b.1) H2|_=>False) I h) λ us s1 zz=>?_) bj ao a8 gc;obtain⟨vs,H1,I1,r1,q1⟩:=zz;obtain⟨x,rfl⟩:∃x,vs=[x]:=by
  match vs,q1 with
  |[x],_=>exact⟨x,rfl⟩
 refine Bk ((eZ hd nI) pos pins s1 σ H1 (λ zs H2=>match zs with|[d]=>∃(a:Addr) (bs:List (Addr×List Int)),x=.ref a/\D7 X.K H2 a (bs.map λ b=>V.ref b.1)/\(∀b∈bs,EC X.K H2 b.1 (b.2.map V.int))/\Q (match AV bs with|none=>d|some b=>.ref b.1) H2|_=>False) I1 q1) λ ws s2 zz=>?_;obtain⟨zs,H2,I2,r2,q2⟩:=zz;obtain⟨d,rfl⟩:∃d,zs=[d]:=by
  match zs,q2 with
  |[d],_=>exact⟨d,rfl⟩
 obtain⟨a,bs,rfl,hl,hb,q⟩:=q2;obtain⟨ua,rfl,ra⟩:=r1.one;obtain⟨ud,rfl,rd⟩:=r2.one;cases ra;rw[nv];obtain⟨aa,rv,pl,hz⟩:=I2.list hl;have ei:=HB rv;subst ei;have tv:∀a:Addr,∃t:Array Value,∀b∈bs,b.1=a->IsTup s2.heap a t/\IntsAre t.toList b.2:=λ a=>by
  by_cases bU:∃b∈bs,b.1=a
  ·obtain⟨b,bU,rfl⟩:=bU;obtain⟨ts,rt,pt,_⟩:=I2.tuple (hb b bU);refine⟨ts.toArray,λ b' ay e=>⟨pt,?_⟩⟩;have q2:=hb b' ay;rw[e] at q2;have e2:=I2.F4 q2 (hb b bU);rw[<-e2] at rt;simpa using intsAre_of rt
  ·exact⟨#[],λ b ay e=>absurd ⟨b,ay,e⟩ bU⟩
 refine MO bs (λ b=>z3 (tv b)) a (some ud) (λ h=>by cases h) (I2.ok.hd hc) hu pl.isList (λ b ay=>(zt (tv b.1) b ay rfl).1) (λ b ay=>(zt (tv b.1) b ay rfl).2) λ h' tk hk=>?_;refine⟨match AV bs with|none=>d|some b=>.ref b.1,H2,I2.kept (t':=tk) hk,?_,q⟩;cases AV bs with
 |none=>exact rd
 |some b=>rfl
end
inductive D where
 |AL|bl (b:Bool)|int (i:Int)|str (x:Str)|tup (ds:List D)|lst (ds:List D)|F3 (x:Str)|Bo (t:Bool) (ks vs:List D)|ins (x:Str) (ns:List Str) (ds:List D)
abbrev Ct:Key->D
 | .inl i=>.int i
 | .inr x=>.str x
def Rd.same {H H':Hp}{a:Addr}{u:HO}(r:Rd H a u)(e:Ad H H'):Rd H' a u:=r.elim (λ h=>.inl (e _ _ h)) λ⟨o,h⟩=>.inr ⟨o,e _ _ h⟩
mutual
inductive BX (K:zr) (H:Hp):V->D->Prop
 |AL:BX K H .AL .AL
 |bl (b):BX K H (.bl b) (.bl b)
 |int (i):BX K H (.int i) (.int i)
 |str (x):BX K H (.str x) (.str x)
 |tup {a xs ds}:H a=some (.tup xs)->Ah K H xs ds->BX K H (.ref a) (.tup ds)
 |lst {a xs ds}:D7 K H a xs->Ah K H xs ds->BX K H (.ref a) (.lst ds)
 |Vw {a kvs ds}:Rd H a (.dK kvs)->Ah K H (kvs.map zay) ds->BX K H (.ref a) (.Bo false (kvs.map λ kv=>Ct kv.1) ds)
 |Vx {a kvs ds}:Rd H a (.dT kvs)->Ah K H (kvs.map zay) ds->BX K H (.ref a) (.Bo true (kvs.map λ kv=>.tup (kv.1.map Ct)) ds)
 |ins {a C dx fs x ds}:zY K mainGlobals x=some (some (.ref C))->H a=some (.ins C dx fs)->Ah K H (fs.map zay) ds->BX K H (.ref a) (.ins x (fs.map zX) ds)
 |F3 {a x}:zY K mainGlobals x=some (some (.ref a))->True->BX K H (.ref a) (.F3 x)
inductive Ah (K:zr) (H:Hp):List V->List D->Prop
 |nil:Ah K H [] []
 |cons {x d xs ds}:BX K H x d->Ah K H xs ds->Ah K H (x::xs) (d::ds)
end
def Ah.length {K:zr}{H:Hp}:∀ {xs:List V}{ds:List D},Ah K H xs ds->xs.length=ds.length
 |_,_,.nil=>rfl
 |_,_,.cons _ t=>by rw[z7,z7,Ah.length t]
def Ah.get {K:zr}{H:Hp}:∀ {xs:List V}{ds:List D}{i:Nat}{d:D},Ah K H xs ds->ds[i]?=some d->∃x,xs[i]?=some x/\BX K H x d
 |_,_,_,_,.nil,e=>by simp at e
 |_,_,0,_,.cons r _,e=>by simp at e;subst e;exact⟨_,rfl,r⟩
 |_,_,i+1,d,.cons _ t,e=>by
  obtain⟨u,h1,h2⟩:=Ah.get (i:=i) (d:=d) t (by simpa using e);exact⟨u,by simpa using h1,h2⟩
def Ah.nY {K:zr}{H:Hp}:∀ {xs:List V}{ds:List D}{i:Nat}{x:V},Ah K H xs ds->xs[i]?=some x->∃d,ds[i]?=some d/\BX K H x d
 |_,_,_,_,.nil,e=>by simp at e
 |_,_,0,_,.cons r _,e=>by simp at e;subst e;exact⟨_,rfl,r⟩
 |_,_,i+1,d,.cons _ t,e=>by
  obtain⟨u,h1,h2⟩:=Ah.nY (i:=i) (x:=d) t (by simpa using e);exact⟨u,by simpa using h1,h2⟩
def Ah.append {K:zr}{H:Hp}:∀ {xs ys:List V}{ds es:List D},Ah K H xs ds->Ah K H ys es->Ah K H (xs++ys) (ds++es):=by
 intro _ _ _ _ x_ h;cases x_ with
 |nil=>exact h
 |cons r t=>exact .cons r (Ah.append t h)
def Ah.snoc {K:zr}{H:Hp}{xs:List V}{ds:List D}{x:V}{d:D}(h:Ah K H xs ds)(r:BX K H x d):Ah K H (xs++[x]) (ds++[d]):=h.append (.cons r .nil)
def Ah.take {K:zr}{H:Hp}:∀ {xs:List V}{ds:List D}(n:Nat),Ah K H xs ds->Ah K H (xs.take n) (ds.take n)
 |_,_,0,_|_,_,_+1,.nil=>.nil
 |_,_,n+1,.cons r t=>.cons r (Ah.take n t)
def Ah.drop {K:zr}{H:Hp}:∀ {xs:List V}{ds:List D}(n:Nat),Ah K H xs ds->Ah K H (xs.drop n) (ds.drop n)
 |_,_,0,r=>r
 |_,_,_+1,.nil=>.nil
 |_,_,n+1,.cons _ t=>Ah.drop n t
def Ah.ints {K:zr}{H:Hp}:∀(ns:List Int),Ah K H (ns.map V.int) (ns.map D.int)
 |[]=>.nil
 |n::r=>.cons (.int n) (Ah.ints r)
def Ad.wR {K:zr}{H H':Hp}{a:Addr}{xs:List V}(e:Ad H H')(h:EC K H a xs):EC K H' a xs:=by
 rcases h with (h|⟨o,h⟩)|h
 ·exact .inl (.inl (e _ _ h))
 ·exact .inl (.inr ⟨o,e _ _ h⟩)
 ·exact .inr h
mutual
theorem BX.mono {K:zr}{H H':Hp}(e:Ad H H'):∀ {v:V}{d:D},BX K H v d->BX K H' v d:=by
 intro _ _ x_;cases x_ with
 |AL=>exact .AL
 |bl b=>exact .bl b
 |int i=>exact .int i
 |str x=>exact .str x
 |tup h r=>exact .tup (e _ _ h) (Ah.mono e r)
 |lst h r=>exact .lst (e.seq h) (Ah.mono e r)
 |Vw h r=>exact .Vw (h.same e) (Ah.mono e r)
 |Vx h r=>exact .Vx (h.same e) (Ah.mono e r)
 |ins n h r=>exact .ins n (e _ _ h) (Ah.mono e r)
 |F3 h r=>exact .F3 h r
theorem Ah.mono {K:zr}{H H':Hp}(e:Ad H H'):∀ {vs:List V}{ds:List D},Ah K H vs ds->Ah K H' vs ds:=by
 intro _ _ x_;cases x_ with
 |nil=>exact .nil
 |cons h t=>exact .cons (BX.mono e h) (Ah.mono e t)
end
def AN {H:Hp}{p:Addr}(h:H p=none)(o:HO):Ad H (upd H p o):=λ b u q=>by rw[Ai (Ax q h)];exact q
mutual
noncomputable def Bl:D->D->Bool
 | .AL,.AL=>true
 | .bl a,.bl b| .int a,.int b| .str a,.str b=>a==b
 | .bl a,.int b=>(if a then 1 else 0)==b
 | .int a,.bl b=>a==(if b then 1 else 0)
 | .tup a,.tup b| .lst a,.lst b=>Cp a b
 | .F3 a,.F3 b=>a==b
 | .Bo s a b,.Bo t c d=>(s==t)&&(Cp a c&&Cp b d)
 | .ins x n a,.ins y m b=>(x==y)&&((n==m)&&Cp a b)
 |_,_=>false
noncomputable def Cp:List D->List D->Bool
 |[],[]=>true
 |a::r,b::t=>Bl a b&&Cp r t
 |_,_=>false
end
mutual
theorem S3:∀d:D,Bl d d=true
 | .AL=>by simp[Bl]
 | .bl b| .int b| .str b=>by simp[Bl]
 | .tup b| .lst b=>by simp only[Bl];exact CI b
 | .F3 b=>by simp[Bl]
 | .Bo s a b=>by simp only[Bl];rw[CI a,CI b];simp
 | .ins x n a=>by simp only[Bl];rw[CI a];simp
theorem CI:∀d:List D,Cp d d=true
 |[]=>by simp[Cp]
 |a::r=>by simp only[Cp,S3 a,CI r,Bool.and_true]
end
mutual
noncomputable def Cq:D->Bool
 | .tup a| .lst a=>KI a
 | .F3 _| .Bo _ _ _| .ins _ _ _=>false
 |_=>true
noncomputable def KI:List D->Bool
 |[]=>true
 |a::r=>Cq a&&KI r
end
def Qk:∀ {ds:List D}{d:D},d∈ds->KI ds=true->Cq d=true
 |a::r,d,h,q=>by
  rw[KI,zZ] at q;rcases zB.mp h with z|z
  ·subst z;exact q.1
  ·exact Qk z q.2
mutual
noncomputable def OS:D->Nat
 | .tup a| .lst a=>Ql a+1
 |_=>0
noncomputable def Ql:List D->Nat
 |[]=>0
 |a::r=>max (OS a) (Ql r)
end
def Vy:∀ {ds:List D}{d:D},d∈ds->OS d<=Ql ds
 |a::r,d,h=>by
  rw[Ql];rcases zB.mp h with z|z
  ·subst z;exact Nat.le_max_left _ _
  ·exact zal (Vy z) (Nat.le_max_right _ _)
def S4:∀ {a b:List D},Cp a b=true->a.length=b.length
 |[],[],_=>rfl
 |[],_::_,h|_::_,[],h=>by simp[Cp] at h
 |a::r,b::t,h=>by
  simp only[Cp,zZ] at h;rw[z7,z7,S4 h.2]
def IM:∀(a b:List D),a.length=b.length->(zan a.length).all (λ j=>Bl (a.getD j .AL) (b.getD j .AL))=Cp a b
 |[],[],_=>by simp[Cp]
 |a::r,b::t,h=>by
  have ih:=IM r t (by simpa using h);rw[z7,List.range_succ_eq_map,zc8,List.all_map,Cp,<-ih];simp[Function.comp_def]
 |[],_::_,h|_::_,[],h=>by cases h
def Vz {a b:List D}(h:a.length≠b.length):Cp a b=false:=by
 cases e:Cp a b with
 |false=>rfl
 |true=>exact absurd (S4 e) h
def YT (a b:List D):((zan (min a.length b.length)).all (λ j=>Bl (a.getD j .AL) (b.getD j .AL))&&(a.length==b.length))=Cp a b:=by
 by_cases h:a.length=b.length
 ·rw[<-IM a b h,h];simp
 ·rw[Vz h,beq_false_of_ne h,Bool.and_false]
section
variable {X:Cx}{pins:List (Addr×Obj)}{σ:St}{H:Hp}{s:Shared}
def VA (I:Inv X pins σ H s){a:Addr}{xs ys:List V}(h:D7 X.K H a xs)(h':EC X.K H a ys):False:=by
 obtain⟨aa,_,⟨o,n,e,c,_,_⟩,_⟩:=I.list h;obtain⟨its',_,⟨o',e',c',_⟩,_⟩:=I.tuple h';rw[e] at e';cases e';rw[c] at c';revert c';decide
mutual
theorem fW (I:Inv X pins σ H s){v:V}{d d':D}(n1:Cq d=true)(n2:Cq d'=true)(h:BX X.K H v d)(h':BX X.K H v d'):d=d':=by
 cases h with
 |tup h r =>
  cases h' with
  |tup h' r' =>
   have e:=I.F4 (.of h) (.of h');subst e;rw[GB I (by rw[Cq] at n1;exact n1) (by rw[Cq] at n2;exact n2) r r']
  |lst h' _=>exact (VA I h' (.of h)).elim
  |_=>rw[Cq] at n2;cases n2
 |lst h r =>
  cases h' with
  |lst h' r' =>
   have e:=I.Gs h h';subst e;rw[GB I (by rw[Cq] at n1;exact n1) (by rw[Cq] at n2;exact n2) r r']
  |tup h' _=>exact (VA I h (.of h')).elim
  |_=>rw[Cq] at n2;cases n2
 |AL|bl _|int _|str _=>cases h';rfl
 |_=>rw[Cq] at n1;cases n1
theorem GB (I:Inv X pins σ H s){v:List V}{d d':List D}(n1:KI d=true)(n2:KI d'=true)(h:Ah X.K H v d)(h':Ah X.K H v d'):d=d':=by
 cases h with
 |nil=>cases h';rfl
 |cons h r =>
  cases h' with
  |cons h' r' =>
   rw[KI,zZ] at n1 n2;rw[fW I n1.1 n2.1 h h',GB I n1.2 n2.2 r r']
end
def xR {xs:List V}{aa:List Value}(r:Vals xs aa)(j:Nat)(h:j<aa.toArray.size):∃x,xs[j]?=some x/\RelV x aa.toArray[j]:=by
 have h':j<aa.length:=by simpa using h
 have hx:j<xs.length:=by rw[r.length];exact h'
 obtain⟨u,hu,ru⟩:=r.get (z4 hx);rw[z4 h'] at hu;refine⟨xs[j],z4 hx,?_⟩;have e:aa.toArray[j]=u:=by simpa using hu
 rw[e];exact ru
def VB {ds:List D}{j:Nat}{d:D}(h:ds[j]?=some d):ds.getD j .AL=d:=by rw[zH,h];rfl
def kW (I:Inv X pins σ H s)(n:Nat):∀(A:Around) (d e:D) (v w:V) (u1 u2:Value),OS d<=n->Cq d=true->Cq e=true->A.units+n<cLine->BX X.K H v d->BX X.K H w e->RelV v u1->RelV w u2->SeqAt.EqAt A s u1 u2 (Bl d e)/\SeqAt.RcAt A s u1 u2 (Bl d e)/\SeqAt.RcNeAt A s u1 u2 (!Bl d e):=by
 induction n using Nat.strongRecOn with
 |ind n ih =>
  intro A d e v w u1 u2 hd aF am hu h1 h2 r1 r2;have ai:A.units<cLine:=by omega
  have el:∀ {xs ys:List V} {ds es:List D} {aa its':List Value},Vals xs aa->Vals ys its'->Ah X.K H xs ds->Ah X.K H ys es->KI ds=true->KI es=true->Ql ds<n->∀(j:Nat) (h1:j<aa.toArray.size) (h2:j<its'.toArray.size),SeqAt.EqAt A.in1 s aa.toArray[j] its'.toArray[j] (Bl (ds.getD j .AL) (es.getD j .AL)):=λ rv c6 r r' n1 n2 hn j h1 h2=>by
   obtain⟨x,hx,rx⟩:=xR rv j h1;obtain⟨y,hy,ry⟩:=xR c6 j h2;obtain⟨dx,ex,u8⟩:=r.nY hx;obtain⟨dy,ey,u9⟩:=r'.nY hy;rw[VB ex,VB ey];exact (ih _ hn A.in1 dx dy x y _ _ (Vy (zI ex)) (Qk (zI ex) n1) (Qk (zI ey) n2) (by show A.units+1+_<cLine;omega) u8 u9 rx ry).1
  cases h1 with
  |F3 _ _|Vw _ _|Vx _ _|ins _ _ _=>simp[Cq] at aF
  |AL =>
   cases r1;cases h2 with
   |F3 _ _|Vw _ _|Vx _ _|ins _ _ _=>simp[Cq] at am
   |AL=>cases r2;simp only[Bl];exact⟨.same _,.none_none,.none_none⟩
   |bl b=>cases r2;simp only[Bl];exact⟨.none_bool _,.none_bool _,.none_bool _⟩
   |int b=>obtain⟨t,rfl⟩:=r2;simp only[Bl];exact⟨.none_int _ _,.none_int _ _,.none_int _ _⟩
   |str b=>obtain⟨t,rfl⟩:=r2;simp only[Bl];exact⟨.none_str _ _,.none_str _ _,.none_str _ _⟩
   |tup h r=>cases r2;simp only[Bl];obtain⟨_,_,p,_⟩:=I.tuple (.of h);exact⟨.none_tuple p ai,.none_tuple p ai,.none_tuple p ai⟩
   |lst h r=>cases r2;simp only[Bl];obtain⟨_,_,p,_⟩:=I.list h;exact⟨.none_list p.isList ai,.none_list p.isList ai,.none_list p.isList ai⟩
  |bl a =>
   cases r1;cases h2 with
   |F3 _ _|Vw _ _|Vx _ _|ins _ _ _=>simp[Cq] at am
   |AL=>cases r2;simp only[Bl];exact⟨.bool_none _,.bool_none _,.bool_none _⟩
   |bl b=>cases r2;simp only[Bl];exact⟨.bool_bool _ _,.bool_bool _ _,.bool_bool _ _⟩
   |int b=>obtain⟨t,rfl⟩:=r2;simp only[Bl];exact⟨.bool_int _ _ _,.bool_int _ _ _,.bool_int _ _ _⟩
   |str b=>obtain⟨t,rfl⟩:=r2;simp only[Bl];exact⟨.bool_str _ _ _,.bool_str _ _ _,.bool_str _ _ _⟩
   |tup h r=>cases r2;simp only[Bl];obtain⟨_,_,p,_⟩:=I.tuple (.of h);exact⟨.bool_tuple _ p ai,.bool_tuple _ p ai,.bool_tuple _ p ai⟩
   |lst h r=>cases r2;simp only[Bl];obtain⟨_,_,p,_⟩:=I.list h;exact⟨.bool_list _ p.isList ai,.bool_list _ p.isList ai,.bool_list _ p.isList ai⟩
  |int a =>
   obtain⟨t',rfl⟩:=r1;cases h2 with
   |F3 _ _|Vw _ _|Vx _ _|ins _ _ _=>simp[Cq] at am
   |AL=>cases r2;simp only[Bl];exact⟨.int_none _ _,.int_none _ _,.int_none _ _⟩
   |bl b=>cases r2;simp only[Bl];exact⟨.int_bool _ _ _,.int_bool _ _ _,.int_bool _ _ _⟩
   |int b=>obtain⟨t,rfl⟩:=r2;simp only[Bl];exact⟨.int_int _ _ _ _,.int_int _ _ _ _,.int_int _ _ _ _⟩
   |str b=>obtain⟨t,rfl⟩:=r2;simp only[Bl];exact⟨.int_str _ _ _ _,.int_str _ _ _ _,.int_str _ _ _ _⟩
   |tup h r=>cases r2;simp only[Bl];obtain⟨_,_,p,_⟩:=I.tuple (.of h);exact⟨.int_tuple _ _ p ai,.int_tuple _ _ p ai,.int_tuple _ _ p ai⟩
   |lst h r=>cases r2;simp only[Bl];obtain⟨_,_,p,_⟩:=I.list h;exact⟨.int_list _ _ p.isList ai,.int_list _ _ p.isList ai,.int_list _ _ p.isList ai⟩
  |str a =>
   obtain⟨t',rfl⟩:=r1;cases h2 with
   |F3 _ _|Vw _ _|Vx _ _|ins _ _ _=>simp[Cq] at am
   |AL=>cases r2;simp only[Bl];exact⟨.str_none _ _,.str_none _ _,.str_none _ _⟩
   |bl b=>cases r2;simp only[Bl];exact⟨.str_bool _ _ _,.str_bool _ _ _,.str_bool _ _ _⟩
   |int b=>obtain⟨t,rfl⟩:=r2;simp only[Bl];exact⟨.str_int _ _ _ _,.str_int _ _ _ _,.str_int _ _ _ _⟩
   |str b=>obtain⟨t,rfl⟩:=r2;simp only[Bl];exact⟨.str_str _ _ _ _,.str_str _ _ _ _,.str_str _ _ _ _⟩
   |tup h r=>cases r2;simp only[Bl];obtain⟨_,_,p,_⟩:=I.tuple (.of h);exact⟨.str_tuple _ _ p ai,.str_tuple _ _ p ai,.str_tuple _ _ p ai⟩
   |lst h r=>cases r2;simp only[Bl];obtain⟨_,_,p,_⟩:=I.list h;exact⟨.str_list _ _ p.isList ai,.str_list _ _ p.isList ai,.str_list _ _ p.isList ai⟩
  | @tup a xs ds h r =>
   cases r1;obtain⟨aa,rv,p,_⟩:=I.tuple (.of h);cases h2 with
   |F3 _ _|Vw _ _|Vx _ _|ins _ _ _=>simp[Cq] at am
   |AL=>cases r2;simp only[Bl];exact⟨.tuple_none p ai,.tuple_none p ai,.tuple_none p ai⟩
   |bl b=>cases r2;simp only[Bl];exact⟨.tuple_bool _ p ai,.tuple_bool _ p ai,.tuple_bool _ p ai⟩
   |int b=>obtain⟨t,rfl⟩:=r2;simp only[Bl];exact⟨.tuple_int _ _ p ai,.tuple_int _ _ p ai,.tuple_int _ _ p ai⟩
   |str b=>obtain⟨t,rfl⟩:=r2;simp only[Bl];exact⟨.tuple_str _ _ p ai,.tuple_str _ _ p ai,.tuple_str _ _ p ai⟩
   | @lst a2 ny es h' r'=>cases r2;simp only[Bl];obtain⟨_,_,p',_⟩:=I.list h';exact⟨.tuple_list p p'.isList ai,.tuple_list p p'.isList ai,.tuple_list p p'.isList ai⟩
   | @tup a2 ny es h' r' =>
    cases r2;obtain⟨its',c6,p',_⟩:=I.tuple (.of h');have z1:aa.toArray.size=ds.length:=by rw[z9,<-rv.length,r.length]
    have z2:its'.toArray.size=es.length:=by rw[z9,<-c6.length,r'.length]
    have hj:=el rv c6 r r' (by rw[Cq] at aF;exact aF) (by rw[Cq] at am;exact am) (by rw[OS] at hd;omega);have q:=SeqAt.RcAt.tuples (A:=A) (e:=λ j=>Bl (ds.getD j .AL) (es.getD j .AL)) p p' ai hj;have q':=SeqAt.RcNeAt.tuples (A:=A) (e:=λ j=>Bl (ds.getD j .AL) (es.getD j .AL)) p p' ai hj;rw[z1,z2,YT] at q q';simp only[Bl];by_cases ha:a=a2
    ·subst ha;have e':=I.F4 (.of h) (.of h');subst e';have e2:=GB I (by rw[Cq] at aF;exact aF) (by rw[Cq] at am;exact am) r r';subst e2;rw[CI] at q q' ⊢;exact⟨.same _,q,q'⟩
    ·exact⟨.of_refs ha q,q,q'⟩
  | @lst a xs ds h r =>
   cases r1;obtain⟨aa,rv,p,_⟩:=I.list h;cases h2 with
   |F3 _ _|Vw _ _|Vx _ _|ins _ _ _=>simp[Cq] at am
   |AL=>cases r2;simp only[Bl];exact⟨.list_none p.isList ai,.list_none p.isList ai,.list_none p.isList ai⟩
   |bl b=>cases r2;simp only[Bl];exact⟨.list_bool _ p.isList ai,.list_bool _ p.isList ai,.list_bool _ p.isList ai⟩
   |int b=>obtain⟨t,rfl⟩:=r2;simp only[Bl];exact⟨.list_int _ _ p.isList ai,.list_int _ _ p.isList ai,.list_int _ _ p.isList ai⟩
   |str b=>obtain⟨t,rfl⟩:=r2;simp only[Bl];exact⟨.list_str _ _ p.isList ai,.list_str _ _ p.isList ai,.list_str _ _ p.isList ai⟩
   | @tup a2 ny es h' r'=>cases r2;simp only[Bl];obtain⟨_,_,p',_⟩:=I.tuple (.of h');exact⟨.list_tuple p.isList p' ai,.list_tuple p.isList p' ai,.list_tuple p.isList p' ai⟩
   | @lst a2 ny es h' r' =>
    cases r2;obtain⟨its',c6,p',_⟩:=I.list h';have z1:aa.toArray.size=ds.length:=by rw[z9,<-rv.length,r.length]
    have z2:its'.toArray.size=es.length:=by rw[z9,<-c6.length,r'.length]
    have hj:=el rv c6 r r' (by rw[Cq] at aF;exact aF) (by rw[Cq] at am;exact am) (by rw[OS] at hd;omega);have qq:SeqAt.RcAt A s (.ref a) (.ref a2) (Cp ds es)/\SeqAt.RcNeAt A s (.ref a) (.ref a2) (!Cp ds es):=by
     by_cases hz:aa.toArray.size=its'.toArray.size
     ·have q:=SeqAt.RcAt.lists (A:=A) (e:=λ j=>Bl (ds.getD j .AL) (es.getD j .AL)) p.isList p'.isList hz ai hj;have q':=SeqAt.RcNeAt.lists (A:=A) (e:=λ j=>Bl (ds.getD j .AL) (es.getD j .AL)) p.isList p'.isList hz ai hj;rw[z1,IM ds es (by rw[<-z1,<-z2,hz])] at q q';exact⟨q,q'⟩
     ·rw[Vz (by rw[<-z1,<-z2];exact hz)];exact⟨.lists_lengths p.isList p'.isList (by simpa using hz) ai,.lists_lengths p.isList p'.isList (by simpa using hz) ai⟩
    obtain⟨q,q'⟩:=qq;simp only[Bl];by_cases ha:a=a2
    ·subst ha;have e':=I.Gs h h';subst e';have e2:=GB I (by rw[Cq] at aF;exact aF) (by rw[Cq] at am;exact am) r r';subst e2;rw[CI] at q q' ⊢;exact⟨.same _,q,q'⟩
    ·exact⟨.of_refs ha q,q,q'⟩
abbrev fX (K:zr)(A:Around)(neg:Bool):R2:=λ x y H Q=>∃d e,BX K H x d/\BX K H y e/\A.units+OS d<cLine/\Cq d=true/\Cq e=true/\Q (.bl (if neg=true then !Bl d e else Bl d e)) H
def YU:Gv X (compareOp .Eq) (fX X.K X.A false):=by
 intro pins s σ H x y v u Q I rx ry h;obtain⟨d,e,hd,he,hu,n1,n2,q⟩:=h;exact (kW I (OS d) X.A d e x y v u (zF _) n1 n2 hu hd he rx ry).2.1 X.prog X.w X.xe _ ⟨.bl _,H,I,rfl,q⟩
def nZ:Gv X (compareOp .NotEq) (fX X.K X.A true):=by
 intro pins s σ H x y v u Q I rx ry h;obtain⟨d,e,hd,he,hu,n1,n2,q⟩:=h;exact (kW I (OS d) X.A d e x y v u (zF _) n1 n2 hu hd he rx ry).2.2 X.prog X.w X.xe _ ⟨.bl _,H,I,rfl,q⟩
end
inductive OT where
 |sh (d:D)|lst (ts:List OT)|tup (ts:List OT)|Bo (t:Bool) (ks:List D) (ts:List OT)|ins (x:Str) (ns:List Str) (ts:List OT)
inductive Ow where
 |rows (C5:List (List D))
 |LV (p:Nat) (ds:List D)
 |tree (p:Option Nat) (t:OT)
inductive Cl where
 |val (d:D)|own (ds:List D)|ow (o:Ow)
noncomputable abbrev Ae:=List (Option Cl)
inductive M (α:Type) where
 |ok (a:α)|ex (c:Str)|bad
abbrev M.bind {α β:Type}(m:M α)(k:α->M β):M β:=match m with
 | .ok a=>k a
 | .ex c=>.ex c
 | .bad=>.bad
@[simp] theorem M.A9 {α β:Type}(a:α) (k:α->M β):(M.ok a).bind k=k a:=rfl
def Yc {α β:Type}{m:M α}{k:α->M β}{G:M β->Prop}{R:M α->Prop}(h:G (m.bind k))(hk:∀a,G (k a)->R (.ok a))(hb:G .bad->R .bad:=by exact λ h=>h)(hx:∀x,G (.ex x)->R (.ex x):=by exact λ _ h=>h):R m:=by
 cases m with
 |ok a=>exact hk a h
 |ex x=>exact hx x h
 |bad=>exact hb h
abbrev del (H:Hp)(P:Addr->Prop):Hp:=λ a=>open Classical in if P a then none else H a
def Au {H:Hp}{P:Addr->Prop}{a:Addr}(h:¬ P a):del H P a=H a:=by unfold del;rw[if_neg h]
def D9 {H:Hp}{P:Addr->Prop}{a:Addr}(h:P a):del H P a=none:=by unfold del;rw[if_pos h]
def An {H:Hp}{P:Addr->Prop}{a:Addr}{o:HO}(h:del H P a=some o):¬ P a/\H a=some o:=by
 by_cases hp:P a
 ·rw[D9 hp] at h;cases h
 ·rw[Au hp] at h;exact⟨hp,h⟩
def Rd.AY {H:Hp}{P:Addr->Prop}{a:Addr}{u:HO}(r:Rd (del H P) a u):Rd H a u:=r.elim (λ h=>.inl (An h).2) λ⟨o,h⟩=>.inr ⟨o,(An h).2⟩
def Ad.del {H H':Hp}{P:Addr->Prop}(e:Ad H H'):Ad (del H P) (del H' P):=λ b o h=>by
 obtain⟨h1,h2⟩:=An h;rw[Au h1];exact e b o h2
def CP {H:Hp}{P P':Addr->Prop}(h:∀a,P' a->P a):Ad (L2.del H P) (L2.del H P'):=λ b o e=>by
 obtain⟨h1,h2⟩:=An e;rw[Au λ z=>h1 (h b z)];exact h2
def Ea {H:Hp}{P:Addr->Prop}:Ad (L2.del H P) H:=λ b o e=>(An e).2
abbrev DB (H:Hp)(a:Addr):Prop:=∃o,H a=some o/\∀xs,o≠.tup xs/\∀z,o≠.Y6 z (.tup xs)
def DB.same {H H':Hp}{a:Addr}(h:DB H a)(e:Ad H H'):DB H' a:=let ⟨o,q,r⟩:=h;⟨o,e a o q,r⟩
def DB.no {H:Hp}{a:Addr}(h:DB H a)(e:H a=none):False:=by
 obtain⟨o,q,r⟩:=h;rw[e] at q;cases q
def DB.lst {H:Hp}{a:Addr}{xs:List V}(h:H a=some (.lst xs)):DB H a:=⟨_,h,λ _=>⟨λ z=>(by cases z),λ _ z=>by cases z⟩⟩
mutual
inductive C7 (K:zr) (H:Hp) (P:Addr->Prop):V->OT->List Addr->Prop
 |sh {v d}:BX K (del H P) v d->C7 K H P v (.sh d) []
 |lst {p xs ts fp}:H p=some (.lst xs)->AF K H P xs ts fp->C7 K H P (.ref p) (.lst ts) (p::fp)
 |tup {p xs ts fp}:del H P p=some (.tup xs)->AF K H P xs ts fp->C7 K H P (.ref p) (.tup ts) fp
 |dK {p kvs ts fp}:H p=some (.dK kvs)->AF K H P (kvs.map zay) ts fp->C7 K H P (.ref p) (.Bo false (kvs.map λ kv=>Ct kv.1) ts) (p::fp)
 |dT {p kvs ts fp}:H p=some (.dT kvs)->AF K H P (kvs.map zay) ts fp->C7 K H P (.ref p) (.Bo true (kvs.map λ kv=>.tup (kv.1.map Ct)) ts) (p::fp)
 |ins {p C dx fs ts fp x}:zY K mainGlobals x=some (some (.ref C))->H p=some (.ins C dx fs)->AF K H P (fs.map zay) ts fp->C7 K H P (.ref p) (.ins x (fs.map zX) ts) (p::fp)
inductive AF (K:zr) (H:Hp) (P:Addr->Prop):List V->List OT->List Addr->Prop
 |nil:AF K H P [] [] []
 |cons {v t fp vs ts fq}:C7 K H P v t fp->AF K H P vs ts fq->AF K H P (v::vs) (t::ts) (fp++fq)
end
mutual
noncomputable def er:OT->D
 | .sh d=>d
 | .lst ts=>.lst (OU ts)
 | .tup ts=>.tup (OU ts)
 | .Bo t ks ts=>.Bo t ks (OU ts)
 | .ins x ns ts=>.ins x ns (OU ts)
noncomputable def OU:List OT->List D
 |[]=>[]
 |t::r=>er t::OU r
end
def Qm:∀ts:List OT,OU ts=ts.map er
 |[]=>rfl
 |t::r=>by rw[OU,Qm r,zx]
mutual
theorem C7.move {K:zr}{H H':Hp}{P P':Addr->Prop}(sm:Ad (del H P) (del H' P')):∀ {v:V}{t:OT}{fp:List Addr},(∀a∈fp,H' a=H a)->C7 K H P v t fp->C7 K H' P' v t fp:=by
 intro _ _ _ k x_;cases x_ with
 |sh h=>exact .sh (h.mono sm)
 |lst h r=>exact .lst ((k _ zv).trans h) (AF.move sm (λ a ha=>k a (zw _ ha)) r)
 |tup h r=>exact .tup (sm _ _ h) (AF.move sm k r)
 |dK h r=>exact .dK ((k _ zv).trans h) (AF.move sm (λ a ha=>k a (zw _ ha)) r)
 |dT h r=>exact .dT ((k _ zv).trans h) (AF.move sm (λ a ha=>k a (zw _ ha)) r)
 |ins n h r=>exact .ins n ((k _ zv).trans h) (AF.move sm (λ a ha=>k a (zw _ ha)) r)
theorem AF.move {K:zr}{H H':Hp}{P P':Addr->Prop}(sm:Ad (del H P) (del H' P')):∀ {v:List V}{t:List OT}{fp:List Addr},(∀a∈fp,H' a=H a)->AF K H P v t fp->AF K H' P' v t fp:=by
 intro _ _ _ k x_;cases x_ with
 |nil=>exact .nil
 |cons h r=>exact .cons (C7.move sm (λ a ha=>k a (za2 _ ha)) h) (AF.move sm (λ a ha=>k a (z8 _ ha)) r)
end
mutual
theorem C7.C8 {K:zr}{H:Hp}{P:Addr->Prop}:∀ {v:V}{t:OT}{fp:List Addr},C7 K H P v t fp->∀a∈fp,DB H a:=by
 intro _ _ _ x_ a ha;cases x_ with
 |sh h=>cases ha
 |lst h r =>
  rcases zB.mp ha with rfl|ha
  ·exact .lst h
  ·exact AF.C8 r a ha
 |tup h r=>exact AF.C8 r a ha
 |dK h r =>
  rcases zB.mp ha with rfl|ha
  ·exact⟨_,h,λ _=>⟨λ z=>(by cases z),λ _ z=>by cases z⟩⟩
  ·exact AF.C8 r a ha
 |dT h r =>
  rcases zB.mp ha with rfl|ha
  ·exact⟨_,h,λ _=>⟨λ z=>(by cases z),λ _ z=>by cases z⟩⟩
  ·exact AF.C8 r a ha
 |ins n h r =>
  rcases zB.mp ha with rfl|ha
  ·exact⟨_,h,λ _=>⟨λ z=>(by cases z),λ _ z=>by cases z⟩⟩
  ·exact AF.C8 r a ha
theorem AF.C8 {K:zr}{H:Hp}{P:Addr->Prop}:∀ {v:List V}{t:List OT}{fp:List Addr},AF K H P v t fp->∀a∈fp,DB H a:=by
 intro _ _ _ x_ a ha;cases x_ with
 |nil=>cases ha
 |cons h r =>
  rcases zJ.mp ha with ha|ha
  ·exact C7.C8 h a ha
  ·exact AF.C8 r a ha
end
mutual
theorem C7.Cj {K:zr}{H:Hp}{P P':Addr->Prop}:∀ {v:V}{t:OT}{fp ag:List Addr},C7 K H P v t fp->C7 K H P' v t ag->fp=ag
 |_,_,_,_,.sh _,.sh _=>rfl
 |_,_,_,_,.lst h r,.lst h' r'=>by
  rw[h] at h';cases h';rw[AF.Cj r r']
 |_,_,_,_,.tup h r,.tup h' r'=>by
  have e:=(An h).2.symm.trans (An h').2;cases e;exact AF.Cj r r'
 |_,_,_,_,.dK (kvs:=kvs) (ts:=ts) h r,x=>by
  generalize ht:OT.Bo false (kvs.map λ kv=>Ct kv.1) ts=t at x;cases x with
  |dK h' r' =>
   rw[h] at h';cases h';injection ht with _ _ e
   subst e;rw[AF.Cj r r']
  |dT h' r'=>rw[h] at h';cases h'
  |_=>cases ht
 |_,_,_,_,.dT (kvs:=kvs) (ts:=ts) h r,x=>by
  generalize ht:OT.Bo true (kvs.map λ kv=>D.tup (kv.1.map Ct)) ts=t at x;cases x with
  |dT h' r' =>
   rw[h] at h';cases h';injection ht with _ _ e
   subst e;rw[AF.Cj r r']
  |dK h' r'=>rw[h] at h';cases h'
  |_=>cases ht
 |_,_,_,_,.ins (fs:=fs) (ts:=ts) (x:=y) n h r,x=>by
  generalize ht:OT.ins y (fs.map zX) ts=t at x;cases x with
  |ins n' h' r' =>
   rw[h] at h';cases h';injection ht with _ _ e
   subst e;rw[AF.Cj r r']
  |_=>cases ht
theorem AF.Cj {K:zr}{H:Hp}{P P':Addr->Prop}:∀ {v:List V}{t:List OT}{fp ag:List Addr},AF K H P v t fp->AF K H P' v t ag->fp=ag
 |_,_,_,_,.nil,.nil=>rfl
 |_,_,_,_,.cons h r,.cons h' r'=>by rw[C7.Cj h h',AF.Cj r r']
end
mutual
theorem C7.has {K:zr}{H:Hp}{P P0:Addr->Prop}(hs:∀a,P0 a->P a):∀ {v:V}{t:OT}{fp:List Addr},(∀a∈fp,¬ P0 a)->C7 K H P v t fp->BX K (del H P0) v (er t):=by
 intro _ _ _ k x_;cases x_ with
 |sh h=>rw[er];exact h.mono (CP hs)
 |lst h r=>rw[er];exact .lst (.of (show del H P0 _=_ by rw[Au (k _ zv)];exact h)) (AF.has hs (λ a ha=>k a (zw _ ha)) r)
 |tup h r=>rw[er];exact .tup (CP hs _ _ h) (AF.has hs k r)
 |dK h r=>rw[er];exact .Vw (.inl (show del H P0 _=_ by rw[Au (k _ zv)];exact h)) (AF.has hs (λ a ha=>k a (zw _ ha)) r)
 |dT h r=>rw[er];exact .Vx (.inl (show del H P0 _=_ by rw[Au (k _ zv)];exact h)) (AF.has hs (λ a ha=>k a (zw _ ha)) r)
 |ins n h r=>rw[er];exact .ins n (show del H P0 _=_ by rw[Au (k _ zv)];exact h) (AF.has hs (λ a ha=>k a (zw _ ha)) r)
theorem AF.has {K:zr}{H:Hp}{P P0:Addr->Prop}(hs:∀a,P0 a->P a):∀ {v:List V}{t:List OT}{fp:List Addr},(∀a∈fp,¬ P0 a)->AF K H P v t fp->Ah K (del H P0) v (OU t):=by
 intro _ _ _ k x_;cases x_ with
 |nil=>rw[OU];exact .nil
 |cons h r=>rw[OU];exact .cons (C7.has hs (λ a ha=>k a (za2 _ ha)) h) (AF.has hs (λ a ha=>k a (z8 _ ha)) r)
end
inductive BG (K:zr) (H:Hp) (P:Addr->Prop):List Addr->List (List D)->Prop
 |nil:BG K H P [] []
 |cons {q:Addr} {xs:List V} {ds:List D} {ps:List Addr} {C5:List (List D)}:H q=some (.lst xs)->Ah K (del H P) xs ds->BG K H P ps C5->BG K H P (q::ps) (ds::C5)
abbrev Dt (K:zr)(H:Hp)(P:Addr->Prop):Cl->V->List Addr->Prop
 | .own ds,v,fp=>∃p xs,v=.ref p/\fp=[p]/\H p=some (.lst xs)/\Ah K (del H P) xs ds
 | .ow (.rows C5),v,fp=>∃p ps,v=.ref p/\fp=p::ps/\H p=some (.lst (ps.map V.ref))/\BG K H P ps C5
 | .ow (.LV _ ds),v,fp=>∃p xs,v=.ref p/\fp=[p]/\H p=some (.lst xs)/\Ah K (del H P) xs ds
 | .ow (.tree _ t),v,fp=>C7 K H P v t fp
 | .val _,_,_=>False
abbrev Ih:Cl->Bool
 | .val _=>false
 |_=>true
def BG.move {K:zr}{H H':Hp}{P P':Addr->Prop}(sm:Ad (del H P) (del H' P')):∀ {ps:List Addr}{C5:List (List D)},(∀a∈ps,H' a=H a)->BG K H P ps C5->BG K H' P' ps C5:=by
 intro _ _ k x_;cases x_ with
 |nil=>exact .nil
 |cons h r t=>exact .cons ((k _ zv).trans h) (r.mono sm) (BG.move sm (λ a ha=>k a (zw _ ha)) t)
def BG.at {K:zr}{H:Hp}{P:Addr->Prop}:∀ {ps:List Addr}{C5:List (List D)},BG K H P ps C5->∀a∈ps,∃xs,H a=some (.lst xs)
 |_,_,.nil,a,h=>by cases h
 |_,_,.cons h r t,a,ha=>by
  rcases zB.mp ha with rfl|ha
  ·exact⟨_,h⟩
  ·exact t.at a ha
def BG.length {K:zr}{H:Hp}{P:Addr->Prop}:∀ {ps:List Addr}{C5:List (List D)},BG K H P ps C5->ps.length=C5.length:=by
 intro _ _ x_;cases x_ with
 |nil=>exact rfl
 |cons h r t=>rw[z7,z7,t.length]
def BG.get {K:zr}{H:Hp}{P:Addr->Prop}:∀ {ps:List Addr}{C5:List (List D)}{i:Nat}{ds:List D},BG K H P ps C5->C5[i]?=some ds->∃q xs,ps[i]?=some q/\H q=some (.lst xs)/\Ah K (del H P) xs ds
 |_,_,_,_,.nil,e=>by simp at e
 |_,_,0,_,.cons h r _,e=>by simp at e;subst e;exact⟨_,_,rfl,h,r⟩
 |_,_,i+1,ds,.cons _ _ t,e=>by
  obtain⟨q,xs,h1,h2⟩:=BG.get (i:=i) (ds:=ds) t (by simpa using e);exact⟨q,xs,by simpa using h1,h2⟩
def S5:∀ {ps qs:List Addr},ps.map V.ref=qs.map V.ref->ps=qs
 |[],[],_=>rfl
 |[],_::_,h|_::_,[],h=>by cases h
 |p::ps,q::qs,h=>by
  rw[zx,zx] at h;injection h with h1 h2
  injection h1 with h1
  rw[h1,S5 h2]
def Dt.move {K:zr}{H H':Hp}{P P':Addr->Prop}(sm:Ad (del H P) (del H' P')){c:Cl}{v:V}{fp:List Addr}(k:∀a∈fp,H' a=H a)(h:Dt K H P c v fp):Dt K H' P' c v fp:=by
 cases c with
 |val d=>exact h
 |own ds =>
  obtain⟨p,xs,rfl,rfl,h1,h2⟩:=h;exact⟨p,xs,rfl,rfl,(k p zv).trans h1,h2.mono sm⟩
 |ow o =>
  cases o with
  |rows C5 =>
   obtain⟨p,ps,rfl,rfl,h1,h2⟩:=h;exact⟨p,ps,rfl,rfl,(k p zv).trans h1,h2.move sm λ a ha=>k a (zw _ ha)⟩
  |LV p ds =>
   obtain⟨p,xs,rfl,rfl,h1,h2⟩:=h;exact⟨p,xs,rfl,rfl,(k p zv).trans h1,h2.mono sm⟩
  |tree p t=>exact C7.move sm k h
def Dt.at {K:zr}{H:Hp}{P:Addr->Prop}{c:Cl}{v:V}{fp:List Addr}(h:Dt K H P c v fp):∀a∈fp,∃o,H a=some o:=by
 cases c with
 |val d=>exact h.elim
 |own ds =>
  obtain⟨p,xs,rfl,rfl,h1,h2⟩:=h;exact λ a ha=>⟨.lst xs,by rw[zy.mp ha];exact h1⟩
 |ow o =>
  cases o with
  |rows C5 =>
   obtain⟨p,ps,rfl,rfl,h1,h2⟩:=h;intro a ha;rcases zB.mp ha with rfl|ha
   ·exact⟨_,h1⟩
   ·obtain⟨xs,q⟩:=h2.at a ha;exact⟨_,q⟩
  |LV p ds =>
   obtain⟨p,xs,rfl,rfl,h1,h2⟩:=h;exact λ a ha=>⟨.lst xs,by rw[zy.mp ha];exact h1⟩
  |tree p t =>
   intro a ha;obtain⟨o,q,_⟩:=C7.C8 h a ha;exact⟨o,q⟩
def Dt.same {K:zr}{H H':Hp}{P:Addr->Prop}(e:Ad H H'){c:Cl}{v:V}{fp:List Addr}(h:Dt K H P c v fp):Dt K H' P c v fp:=
 h.move e.del λ a ha=>by obtain⟨xs,q⟩:=h.at a ha;rw[q];exact e _ _ q
def Dt.Cj {K:zr}{H:Hp}{P P':Addr->Prop}{c:Cl}{v:V}{fp ag:List Addr}(h:Dt K H P c v fp)(h':Dt K H P' c v ag):fp=ag:=by
 cases c with
 |val d=>exact h.elim
 |own ds =>
  obtain⟨p,xs,rfl,rfl,h1,h2⟩:=h;obtain⟨p',d0,e,rfl,lw,ge⟩:=h';cases e;rfl
 |ow o =>
  cases o with
  |rows C5 =>
   obtain⟨p,ps,rfl,rfl,h1,h2⟩:=h;obtain⟨p',y7,e,rfl,lw,ge⟩:=h';cases e;rw[h1] at lw;injection lw with e
   injection e with e
   rw[S5 e]
  |LV p ds =>
   obtain⟨p,xs,rfl,rfl,h1,h2⟩:=h;obtain⟨p',d0,e,rfl,lw,ge⟩:=h';cases e;rfl
  |tree p t=>exact C7.Cj h h'
structure Eb where
 pr:Addr->Prop
 g:Nat->Addr
instance:CoeFun Eb (λ _=>Addr->Prop):=⟨Eb.pr⟩
instance:Coe Eb (Addr->Prop):=⟨Eb.pr⟩
abbrev OV:Cl->Option Nat
 | .ow (.LV n _)=>some n
 | .ow (.tree (some n) _)=>some n
 |_=>none
structure Am (K:zr)(P0:Eb)(P:Addr->Prop)(H:Hp)(σ:St)(ρ:Ae):Prop where
 sub:∀a,P0 a->P a
 C8:∀a,P a->DB H a
 val:∀(i:Nat) d,ρ[i]?=some (some (.val d))->∃v,σ[i]?=some (some v)/\BX K (del H P) v d
 ows:∀(i:Nat) c,ρ[i]?=some (some c)->Ih c=true->∃v fp,σ[i]?=some (some v)/\Dt K H P c v fp/\(∀a∈fp,P a/\¬ P0 a)/\fp.Nodup
 apart:∀(i j:Nat) c c' v v' fp ag,ρ[i]?=some (some c)->ρ[j]?=some (some c')->σ[i]?=some (some v)->σ[j]?=some (some v')->Dt K H P c v fp->Dt K H P c' v' ag->i≠j->∀a∈fp,a∉ag
 len:σ.length=ρ.length
 pin:∀(i:Nat) c n,ρ[i]?=some (some c)->OV c=some n->σ[i]?=some (some (.ref (P0.g n)))
def Am.own {K:zr}{P0:Eb}{P:Addr->Prop}{H:Hp}{σ:St}{ρ:Ae}(E:Am K P0 P H σ ρ)(i:Nat)(ds:List D)(h:ρ[i]?=some (some (.own ds))):
 ∃p xs,σ[i]?=some (some (.ref p))/\H p=some (.lst xs)/\P p/\¬ P0 p/\Ah K (del H P) xs ds:=by
 obtain⟨v,fp,h1,⟨p,xs,rfl,rfl,h2,h3⟩,h4,_⟩:=E.ows i _ h rfl;exact⟨p,xs,h1,h2,(h4 p zv).1,(h4 p zv).2,h3⟩
def Am.YV {K:zr}{P0:Eb}{P P':Addr->Prop}{H H':Hp}{σ:St}{ρ:Ae}(E:Am K P0 P H σ ρ)(sm:Ad (del H P) (del H' P')){i j:Nat}{c c':Cl}{v v':V}{fp ag:List Addr}
 (ki:∀v fp,σ[i]?=some (some v)->Dt K H P c v fp->∀a∈fp,H' a=H a) (kj:∀v fp,σ[j]?=some (some v)->Dt K H P c' v fp->∀a∈fp,H' a=H a)
 (hi:ρ[i]?=some (some c)) (hj:ρ[j]?=some (some c')) (si:σ[i]?=some (some v)) (sj:σ[j]?=some (some v')) (h:Dt K H' P' c v fp) (h':Dt K H' P' c' v' ag) (ae:i≠j):∀a∈fp,a∉ag:=by
 have key:∀(k:Nat) (d:Cl) (w:V) (fq:List Addr),ρ[k]?=some (some d)->σ[k]?=some (some w)->(∀v fp,σ[k]?=some (some v)->Dt K H P d v fp->∀a∈fp,H' a=H a)->Dt K H' P' d w fq->Dt K H P d w fq:=λ k d w fq hk sk kk ho=>by
  have io:Ih d=true:=by cases d<;>first|rfl|exact ho.elim
  obtain⟨w',bJ,s2,o2,_⟩:=E.ows k d hk io;rw[sk] at s2;cases s2;have o3:=o2.move sm (kk _ _ sk o2);rw[ho.Cj o3];exact o2
 exact E.apart i j c c' v v' fp ag hi hj si sj (key i c v fp hi si ki h) (key j c' v' ag hj sj kj h') ae
def Am.same {K:zr}{P0:Eb}{P:Addr->Prop}{H H':Hp}{σ:St}{ρ:Ae}(E:Am K P0 P H σ ρ)(e:Ad H H'):Am K P0 P H' σ ρ:=
 ⟨E.sub,λ a h=>(E.C8 a h).same e,λ i d h=>let ⟨v,h1,h2⟩:=E.val i d h;⟨v,h1,h2.mono e.del⟩,
  λ i c h io=>let ⟨v,fp,h1,h2,h3,h4⟩:=E.ows i c h io;⟨v,fp,h1,h2.same e,h3,h4⟩,
  λ i j c c' v v' fp ag hi hj si sj h h' ae=>E.YV e.del (λ v fp _ o a ha=>by obtain⟨xs,q⟩:=o.at a ha;rw[q];exact e _ _ q) (λ v fp _ o a ha=>by obtain⟨xs,q⟩:=o.at a ha;rw[q];exact e _ _ q) hi hj si sj h h' ae,E.len,E.pin⟩
abbrev gV (K:zr)(WX:Str->Hp->Prop)(P:Addr->Prop)(H:Hp)(Q:VK):M D->Prop
 | .ok d=>∀v H',Ad H H'->BX K (del H' P) v d->Q v H'
 | .ex x=>∀H',Ad H H'->WX x H'
 | .bad=>False
abbrev gA (K:zr)(WX:Str->Hp->Prop)(P:Addr->Prop)(H:Hp)(Q:List V->Hp->Prop):M (List D)->Prop
 | .ok d=>∀v H',Ad H H'->Ah K (del H' P) v d->Q v H'
 | .ex x=>∀H',Ad H H'->WX x H'
 | .bad=>False
abbrev gT (WX:Str->Hp->Prop)(H:Hp)(Q:Bool->Hp->Prop):M Bool->Prop
 | .ok b=>∀H',Ad H H'->Q b H'
 | .ex x=>∀H',Ad H H'->WX x H'
 | .bad=>False
section
variable {K:zr}{WX:Str->Hp->Prop}{P:Addr->Prop}{H H':Hp}
def gV.same {Q:VK}{m:M D}(h:gV K WX P H Q m)(e:Ad H H'):gV K WX P H' Q m:=by
 cases m with
 |ok d=>exact λ v H2 q hv=>h v H2 (e.trans q) hv
 |ex x=>exact λ H2 q=>h H2 (e.trans q)
 |bad=>exact h
def gA.same {Q:List V->Hp->Prop}{m:M (List D)}(h:gA K WX P H Q m)(e:Ad H H'):gA K WX P H' Q m:=by
 cases m with
 |ok d=>exact λ v H2 q hv=>h v H2 (e.trans q) hv
 |ex x=>exact λ H2 q=>h H2 (e.trans q)
 |bad=>exact h
def gT.same {Q:Bool->Hp->Prop}{m:M Bool}(h:gT WX H Q m)(e:Ad H H'):gT WX H' Q m:=by
 cases m with
 |ok d|ex x=>exact λ H2 q=>h H2 (e.trans q)
 |bad=>exact h
end
abbrev Lv (c:Bool)(P0:Eb)(P:Addr->Prop):Addr->Prop:=if c=true then P else P0.pr
abbrev DE (X:Cx)(WX:Str->Hp->Prop)(c:Bool)(e:Expr)(f:Ae->M D):Prop:=
 ∃t,PE X e t/\∀P0 P σ H Q ρ,Am X.K P0 P H σ ρ->gV X.K WX (Lv c P0 P) H Q (f ρ)->t σ H Q
abbrev DA (X:Cx)(WX:Str->Hp->Prop)(c:Bool)(es:List Expr)(f:Ae->M (List D)):Prop:=
 ∃t,PA X es t/\(∀P0 P σ H Q ρ,Am X.K P0 P H σ ρ->gA X.K WX (Lv c P0 P) H Q (f ρ)->t σ H Q)/\∀ρ ds,f ρ=.ok ds->ds.length=es.length
abbrev DT (X:Cx)(WX:Str->Hp->Prop)(e:Expr)(f:Ae->M Bool):Prop:=
 ∃t,PT X e t/\∀P0 P σ H Q ρ,Am X.K P0 P H σ ρ->gT WX H Q (f ρ)->t σ H Q
abbrev DW (X:Cx)(WX:Str->Hp->Prop)(e:Expr)(f:Ae->M Bool):Prop:=
 ∃t,PW X e t/\∀P0 P σ H Q ρ,Am X.K P0 P H σ ρ->gT WX H Q (f ρ)->t σ H Q
def DW.dt {X:Cx}{WX:Str->Hp->Prop}{e:Expr}{f:Ae->M Bool}(h:DW X WX e f):DT X WX e f:=let ⟨t,h1,h2⟩:=h;⟨t,h1.pt,h2⟩
section
variable {X:Cx}{WX:Str->Hp->Prop}{c:Bool}{P0:Eb}{P:Addr->Prop}{H:Hp}{σ:St}{ρ:Ae}
def Am.lv (E:Am X.K P0 P H σ ρ)(c:Bool):∀a,Lv c P0 P a->P a:=λ a h=>by
 cases c with
 |true=>exact h
 |false=>exact E.sub a h
def Am.sT (E:Am X.K P0 P H σ ρ)(c:Bool):∀a,Lv c P0 P a->DB H a:=λ a h=>E.C8 a (E.lv c a h)
def Qn {e:Expr}{f:Ae->M D}(h:DE X WX true e f):DE X WX false e f:=by
 obtain⟨t,h1,h2⟩:=h;refine⟨t,h1,λ P0 P σ H Q ρ E g=>h2 P0 P σ H Q ρ E ?_⟩;cases e:f ρ with
 |ok d=>rw[e] at g;exact λ v H' s hv=>g v H' s (hv.mono (CP E.sub))
 |ex x|bad=>rw[e] at g;exact g
abbrev sU:D->Bool
 | .tup _ | .lst _ | .F3 _ | .Bo _ _ _ | .ins _ _ _=>false
 |_=>true
abbrev fl (m:M D):M D:=m.bind λ d=>if sU d=true then .ok d else .bad
abbrev rv (i:Nat)(ρ:Ae):M D:=match ρ[i]? with | some (some (.val d))=>.ok d | _=>.bad
abbrev ra (i:Nat)(ρ:Ae):M D:=match ρ[i]? with | some (some (.val d))=>.ok d | some (some (.own ds))=>.ok (.lst ds) | some (some (.ow (.rows C5)))=>.ok (.lst (C5.map D.lst)) | some (some (.ow (.LV _ ds)))=>.ok (.lst ds) | some (some (.ow (.tree _ t)))=>.ok (er t) | _=>.bad
def A1 (i:Nat){x:Str}{pos:Pos}(h:PE X (.Name x pos) (LR i)):DE X WX true (.Name x pos) (rv i):=by
 refine⟨_,h,λ P0 P σ H Q ρ E g=>?_⟩;unfold rv at g;split at g
 ·rename_i d e;obtain⟨v,h1,h2⟩:=E.val i d e;exact⟨v,h1,g v H (Ad.refl H) h2⟩
 ·exact g.elim
def A7 {i j pos}:DE X WX c (.Constant (.int i) j pos) (λ _=>.ok (.int i)):=⟨_,mH,λ P0 P σ H Q ρ E g=>g _ H (Ad.refl H) (.int i)⟩
def Du {b j pos}:DE X WX c (.Constant (.bool b) j pos) (λ _=>.ok (.bl b)):=⟨_,rF,λ P0 P σ H Q ρ E g=>g _ H (Ad.refl H) (.bl b)⟩
def CQ {j pos}:DE X WX c (.Constant .none j pos) (λ _=>.ok .AL):=⟨_,mI,λ P0 P σ H Q ρ E g=>g _ H (Ad.refl H) .AL⟩
abbrev VC (K:zr)(WX:Str->Hp->Prop)(r:R2)(aQ:D->D->M D):Prop:=
 ∀(P:Addr->Prop) (H:Hp) (x y:D) (v w:V) (Q:VK),(∀a,P a->DB H a)->BX K (del H P) v x->BX K (del H P) w y->gV K WX P H Q (aQ x y)->r v w H Q
variable {a b:Expr}{f g:Ae->M D}{pos:Pos}
def S6 {ta tb:TE}{r:R2}{aQ:D->D->M D}(ha:∀P0 P σ H Q ρ,Am X.K P0 P H σ ρ->gV X.K WX (Lv c P0 P) H Q (f ρ)->ta σ H Q)(hb:∀P0 P σ H Q ρ,Am X.K P0 P H σ ρ->gV X.K WX (Lv c P0 P) H Q (g ρ)->tb σ H Q)
 (hr:VC X.K WX r aQ) {Q:VK} (E:Am X.K P0 P H σ ρ) (h:gV X.K WX (Lv c P0 P) H Q ((f ρ).bind λ x=>(g ρ).bind λ y=>aQ x y)):qM r ta tb σ H Q:=by
 refine ha P0 P σ H _ ρ E ?_;cases e:f ρ with
 |bad|ex x=>rw[e] at h;exact h
 |ok x =>
  rw[e] at h;intro v H1 s1 hv;refine hb P0 P σ H1 _ ρ (E.same s1) ?_;cases e2:g ρ with
  |bad=>rw[e2] at h;exact h
  |ex y=>rw[e2] at h;exact gV.same (m:=.ex y) h s1
  |ok y =>
   rw[e2] at h;intro w H2 s2 hw;exact hr _ H2 x y v w Q (λ a q=>((E.same s1).same s2).sT c a q) (hv.mono s2.del) hw ((gV.same h s1).same s2)
def OW {op:Operator}{r:R2}{aQ:D->D->M D}(ho:Gv X (binaryOp op) r)(hr:VC X.K WX r aQ)(ha:DE X WX c a f)(hb:DE X WX c b g):DE X WX c (.BinOp a op b pos) (λ ρ=>(f ρ).bind λ x=>(g ρ).bind λ y=>aQ x y):=by
 obtain⟨ta,a1,a2⟩:=ha;obtain⟨tb,b1,b2⟩:=hb;exact⟨_,Yw ho a1 b1,λ P0 P σ H Q ρ E h=>S6 a2 b2 hr E h⟩
def YW {op:CmpOp}{r:R2}{aQ:D->D->M D}(ho:Gv X (compareOp op) r)(hr:VC X.K WX r aQ)(ha:DE X WX c a f)(hb:DE X WX c b g)(hm:behindInMarks op b=false):DE X WX c (.Compare a [op] [b] pos) (λ ρ=>(f ρ).bind λ x=>(g ρ).bind λ y=>aQ x y):=by
 obtain⟨ta,a1,a2⟩:=ha;obtain⟨tb,b1,b2⟩:=hb;exact⟨_,eV ho a1 b1 hm,λ P0 P σ H Q ρ E h=>S6 a2 b2 hr E h⟩
def sV {r:R2}{aQ:D->D->M D}(ho:fD X r)(hr:VC X.K WX r aQ)(ha:DE X WX c a f)(hb:DE X WX c b g)(hs:HA b):DE X WX c (.Subscript a b pos) (λ ρ=>(f ρ).bind λ x=>(g ρ).bind λ y=>aQ x y):=by
 obtain⟨ta,a1,a2⟩:=ha;obtain⟨tb,b1,b2⟩:=hb;exact⟨_,Vr ho a1 b1 hs,λ P0 P σ H Q ρ E h=>S6 a2 b2 hr E h⟩
abbrev BD (k:Int->Int->M D)(x y:D):M D:=match x,y with | .int i,.int j=>k i j | _,_=>.bad
def BX.int_inv {K:zr}{H:Hp}{v:V}{i:Int}(h:BX K H v (.int i)):v=.int i:=by cases h;rfl
def BX.MQ {K:zr}{H:Hp}{v:V}{i:Bool}(h:BX K H v (.bl i)):v=.bl i:=by cases h;rfl
def Qo {C:Int->Int->Prop}{gv:Int->Int->V}{gd:Int->Int->D}[∀i j,Decidable (C i j)](hg:∀i j K H,BX K H (gv i j) (gd i j)):VC X.K WX (rI C gv) (BD λ i j=>if C i j then .ok (gd i j) else .bad):=by
 intro P H x y v w Q ht hx hy h;unfold BD at h;split at h
 ·rename_i i j;rw[hx.int_inv,hy.int_inv];dsimp only at h;by_cases hc:C i j
  ·rw[if_pos hc] at h;exact⟨i,j,rfl,rfl,hc,h _ H (Ad.refl H) (hg i j _ _)⟩
  ·rw[if_neg hc] at h;exact h.elim
 ·exact h.elim
def M3 {gv:Int->Int->V}{gd:Int->Int->D}(hg:∀i j K H,BX K H (gv i j) (gd i j)):VC X.K WX (eB gv) (BD λ i j=>.ok (gd i j)):=by
 intro P H x y v w Q ht hx hy h;unfold BD at h;split at h
 ·rename_i i j;rw[hx.int_inv,hy.int_inv];exact⟨i,j,rfl,rfl,h _ H (Ad.refl H) (hg i j _ _)⟩
 ·exact h.elim
instance (i j:Int):Decidable (Yx i j):=by unfold Yx;infer_instance
instance (i j:Int):Decidable (eT i j):=by unfold eT;infer_instance
instance (i j:Int):Decidable (Yy i j):=by unfold Yy;infer_instance
abbrev sW:=BD λ i j=>.ok (.int (i+j))
abbrev sX:=BD λ i j=>.ok (.int (i-j))
abbrev ED:=BD λ i j=>if 0<j then .ok (.int (i%j)) else .bad
abbrev Lh:=BD λ i j=>if Yx i j then .ok (.int (i / j)) else .bad
abbrev WW:=BD λ i j=>if eT i j then .ok (.int (i^j.toNat)) else .bad
abbrev xS:=BD λ i j=>.ok (.bl (decide (i<j)))
abbrev yS:=BD λ i j=>.ok (.bl (decide (i<=j)))
abbrev xT:=BD λ i j=>.ok (.bl (decide (j<i)))
abbrev yT:=BD λ i j=>.ok (.bl (decide (j<=i)))
def BU (ha:DE X WX c a f)(hb:DE X WX c b g):DE X WX c (.BinOp a .Add b pos) (λ ρ=>(f ρ).bind λ x=>(g ρ).bind λ y=>sW x y):=OW mV (M3 λ _ _ _ _=>.int _) ha hb
def oA (ha:DE X WX c a f)(hb:DE X WX c b g):DE X WX c (.BinOp a .Sub b pos) (λ ρ=>(f ρ).bind λ x=>(g ρ).bind λ y=>sX x y):=OW mW (M3 λ _ _ _ _=>.int _) ha hb
def BK (ha:DE X WX c a f)(hb:DE X WX c b g):DE X WX c (.BinOp a .Mod b pos) (λ ρ=>(f ρ).bind λ x=>(g ρ).bind λ y=>ED x y):=OW mX (Qo λ _ _ _ _=>.int _) ha hb
def HC (ha:DE X WX c a f)(hb:DE X WX c b g):DE X WX c (.BinOp a .FloorDiv b pos) (λ ρ=>(f ρ).bind λ x=>(g ρ).bind λ y=>Lh x y):=OW eU (Qo λ _ _ _ _=>.int _) ha hb
def YX (ha:DE X WX c a f)(hb:DE X WX c b g):DE X WX c (.BinOp a .Pow b pos) (λ ρ=>(f ρ).bind λ x=>(g ρ).bind λ y=>WW x y):=OW mY (Qo λ _ _ _ _=>.int _) ha hb
abbrev fY (n:Nat)(x y:D):M D:=if OS x<=n/\Cq x=true/\Cq y=true then .ok (.bl (Bl x y)) else .bad
abbrev Yd (n:Nat)(x y:D):M D:=if OS x<=n/\Cq x=true/\Cq y=true then .ok (.bl (!Bl x y)) else .bad
def YY {n:Nat}(hu:X.A.units+n<cLine):VC X.K WX (fX X.K X.A false) (fY n):=by
 intro P H x y v w Q ht hx hy h;unfold fY at h;by_cases hd:OS x<=n/\Cq x=true/\Cq y=true
 ·rw[if_pos hd] at h;exact⟨x,y,hx.mono Ea,hy.mono Ea,by omega,hd.2.1,hd.2.2,h _ H (Ad.refl H) (.bl _)⟩
 ·rw[if_neg hd] at h;exact h.elim
def oB {n:Nat}(hu:X.A.units+n<cLine):VC X.K WX (fX X.K X.A true) (Yd n):=by
 intro P H x y v w Q ht hx hy h;unfold Yd at h;by_cases hd:OS x<=n/\Cq x=true/\Cq y=true
 ·rw[if_pos hd] at h;exact⟨x,y,hx.mono Ea,hy.mono Ea,by omega,hd.2.1,hd.2.2,h _ H (Ad.refl H) (.bl _)⟩
 ·rw[if_neg hd] at h;exact h.elim
def YZ {n:Nat}(hu:X.A.units+n<cLine)(ha:DE X WX c a f)(hb:DE X WX c b g):DE X WX c (.Compare a [.Eq] [b] pos) (λ ρ=>(f ρ).bind λ x=>(g ρ).bind λ y=>fY n x y):=YW YU (YY hu) ha hb (IG _)
abbrev Bq:D->Bool
 | .AL=>true
 |_=>false
def BX.wU {K:zr}{H:Hp}{v:V}{d:D}(h:BX K H v d):decide (v=.AL)=Bq d:=by
 cases h<;>simp[Bq]
def Ul {j pos'}(ha:DE X WX c a f):DE X WX c (.Compare a [.Is] [.Constant .none j pos'] pos) (λ ρ=>(f ρ).bind λ x=>.ok (.bl (Bq x))):=by
 obtain⟨ta,a1,a2⟩:=ha;refine⟨_,mJ (Yl a1),λ P0 P σ H Q ρ E h=>?_⟩;dsimp only at h;refine a2 P0 P σ H _ ρ E ?_;cases e:f ρ with
 |bad|ex x=>rw[e] at h;exact h
 |ok x=>rw[e] at h;exact λ v H1 s1 hv=>h _ H1 s1 (by rw[hv.wU];exact .bl _)
abbrev fZ (x y:D):M D:=match x,y with
 | .tup ds,.int i| .lst ds,.int i=>(match RS ds i with|some d=>.ok d|none=>.bad)
 |_,_=>.bad
def Ah.RS {K:zr}{H:Hp}{xs:List V}{ds:List D}{i:Int}{d:D}(h:Ah K H xs ds)(e:L2.RS ds i=some d):∃v,L2.RS xs i=some v/\BX K H v d:=by
 unfold L2.RS at e ⊢;rw[<-h.length] at e;cases q:ON xs.length i with
 |none=>rw[q] at e;cases e
 |some j =>
  rw[q] at e;exact h.get e
def D7.AY {K:zr}{H:Hp}{P:Addr->Prop}{a:Addr}{xs:List V}(h:D7 K (del H P) a xs):D7 K H a xs:=Ea.seq h
def EC.AY {K:zr}{H:Hp}{P:Addr->Prop}{a:Addr}{xs:List V}(h:EC K (del H P) a xs):EC K H a xs:=Ea.wR h
def GC:VC X.K WX (λ x y H Q=>nK X.K x y H Q\/nL X.K x y H Q) fZ:=by
 intro P H x y v w Q ht hx hy h;unfold fZ at h;split at h
 ·rename_i ds i;split at h
  ·rename_i d e;cases hy;cases hx with
   |tup hs hl =>
    obtain⟨u,h1,h2⟩:=hl.RS e;exact .inr ⟨_,_,i,u,rfl,rfl,EC.of (An hs).2,h1,h _ H (Ad.refl H) h2⟩
  ·exact h.elim
 ·rename_i ds i;split at h
  ·rename_i d e;cases hy;cases hx with
   |lst hs hl =>
    obtain⟨u,h1,h2⟩:=hl.RS e;exact .inl ⟨_,_,i,u,rfl,rfl,hs.AY,h1,h _ H (Ad.refl H) h2⟩
  ·exact h.elim
 ·exact h.elim
def A6:DA X WX c [] (λ _=>.ok []):=⟨_,Cn,λ P0 P σ H Q ρ E h=>h [] H (Ad.refl H) .nil,λ ρ ds h=>by cases h;rfl⟩
def A2 {e:Expr}{es:List Expr}{f:Ae->M D}{fs:Ae->M (List D)}(he:DE X WX c e f)(hr:DA X WX c es fs)(hs: ~~~(starEach (e::es) X.env=(false,eval e X.env)::starEach es X.env)):
 DA X WX c (e::es) (λ ρ=>(f ρ).bind λ d=>(fs ρ).bind λ ds=>.ok (d::ds)):=by
 obtain⟨te,e1,e2⟩:=he;obtain⟨tr,r1,r2,r3⟩:=hr;refine⟨_,Bn e1 r1 hs,λ P0 P σ H Q ρ E h=>?_,λ ρ ds h=>?_⟩
 rotate_left
 ·dsimp only at h;cases q:f ρ with
  |bad|ex x=>rw[q] at h;cases h
  |ok x =>
   rw[q] at h;cases q2:fs ρ with
   |bad|ex x=>rw[q2] at h;cases h
   |ok xs =>
    rw[q2] at h;cases h;rw[z7,z7,r3 ρ xs q2]
 dsimp only at h;refine e2 P0 P σ H _ ρ E ?_;cases q:f ρ with
 |bad|ex x=>rw[q] at h;exact h
 |ok x =>
  rw[q] at h;intro v H1 s1 hv;refine r2 P0 P σ H1 _ ρ (E.same s1) ?_;cases q2:fs ρ with
  |bad=>rw[q2] at h;exact h
  |ex y=>rw[q2] at h;exact gA.same (m:=.ex y) h s1
  |ok ds =>
   rw[q2] at h;exact λ vs H2 s2 a5=>h _ H2 (s1.trans s2) (.cons (hv.mono s2.del) a5)
def Jn {H:Hp}{P:Addr->Prop}{p:Addr}{o:HO}(hn:H p=none)(ht:∀a,P a->DB H a):del (upd H p o) P p=some o:=by
 rw[Au λ z=>(ht p z).no hn];exact Ap
def AD {es:List Expr}{fs:Ae->M (List D)}{x1}(ha:DA X WX c es fs)(hz:es.length<=1000:=by decide):DE X WX c (.Tuple es x1 pos) (λ ρ=>(fs ρ).bind λ ds=>if ds.length<=1000 then .ok (.tup ds) else .bad):=by
 obtain⟨ta,a1,a2,a3⟩:=ha;refine⟨_,YD a1,λ P0 P σ H Q ρ E h=>?_⟩;dsimp only at h;refine a2 P0 P σ H _ ρ E ?_;cases q:fs ρ with
 |bad|ex y=>rw[q] at h;exact h
 |ok ds =>
  rw[q] at h;simp only[M.A9] at h;by_cases hd:ds.length<=1000
  ·rw[if_pos hd] at h;intro vs H1 s1 a5;refine⟨zam (AA (by rw[a5.length];exact hd)),λ p hp=>h _ _ (s1.trans (AN hp _)) (.tup (Jn hp λ a q=>(E.same s1).sT c a q) (a5.mono (AN hp _).del))⟩
  ·rw[if_neg hd] at h;exact h.elim
def EO {es:List Expr}{fs:Ae->M (List D)}(ha:DA X WX c es fs):DE X WX c (.List es pos) (λ ρ=>(fs ρ).bind λ ds=>if ds.length<=1000 then .ok (.lst ds) else .bad):=by
 obtain⟨ta,a1,a2,a3⟩:=ha;refine⟨_,Q9 a1,λ P0 P σ H Q ρ E h=>?_⟩;dsimp only at h;refine a2 P0 P σ H _ ρ E ?_;cases q:fs ρ with
 |bad|ex y=>rw[q] at h;exact h
 |ok ds =>
  rw[q] at h;simp only[M.A9] at h;by_cases hd:ds.length<=1000
  ·rw[if_pos hd] at h;intro vs H1 s1 a5;refine⟨zam (AA (by rw[a5.length];exact hd)),λ p hp=>h _ _ (s1.trans (AN hp _)) (.lst (.of (Jn hp λ a q=>(E.same s1).sT c a q)) (a5.mono (AN hp _).del))⟩
  ·rw[if_neg hd] at h;exact h.elim
end
abbrev OX (d:D):M Bool:=match d with | .bl b=>.ok b | _=>.bad
section
variable {X:Cx}{WX:Str->Hp->Prop}{c:Bool}{P0:Eb}{P:Addr->Prop}{H:Hp}{σ:St}{ρ:Ae}{a b e:Expr}{f g:Ae->M D}{ft gt:Ae->M Bool}{pos:Pos}
def sY {WX:Str->Hp->Prop}{P:Addr->Prop}{K:zr}{H:Hp}{Q:Bool->Hp->Prop}{m:M D}(h:gT WX H Q (m.bind OX)):gV K WX P H (λ x H'=>∃k,x=.bl k/\Q k H') m:=by
 cases m with
 |bad|ex x=>exact h
 |ok d =>
  intro v H' s hv;simp only[M.A9] at h;unfold OX at h;split at h
  ·rename_i b;exact⟨b,hv.MQ,h H' s⟩
  ·exact h.elim
def Fu {op:CmpOp}{r:R2}{aQ:D->D->M D}(ho:Gv X (compareOp op) r)(hr:VC X.K WX r aQ)(ha:DE X WX c a f)(hb:DE X WX c b g)(hm:behindInMarks op b=false):DT X WX (.Compare a [op] [b] pos) (λ ρ=>((f ρ).bind λ x=>(g ρ).bind λ y=>aQ x y).bind OX):=by
 obtain⟨ta,a1,a2⟩:=ha;obtain⟨tb,b1,b2⟩:=hb;exact⟨_,eW ho a1 b1 hm,λ P0 P σ H Q ρ E h=>S6 a2 b2 hr E (sY h)⟩
def sZ (ha:DE X WX c a f)(hb:DE X WX c b g):DT X WX (.Compare a [.Lt] [b] pos) (λ ρ=>((f ρ).bind λ x=>(g ρ).bind λ y=>xS x y).bind OX):=Fu kQ (M3 λ _ _ _ _=>.bl _) ha hb (IG _)
def VD (ha:DE X WX c a f)(hb:DE X WX c b g):DT X WX (.Compare a [.Gt] [b] pos) (λ ρ=>((f ρ).bind λ x=>(g ρ).bind λ y=>xT x y).bind OX):=Fu rY (M3 λ _ _ _ _=>.bl _) ha hb (IG _)
def Li {n:Nat}(hu:X.A.units+n<cLine)(ha:DE X WX c a f)(hb:DE X WX c b g):DT X WX (.Compare a [.Eq] [b] pos) (λ ρ=>((f ρ).bind λ x=>(g ρ).bind λ y=>fY n x y).bind OX):=Fu YU (YY hu) ha hb (IG _)
def Io {n:Nat}(hu:X.A.units+n<cLine)(ha:DE X WX c a f)(hb:DE X WX c b g):DT X WX (.Compare a [.NotEq] [b] pos) (λ ρ=>((f ρ).bind λ x=>(g ρ).bind λ y=>Yd n x y).bind OX):=Fu nZ (oB hu) ha hb (IG _)
def GD {j pos'}(ha:DE X WX c a f):DT X WX (.Compare a [.Is] [.Constant .none j pos'] pos) (λ ρ=>(f ρ).bind λ x=>.ok (Bq x)):=by
 obtain⟨ta,a1,a2⟩:=ha;refine⟨_,Ym (Yl a1),λ P0 P σ H Q ρ E h=>?_⟩;dsimp only at h;refine a2 P0 P σ H _ ρ E ?_;cases e:f ρ with
 |bad|ex x=>rw[e] at h;exact h
 |ok x=>rw[e] at h;exact λ v H1 s1 hv=>⟨_,rfl,by rw[hv.wU];exact h H1 s1⟩
def HD {j pos'}(ha:DE X WX c a f):DT X WX (.Compare a [.IsNot] [.Constant .none j pos'] pos) (λ ρ=>(f ρ).bind λ x=>.ok (!Bq x)):=by
 obtain⟨ta,a1,a2⟩:=ha;refine⟨_,Ym (eN a1),λ P0 P σ H Q ρ E h=>?_⟩;dsimp only at h;refine a2 P0 P σ H _ ρ E ?_;cases e:f ρ with
 |bad|ex x=>rw[e] at h;exact h
 |ok x=>rw[e] at h;exact λ v H1 s1 hv=>⟨_,rfl,by rw[hv.wU];exact h H1 s1⟩
def CB (ha:DT X WX a ft):DT X WX (.UnaryOp .Not a pos) (λ ρ=>(ft ρ).bind λ b=>.ok (!b)):=by
 obtain⟨ta,a1,a2⟩:=ha;refine⟨_,mK a1,λ P0 P σ H Q ρ E h=>?_⟩;dsimp only at h;refine a2 P0 P σ H _ ρ E ?_;cases e:ft ρ with
 |bad|ex x=>rw[e] at h;exact h
 |ok x=>rw[e] at h;exact λ H1 s1=>h H1 s1
def Fv (ha:DT X WX a ft):DW X WX (.BoolOp .And [a] pos) ft:=let ⟨ta,a1,a2⟩:=ha;⟨_,pw_and1 a1,a2⟩
def Dc (ha:DT X WX a ft):DW X WX (.BoolOp .Or [a] pos) ft:=let ⟨ta,a1,a2⟩:=ha;⟨_,pw_or1 a1,a2⟩
def Fw {rest:List Expr}(ha:DT X WX a ft)(hb:DW X WX (.BoolOp .And (b::rest) pos) gt):DW X WX (.BoolOp .And (a::b::rest) pos) (λ ρ=>(ft ρ).bind λ k=>if k=true then gt ρ else .ok false):=by
 obtain⟨ta,a1,a2⟩:=ha;obtain⟨tb,b1,b2⟩:=hb;refine⟨_,pw_and a1 b1,λ P0 P σ H Q ρ E h=>?_⟩;dsimp only at h;refine a2 P0 P σ H _ ρ E ?_;cases e:ft ρ with
 |bad|ex x=>rw[e] at h;exact h
 |ok k =>
  rw[e] at h;intro H1 s1;cases k with
  |true =>
   simp only[M.A9,if_true] at h ⊢;exact b2 P0 P σ H1 _ ρ (E.same s1) (h.same s1)
  |false =>
   simp only[M.A9,zR,if_false] at h ⊢;exact h H1 s1
def Ec {rest:List Expr}(ha:DT X WX a ft)(hb:DW X WX (.BoolOp .Or (b::rest) pos) gt):DW X WX (.BoolOp .Or (a::b::rest) pos) (λ ρ=>(ft ρ).bind λ k=>if k=true then .ok true else gt ρ):=by
 obtain⟨ta,a1,a2⟩:=ha;obtain⟨tb,b1,b2⟩:=hb;refine⟨_,pw_or a1 b1,λ P0 P σ H Q ρ E h=>?_⟩;dsimp only at h;refine a2 P0 P σ H _ ρ E ?_;cases e:ft ρ with
 |bad|ex x=>rw[e] at h;exact h
 |ok k =>
  rw[e] at h;intro H1 s1;cases k with
  |true =>
   simp only[M.A9,if_true] at h ⊢;exact h H1 s1
  |false =>
   simp only[M.A9,zR,if_false] at h ⊢;exact b2 P0 P σ H1 _ ρ (E.same s1) (h.same s1)
def MR {op}(ha:DE X WX c a f):DE X WX c (.BoolOp op [a] pos) f:=let ⟨ta,a1,a2⟩:=ha;⟨_,mL a1,a2⟩
def MS {rest:List Expr}(ha:DE X WX c a f)(hb:DE X WX c (.BoolOp .And (b::rest) pos) g):DE X WX c (.BoolOp .And (a::b::rest) pos) (λ ρ=>((f ρ).bind OX).bind λ k=>if k=true then g ρ else .ok (.bl false)):=by
 obtain⟨ta,a1,a2⟩:=ha;obtain⟨tb,b1,b2⟩:=hb;refine⟨_,mM a1 b1,λ P0 P σ H Q ρ E h=>?_⟩;dsimp only at h;refine a2 P0 P σ H _ ρ E ?_;cases e:f ρ with
 |bad|ex x=>rw[e] at h;exact h
 |ok d =>
  rw[e] at h;simp only[M.A9] at h;unfold OX at h;split at h
  ·rename_i k;intro v H1 s1 hv;refine⟨k,hv.MQ,?_⟩;cases k with
   |true =>
    simp only[M.A9,if_true] at h ⊢;exact b2 P0 P σ H1 _ ρ (E.same s1) (h.same s1)
   |false =>
    simp only[M.A9,zR,if_false] at h ⊢;exact h _ H1 s1 (.bl _)
  ·exact h.elim
def tD {rest:List Expr}(ha:DE X WX c a f)(hb:DE X WX c (.BoolOp .Or (b::rest) pos) g):DE X WX c (.BoolOp .Or (a::b::rest) pos) (λ ρ=>((f ρ).bind OX).bind λ k=>if k=true then .ok (.bl true) else g ρ):=by
 obtain⟨ta,a1,a2⟩:=ha;obtain⟨tb,b1,b2⟩:=hb;refine⟨_,rK a1 b1,λ P0 P σ H Q ρ E h=>?_⟩;dsimp only at h;refine a2 P0 P σ H _ ρ E ?_;cases e:f ρ with
 |bad|ex x=>rw[e] at h;exact h
 |ok d =>
  rw[e] at h;simp only[M.A9] at h;unfold OX at h;split at h
  ·rename_i k;intro v H1 s1 hv;refine⟨k,hv.MQ,?_⟩;cases k with
   |true =>
    simp only[M.A9,if_true] at h ⊢;exact h _ H1 s1 (.bl _)
   |false =>
    simp only[M.A9,zR,if_false] at h ⊢;exact b2 P0 P σ H1 _ ρ (E.same s1) (h.same s1)
  ·exact h.elim
def Z0 (ha:DE X WX c a f):DE X WX c (.UnaryOp .Not a pos) (λ ρ=>((f ρ).bind OX).bind λ k=>.ok (.bl (!k))):=by
 obtain⟨ta,a1,a2⟩:=ha;refine⟨_,mN a1,λ P0 P σ H Q ρ E h=>?_⟩;dsimp only at h;refine a2 P0 P σ H _ ρ E ?_;cases e:f ρ with
 |bad|ex x=>rw[e] at h;exact h
 |ok d =>
  rw[e] at h;simp only[M.A9] at h;unfold OX at h;split at h
  ·rename_i k;exact λ v H1 s1 hv=>⟨k,hv.MQ,h _ H1 s1 (.bl _)⟩
  ·exact h.elim
def wV (ha:DE X WX c a f):DE X WX c (.UnaryOp .USub a pos) (λ ρ=>(f ρ).bind λ d=>match d with | .int i=>.ok (.int (-i)) | _=>.bad):=by
 obtain⟨ta,a1,a2⟩:=ha;refine⟨_,rV mZ a1,λ P0 P σ H Q ρ E h=>?_⟩;dsimp only at h;refine a2 P0 P σ H _ ρ E ?_;cases e:f ρ with
 |bad|ex x=>rw[e] at h;exact h
 |ok d =>
  rw[e] at h;simp only[M.A9] at h;split at h
  ·rename_i i;exact λ v H1 s1 hv=>⟨i,hv.int_inv,h _ H1 s1 (.int _)⟩
  ·exact h.elim
def WY {d:Expr}{h:Ae->M D}{op fc:CmpOp}{p q:Int->Int->Bool}(ho:Gv X (compareOp op) (eB λ i j=>.bl (p i j)))(bp:Gv X (compareOp fc) (eB λ i j=>.bl (q i j)))(ha:DE X WX c a f)(hb:DE X WX c b g)(hd:DE X WX c d h)
 (hm:lastMarks [op,fc] [b,d]=false:=by with_unfolding_all rfl):DE X WX c (.Compare a [op,fc] [b,d] pos) (λ ρ=>(f ρ).bind λ x=>(g ρ).bind λ y=>BD (λ i j=>if p i j=true then (h ρ).bind λ z=>BD (λ _ k=>.ok (.bl (q j k))) (.int 0) z else .ok (.bl false)) x y):=by
 obtain⟨ta,a1,a2⟩:=ha;obtain⟨tb,b1,b2⟩:=hb;obtain⟨td,d1,d2⟩:=hd;refine⟨_,Yz ho bp a1 b1 d1 hm,λ P0 P σ H Q ρ E hh=>?_⟩;dsimp only at hh;refine a2 P0 P σ H _ ρ E ?_;cases e:f ρ with
 |bad|ex x=>rw[e] at hh;exact hh
 |ok x =>
  rw[e] at hh;intro v H1 s1 hv;refine b2 P0 P σ H1 _ ρ (E.same s1) ?_;cases e2:g ρ with
  |bad=>rw[e2] at hh;exact hh
  |ex y=>rw[e2] at hh;exact gV.same (m:=.ex y) hh s1
  |ok y =>
   rw[e2] at hh;simp only[M.A9] at hh;unfold BD at hh;split at hh
   ·rename_i i j;intro w H2 s2 hw;refine⟨i,j,hv.int_inv,hw.int_inv,p i j,rfl,?_⟩;dsimp only at hh;by_cases hp:p i j=true
    ·rw[if_pos hp] at hh ⊢;refine d2 P0 P σ H2 _ ρ ((E.same s1).same s2) ?_;cases e3:h ρ with
     |bad=>rw[e3] at hh;exact hh
     |ex z=>rw[e3] at hh;exact gV.same (gV.same (m:=.ex z) hh s1) s2
     |ok z =>
      rw[e3] at hh;simp only[M.A9] at hh;cases z with
      |int k=>exact λ u H3 s3 hu=>⟨j,k,hw.int_inv,hu.int_inv,hh _ H3 ((s1.trans s2).trans s3) (.bl _)⟩
      |_=>exact hh.elim
    ·rw[if_neg hp] at hh ⊢;exact hh _ H2 (s1.trans s2) (.bl _)
   ·exact hh.elim
abbrev Ip (K:zr)(WX:Str->Hp->Prop)(r:List V->Hp->VK->Prop)(dF:List D->M D):Prop:=
 ∀(P:Addr->Prop) (H:Hp) (ds:List D) (vs:List V) (Q:VK),(∀a,P a->DB H a)->Ah K (del H P) vs ds->gV K WX P H Q (dF ds)->r vs H Q
variable {x:Str}{p:Pos}{es:List Expr}{fs:Ae->M (List D)}{id T:String}{r:List V->Hp->VK->Prop}{dF:List D->M D}
def Z3 {ta:TA}(ha:∀P0 P σ H Q ρ,Am X.K P0 P H σ ρ->gA X.K WX (Lv c P0 P) H Q (fs ρ)->ta σ H Q)(hr:Ip X.K WX r dF){Q:VK}(E:Am X.K P0 P H σ ρ)(h:gV X.K WX (Lv c P0 P) H Q ((fs ρ).bind dF)):wK r ta σ H Q:=by
 refine ha P0 P σ H _ ρ E ?_;cases e:fs ρ with
 |bad|ex x=>rw[e] at h;exact h
 |ok ds =>
  rw[e] at h;exact λ vs H1 s1 a5=>hr _ H1 ds vs Q (λ a q=>(E.same s1).sT c a q) a5 (h.same s1)
def GF (hc:F5 X (.builtin id) r)(hr:Ip X.K WX r dF)(hg:Gl X x)(hm:X.mg x=none)(hv:bootBuiltins x=some (.builtin id))(ha:DA X WX c (e::es) fs)(hn:x ≠ "__name__" := by decide)(aS:(x==("__debug__" : Str))=false:=by decide)(he: ~~~(starEach (e::es) X.env=(false,eval e X.env)::starEach es X.env))(ao: ~~~((backTo pos (starEach es X.env)).any (·.1)=false)):DE X WX c (.Call (.Name x p) (e::es) [] pos) (λ ρ=>(fs ρ).bind dF):=by
 obtain⟨ta,a1,a2,a3⟩:=ha;exact⟨_,RN hc hg hm hv a1 hn aS he ao,λ P0 P σ H Q ρ E h=>Z3 a2 hr E h⟩
def OY (hc:F5 X (.type T) r)(hr:Ip X.K WX r dF)(hg:Gl X x)(hm:X.mg x=none)(hv:bootBuiltins x=some (.type T))(ha:DA X WX c (e::es) fs)(hn:x ≠ "__name__" := by decide)(aS:(x==("__debug__" : Str))=false:=by decide)(he: ~~~(starEach (e::es) X.env=(false,eval e X.env)::starEach es X.env))(ao: ~~~((backTo pos (starEach es X.env)).any (·.1)=false)):DE X WX c (.Call (.Name x p) (e::es) [] pos) (λ ρ=>(fs ρ).bind dF):=by
 obtain⟨ta,a1,a2,a3⟩:=ha;exact⟨_,OM hc hg hm hv a1 hn aS he ao,λ P0 P σ H Q ρ E h=>Z3 a2 hr E h⟩
abbrev WZ (ds:List D):M D:=match ds with
 |[.lst xs]|[.tup xs]=>.ok (.int xs.length)
 |_=>.bad
def Ah.one {K:zr}{H:Hp}{vs:List V}{d:D}(h:Ah K H vs [d]):∃v,vs=[v]/\BX K H v d:=by
 cases h with
 |cons h t=>cases t;exact⟨_,rfl,h⟩
def Ah.two {K:zr}{H:Hp}{vs:List V}{d e:D}(h:Ah K H vs [d,e]):∃v w,vs=[v,w]/\BX K H v d/\BX K H w e:=by
 cases h with
 |cons h t =>
  obtain⟨w,rfl,hw⟩:=t.one;exact⟨_,w,rfl,h,hw⟩
def oC:Ip X.K WX (λ xs H Q=>∃p ys,xs=[.ref p]/\(D7 X.K H p ys\/EC X.K H p ys)/\Q (.int ys.length) H) WZ:=by
 intro P H ds vs Q ht hl h;unfold WZ at h;split at h
 ·obtain⟨v,rfl,hv⟩:=hl.one;cases hv with
  |lst hs hh=>exact⟨_,_,rfl,.inl hs.AY,by rw[hh.length];exact h _ H (Ad.refl H) (.int _)⟩
 ·obtain⟨v,rfl,hv⟩:=hl.one;cases hv with
  |tup hs hh=>exact⟨_,_,rfl,.inr (EC.of (An hs).2),by rw[hh.length];exact h _ H (Ad.refl H) (.int _)⟩
 ·exact h.elim
def Dd (hg:Gl X "len")(hm:X.mg "len" = none)(ha:DE X WX c e f)(hs: ~~~(starEach [e] X.env=[(false,eval e X.env)])):DE X WX c (.Call (.Name "len" p) [e] [] pos) (λ ρ=>((f ρ).bind λ d=>(M.ok []).bind λ ds=>.ok (d::ds)).bind WZ):=
 GF Qe oC hg hm PySem.boot_len (A2 ha A6 hs) (he:=hs)
abbrev Um (ds:List D):M D:=match ds with
 |[.lst xs]|[.tup xs]=>.ok (.tup xs)
 |_=>.bad
def Z4:Ip X.K WX (λ xs H Q=>∃p ys,xs=[.ref p]/\((D7 X.K H p ys/\∀l,H l=none->Q (.ref l) (upd H l (.tup ys)))\/(EC X.K H p ys/\Q (.ref p) H))) Um:=by
 intro P H ds vs Q ht hl h;unfold Um at h;split at h
 ·obtain⟨v,rfl,hv⟩:=hl.one;cases hv with
  |lst hs hh=>exact⟨_,_,rfl,.inl ⟨hs.AY,λ l hn=>h _ _ (AN hn _) (.tup (Jn hn ht) (hh.mono (AN hn _).del))⟩⟩
 ·obtain⟨v,rfl,hv⟩:=hl.one;cases hv with
  |tup hs hh=>exact⟨_,_,rfl,.inr ⟨EC.of (An hs).2,h _ H (Ad.refl H) (.tup hs hh)⟩⟩
 ·exact h.elim
def Z5 (hg:Gl X "tuple")(hm:X.mg "tuple" = none)(ha:DE X WX c e f)(hb:bootBuiltins "tuple" = some (.type "tuple"):=by decide +kernel)(hs: ~~~(starEach [e] X.env=[(false,eval e X.env)])):DE X WX c (.Call (.Name "tuple" p) [e] [] pos) (λ ρ=>((f ρ).bind λ d=>(M.ok []).bind λ ds=>.ok (d::ds)).bind Um):=
 OY Ob Z4 hg hm hb (A2 ha A6 hs) (he:=hs)
abbrev kX:D->String
 | .AL => "NoneType"
 | .bl _ => "bool"
 | .int _ => "int"
 | .str _ => "str"
 | .tup _ => "tuple"
 | .lst _ => "list"
 | .F3 _ => "NoneType"
 | .Bo _ _ _ => "dict"
 | .ins _ _ _ => "NoneType"
abbrev EE (T:String)(d:D):Bool:=(kX d==T)||(kX d == "bool" && T == "int")
abbrev Jo (T:String)(d:D):M D:=match d with
 | .F3 _| .ins _ _ _=>.bad
 |d=>.ok (.bl (EE T d))
abbrev tE:D->Bool
 | .F3 _| .ins _ _ _=>true
 |_=>false
def Z6 {T:String}{d:D}(h:tE d=false):Jo T d=.ok (.bl (EE T d)):=by cases d<;>first | rfl | cases h
abbrev wW (K:zr)(T:String):List V->Hp->VK->Prop:=λ xs H Q=>∃x d,xs=[x,.ty T]/\BX K H x d/\tE d=false/\Q (.bl (EE T d)) H
def Z7 {T:String}(hk:∀d:D,PySem.W.kitOne X.K (.type (kX d)) (.type T)=some (EE T d)):F5 X (.builtin "isinstance") (wW X.K T):=by
 intro pins s σ H xs us Q I r h;obtain⟨x,d,rfl,hd,hx,q⟩:=h;obtain⟨u,w,rfl,rx,bg⟩:=r.two;cases bg;have fin:∀tk,EP X pins σ Q (.bool (EE T d)) {s with toks:=tk}:=λ tk=>⟨.bl _,H,I.tok tk,rfl,q⟩;have e:=hk d;cases hd with
 |F3 _ _|ins _ _ _=>cases hx
 |Vw hs hl =>
  cases rx;obtain⟨⟨o,h1,h2⟩,_,_⟩:=Ui I (.inl ⟨_,hs⟩);exact zbj PySem.W.kitx_dict I.Mz ⟨o,h1,h2⟩ e (λ z=>nomatch z) fin
 |Vx hs hl =>
  cases rx;obtain⟨⟨o,h1,h2⟩,_,_⟩:=Ui I (.inr ⟨_,hs⟩);exact zbj PySem.W.kitx_dict I.Mz ⟨o,h1,h2⟩ e (λ z=>nomatch z) fin
 |AL=>cases rx;exact zbj PySem.W.kitx_none I.Mz zbv e (λ z=>nomatch z) fin
 |bl b=>cases rx;exact zbj PySem.W.kitx_bool I.Mz zbv e (λ z=>nomatch z) fin
 |int b=>obtain⟨t,rfl⟩:=rx;exact zbj PySem.W.kitx_int I.Mz zbv e (λ z=>nomatch z) fin
 |str b=>obtain⟨t,rfl⟩:=rx;exact zbj PySem.W.kitx_str I.Mz zbv e (λ z=>nomatch z) fin
 |tup hs hl =>
  cases rx;obtain⟨_,_,⟨o,h1,h2,_⟩,_⟩:=I.tuple (.of hs);exact zbj PySem.W.kitx_tuple I.Mz ⟨o,h1,h2⟩ e (λ z=>nomatch z) fin
 |lst hs hl =>
  cases rx;obtain⟨_,_,⟨o,n,h1,h2,_⟩,_⟩:=I.list hs;exact zbj PySem.W.kitx_list I.Mz ⟨o,h1,h2⟩ e (λ z=>nomatch z) fin
def EQ {T:String}{x2:Str}{p2:Pos}(hk:∀d:D,PySem.W.kitOne X.K (.type (kX d)) (.type T)=some (EE T d))(hg:Gl X "isinstance")(hm:X.mg "isinstance" = none)(jl:Gl X x2)(bd:X.mg x2=none)(va:bootBuiltins x2=some (.type T))(ha:DE X WX c e f)(hb:bootBuiltins "isinstance" = some (.builtin "isinstance"):=by decide +kernel)(aD:x2 ≠ "__name__" := by decide)(nz:(x2==("__debug__" : Str))=false:=by decide)(hs: ~~~(starEach [e,.Name x2 p2] X.env=(false,eval e X.env)::starEach [.Name x2 p2] X.env))(aO: ~~~(starEach [.Name x2 p2] X.env=[(false,eval (.Name x2 p2) X.env)]))(ao: ~~~((backTo pos (starEach [.Name x2 p2] X.env)).any (·.1)=false)):
 DE X WX c (.Call (.Name "isinstance" p) [e,.Name x2 p2] [] pos) (λ ρ=>(f ρ).bind λ d=>Jo T d):=by
 obtain⟨ta,a1,a2⟩:=ha;refine⟨_,RN (Z7 hk) hg hm hb (Bn a1 (Bn (eM (v:=.ty T) jl bd va rfl aD nz) Cn aO) hs) (by decide) (by decide) hs ao,λ P0 P σ H Q ρ E h=>?_⟩;dsimp only at h;refine a2 P0 P σ H _ ρ E ?_;refine Yc h λ d h=>?_;cases hx:tE d with
 |true=>cases d<;>first|exact h.elim|cases hx
 |false =>
  rw[Z6 hx] at h;exact λ v H1 s1 hv=>⟨v,d,rfl,hv.mono Ea,hx,h _ H1 s1 (.bl _)⟩
def Fx (K:zr)(d:D):PySem.W.kitOne K (.type (kX d)) (.type "tuple")=some (EE "tuple" d):=by cases d<;>rfl
def OZ (K:zr)(d:D):PySem.W.kitOne K (.type (kX d)) (.type "list")=some (EE "list" d):=by cases d<;>rfl
def P5 (K:zr)(d:D):PySem.W.kitOne K (.type (kX d)) (.type "bool")=some (EE "bool" d):=by cases d<;>rfl
def S7 (K:zr)(d:D):PySem.W.kitOne K (.type (kX d)) (.type "int")=some (EE "int" d):=by cases d<;>rfl
abbrev qO (lo hi:Option Int)(d:D):M D:=match d with
 | .lst ds=>.ok (.lst ((ds.drop (HT.ME ds.length 0 lo)).take (HT.ME ds.length ds.length hi-HT.ME ds.length 0 lo)))
 |_=>.bad
abbrev DO (X:Cx)(WX:Str->Hp->Prop)(c:Bool)(e:Option Expr)(f:Ae->M (Option Int)):Prop:=
 ∃t,PO X e t/\∀P0 P σ H Q ρ,Am X.K P0 P H σ ρ->(match f ρ with | .ok o=>∀H',Ad H H'->Q o H' | .ex x=>∀H',Ad H H'->WX x H' | .bad=>False)->t σ H Q
def VE:DO X WX c none (λ _=>.ok none):=⟨_,fB,λ P0 P σ H Q ρ E h=>h H (Ad.refl H)⟩
abbrev xU (d:D):M (Option Int):=match d with | .int i=>.ok (some i) | _=>.bad
def M4 (ha:DE X WX c e f):DO X WX c (some e) (λ ρ=>(f ρ).bind xU):=by
 obtain⟨ta,a1,a2⟩:=ha;refine⟨_,fC a1,λ P0 P σ H Q ρ E h=>?_⟩;dsimp only at h;refine a2 P0 P σ H _ ρ E ?_;cases q:f ρ with
 |bad|ex x=>rw[q] at h;exact h
 |ok d =>
  rw[q] at h;cases d with
  |int i=>exact λ v H1 s1 hv=>⟨i,hv.int_inv,h H1 s1⟩
  |_=>exact h.elim
end
inductive Out where
 |ret (d:D)|next (ρ:Ae)|brk (ρ:Ae)|cont (ρ:Ae)|CO (c:Cl)|F7 (t:OT) (ρ:Ae)
abbrev Tr (P0 P:Addr->Prop)(H:Hp)(P':Addr->Prop)(H':Hp):Prop:=Ad (del H P) (del H' P')/\∀a,P0 a->H' a=H a
def Tr.refl {P0 P:Addr->Prop}{H:Hp}:Tr P0 P H P H:=⟨Ad.refl _,λ _ _=>rfl⟩
def Tr.trans {P0 P P1 P2:Addr->Prop}{H H1 H2:Hp}(a:Tr P0 P H P1 H1)(b:Tr P0 P1 H1 P2 H2):Tr P0 P H P2 H2:=⟨a.1.trans b.1,λ x h=>(b.2 x h).trans (a.2 x h)⟩
def Am.tr {K:zr}{P0:Eb}{P:Addr->Prop}{H H':Hp}{σ:St}{ρ:Ae}(E:Am K P0 P H σ ρ)(e:Ad H H'):Tr P0 P H P H':=
 ⟨e.del,λ a h=>by obtain⟨o,q,_⟩:=E.C8 a (E.sub a h);rw[e a o q,q]⟩
abbrev gS (K:zr)(WX:Str->Hp->Prop)(P0:Eb)(P:Addr->Prop)(H:Hp)(Z:Ends):M Out->Prop
 | .ok (.ret d)=>∀v H' P',Tr P0 P H P' H'->BX K (del H' P0) v d->Z.rt v H'
 | .ok (.next ρ)=>∀σ' H' P',Tr P0 P H P' H'->Am K P0 P' H' σ' ρ->Z.nx σ' H'
 | .ok (.brk ρ)=>∀σ' H' P',Tr P0 P H P' H'->Am K P0 P' H' σ' ρ->Z.bk σ' H'
 | .ok (.cont ρ)=>∀σ' H' P',Tr P0 P H P' H'->Am K P0 P' H' σ' ρ->Z.ct σ' H'
 | .ok (.CO c)=>∀v fp H' P',Tr P0 P H P' H'->(∀a,P0 a->P' a)->(∀a,P' a->DB H' a)->Dt K H' P' c v fp->(∀a∈fp,P' a/\¬ P0 a)->fp.Nodup->Z.rt v H'
 | .ok (.F7 t ρ)=>∀v fp σ' H' P',Tr P0 P H P' H'->Am K P0 P' H' σ' ρ->C7 K H' P' v t fp->fp.Nodup->(∀a∈fp,P' a/\¬ P0 a/\∀(j:Nat) c v' fq,ρ[j]?=some (some c)->σ'[j]?=some (some v')->Dt K H' P' c v' fq->a∉fq)->Z.rt v H'
 | .ex x=>∀H' P',Tr P0 P H P' H'->WX x H'
 | .bad=>False
def gS.tr {K:zr}{WX:Str->Hp->Prop}{P0:Eb}{P P':Addr->Prop}{H H':Hp}{Z:Ends}{m:M Out}(h:gS K WX P0 P H Z m)(t:Tr P0 P H P' H'):gS K WX P0 P' H' Z m:=by
 cases m with
 |bad=>exact h
 |ex x=>exact λ H2 P2 t2=>h H2 P2 (t.trans t2)
 |ok o =>
  cases o with
  |ret d=>exact λ v H2 P2 t2 hv=>h v H2 P2 (t.trans t2) hv
  |next ρ|brk ρ|cont ρ=>exact λ σ2 H2 P2 t2 hv=>h σ2 H2 P2 (t.trans t2) hv
  |CO c=>exact λ v fp H2 P2 t2=>h v fp H2 P2 (t.trans t2)
  |F7 c ρ=>exact λ v fp σ2 H2 P2 t2=>h v fp σ2 H2 P2 (t.trans t2)
abbrev DS (X:Cx)(WX:Str->Hp->Prop)(st:Stmt)(g:Ae->M Out):Prop:=
 ∃t,PS X st t/\∀P0 P σ H Z ρ,Am X.K P0 P H σ ρ->gS X.K WX P0 P H Z (g ρ)->t Z σ H
abbrev TU (X:Cx)(WX:Str->Hp->Prop)(st:List Stmt)(g:Ae->M Out):Prop:=
 ∃t,Vj X st t/\∀P0 P σ H Z ρ,Am X.K P0 P H σ ρ->gS X.K WX P0 P H Z (g ρ)->t Z σ H
abbrev Z8 (m:M Out)(k:Ae->M Out):M Out:=match m with
 | .ok (.next ρ)=>k ρ
 |m=>m
section
variable {X:Cx}{WX:Str->Hp->Prop}{c:Bool}{P0:Eb}{P:Addr->Prop}{H:Hp}{σ:St}{ρ:Ae}{a b e:Expr}{f g:Ae->M D}{ft gt:Ae->M Bool}{pos:Pos}{st:Stmt}{rest:List Stmt}{g1 g2:Ae->M Out}
def As:TU X WX [] (λ ρ=>.ok (.next ρ)):=⟨_,eO,λ P0 P σ H Z ρ E h=>h σ H P Tr.refl E⟩
def A5 (h:DS X WX st g1):TU X WX [st] g1:=let ⟨t,h1,h2⟩:=h;⟨_,eQ h1,h2⟩
def A3 (h:DS X WX st g1)(hr:TU X WX rest g2):TU X WX (st::rest) (λ ρ=>Z8 (g1 ρ) g2):=by
 obtain⟨t,h1,h2⟩:=h;obtain⟨u,r1,r2⟩:=hr;refine⟨_,Yn h1 r1,λ P0 P σ H Z ρ E h=>?_⟩;dsimp only at h;refine h2 P0 P σ H {Z with nx:=u Z} ρ E ?_;cases q:g1 ρ with
 |bad|ex x=>rw[q] at h;exact h
 |ok o =>
  rw[q] at h;cases o with
  |ret d|brk d|cont d|CO d|F7 d ρ2=>exact h
  |next ρ'=>exact λ σ' H' P' t E'=>r2 P0 P' σ' H' Z ρ' E' (gS.tr h t)
def Uo (ha:DE X WX false e f):DS X WX (.Return (some e) pos) (λ ρ=>(f ρ).bind λ d=>.ok (.ret d)):=by
 obtain⟨ta,a1,a2⟩:=ha;refine⟨_,U3 a1,λ P0 P σ H Z ρ E h=>?_⟩;dsimp only at h;refine a2 P0 P σ H _ ρ E ?_;cases q:f ρ with
 |bad=>rw[q] at h;exact h
 |ex x=>rw[q] at h;exact λ H' s=>h H' P (E.tr s)
 |ok d=>rw[q] at h;exact λ v H' s hv=>h v H' P (E.tr s) hv
def Ba {c:Expr}{sa sb:List Stmt}(hc:DT X WX c ft)(ha:TU X WX sa g1)(hb:TU X WX sb g2):DS X WX (.If c sa sb pos) (λ ρ=>(ft ρ).bind λ k=>if k=true then g1 ρ else g2 ρ):=by
 obtain⟨tc,c1,c2⟩:=hc;obtain⟨ta,a1,a2⟩:=ha;obtain⟨tb,b1,b2⟩:=hb;refine⟨_,rO c1 a1 b1,λ P0 P σ H Z ρ E h=>?_⟩;dsimp only at h;refine c2 P0 P σ H _ ρ E ?_;cases q:ft ρ with
 |bad=>rw[q] at h;exact h
 |ex x=>rw[q] at h;exact λ H' s=>h H' P (E.tr s)
 |ok k =>
  rw[q] at h;intro H1 s1;cases k with
  |true =>
   simp only[M.A9,if_true] at h ⊢;exact a2 P0 P σ H1 Z ρ (E.same s1) (h.tr (E.tr s1))
  |false =>
   simp only[M.A9,zR,if_false] at h ⊢;exact b2 P0 P σ H1 Z ρ (E.same s1) (h.tr (E.tr s1))
def get_set {α:Type}{l:List α}{i j:Nat}{x y:α}(h:(l.set i x)[j]?=some y):(i=j/\i<l.length/\x=y)\/(i≠j/\l[j]?=some y):=by
 by_cases e:i=j
 ·subst e;rw[List.getElem?_set_self'] at h;cases q:l[i]? with
  |none=>rw[q] at h;cases h
  |some z =>
   rw[q] at h;exact .inl ⟨rfl,(zG.mp q).1,by simpa using h⟩
 ·rw[zas e] at h;exact .inr ⟨e,h⟩
def Am.X0 {K:zr}(E:Am K P0 P H σ ρ){i:Nat}{v:V}{d:D}(hv:BX K (del H P) v d):Am K P0 P H (σ.set i (some v)) (ρ.set i (some (.val d))):=by
 have gs:∀ {j:Nat},i≠j->(σ.set i (some v))[j]?=σ[j]? :=λ h=>zas h;refine⟨E.sub,E.C8,λ j e h=>?_,λ j c h io=>?_,λ j k c c' u u' fp ag h1 h2 h3 h4 h5 h6 ae=>?_,by rw[zap,zap];exact E.len,λ j c n h hp=>?_⟩
 rotate_left 3
 ·rcases get_set h with ⟨rfl,hl,e1⟩|⟨ae,h⟩
  ·cases e1;cases hp
  ·rw[gs ae];exact E.pin j c n h hp
 ·rcases get_set h with ⟨rfl,hl,e1⟩|⟨ae,h⟩
  ·cases e1;exact⟨v,za3 (by rw[E.len];exact hl),hv⟩
  ·obtain⟨w,h1,h2⟩:=E.val j e h;exact⟨w,by rw[gs ae];exact h1,h2⟩
 ·rcases get_set h with ⟨rfl,hl,e1⟩|⟨ae,h⟩
  ·cases e1;cases io
  ·obtain⟨w,fp,h1,h2⟩:=E.ows j c h io;exact⟨w,fp,by rw[gs ae];exact h1,h2⟩
 ·rcases get_set h1 with ⟨rfl,hl,e1⟩|⟨bH,h1⟩
  ·cases e1;exact h5.elim
  ·rcases get_set h2 with ⟨rfl,hl,e1⟩|⟨aD,h2⟩
   ·cases e1;exact h6.elim
   ·rw[gs bH] at h3;rw[gs aD] at h4;exact E.apart j k c c' u u' fp ag h1 h2 h3 h4 h5 h6 ae
def Am.X1 {K:zr}(E:Am K P0 P H σ ρ){P':Addr->Prop}{H':Hp}{i:Nat}{v:V}{c:Cl}{fp:List Addr}(hs:∀a,P a->P' a)(ht:∀a,P' a->DB H' a)(sm:Ad (del H P) (del H' P'))
 (keep:∀(j:Nat) c' v' ag,i≠j->ρ[j]?=some (some c')->σ[j]?=some (some v')->Dt K H P c' v' ag->∀a∈ag,H' a=H a/\a∉fp)
 (new:Dt K H' P' c v fp) (hp:∀a∈fp,P' a/\¬ P0 a) (nd:fp.Nodup) (gf:∀n,OV c=some n->v=.ref (P0.g n):=by intro n z;cases z):Am K P0 P' H' (σ.set i (some v)) (ρ.set i (some c)):=by
 have gs:∀ {j:Nat},i≠j->(σ.set i (some v))[j]?=σ[j]? :=λ h=>zas h;refine⟨λ a h=>hs a (E.sub a h),ht,λ j e h=>?_,λ j c' h io=>?_,λ j k c1 c2 u u' az bJ h1 h2 h3 h4 h5 h6 ae=>?_,by rw[zap,zap];exact E.len,λ j c' n h hp=>?_⟩
 rotate_left 3
 ·rcases get_set h with ⟨rfl,hl,e1⟩|⟨ae,h⟩
  ·cases e1;rw[za3 (by rw[E.len];exact hl),gf n hp]
  ·rw[gs ae];exact E.pin j c' n h hp
 ·rcases get_set h with ⟨rfl,hl,e1⟩|⟨ae,h⟩
  ·cases e1;exact new.elim
  ·obtain⟨w,h1,h2⟩:=E.val j e h;exact⟨w,by rw[gs ae];exact h1,h2.mono sm⟩
 ·rcases get_set h with ⟨rfl,hl,e1⟩|⟨ae,h⟩
  ·cases e1;exact⟨v,fp,za3 (by rw[E.len];exact hl),new,hp,nd⟩
  ·obtain⟨w,fq,h1,h2,h3,h4⟩:=E.ows j c' h io;exact⟨w,fq,by rw[gs ae];exact h1,h2.move sm λ a ha=>(keep j c' w fq ae h h1 h2 a ha).1,λ a ha=>⟨hs a (h3 a ha).1,(h3 a ha).2⟩,h4⟩
 ·have back:∀(l:Nat) (d:Cl) (w:V) (fq:List Addr),i≠l->ρ[l]?=some (some d)->σ[l]?=some (some w)->Dt K H' P' d w fq->∃fr,Dt K H P d w fr/\fr=fq:=λ l d w fq hn hk sk ho=>by
   have io:Ih d=true:=by cases d<;>first|rfl|exact ho.elim
   obtain⟨w',bJ,s2,o2,_⟩:=E.ows l d hk io;rw[sk] at s2;cases s2;exact⟨bJ,o2,(o2.move sm λ a ha=>(keep l d w bJ hn hk sk o2 a ha).1).Cj ho⟩
  rcases get_set h1 with ⟨rfl,hl,e1⟩|⟨bH,h1⟩
  ·cases e1;rw[za3 (by rw[E.len];exact hl)] at h3;cases h3;rcases get_set h2 with ⟨e,_⟩|⟨aD,h2⟩
   ·exact (ae e).elim
   ·rw[gs aD] at h4;obtain⟨fr,o,rfl⟩:=back k c2 u' bJ aD h2 h4 h6;intro a ha hb;rw[new.Cj h5] at keep;exact (keep k c2 u' fr aD h2 h4 o a hb).2 ha
  ·rw[gs bH] at h3;obtain⟨fr,o,rfl⟩:=back j c1 u az bH h1 h3 h5;rcases get_set h2 with ⟨rfl,hl,e1⟩|⟨aD,h2⟩
   ·cases e1;rw[za3 (by rw[E.len];exact hl)] at h4;cases h4;intro a ha;rw[new.Cj h6] at keep;exact (keep j c1 u fr bH h1 h3 o a ha).2
   ·rw[gs aD] at h4;obtain⟨n4,o2,rfl⟩:=back k c2 u' bJ aD h2 h4 h6;exact E.apart j k c1 c2 u u' fr n4 h1 h2 h3 h4 o o2 ae
def Am.tF {K:zr}(E:Am K P0 P H σ ρ){P':Addr->Prop}{H':Hp}{i:Nat}{v:V}{c:Cl}{fp:List Addr}(hs:∀a,P0 a->P' a)(ht:∀a,P' a->DB H' a)(sm:Ad (del H P) (del H' P'))
 (keep:∀(j:Nat) c' v' ag,i≠j->ρ[j]?=some (some c')->σ[j]?=some (some v')->Dt K H P c' v' ag->∀a∈ag,H' a=H a/\a∉fp/\P' a)
 (new:Dt K H' P' c v fp) (hp:∀a∈fp,P' a/\¬ P0 a) (nd:fp.Nodup) (gf:∀n,OV c=some n->v=.ref (P0.g n):=by intro n z;cases z):Am K P0 P' H' (σ.set i (some v)) (ρ.set i (some c)):=by
 have gs:∀ {j:Nat},i≠j->(σ.set i (some v))[j]?=σ[j]? :=λ h=>zas h;refine⟨hs,ht,λ j e h=>?_,λ j c' h io=>?_,λ j k c1 c2 u u' az bJ h1 h2 h3 h4 h5 h6 ae=>?_,by rw[zap,zap];exact E.len,λ j c' n h hp=>?_⟩
 rotate_left 3
 ·rcases get_set h with ⟨rfl,hl,e1⟩|⟨ae,h⟩
  ·cases e1;rw[za3 (by rw[E.len];exact hl),gf n hp]
  ·rw[gs ae];exact E.pin j c' n h hp
 ·rcases get_set h with ⟨rfl,hl,e1⟩|⟨ae,h⟩
  ·cases e1;exact new.elim
  ·obtain⟨w,h1,h2⟩:=E.val j e h;exact⟨w,by rw[gs ae];exact h1,h2.mono sm⟩
 ·rcases get_set h with ⟨rfl,hl,e1⟩|⟨ae,h⟩
  ·cases e1;exact⟨v,fp,za3 (by rw[E.len];exact hl),new,hp,nd⟩
  ·obtain⟨w,fq,h1,h2,h3,h4⟩:=E.ows j c' h io;exact⟨w,fq,by rw[gs ae];exact h1,h2.move sm λ a ha=>(keep j c' w fq ae h h1 h2 a ha).1,λ a ha=>⟨(keep j c' w fq ae h h1 h2 a ha).2.2,(h3 a ha).2⟩,h4⟩
 ·have back:∀(l:Nat) (d:Cl) (w:V) (fq:List Addr),i≠l->ρ[l]?=some (some d)->σ[l]?=some (some w)->Dt K H' P' d w fq->∃fr,Dt K H P d w fr/\fr=fq:=λ l d w fq hn hk sk ho=>by
   have io:Ih d=true:=by cases d<;>first|rfl|exact ho.elim
   obtain⟨w',bJ,s2,o2,_⟩:=E.ows l d hk io;rw[sk] at s2;cases s2;exact⟨bJ,o2,(o2.move sm λ a ha=>(keep l d w bJ hn hk sk o2 a ha).1).Cj ho⟩
  rcases get_set h1 with ⟨rfl,hl,e1⟩|⟨bH,h1⟩
  ·cases e1;rw[za3 (by rw[E.len];exact hl)] at h3;cases h3;rcases get_set h2 with ⟨e,_⟩|⟨aD,h2⟩
   ·exact (ae e).elim
   ·rw[gs aD] at h4;obtain⟨fr,o,rfl⟩:=back k c2 u' bJ aD h2 h4 h6;intro a ha hb;rw[new.Cj h5] at keep;exact (keep k c2 u' fr aD h2 h4 o a hb).2.1 ha
  ·rw[gs bH] at h3;obtain⟨fr,o,rfl⟩:=back j c1 u az bH h1 h3 h5;rcases get_set h2 with ⟨rfl,hl,e1⟩|⟨aD,h2⟩
   ·cases e1;rw[za3 (by rw[E.len];exact hl)] at h4;cases h4;intro a ha;rw[new.Cj h6] at keep;exact (keep j c1 u fr bH h1 h3 o a ha).2.1
   ·rw[gs aD] at h4;obtain⟨n4,o2,rfl⟩:=back k c2 u' bJ aD h2 h4 h6;exact E.apart j k c1 c2 u u' fr n4 h1 h2 h3 h4 o o2 ae
def KJ {α:Type}:∀ {l:List α}{i:Nat}{x:α},l[i]?=some x->l.set i x=l
 |[],_,_,h=>by cases h
 |y::r,0,x,h=>by cases h;rfl
 |y::r,i+1,x,h=>by rw[z5,KJ (by simpa using h)]
def Am.mut {K:zr}(E:Am K P0 P H σ ρ){i p:Nat}{xs:List V}{ds jm:List D}(ho:ρ[i]?=some (some (.own ds)))(hs:σ[i]?=some (some (.ref p)))(pP:P p)(lx:¬ P0 p)(hx:Ah K (del H P) xs jm):
 Am K P0 P (upd H p (.lst xs)) σ (ρ.set i (some (.own jm)))/\Tr P0 P H P (upd H p (.lst xs)):=by
 have sd:del (upd H p (.lst xs)) P=del H P:=by
  funext b;by_cases hb:P b
  ·rw[D9 hb,D9 hb]
  ·rw[Au hb,Au hb,Ai (λ z=>hb (by rw[z];exact pP))]
 have sm:Ad (del H P) (del (upd H p (.lst xs)) P):=by rw[sd];exact Ad.refl _
 obtain⟨v,fp,s1,o1,_⟩:=E.ows i _ ho rfl;rw[hs] at s1;cases s1;have key:=E.X1 (P':=P) (H':=upd H p (.lst xs)) (i:=i) (v:=.ref p) (c:=.own jm) (fp:=[p]) (λ a h=>h) (λ a h=>?_) sm (λ j c' v' ag ae h1 h2 h3 a ha=>?_) ⟨p,xs,rfl,rfl,Ap,by rw[sd];exact hx⟩ (λ a ha=>by rw[zy.mp ha];exact⟨pP,lx⟩) (by simp)
 ·rw[KJ hs] at key;exact⟨key,sm,λ a h=>by rw[Ai (λ z=>lx (by rw[<-z];exact h))]⟩
 ·by_cases ha:a=p
  ·subst ha;exact DB.lst Ap
  ·unfold DB;rw[Ai ha];exact E.C8 a h
 ·obtain⟨p',d0,e,rfl,_⟩:=o1;cases e;have hn:a≠p:=λ z=>E.apart j i c' _ v' _ ag [p] h1 ho h2 hs h3 ⟨p,d0,rfl,rfl,by assumption⟩ (zac ae) a ha (by rw[z];exact zy.mpr rfl);exact⟨Ai hn,λ z=>hn (zy.mp z)⟩
def Am.grow {K:zr}(E:Am K P0 P H σ ρ){i p:Nat}{xs:List V}{ds:List D}{v:V}{d:D}(ho:ρ[i]?=some (some (.own ds)))(hs:σ[i]?=some (some (.ref p)))(hp:H p=some (.lst xs))(pP:P p)(lx:¬ P0 p)(hx:Ah K (del H P) xs ds)(hv:BX K (del H P) v d):
 Am K P0 P (upd H p (.lst (xs++[v]))) σ (ρ.set i (some (.own (ds++[d]))))/\Tr P0 P H P (upd H p (.lst (xs++[v]))):=E.mut ho hs pP lx (hx.snoc hv)
def AJ (i:Nat){x:Str}{pos':Pos}(hN:X.N.Nodup)(hi:X.N[i]?=some x)(hx:Loc X.env.scope x)(ha:DE X WX true e f)(hs: ~~~(swapsWith e (some (.Name x pos')) pos.line X.env=pure false))(hf:X.fn x=true\/X.env.scope.names.lookup x=some .local:=by first | exact .inl rfl | exact .inr rfl | assumption):
 DS X WX (.Assign [.Name x pos'] e pos) (λ ρ=>(f ρ).bind λ d=>.ok (.next (ρ.set i (some (.val d))))):=by
 obtain⟨ta,a1,a2⟩:=ha;refine⟨_,U4 hN hi hx a1 hs hf,λ P0 P σ H Z ρ E h=>?_⟩;dsimp only at h;refine a2 P0 P σ H _ ρ E ?_;cases q:f ρ with
 |bad=>rw[q] at h;exact h
 |ex x=>rw[q] at h;exact λ H' s=>h H' P (E.tr s)
 |ok d=>rw[q] at h;exact λ v H' s hv=>h _ H' P (E.tr s) ((E.same s).X0 hv)
def eC {K:zr}{WX:Str->Hp->Prop}{P0:Eb}{P:Addr->Prop}{H:Hp}{Z:Ends}{σ:St}{ρ:Ae}{α:Type}{m:M α}{k:α->M Out}{R:M α->Prop}(h:gS K WX P0 P H Z (m.bind k))(E:Am K P0 P H σ ρ)(hk:∀a,gS K WX P0 P H Z (k a)->R (.ok a))(hb:False->R .bad:=by exact λ h=>h)(hx:∀x,(∀H',Ad H H'->WX x H')->R (.ex x):=by exact λ _ h=>h):R m:=by
 cases m with
 |ok a=>exact hk a h
 |ex x=>exact hx x λ H' s=>h H' P (E.tr s)
 |bad=>exact hb h
abbrev X2 (i:Nat)(ρ:Ae)(m:M D):M Out:=match ρ[i]? with
 |some (some (.own ds))=>m.bind λ d=>if ds.length<1000 then .ok (.next (ρ.set i (some (.own (ds++[d]))))) else .bad
 |_=>.bad
def DY (i:Nat){x:Str}{p1 apos ad:Pos}(hv:PE X (.Name x p1) (LR i))(ha:DE X WX true e f)(hs: ~~~(starEach [e] X.env=[(false,eval e X.env)]))(bh: ~~~(swapsWith (.Call (.Attribute (.Name x p1) "append" apos) [e] [] ad) none pos.line X.env=pure false))(ar: ~~~(attributeBase (.Name x p1) "append" X.env (eval (.Name x p1) X.env)=eval (.Name x p1) X.env))(aE: ~~~(((backTo ad (starEach [e] X.env)).all (λ x => !x.1)&&(backToKw ad (keywordEach [] X.env)).all (λ x=>x.1.isSome)&&decide (([e]:List Expr).length+([]:List Keyword).length+(if ([]:List Keyword).isEmpty then 0 else 1)<30))=true))(au: ~~~((apos.endLine==ad.line)=true))(ak: ~~~((backTo ad (starEach [] X.env)).any (·.1)=false)):
 DS X WX (.Expr (.Call (.Attribute (.Name x p1) "append" apos) [e] [] ad) pos) (λ ρ=>X2 i ρ (f ρ)):=by
 obtain⟨ta,a1,a2⟩:=ha;refine⟨_,Fq (OO zba PySem.F.slot_list_append PySem.F.type_list_append KC hv (Bn a1 Cn hs) ar aE au hs ak) bh,λ P0 P σ H Z ρ E h=>?_⟩;dsimp only at h;unfold X2 at h;split at h
 ·rename_i ds e1;obtain⟨p,xs,h1,h2,h3,h4,h5⟩:=E.own i ds e1;refine⟨_,h1,.inl ⟨rfl,xs,.of h2⟩,?_⟩;refine a2 P0 P σ H _ ρ E ?_;refine eC h E λ d h=>?_;by_cases hl:ds.length<1000
  ·rw[if_pos hl] at h;intro v H1 s1 hv;have E1:=E.same s1;have ge:H1 p=some (.lst xs):=s1 _ _ h2;refine⟨p,xs,v,rfl,rfl,ge,AA (by rw[h5.length];omega),?_⟩;obtain⟨E2,t2⟩:=E1.grow e1 h1 ge h3 h4 (h5.mono s1.del) hv;exact h _ _ _ ((E.tr s1).trans t2) E2
  ·rw[if_neg hl] at h;exact h.elim
 ·exact h.elim
end
abbrev gG (K:zr)(P0:Eb)(P:Addr->Prop)(H:Hp)(Q:St->Hp->Prop):M Ae->Prop
 | .ok ρ=>∀σ',Am K P0 P H σ' ρ->Q σ' H
 |_=>False
abbrev DG (X:Cx)(tg:Expr)(gt:D->Ae->M Ae):Prop:=
 ∃g:TG,PG X tg g/\∀P0 P σ H Q ρ v d,Am X.K P0 P H σ ρ->BX X.K (del H P) v d->gG X.K P0 P H Q (gt d ρ)->g v σ H Q
abbrev uY (X:Cx)(vb:List Expr)(gt:List D->Ae->M Ae):Prop:=
 ∃g:Y9,qL X vb g/\∀P0 P σ H Q ρ v d,Am X.K P0 P H σ ρ->Ah X.K (del H P) v d->gG X.K P0 P H Q (gt d ρ)->g v σ H Q
structure gB (K:zr)(J:It)(P:Addr->Prop)(H:Hp)(ds:List D):Prop where
 go:∀(i:Nat) P' H',Ad (del H P) (del H' P')->i<ds.length->J.go i H'
 stop:∀(i:Nat) P' H',Ad (del H P) (del H' P')->ds.length<=i->J.stop i H'
 kP:∀(i:Nat) P' H' v gh d,Ad (del H P) (del H' P')->(∀a,P' a->DB H' a)->ds[i]?=some d->J.kP i H' v gh->Ad H' gh/\BX K (del gh P') v d
abbrev DI (X:Cx)(WX:Str->Hp->Prop)(tg iter:Expr)(f:Ae->M (List D)):Prop:=
 ∃wi,PI X tg iter wi/\∀P0 P σ H R ρ,Am X.K P0 P H σ ρ->(match f ρ with | .ok ds=>∀J H',Ad H H'->gB X.K J P H' ds->R J H' | .ex x=>∀H',Ad H H'->WX x H' | .bad=>False)->wi σ H R
abbrev forM (gt:D->Ae->M Ae)(body:Ae->M Out):List D->Ae->M Out
 |[],ρ=>.ok (.next ρ)
 |d::r,ρ=>match gt d ρ with
  | .ok ρ1=>(match body ρ1 with
   | .ok (.next ρ2)| .ok (.cont ρ2)=>forM gt body r ρ2
   | .ok (.brk ρ2)=>.ok (.next ρ2)
   |m=>m)
  |_=>.bad
section
variable {X:Cx}{WX:Str->Hp->Prop}{c:Bool}{P0:Eb}{P:Addr->Prop}{H:Hp}{σ:St}{ρ:Ae}{a b e tg iter:Expr}{f g:Ae->M D}{ft:Ae->M Bool}{pos:Pos}{gt:D->Ae->M Ae}{da:List D->Ae->M Ae}{gb:Ae->M Out}{fi:Ae->M (List D)}
def AK (i:Nat){x:Str}(hN:X.N.Nodup)(hi:X.N[i]?=some x)(hx:Loc X.env.scope x)(hf:X.fn x=true\/X.env.scope.names.lookup x=some .local:=by first | exact .inl rfl | exact .inr rfl | assumption):DG X (.Name x pos) (λ d ρ=>.ok (ρ.set i (some (.val d)))):=
 ⟨_,Q7 hN hi hx hf,λ P0 P σ H Q ρ v d E hv h=>h _ (E.X0 hv)⟩
def M5:uY X [] (λ ds ρ=>match ds with | []=>.ok ρ | _=>.bad):=⟨_,Vk,λ P0 P σ H Q ρ v d E hv h=>by
 cases hv with
 |nil=>exact⟨rfl,h σ E⟩
 |cons _ _=>exact h.elim⟩
def Dv {es:List Expr}(h1:DG X e gt)(h2:uY X es da)(hs: ~~~((assignEach (e::es) X.env).map (·.2)=assign e X.env::(assignEach es X.env).map (·.2))):
 uY X (e::es) (λ ds ρ=>match ds with|d::r=>(gt d ρ).bind (da r)|[]=>.bad):=by
 obtain⟨t,a1,a2⟩:=h1;obtain⟨u,b1,b2⟩:=h2;refine⟨_,RK a1 b1 hs,λ P0 P σ H Q ρ v d E hv h=>?_⟩;cases hv with
 |nil=>exact h.elim
 | @cons x d xs ds hx cj =>
  refine⟨x,xs,rfl,a2 P0 P σ H _ ρ x d E hx ?_⟩;dsimp only at h;cases q:gt d ρ with
  |bad|ex y=>rw[q] at h;exact h
  |ok ρ1=>rw[q] at h;exact λ σ' E'=>b2 P0 P σ' H Q ρ1 xs ds E' cj h
def Qp {es:List Expr}{k n:Nat}(hc:X.calm=true)(h:uY X es da)(hn: ~~~((assignEach es X.env).length=n))(aM: ~~~((assignEach es X.env).findIdx? (·.1)=none)):
 DG X (.Tuple es k pos) (λ d ρ=>match d with | .tup ds=>if ds.length=n then da ds ρ else .bad|_=>.bad):=by
 obtain⟨t,a1,a2⟩:=h;refine⟨_,Yp hc a1 hn aM,λ P0 P σ H Q ρ v d E hv h=>?_⟩;cases hv with
 | @tup a xs ds hs hl =>
  dsimp only at h;by_cases hd:ds.length=n
  ·rw[if_pos hd] at h;exact⟨a,xs,rfl,EC.of (An hs).2,by rw[hl.length];exact hd,a2 P0 P σ H Q ρ xs ds E hl h⟩
  ·rw[if_neg hd] at h;exact h.elim
 |_=>exact h.elim
def AU (ha:DE X WX true e f):DI X WX tg e (λ ρ=>(f ρ).bind λ d=>match d with | .lst ds=>.ok ds | _=>.bad):=by
 obtain⟨ta,a1,a2⟩:=ha;refine⟨_,eS a1,λ P0 P σ H R ρ E h=>?_⟩;dsimp only at h;refine a2 P0 P σ H _ ρ E ?_;cases q:f ρ with
 |bad|ex x=>rw[q] at h;exact h
 |ok d =>
  rw[q] at h;cases d with
  |lst ds =>
   intro v H1 s1 hv;cases hv with
   | @lst a xs _ hs hl =>
    refine⟨a,rfl,⟨xs,hs.AY⟩,h _ H1 s1 ⟨λ i P' H' s hi=>?_,λ i P' H' s hi=>?_,λ i P' H' v gh d s ht hd y=>?_⟩⟩
    ·obtain⟨x,hx,_⟩:=hl.get (z4 hi);exact⟨xs,x,(s.seq hs).AY,hx⟩
    ·exact⟨xs,(s.seq hs).AY,by rw[hl.length];exact hi⟩
    ·obtain⟨rfl,y⟩:=y;obtain⟨x,hx,bq⟩:=hl.get hd;have e:=y xs (s.seq hs).AY;rw[hx] at e;cases e;exact⟨Ad.refl _,bq.mono s⟩
  |_=>exact h.elim
abbrev C9 (lo:Int):Nat->List D
 |0=>[]
 |n+1=>.int lo::C9 (lo+1) n
def Bd (lo:Int):∀n:Nat,(C9 lo n).length=n:=by
 intro n;induction n generalizing lo with
 |zero=>rfl
 |succ n ih=>rw[C9,z7,ih]
def BE {lo:Int}{n i:Nat}{d:D}(h:(C9 lo n)[i]?=some d):d=.int (lo+i)/\i<n:=by
 have hi:i<n:=by
  have:=(zG.mp h).1;rw[Bd] at this;exact this
 refine⟨?_,hi⟩;induction n generalizing lo i with
 |zero=>omega
 |succ n ih =>
  cases i with
  |zero=>rw[C9] at h;simp at h;rw[<-h];simp
  |succ i =>
   rw[C9,za0] at h;rw[ih h (by omega)];congr 1;omega
def Up {K:zr}{P:Addr->Prop}{H:Hp}(lo:Int)(n:Nat):gB K (uS lo n) P H (C9 lo n):=
 ⟨λ i P' H' _ hi=>by rw[Bd] at hi;exact hi,λ i P' H' _ hi=>by rw[Bd] at hi;exact hi,λ i P' H' v gh d _ _ hd y=>by
  obtain⟨rfl,rfl⟩:=y;obtain⟨rfl,_⟩:=BE hd;exact⟨Ad.refl _,.int _⟩⟩
abbrev S8:D->M (List D)
 | .int j=>@ite _ (-(2^62)<=j/\j<2^62) (zci _) (.ok (C9 0 j.toNat)) .bad
 |_=>.bad
def S9 {j:Int}(h1 : -(2^62)<=j)(h2:j<2^62):S8 (.int j)=.ok (C9 0 j.toNat):=if_pos ⟨h1,h2⟩
def F8 {n:Nat}(h:n<=1000):S8 (.int (n:Int))=.ok (C9 0 n):=by
 rw[S9 (by omega) (by omega),zat]
def C2 {p:Pos}(hg:Gl X "range")(hm:X.mg "range" = none)(ha:DE X WX c a f)(hs: ~~~(starEach [a] X.env=[(false,eval a X.env)])):
 DI X WX tg (.Call (.Name "range" p) [a] [] pos) (λ ρ=>(f ρ).bind S8):=by
 obtain⟨ta,a1,a2⟩:=ha;refine⟨_,WG hg hm (Bn a1 Cn hs) hs,λ P0 P σ H R ρ E h=>?_⟩;dsimp only at h;refine a2 P0 P σ H _ ρ E ?_;cases q:f ρ with
 |bad|ex x=>rw[q] at h;exact h
 |ok d =>
  rw[q] at h;cases d with
  |int j =>
   simp only[M.A9] at h;by_cases hj : -(2^62)<=j/\j<2^62
   ·rw[S9 hj.1 hj.2] at h;exact λ v H1 s1 hv=>⟨j,by rw[hv.int_inv],hj.1,hj.2,h _ H1 s1 (Up 0 _)⟩
   ·have e:S8 (.int j)=.bad:=if_neg hj;rw[e] at h;exact h.elim
  |_=>exact h.elim
abbrev Lj (k:Nat):List D->List D
 |[]=>[]
 |d::r=>.tup [.int k,d]::Lj (k+1) r
def HE (k:Nat)(ds:List D):(Lj k ds).length=ds.length:=by
 induction ds generalizing k with
 |nil=>rfl
 |cons d r ih=>rw[Lj,z7,z7,ih]
def KL {k i:Nat}{ds:List D}{e:D}(h:(Lj k ds)[i]?=some e):∃d,ds[i]?=some d/\e=.tup [.int ((k+i:Nat):Int),d]:=by
 induction ds generalizing k i with
 |nil=>rw[Lj] at h;simp at h
 |cons d r ih =>
  cases i with
  |zero=>rw[Lj] at h;simp at h;exact⟨d,rfl,by rw[<-h];rfl⟩
  |succ i =>
   rw[Lj,za0] at h;obtain⟨d',h1,h2⟩:=ih h;refine⟨d',by simpa using h1,?_⟩;rw[h2];congr 3;omega
def VF {bS:List Expr}{x1}{bz p:Pos}(hg:Gl X "enumerate")(hm:X.mg "enumerate" = none)(ha:DE X WX true a f)(hb:bootBuiltins "enumerate" = some (.type "enumerate"):=by decide +kernel)(hs: ~~~(starEach [a] X.env=[(false,eval a X.env)])):
 DI X WX (.Tuple bS x1 bz) (.Call (.Name "enumerate" p) [a] [] pos) (λ ρ=>(f ρ).bind λ d=>match d with | .lst ds=>.ok (Lj 0 ds)|_=>.bad):=by
 obtain⟨ta,a1,a2⟩:=ha;refine⟨_,fT hg hm (Bn a1 Cn hs) hb hs,λ P0 P σ H R ρ E h=>?_⟩;dsimp only at h;refine a2 P0 P σ H _ ρ E ?_;cases q:f ρ with
 |bad|ex x=>rw[q] at h;exact h
 |ok d =>
  rw[q] at h;cases d with
  |lst ds =>
   intro v H1 s1 hv;cases hv with
   | @lst a xs _ hs hl =>
    refine⟨a,rfl,⟨xs,hs.AY⟩,h _ H1 s1 ⟨λ i P' H' s hi=>?_,λ i P' H' s hi=>?_,λ i P' H' v gh d s ht hd y=>?_⟩⟩
    ·rw[HE] at hi;obtain⟨x,hx,_⟩:=hl.get (z4 hi);exact⟨xs,x,(s.seq hs).AY,hx⟩
    ·rw[HE] at hi;exact⟨xs,(s.seq hs).AY,by rw[hl.length];exact hi⟩
    ·obtain⟨p,x,hn,rfl,y,rfl⟩:=y;obtain⟨d',aB,rfl⟩:=KL hd;obtain⟨x',hx,bq⟩:=hl.get aB;have e:=y xs (s.seq hs).AY;rw[hx] at e;cases e;refine⟨AN hn _,.tup (Jn hn ht) (.cons ?_ (.cons ((bq.mono s).mono (AN hn _).del) .nil))⟩;rw[Nat.zero_add];exact .int _
  |_=>exact h.elim
def Jp {α:Type}{l:List α}{i:Nat}(h:i<l.length):l.drop i=l[i]::l.drop (i+1):=zbi h
def Bf {body:List Stmt}(hp:PassesOwn (model X.prog X.w) X.A X.env X.xe)(hc:X.calm=true)(hi:DI X WX tg iter fi)(hg:DG X tg gt)(hb:TU X WX body gb)(hs:∀x,foldedSetIterable iter X.env x=pure x:=by intro _;rfl):
 DS X WX (.For tg iter body [] pos) (λ ρ=>(fi ρ).bind λ ds=>forM gt gb ds ρ):=by
 obtain⟨wi,i1,i2⟩:=hi;obtain⟨t,a1,a2⟩:=hg;obtain⟨tb,b1,b2⟩:=hb;refine⟨_,mS hp hc i1 a1 b1 hs,λ P0 P σ H Z ρ E h=>?_⟩;dsimp only at h;refine i2 P0 P σ H _ ρ E ?_;cases q:fi ρ with
 |bad=>rw[q] at h;exact h
 |ex x=>rw[q] at h;exact λ H' s=>h H' P (E.tr s)
 |ok ds =>
  rw[q] at h;simp only[M.A9] at h;intro J H1 s1 ok;refine⟨λ i m σ' H'=>m=ds.length-i/\i<=ds.length/\∃P' ρ',Tr P0 P H1 P' H'/\Am X.K P0 P' H' σ' ρ'/\gS X.K WX P0 P' H' Z (forM gt gb (ds.drop i) ρ'),
   ⟨ds.length,by simp,za6 _,P,ρ,Tr.refl,E.same s1,by rw[List.drop_zero];exact h.tr (E.tr s1)⟩,?_⟩
  rintro i m σ' H' ⟨rfl,hi,P',ρ',t',E',g'⟩;by_cases af:i<ds.length
  ·refine .inr ⟨ok.go i P' H' t'.1 af,λ σ2 H2=>i+1<=ds.length/\∃P2 ρ2,Tr P0 P H1 P2 H2/\Am X.K P0 P2 H2 σ2 ρ2/\gS X.K WX P0 P2 H2 Z (forM gt gb (ds.drop (i+1)) ρ2),λ σ2 H2 hq=>⟨ds.length-(i+1),by omega,rfl,hq.1,hq.2⟩,λ v H2 y=>?_⟩;obtain⟨s2,hv⟩:=ok.kP i P' H' v H2 ds[i] t'.1 E'.C8 (z4 af) y;rw[Jp af,forM] at g';have E2:=E'.same s2;refine a2 P0 P' σ' H2 _ ρ' v ds[i] E2 hv ?_;cases q1:gt ds[i] ρ' with
   |bad=>rw[q1] at g';exact g'
   |ex x=>rw[q1] at g';exact g'.elim
   |ok ρ1 =>
    rw[q1] at g';dsimp only at g';intro σ3 E3;refine b2 P0 P' σ3 H2 _ ρ1 E3 ?_;have tt:Tr P0 P H1 P' H2:=t'.trans (E'.tr s2);cases q2:gb ρ1 with
    |bad=>rw[q2] at g';exact g'
    |ex x=>rw[q2] at g';exact gS.tr (m:=.ex x) g' (E'.tr s2)
    |ok o =>
     rw[q2] at g';cases o with
     |ret d=>exact gS.tr (m:=.ok (.ret d)) g' (E'.tr s2)
     |CO d=>exact gS.tr (m:=.ok (.CO d)) g' (E'.tr s2)
     |F7 d ρ2=>exact gS.tr (m:=.ok (.F7 d ρ2)) g' (E'.tr s2)
     |next ρ2|cont ρ2=>exact λ σ4 H4 P4 t4 E4=>⟨af,P4,ρ2,tt.trans t4,E4,gS.tr g' ((E'.tr s2).trans t4)⟩
     |brk ρ2=>exact λ σ4 H4 P4 t4 E4=>g' σ4 H4 P4 ((E'.tr s2).trans t4) E4
  ·have e:i=ds.length:=by omega
   subst e;refine .inl ⟨ok.stop _ P' H' t'.1 (zF _),?_⟩;rw[List.drop_length,forM] at g';exact g' σ' H' P' Tr.refl E'
end
abbrev Uq (K:zr)(n:Nat)(F:List D->M D):Sp:=λ vs H Q _=>vs.length=n/\∃P ds,(∀a,P a->DB H a)/\Ah K (del H P) vs ds/\gV K (λ _ _=>False) P H Q (F ds)
abbrev AE (N:List Str)(ds:List D):Ae:=ds.map (λ d=>some (.val d))++zE (N.length-ds.length) none
abbrev wX:Cl->M D
 | .val d=>.ok d
 | .own ds=>.ok (.lst ds)
 | .ow (.rows C5)=>.ok (.lst (C5.map D.lst))
 | .ow (.LV _ _)=>.bad
 | .ow (.tree _ t)=>.ok (er t)
abbrev fin (m:M Out):M D:=match m with
 | .ok (.ret d)=>.ok d
 | .ok (.CO c)=>wX c
 | .ok (.next _)=>.ok .AL
 |_=>.bad
def P6 {K:zr}{P:Addr->Prop}{H:Hp}{N:List Str}{vs:List V}{ds:List D}(ht:∀a,P a->DB H a)(h:Ah K (del H P) vs ds):Am K ⟨P,λ _=>0⟩ P H (start N vs) (AE N ds):=by
 have hl:=h.length;have key:∀(i:Nat) (c:Cl),(AE N ds)[i]?=some (some c)->∃d,ds[i]?=some d/\c=.val d:=λ i c e=>by
  unfold AE at e;by_cases hi:i<ds.length
  ·rw[zar (by simpa using hi),zU] at e;cases q:ds[i]? with
   |none=>rw[q] at e;cases e
   |some d=>rw[q] at e;cases e;exact⟨d,rfl,rfl⟩
  ·rw[zb4 (by simpa using hi),zbd] at e;split at e<;>cases e
 refine⟨λ _ h=>h,ht,λ i d e=>?_,λ i es e io=>?_,λ i j c c' v v' fp ag e _ _ _ ho _ _=>?_,?_,λ i c n e hp=>?_⟩
 rotate_left 4
 ·obtain⟨d',q,z⟩:=key i _ e;cases z;cases hp
 ·obtain⟨d',q,z⟩:=key i _ e;cases z;obtain⟨v,hv,hd⟩:=h.get q;refine⟨v,?_,hd⟩;unfold start;rw[zar (by rw[zu];exact (zG.mp hv).1),zU,hv];rfl
 ·obtain⟨d',q,z⟩:=key i _ e;cases z;cases io
 ·obtain⟨d',q,z⟩:=key i _ e;cases z;exact ho.elim
 ·unfold start AE;simp[hl]
def DM {P:Addr->Prop}{H H':Hp}{P':Addr->Prop}(t:Tr P P H P' H'):Ad H H':=λ b o e=>by
 by_cases hb:P b
 ·rw[t.2 b hb];exact e
 ·exact (An (t.1 b o (by rw[Au hb];exact e))).2
def BG.oE {K:zr}{H:Hp}{P P0:Addr->Prop}(hs:∀a,P0 a->P a):∀ {ps:List Addr}{C5:List (List D)},(∀a∈ps,¬ P0 a)->BG K H P ps C5->Ah K (del H P0) (ps.map V.ref) (C5.map D.lst)
 |_,_,_,.nil=>.nil
 |_,_,k,.cons h r t=>.cons (.lst (.of (show del H P0 _=_ by rw[Au (k _ zv)];exact h)) (r.mono (CP hs))) (BG.oE hs (λ a ha=>k a (zw _ ha)) t)
def gC {K:zr}{WX:Str->Hp->Prop}{P P2:Addr->Prop}{H H':Hp}{Q:VK}{c:Cl}{v:V}{fp:List Addr}(h:gV K WX P H Q (wX c))(t':Tr P P H P2 H')(hs:∀a,P a->P2 a)(ht:∀a,P2 a->DB H' a)(ho:Dt K H' P2 c v fp)(hp:∀a∈fp,P2 a/\¬ P a):Q v H':=by
 cases c with
 |val d=>exact ho.elim
 |own ds =>
  obtain⟨p,xs,rfl,rfl,h1,h2⟩:=ho;exact h _ H' (DM t') (.lst (.of (show del H' P p=_ by rw[Au (hp p zv).2];exact h1)) (h2.mono (CP hs)))
 |ow o =>
  cases o with
  |rows C5 =>
   obtain⟨p,ps,rfl,rfl,h1,h2⟩:=ho;exact h _ H' (DM t') (.lst (.of (show del H' P p=_ by rw[Au (hp p zv).2];exact h1)) (h2.oE hs λ a ha=>(hp a (zw _ ha)).2))
  |LV p ds=>exact h.elim
  |tree p t=>exact h _ H' (DM t') (C7.has hs (λ a ha=>(hp a ha).2) ho)
section
variable {P:Program}{w:World}{K:zr}{mg:Str->Option Value}{base:Heap}
def tG {x qual:Str}{st:Stmt}{f:Addr}{fd:FuncData}{N ps:List Str}{k:Nat}(F:Yb K x qual st f fd)(S:Ac N ps (A4 st))(g:Ae->M Out)
 (hb:∀(B7:Value) (A:Around) (outer:List Env) (s:Shared) (H:Hp) (E:XK),BC k (A.deeper (envOfC qual (A4 st) s.heap.objs.size f B7))->TU (RL fJ P w K mg base N qual (A4 st) f B7 A outer s H E).rL (λ _ _=>False) (AO st) g):
 Dr P w K mg base fJ (k+1) f fd ps (Uq K ps.length λ ds=>fin (g (AE N ds))):=by
 refine F.ok S (λ vs H Q E h=>h.1) λ B7 A outer s H vs Q E hr h=>?_;obtain⟨hl,P',ds,ht,hv,hq⟩:=h;obtain⟨t,h1,h2⟩:=hb B7 A outer s H E hr;refine⟨t,h1,h2 ⟨P',λ _=>0⟩ P' _ H _ _ (P6 ht hv) ?_⟩;dsimp only at hq;revert hq;cases g (AE N ds) with
 |bad|ex x=>exact λ h=>h.elim
 |ok o =>
  cases o with
  |ret d=>exact λ h v H' P2 t hv=>h v H' (DM t) hv
  |next ρ=>exact λ h σ' H' P2 t E=>h .AL H' (DM t) .AL
  |brk ρ|cont ρ=>exact λ h=>h.elim
  |CO c=>exact λ h v fp H' P2 t hs ht ho hp nd=>gC h t hs ht ho hp
  |F7 d ρ=>exact λ h=>h.elim
end
section
variable {X:Cx}{WX:Str->Hp->Prop}{c:Bool}{P0:Eb}{P:Addr->Prop}{H:Hp}{σ:St}{ρ:Ae}{a b e tg iter:Expr}{f g:Ae->M D}{ft:Ae->M Bool}{pos:Pos}{gt:D->Ae->M Ae}{fi:Ae->M (List D)}{es:List Expr}{fs:Ae->M (List D)}
abbrev BH (μ:List (Option Nat))(ρ:Ae):Ae:=μ.map λ o=>o.bind λ i=>match ρ[i]? with | some (some (.val d))=>some (.val d) | _=>none
def HF {μ:List (Option Nat)}{ρ:Ae}{j:Nat}{cl:Cl}(h:(BH μ ρ)[j]?=some (some cl)):∃i d,μ[j]?=some (some i)/\ρ[i]?=some (some (.val d))/\cl=.val d:=by
 unfold BH at h;rw[zU] at h;cases q:μ[j]? with
 |none=>rw[q] at h;cases h
 |some o =>
  rw[q] at h;cases o with
  |none=>cases h
  |some i =>
   simp only[zb0,Option.bind_some,Option.some.injEq] at h;split at h
   ·rename_i d e;cases h;exact⟨i,d,rfl,e,rfl⟩
   ·cases h
def Am.block {K:zr}(E:Am K P0 P H σ ρ)(μ:List (Option Nat)):Am K P0 P H (EN μ σ) (BH μ ρ):=by
 refine⟨E.sub,E.C8,λ j d h=>?_,λ j ds h io=>?_,λ j k c c' v v' fp ag h _ _ _ ho _ _=>?_,by unfold EN BH;simp,λ j c n h hp=>by obtain⟨i,d',h1,h2,h3⟩:=HF h;subst h3;cases hp⟩
 ·obtain⟨i,d',h1,h2,h3⟩:=HF h;cases h3;obtain⟨v,h4,h5⟩:=E.val i d h2;refine⟨v,?_,h5⟩;unfold EN;rw[zU,h1];simp[h4]
 ·obtain⟨i,d',h1,h2,h3⟩:=HF h;cases h3;cases io
 ·obtain⟨i,d',h1,h2,h3⟩:=HF h;cases h3;exact ho.elim
abbrev Bv (gt:D->Ae->M Ae)(ft:Ae->M Bool)(fe:Ae->M D):List D->Ae->M (List D)
 |[],_=>.ok []
 |d::r,ρ=>match gt d ρ with
  | .ok ρ1=>(match ft ρ1 with
   | .ok k=>if k=true then (match fe ρ1 with
    | .ok y=>(match Bv gt ft fe r ρ with | .ok ys=>.ok (y::ys)|_=>.bad)
    |_=>.bad) else Bv gt ft fe r ρ
   |_=>.bad)
  |_=>.bad
abbrev tH (X:Cx)(scope:Scope)(NB:List Str)(μ:List (Option Nat))(tg:Expr)(gt:D->Ae->M Ae):Prop:=
 ∃g:TG,(∀s H C ex,PG (blockOf X s H scope C NB ex) tg g)/\KG μ g/\∀P0 P σ H Q ρ v d,Am X.K P0 P H σ ρ->BX X.K (del H P) v d->gG X.K P0 P H Q (gt d ρ)->g v σ H Q
def Ca {scope:Scope}{NB:List Str}{μ:List (Option Nat)}(i:Nat){x:Str}(hN:NB.Nodup)(hi:NB[i]?=some x)(hx:(relabel scope X.env).names.lookup x=some .local)(hm:μ[i]?=some none):tH X scope NB μ (.Name x pos) (λ d ρ=>.ok (ρ.set i (some (.val d)))):=
 ⟨OF i,λ s H C ex=>Q7 (X:=blockOf X s H scope C NB ex) hN hi (.inl hx) (.inr hx),fR hm,λ P0 P σ H Q ρ v d E hv h=>h _ (E.X0 hv)⟩
abbrev tI (X:Cx)(cs:List Expr)(f:Ae->M Bool):Prop:=
 ∃t,qN X cs t/\∀P0 P σ H Q ρ,Am X.K P0 P H σ ρ->gT (λ _ _=>False) H Q (f ρ)->t σ H Q
def EG:tI X [] (λ _=>.ok true):=⟨_,fP,λ P0 P σ H Q ρ E h=>h H (Ad.refl H)⟩
def Fy (h:DT X (λ _ _=>False) a ft):tI X [a] ft:=let ⟨t,h1,h2⟩:=h;⟨_,fQ h1,h2⟩
abbrev Jq (m:M (List D)):M D:=match m with | .ok ys=>.ok (.lst ys) | _=>.bad
def oF {μ:List (Option Nat)}{wi:TI}{gg:TG}{tc:Shared->Hp->Addr->List Addr->TT}{te:Shared->Hp->Addr->List Addr->TE}{fe:Ae->M D}
 (i2:∀P0 P σ H R ρ,Am X.K P0 P H σ ρ->(match fi ρ with | .ok ds=>∀J H',Ad H H'->gB X.K J P H' ds->R J H' | .ex x=>∀H',Ad H H'->WX x H' | .bad=>False)->wi σ H R)
 (g2:∀P0 P σ H Q ρ v d,Am X.K P0 P H σ ρ->BX X.K (del H P) v d->gG X.K P0 P H Q (gt d ρ)->gg v σ H Q)
 (t2:∀s H' C ex P0 P σ H Q ρ,Am X.K P0 P H σ ρ->gT (λ _ _=>False) H Q (ft ρ)->tc s H' C ex σ H Q)
 (e2:∀s H' C ex P0 P σ H Q ρ,Am X.K P0 P H σ ρ->gV X.K (λ _ _=>False) (Lv c P0 P) H Q (fe ρ)->te s H' C ex σ H Q) {Q:VK}
 (E:Am X.K P0 P H σ ρ) (h:gV X.K WX (Lv c P0 P) H Q ((fi ρ).bind λ ds=>if ds.length<=1000 then Jq (Bv gt ft fe ds (BH μ ρ)) else .bad)):Vu wi μ gg tc te σ H Q:=by
 refine i2 P0 P σ H _ ρ E ?_;cases q:fi ρ with
 |bad|ex x=>rw[q] at h;exact h
 |ok ds =>
  rw[q] at h;simp only[M.A9] at h;by_cases hd:¬ ds.length<=1000
  ·rw[if_neg hd] at h;exact h.elim
  have hd:ds.length<=1000:=by omega
  rw[if_pos hd] at h;intro J H1 s1 ok s C ex;cases qc:Bv gt ft fe ds (BH μ ρ) with
  |bad|ex x=>rw[qc] at h;exact h.elim
  |ok total =>
   rw[qc] at h;unfold Jq at h;dsimp only at h;have E1:=E.same s1;refine⟨λ i m ys H2=>m=ds.length-i/\i<=ds.length/\ys.length<=i/\Ad H1 H2/\∃es rest,Ah X.K (del H2 (Lv c P0 P)) ys es/\Bv gt ft fe (ds.drop i) (BH μ ρ)=.ok rest/\es++rest=total,
    ⟨ds.length,by simp,za6 _,zF _,Ad.refl _,[],total,.nil,by rw[List.drop_zero];exact qc,rfl⟩,?_⟩
   rintro i m ys H2 ⟨rfl,hi,hy,s2,es,rest,gi,aj,aU⟩;by_cases af:i<ds.length
   ·refine .inr ⟨ok.go i P H2 s2.del af,Nat.lt_of_le_of_lt hy (AA (by omega)),λ bt H'=>i+1<=ds.length/\bt.length<=i+1/\Ad H1 H'/\∃es rest,Ah X.K (del H' (Lv c P0 P)) bt es/\Bv gt ft fe (ds.drop (i+1)) (BH μ ρ)=.ok rest/\es++rest=total,λ bt H' hq=>⟨ds.length-(i+1),by omega,rfl,hq.1,hq.2.1,hq.2.2.1,hq.2.2.2⟩,λ v H3 y=>?_⟩;have E2:=E1.same s2;obtain⟨s3,hv⟩:=ok.kP i P H2 v H3 ds[i] s2.del E2.C8 (z4 af) y;rw[Jp af,Bv] at aj;have E3:=(E2.same s3).block μ;refine g2 P0 P _ H3 _ (BH μ ρ) v ds[i] E3 hv ?_;cases q1:gt ds[i] (BH μ ρ) with
    |bad|ex x=>rw[q1] at aj;cases aj
    |ok ρ1 =>
     rw[q1] at aj;dsimp only at aj;intro σ4 E4;refine t2 s H1 C ex P0 P σ4 H3 _ ρ1 E4 ?_;cases q2:ft ρ1 with
     |bad|ex x=>rw[q2] at aj;cases aj
     |ok k =>
      rw[q2] at aj;dsimp only at aj;intro H5 s5;cases k with
      |false =>
       simp only[zR,if_false] at aj ⊢;exact⟨af,by omega,(s2.trans s3).trans s5,es,rest,(gi.mono s3.del).mono s5.del,aj,aU⟩
      |true =>
       simp only[if_true] at aj ⊢;refine e2 s H1 C ex P0 P σ4 H5 _ ρ1 (E4.same s5) ?_;cases q3:fe ρ1 with
       |bad|ex x=>rw[q3] at aj;cases aj
       |ok y' =>
        rw[q3] at aj;dsimp only at aj;cases q4:Bv gt ft fe (ds.drop (i+1)) (BH μ ρ) with
        |bad|ex x=>rw[q4] at aj;cases aj
        |ok n5 =>
         rw[q4] at aj;cases aj;intro w H6 s6 hw;refine⟨af,by rw[zW,zav];omega,((s2.trans s3).trans s5).trans s6,es++[y'],n5,(((gi.mono s3.del).mono s5.del).mono s6.del).snoc hw,rfl,?_⟩;rw[za9];exact aU
   ·have e:i=ds.length:=by omega
    subst e;rw[List.drop_length,Bv] at aj;cases aj;rw[zV] at aU;subst aU;refine .inl ⟨ok.stop _ P H2 s2.del (zF _),λ D0 hn=>h _ _ ((s1.trans s2).trans (AN hn _)) (.lst (.of (Jn hn λ a q=>(E1.same s2).sT c a q)) (gi.mono (AN hn _).del))⟩
def Qq {scope:Scope}{NB:List Str}{ifs:List Expr}{elt:Expr}{fe:Ae->M D}(i:Nat){x:Str}{px al:Pos}(μ:List (Option Nat))(hN:X.N.Nodup)(jj:X.N[i]?=some x)(hx:Loc X.env.scope x)(hc:X.calm=true)(hi:DI X WX tg iter fi)(a9:Gz scope X.env.scope=true)(b6:Qi X.N NB scope μ=true)(hg:tH X scope NB μ tg gt)(ht:∀s H C ex,tI (blockOf X s H scope C NB ex) ifs ft)(he:∀s H C ex,DE (blockOf X s H scope C NB ex) (λ _ _=>False) true elt fe)(bh: ~~~(swapsWith (.ListComp elt [⟨tg,iter,ifs,0⟩] scope pos) (some (.Name x px)) al.line X.env=pure true))(hs:∀x,foldedSetIterable iter X.env x=pure x:=by intro _;rfl)(hf:X.fn x=true\/X.env.scope.names.lookup x=some .local:=by first|exact .inl rfl|exact .inr rfl|assumption):
 DS X WX (.Assign [.Name x px] (.ListComp elt [⟨tg,iter,ifs,0⟩] scope pos) al) (λ ρ=>((fi ρ).bind λ ds=>if ds.length<=1000 then Jq (Bv gt ft fe ds (BH μ ρ)) else .bad).bind λ d=>.ok (.next (ρ.set i (some (.val d))))):=by
 obtain⟨wi,i1,i2⟩:=hi;obtain⟨gg,g1,gk,g2⟩:=hg;refine⟨_,Vv hN jj hx hc i1 a9 b6 gk (λ s H C ex=>⟨g1 s H C ex,(zt (ht s H C ex)).1,(zt (he s H C ex)).1⟩) bh hs hf,λ P0 P σ H Z ρ E h=>?_⟩;refine oF (c:=true) i2 g2 (λ s H' C ex P0 P σ H Q ρ E h=>(zt (ht s H' C ex)).2 P0 P σ H Q ρ E h) (λ s H' C ex P0 P σ H Q ρ E h=>(zt (he s H' C ex)).2 P0 P σ H Q ρ E h) E ?_;dsimp only at h;revert h;cases ((fi ρ).bind λ ds=>if ds.length<=1000 then Jq (Bv gt ft fe ds (BH μ ρ)) else .bad) with
 |bad=>exact λ h=>h
 |ex y=>exact λ h H' s=>h H' P (E.tr s)
 |ok d=>exact λ h v H' s hv=>h _ H' P (E.tr s) ((E.same s).X0 hv)
end
section
variable {X:Cx}{WX:Str->Hp->Prop}{c:Bool}{P0:Eb}{P:Addr->Prop}{H:Hp}{σ:St}{ρ:Ae}{a b e k:Expr}{f g:Ae->M D}{te tk:TE}{pos p2:Pos}
abbrev yU (x y:D):M D:=match x,y with | .lst ds,.int i=>if i = -1 then .ok (.lst ds.reverse) else .bad | _,_=>.bad
abbrev CS:List D->Option (List Int)
 |[]=>some []
 | .int i::r=>(CS r).map (i::·)
 |_=>none
abbrev Z9:D->Option (List Int)
 | .tup ds=>CS ds
 |_=>none
abbrev GG:List D->Option (List (D×List Int))
 |[]=>some []
 |d::r=>(Z9 d).bind λ k=>(GG r).map ((d,k)::·)
abbrev VG (l d:D):M D:=match l with
 | .lst ds=>(match GG ds with|some ks=>.ok (match AV ks with|none=>d|some b=>b.1)|none=>.bad)
 |_=>.bad
def KN {K:zr}{H:Hp}:∀ {xs:List V}{ds:List D}{ns:List Int},Ah K H xs ds->CS ds=some ns->xs=ns.map V.int
 |_,_,_,.nil,e=>by simp only[CS] at e;cases e;rfl
 |_,_,_,.cons (d:=d) h t,e=>by
  cases d with
  |int i =>
   simp only[CS] at e;cases q:CS _ with
   |none=>rw[q] at e;cases e
   |some ns =>
    rw[q] at e;cases e;rw[h.int_inv,KN t q];rfl
  |_=>simp[CS] at e
noncomputable abbrev Alike (K:zr)(H:Hp):List (Addr×List Int)->List (D×List Int)->Prop:=Paired λ p q=>p.2=q.2/\BX K H (.ref p.1) q.1
def IQ {K:zr}{H:Hp}:∀ {xs:List V}{ds:List D}{ks:List (D×List Int)},Ah K H xs ds->GG ds=some ks->∃bs:List (Addr×List Int),xs=bs.map (λ b=>V.ref b.1)/\(∀b∈bs,EC K H b.1 (b.2.map V.int))/\Alike K H bs ks
 |_,_,_,.nil,e=>by simp only[GG] at e;cases e;exact⟨[],rfl,by simp,.nil⟩
 |_,_,_,.cons (d:=d) h t,e=>by
  simp only[GG] at e;cases q:Z9 d with
  |none=>rw[q] at e;cases e
  |some k =>
   rw[q] at e;simp only[Option.bind_some] at e;cases q2:GG _ with
   |none=>rw[q2] at e;cases e
   |some ks =>
    rw[q2] at e;cases e;obtain⟨bs,h1,h2,h3⟩:=IQ t q2;cases d with
    |tup es =>
     have h':=h;cases h with
     | @tup a xs _ hs hl =>
      simp only[Z9] at q;have e1:=KN hl q;subst e1;refine⟨(a,k)::bs,by rw[h1];rfl,λ b hb=>?_,.cons ⟨rfl,h'⟩ h3⟩;rcases zB.mp hb with z|z
      ·subst z;exact EC.of hs
      ·exact h2 b z
    |_=>simp[Z9] at q
def IR {K:zr}{H:Hp}{bs:List (Addr×List Int)}{ks:List (D×List Int)}(h:Alike K H bs ks):(AV bs=none/\AV ks=none)\/∃b k,AV bs=some b/\AV ks=some k/\b.2=k.2/\BX K H (.ref b.1) k.1:=by
 unfold AV
 suffices z:∀(o:Option (Addr×List Int)) (o':Option (D×List Int)),((o=none/\o'=none)\/∃b k,o=some b/\o'=some k/\b.2=k.2/\BX K H (.ref b.1) k.1)->
  ((bs.foldl BR o=none/\ks.foldl BR o'=none) \/
   ∃b k,bs.foldl BR o=some b/\ks.foldl BR o'=some k/\b.2=k.2/\BX K H (.ref b.1) k.1) from z none none (.inl ⟨rfl,rfl⟩)
 induction h with
 |nil=>intro o o' h;exact h
 | @cons b k bs ks hh t ih =>
  intro o o' h;rw[zP,zP];refine ih _ _ ?_;rcases h with ⟨rfl,rfl⟩|⟨b',k',rfl,rfl,e1,e2⟩
  ·exact .inr ⟨b,k,rfl,rfl,hh⟩
  ·unfold BR;dsimp only;rw[hh.1,e1];by_cases hl:HT.lexLt k.2 k'.2=true
   ·rw[if_pos hl,if_pos hl];exact .inr ⟨b,k,rfl,rfl,hh⟩
   ·rw[if_neg hl,if_neg hl];exact .inr ⟨b',k',rfl,rfl,e1,e2⟩
def VH {p kp:Pos}{e2:Expr}(hc:X.calm=true)(hu:X.A.units+1<cLine)(hg:Gl X "min")(hm:X.mg "min" = none)(ha:DE X WX c e f)(hb:DE X WX c e2 g)(aM: ~~~(starEach [e] X.env=[(false,eval e X.env)]))(a8: ~~~((backToKw pos (keywordEach [⟨some "default",e2,kp⟩] X.env)).all (·.1.isSome)=true))(nv: ~~~((backToKw pos (keywordEach [⟨some "default",e2,kp⟩] X.env)).filterMap (·.1)=([("default" : Str)]:List Str)))(gc: ~~~((backToKw pos (keywordEach [⟨some "default",e2,kp⟩] X.env)).any (·.1.isNone)=false))(bj: ~~~(backTo pos (starEach [e] X.env)=(false,eval e X.env)::backTo pos (starEach [] X.env)))(ao: ~~~((backTo pos (starEach [e] X.env)).any (·.1)=false)):
 DE X WX c (.Call (.Name "min" p) [e] [⟨some "default",e2,kp⟩] pos) (λ ρ=>(f ρ).bind λ x=>(g ρ).bind λ y=>VG x y):=by
 obtain⟨ta,a1,a2⟩:=ha;obtain⟨tb,b1,b2⟩:=hb;refine⟨_,fV hc hu hg hm a1 b1 aM a8 nv gc bj ao,λ P0 P σ H Q ρ E h=>S6 (r:=λ x d H2 Q=>∃(a:Addr) (bs:List (Addr×List Int)),x=.ref a/\D7 X.K H2 a (bs.map λ b=>V.ref b.1)/\(∀b∈bs,EC X.K H2 b.1 (b.2.map V.int))/\Q (match AV bs with|none=>d|some b=>.ref b.1) H2) a2 b2 ?_ E h⟩;intro P H x y v w Q ht hx hy h;unfold VG at h;split at h
 ·rename_i ds;split at h
  ·rename_i ks e1;cases hx with
   | @lst a xs _ hs hl =>
    obtain⟨bs,rfl,h2,h3⟩:=IQ hl e1;refine⟨a,bs,rfl,hs.AY,λ b hb=>(h2 b hb).AY,?_⟩;rcases IR h3 with ⟨q1,q2⟩|⟨b,k,q1,q2,_,q3⟩
    ·rw[q1];rw[q2] at h;exact h _ H (Ad.refl H) hy
    ·rw[q1];rw[q2] at h;exact h _ H (Ad.refl H) q3
  ·exact h.elim
 ·exact h.elim
end
def AM {A:Around}{k:Nat}(hr:BC k A)(n:Nat)(hn:n<=64):A.units+n<cLine:=by have:=hr.units;omega
structure AH (K:zr)(mg:Str->Option Value)(x:Str)(st:Stmt)(ps:List Str):Prop where
 ex:∃f fd,Yb K x x st f fd/\mg x=some (.ref f)/\Binds K fd ps []
abbrev Ur (P:Program)(w:World)(base:Heap):Vl:=λ _ _ _ _ _ _=>False
noncomputable abbrev kY (P:Program)(w:World)(K:zr)(mg:Str->Option Value)(base:Heap)(N:List Str)(qual:Str)(scope:Scope)(f:Addr)(cd:Value)(A:Around)(outer:List Env)(s:Shared)(H:Hp)(E:XK):Cx:=
 RL (Ur P w base) P w K mg base N qual scope f cd A outer s H E
structure G8 (X:Cx)(E:XK):Prop where
 call:Gw (Ur X.prog X.w X.base) X E
 own:PassesOwn (model X.prog X.w) X.A X.env X.xe
def A8 {P:Program}{w:World}{K:zr}{mg:Str->Option Value}{base:Heap}{N:List Str}{qual:Str}{scope:Scope}{f:Addr}{cd:Value}{A:Around}{outer:List Env}{s:Shared}{H:Hp}{E:XK}:
 G8 (kY P w K mg base N qual scope f cd A outer s H E) E:=⟨λ _ _ _ _ _ _ _ h=>h.elim,PassesOwn.leaving⟩
def B5 {X:Cx}(h:X.xe=λ _ _=>False):G8 X E0:=⟨λ _ _ _ _ _ _ _ h=>h.elim,by rw[h];exact PassesOwn.never⟩
def G8.toXCall {X:Cx}{E:XK}(h:G8 X E):G8 X E:=h
abbrev D1 (K:zr)(E:XK):Str->Hp->Prop:=λ x H=>∃c,zY K mainGlobals x=some (some (.ref c))/\E (.ref c) none H
section
variable {X:Cx}{WX:Str->Hp->Prop}{c:Bool}{a b e:Expr}{f g:Ae->M D}{pos p:Pos}
abbrev kZ (K:zr):R2:=λ x y H Q=>∃l b xs zs,x=.ref l/\y=.ref b/\D7 K H l xs/\D7 K H b zs/\xs.length+zs.length<=sizeLine/\∀p,H p=none->Q (.ref p) (upd H p (.lst (xs++zs)))
def gD:Gv X (binaryOp .Add) (kZ X.K):=by
 intro pins s σ H x y v u Q I rx ry h;obtain⟨l,b,xs,zs,rfl,rfl,h1,h2,hz,q⟩:=h;cases rx;cases ry;obtain⟨aa,r,⟨⟨c1,d1,t1,vc⟩,n,e1,q1,q2,q3⟩,bu⟩:=I.list h1;obtain⟨aP,r2,⟨⟨c2,d2,t2,cr⟩,n2,e2,q4,q5,q6⟩,n6⟩:=I.list h2;dsimp only at q1 q2 q3 q4 q5 q6;subst q1 q2 q3 q4 q5 q6;have l1:=r.length;have l2:=r2.length;refine concat_meets ⟨_,e1,rfl⟩ ⟨_,e2,rfl⟩ noFill_list_add seq_list_add PySem.F.slot_list_add PySem.F.entry_list_add (PySem.F.args_list_add_2 _ _) (list_addW l b aa.toArray aP.toArray n n2 none none vc cr (by rw[z9,z9];omega)) ⟨e1,e2,?_⟩;rw[show aa.toArray++aP.toArray=(aa++aP).toArray by simp];exact⟨.ref _,_,I.sJ (t':=s.toks) (r.append r2) (by rw[zW];omega),rfl,q _ I.fresh⟩
abbrev xV (x y:D):M D:=match x,y with
 | .int i,.int j=>.ok (.int (i+j))
 | .lst ds,.lst es=>if ds.length+es.length<=1000 then .ok (.lst (ds++es)) else .bad
 |_,_=>.bad
def Ah.xW {K:zr}{H:Hp}:∀ {xs ys:List V}{ds es:List D},Ah K H xs ds->Ah K H ys es->Ah K H (xs++ys) (ds++es)
 |_,_,_,_,.nil,h=>h
 |_,_,_,_,.cons a t,h=>.cons a (t.xW h)
abbrev uZ (neg:Bool)(x y:D):M D:=match x,y with
 | .int i,.lst ds=>(match CS ds with|some ns=>.ok (.bl (if neg then !ns.contains i else ns.contains i))|none=>.bad)
 |_,_=>.bad
def Za (i:Int)(ns:List Int):uU (.int i) (ns.map V.int)=ns.contains i:=by
 unfold uU;induction ns with
 |nil=>rfl
 |cons n r ih =>
  rw[zx,zbe,ih,List.contains_cons];congr 1;show (n==i)=(i==n);rw[zbp,beq_iff_eq,beq_iff_eq];exact eq_comm
def X3 (ns:List Int):(ns.map V.int).all Ji=true:=by
 induction ns with
 |nil=>rfl
 |cons n r ih=>rw[zx,zc8,ih];rfl
def GH {neg:Bool}:VC X.K WX (uV X.K neg) (uZ neg):=by
 intro P H x y v w Q ht hx hy h;unfold uZ at h;split at h
 ·rename_i i ds;split at h
  ·rename_i ns hn;cases hx;cases hy with
   |lst h1 h2 =>
    have e:=KN h2 hn;subst e;refine⟨_,_,rfl,.inl h1.AY,rfl,X3 ns,?_⟩;rw[Za];exact h _ H (Ad.refl H) (.bl _)
  ·exact h.elim
 ·exact h.elim
end
section
variable {X:Cx}{WX:Str->Hp->Prop}
def Us {st:Stmt}:DS X WX st (λ _=>.bad):=⟨λ _ _ _=>False,λ _ _ _ _ _ _ h=>h.elim,λ _ _ _ _ _ _ _ h=>h.elim⟩
end
abbrev Sa (i j:Int):Prop:=(i.natAbs<2^1000/\j.natAbs<2^1000)\/Yy i j
instance (i j:Int):Decidable (Sa i j):=by unfold Sa;infer_instance
def P7 {i:Int}(h:i.natAbs<2^1000):za7 i<=2^20:=by
 unfold za7;split
 ·exact za6 _
 ·rename_i z;have h0:i.natAbs≠0:=λ q=>z (by rw[Int.natAbs_eq_zero.mp q];rfl);have:=(Nat.log2_lt h0).mpr h;have h3:(1000:Nat)<=2^20:=by decide
  exact zal this h3
def Sa.ok {i j:Int}(h:Sa i j):IntMulOk i j:=by
 rcases h with ⟨h1,h2⟩|h
 ·exact IntMulOk.of_bits (P7 h1) (P7 h2)
 ·exact h.ok
def MT (n:Nat):C9 0 n=(zan n).map λ i:Nat=>D.int (i:Int):=by
 apply List.ext_getElem?;intro i;rw[zU];by_cases h:i<n
 ·have hi:i<(C9 0 n).length:=by rw[Bd];exact h
  have e:=z4 hi;obtain⟨h1,_⟩:=BE e;rw[e,h1,List.getElem?_range h,zc5];rfl
 ·rw[List.getElem?_eq_none (by rw[Bd];omega),List.getElem?_eq_none (by simp;omega)];rfl
def F9 (ns:List Int):CS (ns.map D.int)=some ns:=by
 induction ns with
 |nil=>rfl
 |cons n r ih=>rw[zx,CS,ih];rfl
def Zb (ds:List D)(n:Nat):qO (some (n:Int)) none (.lst ds)=.ok (.lst (ds.drop n)):=by
 unfold qO;dsimp only;rw[HT.YF,HT.Qb];congr 2;by_cases h:n<=ds.length
 ·rw[Nat.min_eq_left h,zbw (by rw[zcf];exact zF _)]
 ·rw[Nat.min_eq_right (by omega),List.drop_of_length_le (zF _),List.drop_of_length_le (by omega),List.take_nil]
abbrev Pl (n:Nat)(d:D):Prop:=OS d<=n/\Cq d=true
def Qr {n:Nat}:∀ {ds:List D},(∀d∈ds,OS d<=n)->Ql ds<=n
 |[],_=>by rw[Ql];exact za6 _
 |d::r,h=>by
  rw[Ql];exact Nat.max_le.mpr ⟨h d zv,Qr λ d hd=>h d (zw _ hd)⟩
def Qs:∀ {ds:List D},(∀d∈ds,Cq d=true)->KI ds=true
 |[],_=>by rw[KI]
 |d::r,h=>by
  rw[KI,h d zv,Qs λ d hd=>h d (zw _ hd)];rfl
def Fz {n:Nat}(i:Int):Pl n (.int i):=⟨by rw[OS];exact za6 _;all_goals simp,by rw[Cq];all_goals simp⟩
def oG {n:Nat}:Pl n .AL:=⟨by rw[OS];exact za6 _;all_goals simp,by rw[Cq];all_goals simp⟩
def Ut {n:Nat}{ds:List D}(h:∀d∈ds,Pl n d):Pl (n+1) (.tup ds):=
 ⟨by rw[OS];exact Nat.succ_le_succ (Qr λ d hd=>(h d hd).1),by rw[Cq];exact Qs λ d hd=>(h d hd).2⟩
def Uu {n:Nat}{ds:List D}(h:∀d∈ds,Pl n d):Pl (n+1) (.lst ds):=
 ⟨by rw[OS];exact Nat.succ_le_succ (Qr λ d hd=>(h d hd).1),by rw[Cq];exact Qs λ d hd=>(h d hd).2⟩
def VI {n:Nat}(ns:List Int):Pl (n+1) (.lst (ns.map D.int)):=Uu λ d hd=>by
 obtain⟨i,_,rfl⟩:=zS.mp hd;exact Fz i
def Pl.le {n m:Nat}{d:D}(h:Pl n d)(k:n<=m):Pl m d:=⟨zal h.1 k,h.2⟩
def Qt {n:Nat}:∀d∈([]:List D),Pl n d:=λ d h=>by cases h
def EH {n:Nat}{d:D}{ds:List D}(h:Pl n d)(t:∀d∈ds,Pl n d):∀e∈d::ds,Pl n e:=λ e he=>by
 rcases zB.mp he with rfl|he
 ·exact h
 ·exact t e he
def Uv {n:Nat}{x y:D}(h:Pl n x)(k:Pl n y):fY n x y=.ok (.bl (Bl x y)):=by
 unfold fY;rw[if_pos ⟨h.1,h.2,k.2⟩]
def Uw {n:Nat}{x y:D}(h:Pl n x)(k:Pl n y):Yd n x y=.ok (.bl (!Bl x y)):=by
 unfold Yd;rw[if_pos ⟨h.1,h.2,k.2⟩]
def MU {n:Nat}{x:D}(h:Pl n x):Yd n x x=.ok (.bl false):=by rw[Uw h h,S3];rfl
def gE (ds:List D)(a b:Nat):qO (some (a:Int)) (some (b:Int)) (.lst ds)=.ok (.lst ((ds.drop a).take (b-a))):=by
 unfold qO;dsimp only;rw[HT.Qb,HT.Qb];congr 2;by_cases h:a<=ds.length
 ·rw[Nat.min_eq_left h];by_cases h2:b<=ds.length
  ·rw[Nat.min_eq_left h2]
  ·rw[Nat.min_eq_right (by omega),zbw (by rw[zcf];exact zF _),zbw (by rw[zcf];omega)]
 ·rw[Nat.min_eq_right (show ds.length<=a by omega),List.drop_of_length_le (zF _),List.drop_of_length_le (show ds.length<=a by omega),List.take_nil,List.take_nil]
section
variable {X:Cx}{WX:Str->Hp->Prop}{c:Bool}{P0:Eb}{P:Addr->Prop}{H:Hp}{σ:St}{ρ:Ae}{a b e:Expr}{f g:Ae->M D}{ft gt:Ae->M Bool}{pos:Pos}{st:Stmt}{rest:List Stmt}{g1 g2:Ae->M Out}
def Sb {K:zr}{H:Hp}{v:V}{d:D}(h:BX K H v d):∀n:Nat,Ah K H (zE n v) (zE n d)
 |0=>.nil
 |n+1=>by rw[zb6,zb6];exact .cons h (Sb h n)
def MV {K:zr}{H:Hp}{v:V}{d:D}(h:BX K H v d):∀ {vs:List V}{ds:List D}(n:Nat),Ah K H vs ds->Ah K H (vs.set n v) (ds.set n d)
 |_,_,_,.nil=>.nil
 |_,_,0,.cons _ t=>.cons h t
 |_,_,n+1,.cons a t=>.cons a (MV h n t)
abbrev yV (i:Nat)(ρ:Ae)(d k:D):M Out:=match k with
 | .int j=>if 0<=j/\j.toNat<=1000 then .ok (.next (ρ.set i (some (.own (zE j.toNat d))))) else .bad
 |_=>.bad
def P8 {α:Type}(v:α):∀n:Nat,(zE n [v]).flatten=zE n v
 |0=>rfl
 |n+1=>by rw[zb6,List.flatten_cons,P8 v n];rfl
abbrev oH (i:Nat)(ρ:Ae)(ds:List D)(d k:D):M Out:=match k with
 | .int j=>(match ON ds.length j with|some n=>.ok (.next (ρ.set i (some (.own (ds.set n d)))))|none=>.bad)
 |_=>.bad
abbrev gF (i:Nat)(ρ:Ae)(m:M D)(d:D):M Out:=match ρ[i]? with
 |some (some (.own ds))=>m.bind (oH i ρ ds d)
 |_=>.bad
def MW (i:Nat){x:Str}{p1 al:Pos}(hv:PE X (.Name x p1) (LR i))(ha:DE X WX true a f)(hk:DE X WX true b g)(hs: ~~~(swapsWithSole [.Subscript (.Name x p1) b al] a pos.line X.env=pure false))(hw: ~~~(swappedStores [.Subscript (.Name x p1) b al] a X.env=pure none))(h1: ~~~((assignEach [.Subscript (.Name x p1) b al] X.env).map (·.2)=[assign (.Subscript (.Name x p1) b al) X.env]))(gj:∀v,assign (.Subscript (.Name x p1) b al) X.env v=(do
  let ov <-holding [v] (eval (.Name x p1) X.env);let iv <-holding [v,ov] (eval b X.env)
  standAt al
  holding [v,ov,iv] (setItem ov iv v)
  release [v,ov,iv] []):=by intro _;rfl):
 DS X WX (.Assign [.Subscript (.Name x p1) b al] a pos) (λ ρ=>(f ρ).bind (gF i ρ (g ρ))):=by
 obtain⟨ta,a1,a2⟩:=ha;obtain⟨tb,b1,b2⟩:=hk;refine⟨_,Yr a1 (Yq hv b1 set_list gj) hs hw h1,λ P0 P σ H Z ρ E h=>?_⟩;dsimp only at h;refine a2 P0 P σ H _ ρ E ?_;refine eC h E λ d h=>?_;intro v H1 s1 hv;have E1:=E.same s1;unfold gF at h;split at h
 ·rename_i ds e1;obtain⟨p,xs,h1,h2,h3,h4,h5⟩:=E1.own i ds e1;refine⟨_,h1,b2 P0 P σ H1 _ ρ E1 ?_⟩;cases q2:g ρ with
  |bad=>rw[q2] at h;exact h.elim
  |ex x=>rw[q2] at h;exact λ H' s2=>h H' P ((E.tr s1).trans (E1.tr s2))
  |ok k =>
   rw[q2] at h;simp only[M.A9] at h;unfold oH at h;intro w H2 s2 hw;split at h
   ·rename_i j;cases hw;split at h
    ·rename_i n en;have E2:=E1.same s2;refine⟨p,xs,j,n,rfl,rfl,s2 _ _ h2,by rw[h5.length];exact en,?_⟩;obtain⟨E3,t3⟩:=E2.mut e1 h1 h3 h4 (MV (hv.mono s2.del) n (h5.mono s2.del));exact h _ _ _ ((E.tr s1).trans ((E1.tr s2).trans t3)) E3
    ·exact h.elim
   ·exact h.elim
 ·exact h.elim
abbrev Av (c:Ae->M Bool)(b:Ae->M Out):Nat->Ae->M Out
 |0,_=>.bad
 |n+1,ρ=>match c ρ with
  | .ok true=>(match b ρ with
   | .ok (.next ρ')| .ok (.cont ρ')=>Av c b n ρ'
   | .ok (.brk ρ')=>.ok (.next ρ')
   |r=>r)
  | .ok false=>.ok (.next ρ)
  | .ex x=>.ex x
  | .bad=>.bad
abbrev Lk (c:Ae->M Bool)(b:Ae->M Out)(ρ:Ae):M Out:=
 @dite _ (∃n,Av c b n ρ≠.bad) (zci _) (λ h=>Av c b (z3 h) ρ) (λ _=>.bad)
def CJ {c:Ae->M Bool}{b:Ae->M Out}:∀ {n:Nat}{ρ:Ae},Av c b n ρ≠.bad->∀m,Av c b (n+m) ρ=Av c b n ρ
 |0,ρ,h,m=>(h rfl).elim
 |n+1,ρ,h,m=>by
  rw[show n+1+m=(n+m)+1 by omega];rw[Av] at h;rw[Av,Av];cases q:c ρ with
  |bad|ex x=>rfl
  |ok k =>
   rw[q] at h;cases k with
   |false=>rfl
   |true =>
    dsimp only at h ⊢;cases q2:b ρ with
    |bad|ex x=>rfl
    |ok o =>
     rw[q2] at h;cases o with
     |next ρ'=>dsimp only at h ⊢;exact CJ h m
     |cont ρ'=>dsimp only at h ⊢;exact CJ h m
     |brk ρ'=>rfl
     |ret d|CO d|F7 d ρ2=>rfl
def Zc {c:Ae->M Bool}{b:Ae->M Out}{n:Nat}{ρ:Ae}(h:Av c b n ρ≠.bad):Lk c b ρ=Av c b n ρ:=by
 unfold Lk;have hx:∃n,Av c b n ρ≠.bad:=⟨n,h⟩;rw[dif_pos hx];have hc:=zt hx;have e1:=CJ h (z3 hx);have e2:=CJ hc n;rw[Nat.add_comm] at e2;rw[<-e1,e2]
def X4 {c:Ae->M Bool}{b:Ae->M Out}{ρ:Ae}(h:Lk c b ρ≠.bad):∃n,Av c b n ρ≠.bad/\Lk c b ρ=Av c b n ρ:=by
 by_cases hx:∃n,Av c b n ρ≠.bad
 ·obtain⟨n,hn⟩:=hx;exact⟨n,hn,Zc hn⟩
 ·exact (h (by unfold Lk;rw[dif_neg hx])).elim
def lA {K:zr}{Z:Ends}{m:M Out}(h:gS K WX P0 P H Z m):m≠.bad:=λ e=>by rw[e] at h;exact h
def Sd {body:List Stmt}(hp:PassesOwn (model X.prog X.w) X.A X.env X.xe)(hc:DT X WX a ft)(hb:TU X WX body g1):DS X WX (.While a body [] pos) (Lk ft g1):=by
 obtain⟨tc,c1,c2⟩:=hc;obtain⟨tb,b1,b2⟩:=hb;refine⟨_,Ys hp c1 b1,λ P0 P σ H Z ρ E h=>?_⟩;obtain⟨n,hn,en⟩:=X4 (lA h);rw[en] at h;refine⟨λ m σ' H'=>∃ρ' P',Am X.K P0 P' H' σ' ρ'/\Tr P0 P H P' H'/\gS X.K WX P0 P' H' Z (Av ft g1 m ρ'),⟨n,ρ,P,E,Tr.refl,h⟩,?_⟩;rintro m σ1 H1 ⟨ρ1,P1,E1,t1,h1⟩;cases m with
 |zero=>exact h1.elim
 |succ m =>
  rw[Av] at h1;refine c2 P0 P1 σ1 H1 _ ρ1 E1 ?_;cases q:ft ρ1 with
  |bad=>rw[q] at h1;exact h1
  |ex x=>rw[q] at h1;exact λ H2 s2=>h1 H2 P1 (E1.tr s2)
  |ok k =>
   rw[q] at h1;intro H2 s2;have E2:=E1.same s2;cases k with
   |false =>
    rw[if_neg (by simp)];exact h1 σ1 H2 P1 (E1.tr s2) E2
   |true =>
    rw[if_pos rfl];dsimp only at h1;refine⟨λ σ' H'=>∃ρ' P',Am X.K P0 P' H' σ' ρ'/\Tr P0 P H P' H'/\gS X.K WX P0 P' H' Z (Av ft g1 m ρ'),λ σ' H' z=>⟨m,Nat.lt_succ_self m,z⟩,?_⟩;refine b2 P0 P1 σ1 H2 _ ρ1 E2 ?_;cases q2:g1 ρ1 with
    |bad=>rw[q2] at h1;exact h1
    |ex x=>rw[q2] at h1;exact λ H3 P3 t3=>h1 H3 P3 ((E1.tr s2).trans t3)
    |ok o =>
     rw[q2] at h1;have t2:=t1.trans (E1.tr s2);cases o with
     |next ρ'=>exact λ σ3 H3 P3 t3 E3=>⟨ρ',P3,E3,t2.trans t3,h1.tr ((E1.tr s2).trans t3)⟩
     |cont ρ'=>exact λ σ3 H3 P3 t3 E3=>⟨ρ',P3,E3,t2.trans t3,h1.tr ((E1.tr s2).trans t3)⟩
     |brk ρ'=>exact λ σ3 H3 P3 t3 E3=>h1 σ3 H3 P3 ((E1.tr s2).trans t3) E3
     |ret d=>exact λ v H3 P3 t3 hv=>h1 v H3 P3 ((E1.tr s2).trans t3) hv
     |CO d=>exact λ v fp H3 P3 t3=>h1 v fp H3 P3 ((E1.tr s2).trans t3)
     |F7 d ρ2=>exact λ v fp σ3 H3 P3 t3=>h1 v fp σ3 H3 P3 ((E1.tr s2).trans t3)
abbrev VJ (ds:List D):M D:=match ds with
 |[.int i]=>.ok (.int i)
 |[.bl b]=>.ok (.int (if b then 1 else 0))
 |_=>.bad
def gH:Ip X.K WX (λ xs H Q=>(∃i,xs=[.int i]/\Q (.int i) H)\/∃k,xs=[.bl k]/\Q (.int (if k then 1 else 0)) H) VJ:=by
 intro P H ds vs Q ht hl h;unfold VJ at h;split at h
 ·obtain⟨v,rfl,hv⟩:=hl.one;cases hv;exact .inl ⟨_,rfl,h _ H (Ad.refl H) (.int _)⟩
 ·obtain⟨v,rfl,hv⟩:=hl.one;cases hv;exact .inr ⟨_,rfl,h _ H (Ad.refl H) (.int _)⟩
 ·exact h.elim
def gI {p:Pos}(hg:Gl X "int")(hm:X.mg "int" = none)(ha:DE X WX c e f)(hb:bootBuiltins "int" = some (.type "int"):=by decide +kernel)(hs: ~~~(starEach [e] X.env=[(false,eval e X.env)])):DE X WX c (.Call (.Name "int" p) [e] [] pos) (λ ρ=>((f ρ).bind λ d=>(M.ok []).bind λ ds=>.ok (d::ds)).bind VJ):=
 OY WH gH hg hm hb (A2 ha A6 hs) (he:=hs)
abbrev GI:List D->Option (List Bool)
 |[]=>some []
 | .bl b::r=>(GI r).map (b::·)
 |_=>none
def MX (bs:List Bool):GI (bs.map D.bl)=some bs:=by
 induction bs with
 |nil=>rfl
 |cons b r ih=>rw[zx,GI,ih];rfl
def IS:∀ {ds:List D}{bs:List Bool},GI ds=some bs->ds=bs.map D.bl
 |[],bs,h=>by cases h;rfl
 | .bl b::r,bs,h=>by
  rw[GI] at h;cases q:GI r with
  |none=>rw[q] at h;cases h
  |some vd=>rw[q] at h;cases h;rw[IS q];rfl
 | .AL::r,bs,h| .int _::r,bs,h| .str _::r,bs,h| .tup _::r,bs,h| .lst _::r,bs,h| .F3 _::r,bs,h| .Bo _ _ _::r,bs,h| .ins _ _ _::r,bs,h=>by cases h
def IT {K:zr}{H:Hp}:∀ {vs:List V}{bs:List Bool},Ah K H vs (bs.map D.bl)->vs=bs.map V.bl
 |_,[],.nil=>rfl
 |_,b::r,.cons h t=>by cases h;rw[IT t];rfl
def IU:∀ {bs:List Bool}{us:List Value},Vals (bs.map V.bl) us->LSm.BoolsAre us bs
 |[],_,.nil=>.nil
 |b::r,_,.cons h t=>by cases h;exact .cons b (IU t)
def MY (hc:X.calm=true):F5 X (.builtin "all") (λ xs H Q=>∃p bs,xs=[.ref p]/\D7 X.K H p (List.map V.bl bs)/\Q (.bl (bs.all id)) H):=by
 intro pins s σ H xs us Q I r h;obtain⟨p,bs,rfl,hq,q⟩:=h;obtain⟨u,rfl,rx⟩:=vals1 r;cases rx;obtain⟨aa,r',pl,hz⟩:=I.list hq;have hl:=pl.isList;have hb:=IU r';have af:p<s.heap.objs.size:=by obtain⟨_,e,_⟩:=hl;exact zD e
 refine call_all_walk (wpAny_pyIter_list hl ?_);refine⟨s.heap.objs.size,[s.heap.objs.size,p],[s.heap.objs.size],aa.toArray.size,_,_,λ i=>(bs[i]?).getD true,rfl,Walks.list (A:=X.A.in1) (I.ok.hd hc) _ p (zM af) aa.toArray,
  ⟨⟨_,zN _ rfl,rfl,rfl⟩,hl.push _⟩,λ i v s' Q' E' hP hQ=>?_,λ h' tk hk=>?_⟩
 ·obtain⟨b,e,rfl⟩:=hb.get i v (by simpa using hP);simp only[e,Option.getD_some] at hQ;exact wpAny_truthy_bool hQ
 ·have e:((zan aa.toArray.size).all λ i=>(bs[i]?).getD true)=bs.all id:=by
   rw[z9,hb.length];exact LSm.range_all bs
  rw[e];exact⟨.bl _,H,I.kept (t':=tk) (LSm.kept_iter hk),rfl,q⟩
abbrev X5 (ds:List D):M D:=match ds with
 |[.lst xs]=>(match GI xs with|some bs=>.ok (.bl (bs.all id))|none=>.bad)
 |_=>.bad
def oI:Ip X.K WX (λ xs H Q=>∃p bs,xs=[.ref p]/\D7 X.K H p (List.map V.bl bs)/\Q (.bl (bs.all id)) H) X5:=by
 intro P H ds vs Q ht hl h;unfold X5 at h;split at h
 ·rename_i xs;obtain⟨v,rfl,hv⟩:=hl.one;split at h
  ·rename_i bs eb;have:=IS eb;subst this;cases hv with
   |lst hs hh =>
    have:=IT hh;subst this;exact⟨_,bs,rfl,hs.AY,h _ H (Ad.refl H) (.bl _)⟩
  ·exact h.elim
 ·exact h.elim
def Zd {p:Pos}(hc:X.calm=true)(hg:Gl X "all")(hm:X.mg "all" = none)(ha:DE X WX c e f)(hb:bootBuiltins "all" = some (.builtin "all"):=by decide +kernel)(hs: ~~~(starEach [e] X.env=[(false,eval e X.env)])):DE X WX c (.Call (.Name "all" p) [e] [] pos) (λ ρ=>((f ρ).bind λ d=>(M.ok []).bind λ ds=>.ok (d::ds)).bind X5):=
 GF (MY hc) oI hg hm hb (A2 ha A6 hs) (he:=hs)
end
abbrev Sm (n:Int):Prop:=za7 n<=2^20
def Ze:∀ {ns:List Int},W.WData.weightAll (ns.map W.WData.int)<=2^20->∀n∈ns,Sm n
 |m::r,h,n,hn=>by
  rw[zx,W.WData.weightAll,W.WData.weight] at h;rcases zB.mp hn with rfl|hn
  ·unfold Sm za7;omega
  ·exact Ze (by omega) n hn
def tJ {ns:List Int}(h:W.WData.layableAll [W.WData.list (ns.map W.WData.int)]=true):∀n∈ns,Sm n:=by
 unfold W.WData.layableAll at h;rw[zc8,zZ] at h;have h1:=h.1;unfold W.WData.layable at h1;rw[zZ,decide_eq_true_eq,W.WData.weight] at h1;exact Ze h1.2
end L2
namespace HT
open PySem PySem.W PyProof.Rows Spec Calls rh
def P9 {l:OpenLaw}{n:Nat}{q:Program}{loose:List Str}{XP:(Str->Option Value)->Heap->Prop}{YP:World->Heap->Prop}{d:DefRec}
 (hn:l.most=some n) (gl:d.params.defaults=[])
 (run:∀(w:World) (s₀ s₁:Shared) (mg mb:Str->Option Value) (fa:Addr) (o:Obj) (pm cd doc:Value) (a:Addr) (vs:List Value) (ns:List Int),(∀n∈ns,L2.Sm n)->
  Ground q loose [] XP w s₀ mg mb s₁.heap->YP w s₁.heap->s₁.heap.get? fa=some o->o.data=.func (docDef d.name d.params d.body d.scope pm cd doc)->s₁.heap.CodeRec cd d.name->mg d.name=some (.ref fa)->
  s₁.heap.get? a=some {cls:=.type "list",data:=.seq vs.toArray}->IntsAre vs ns->ns.length<=n->s₁.gens=#[]->
  codeAny (model l.prog w) callerA (.call (.ref fa) ⟨[.ref a],[]⟩) (λ r s'=>r=.ok (.ret (.bool true))/\OldK s₁.heap s'.heap/\s'.os=s₁.os/\AllBare s'.gens) s₁):
 WalkO q loose XP YP l.row.toRowW d [] (λ f vs=>PySem.call f vs):=by
 intro w s₀ s₁ mg mb G Y fa o pm cd doc dV kV ho hd bc hD gm hg args vals as cz n9 gn m7 im;obtain rfl:dV=.none:=Dflts.none hD gl;obtain rfl:kV=.none:=Dflts.noKw hD;obtain⟨a,vs,ns,rfl,rfl,bV,bm,hlen⟩:=WQ hn cz m7;refine enter_call (codeAny_mono (run w s₀ s₁ mg mb fa o pm cd doc a vs ns (L2.tJ n9) G Y ho (fd_plain hd) bc gm bV bm hlen hg) λ r s' hq=>?_);obtain⟨rfl,h2,h3,h4⟩:=hq;exact⟨.inl ⟨.bool true,.bool true,[],rfl,λ _=>rfl,.bool true,WR l _,λ _=>⟨List.Pairwise.nil,λ _ hm=>(nomatch hm)⟩⟩,h2,h3,h4⟩
end HT
namespace L2
open PySem PySem.Spec PyProof.Rows
def vA {l:PySem.W.OpenLaw}{n k:Nat}{q:Program}{loose:List Str}{XP:(Str->Option Value)->Heap->Prop}{YP:World->Heap->Prop}{d:DefRec}{K:Params->zr}{CX:World->Vl}{sp:World->Sp}{x:Str}
 (hn:l.most=some n) (aD:n<=sizeLine) (gl:d.params.defaults=[]) (hr:BC k callerA) (hY:∀(w:World) (h:Heap),YP w h->(K w.params).In h)
 (F:∀(w:World) (mg:Str->Option Value) (fa:Addr) (h:Heap),(K w.params).In h->h.Ns mainGlobals mg->mg d.name=some (.ref fa)->∃fd:FuncData,(∀(s:Shared) (u:Value),BindsTo s fd ⟨[u],[]⟩ [(x,u)])/\
  ∀base:Heap,(K w.params).In base->base.Ns mainGlobals mg->Dr l.prog w (K w.params) mg base (CX w) k fa fd [x] (sp w))
 (bF:∀(w:World) (H:Hp) (a:Addr) (ns:List Int),(∀n∈ns,Sm n)->ns.length<=n->fI H->D7 (K w.params) H a (ns.map V.int)->sp w [.ref a] H (λ v _=>v=.bl true) λ _ _ _=>False)
 (jf:∀(w:World) (H:Hp) (s:Shared) (e:Value) (s':Shared),CX w [] H s (λ _ _ _=>False) e s'->False):PySem.W.WalkO q loose XP YP l.row.toRowW d [] (λ f vs=>PySem.call f vs):=by
 refine HT.P9 hn gl λ w s₀ s₁ mg mb fa o pm cd doc a vs ns bv G Y ho hd bc gm bV bm hlen hg=>?_;have KX:=hY w _ Y;obtain⟨fd,hb,hF⟩:=F w mg fa _ KX G.T.g gm;exact RU KX G.T.g G.T.b G.T.builtins G.T.nolimit hg bV bm (zal hlen aD) hr hF hb (λ H hO hS=>bF w H a ns bv hlen hO hS) λ H e s'=>jf w H s₁ e s'
def gJ {F:List D->M D}(h:∀ns:List Int,ns.length<=63->(∀n∈ns,Sm n)->F [.lst (ns.map D.int)]=.ok (.bl true))(K:zr)(H:Hp)(a:Addr)(ns:List Int)(bv:∀n∈ns,Sm n)(hl:ns.length<=63)(hS:D7 K H a (ns.map V.int)):Uq K 1 F [.ref a] H (λ v _=>v=.bl true) λ _ _ _=>False:=by
 refine⟨rfl,λ _=>False,[.lst (ns.map D.int)],λ _ z=>z.elim,.cons (.lst ?_ (Ah.ints ns)) .nil,?_⟩
 ·have e:del H (λ _=>False)=H:=by funext b;exact Au (λ z=>z)
  rw[e];exact hS
 ·rw[h ns hl bv];exact λ v H' s hv=>hv.MQ
abbrev Pa (i j:Int):Prop:=(za7 i<=2^20+1/\za7 j<=2^10)\/Sa i j
def X6 {a b:Int}(h:za7 a+za7 b<=2^21):IntMulOk a b:=by
 have e:(2:Nat)^21=2097152:=by decide
 have h2:Builtin.Int.intTooBig (za7 a+za7 b)=false:=by
  unfold Builtin.Int.intTooBig bitsLine;exact decide_eq_false (by omega)
 unfold IntMulOk;rw[h2];simp
def Pa.ok {i j:Int}(h:Pa i j):IntMulOk i j:=by
 rcases h with ⟨h1,h2⟩|h
 ·exact X6 (by omega)
 ·exact h.ok
def gK {X:Cx}:Gv X (binaryOp .Mult) (rI Pa λ i j=>.int (i*j)):=uT λ _ _ _ _ _ _ _ hc q=>mul_int q hc.ok
noncomputable instance (i j:Int):Decidable (Pa i j):=zci _
abbrev Iq:=BD λ i j=>if Pa i j then .ok (.int (i*j)) else .bad
def Ed {i j:Int}(h:Pa i j):Iq (.int i) (.int j)=.ok (.int (i*j)):=by
 unfold Iq BD;dsimp only;rw[if_pos h]
def FA {X:Cx}{WX:Str->Hp->Prop}{c:Bool}{a b:Expr}{f g:Ae->M D}{pos:Pos}(ha:DE X WX c a f)(hb:DE X WX c b g):DE X WX c (.BinOp a .Mult b pos) (λ ρ=>(f ρ).bind λ x=>(g ρ).bind λ y=>Iq x y):=OW gK (Qo λ _ _ _ _=>.int _) ha hb
def bits_le {n:Int}{k:Nat}(h:n.natAbs<2^k):za7 n<=k:=by
 unfold za7;split
 ·exact za6 _
 ·rename_i hn;have hp:n.natAbs≠0:=by simpa using hn
  exact (Nat.log2_lt hp).mpr h
def X7 {c x:Int}(h:Sm c)(hx:x.natAbs<2^20):za7 (c+x)<=2^20+1:=by
 refine bits_le ?_;have h1:=natAbs_lt_pow_bits c;have h2:(2:Nat)^za7 c<=2^(2^20):=Nat.pow_le_pow_right (by omega) h;have h3:(2:Nat)^20<=2^(2^20):=Nat.pow_le_pow_right (by omega) (by omega);have h4:(c+x).natAbs<=c.natAbs+x.natAbs:=Int.natAbs_add_le c x;rw[Nat.pow_succ];omega
mutual
noncomputable def Jr:D->Bool
 | .tup a=>Js a
 | .lst _| .F3 _| .Bo _ _ _| .ins _ _ _=>false
 |_=>true
noncomputable def Js:List D->Bool
 |[]=>true
 |a::r=>Jr a&&Js r
end
def VL {H:Hp}{P0 P:Addr->Prop}{a:Addr}{xs:List V}(ht:∀a,P a->DB H a)(h:del H P0 a=some (.tup xs)):del H P a=some (.tup xs):=by
 obtain⟨h1,h2⟩:=An h;rw[Au λ z=>by
  obtain⟨o',q,r⟩:=ht a z;rw[h2] at q;cases q;exact (r xs).1 rfl]
 exact h2
mutual
theorem BX.Jr {K:zr}{H:Hp}{P0 P:Addr->Prop}(ht:∀a,P a->DB H a):∀ {v:V}{d:D},Jr d=true->BX K (del H P0) v d->BX K (del H P) v d
 |_,_,_,.AL=>.AL
 |_,_,_,.bl b=>.bl b
 |_,_,_,.int i=>.int i
 |_,_,_,.str x=>.str x
 |_,_,n,.tup h r=>.tup (VL ht h) (Ah.Jr ht (by rw[L2.Jr] at n;exact n) r)
 |_,_,n,.lst h r|_,_,n,.F3 h r|_,_,n,.Vw h r|_,_,n,.Vx h r|_,_,n,.ins _ h r=>by rw[L2.Jr] at n;cases n
theorem Ah.Jr {K:zr}{H:Hp}{P0 P:Addr->Prop}(ht:∀a,P a->DB H a):∀ {vs:List V}{ds:List D},Js ds=true->Ah K (del H P0) vs ds->Ah K (del H P) vs ds:=by
 intro _ _ n x_;cases x_ with
 |nil=>exact .nil
 |cons h t =>
  rw[Js,zZ] at n;exact .cons (BX.Jr ht n.1 h) (Ah.Jr ht n.2 t)
end
abbrev dp (m:M D):M D:=m.bind λ d=>if Jr d=true then .ok d else .bad
def VM {X:Cx}{WX:Str->Hp->Prop}{e:Expr}{f:Ae->M D}(h:DE X WX false e f):DE X WX true e (λ ρ=>dp (f ρ)):=by
 obtain⟨t,h1,h2⟩:=h;refine⟨t,h1,λ P0 P σ H Q ρ E g=>h2 P0 P σ H Q ρ E ?_⟩;unfold dp at g;dsimp only at g;cases e:f ρ with
 |ok d =>
  rw[e] at g;simp only[M.A9] at g;by_cases hf:Jr d=true
  ·rw[if_pos hf] at g;exact λ v H' s hv=>g v H' s (hv.Jr (E.same s).C8 hf)
  ·rw[if_neg hf] at g;exact g.elim
 |ex x|bad=>rw[e] at g;exact g
section
variable {α:Type}(lt:α->α->Prop)
abbrev O3:List α->List α->Prop
 |y::ys,x::xs=>(lt y x/\ys.length=xs.length)\/(y=x/\O3 ys xs)
 |_,_=>False
def O3.len:∀ {ys xs:List α},O3 lt ys xs->ys.length=xs.length
 |y::ys,x::xs,h=>by
  rcases h with ⟨_,h⟩|⟨_,h⟩
  ·rw[z7,z7,h]
  ·rw[z7,z7,O3.len h]
 |[],[],h|[],_::_,h|_::_,[],h=>h.elim
def Zf (n:Nat)(ih:∀xs:List α,xs.length=n->Acc (O3 lt) xs){x:α}(hx:Acc lt x):∀ {xs:List α},xs.length=n->Acc (O3 lt) xs->Acc (O3 lt) (x::xs):=by
 induction hx with
 |intro x _ ve =>
  intro xs hl cj;induction cj with
  |intro xs _ oe =>
   refine .intro _ λ zs h=>?_;cases zs with
   |nil=>exact h.elim
   |cons y ys =>
    rcases h with ⟨h1,h2⟩|⟨h1,h2⟩
    ·exact ve y h1 (h2.trans hl) (ih ys (h2.trans hl))
    ·subst h1;exact oe ys h2 ((O3.len lt h2).trans hl)
def MZ (h:∀x,Acc lt x):∀(n:Nat) (xs:List α),xs.length=n->Acc (O3 lt) xs
 |0,[],_=>.intro _ λ zs h=>by cases zs<;>exact h.elim
 |n+1,x::xs,e=>Zf lt n (MZ h n) (h x) (by simpa using e) (MZ h n xs (by simpa using e))
def VN:∀ {xs:List α}{i:Nat}{y:α}{x:α},xs[i]?=some x->lt y x->O3 lt (xs.set i y) xs
 |[],_,_,_,h,_=>by cases h
 |z::zs,0,y,x,h,hl=>by
  cases h;exact .inl ⟨hl,rfl⟩
 |z::zs,i+1,y,x,h,hl=>.inr ⟨rfl,VN (by simpa using h) hl⟩
def O3.trans (ht:∀a b c,lt a b->lt b c->lt a c):∀ {xs ys zs:List α},O3 lt xs ys->O3 lt ys zs->O3 lt xs zs
 |x::xs,y::ys,z::zs,h1,h2=>by
  rcases h1 with ⟨a,b⟩|⟨rfl,b⟩
  ·rcases h2 with ⟨c,d⟩|⟨rfl,d⟩
   ·exact .inl ⟨ht _ _ _ a c,b.trans d⟩
   ·exact .inl ⟨a,b.trans (O3.len lt d)⟩
  ·rcases h2 with ⟨c,d⟩|⟨rfl,d⟩
   ·exact .inl ⟨c,(O3.len lt b).trans d⟩
   ·exact .inr ⟨rfl,O3.trans ht b d⟩
 |[],_,_,h,_|_::_,[],_,h,_|_::_,_::_,[],_,h=>by cases h
end
section
variable {X:Cx}{WX:Str->Hp->Prop}{c:Bool}{P0:Eb}{P:Addr->Prop}{H:Hp}{σ:St}{ρ:Ae}{a b e:Expr}{f g g2:Ae->M D}{pos:Pos}
def Am.forget {K:zr}(E:Am K P0 P H σ ρ)(k:Nat):Am K P0 P H σ (ρ.set k none):=by
 have key:∀(j:Nat) (cl:Cl),(ρ.set k none)[j]?=some (some cl)->k≠j/\ρ[j]?=some (some cl):=λ j cl h=>by
  rcases get_set h with ⟨_,_,z⟩|z
  ·cases z
  ·exact z
 exact⟨E.sub,E.C8,λ j d h=>E.val j d (key j _ h).2,λ j d h io=>E.ows j d (key j _ h).2 io,λ i j c c' v v' fp ag h1 h2=>E.apart i j c c' v v' fp ag (key i _ h1).2 (key j _ h2).2,by rw[zap];exact E.len,λ j c n h hp=>E.pin j c n (key j _ h).2 hp⟩
def gL (i:Nat){x:Str}{pos' db:Pos}(hN:X.N.Nodup)(hi:X.N[i]?=some x)(hx:Loc X.env.scope x)(hs: ~~~(swapsWith (.List [] db) (some (.Name x pos')) pos.line X.env=pure false))(hf:X.fn x=true\/X.env.scope.names.lookup x=some .local:=by first | exact .inl rfl | exact .inr rfl | assumption):
 DS X WX (.Assign [.Name x pos'] (.List [] db) pos) (λ ρ=>.ok (.next (ρ.set i (some (.ow (.rows [])))))):=by
 refine⟨_,U4 hN hi hx (Q9 Cn) hs hf,λ P0 P σ H Z ρ E h=>?_⟩;refine⟨za6 _,λ p hp=>?_⟩;have nP:¬ P p:=λ z=>(E.C8 p z).no hp;have sm:Ad (del H P) (del (upd H p (.lst [])) (λ a=>P a\/a=p)):=λ b o e=>by
  obtain⟨h1,h2⟩:=An e;have hb:b≠p:=Ax h2 hp;rw[Au (λ z=>z.elim h1 hb),Ai hb];exact h2
 refine h _ _ (λ a=>P a\/a=p) ⟨sm,λ a ha=>by rw[Ai (λ z=>nP (by rw[<-z];exact E.sub a ha))]⟩ (E.X1 (fp:=[p]) (λ a h=>.inl h) (λ a h=>?_) sm (λ j c' v' ag ae h1 h2 h3 a ha=>?_) ⟨p,[],rfl,rfl,Ap,.nil⟩ (λ a ha=>?_) (by simp))
 ·by_cases ha:a=p
  ·subst ha;exact DB.lst Ap
  ·rcases h with h|h
   ·unfold DB;rw[Ai ha];exact E.C8 a h
   ·exact absurd h ha
 ·obtain⟨ys,q⟩:=h3.at a ha;have hn:a≠p:=Ax q hp;exact⟨Ai hn,λ z=>hn (zy.mp z)⟩
 ·rw[zy.mp ha];exact⟨.inr rfl,λ z=>nP (E.sub p z)⟩
def BG.snoc {K:zr}{H:Hp}{P:Addr->Prop}{q:Addr}{xs:List V}{ds:List D}(hq:H q=some (.lst xs))(hx:Ah K (del H P) xs ds):∀ {ps:List Addr}{C5:List (List D)},BG K H P ps C5->BG K H P (ps++[q]) (C5++[ds]):=by
 intro _ _ x_;cases x_ with
 |nil=>exact .cons hq hx .nil
 |cons h r t=>exact .cons h r (t.snoc hq hx)
abbrev Zg (i k:Nat)(ρ:Ae):M Out:=match ρ[i]?,ρ[k]? with
 |some (some (.ow (.rows C5))),some (some (.own ds))=>if C5.length<1000/\i≠k then .ok (.next ((ρ.set k none).set i (some (.ow (.rows (C5++[ds])))))) else .bad
 |_,_=>.bad
def gM (i k:Nat){x y:Str}{p1 p2 apos ad:Pos}(hv:PE X (.Name x p1) (LR i))(hw:PE X (.Name y p2) (LR k))(hs: ~~~(starEach [.Name y p2] X.env=[(false,eval (.Name y p2) X.env)]))(bh: ~~~(swapsWith (.Call (.Attribute (.Name x p1) "append" apos) [.Name y p2] [] ad) none pos.line X.env=pure false))(ar: ~~~(attributeBase (.Name x p1) "append" X.env (eval (.Name x p1) X.env)=eval (.Name x p1) X.env))(aE: ~~~(((backTo ad (starEach [.Name y p2] X.env)).all (λ x => !x.1)&&(backToKw ad (keywordEach [] X.env)).all (λ x=>x.1.isSome)&&decide (([.Name y p2]:List Expr).length+([]:List Keyword).length+(if ([]:List Keyword).isEmpty then 0 else 1)<30))=true))(au: ~~~((apos.endLine==ad.line)=true))(ak: ~~~((backTo ad (starEach [] X.env)).any (·.1)=false)):
 DS X WX (.Expr (.Call (.Attribute (.Name x p1) "append" apos) [.Name y p2] [] ad) pos) (Zg i k):=by
 refine⟨_,Fq (OO zba PySem.F.slot_list_append PySem.F.type_list_append KC hv (Bn hw Cn hs) ar aE au hs ak) bh,λ P0 P σ H Z ρ E h=>?_⟩;unfold Zg at h;split at h
 ·rename_i C5 ds e1 e2;by_cases hl:C5.length<1000/\i≠k
  ·rw[if_pos hl] at h;obtain⟨v,fp,h1,o1,h4,nd⟩:=E.ows i _ e1 rfl;obtain⟨w,fq,k1,o2,k4,_⟩:=E.ows k _ e2 rfl;have oa:=o1;have ob:=o2;obtain⟨p,ps,rfl,rfl,h2,h3⟩:=o1;obtain⟨q,xs,rfl,rfl,k2,k3⟩:=o2;refine⟨_,h1,.inl ⟨rfl,_,.of h2⟩,⟨_,k1,p,_,_,rfl,rfl,h2,AA (by rw[zu,h3.length];exact zam hl.1),?_⟩⟩;have pP:=h4 p zv;have sd:del (upd H p (.lst (ps.map V.ref++[V.ref q]))) P=del H P:=by
    funext b;by_cases hb:P b
    ·rw[D9 hb,D9 hb]
    ·rw[Au hb,Au hb,Ai (λ z=>hb (by rw[z];exact pP.1))]
   have sm:Ad (del H P) (del (upd H p (.lst (ps.map V.ref++[V.ref q]))) P):=by rw[sd];exact Ad.refl _
   have qn:q∉p::ps:=λ z=>E.apart i k _ _ _ _ _ _ e1 e2 h1 k1 oa ob hl.2 q z (zy.mpr rfl);have qp:q≠p:=λ z=>qn (by rw[z];exact zv);have key:=(E.forget k).X1 (P':=P) (H':=upd H p (.lst (ps.map V.ref++[V.ref q]))) (i:=i) (v:=.ref p) (c:=.ow (.rows (C5++[ds]))) (fp:=p::(ps++[q])) (λ a h=>h) (λ a h=>?_) sm (λ j c' v' ag ae g1 g2 g3 a ha=>?_)
    ⟨p,ps++[q],rfl,rfl,by rw[zK];exact Ap,?_⟩ (λ a ha=>?_) ?_
   ·rw[KJ h1] at key;exact h _ _ _ ⟨sm,λ a h=>by rw[Ai (λ z=>pP.2 (by rw[<-z];exact h))]⟩ key
   ·by_cases ha:a=p
    ·subst ha;exact DB.lst Ap
    ·unfold DB;rw[Ai ha];exact E.C8 a h
   ·have hj:k≠j/\ρ[j]?=some (some c'):=by
     rcases get_set g1 with ⟨_,_,z⟩|z
     ·cases z
     ·exact z
    have n1:=E.apart j i _ _ _ _ _ _ hj.2 e1 g2 h1 g3 oa (zac ae) a ha;have n2:=E.apart j k _ _ _ _ _ _ hj.2 e2 g2 k1 g3 ob (zac hj.1) a ha;have ap:a≠p:=λ z=>n1 (by rw[z];exact zv);refine⟨Ai ap,λ z=>?_⟩;rcases zB.mp z with z|z
    ·exact ap z
    ·rcases zJ.mp z with z|z
     ·exact n1 (zw _ z)
     ·exact n2 z
   ·refine BG.snoc (xs:=xs) (by rw[Ai qp];exact k2) (by rw[sd];exact k3) (h3.move sm λ a ha=>Ai λ z=>?_);rw[zag] at nd;exact nd.1 (by rw[<-z];exact ha)
   ·rcases zB.mp ha with rfl|ha
    ·exact pP
    ·rcases zJ.mp ha with ha|ha
     ·exact h4 a (zw _ ha)
     ·exact k4 a ha
   ·rw[zag] at nd ⊢;refine⟨λ z=>?_,?_⟩
    ·rcases zJ.mp z with z|z
     ·exact nd.1 z
     ·exact qp (zy.mp z).symm
    ·rw[zQ];refine⟨nd.2,by simp,λ x hx y hy z=>?_⟩;rw[zy.mp hy] at z;exact qn (zw _ (z▸hx))
  ·rw[if_neg hl] at h;exact h.elim
 ·exact h.elim
def Zh {α:Type}{l:List α}{k:Int}{n:Nat}(h:ON l.length k=some n):RS l k=l[n]? :=by
 unfold RS;rw[h];rfl
abbrev rowAt (C5:List (List D))(ka:D):M (List D):=match ka with
 | .int j=>(match ON C5.length j with|some n=>(match C5[n]? with|some ds=>.ok ds|none=>.bad)|none=>.bad)
 |_=>.bad
def Pb {C5:List (List D)}{ka:D}{m:M (List D)}(h:rowAt C5 ka=m)(hb:m≠.bad):∃j n ds,ka=.int j/\ON C5.length j=some n/\C5[n]?=some ds/\m=.ok ds:=by
 subst h;unfold rowAt at hb ⊢;split at hb
 ·rename_i j;split at hb
  ·rename_i n en;split at hb
   ·rename_i ds ed;exact⟨j,n,ds,rfl,en,ed,by simp only[en,ed]⟩
   ·exact (hb rfl).elim
  ·exact (hb rfl).elim
 ·exact (hb rfl).elim
abbrev gN (i:Nat)(ρ:Ae)(ma mb:M D):M D:=match ρ[i]? with
 |some (some (.ow (.rows C5)))=>ma.bind λ ka=>(rowAt C5 ka).bind λ ds=>mb.bind λ kb=>fZ (.lst ds) kb
 |_=>.bad
def tK {K:zr}{P:Addr->Prop}{Q:VK}{m:M D}(h:gV K WX P H Q m):m≠.bad:=λ e=>by rw[e] at h;exact h
def VO {α β:Type}{m:M α}{k:α->M β}(h:m.bind k≠.bad):m≠.bad:=λ e=>by rw[e] at h;exact h rfl
def Ux (i:Nat){x:Str}{p1 p2:Pos}(hv:PE X (.Name x p1) (LR i))(ha:DE X WX true a f)(hb:DE X WX true b g)(hs:HA a:=by exact λ _ _=>rfl)(aO:HA b:=by exact λ _ _=>rfl):
 DE X WX true (.Subscript (.Subscript (.Name x p1) a p2) b pos) (λ ρ=>gN i ρ (f ρ) (g ρ)):=by
 obtain⟨ta,a1,a2⟩:=ha;obtain⟨tb,b1,b2⟩:=hb;refine⟨_,Vr M2 (Vr M2 hv a1 hs) b1 aO,λ P0 P σ H Q ρ E h=>?_⟩;dsimp only at h;unfold gN at h;split at h
 ·rename_i C5 e1;obtain⟨v,fp,h1,⟨p,ps,rfl,rfl,h2,h3⟩,h4,nd⟩:=E.ows i _ e1 rfl;refine⟨_,h1,a2 P0 P σ H _ ρ E ?_⟩;refine Yc h λ ka h=>?_;intro w H1 s1 hw;obtain⟨j,n,ds,rfl,en,ed,em⟩:=Pb rfl (VO (tK h));rw[em] at h;simp only[M.A9] at h;cases hw;obtain⟨r,xs,r1,r2,r3⟩:=h3.get ed;have hl:ON (ps.map V.ref).length j=some n:=by rw[zu,h3.length];exact en
  refine⟨p,_,j,.ref r,rfl,rfl,.of (s1 _ _ h2),by rw[Zh hl,zU,r1];rfl,?_⟩;refine b2 P0 P σ H1 _ ρ (E.same s1) ?_;cases q2:g ρ with
  |bad=>rw[q2] at h;exact h.elim
  |ex x=>rw[q2] at h;exact λ H' s'=>h H' (s1.trans s')
  |ok kb =>
   rw[q2] at h;simp only[M.A9] at h;intro u H2 s2 hu;unfold fZ at h;split at h
   ·rename_i bj;cases bj
   ·rename_i jm j' bj;cases bj;split at h
    ·rename_i d e;cases hu;obtain⟨z,k1,k2⟩:=(r3.mono (s1.trans s2).del).RS e;exact⟨r,xs,j',z,rfl,rfl,.of (s2 _ _ (s1 _ _ r2)),k1,h _ H2 (s1.trans s2) k2⟩
    ·exact h.elim
   ·exact h.elim
 ·exact h.elim
def BG.set {K:zr}{H H':Hp}{P:Addr->Prop}(sm:Ad (del H P) (del H' P)){r:Addr}{xs:List V}{ds:List D}(hr:H' r=some (.lst xs))(hx:Ah K (del H' P) xs ds)(k:∀a,a≠r->H' a=H a):∀ {ps:List Addr}{C5:List (List D)}{n:Nat},ps.Nodup->ps[n]?=some r->BG K H P ps C5->BG K H' P ps (C5.set n ds)
 |_,_,_,_,e,.nil=>by simp at e
 |_,_,0,nd,e,.cons h1 h2 t=>by
  simp at e;subst e;rw[zag] at nd;exact .cons hr hx (t.move sm λ a ha=>k a λ z=>nd.1 (by rw[<-z];exact ha))
 |q::ps,d::C5,n+1,nd,e,.cons h1 h2 t=>by
  rw[zag] at nd;have e':ps[n]?=some r:=by simpa using e
  refine .cons ((k q λ z=>nd.1 (by rw[z];exact zI e')).trans h1) (h2.mono sm) (t.set sm hr hx k nd.2 e')
abbrev gO (i:Nat)(ρ:Ae)(C5:List (List D))(d ka:D)(ds:List D)(kb:D):M Out:=match ka,kb with
 | .int j,.int l=>(match ON C5.length j,ON ds.length l with|some n,some m=>.ok (.next (ρ.set i (some (.ow (.rows (C5.set n (ds.set m d)))))))|_,_=>.bad)
 |_,_=>.bad
abbrev VP (i:Nat)(ρ:Ae)(ma mb:M D)(d:D):M Out:=match ρ[i]? with
 |some (some (.ow (.rows C5)))=>ma.bind λ ka=>(rowAt C5 ka).bind λ ds=>mb.bind λ kb=>gO i ρ C5 d ka ds kb
 |_=>.bad
def gQ (i:Nat){x:Str}{p1 p2 al:Pos}(hv:PE X (.Name x p1) (LR i))(he:DE X WX true e g2)(ha:DE X WX true a f)(hb:DE X WX true b g)(vg:HA a:=by exact λ _ _=>rfl)(hs: ~~~(swapsWithSole [.Subscript (.Subscript (.Name x p1) a p2) b al] e pos.line X.env=pure false))(hw: ~~~(swappedStores [.Subscript (.Subscript (.Name x p1) a p2) b al] e X.env=pure none))(h1: ~~~((assignEach [.Subscript (.Subscript (.Name x p1) a p2) b al] X.env).map (·.2)=[assign (.Subscript (.Subscript (.Name x p1) a p2) b al) X.env]))(gj:∀v,assign (.Subscript (.Subscript (.Name x p1) a p2) b al) X.env v=(do
  let ov <-holding [v] (eval (.Subscript (.Name x p1) a p2) X.env);let iv <-holding [v,ov] (eval b X.env)
  standAt al
  holding [v,ov,iv] (setItem ov iv v)
  release [v,ov,iv] []):=by intro _;rfl):
 DS X WX (.Assign [.Subscript (.Subscript (.Name x p1) a p2) b al] e pos) (λ ρ=>(g2 ρ).bind (VP i ρ (f ρ) (g ρ))):=by
 obtain⟨te,e1,e2⟩:=he;obtain⟨ta,a1,a2⟩:=ha;obtain⟨tb,b1,b2⟩:=hb;refine⟨_,Yr e1 (Yq (Vr M2 hv a1 vg) b1 set_list gj) hs hw h1,λ P0 P σ H Z ρ E h=>?_⟩;dsimp only at h;refine e2 P0 P σ H _ ρ E ?_;refine eC h E λ d h=>?_;intro v H0 s0 og;have E0:=E.same s0;unfold VP at h;split at h
 ·rename_i C5 r9;obtain⟨v',fp,h1,o1,h4,nd⟩:=E0.ows i _ r9 rfl;have oa:=o1;obtain⟨p,ps,rfl,rfl,h2,h3⟩:=o1;refine⟨_,h1,a2 P0 P σ H0 _ ρ E0 ?_⟩;cases q:f ρ with
  |bad=>rw[q] at h;exact h.elim
  |ex x=>rw[q] at h;exact λ H' s=>h H' P ((E.tr s0).trans (E0.tr s))
  |ok ka =>
   rw[q] at h;simp only[M.A9] at h;intro w H1 s1 hw;obtain⟨j,n,ds,rfl,en,ed,em⟩:=Pb rfl (VO (lA h));rw[em] at h;simp only[M.A9] at h;cases hw;obtain⟨r,xs,r1,r2,r3⟩:=h3.get ed;have hl:ON (ps.map V.ref).length j=some n:=by rw[zu,h3.length];exact en
   refine⟨p,_,j,.ref r,rfl,rfl,.of (s1 _ _ h2),by rw[Zh hl,zU,r1];rfl,?_⟩;have E1:=E0.same s1;refine b2 P0 P σ H1 _ ρ E1 ?_;cases q2:g ρ with
   |bad=>rw[q2] at h;exact h.elim
   |ex x=>rw[q2] at h;exact λ H' s'=>h H' P ((E.tr s0).trans ((E0.tr s1).trans (E1.tr s')))
   |ok kb =>
    rw[q2] at h;simp only[M.A9] at h;intro u H2 s2 hu;unfold gO at h;split at h
    ·rename_i j' l bj;cases bj;cases hu;split at h
     ·rename_i n' m em vh;rw[en] at em;cases em;have E2:=E1.same s2;have aK:=s1.trans s2;have rm:r∈ps:=zI r1;have rP:=h4 r (zw _ rm);have d4:=zag.mp nd;have rp:r≠p:=λ z=>d4.1 (by rw[<-z];exact rm);have sd:del (upd H2 r (.lst (xs.set m v))) P=del H2 P:=by
       funext b;by_cases hb:P b
       ·rw[D9 hb,D9 hb]
       ·rw[Au hb,Au hb,Ai (λ z=>hb (by rw[z];exact rP.1))]
      have sm:Ad (del H2 P) (del (upd H2 r (.lst (xs.set m v))) P):=by rw[sd];exact Ad.refl _
      have ob:=oa.same aK;refine⟨r,xs,l,m,rfl,rfl,aK _ _ r2,by rw[r3.length];exact vh,?_⟩;have key:=E2.X1 (P':=P) (H':=upd H2 r (.lst (xs.set m v))) (i:=i) (v:=.ref p) (c:=.ow (.rows (C5.set n (ds.set m d)))) (fp:=p::ps) (λ a h=>h) (λ a h=>?_) sm (λ j2 c' v' ag ae g1 g2 g3 a ha=>?_)
       ⟨p,ps,rfl,rfl,by rw[Ai (zac rp)];exact aK _ _ h2,?_⟩ h4 nd
      ·rw[KJ h1] at key;exact h _ _ _ ((E.tr s0).trans ((E0.tr aK).trans ⟨sm,λ a h=>by rw[Ai (λ z=>rP.2 (by rw[<-z];exact h))]⟩)) key
      ·by_cases ha:a=r
       ·subst ha;exact DB.lst Ap
       ·unfold DB;rw[Ai ha];exact E2.C8 a h
      ·have n1:=E2.apart j2 i _ _ _ _ _ _ g1 r9 g2 h1 g3 ob (zac ae) a ha;exact⟨Ai λ z=>n1 (by rw[z];exact zw _ rm),n1⟩
      ·have vi:BG X.K H2 P ps C5:=h3.move aK.del λ a ha=>by obtain⟨ys,z⟩:=h3.at a ha;rw[z];exact aK _ _ z
       refine vi.set sm Ap ?_ (λ a ha=>Ai ha) d4.2 r1;rw[sd];exact MV ((og.mono s1.del).mono s2.del) m (r3.mono aK.del)
     ·exact h.elim
    ·exact h.elim
 ·exact h.elim
end
section
variable {X:Cx}{WX:Str->Hp->Prop}{c:Bool}{P0:Eb}{P:Addr->Prop}{H:Hp}{σ:St}{ρ:Ae}{a b e:Expr}{f g g2:Ae->M D}{pos:Pos}
def Fb:∀ {ds:List D}{ns:List Int},CS ds=some ns->ds=ns.map D.int
 |[],ns,h=>by cases h;rfl
 | .int b::r,bs,h=>by
  rw[CS] at h;cases q:CS r with
  |none=>rw[q] at h;cases h
  |some vd=>rw[q] at h;cases h;rw[Fb q];rfl
 | .AL::r,bs,h| .bl _::r,bs,h| .str _::r,bs,h| .tup _::r,bs,h| .lst _::r,bs,h| .F3 _::r,bs,h| .Bo _ _ _::r,bs,h| .ins _ _ _::r,bs,h=>by cases h
def Ee {K:zr}{H:Hp}:∀ {vs:List V}{bs:List Int},Ah K H vs (bs.map D.int)->vs=bs.map V.int
 |_,[],.nil=>rfl
 |_,b::r,.cons h t=>by cases h;rw[Ee t];rfl
end
def oJ {P P2:Addr->Prop}{H H':Hp}(t:Tr P P H P2 H'){a:Addr}(h:P2 a)(hn:¬ P a):H a=none:=by
 cases q:H a with
 |none=>rfl
 |some o =>
  have:=t.1 a o (by rw[Au hn];exact q);exact ((An this).1 h).elim
section
variable {X:Cx}{WX:Str->Hp->Prop}{c:Bool}{P0:Eb}{P:Addr->Prop}{H:Hp}{σ:St}{ρ:Ae}{a b e:Expr}{f g:Ae->M D}{pos:Pos}
abbrev gR:V->List V->Hp->VK->Prop:=λ x vs H Q=>∃(l:Addr) (xs:List V) (k:Nat) (y:V),x=.ref l/\vs=[.int (k:Int),y]/\H l=some (.lst xs)/\k<=xs.length/\xs.length<sizeLine/\Q .AL (upd H l (.lst (xs.take k++y::xs.drop k)))
def Se:∀ {xs:List V}{us:List Value}{y:V}{w:Value},Vals xs us->∀k:Nat,RelV y w->Vals (xs.take k++y::xs.drop k) (us.take k++w::us.drop k)
 |_,_,_,_,r,0,h=>.cons h r
 |_,_,_,_,.nil,k+1,h=>.cons h .nil
 |_,_,_,_,.cons a t,k+1,h=>.cons a (Se t k h)
def Zi {prog:Program}{wd:World}{A:Around}{E:Value->Shared->Prop}{s:Shared}{Q:Value->Shared->Prop}{l:Addr}{items:Array Value}{n:Nat}(x:Int)(u:Tok)(y:Value)(hc:¬(!Builtin.List.listFitsIndex x)=true)(hs:items.size<=sizeLine)
 (e:s.heap.get? l=some {cls:=.type "list",data:=.seq items n})
 (h:Q .none {s with heap:=s.heap.update l (zbq λ xs=>(xs.extract 0 (if x<0 then (x+(xs.size:Int)).toNat else min x.toNat xs.size)).push y++xs.extract (if x<0 then (x+(xs.size:Int)).toNat else min x.toNat xs.size)),toks:=s.toks}):wpAny (model prog wd) A (call (.builtin "list.insert") [.ref l,.int x u,y]) Q E s:=by
 have hm:=PySem.AutoSeq1.list_insert_list_int_val_1 l items n x u y hc hs;have ha:=PySem.F.args_list_insert_3 (.ref l) (.int x u) y;exact call_meets PySem.F.slot_list_insert ⟨_,e,rfl⟩ PySem.F.entry_list_insert ha hm ⟨e,h⟩
def X8:uW X "list.insert" gR:=by
 intro pins s σ H x vs v us Q I rx rv h;obtain⟨l,xs,k,y,rfl,rfl,hH,hk,hz,q⟩:=h;cases rx;obtain⟨u,w,rfl,ru,bg⟩:=rv.two;obtain⟨tk,rfl⟩:=ru;obtain⟨z,aa,n,r,hl,e⟩:=I.WN hH;have hlen:=r.length;have y8:=Kz;have fj:¬ (!Builtin.List.listFitsIndex (k:Int))=true:=by
  unfold Builtin.List.listFitsIndex;simp;omega
 have hsz:aa.toArray.size<=sizeLine:=by rw[z9,<-hl];exact zam hz
 refine Zi (k:Int) tk w fj hsz e ?_;refine⟨.AL,_,I.fF (its':=aa.take k++w::aa.drop k) hH e ?_ ?_ ?_,rfl,q⟩
 ·have e1:¬ ((k:Int)<0):=by omega
  have e2:min (k:Int).toNat aa.toArray.size=k:=by rw[zat,z9];omega
  simp only[e1,if_false,e2];apply Array.toList_inj.mp;simp;rw[zbw (by rw[zcf];exact zF _)]
 ·exact Se r k bg
 ·rw[zW,z7,zaf,zcf];omega
abbrev X9 (i:Nat)(ρ:Ae)(mk md:M D):M Out:=match ρ[i]? with
 |some (some (.own ds))=>mk.bind λ k=>md.bind λ d=>match k with
  | .int j=>if 0<=j/\j.toNat<=ds.length/\ds.length<1000 then .ok (.next (ρ.set i (some (.own (ds.take j.toNat++d::ds.drop j.toNat))))) else .bad
  |_=>.bad
 |_=>.bad
def Pc {K:zr}{H:Hp}:∀ {vs:List V}{ds:List D}(n:Nat),Ah K H vs ds->Ah K H (vs.take n) (ds.take n)
 |_,_,0,_=>by rw[zca,zca];exact .nil
 |_,_,_+1,.nil=>.nil
 |_,_,n+1,.cons h t=>by rw[List.take_succ_cons,List.take_succ_cons];exact .cons h (Pc n t)
def Pd {K:zr}{H:Hp}:∀ {vs:List V}{ds:List D}(n:Nat),Ah K H vs ds->Ah K H (vs.drop n) (ds.drop n)
 |_,_,0,h=>h
 |_,_,_+1,.nil=>.nil
 |_,_,n+1,.cons h t=>by rw[List.drop_succ_cons,List.drop_succ_cons];exact Pd n t
def Sf {K:zr}{H:Hp}:∀ {vs ws:List V}{ds es:List D},Ah K H vs ds->Ah K H ws es->Ah K H (vs++ws) (ds++es)
 |_,_,_,_,.nil,k=>k
 |_,_,_,_,.cons h t,k=>.cons h (Sf t k)
def Xa (i:Nat){x:Str}{p1 apos ad:Pos}(hv:PE X (.Name x p1) (LR i))(hk:DE X WX true a f)(hd:DE X WX true b g)(hs: ~~~(starEach [a,b] X.env=(false,eval a X.env)::starEach [b] X.env))(aO: ~~~(starEach [b] X.env=[(false,eval b X.env)]))(bh: ~~~(swapsWith (.Call (.Attribute (.Name x p1) "insert" apos) [a,b] [] ad) none pos.line X.env=pure false))(ar: ~~~(attributeBase (.Name x p1) "insert" X.env (eval (.Name x p1) X.env)=eval (.Name x p1) X.env))(aE: ~~~(((backTo ad (starEach [a,b] X.env)).all (λ x => !x.1)&&(backToKw ad (keywordEach [] X.env)).all (λ x=>x.1.isSome)&&decide (([a,b]:List Expr).length+([]:List Keyword).length+(if ([]:List Keyword).isEmpty then 0 else 1)<30))=true))(au: ~~~((apos.endLine==ad.line)=true))(ak: ~~~((backTo ad (starEach [b] X.env)).any (·.1)=false)):
 DS X WX (.Expr (.Call (.Attribute (.Name x p1) "insert" apos) [a,b] [] ad) pos) (λ ρ=>X9 i ρ (f ρ) (g ρ)):=by
 obtain⟨ta,a1,a2⟩:=hk;obtain⟨tb,b1,b2⟩:=hd;refine⟨_,Fq (OO zba PySem.F.slot_list_insert PySem.F.type_list_insert X8 hv (Bn a1 (Bn b1 Cn aO) hs) ar aE au hs ak) bh,λ P0 P σ H Z ρ E h=>?_⟩;dsimp only at h;unfold X9 at h;split at h
 ·rename_i ds e1;obtain⟨p,xs,h1,h2,h3,h4,h5⟩:=E.own i ds e1;refine⟨_,h1,.inl ⟨rfl,xs,.of h2⟩,a2 P0 P σ H _ ρ E ?_⟩;refine eC h E λ k h=>?_;intro w H1 s1 hw;have E1:=E.same s1;refine b2 P0 P σ H1 _ ρ E1 ?_;cases q2:g ρ with
  |bad=>rw[q2] at h;exact h
  |ex y=>rw[q2] at h;exact λ H' s=>h H' P ((E.tr s1).trans (E1.tr s))
  |ok d =>
   rw[q2] at h;simp only[M.A9] at h;intro v H2 s2 og;have E2:=E1.same s2;have aK:=s1.trans s2;split at h
   ·rename_i j;cases hw;by_cases hj:0<=j/\j.toNat<=ds.length/\ds.length<1000
    ·rw[if_pos hj] at h;have vj:((j.toNat:Nat):Int)=j:=Int.toNat_of_nonneg hj.1;have se:=h5.mono aK.del;refine⟨p,xs,j.toNat,v,rfl,by rw[vj],aK _ _ h2,by rw[h5.length];exact hj.2.1,AA (by rw[h5.length];exact zam hj.2.2),?_⟩;obtain⟨E3,t3⟩:=E2.mut e1 h1 h3 h4 (Sf (Pc j.toNat se) (.cons og (Pd j.toNat se)));exact h _ _ _ ((E.tr aK).trans t3) E3
    ·rw[if_neg hj] at h;exact h.elim
   ·exact h.elim
 ·exact h.elim
abbrev xX (ds:List D):M D:=match ds with
 |[.int i]=>if i.natAbs.log2<1920 then .ok (.str (toString i)) else .bad
 |_=>.bad
def N0 (hc:X.calm=true):F5 X (.builtin "any") (λ xs H Q=>∃p bs,xs=[.ref p]/\D7 X.K H p (List.map V.bl bs)/\Q (.bl (bs.any id)) H):=by
 intro pins s σ H xs us Q I r h;obtain⟨p,bs,rfl,hq,q⟩:=h;obtain⟨u,rfl,rx⟩:=vals1 r;cases rx;obtain⟨aa,r',pl,hz⟩:=I.list hq;have hl:=pl.isList;have hb:=IU r';have af:p<s.heap.objs.size:=by obtain⟨_,e,_⟩:=hl;exact zD e
 refine call_any_walk (wpAny_pyIter_list hl ?_);refine⟨s.heap.objs.size,[s.heap.objs.size,p],[s.heap.objs.size],aa.toArray.size,_,_,λ i=>(bs[i]?).getD false,rfl,Walks.list (A:=X.A.in1) (I.ok.hd hc) _ p (zM af) aa.toArray,
  ⟨⟨_,zN _ rfl,rfl,rfl⟩,hl.push _⟩,λ i v s' Q' E' hP hQ=>?_,λ h' tk hk=>?_⟩
 ·obtain⟨b,e,rfl⟩:=hb.get i v (by simpa using hP);simp only[e,Option.getD_some] at hQ;exact wpAny_truthy_bool hQ
 ·have e:((zan aa.toArray.size).any λ i=>(bs[i]?).getD false)=bs.any id:=by
   rw[z9,hb.length];exact LSm.range_any bs
  rw[e];exact⟨.bl _,H,I.kept (t':=tk) (LSm.kept_iter hk),rfl,q⟩
abbrev Zj (ds:List D):M D:=match ds with
 |[.lst xs]=>(match GI xs with|some bs=>.ok (.bl (bs.any id))|none=>.bad)
 |_=>.bad
def oK:Ip X.K WX (λ xs H Q=>∃p bs,xs=[.ref p]/\D7 X.K H p (List.map V.bl bs)/\Q (.bl (bs.any id)) H) Zj:=by
 intro P H ds vs Q ht hl h;unfold Zj at h;split at h
 ·rename_i xs;obtain⟨v,rfl,hv⟩:=hl.one;split at h
  ·rename_i bs eb;have:=IS eb;subst this;cases hv with
   |lst hs hh =>
    have:=IT hh;subst this;exact⟨_,bs,rfl,hs.AY,h _ H (Ad.refl H) (.bl _)⟩
  ·exact h.elim
 ·exact h.elim
def gU {p:Pos}(hc:X.calm=true)(hg:Gl X "any")(hm:X.mg "any" = none)(ha:DE X WX c e f)(hb:bootBuiltins "any" = some (.builtin "any"):=by decide +kernel)(hs: ~~~(starEach [e] X.env=[(false,eval e X.env)])):DE X WX c (.Call (.Name "any" p) [e] [] pos) (λ ρ=>((f ρ).bind λ d=>(M.ok []).bind λ ds=>.ok (d::ds)).bind Zj):=
 GF (N0 hc) oK hg hm hb (A2 ha A6 hs) (he:=hs)
end
abbrev kids:OT->List OT
 | .sh _=>[]
 | .lst ts| .tup ts| .Bo _ _ ts| .ins _ _ ts=>ts
abbrev M6:OT->List OT->OT
 | .sh d,_=>.sh d
 | .lst _,ts=>.lst ts
 | .tup _,ts=>.tup ts
 | .Bo b ks _,ts=>.Bo b ks ts
 | .ins x ns _,ts=>.ins x ns ts
abbrev KO:OT->List Nat->Option OT
 |t,[]=>some t
 |t,j::π=>match (kids t)[j]? with|some s=>KO s π|none=>none
abbrev ER:OT->List Nat->OT->OT
 |_,[],u=>u
 |t,j::π,u=>match (kids t)[j]? with|some s=>M6 t ((kids t).set j (ER s π u))|none=>t
@[simp] theorem Sg (t:OT):KO t []=some t:=by unfold KO;rfl
@[simp] theorem Ef (t u:OT):ER t [] u=u:=by unfold ER;rfl
def Xb {t s:OT}{j:Nat}{π:List Nat}(h:(kids t)[j]?=some s):KO t (j::π)=KO s π:=by rw[KO,h]
def Xc {t s u:OT}{j:Nat}{π:List Nat}(h:(kids t)[j]?=some s):ER t (j::π) u=M6 t ((kids t).set j (ER s π u)):=by rw[ER,h]
section
variable {K:zr}{H H':Hp}{P P':Addr->Prop}
abbrev CK (K:zr)(H:Hp)(P:Addr->Prop)(v:V)(t:OT)(q:List Addr)(xs:List V):Prop:=match t with
 | .sh _=>False
 | .lst ts=>∃p,v=.ref p/\q=[p]/\H p=some (.lst xs)
 | .tup ts=>∃p,v=.ref p/\q=[]/\del H P p=some (.tup xs)
 | .Bo false ks ts=>∃p kvs,v=.ref p/\q=[p]/\H p=some (.dK kvs)/\ks=(kvs.map λ kv=>Ct kv.1)/\xs=kvs.map zay
 | .Bo true ks ts=>∃p kvs,v=.ref p/\q=[p]/\H p=some (.dT kvs)/\ks=(kvs.map λ kv=>.tup (kv.1.map Ct))/\xs=kvs.map zay
 | .ins x ns ts=>∃p C dx fs,v=.ref p/\q=[p]/\zY K mainGlobals x=some (some (.ref C))/\H p=some (.ins C dx fs)/\ns=fs.map zX/\xs=fs.map zay
def CK.own {v:V}{t:OT}{q:List Addr}{xs:List V}{fp:List Addr}(h:CK K H P v t q xs)(r:AF K H P xs (kids t) fp):C7 K H P v t (q++fp):=by
 cases t with
 |sh d=>exact h.elim
 |lst ts=>obtain⟨p,rfl,rfl,h⟩:=h;exact .lst h r
 |tup ts=>obtain⟨p,rfl,rfl,h⟩:=h;exact .tup h r
 |Bo b ks ts =>
  cases b with
  |false=>obtain⟨p,kvs,rfl,rfl,h,rfl,rfl⟩:=h;exact .dK h r
  |true=>obtain⟨p,kvs,rfl,rfl,h,rfl,rfl⟩:=h;exact .dT h r
 |ins x ns ts=>obtain⟨p,C,dx,fs,rfl,rfl,n,h,rfl,rfl⟩:=h;exact .ins n h r
def C7.node {v:V}{t:OT}{fp:List Addr}(h:C7 K H P v t fp)(hk:kids t≠[]\/∀d,t≠.sh d):∃q xs fq,fp=q++fq/\CK K H P v t q xs/\AF K H P xs (kids t) fq:=by
 cases h with
 |sh h=>rcases hk with hk|hk;exact (hk rfl).elim;exact (hk _ rfl).elim
 |lst h r=>exact⟨[_],_,_,rfl,⟨_,rfl,rfl,h⟩,r⟩
 |tup h r=>exact⟨[],_,_,rfl,⟨_,rfl,rfl,h⟩,r⟩
 |dK h r|dT h r=>exact⟨[_],_,_,rfl,⟨_,_,rfl,rfl,h,rfl,rfl⟩,r⟩
 |ins n h r=>exact⟨[_],_,_,rfl,⟨_,_,_,_,rfl,rfl,n,h,rfl,rfl⟩,r⟩
def CK.move (sm:Ad (del H P) (del H' P')){v:V}{t:OT}{q:List Addr}{xs:List V}(k:∀a∈q,H' a=H a)(h:CK K H P v t q xs):CK K H' P' v t q xs:=by
 cases t with
 |sh d=>exact h.elim
 |lst ts=>obtain⟨p,rfl,rfl,h⟩:=h;exact⟨p,rfl,rfl,(k p zv).trans h⟩
 |tup ts=>obtain⟨p,rfl,rfl,h⟩:=h;exact⟨p,rfl,rfl,sm _ _ h⟩
 |Bo b ks ts =>
  cases b with
  |false|true=>obtain⟨p,kvs,rfl,rfl,h,rfl,rfl⟩:=h;exact⟨p,kvs,rfl,rfl,(k p zv).trans h,rfl,rfl⟩
 |ins x ns ts=>obtain⟨p,C,dx,fs,rfl,rfl,n,h,rfl,rfl⟩:=h;exact⟨p,C,dx,fs,rfl,rfl,n,(k p zv).trans h,rfl,rfl⟩
def CK.kids {v:V}{t:OT}{q:List Addr}{xs:List V}(h:CK K H P v t q xs)(ts:List OT):CK K H P v (M6 t ts) q xs:=by
 cases t with
 |sh d=>exact h.elim
 |lst us|tup us=>exact h
 |Bo b ks us=>cases b<;>exact h
 |ins x ns us=>exact h
def Qu {v:V}{t:OT}{q:List Addr}{xs:List V}(h:CK K H P v t q xs)(ts:List OT):L2.kids (M6 t ts)=ts:=by
 cases t with
 |sh d=>exact h.elim
 |lst us|tup us|Bo b ks us|ins x ns us=>rfl
def CK.inj {v:V}{t:OT}{q q':List Addr}{xs d0:List V}(h:CK K H P v t q xs)(h':CK K H P v t q' d0):q=q'/\xs=d0:=by
 cases t with
 |sh d=>exact h.elim
 |lst ts|tup ts=>obtain⟨p,rfl,rfl,h⟩:=h;obtain⟨p',e,rfl,h'⟩:=h';cases e;rw[h] at h';cases h';exact⟨rfl,rfl⟩
 |Bo b ks ts =>
  cases b with
  |false|true=>obtain⟨p,kvs,rfl,rfl,h,_,rfl⟩:=h;obtain⟨p',oh,e,rfl,h',_,rfl⟩:=h';cases e;rw[h] at h';cases h';exact⟨rfl,rfl⟩
 |ins x ns ts=>obtain⟨p,C,dx,fs,rfl,rfl,n,h,_,rfl⟩:=h;obtain⟨p',C',y9,bL,e,rfl,n',h',_,rfl⟩:=h';cases e;rw[h] at h';cases h';exact⟨rfl,rfl⟩
inductive Jt (K:zr) (H:Hp) (P:Addr->Prop):V->OT->List Nat->V->OT->Prop
 |nil {v t}:Jt K H P v t [] v t
 |cons {v t q xs j x s π v1 t1}:CK K H P v t q xs->xs[j]?=some x->(kids t)[j]?=some s->Jt K H P x s π v1 t1->Jt K H P v t (j::π) v1 t1
def Jt.sub {v v1:V}{t t1:OT}{π:List Nat}(h:Jt K H P v t π v1 t1):KO t π=some t1:=by
 induction h with
 |nil=>exact Sg _
 |cons _ _ hs _ ih=>rw[Xb hs];exact ih
def AF.get:∀ {xs:List V}{ts:List OT}{fp:List Addr}{j:Nat}{x:V}{s:OT},AF K H P xs ts fp->xs[j]?=some x->ts[j]?=some s->∃pre fs post,fp=pre++fs++post/\C7 K H P x s fs
 |_,_,_,_,_,_,.nil,e,_=>by simp at e
 |_,_,_,0,_,_,.cons h r,e,e'=>by
  simp at e e';subst e;subst e';exact⟨[],_,_,rfl,h⟩
 |_,_,_,j+1,_,_,.cons (fp:=f1) h r,e,e'=>by
  obtain⟨pre,fs,post,z,q⟩:=AF.get r (by simpa using e) (by simpa using e');exact⟨f1++pre,fs,post,by rw[z];simp,q⟩
def AF.len:∀ {xs:List V}{ts:List OT}{fp:List Addr},AF K H P xs ts fp->xs.length=ts.length
 |_,_,_,.nil=>rfl
 |_,_,_,.cons _ r=>by rw[z7,z7,r.len]
def C7.part {v v1:V}{t t1:OT}{π:List Nat}{fp:List Addr}(h:C7 K H P v t fp)(s:Jt K H P v t π v1 t1):∃az,C7 K H P v1 t1 az/\(∀a∈az,a∈fp)/\(fp.Nodup->az.Nodup):=by
 induction s generalizing fp with
 |nil=>exact⟨fp,h,λ _ h=>h,λ h=>h⟩
 |cons n hx hs _ ih =>
  obtain⟨q,xs,fq,rfl,n',r⟩:=h.node (.inl λ z=>by rw[z] at hs;cases hs);obtain⟨rfl,rfl⟩:=n.inj n';obtain⟨pre,fs,post,rfl,o⟩:=r.get hx hs;obtain⟨az,o1,k,kn⟩:=ih o;exact⟨az,o1,λ a ha=>z8 _ (za2 _ (z8 _ (k a ha))),λ nd=>kn (zQ.mp (zQ.mp (zQ.mp nd).2.1).1).2.1⟩
def AF.put (sm:Ad (del H P) (del H' P')):∀ {xs:List V}{ts:List OT}{fp:List Addr}{j:Nat}{x:V}{s s':OT}{fs bL:List Addr},AF K H P xs ts fp->xs[j]?=some x->ts[j]?=some s->C7 K H P x s fs->C7 K H' P' x s' bL->(∀a∈fp,a∉fs->H' a=H a)->fp.Nodup->bL.Nodup->(∀a∈bL,a∈fp->a∈fs)->
 ∃ag,AF K H' P' xs (ts.set j s') ag/\ag.Nodup/\∀a∈ag,a∈bL\/(a∈fp/\a∉fs)
 |_,_,_,_,_,_,_,_,_,.nil,e,_,_,_,_,_,_,_=>by simp at e
 |_,_,_,0,x,s,s',fs,bL,.cons (fp:=f1) (fq:=f2) h r,e,e',o,o',k,nd,d4,dj=>by
  simp at e e';subst e;subst e';have:=h.Cj o;subst this;have aV:=zQ.mp nd;have k2:∀a∈f2,a∉f1:=λ a ha hb=>aV.2.2 a hb a ha rfl;refine⟨bL++f2,.cons o' (r.move sm λ a ha=>k a (z8 _ ha) (k2 a ha)),zQ.mpr ⟨d4,aV.2.1,λ a ha b hb z=>?_⟩,λ a ha=>?_⟩
  ·subst z;exact k2 a hb (dj a ha (z8 _ hb))
  ·rcases zJ.mp ha with ha|ha
   ·exact .inl ha
   ·exact .inr ⟨z8 _ ha,k2 a ha⟩
 |_,_,_,j+1,x,s,s',fs,bL,.cons (vs:=rn) (ts:=vn) (fp:=f1) (fq:=f2) h r,e,e',o,o',k,nd,d4,dj=>by
  have aV:=zQ.mp nd;have e2:rn[j]?=some x:=by simpa using e
  have e3:vn[j]?=some s:=by simpa using e'
  obtain⟨pre,fx,post,hf,ox⟩:=r.get e2 e3;have:=ox.Cj o;subst this;have k1:∀a∈f1,a∉fx:=λ a ha hb=>aV.2.2 a ha a (by rw[hf];exact za2 _ (z8 _ hb)) rfl;obtain⟨ag,q1,q2,q3⟩:=AF.put sm r e2 e3 o o' (λ a ha hn=>k a (z8 _ ha) hn) aV.2.1 d4 (λ a ha hb=>dj a ha (z8 _ hb));refine⟨f1++ag,.cons (h.move sm λ a ha=>k a (za2 _ ha) (k1 a ha)) q1,zQ.mpr ⟨aV.1,q2,λ a ha b hb z=>?_⟩,λ a ha=>?_⟩
  ·subst z;rcases q3 a hb with z|z
   ·exact k1 a ha (dj a z (za2 _ ha))
   ·exact aV.2.2 a ha a z.1 rfl
  ·rcases zJ.mp ha with ha|ha
   ·exact .inr ⟨za2 _ ha,k1 a ha⟩
   ·rcases q3 a ha with z|z
    ·exact .inl z
    ·exact .inr ⟨z8 _ z.1,z.2⟩
def C7.put (sm:Ad (del H P) (del H' P')){v v1:V}{t t1 u:OT}{π:List Nat}{fp az fu:List Addr}(h:C7 K H P v t fp)(s:Jt K H P v t π v1 t1)(o:C7 K H P v1 t1 az)(o':C7 K H' P' v1 u fu)(k:∀a∈fp,a∉az->H' a=H a)(nd:fp.Nodup)(d4:fu.Nodup)(dj:∀a∈fu,a∈fp->a∈az):
 ∃ag,C7 K H' P' v (ER t π u) ag/\ag.Nodup/\∀a∈ag,a∈fu\/(a∈fp/\a∉az):=by
 induction s generalizing fp with
 |nil =>
  rw[Ef];exact⟨fu,o',d4,λ a ha=>.inl ha⟩
 | @cons v t q xs j x s π v1 t1 n hx hs s1 ih =>
  obtain⟨q',d0,fq,rfl,n',r⟩:=h.node (.inl λ z=>by rw[z] at hs;cases hs);obtain⟨rfl,rfl⟩:=n.inj n';have jn:=zQ.mp nd;obtain⟨pre,fs,post,hf,ox⟩:=r.get hx hs;have sub:∀a∈fs,a∈fq:=λ a ha=>by rw[hf];exact za2 _ (z8 _ ha)
  have vo:fs.Nodup:=by
   have:=jn.2.1;rw[hf] at this;exact (zQ.mp (zQ.mp this).1).2.1
  obtain⟨fz,oz,kz,_⟩:=ox.part s1;have:=oz.Cj o;subst this;obtain⟨bL,q1,q2,q3⟩:=ih ox o o' (λ a ha hn=>k a (z8 _ (sub a ha)) hn) vo (λ a ha hb=>dj a ha (z8 _ (sub a hb)));have qf:∀a∈q,a∉fs:=λ a ha hb=>jn.2.2 a ha a (sub a hb) rfl;have kq:∀a∈q,H' a=H a:=λ a ha=>k a (za2 _ ha) λ z=>qf a ha (kz a z);obtain⟨ag,p1,p2,p3⟩:=r.put sm hx hs ox q1 (λ a ha hn=>k a (z8 _ ha) λ z=>hn (kz a z)) jn.2.1 q2 (λ a ha hb=>by
   rcases q3 a ha with z|z
   ·exact kz a (dj a z (z8 _ hb))
   ·exact z.1)
  rw[Xc hs];have n2:=(n.move sm kq).kids ((kids t).set j (ER s π u));have o2:=n2.own (fp:=ag) (by rw[Qu n];exact p1);refine⟨q++ag,o2,zQ.mpr ⟨jn.1,p2,λ a ha b hb z=>?_⟩,λ a ha=>?_⟩
  ·subst z;rcases p3 a hb with z|z
   ·rcases q3 a z with y|y
    ·exact qf a ha (kz a (dj a y (za2 _ ha)))
    ·exact qf a ha y.1
   ·exact jn.2.2 a ha a z.1 rfl
  ·rcases zJ.mp ha with ha|ha
   ·exact .inr ⟨za2 _ ha,λ z=>qf a ha (kz a z)⟩
   ·rcases p3 a ha with z|z
    ·rcases q3 a z with y|y
     ·exact .inl y
     ·exact .inr ⟨z8 _ (sub a y.1),y.2⟩
    ·exact .inr ⟨z8 _ z.1,λ y=>z.2 (kz a y)⟩
end
abbrev PU (P:Addr->Prop)(fp:List Addr):Addr->Prop:=λ a=>P a\/a∈fp
def KQ {P:Addr->Prop}{fp:List Addr}:∀a,P a->PU P fp a:=λ a h=>.inl h
def Cu {P:Addr->Prop}{fp:List Addr}{H H':Hp}(s:Ad H H')(hn:∀a∈fp,H a=none):Ad (del H P) (del H' (PU P fp)):=λ b o e=>by
 obtain⟨h1,h2⟩:=An e;rw[Au λ z=>z.elim h1 λ w=>by rw[hn b w] at h2;cases h2];exact s b o h2
def Uy {P:Addr->Prop}{H:Hp}:del H (PU P [])=del H P:=by
 funext b;by_cases h:P b
 ·rw[D9 h,D9 (.inl h)]
 ·rw[Au h,Au λ z=>z.elim h λ w=>by cases w]
def IV {P:Addr->Prop}{fp:List Addr}{K:zr}{H':Hp}{Q:Addr->Prop}{v:V}{t:OT}(hP:∀a,P a->DB H' a)(o:C7 K H' Q v t fp):∀a,PU P fp a->DB H' a:=λ a h=>h.elim (hP a) (o.C8 a)
def VQ {P:Addr->Prop}{fp:List Addr}{K:zr}{H':Hp}{Q:Addr->Prop}{v:List V}{t:List OT}(hP:∀a,P a->DB H' a)(o:AF K H' Q v t fp):∀a,PU P fp a->DB H' a:=λ a h=>h.elim (hP a) (o.C8 a)
def Am.more {K:zr}{P0:Eb}{P P':Addr->Prop}{H H':Hp}{σ:St}{ρ:Ae}(E:Am K P0 P H σ ρ)(e:Ad H H')(hs:∀a,P a->P' a)(ht:∀a,P' a->DB H' a)(sm:Ad (del H P) (del H' P')):Am K P0 P' H' σ ρ:=by
 have keep:∀(c:Cl) (v:V) (fp:List Addr),Dt K H P c v fp->∀a∈fp,H' a=H a:=λ c v fp o a ha=>by
  obtain⟨xs,q⟩:=o.at a ha;rw[q];exact e _ _ q
 exact⟨λ a h=>hs a (E.sub a h),ht,λ i d h=>let ⟨v,h1,h2⟩:=E.val i d h;⟨v,h1,h2.mono sm⟩,
  λ i c h io=>let ⟨v,fp,h1,h2,h3,h4⟩:=E.ows i c h io;⟨v,fp,h1,h2.move sm (keep c v fp h2),λ a ha=>⟨hs a (h3 a ha).1,(h3 a ha).2⟩,h4⟩,
  λ i j c c' v v' fp ag hi hj si sj h h' ae=>E.YV sm (λ v fp _ o a ha=>keep _ _ _ o a ha) (λ v fp _ o a ha=>keep _ _ _ o a ha) hi hj si sj h h' ae,E.len,E.pin⟩
abbrev Xd (K:zr)(WX:Str->Hp->Prop)(P:Addr->Prop)(H:Hp)(Q:VK):M OT->Prop
 | .ok t=>∀v fp H',Ad H H'->(∀a∈fp,H a=none)->fp.Nodup->C7 K H' (PU P fp) v t fp->Q v H'
 | .ex x=>∀H',Ad H H'->WX x H'
 | .bad=>False
abbrev yW (K:zr)(WX:Str->Hp->Prop)(P:Addr->Prop)(H:Hp)(Q:List V->Hp->Prop):M (List OT)->Prop
 | .ok t=>∀v fp H',Ad H H'->(∀a∈fp,H a=none)->fp.Nodup->AF K H' (PU P fp) v t fp->Q v H'
 | .ex x=>∀H',Ad H H'->WX x H'
 | .bad=>False
def DZ {H H':Hp}(s:Ad H H'){a:Addr}(h:H' a=none):H a=none:=by
 cases q:H a with
 |none=>rfl
 |some o=>rw[s a o q] at h;cases h
section
variable {K:zr}{WX:Str->Hp->Prop}{P:Addr->Prop}{H H':Hp}
def Xd.same {Q:VK}{m:M OT}(h:Xd K WX P H Q m)(e:Ad H H'):Xd K WX P H' Q m:=by
 cases m with
 |ok d=>exact λ v fp H2 q hn nd o=>h v fp H2 (e.trans q) (λ a ha=>DZ e (hn a ha)) nd o
 |ex x=>exact λ H2 q=>h H2 (e.trans q)
 |bad=>exact h
end
abbrev DN (X:Cx)(WX:Str->Hp->Prop)(e:Expr)(f:Ae->M OT):Prop:=
 ∃t,PE X e t/\∀P0 P σ H Q ρ,Am X.K P0 P H σ ρ->Xd X.K WX P H Q (f ρ)->t σ H Q
abbrev tL (X:Cx)(WX:Str->Hp->Prop)(es:List Expr)(f:Ae->M (List OT)):Prop:=
 ∃t,PA X es t/\(∀P0 P σ H Q ρ,Am X.K P0 P H σ ρ->yW X.K WX P H Q (f ρ)->t σ H Q)/\∀ρ ts,f ρ=.ok ts->ts.length=es.length
abbrev tM (d:D):M OT:=.ok (.sh d)
abbrev qP (t:OT):M D:=.ok (er t)
section
variable {X:Cx}{WX:Str->Hp->Prop}{c:Bool}{P0:Eb}{P:Addr->Prop}{H:Hp}{σ:St}{ρ:Ae}{a b e:Expr}{f g:Ae->M D}{fn:Ae->M OT}{pos:Pos}{es:List Expr}
def AX (h:DE X WX true e f):DN X WX e (λ ρ=>(f ρ).bind tM):=by
 obtain⟨t,h1,h2⟩:=h;refine⟨t,h1,λ P0 P σ H Q ρ E g=>h2 P0 P σ H Q ρ E ?_⟩;dsimp only at g;cases q:f ρ with
 |bad|ex x=>rw[q] at g;exact g
 |ok d=>rw[q] at g;exact λ v H' s hv=>g v [] H' s (λ a ha=>by cases ha) zax (.sh (by rw[Uy];exact hv))
def Ag (h:DN X WX e fn):DE X WX c e (λ ρ=>(fn ρ).bind qP):=by
 suffices z:DE X WX true e (λ ρ=>(fn ρ).bind qP) by
  cases c with
  |true=>exact z
  |false=>exact Qn z
 obtain⟨t,h1,h2⟩:=h;refine⟨t,h1,λ P0 P σ H Q ρ E g=>h2 P0 P σ H Q ρ E ?_⟩;dsimp only at g;cases q:fn ρ with
 |bad|ex x=>rw[q] at g;exact g
 |ok d =>
  rw[q] at g;exact λ v fp H' s hn nd o=>g v H' s (o.has KQ λ a ha z=>(E.C8 a z).no (hn a ha))
def CT:tL X WX [] (λ _=>.ok []):=⟨_,Cn,λ P0 P σ H Q ρ E h=>h [] [] H (Ad.refl H) (λ a ha=>by cases ha) zax .nil,λ ρ ds h=>by cases h;rfl⟩
def Ju {es:List Expr}{fs:Ae->M (List OT)}(he:DN X WX e fn)(hr:tL X WX es fs)(hs: ~~~(starEach (e::es) X.env=(false,eval e X.env)::starEach es X.env)):
 tL X WX (e::es) (λ ρ=>(fn ρ).bind λ d=>(fs ρ).bind λ ds=>.ok (d::ds)):=by
 obtain⟨te,e1,e2⟩:=he;obtain⟨tr,r1,r2,r3⟩:=hr;refine⟨_,Bn e1 r1 hs,λ P0 P σ H Q ρ E h=>?_,λ ρ ds h=>?_⟩
 rotate_left
 ·dsimp only at h;cases q:fn ρ with
  |bad|ex x=>rw[q] at h;cases h
  |ok x =>
   rw[q] at h;cases q2:fs ρ with
   |bad|ex x=>rw[q2] at h;cases h
   |ok xs =>
    rw[q2] at h;cases h;rw[z7,z7,r3 ρ xs q2]
 dsimp only at h;refine e2 P0 P σ H _ ρ E ?_;cases q:fn ρ with
 |bad|ex x=>rw[q] at h;exact h
 |ok x =>
  rw[q] at h;intro v fp H1 s1 n1 gp o1;have E1:Am X.K P0 (PU P fp) H1 σ ρ:=E.more s1 KQ (IV (E.same s1).C8 o1) (Cu s1 n1);refine r2 P0 (PU P fp) σ H1 _ ρ E1 ?_;cases q2:fs ρ with
  |bad=>rw[q2] at h;exact h
  |ex y=>rw[q2] at h;exact λ H' s=>h H' (s1.trans s)
  |ok ds =>
   rw[q2] at h;intro vs fq H2 s2 n2 aV o2;have dj:∀a∈fp,a∉fq:=λ a ha hb=>(o1.C8 a ha).no (n2 a hb);have eP:PU (PU P fp) fq=PU P (fp++fq):=by
    funext a;simp only[PU,zJ,or_assoc]
   have sm:Ad (del H1 (PU P fp)) (del H2 (PU P (fp++fq))):=by rw[<-eP];exact Cu s2 n2
   refine h _ (fp++fq) H2 (s1.trans s2) (λ a ha=>?_) (zQ.mpr ⟨gp,aV,λ a ha b hb z=>dj a ha (by rw[z];exact hb)⟩) (.cons (o1.move sm λ a ha=>?_) (by rw[<-eP];exact o2))
   ·rcases zJ.mp ha with ha|ha
    ·exact n1 a ha
    ·exact DZ s1 (n2 a ha)
   ·obtain⟨o,z,_⟩:=o1.C8 a ha;rw[z];exact s2 _ _ z
def oM {P:Addr->Prop}{fp:List Addr}{p:Addr}{H:Hp}{o:HO}(hn:H p=none)(hP:∀a,PU P fp a->DB H a):Ad (del H (PU P fp)) (del (upd H p o) (PU P (p::fp))):=λ b u e=>by
 obtain⟨h1,h2⟩:=An e;have hb:b≠p:=Ax h2 hn;rw[Au λ z=>z.elim (λ z=>h1 (.inl z)) λ w=>(zB.mp w).elim hb λ w=>h1 (.inr w),Ai hb];exact h2
def FC {fs:Ae->M (List OT)}(ha:tL X WX es fs)(hz:es.length<=1000:=by decide):DN X WX (.List es pos) (λ ρ=>(fs ρ).bind λ ts=>.ok (.lst ts)):=by
 obtain⟨ta,a1,a2,a3⟩:=ha;refine⟨_,Q9 a1,λ P0 P σ H Q ρ E h=>?_⟩;dsimp only at h;refine a2 P0 P σ H _ ρ E ?_;cases q:fs ρ with
 |bad|ex y=>rw[q] at h;exact h
 |ok ts =>
  rw[q] at h;simp only[M.A9] at h;intro vs fp H1 s1 n1 gp o1;have hP:=VQ (E.same s1).C8 o1;refine⟨zam (AA (by rw[o1.len,a3 ρ ts q];exact hz)),λ p hp=>?_⟩;have ae:∀a∈fp,a≠p:=λ a ha z=>(o1.C8 a ha).no (by rw[z];exact hp);exact h _ (p::fp) _ (s1.trans (AN hp _)) (λ a ha=>(zB.mp ha).elim (λ z=>by rw[z];exact DZ s1 hp) (n1 a)) (zag.mpr ⟨λ z=>ae p z rfl,gp⟩) (.lst Ap (o1.move (oM hp hP) λ a ha=>Ai (ae a ha)))
def gW {P:Addr->Prop}{fp:List Addr}{p:Addr}{H:Hp}{o:HO}(hn:H p=none)(hP:∀a,PU P fp a->DB H a):Ad (del H (PU P fp)) (del (upd H p o) (PU P fp)):=λ b u e=>by
 obtain⟨h1,h2⟩:=An e;have hb:b≠p:=Ax h2 hn;rw[Au h1,Ai hb];exact h2
def Zk {fs:Ae->M (List OT)}{x1}(ha:tL X WX es fs)(hz:es.length<=1000:=by decide):DN X WX (.Tuple es x1 pos) (λ ρ=>(fs ρ).bind λ ts=>.ok (.tup ts)):=by
 obtain⟨ta,a1,a2,a3⟩:=ha;refine⟨_,YD a1,λ P0 P σ H Q ρ E h=>?_⟩;dsimp only at h;refine a2 P0 P σ H _ ρ E ?_;cases q:fs ρ with
 |bad|ex y=>rw[q] at h;exact h
 |ok ts =>
  rw[q] at h;simp only[M.A9] at h;intro vs fp H1 s1 n1 gp o1;have hP:=VQ (E.same s1).C8 o1;refine⟨zam (AA (by rw[o1.len,a3 ρ ts q];exact hz)),λ p hp=>?_⟩;have ae:∀a∈fp,a≠p:=λ a ha z=>(o1.C8 a ha).no (by rw[z];exact hp);refine h _ fp _ (s1.trans (AN hp _)) n1 gp (.tup ?_ (o1.move (gW hp hP) λ a ha=>Ai (ae a ha)));rw[Au λ z=>(hP p z).no hp];exact Ap
def Ah.ows {K:zr}{H:Hp}{P:Addr->Prop}:∀ {xs:List V}{ds:List D},Ah K (del H P) xs ds->AF K H P xs (ds.map .sh) []:=by
 intro _ _ x_;cases x_ with
 |nil=>exact .nil
 |cons h t=>exact .cons (.sh h) t.ows
def Xd.KR {K:zr}{WX:Str->Hp->Prop}{P:Addr->Prop}{H H1:Hp}{Q:VK}{xs:List V}{ds:List D}(h:Xd K WX P H Q (.ok (.lst (ds.map .sh))))(s1:Ad H H1)(hx:Ah K (del H1 P) xs ds):∀p,H1 p=none->Q (.ref p) (upd H1 p (.lst xs)):=λ p hp=>by
 have hn:∀a∈[p],H1 a=none:=λ a ha=>by rw[zy.mp ha];exact hp
 exact h _ [p] _ (s1.trans (AN hp _)) (λ a ha=>DZ s1 (hn a ha)) (by simp) (.lst Ap (hx.mono (Cu (AN hp _) hn)).ows)
def AF.oN {K:zr}{H:Hp}{P:Addr->Prop}:∀ {xs:List V}{ds:List D}{fp:List Addr},AF K H P xs (ds.map .sh) fp->fp=[]/\Ah K (del H P) xs ds
 |_,[],_,.nil=>⟨rfl,.nil⟩
 |_,d::ds,_,.cons (.sh h) r=>by
  obtain⟨rfl,q⟩:=AF.oN r;exact⟨rfl,.cons h q⟩
abbrev Jv:Cl->Cl
 | .val d=>.val d
 | .own ds=>.val (.lst ds)
 | .ow (.rows C5)=>.val (.lst (C5.map D.lst))
 | .ow (.LV _ ds)=>.val (.lst ds)
 | .ow (.tree _ t)=>.val (er t)
abbrev EF (ρ:Ae):Ae:=ρ.map λ o=>o.map Jv
@[simp] theorem Jw:EF []=[]:=rfl
@[simp] theorem HG (ρ:Ae):EF (none::ρ)=none::EF ρ:=rfl
@[simp] theorem HH (c:Cl) (ρ:Ae):EF (some c::ρ)=some (Jv c)::EF ρ:=rfl
def Am.low {K:zr}{P0:Eb}{P:Addr->Prop}{H:Hp}{σ:St}{ρ:Ae}(E:Am K P0 P H σ ρ):Am K P0 P0 H σ (EF ρ):=by
 have key:∀(i:Nat) (c:Cl),(EF ρ)[i]?=some (some c)->∃c',ρ[i]?=some (some c')/\c=Jv c':=λ i c h=>by
  unfold EF at h;rw[zU] at h;cases q:ρ[i]? with
  |none=>rw[q] at h;cases h
  |some o =>
   rw[q] at h;cases o with
   |none=>cases h
   |some c'=>cases h;exact⟨c',rfl,rfl⟩
 have oj:∀c,Ih (Jv c)=false:=λ c=>by
  cases c with
  |val d|own ds=>rfl
  |ow o=>cases o<;>rfl
 have jo:∀c,OV (Jv c)=none:=λ c=>by
  cases c with
  |val d|own ds=>rfl
  |ow o=>cases o<;>rfl
 have vp:∀c v fp,¬ Dt K H P0 (Jv c) v fp:=λ c v fp h=>by
  cases c with
  |val d|own ds=>exact h
  |ow o=>cases o<;>exact h
 refine⟨λ _ h=>h,λ a h=>E.C8 a (E.sub a h),λ i d h=>?_,λ i c h io=>?_,λ i j c c' v v' fp ag hi hj si sj h h' ae=>?_,by unfold EF;rw[zu];exact E.len,λ i c n h hp=>by obtain⟨c',h1,rfl⟩:=key i _ h;rw[jo] at hp;cases hp⟩
 ·obtain⟨c,h1,h2⟩:=key i _ h;cases c with
  |val d' =>
   cases h2;obtain⟨v,q1,q2⟩:=E.val i d h1;exact⟨v,q1,q2.mono (CP E.sub)⟩
  |own ds =>
   cases h2;obtain⟨p,xs,q1,q2,q3,q4,q5⟩:=E.own i ds h1;exact⟨_,q1,.lst (.of (show del H P0 p=_ by rw[Au q4];exact q2)) (q5.mono (CP E.sub))⟩
  |ow o =>
   obtain⟨v,fp,q1,q2,q3,q4⟩:=E.ows i _ h1 rfl;cases o with
   |rows C5 =>
    cases h2;obtain⟨p,ps,rfl,rfl,q5,q6⟩:=q2;exact⟨_,q1,.lst (.of (show del H P0 p=_ by rw[Au (q3 p zv).2];exact q5)) (q6.oE E.sub λ a ha=>(q3 a (zw _ ha)).2)⟩
   |LV p ds =>
    cases h2;obtain⟨p,xs,rfl,rfl,q5,q6⟩:=q2;exact⟨_,q1,.lst (.of (show del H P0 p=_ by rw[Au (q3 p zv).2];exact q5)) (q6.mono (CP E.sub))⟩
   |tree p t =>
    cases h2;exact⟨_,q1,C7.has E.sub (λ a ha=>(q3 a ha).2) q2⟩
 ·obtain⟨c',h1,rfl⟩:=key i _ h;rw[oj] at io;cases io
 ·obtain⟨c1,h1,rfl⟩:=key i _ hi;exact (vp _ _ _ h).elim
def Zl {c:Bool}(h:DE X WX c e f):DE X WX false e (λ ρ=>f (EF ρ)):=by
 obtain⟨t,h1,h2⟩:=h;refine⟨t,h1,λ P0 P σ H Q ρ E g=>h2 P0 P0 σ H Q (EF ρ) E.low ?_⟩;have e:Lv c P0 P0=P0:=by cases c<;>rfl
 rw[e];exact g
def IW {ft:Ae->M Bool}(h:DT X WX e ft):DT X WX e (λ ρ=>ft (EF ρ)):=by
 obtain⟨t,h1,h2⟩:=h;exact⟨t,h1,λ P0 P σ H Q ρ E g=>h2 P0 P0 σ H Q (EF ρ) E.low g⟩
mutual
noncomputable def GJ:OT->Bool
 | .sh d=>Jr d
 | .lst ts| .tup ts| .Bo _ _ ts| .ins _ _ ts=>G9 ts
noncomputable def G9:List OT->Bool
 |[]=>true
 |t::r=>GJ t&&G9 r
end
mutual
theorem C7.clean {K:zr}{H:Hp}{P P':Addr->Prop}(ht:∀a,P' a->DB H a):∀ {v:V}{t:OT}{fp:List Addr},GJ t=true->C7 K H P v t fp->C7 K H P' v t fp:=by
 intro _ _ _ n x_;cases x_ with
 |sh h=>exact .sh (h.Jr ht (by rw[GJ] at n;exact n))
 |lst h r=>exact .lst h (AF.clean ht (by rw[GJ] at n;exact n) r)
 |tup h r=>exact .tup (VL ht h) (AF.clean ht (by rw[GJ] at n;exact n) r)
 |dK h r=>exact .dK h (AF.clean ht (by rw[GJ] at n;exact n) r)
 |dT h r=>exact .dT h (AF.clean ht (by rw[GJ] at n;exact n) r)
 |ins x h r=>exact .ins x h (AF.clean ht (by rw[GJ] at n;exact n) r)
theorem AF.clean {K:zr}{H:Hp}{P P':Addr->Prop}(ht:∀a,P' a->DB H a):∀ {v:List V}{t:List OT}{fp:List Addr},G9 t=true->AF K H P v t fp->AF K H P' v t fp:=by
 intro _ _ _ n x_;cases x_ with
 |nil=>exact .nil
 |cons h r =>
  rw[G9,zZ] at n;exact .cons (C7.clean ht n.1 h) (AF.clean ht n.2 r)
end
abbrev TV (m:M OT):M OT:=m.bind λ t=>if GJ t=true then .ok t else .bad
def Eg (h:DN X WX e fn):DN X WX e (λ ρ=>TV (fn (EF ρ))):=by
 obtain⟨t,h1,h2⟩:=h;refine⟨t,h1,λ P0 P σ H Q ρ E g=>h2 P0 P0 σ H Q (EF ρ) E.low ?_⟩;unfold TV at g;dsimp only at g;cases q:fn (EF ρ) with
 |bad|ex x=>rw[q] at g;exact g
 |ok t =>
  rw[q] at g;simp only[M.A9] at g;by_cases hf:GJ t=true
  ·rw[if_pos hf] at g;exact λ v fp H' s hn nd o=>g v fp H' s hn nd (o.clean (IV (E.same s).C8 o) hf)
  ·rw[if_neg hf] at g;exact g.elim
abbrev KR (d:D):M OT:=match d with
 | .lst ds| .tup ds=>.ok (.lst (ds.map .sh))
 |_=>.bad
def FD {p:Pos}(hg:Gl X "list")(hm:X.mg "list" = none)(ha:DE X WX true e f)(hb:bootBuiltins "list" = some (.type "list"):=by decide +kernel)(aM: ~~~(starEach [e] X.env=[(false,eval e X.env)])):
 DN X WX (.Call (.Name "list" p) [e] [] pos) (λ ρ=>(f ρ).bind KR):=by
 obtain⟨ta,a1,a2⟩:=ha;refine⟨_,OM Qf hg hm hb (Bn a1 Cn aM) (he:=aM),λ P0 P σ H Q ρ E h=>?_⟩;dsimp only at h;refine a2 P0 P σ H _ ρ E ?_;refine Yc h λ d h=>?_;intro v H1 s1 hv;unfold KR at h;split at h
 ·cases hv with
  |lst hs hh=>exact⟨_,_,rfl,.inl hs.AY,h.KR s1 hh⟩
 ·cases hv with
  |tup hs hh=>exact⟨_,_,rfl,.inr (EC.of (An hs).2),h.KR s1 hh⟩
 ·exact h.elim
abbrev xY (K:zr)(WX:Str->Hp->Prop)(r:R2)(aQ:D->D->M OT):Prop:=
 ∀(P:Addr->Prop) (H:Hp) (x y:D) (v w:V) (Q:VK),(∀a,P a->DB H a)->BX K (del H P) v x->BX K (del H P) w y->Xd K WX P H Q (aQ x y)->r v w H Q
def tN {ta tb:TE}{r:R2}{aQ:D->D->M OT}(ha:∀P0 P σ H Q ρ,Am X.K P0 P H σ ρ->gV X.K WX (Lv true P0 P) H Q (f ρ)->ta σ H Q)(hb:∀P0 P σ H Q ρ,Am X.K P0 P H σ ρ->gV X.K WX (Lv true P0 P) H Q (g ρ)->tb σ H Q)
 (hr:xY X.K WX r aQ) {Q:VK} (E:Am X.K P0 P H σ ρ) (h:Xd X.K WX P H Q ((f ρ).bind λ x=>(g ρ).bind λ y=>aQ x y)):qM r ta tb σ H Q:=by
 refine ha P0 P σ H _ ρ E ?_;cases e:f ρ with
 |bad|ex x=>rw[e] at h;exact h
 |ok x =>
  rw[e] at h;intro v H1 s1 hv;refine hb P0 P σ H1 _ ρ (E.same s1) ?_;cases e2:g ρ with
  |bad=>rw[e2] at h;exact h
  |ex y=>rw[e2] at h;exact λ H' s=>h H' (s1.trans s)
  |ok y =>
   rw[e2] at h;intro w H2 s2 hw;exact hr _ H2 x y v w Q ((E.same s1).same s2).C8 (hv.mono s2.del) hw ((h.same s1).same s2)
abbrev Sh (x y:D):M OT:=match x,y with
 | .lst a,.lst b=>if a.length+b.length<=1000 then .ok (.lst ((a++b).map .sh)) else .bad
 |_,_=>.bad
end
abbrev spT (K:zr)(n:Nat)(F:List D->M OT):Sp:=λ vs H Q E=>vs.length=n/\∃P ds,(∀a,P a->DB H a)/\Ah K (del H P) vs ds/\Xd K (D1 K E) P H Q (F ds)
abbrev tO:Cl->M OT
 | .val d=>.ok (.sh d)
 | .own ds=>.ok (.lst (ds.map .sh))
 | .ow (.rows C5)=>.ok (.lst (C5.map λ ds=>.lst (ds.map .sh)))
 | .ow (.LV _ _)=>.bad
 | .ow (.tree none t)=>.ok t
 | .ow (.tree (some _) _)=>.bad
abbrev Zm (m:M Out):M OT:=match m with
 | .ok (.ret d)=>.ok (.sh d)
 | .ok (.CO c)=>tO c
 | .ok (.next _)=>.ok (.sh .AL)
 | .ex x=>.ex x
 |_=>.bad
def BG.ows {K:zr}{H:Hp}{P:Addr->Prop}:∀ {ps:List Addr}{C5:List (List D)},BG K H P ps C5->AF K H P (ps.map V.ref) (C5.map λ ds=>.lst (ds.map .sh)) ps:=by
 intro _ _ x_;cases x_ with
 |nil=>exact .nil
 |cons h r t=>exact .cons (.lst h r.ows) t.ows
def Dt.tree {K:zr}{H:Hp}{P:Addr->Prop}{c:Cl}{v:V}{fp:List Addr}{t:OT}(h:Dt K H P c v fp)(e:tO c=.ok t):C7 K H P v t fp:=by
 cases c with
 |val d=>exact h.elim
 |own ds =>
  cases e;obtain⟨p,xs,rfl,rfl,h1,h2⟩:=h;exact .lst h1 h2.ows
 |ow o =>
  cases o with
  |rows C5 =>
   cases e;obtain⟨p,ps,rfl,rfl,h1,h2⟩:=h;exact .lst h1 h2.ows
  |LV p ds=>cases e
  |tree p t' =>
   cases p with
   |none=>cases e;exact h
   |some q=>cases e
section
variable {P:Program}{w:World}{K:zr}{mg:Str->Option Value}{base:Heap}
def gY {WX:Str->Hp->Prop}{P P2:Addr->Prop}{H H':Hp}{Q:VK}{c:Cl}{v:V}{fp:List Addr}(h:Xd K WX P H Q (tO c))(t:Tr P P H P2 H')(hs:∀a,P a->P2 a)(ho:Dt K H' P2 c v fp)(hp:∀a∈fp,P2 a/\¬ P a)(nd:fp.Nodup):Q v H':=by
 cases q:tO c with
 |bad=>rw[q] at h;exact h.elim
 |ex x=>cases c with
  |val d|own ds=>cases q
  |ow o =>
   cases o with
   |rows C5|LV p ds=>cases q
   |tree p t'=>cases p<;>cases q
 |ok u =>
  rw[q] at h;have o:=ho.tree q;refine h v fp H' (DM t) (λ a ha=>oJ t (hp a ha).1 (hp a ha).2) nd (o.move (CP λ a ha=>ha.elim (hs a) λ z=>(hp a z).1) λ _ _=>rfl)
def tP {x qual:Str}{st:Stmt}{f:Addr}{fd:FuncData}{N ps:List Str}{k:Nat}(F:Yb K x qual st f fd)(S:Ac N ps (A4 st))(g:Ae->M Out)
 (hb:∀(B7:Value) (A:Around) (outer:List Env) (s:Shared) (H:Hp) (E:XK),BC k (A.deeper (envOfC qual (A4 st) s.heap.objs.size f B7))->TU (kY P w K mg base N qual (A4 st) f B7 A outer s H E) (D1 K E) (AO st) g):
 Dr P w K mg base (Ur P w base) (k+1) f fd ps (spT K ps.length λ ds=>Zm (g (AE N ds))):=by
 obtain⟨oc,od,kV,doc,pm,an,B7,ct,TR,rfl,lk,bc⟩:=F.ex;refine Vo lk bc S (λ vs H Q E h=>h.1) λ A outer s H vs Q E hr h=>?_;obtain⟨hl,P',ds,ht,hv,hq⟩:=h;obtain⟨t,h1,h2⟩:=hb B7 A outer s H E hr;refine⟨t,h1,h2 ⟨P',λ _=>0⟩ P' _ H _ _ (P6 ht hv) ?_⟩;dsimp only at hq;revert hq;cases g (AE N ds) with
 |bad=>exact λ h=>h.elim
 |ex x=>exact λ h H' P2 t=>h H' (DM t)
 |ok o =>
  cases o with
  |ret d=>exact λ h v H' P2 t hv=>h v [] H' (DM t) (λ a ha=>by cases ha) zax (.sh (by rw[Uy];exact hv))
  |next ρ=>exact λ h σ' H' P2 t E=>h .AL [] H' (DM t) (λ a ha=>by cases ha) zax (.sh .AL)
  |brk ρ|cont ρ=>exact λ h=>h.elim
  |CO c=>exact λ h v fp H' P2 t hs ht ho hp nd=>gY h t hs ho hp nd
  |F7 d ρ=>exact λ h=>h.elim
end
structure BB (P:Program)(w:World)(K:zr)(mg:Str->Option Value)(base:Heap)(x:Str)(k n:Nat)(F:List D->M OT):Prop where
 ex:∃fa fd ps,Dr P w K mg base (Ur P w base) k fa fd ps (spT K n F)/\mg x=some (.ref fa)/\zah K (.ref fa)=true/\Binds K fd ps []
def Aw {P:Program}{w:World}{K:zr}{mg:Str->Option Value}{base:Heap}{x:Str}{st:Stmt}{N ps:List Str}{k n:Nat}(T:AH K mg x st ps)(S:Ac N ps (A4 st))(g:Ae->M Out)(hb:∀(f:Addr) (B7:Value) (A:Around) (outer:List Env) (s:Shared) (H:Hp) (E:XK),BC k (A.deeper (envOfC x (A4 st) s.heap.objs.size f B7))->TU (kY P w K mg base N x (A4 st) f B7 A outer s H E) (D1 K E) (AO st) g)(hn: ~~~(ps.length=n)):
 BB P w K mg base x (k+1) n (λ ds=>Zm (g (AE N ds))):=by
 obtain⟨f,fd,F,hm,hB⟩:=T.ex;subst hn;exact⟨⟨f,fd,ps,tP F S g (hb f),hm,F.kp,hB⟩⟩
section
variable {X:Cx}{E:XK}{WX:Str->Hp->Prop}{c:Bool}{e:Expr}{es:List Expr}{fs:Ae->M (List D)}{f:Ae->M D}{fn:Ae->M OT}{ft:Ae->M Bool}{pos:Pos}
def Ab {k n:Nat}{F:List D->M OT}{x:Str}{p:Pos}(xo:G8 X E)(G:BB X.prog X.w X.K X.mg X.base x k n F)(hr:BC k X.A)(hg:Gl X x)(ha:DA X (D1 X.K E) true (e::es) fs)(hn:(e::es).length=n)(aS:(x==("__debug__" : Str))=false:=by decide)(he: ~~~(starEach (e::es) X.env=(false,eval e X.env)::starEach es X.env))(ao: ~~~((backTo pos (starEach es X.env)).any (·.1)=false)):
 DN X (D1 X.K E) (.Call (.Name x p) (e::es) [] pos) (λ ρ=>(fs ρ).bind F):=by
 obtain⟨fa,fd,ps,hF,hm,hk,hb⟩:=G.ex;obtain⟨ta,a1,a2,a3⟩:=ha;refine⟨_,Vm hF hr hg hm hk hb .nil xo.call a1 aS he ao,λ P0 P σ H Q ρ E h=>?_⟩;dsimp only at h;refine a2 P0 P σ H _ ρ E ?_;cases q:fs ρ with
 |bad|ex x=>rw[q] at h;exact h
 |ok ds =>
  rw[q] at h;simp only[M.A9] at h;intro vs H1 s1 a5;rw[zV];exact⟨by rw[a5.length,a3 ρ ds q];exact hn,P,ds,(E.same s1).C8,a5,h.same s1⟩
def Br (h:DN X WX e fn):DN X (λ _ _=>False) e fn:=by
 obtain⟨t,h1,h2⟩:=h;refine⟨t,h1,λ P0 P σ H Q ρ E g=>h2 P0 P σ H Q ρ E ?_⟩;cases q:fn ρ with
 |bad=>rw[q] at g;exact g
 |ex x=>rw[q] at g;exact (g H (Ad.refl H)).elim
 |ok t=>rw[q] at g;exact g
abbrev Zn (t:OT):M Out:=match t with
 | .sh d=>.ok (.ret d)
 |t=>.ok (.CO (.ow (.tree none t)))
end
section
variable {X:Cx}{WX:Str->Hp->Prop}{c:Bool}{P0:Eb}{P:Addr->Prop}{H:Hp}{σ:St}{ρ:Ae}{a b e:Expr}{f g:Ae->M D}{fn:Ae->M OT}{pos:Pos}
def Am.vB {K:zr}{H':Hp}{fp:List Addr}(E:Am K P0 P H σ ρ)(s:Ad H H')(hn:∀a∈fp,H a=none):Tr P0 P H (PU P fp) H':=
 ⟨Cu s hn,λ a ha=>by obtain⟨o,q,_⟩:=E.C8 a (E.sub a ha);rw[q];exact s _ _ q⟩
def Ak (ha:DN X WX e fn):DS X WX (.Return (some e) pos) (λ ρ=>(fn ρ).bind Zn):=by
 obtain⟨ta,a1,a2⟩:=ha;refine⟨_,U3 a1,λ P0 P σ H Z ρ E h=>?_⟩;dsimp only at h;refine a2 P0 P σ H _ ρ E ?_;refine eC h E λ t h=>?_;intro v fp H' s hn nd o;have key:gS X.K WX P0 P H Z (.ok (.CO (.ow (.tree none t))))->Z.rt v H':=λ h =>
  h v fp H' (PU P fp) (E.vB s hn) (λ a ha=>.inl (E.sub a ha)) (IV (E.same s).C8 o) o (λ a ha=>⟨.inr ha,λ z=>(E.C8 a (E.sub a z)).no (hn a ha)⟩) nd
 cases t with
 |sh d =>
  cases o with
  |sh hv=>exact h v H' P (E.tr s) (hv.mono (CP λ a ha=>.inl (E.sub a ha)))
 |lst ts|tup ts|Bo b ks ts|ins x ns ts=>exact key h
abbrev DK:List OT->Option (List D)
 |[]=>some []
 | .sh d::r=>(DK r).map (d::·)
 |_::_=>none
def CL:∀ds:List D,DK (ds.map .sh)=some ds
 |[]=>rfl
 |d::r=>by rw[zx,DK,CL r];rfl
def CC:∀ {ts:List OT}{ds:List D},DK ts=some ds->ts=ds.map .sh
 |[],ds,h=>by cases h;rfl
 | .sh d::r,ds,h=>by
  rw[DK] at h;cases q:DK r with
  |none=>rw[q] at h;cases h
  |some es=>rw[q] at h;cases h;rw[zx,<-CC q]
 | .lst _::r,ds,h| .tup _::r,ds,h| .Bo _ _ _::r,ds,h| .ins _ _ _::r,ds,h=>by cases h
abbrev toCl (p:Option Nat)(t:OT):Cl:=match t with
 | .lst ts=>(match DK ts with
  |some ds=>(match p with|none=>.own ds|some q=>.ow (.LV q ds))
  |none=>.ow (.tree p (.lst ts)))
 |t=>.ow (.tree p t)
@[simp] theorem toCl_list (ds:List D):toCl none (.lst (ds.map .sh))=.own ds:=by unfold toCl;simp only[CL]
@[simp] theorem toCl_listP (q:Nat) (ds:List D):toCl (some q) (.lst (ds.map .sh))=.ow (.LV q ds):=by unfold toCl;simp only[CL]
@[simp] theorem toCl_dct (p:Option Nat) (b:Bool) (ks:List D) (ts:List OT):toCl p (.Bo b ks ts)=.ow (.tree p (.Bo b ks ts)):=rfl
abbrev treeOf:Cl->Option (Option Nat×OT)
 | .own ds=>some (none,.lst (ds.map .sh))
 | .ow (.LV p ds)=>some (some p,.lst (ds.map .sh))
 | .ow (.rows C5)=>some (none,.lst (C5.map λ ds=>.lst (ds.map .sh)))
 | .ow (.tree p t)=>some (p,t)
 | .val _=>none
def Dt.toT {K:zr}{H:Hp}{P:Addr->Prop}{c:Cl}{v:V}{fp:List Addr}{p:Option Nat}{t:OT}(h:Dt K H P c v fp)(e:treeOf c=some (p,t)):C7 K H P v t fp:=by
 cases c with
 |val d=>exact h.elim
 |own ds =>
  cases e;obtain⟨p,xs,rfl,rfl,h1,h2⟩:=h;exact .lst h1 h2.ows
 |ow o =>
  cases o with
  |rows C5 =>
   cases e;obtain⟨p,ps,rfl,rfl,h1,h2⟩:=h;exact .lst h1 h2.ows
  |LV p ds =>
   cases e;obtain⟨p,xs,rfl,rfl,h1,h2⟩:=h;exact .lst h1 h2.ows
  |tree p t'=>cases e;exact h
def Dt.toCl {K:zr}{H:Hp}{P:Addr->Prop}{v:V}{fp:List Addr}{p:Option Nat}{t:OT}(h:C7 K H P v t fp):Dt K H P (toCl p t) v fp:=by
 unfold L2.toCl;split
 ·rename_i ts;cases q:DK ts with
  |none=>exact h
  |some ds =>
   have e:=CC q;subst e;cases h with
   |lst h1 h2 =>
    obtain⟨rfl,h3⟩:=h2.oN;cases p with
    |none|some q=>exact⟨_,_,rfl,rfl,h1,h3⟩
 ·exact h
def IX (p:Option Nat)(t:OT):OV (toCl p t)=p:=by
 unfold toCl;split
 ·rename_i ts;cases q:DK ts with
  |none|some ds=>cases p<;>rfl
 ·cases p<;>rfl
def IY {c:Cl}{p:Option Nat}{t:OT}(h:treeOf c=some (p,t)):OV c=p:=by
 cases c with
 |val d=>cases h
 |own ds=>cases h;rfl
 |ow o =>
  cases o with
  |rows C5|LV p ds=>cases h;rfl
  |tree p t=>cases h;cases p<;>rfl
abbrev Si (i:Nat)(ρ:Ae)(t:OT):M Out:=match t with
 | .sh d=>.ok (.next (ρ.set i (some (.val d))))
 |t=>.ok (.next (ρ.set i (some (toCl none t))))
def lB {K:zr}{i:Nat}{t:OT}{v:V}{fp:List Addr}{H':Hp}{Z:Ends}(E:Am K P0 P H σ ρ)(s:Ad H H')(hn:∀a∈fp,H a=none)(nd:fp.Nodup)(o:C7 K H' (PU P fp) v t fp)(h:gS K WX P0 P H Z (Si i ρ t)):Z.nx (σ.set i (some v)) H':=by
 have key:gS K WX P0 P H Z (.ok (.next (ρ.set i (some (toCl none t)))))->Z.nx (σ.set i (some v)) H':=λ h=>by
  refine h _ H' (PU P fp) (E.vB s hn) (E.X1 KQ (IV (E.same s).C8 o) (Cu s hn) (λ j c' v' ag ae g1 g2 g3 a ha=>?_) (Dt.toCl o) (λ a ha=>⟨.inr ha,λ z=>(E.C8 a (E.sub a z)).no (hn a ha)⟩) nd (λ n z=>by rw[IX] at z;cases z));obtain⟨xs,z⟩:=g3.at a ha;exact⟨by rw[z];exact s _ _ z,λ w=>by rw[hn a w] at z;cases z⟩
 cases t with
 |sh d =>
  cases o with
  |sh hv=>exact h _ H' P (E.tr s) ((E.same s).X0 (by rw[Uy] at hv;exact hv))
 |lst ts|tup ts|Bo b ks ts|ins x ns ts=>exact key h
def Bw (i:Nat){x:Str}{pos':Pos}(hN:X.N.Nodup)(hi:X.N[i]?=some x)(hx:Loc X.env.scope x)(ha:DN X WX e fn)(hs: ~~~(swapsWith e (some (.Name x pos')) pos.line X.env=pure false))(hf:X.fn x=true\/X.env.scope.names.lookup x=some .local:=by first | exact .inl rfl | exact .inr rfl | assumption):
 DS X WX (.Assign [.Name x pos'] e pos) (λ ρ=>(fn ρ).bind (Si i ρ)):=by
 obtain⟨ta,a1,a2⟩:=ha;refine⟨_,U4 hN hi hx a1 hs hf,λ P0 P σ H Z ρ E h=>?_⟩;dsimp only at h;refine a2 P0 P σ H _ ρ E ?_;cases q:fn ρ with
 |bad=>rw[q] at h;exact h
 |ex x=>rw[q] at h;exact λ H' s=>h H' P (E.tr s)
 |ok t =>
  rw[q] at h;exact λ v fp H' s hn nd o=>lB E s hn nd o h
abbrev Uz (i:Nat)(ρ:Ae):M Out:=match ρ[i]? with
 |some (some (.val d))=>.ok (.ret d)
 |some (some c)=>.ok (.CO c)
 |_=>.bad
def Cv (i:Nat){x:Str}{p1:Pos}(hv:PE X (.Name x p1) (LR i)):DS X WX (.Return (some (.Name x p1)) pos) (Uz i):=by
 refine⟨_,U3 hv,λ P0 P σ H Z ρ E h=>?_⟩;unfold Uz at h;split at h
 ·rename_i d e1;obtain⟨v,h1,h2⟩:=E.val i d e1;exact⟨v,h1,h v H P Tr.refl (h2.mono (CP E.sub))⟩
 ·rename_i c hc e1;have io:Ih c=true:=by
   cases c with
   |val d=>exact (hc d rfl).elim
   |own ds|ow o=>rfl
  obtain⟨v,fp,h1,h2,h3,h4⟩:=E.ows i _ e1 io;exact⟨v,h1,h v fp H P Tr.refl E.sub E.C8 h2 h3 h4⟩
 ·exact h.elim
def IZ:∀ds:List D,OU (ds.map .sh)=ds
 |[]=>rfl
 |d::r=>by rw[zx,OU,er,IZ r]
def Xe {c:Cl}{p:Option Nat}{t:OT}(e:treeOf c=some (p,t)):Jv c=.val (er t):=by
 cases c with
 |val d=>cases e
 |own ds=>cases e;rw[er,IZ];rfl
 |ow o =>
  cases o with
  |rows C5 =>
   cases e;rw[er,Qm,zak];have:(er ∘ λ ds:List D=>OT.lst (ds.map .sh))=D.lst:=by funext ds;rw[Function.comp,er,IZ]
   rw[this];rfl
  |LV p ds=>cases e;rw[er,IZ];rfl
  |tree p t'=>cases e;rfl
abbrev Zo (i:Nat)(ρ:Ae):Ae:=match ρ[i]? with
 |some (some c)=>ρ.set i (some (Jv c))
 |_=>ρ
end
section
variable {K:zr}{H H':Hp}{P P':Addr->Prop}
def CK.same {v:V}{t:OT}{q:List Addr}{xs:List V}(e:Ad H H')(h:CK K H P v t q xs):CK K H' P v t q xs:=by
 cases t with
 |sh d=>exact h.elim
 |lst ts=>obtain⟨p,rfl,rfl,h⟩:=h;exact⟨p,rfl,rfl,e _ _ h⟩
 |tup ts=>obtain⟨p,rfl,rfl,h⟩:=h;exact⟨p,rfl,rfl,e.del _ _ h⟩
 |Bo b ks ts =>
  cases b with
  |false|true=>obtain⟨p,kvs,rfl,rfl,h,rfl,rfl⟩:=h;exact⟨p,kvs,rfl,rfl,e _ _ h,rfl,rfl⟩
 |ins x ns ts=>obtain⟨p,C,dx,fs,rfl,rfl,n,h,rfl,rfl⟩:=h;exact⟨p,C,dx,fs,rfl,rfl,n,e _ _ h,rfl,rfl⟩
def Jt.same {v v1:V}{t t1:OT}{π:List Nat}(e:Ad H H')(h:Jt K H P v t π v1 t1):Jt K H' P v t π v1 t1:=by
 induction h with
 |nil=>exact .nil
 |cons n hx hs _ ih=>exact .cons (n.same e) hx hs ih
def CK.more {v:V}{t:OT}{q:List Addr}{xs:List V}(sm:Ad (del H P) (del H' P'))(e:Ad H H')(h:CK K H P v t q xs):CK K H' P' v t q xs:=by
 cases t with
 |sh d=>exact h.elim
 |lst ts=>obtain⟨p,rfl,rfl,h⟩:=h;exact⟨p,rfl,rfl,e _ _ h⟩
 |tup ts=>obtain⟨p,rfl,rfl,h⟩:=h;exact⟨p,rfl,rfl,sm _ _ h⟩
 |Bo b ks ts =>
  cases b with
  |false|true=>obtain⟨p,kvs,rfl,rfl,h,rfl,rfl⟩:=h;exact⟨p,kvs,rfl,rfl,e _ _ h,rfl,rfl⟩
 |ins x ns ts=>obtain⟨p,C,dx,fs,rfl,rfl,n,h,rfl,rfl⟩:=h;exact⟨p,C,dx,fs,rfl,rfl,n,e _ _ h,rfl,rfl⟩
def Jt.more {v v1:V}{t t1:OT}{π:List Nat}(sm:Ad (del H P) (del H' P'))(e:Ad H H')(h:Jt K H P v t π v1 t1):Jt K H' P' v t π v1 t1:=by
 induction h with
 |nil=>exact .nil
 |cons n hx hs _ ih=>exact .cons (n.more sm e) hx hs ih
end
abbrev TX (i:Nat)(ρ:Ae)(π:List Nat):Option OT:=match ρ[i]? with
 |some (some c)=>(match treeOf c with|some (_,t)=>KO t π|none=>none)
 |_=>none
structure Bg (K:zr)(P:Addr->Prop)(H:Hp)(σ:St)(ρ:Ae)(i:Nat)(π:List Nat)(v:V)(t1:OT):Prop where
 ex:∃v0 c p t,ρ[i]?=some (some c)/\treeOf c=some (p,t)/\σ[i]?=some (some v0)/\Jt K H P v0 t π v t1
def Bg.at {K:zr}{P:Addr->Prop}{H:Hp}{σ:St}{ρ:Ae}{i:Nat}{π:List Nat}{v:V}{t1:OT}(h:Bg K P H σ ρ i π v t1):TX i ρ π=some t1:=by
 obtain⟨v0,c,p,t,h1,h2,h3,h4⟩:=h.ex;unfold TX;simp only[h1,h2];exact h4.sub
def Bg.same {K:zr}{P:Addr->Prop}{H H':Hp}{σ:St}{ρ:Ae}{i:Nat}{π:List Nat}{v:V}{t1:OT}(e:Ad H H')(h:Bg K P H σ ρ i π v t1):Bg K P H' σ ρ i π v t1:=by
 obtain⟨v0,c,p,t,h1,h2,h3,h4⟩:=h.ex;exact⟨v0,c,p,t,h1,h2,h3,h4.same e⟩
def Bg.more {K:zr}{P P':Addr->Prop}{H H':Hp}{σ:St}{ρ:Ae}{i:Nat}{π:List Nat}{v:V}{t1:OT}(sm:Ad (del H P) (del H' P'))(e:Ad H H')(h:Bg K P H σ ρ i π v t1):Bg K P' H' σ ρ i π v t1:=by
 obtain⟨v0,c,p,t,h1,h2,h3,h4⟩:=h.ex;exact⟨v0,c,p,t,h1,h2,h3,h4.more sm e⟩
def Bg.own {K:zr}{P0:Eb}{P:Addr->Prop}{H:Hp}{σ:St}{ρ:Ae}{i:Nat}{π:List Nat}{v:V}{t1:OT}(h:Bg K P H σ ρ i π v t1)(E:Am K P0 P H σ ρ):∃az,C7 K H P v t1 az/\(∀a∈az,P a/\¬ P0 a)/\az.Nodup:=by
 obtain⟨v0,c,p,t,h1,h2,h3,h4⟩:=h.ex;have io:Ih c=true:=by cases c<;>first|rfl|cases h2
 obtain⟨w,fp,k1,k2,k3,k4⟩:=E.ows i c h1 io;rw[h3] at k1;cases k1;obtain⟨az,o1,hk,kn⟩:=(k2.toT h2).part h4;exact⟨az,o1,λ a ha=>k3 a (hk a ha),kn k4⟩
abbrev gP (K:zr)(WX:Str->Hp->Prop)(P:Addr->Prop)(H:Hp)(σ:St)(ρ:Ae)(i:Nat)(Q:VK):M (List Nat)->Prop
 | .ok π=>∀v t1 H',Ad H H'->Bg K P H' σ ρ i π v t1->Q v H'
 | .ex x=>∀H',Ad H H'->WX x H'
 | .bad=>False
abbrev DP (X:Cx)(WX:Str->Hp->Prop)(e:Expr)(i:Nat)(f:Ae->M (List Nat)):Prop:=
 ∃t,PE X e t/\∀P0 P σ H Q ρ,Am X.K P0 P H σ ρ->gP X.K WX P H σ ρ i Q (f ρ)->t σ H Q
section
variable {X:Cx}{WX:Str->Hp->Prop}{c:Bool}{P0:Eb}{P:Addr->Prop}{H:Hp}{σ:St}{ρ:Ae}{a b e:Expr}{f g:Ae->M D}{fn:Ae->M OT}{fp:Ae->M (List Nat)}{pos:Pos}{i:Nat}
abbrev Od (i:Nat)(ρ:Ae):M (List Nat):=match TX i ρ [] with | some _=>.ok [] | none=>.bad
def BV (i:Nat){x:Str}{p1:Pos}(hv:PE X (.Name x p1) (LR i)):DP X WX (.Name x p1) i (Od i):=by
 refine⟨_,hv,λ P0 P σ H Q ρ E h=>?_⟩;unfold Od at h;split at h
 ·rename_i t e;unfold TX at e;split at e
  ·rename_i cl e1;split at e
   ·rename_i p t0 e2;have io:Ih cl=true:=by cases cl<;>first|rfl|cases e2
    obtain⟨v,fp,h1,h2,h3,h4⟩:=E.ows i cl e1 io;exact⟨v,h1,h v t0 H (Ad.refl H) ⟨v,cl,p,t0,e1,e2,h1,.nil⟩⟩
   ·cases e
  ·cases e
 ·exact h.elim
abbrev wY (i:Nat)(ρ:Ae)(π:List Nat):M D:=match TX i ρ π with
 |some (.sh d)=>.ok d
 |_=>.bad
def Am.tQ {K:zr}{P':Addr->Prop}{H':Hp}{π:List Nat}{v1:V}{t1 u:OT}{az fu:List Addr}(E:Am K P0 P H σ ρ)(pl:Bg K P H σ ρ i π v1 t1)(o:C7 K H P v1 t1 az)(hs:∀a,P a->P' a)(ht:∀a,P' a->DB H' a)(sm:Ad (del H P) (del H' P'))(keep:∀a,P a->a∉az->H' a=H a)
 (o':C7 K H' P' v1 u fu) (nd:fu.Nodup) (hf:∀a∈fu,a∈az\/(P' a/\¬ P0 a/\∀(j:Nat) c v fp,ρ[j]?=some (some c)->σ[j]?=some (some v)->Dt K H P c v fp->a∉fp)):
 ∃c p t,ρ[i]?=some (some c)/\treeOf c=some (p,t)/\Am K P0 P' H' σ (ρ.set i (some (toCl p (ER t π u))))/\Tr P0 P H P' H':=by
 obtain⟨v0,c,p,t,h1,h2,h3,h4⟩:=pl.ex;have io:Ih c=true:=by cases c<;>first|rfl|cases h2
 obtain⟨w,fp,k1,k2,k3,k4⟩:=E.ows i c h1 io;rw[h3] at k1;cases k1;have ot:=k2.toT h2;obtain⟨fz,oz,kz,_⟩:=ot.part h4;have:=oz.Cj o;subst this;obtain⟨ag,q1,q2,q3⟩:=ot.put sm h4 o o' (λ a ha hn=>keep a (k3 a ha).1 hn) k4 nd (λ a ha hb=>(hf a ha).elim id λ z=>(z.2.2 i c v0 fp h1 h3 k2 hb).elim);refine⟨c,p,t,h1,h2,?_,sm,λ a ha=>keep a (E.sub a ha) λ z=>(k3 a (kz a z)).2 ha⟩;have key:=E.X1 (P':=P') (H':=H') (i:=i) (v:=v0) (c:=toCl p (ER t π u)) (fp:=ag) hs ht sm (λ j c' v' fq ae g1 g2 g3 a ha=>?_) (Dt.toCl q1) (λ a ha=>?_) q2 (λ n z=>by rw[IX] at z;subst z;have:=E.pin i c n h1 (IY h2);rw[h3] at this;cases this;rfl)
 ·rw[KJ h3] at key;exact key
 ·have om:a∉fp:=E.apart j i c' c v' v0 fq fp g1 h1 g2 h3 g3 k2 (zac ae) a ha;have jp:Ih c'=true:=by cases c'<;>first|rfl|exact g3.elim
  obtain⟨w',fr,m1,m2,m3,m4⟩:=E.ows j c' g1 jp;rw[g2] at m1;cases m1;have:=m2.Cj g3;subst this;refine⟨keep a (m3 a ha).1 λ z=>om (kz a z),λ z=>?_⟩;rcases q3 a z with y|y
  ·rcases hf a y with x|x
   ·exact om (kz a x)
   ·exact x.2.2 j c' v' fr g1 g2 g3 ha
  ·exact om y.1
 ·rcases q3 a ha with y|y
  ·rcases hf a y with x|x
   ·exact⟨hs a (k3 a (kz a x)).1,(k3 a (kz a x)).2⟩
   ·exact⟨x.1,x.2.1⟩
  ·exact⟨hs a (k3 a y.1).1,(k3 a y.1).2⟩
def Am.tR {K:zr}{π:List Nat}{l:Addr}{xs ys:List V}{ts us:List OT}{fq fu:List Addr}(E:Am K P0 P H σ ρ)(pl:Bg K P H σ ρ i π (.ref l) (.lst ts))(hH:H l=some (.lst xs))(o:AF K H P xs ts fq)(o':AF K H P ys us fu)(nd:fu.Nodup)(hl:l∉fu)
 (hf:∀a∈fu,a∈fq\/(P a/\¬ P0 a/\∀(j:Nat) c v fp,ρ[j]?=some (some c)->σ[j]?=some (some v)->Dt K H P c v fp->a∉fp)):
 ∃c p t,ρ[i]?=some (some c)/\treeOf c=some (p,t)/\Am K P0 P (upd H l (.lst ys)) σ (ρ.set i (some (toCl p (ER t π (.lst us)))))/\Tr P0 P H P (upd H l (.lst ys)):=by
 have ot:C7 K H P (.ref l) (.lst ts) (l::fq):=.lst hH o;obtain⟨az,o1,hp,_⟩:=pl.own E;have:=o1.Cj ot;subst this;have pP:P l:=(hp l zv).1;have sd:del (upd H l (.lst ys)) P=del H P:=by
  funext b;by_cases hb:P b
  ·rw[D9 hb,D9 hb]
  ·rw[Au hb,Au hb,Ai (λ z=>hb (by rw[z];exact pP))]
 have sm:Ad (del H P) (del (upd H l (.lst ys)) P):=by rw[sd];exact Ad.refl _
 refine E.tQ pl ot (λ _ h=>h) (λ a h=>?_) sm (λ a ha hn=>Ai λ z=>hn (by rw[z];exact zv)) (.lst Ap (o'.move sm λ a ha=>Ai λ z=>hl (by rw[<-z];exact ha))) (zag.mpr ⟨hl,nd⟩) (λ a ha=>?_)
 ·by_cases ha:a=l
  ·subst ha;exact DB.lst Ap
  ·unfold DB;rw[Ai ha];exact E.C8 a h
 ·rcases zB.mp ha with z|z
  ·exact .inl (by rw[z];exact zv)
  ·rcases hf a z with y|y
   ·exact .inl (zw _ y)
   ·exact .inr y
end
abbrev kd:D->Option Key
 | .int i=>some (.inl i)
 | .str x=>some (.inr x)
 |_=>none
abbrev qQ:List D->Option (List Key)
 |[]=>some []
 |d::r=>match kd d,qQ r with|some k,some ks=>some (k::ks)|_,_=>none
def lC {d:D}{k:Key}(h:kd d=some k):d=Ct k:=by
 cases d<;>simp[kd] at h<;>subst h<;>rfl
def Zp:∀ {ds:List D}{ks:List Key},qQ ds=some ks->ds=ks.map Ct
 |[],ks,h=>by cases h;rfl
 |d::r,ks,h=>by
  rw[qQ] at h;cases q:kd d with
  |none=>rw[q] at h;cases h
  |some k =>
   cases q2:qQ r with
   |none=>rw[q,q2] at h;cases h
   |some sf =>
    rw[q,q2] at h;cases h;rw[zx,<-lC q,<-Zp q2]
inductive gZ:Bool->D->Prop
 |k (κ:Key):gZ false (Ct κ)
 |t (κ:List Key):gZ true (.tup (κ.map Ct))
abbrev keyOk (b:Bool)(d:D):Bool:=match b,d with
 |false,d=>(kd d).isSome
 |true,.tup ds=>(qQ ds).isSome
 |_,_=>false
def Eh {b:Bool}{d:D}(h:keyOk b d=true):gZ b d:=by
 cases b with
 |false =>
  obtain⟨k,hk⟩:=zbl.mp (show (kd d).isSome=true from h);rw[lC hk];exact .k k
 |true =>
  cases d with
  |tup ds =>
   obtain⟨k,hk⟩:=zbl.mp (show (qQ ds).isSome=true from h);rw[Zp hk];exact .t k
  |_=>cases h
def GL (a b:Key):Bl (Ct a) (Ct b)=decide (a=b):=by
 cases a with
 |inl i =>
  cases b with
  |inl j=>simp only[Ct,Bl];rw[zbp];simp
  |inr y=>simp[Ct,Bl]
 |inr x =>
  cases b with
  |inl j=>simp[Ct,Bl]
  |inr y=>simp only[Ct,Bl];rw[zbp];simp
def M7:∀a b:List Key,Cp (a.map Ct) (b.map Ct)=decide (a=b)
 |[],[]|[],_::_|_::_,[]=>by simp[Cp]
 |a::r,b::t=>by
  rw[zx,zx,Cp,GL,M7 r t,zbp];simp
abbrev Gj {α:Type}:List D->List α->D->Option α
 |k::ks,v::vs,y=>if Bl k y=true then some v else Gj ks vs y
 |_,_,_=>none
abbrev J0 {α:Type}:List D->List α->D->α->List α
 |k::ks,v::vs,y,z=>(if Bl k y=true then z else v)::J0 ks vs y z
 |_,vs,_,_=>vs
abbrev LW (ks:List D)(y:D):Bool:=ks.any λ k=>Bl k y
section
variable {κ:Type} [DecidableEq κ] {fk:κ->D}(hf:∀a b,Bl (fk a) (fk b)=decide (a=b))
include hf
def N1 {α:Type}:∀(kvs:List (κ×α)) (k:κ),Gj (kvs.map λ kv=>fk kv.1) (kvs.map zay) (fk k)=(kvs.find? λ kv=>decide (kv.1=k)).map (·.2)
 |[],k=>rfl
 |p::r,k=>by
  rw[zx,zx,Gj,hf,zc1];by_cases e:p.1=k
  ·rw[decide_eq_true e];rfl
  ·rw[decide_eq_false e];simp only[zR,if_false];exact N1 r k
def Jx {α:Type}(kvs:List (κ×α))(k:κ):LW (kvs.map λ kv=>fk kv.1) (fk k)=kvs.any λ kv=>decide (kv.1=k):=by
 unfold LW;rw[List.any_map];congr 1;funext kv;exact hf _ _
def GN (k:κ)(v:V):∀(kvs:List (κ×V)),J0 (kvs.map λ kv=>fk kv.1) (kvs.map zay) (fk k) v=(kvs.map λ kv=>if kv.1=k then (kv.1,v) else kv).map zay
 |[]=>rfl
 |p::r=>by
  rw[zx,zx,J0,hf,zx,zx,GN k v r];by_cases e:p.1=k
  ·rw[decide_eq_true e,if_pos e];rfl
  ·rw[decide_eq_false e,if_neg e];rfl
def GO (k:κ)(v:V):∀(kvs:List (κ×V)),(kvs.map λ kv=>if kv.1=k then (kv.1,v) else kv).map (λ kv=>fk kv.1)=kvs.map λ kv=>fk kv.1
 |[]=>rfl
 |p::r=>by
  rw[zx,zx,zx,GO k v r];by_cases e:p.1=k
  ·rw[if_pos e]
  ·rw[if_neg e]
end
def N2 {K:zr}{H:Hp}:∀ {ks:List D}{xs:List V}{ds:List D}{y d:D},Ah K H xs ds->Gj ks ds y=some d->∃x,Gj ks xs y=some x/\BX K H x d
 |[],_,_,_,_,_,e|_::_,_,_,_,_,.nil,e=>by simp[Gj] at e
 |k::ks,_,_,y,d,.cons h t,e=>by
  rw[Gj] at e ⊢;by_cases q:Bl k y=true
  ·rw[if_pos q] at e ⊢;cases e;exact⟨_,rfl,h⟩
  ·rw[if_neg q] at e ⊢;exact N2 t e
def HI {α:Type}:∀ {ks:List D}{xs:List α}{y:D},xs.length=ks.length->LW ks y=(Gj ks xs y).isSome
 |[],[],y,_=>rfl
 |k::ks,x::xs,y,h=>by
  unfold LW;rw[zbe,Gj];cases q:Bl k y with
  |true=>rfl
  |false =>
   simp only[Bool.false_or,zR,if_false];exact HI (by simpa using h)
 |[],_::_,_,h|_::_,[],_,h=>by cases h
def GP {K:zr}{H:Hp}{P:Addr->Prop}{y d:D}{v:V}(hv:BX K (del H P) v d):∀ {ks:List D}{xs:List V}{ds:List D},Ah K (del H P) xs ds->Ah K (del H P) (J0 ks xs y v) (J0 ks ds y d)
 |[],_,_,h=>by simp only[J0];exact h
 |_::_,_,_,.nil=>by simp only[J0];exact .nil
 |k::ks,_,_,.cons h t=>by
  rw[J0,J0];refine .cons ?_ (GP hv t);by_cases q:Bl k y=true
  ·rw[if_pos q,if_pos q];exact hv
  ·rw[if_neg q,if_neg q];exact h
section
variable {K:zr}{H:Hp}{P:Addr->Prop}
def Ah.keys:∀ {xs:List V}(κ:List Key),Ah K H xs (κ.map Ct)->xs=κ.map kV
 |_,[],.nil=>rfl
 |_,k::r,.cons h t=>by
  rw[zx,<-Ah.keys r t];congr 1;cases k with
  |inl i=>exact h.int_inv
  |inr x=>cases h;rfl
def BX.hV {y:V}{κ:Key}(h:BX K H y (Ct κ)):y=kV κ:=by
 cases κ with
 |inl i=>exact h.int_inv
 |inr x=>cases h;rfl
def Qv {v y:V}{b:Bool}{ks vs:List D}{k:D}(hv:BX K (del H P) v (.Bo b ks vs))(hy:BX K (del H P) y k)(hk:gZ b k):∃a xs,v=.ref a/\Qg H a y (Gj ks xs k)/\Ah K (del H P) xs vs/\xs.length=ks.length:=by
 cases hv with
 |Vw hh hl =>
  cases hk with
  |k κ =>
   refine⟨_,_,rfl,?_,hl,by simp⟩;rw[hy.hV,N1 GL];exact .inl ⟨_,κ,hh.AY,rfl,rfl⟩
 |Vx hh hl =>
  cases hk with
  |t κ =>
   cases hy with
   |tup ht a7 =>
    have e:=Ah.keys κ a7;subst e;refine⟨_,_,rfl,?_,hl,by simp⟩;rw[N1 (fk:=λ κ:List Key=>D.tup (κ.map Ct)) (λ a b=>by simp only[Bl];exact M7 a b)];exact .inr ⟨_,κ,_,hh.AY,rfl,(An ht).2,rfl⟩
end
section
variable {X:Cx}{WX:Str->Hp->Prop}{c:Bool}{P0:Eb}{P:Addr->Prop}{H:Hp}{σ:St}{ρ:Ae}{a b e:Expr}{f g:Ae->M D}{fn:Ae->M OT}{fp:Ae->M (List Nat)}{pos:Pos}{i:Nat}
abbrev tS:R2:=λ x y H Q=>∃a v,x=.ref a/\Qg H a y (some v)/\Q v H
def hX (hu:X.A.units+1<cLine):fD X tS:=by
 intro value slice pins s σ H x y v u Q I rx ry h hs;obtain⟨a,z,rfl,g,q⟩:=h;cases rx;have hT:=RW I g;have h₂:wpAny (model X.prog X.w) X.A (getItem (.ref a) u) (EP X pins σ Q) X.xe s:=WS hu I g ry λ w' s3 I3 bg=>⟨z,H,I3,bg,q⟩;unfold subscriptTail;refine wpAny_bind ?_;rw[getitemInPython_of_ne hT.not_modules];refine wpAny_bind (wpAny_specialOf hT PySem.F.slot_dict_getitem.lookup ?_);have fin:wpAny (model X.prog X.w) X.A (subscripted slice false (.ref a) u) (λ r s₃=>wpAny (model X.prog X.w) X.A (letTemporaryGo value (.ref a) r >>= λ _=>pure r) (EP X pins σ Q) X.xe s₃) X.xe s:=by
  rw[hs];exact wpAny_operating (wpAny_mono h₂ (λ r s₃ h₃=>wpAny_bind (wpAny_letTemporaryGo (wpAny_pure h₃))) λ _ _ x=>x)
 first
  |exact wpAny_pure (wpAny_bind fin)
  |exact wpAny_bind (wpAny_pure (wpAny_bind fin))
  |exact wpAny_bind fin
abbrev AR (x y:D):M D:=match x with
 | .Bo b ks vs=>if keyOk b y=true then (match Gj ks vs y with|some d=>.ok d|none=>.bad) else .bad
 |x=>fZ x y
def hZ:VC X.K WX (λ x y H Q=>(nK X.K x y H Q\/nL X.K x y H Q)\/tS x y H Q) AR:=by
 intro P H x y v w Q ht hx hy h;cases x with
 |Bo b ks vs =>
  simp only[AR] at h;by_cases hk:keyOk b y=true
  ·rw[if_pos hk] at h;obtain⟨a,xs,rfl,g,hl,_⟩:=Qv hx hy (Eh hk);split at h
   ·rename_i d e;obtain⟨u,e1,e2⟩:=N2 hl e;rw[e1] at g;exact .inr ⟨a,u,rfl,g,h _ H (Ad.refl H) e2⟩
   ·exact h.elim
  ·rw[if_neg hk] at h;exact h.elim
 |AL|bl b|int b|str b|tup b|lst b|F3 b|ins b _ _=>exact .inl (GC P H _ y v w Q ht hx hy h)
def Aa {n:Nat}(hu:X.A.units+n<cLine)(ha:DE X WX c a f)(hb:DE X WX c b g)(hs:HA b:=by exact λ _ _=>rfl)(hn:1<=n:=by decide):DE X WX c (.Subscript a b pos) (λ ρ=>(f ρ).bind λ x=>(g ρ).bind λ y=>AR x y):=sV ((M2.or nM).or (hX (by omega))) hZ ha hb hs
abbrev oO (neg:Bool):R2:=λ y x H Q=>∃a o,x=.ref a/\Qg H a y o/\Q (.bl (if neg=true then !o.isSome else o.isSome)) H
def UA (hu:X.A.units+1<cLine):Gv X (compareOp .In) (oO false):=by
 intro pins s σ H x y v u Q I rx ry h;obtain⟨a,o,rfl,g,q⟩:=h;cases ry;exact wN hu I g rx λ s3 I3=>⟨.bl o.isSome,H,I3,rfl,q⟩
def Oe (hu:X.A.units+1<cLine):Gv X (compareOp .NotIn) (oO true):=by
 intro pins s σ H x y v u Q I rx ry h;obtain⟨a,o,rfl,g,q⟩:=h;cases ry;exact fK hu I g rx λ s3 I3=>⟨.bl (!o.isSome),H,I3,rfl,q⟩
abbrev Jy (neg:Bool)(y x:D):M D:=match x with
 | .Bo b ks vs=>if keyOk b y=true then .ok (.bl (if neg=true then !LW ks y else LW ks y)) else .bad
 |x=>uZ neg y x
def VR {neg:Bool}:VC X.K WX (λ x y H Q=>uV X.K neg x y H Q\/oO neg x y H Q) (Jy neg):=by
 intro P H x y v w Q ht hx hy h;cases y with
 |Bo b ks vs =>
  simp only[Jy] at h;by_cases hk:keyOk b x=true
  ·rw[if_pos hk] at h;obtain⟨a,xs,rfl,g,hl,hn⟩:=Qv hy hx (Eh hk);rw[HI (xs:=xs) hn] at h;exact .inr ⟨a,_,rfl,g,h _ H (Ad.refl H) (.bl _)⟩
  ·rw[if_neg hk] at h;exact h.elim
 |AL|bl b|int b|str b|tup b|lst b|F3 b|ins b _ _=>exact .inl (GH P H x _ v w Q ht hx hy h)
def KS {n:Nat}(hu:X.A.units+n<cLine)(ha:DE X WX c a f)(hb:DE X WX c b g)(hm: ~~~(behindInMarks .In b=false))(hn:1<=n:=by decide):DT X WX (.Compare a [.In] [b] pos) (λ ρ=>((f ρ).bind λ x=>(g ρ).bind λ y=>Jy false x y).bind OX):=Fu (WM.or (UA (by omega))) VR ha hb hm
def M8 {n:Nat}(hu:X.A.units+n<cLine)(ha:DE X WX c a f)(hb:DE X WX c b g)(hm: ~~~(behindInMarks .NotIn b=false))(hn:1<=n:=by decide):DT X WX (.Compare a [.NotIn] [b] pos) (λ ρ=>((f ρ).bind λ x=>(g ρ).bind λ y=>Jy true x y).bind OX):=Fu (Qd.or (Oe (by omega))) VR ha hb hm
abbrev Gk:D->M Bool
 | .AL=>.ok false
 | .bl b=>.ok b
 | .int i=>.ok (i != 0)
 | .tup ds| .lst ds=>.ok (!ds.isEmpty)
 |_=>.bad
def Jz {K:zr}{H:Hp}{xs:List V}{ds:List D}(h:Ah K H xs ds):(!ds.isEmpty) = !xs.isEmpty:=by cases h<;>rfl
def BW (h:DE X WX c e f)(he:∀whole,isTrue e X.env whole=(do let v <-whole;standAt e.pos;holding [v] (truthy v)):=by intro _;rfl):DT X WX e (λ ρ=>(f ρ).bind Gk):=by
 obtain⟨t,h1,h2⟩:=h;refine⟨_,YA h1 he,λ P0 P σ H Q ρ E h=>h2 P0 P σ H _ ρ E ?_⟩;dsimp only at h;refine Yc h λ d h=>?_;intro v H' s hv;cases hv with
 |AL=>exact⟨false,rfl,h H' s⟩
 |bl b=>exact⟨b,rfl,h H' s⟩
 |int i=>exact⟨_,rfl,h H' s⟩
 |tup hs hl=>exact⟨_,.inr (.inl ⟨_,EC.of (An hs).2,rfl⟩),by rw[<-Jz hl];exact h H' s⟩
 |lst hs hl=>exact⟨_,.inl ⟨_,hs.AY,rfl⟩,by rw[<-Jz hl];exact h H' s⟩
 |_=>exact h.elim
end
abbrev JA (m:M (List D)):M OT:=match m with | .ok ys=>.ok (.lst (ys.map .sh)) | _=>.bad
section
variable {X:Cx}{WX:Str->Hp->Prop}{c:Bool}{P0:Eb}{P:Addr->Prop}{H:Hp}{σ:St}{ρ:Ae}{a b e tg iter:Expr}{f g:Ae->M D}{ft:Ae->M Bool}{pos:Pos}{gt:D->Ae->M Ae}{fi:Ae->M (List D)}{es:List Expr}{fs:Ae->M (List D)}
def Zq {μ:List (Option Nat)}{wi:TI}{gg:TG}{tc:Shared->Hp->Addr->List Addr->TT}{te:Shared->Hp->Addr->List Addr->TE}{fe:Ae->M D}
 (i2:∀P0 P σ H R ρ,Am X.K P0 P H σ ρ->(match fi ρ with | .ok ds=>∀J H',Ad H H'->gB X.K J P H' ds->R J H' | .ex x=>∀H',Ad H H'->WX x H' | .bad=>False)->wi σ H R)
 (g2:∀P0 P σ H Q ρ v d,Am X.K P0 P H σ ρ->BX X.K (del H P) v d->gG X.K P0 P H Q (gt d ρ)->gg v σ H Q)
 (t2:∀s H' C ex P0 P σ H Q ρ,Am X.K P0 P H σ ρ->gT (λ _ _=>False) H Q (ft ρ)->tc s H' C ex σ H Q)
 (e2:∀s H' C ex P0 P σ H Q ρ,Am X.K P0 P H σ ρ->gV X.K (λ _ _=>False) (Lv true P0 P) H Q (fe ρ)->te s H' C ex σ H Q) {Q:VK}
 (E:Am X.K P0 P H σ ρ) (h:Xd X.K WX P H Q ((fi ρ).bind λ ds=>if ds.length<=1000 then JA (Bv gt ft fe ds (BH μ ρ)) else .bad)):Vu wi μ gg tc te σ H Q:=by
 refine i2 P0 P σ H _ ρ E ?_;cases q:fi ρ with
 |bad|ex x=>rw[q] at h;exact h
 |ok ds =>
  rw[q] at h;simp only[M.A9] at h;by_cases hd:¬ ds.length<=1000
  ·rw[if_neg hd] at h;exact h.elim
  have hd:ds.length<=1000:=by omega
  rw[if_pos hd] at h;intro J H1 s1 ok s C ex;cases qc:Bv gt ft fe ds (BH μ ρ) with
  |bad|ex x=>rw[qc] at h;exact h.elim
  |ok total =>
   rw[qc] at h;unfold JA at h;dsimp only at h;have E1:=E.same s1;refine⟨λ i m ys H2=>m=ds.length-i/\i<=ds.length/\ys.length<=i/\Ad H1 H2/\∃es rest,Ah X.K (del H2 P) ys es/\Bv gt ft fe (ds.drop i) (BH μ ρ)=.ok rest/\es++rest=total,
    ⟨ds.length,by simp,za6 _,zF _,Ad.refl _,[],total,.nil,by rw[List.drop_zero];exact qc,rfl⟩,?_⟩
   rintro i m ys H2 ⟨rfl,hi,hy,s2,es,rest,gi,aj,aU⟩;by_cases af:i<ds.length
   ·refine .inr ⟨ok.go i P H2 s2.del af,Nat.lt_of_le_of_lt hy (AA (by omega)),λ bt H'=>i+1<=ds.length/\bt.length<=i+1/\Ad H1 H'/\∃es rest,Ah X.K (del H' P) bt es/\Bv gt ft fe (ds.drop (i+1)) (BH μ ρ)=.ok rest/\es++rest=total,λ bt H' hq=>⟨ds.length-(i+1),by omega,rfl,hq.1,hq.2.1,hq.2.2.1,hq.2.2.2⟩,λ v H3 y=>?_⟩;have E2:=E1.same s2;obtain⟨s3,hv⟩:=ok.kP i P H2 v H3 ds[i] s2.del E2.C8 (z4 af) y;rw[Jp af,Bv] at aj;have E3:=(E2.same s3).block μ;refine g2 P0 P _ H3 _ (BH μ ρ) v ds[i] E3 hv ?_;cases q1:gt ds[i] (BH μ ρ) with
    |bad|ex x=>rw[q1] at aj;cases aj
    |ok ρ1 =>
     rw[q1] at aj;dsimp only at aj;intro σ4 E4;refine t2 s H1 C ex P0 P σ4 H3 _ ρ1 E4 ?_;cases q2:ft ρ1 with
     |bad|ex x=>rw[q2] at aj;cases aj
     |ok k =>
      rw[q2] at aj;dsimp only at aj;intro H5 s5;cases k with
      |false =>
       simp only[zR,if_false] at aj ⊢;exact⟨af,by omega,(s2.trans s3).trans s5,es,rest,(gi.mono s3.del).mono s5.del,aj,aU⟩
      |true =>
       simp only[if_true] at aj ⊢;refine e2 s H1 C ex P0 P σ4 H5 _ ρ1 (E4.same s5) ?_;cases q3:fe ρ1 with
       |bad|ex x=>rw[q3] at aj;cases aj
       |ok y' =>
        rw[q3] at aj;dsimp only at aj;cases q4:Bv gt ft fe (ds.drop (i+1)) (BH μ ρ) with
        |bad|ex x=>rw[q4] at aj;cases aj
        |ok n5 =>
         rw[q4] at aj;cases aj;intro w H6 s6 hw;refine⟨af,by rw[zW,zav];omega,((s2.trans s3).trans s5).trans s6,es++[y'],n5,(((gi.mono s3.del).mono s5.del).mono s6.del).snoc hw,rfl,?_⟩;rw[za9];exact aU
   ·have e:i=ds.length:=by omega
    subst e;rw[List.drop_length,Bv] at aj;cases aj;rw[zV] at aU;subst aU;exact .inl ⟨ok.stop _ P H2 s2.del (zF _),λ D0 hn=>h.KR (s1.trans s2) gi D0 hn⟩
def CU {scope:Scope}{NB:List Str}{ifs:List Expr}{elt:Expr}{fe:Ae->M D}(μ:List (Option Nat))(hc:X.calm=true)(hi:DI X WX tg iter fi)(a9:Gz scope X.env.scope=true)(b6:Qi X.N NB scope μ=true)(hg:tH X scope NB μ tg gt)
 (ht:∀s H C ex,tI (blockOf X s H scope C NB ex) ifs ft) (he:∀s H C ex,DE (blockOf X s H scope C NB ex) (λ _ _=>False) true elt fe) (hs:∀x,foldedSetIterable iter X.env x=pure x:=by intro _;rfl):
 DN X WX (.ListComp elt [⟨tg,iter,ifs,0⟩] scope pos) (λ ρ=>(fi ρ).bind λ ds=>if ds.length<=1000 then JA (Bv gt ft fe ds (BH μ ρ)) else .bad):=by
 obtain⟨wi,i1,i2⟩:=hi;obtain⟨gg,g1,gk,g2⟩:=hg;refine⟨_,fS hc i1 a9 b6 gk (λ s H C ex=>⟨g1 s H C ex,(zt (ht s H C ex)).1,(zt (he s H C ex)).1⟩) hs,λ P0 P σ H Q ρ E h=>?_⟩;exact Zq i2 g2 (λ s H' C ex P0 P σ H Q ρ E h=>(zt (ht s H' C ex)).2 P0 P σ H Q ρ E h) (λ s H' C ex P0 P σ H Q ρ E h=>(zt (he s H' C ex)).2 P0 P σ H Q ρ E h) E h
def Zr {scope:Scope}{NB:List Str}{ifs:List Expr}{elt:Expr}{fe:Ae->M D}(i:Nat){x:Str}{px al:Pos}(μ:List (Option Nat))(hN:X.N.Nodup)(jj:X.N[i]?=some x)(hx:Loc X.env.scope x)(hc:X.calm=true)(hi:DI X WX tg iter fi)(a9:Gz scope X.env.scope=true)(b6:Qi X.N NB scope μ=true)(hg:tH X scope NB μ tg gt)(ht:∀s H C ex,tI (blockOf X s H scope C NB ex) ifs ft)(he:∀s H C ex,DE (blockOf X s H scope C NB ex) (λ _ _=>False) true elt fe)(bh: ~~~(swapsWith (.ListComp elt [⟨tg,iter,ifs,0⟩] scope pos) (some (.Name x px)) al.line X.env=pure true))(hs:∀x,foldedSetIterable iter X.env x=pure x:=by intro _;rfl)(hf:X.fn x=true\/X.env.scope.names.lookup x=some .local:=by first|exact .inl rfl|exact .inr rfl|assumption):
 DS X WX (.Assign [.Name x px] (.ListComp elt [⟨tg,iter,ifs,0⟩] scope pos) al) (λ ρ=>(TV ((fi (EF ρ)).bind λ ds=>if ds.length<=1000 then JA (Bv gt ft fe ds (BH μ (EF ρ))) else .bad)).bind (Si i ρ)):=by
 obtain⟨wi,i1,i2⟩:=hi;obtain⟨gg,g1,gk,g2⟩:=hg;refine⟨_,Vv hN jj hx hc i1 a9 b6 gk (λ s H C ex=>⟨g1 s H C ex,(zt (ht s H C ex)).1,(zt (he s H C ex)).1⟩) bh hs hf,λ P0 P σ H Z ρ E h=>?_⟩;refine Zq (P0:=P0) (P:=P0) i2 g2 (λ s H' C ex P0 P σ H Q ρ E h=>(zt (ht s H' C ex)).2 P0 P σ H Q ρ E h) (λ s H' C ex P0 P σ H Q ρ E h=>(zt (he s H' C ex)).2 P0 P σ H Q ρ E h) E.low ?_;dsimp only at h;revert h;cases ((fi (EF ρ)).bind λ ds=>if ds.length<=1000 then JA (Bv gt ft fe ds (BH μ (EF ρ))) else .bad) with
 |bad=>exact λ h=>h
 |ex y=>exact λ h H' s=>h H' P (E.tr s)
 |ok t =>
  unfold TV;simp only[M.A9];by_cases hf:GJ t=true
  ·rw[if_pos hf];exact λ h v fp H' s hn nd o=>lB E s hn nd (o.clean (IV (E.same s).C8 o) hf) h
  ·rw[if_neg hf];exact λ h=>h.elim
end
abbrev wZ (K:zr)(WX:Str->Hp->Prop)(P:Addr->Prop)(p:Addr)(fp:List Addr)(H:Hp)(Q:VK):M (OT×OT)->Prop
 | .ok (t,r)=>∀v H' P' ag fr,(∀a,P a->a∉fp->P' a/\H' a=H a)->(∀a,P' a->DB H' a)->Ad (del H P) (del H' P')->C7 K H' P' (.ref p) t ag->ag.Nodup->C7 K H' P' v r fr->fr.Nodup->(∀a∈fr,a∉ag)->
  (∀a∈ag,P' a/\(P a->a∈fp))->(∀a∈fr,P' a/\(P a->a∈fp))->Q v H'
 | .ex _| .bad=>False
abbrev Pe (K:zr)(n:Nat)(F:OT->List D->M (OT×OT)):Sp:=λ vs H Q E=>vs.length=n/\∃P p t fp rest aw,vs=.ref p::rest/\(∀a,P a->DB H a)/\(∀a∈fp,P a)/\fp.Nodup/\C7 K H P (.ref p) t fp/\Ah K (del H P) rest aw/\wZ K (D1 K E) P p fp H Q (F t aw)
abbrev D4 (N:List Str)(t:OT)(aw:List D):Ae:=some (toCl (some 0) t)::(aw.map (λ d=>some (.val d))++zE (N.length-(aw.length+1)) none)
abbrev GQ (ρ:Ae):Option OT:=match ρ[0]? with
 |some (some c)=>(match treeOf c with|some (some 0,t)=>some t|_=>none)
 |_=>none
abbrev Ei (m:M Out):M (OT×OT):=match m with
 | .ok (.next ρ)=>(match GQ ρ with|some t=>.ok (t,.sh .AL)|none=>.bad)
 | .ok (.F7 r ρ)=>(match GQ ρ with|some t=>.ok (t,r)|none=>.bad)
 |_=>.bad
def Sj (p:Option Nat)(t:OT):treeOf (toCl p t)=some (p,t):=by
 unfold toCl;split
 ·rename_i ts;cases q:DK ts with
  |none=>rfl
  |some ds =>
   have e:=CC q;subst e;cases p<;>rfl
 ·rfl
def Xf (p:Option Nat)(t:OT):Ih (toCl p t)=true:=by
 unfold toCl;split
 ·rename_i ts;cases q:DK ts with
  |none=>rfl
  |some ds=>cases p<;>rfl
 ·rfl
def JB {K:zr}{P:Addr->Prop}{H:Hp}{N:List Str}{p:Addr}{t:OT}{fp:List Addr}{rest:List V}{aw:List D}(ht:∀a,P a->DB H a)(hp:∀a∈fp,P a)(nd:fp.Nodup)(o:C7 K H P (.ref p) t fp)(h:Ah K (del H P) rest aw):
 Am K ⟨λ a=>P a/\a∉fp,λ _=>p⟩ P H (start N (.ref p::rest)) (D4 N t aw):=by
 have hl:=h.length;have key:∀(i:Nat) (c:Cl),(aw.map (λ d=>some (Cl.val d))++zE (N.length-(aw.length+1)) none)[i]?=some (some c)->∃d,aw[i]?=some d/\c=.val d:=λ i c e=>by
  by_cases hi:i<aw.length
  ·rw[zar (by simpa using hi),zU] at e;cases q:aw[i]? with
   |none=>rw[q] at e;cases e
   |some d=>rw[q] at e;cases e;exact⟨d,rfl,rfl⟩
  ·rw[zb4 (by simpa using hi),zbd] at e;split at e<;>cases e
 have sg:(start N (.ref p::rest))[0]?=some (some (.ref p)):=by unfold start;rfl
 refine⟨λ a h=>h.1,ht,λ i d e=>?_,λ i c e io=>?_,λ i j c c' v v' fp ag e1 e2 _ _ o1 o2 ae=>?_,?_,λ i c n e vq=>?_⟩
 rotate_left 4
 ·cases i with
  |zero=>exact sg
  |succ i =>
   obtain⟨d',q,z⟩:=key i _ (by unfold D4 at e;simpa using e);cases z;cases vq
 ·cases i with
  |zero =>
   have e':some (toCl (some 0) t)=some (.val d):=by simpa [D4] using e
   have:=Xf (some 0) t;rw[zT e'] at this;cases this
  |succ i =>
   obtain⟨d',q,z⟩:=key i _ (by unfold D4 at e;simpa using e);cases z;obtain⟨v,hv,hd⟩:=h.get q;refine⟨v,?_,hd⟩;unfold start;rw[zx,zbu,za0,zar (by rw[zu];exact (zG.mp hv).1),zU,hv];rfl
 ·cases i with
  |zero =>
   have e':toCl (some 0) t=c:=by simpa [D4] using e
   subst e';exact⟨_,fp,sg,Dt.toCl o,λ a ha=>⟨hp a ha,λ z=>z.2 ha⟩,nd⟩
  |succ i =>
   obtain⟨d',q,z⟩:=key i _ (by unfold D4 at e;simpa using e);cases z;cases io
 ·cases i with
  |zero =>
   cases j with
   |zero=>exact (ae rfl).elim
   |succ j =>
    obtain⟨d',q,z⟩:=key j _ (by unfold D4 at e2;simpa using e2);cases z;exact o2.elim
  |succ i =>
   obtain⟨d',q,z⟩:=key i _ (by unfold D4 at e1;simpa using e1);cases z;exact o1.elim
 ·unfold start D4;simp[hl]
section
variable {P:Program}{w:World}{K:zr}{mg:Str->Option Value}{base:Heap}
def M9 {P0:Eb}{P':Addr->Prop}{H':Hp}{σ':St}{ρ:Ae}{t:OT}(E:Am K P0 P' H' σ' ρ)(h:GQ ρ=some t):∃c ag,ρ[0]?=some (some c)/\σ'[0]?=some (some (.ref (P0.g 0)))/\Dt K H' P' c (.ref (P0.g 0)) ag/\C7 K H' P' (.ref (P0.g 0)) t ag/\ag.Nodup/\∀a∈ag,P' a/\¬ P0 a:=by
 unfold GQ at h;split at h
 ·rename_i c e;split at h
  ·rename_i t' e2;cases h;have io:Ih c=true:=by cases c<;>first|rfl|cases e2
   obtain⟨v,fp,k1,k2,k3,k4⟩:=E.ows 0 c e io;have:=E.pin 0 c 0 e (IY e2);rw[k1] at this;cases this;exact⟨c,fp,e,k1,k2,k2.toT e2,k4,k3⟩
  ·cases h
 ·cases h
def oP {x qual:Str}{st:Stmt}{f:Addr}{fd:FuncData}{N ps:List Str}{k:Nat}(F:Yb K x qual st f fd)(S:Ac N ps (A4 st))(g:Ae->M Out)
 (hb:∀(B7:Value) (A:Around) (outer:List Env) (s:Shared) (H:Hp) (E:XK),BC k (A.deeper (envOfC qual (A4 st) s.heap.objs.size f B7))->TU (kY P w K mg base N qual (A4 st) f B7 A outer s H E) (D1 K E) (AO st) g):
 Dr P w K mg base (Ur P w base) (k+1) f fd ps (Pe K ps.length λ t aw=>Ei (g (D4 N t aw))):=by
 obtain⟨oc,od,kV,doc,pm,an,B7,ct,TR,rfl,lk,bc⟩:=F.ex;refine Vo lk bc S (λ vs H Q E h=>h.1) λ A outer s H vs Q E hr h=>?_;obtain⟨hl,P',p,t,fp,rest,aw,rfl,ht,hp,nd,ho,hv,hq⟩:=h;obtain⟨tt,h1,h2⟩:=hb B7 A outer s H E hr;refine⟨tt,h1,h2 ⟨λ a=>P' a/\a∉fp,λ _=>p⟩ P' _ H _ _ (JB ht hp nd ho hv) ?_⟩;dsimp only at hq;revert hq;cases g (D4 N t aw) with
 |bad|ex x=>exact λ h=>h.elim
 |ok o =>
  have sub:∀ {P2:Addr->Prop} {H2:Hp} {σ2:St} {ρ:Ae},Am K ⟨λ a=>P' a/\a∉fp,λ _=>p⟩ P2 H2 σ2 ρ->∀a,P2 a/\¬ (P' a/\a∉fp)->P2 a/\(P' a->a∈fp):=λ E a ha=>⟨ha.1,λ z=>zbg λ w=>ha.2 ⟨z,w⟩⟩;cases o with
  |ret d|CO d=>exact λ h=>h.elim
  |next ρ =>
   intro hq σ' H' P2 t2 E2;unfold Ei at hq;dsimp only at hq;split at hq
   ·rename_i t' e;obtain⟨c,ag,k1,k2,k3,k4,k5,k6⟩:=M9 E2 e;exact hq .AL H' P2 ag [] (λ a ha hn=>⟨E2.sub a ⟨ha,hn⟩,t2.2 a ⟨ha,hn⟩⟩) E2.C8 t2.1 k4 k5 (.sh .AL) zax (λ a ha=>by cases ha) (λ a ha=>sub E2 a (k6 a ha)) (λ a ha=>by cases ha)
   ·exact hq.elim
  |F7 r ρ =>
   intro hq v fr σ' H' P2 t2 E2 o2 aV hf;unfold Ei at hq;dsimp only at hq;split at hq
   ·rename_i t' e;obtain⟨c,ag,k1,k2,k3,k4,k5,k6⟩:=M9 E2 e;exact hq v H' P2 ag fr (λ a ha hn=>⟨E2.sub a ⟨ha,hn⟩,t2.2 a ⟨ha,hn⟩⟩) E2.C8 t2.1 k4 k5 o2 aV (λ a ha=>(hf a ha).2.2 0 c _ ag k1 k2 k3) (λ a ha=>sub E2 a (k6 a ha)) (λ a ha=>sub E2 a ⟨(hf a ha).1,(hf a ha).2.1⟩)
   ·exact hq.elim
  |brk ρ|cont ρ=>exact λ h=>h.elim
end
structure Pf (P:Program)(w:World)(K:zr)(mg:Str->Option Value)(base:Heap)(x:Str)(k n:Nat)(F:OT->List D->M (OT×OT)):Prop where
 ex:∃fa fd ps,Dr P w K mg base (Ur P w base) k fa fd ps (Pe K n F)/\mg x=some (.ref fa)/\zah K (.ref fa)=true/\Binds K fd ps []
def Sk {P:Program}{w:World}{K:zr}{mg:Str->Option Value}{base:Heap}{x:Str}{st:Stmt}{N ps:List Str}{k n:Nat}(T:AH K mg x st ps)(S:Ac N ps (A4 st))(g:Ae->M Out)(hb:∀(f:Addr) (B7:Value) (A:Around) (outer:List Env) (s:Shared) (H:Hp) (E:XK),BC k (A.deeper (envOfC x (A4 st) s.heap.objs.size f B7))->TU (kY P w K mg base N x (A4 st) f B7 A outer s H E) (D1 K E) (AO st) g)(hn: ~~~(ps.length=n)):
 Pf P w K mg base x (k+1) n (λ t aw=>Ei (g (D4 N t aw))):=by
 obtain⟨f,fd,F,hm,hB⟩:=T.ex;subst hn;exact⟨⟨f,fd,ps,oP F S g (hb f),hm,F.kp,hB⟩⟩
section
variable {X:Cx}{WX:Str->Hp->Prop}{c:Bool}{P0:Eb}{P:Addr->Prop}{H:Hp}{σ:St}{ρ:Ae}{a b e:Expr}{f g:Ae->M D}{fn:Ae->M OT}{fp:Ae->M (List Nat)}{pos:Pos}{i:Nat}{es:List Expr}{fs:Ae->M (List D)}
def Am.new {K:zr}{P':Addr->Prop}{H':Hp}(E:Am K P0 P H σ ρ)(s:Ad H H')(sm:Ad (del H P) (del H' P')){a:Addr}(hn:H a=none):∀(j:Nat) c v fq,ρ[j]?=some (some c)->σ[j]?=some (some v)->Dt K H' P' c v fq->a∉fq:=λ j c v fq h1 h2 h3 ha=>by
 have io:Ih c=true:=by cases c<;>first|rfl|exact h3.elim
 obtain⟨w,fr,k1,k2,k3,k4⟩:=E.ows j c h1 io;rw[h2] at k1;cases k1;have m:=k2.move sm λ b hb=>by obtain⟨o,q⟩:=k2.at b hb;rw[q];exact s _ _ q
 rw[h3.Cj m] at ha;obtain⟨o,q⟩:=k2.at a ha;rw[hn] at q;cases q
def Am.tT {K:zr}{P':Addr->Prop}{H':Hp}{π:List Nat}{v1 v2:V}{t1 u r:OT}{az fu fr:List Addr}(E:Am K P0 P H σ ρ)(pl:Bg K P H σ ρ i π v1 t1)(o:C7 K H P v1 t1 az)(hs:∀a,P a->a∉az->P' a/\H' a=H a)(ht:∀a,P' a->DB H' a)(sm:Ad (del H P) (del H' P'))
 (o':C7 K H' P' v1 u fu) (nd:fu.Nodup) (hf:∀a∈fu,P' a/\(P a->a∈az)) (or:C7 K H' P' v2 r fr) (za:fr.Nodup) (hr:∀a∈fr,P' a/\(P a->a∈az)) (dj:∀a∈fr,a∉fu):
 ∃c p t,ρ[i]?=some (some c)/\treeOf c=some (p,t)/\Am K P0 P' H' σ (ρ.set i (some (toCl p (ER t π u))))/\Tr P0 P H P' H'/\
  ∀a∈fr,P' a/\¬ P0 a/\∀(j:Nat) c' v fq,(ρ.set i (some (toCl p (ER t π u))))[j]?=some (some c')->σ[j]?=some (some v)->Dt K H' P' c' v fq->a∉fq:=by
 obtain⟨v0,c,p,t,h1,h2,h3,h4⟩:=pl.ex;have io:Ih c=true:=by cases c<;>first|rfl|cases h2
 obtain⟨w,fp,k1,k2,k3,k4⟩:=E.ows i c h1 io;rw[h3] at k1;cases k1;have ot:=k2.toT h2;obtain⟨fz,oz,kz,_⟩:=ot.part h4;have:=oz.Cj o;subst this;obtain⟨ag,q1,q2,q3⟩:=ot.put sm h4 o o' (λ a ha hn=>(hs a (k3 a ha).1 hn).2) k4 nd (λ a ha hb=>(hf a ha).2 (k3 a hb).1);have sn:∀(j:Nat) c' v' fq,i≠j->ρ[j]?=some (some c')->σ[j]?=some (some v')->Dt K H P c' v' fq->∀a∈fq,P a/\a∉fp:=λ j c' v' fq ae g1 g2 g3 a ha=>by
  have jp:Ih c'=true:=by cases c'<;>first|rfl|exact g3.elim
  obtain⟨w',on,m1,m2,m3,m4⟩:=E.ows j c' g1 jp;rw[g2] at m1;cases m1;have:=m2.Cj g3;subst this;exact⟨(m3 a ha).1,E.apart j i c' c v' v0 on fp g1 h1 g2 h3 g3 k2 (zac ae) a ha⟩
 have key:=E.tF (P':=P') (H':=H') (i:=i) (v:=v0) (c:=toCl p (ER t π u)) (fp:=ag) (λ a ha=>(hs a (E.sub a ha) λ z=>(k3 a (kz a z)).2 ha).1) ht sm (λ j c' v' fq ae g1 g2 g3 a ha=>?_) (Dt.toCl q1) (λ a ha=>?_) q2 (λ n z=>by rw[IX] at z;subst z;have:=E.pin i c n h1 (IY h2);rw[h3] at this;cases this;rfl)
 ·rw[KJ h3] at key;refine⟨c,p,t,h1,h2,key,⟨sm,λ a ha=>(hs a (E.sub a ha) λ z=>(k3 a (kz a z)).2 ha).2⟩,λ a ha=>⟨(hr a ha).1,λ z=>(k3 a (kz a ((hr a ha).2 (E.sub a z)))).2 z,λ j c' v fq g1 g2 g3 hb=>?_⟩⟩;rcases get_set g1 with ⟨rfl,hl,z⟩|⟨ae,g1⟩
  ·cases z;rw[h3] at g2;cases g2;rw[g3.Cj (Dt.toCl q1)] at hb;rcases q3 a hb with y|y
   ·exact dj a ha y
   ·exact y.2 ((hr a ha).2 (k3 a y.1).1)
  ·have jp:Ih c'=true:=by cases c'<;>first|rfl|exact g3.elim
   obtain⟨w',on,m1,m2,m3,m4⟩:=E.ows j c' g1 jp;rw[g2] at m1;cases m1;have o2:=sn j c' v on ae g1 g2 m2;have mv:=m2.move sm λ b ay=>(hs b (o2 b ay).1 λ z=>(o2 b ay).2 (kz b z)).2;rw[g3.Cj mv] at hb;exact (o2 a hb).2 (kz a ((hr a ha).2 (o2 a hb).1))
 ·have o2:=sn j c' v' fq ae g1 g2 g3 a ha;have hk:=hs a o2.1 λ z=>o2.2 (kz a z);refine⟨hk.2,λ z=>?_,hk.1⟩;rcases q3 a z with y|y
  ·exact o2.2 (kz a ((hf a y).2 o2.1))
  ·exact o2.2 y.1
 ·rcases q3 a ha with y|y
  ·exact⟨(hf a y).1,λ z=>(k3 a (kz a ((hf a y).2 (E.sub a z)))).2 z⟩
  ·exact⟨(hs a (k3 a y.1).1 y.2).1,(k3 a y.1).2⟩
end
abbrev Gm (i:Nat)(ρ:Ae)(π:List Nat)(u:OT):M Out:=match ρ[i]? with
 |some (some c)=>(match treeOf c with|some (p,t)=>.ok (.next (ρ.set i (some (toCl p (ER t π u)))))|none=>.bad)
 |_=>.bad
abbrev Ej (i:Nat)(ρ:Ae)(π:List Nat):M (List OT):=match TX i ρ π with | some (.lst ts)=>.ok ts | _=>.bad
def HJ {i:Nat}{ρ:Ae}{π:List Nat}{u:OT}{c:Cl}{p:Option Nat}{t:OT}(h:ρ[i]?=some (some c))(ht:treeOf c=some (p,t)):Gm i ρ π u=.ok (.next (ρ.set i (some (toCl p (ER t π u))))):=by
 unfold Gm;simp only[h,ht]
def AF.append {K:zr}{H:Hp}{P:Addr->Prop}:∀ {xs ys:List V}{ts us:List OT}{fp fq:List Addr},AF K H P xs ts fp->AF K H P ys us fq->AF K H P (xs++ys) (ts++us) (fp++fq)
 |_,_,_,_,_,_,.nil,h=>h
 |_,_,_,_,_,_,.cons a t,h=>by rw[za9];exact .cons a (t.append h)
section
variable {X:Cx}{WX:Str->Hp->Prop}{c:Bool}{P0:Eb}{P:Addr->Prop}{H:Hp}{σ:St}{ρ:Ae}{a b e:Expr}{f g:Ae->M D}{fn:Ae->M OT}{fp:Ae->M (List Nat)}{pos:Pos}{i:Nat}{es:List Expr}{fs:Ae->M (List D)}
def Bg.lst {K:zr}{π:List Nat}{v:V}{t1:OT}{ts:List OT}(pl:Bg K P H σ ρ i π v t1)(E:Am K P0 P H σ ρ)(h:Ej i ρ π=.ok ts):t1=.lst ts/\∃l xs fq,v=.ref l/\H l=some (.lst xs)/\AF K H P xs ts fq/\l∉fq/\fq.Nodup:=by
 unfold Ej at h;rw[pl.at] at h;split at h
 ·rename_i oq e;cases e;cases h;obtain⟨az,o1,hp,nd⟩:=pl.own E;cases o1 with
  |lst hh hr=>exact⟨rfl,_,_,_,rfl,hh,hr,(zag.mp nd).1,(zag.mp nd).2⟩
 ·cases h
def oQ (ha:DP X WX a i fp)(he:DN X WX e fn){apos ad:Pos}(hs: ~~~(starEach [e] X.env=[(false,eval e X.env)]))(bh: ~~~(swapsWith (.Call (.Attribute a "append" apos) [e] [] ad) none pos.line X.env=pure false))(ar: ~~~(attributeBase a "append" X.env (eval a X.env)=eval a X.env))(aE: ~~~(((backTo ad (starEach [e] X.env)).all (λ x => !x.1)&&(backToKw ad (keywordEach [] X.env)).all (λ x=>x.1.isSome)&&decide (([e]:List Expr).length+([]:List Keyword).length+(if ([]:List Keyword).isEmpty then 0 else 1)<30))=true))(au: ~~~((apos.endLine==ad.line)=true))(ak: ~~~((backTo ad (starEach [] X.env)).any (·.1)=false)):
 DS X WX (.Expr (.Call (.Attribute a "append" apos) [e] [] ad) pos) (λ ρ=>(fp ρ).bind λ π=>(Ej i ρ π).bind λ ts=>(fn ρ).bind λ t=>if ts.length<1000 then Gm i ρ π (.lst (ts++[t])) else .bad):=by
 obtain⟨ta,a1,a2⟩:=ha;obtain⟨te,e1,e2⟩:=he;refine⟨_,Fq (OO zba PySem.F.slot_list_append PySem.F.type_list_append KC a1 (Bn e1 Cn hs) ar aE au hs ak) bh,λ P0 P σ H Z ρ E h=>?_⟩;dsimp only at h;refine a2 P0 P σ H _ ρ E ?_;refine eC h E λ π h=>?_;intro v t1 H1 s1 pl;have E1:=E.same s1;cases q1:Ej i ρ π with
 |bad=>rw[q1] at h;exact h.elim
 |ex x=>unfold Ej at q1;split at q1<;>cases q1
 |ok ts =>
  rw[q1] at h;simp only[M.A9] at h;obtain⟨rfl,l,xs,fq,rfl,hl,ol,nl,vt⟩:=pl.lst E1 q1;refine⟨.inl ⟨rfl,xs,.of hl⟩,e2 P0 P σ H1 _ ρ E1 ?_⟩;cases q2:fn ρ with
  |bad=>rw[q2] at h;exact h
  |ex y=>rw[q2] at h;exact λ H' s=>h H' P ((E.tr s1).trans (E1.tr s))
  |ok t =>
   rw[q2] at h;simp only[M.A9] at h;by_cases hz:ts.length<1000
   ·rw[if_pos hz] at h;intro w fw H2 s2 n2 aV o2;have sm:=Cu (P:=P) s2 n2;have E2:Am X.K P0 (PU P fw) H2 σ ρ:=E1.more s2 KQ (IV (E1.same s2).C8 o2) sm;have keep:∀b∈fq,H2 b=H1 b:=λ b hb=>by obtain⟨o,z,_⟩:=ol.C8 b hb;rw[z];exact s2 _ _ z
    have d5:=ol.move sm keep;have a7:=s2 _ _ hl;have dj:∀b∈fq,b∉fw:=λ b hb hc=>(ol.C8 b hb).no (n2 b hc);obtain⟨c,p,t0,g1,g2,E3,t3⟩:=E2.tR (pl.more sm s2) a7 d5 (us:=ts++[t]) (ys:=xs++[w]) (d5.append (.cons o2 .nil)) (by rw[zV];exact zQ.mpr ⟨vt,aV,λ b hb d hd z=>dj b hb (by rw[z];exact hd)⟩) (by
     rw[zV];intro z;rcases zJ.mp z with z|z
     ·exact nl z
     ·rw[n2 l z] at hl;cases hl) (by
     intro b hb;rw[zV] at hb;rcases zJ.mp hb with z|z
     ·exact .inl z
     ·exact .inr ⟨.inr z,λ y=>(E1.C8 b (E1.sub b y)).no (n2 b z),E1.new s2 sm (n2 b z)⟩)
    rw[HJ g1 g2] at h;exact⟨l,xs,w,rfl,rfl,a7,AA (by rw[ol.len];exact zam hz),h _ _ _ (((E.tr s1).trans (E1.vB s2 n2)).trans t3) E3⟩
   ·rw[if_neg hz] at h;exact h.elim
abbrev iA {α:Type}(o:Option α):M α:=match o with | some x=>.ok x | none=>.bad
abbrev TY (i:Nat)(ρ:Ae)(π:List Nat):M (List D):=match TX i ρ π with | some (.lst ts)=>(match DK ts with | some ds=>.ok ds | none=>.bad) | _=>.bad
def Bg.shl {K:zr}{π:List Nat}{v:V}{t1:OT}{ds:List D}(pl:Bg K P H σ ρ i π v t1)(E:Am K P0 P H σ ρ)(h:TY i ρ π=.ok ds):t1=.lst (ds.map .sh)/\∃l xs,v=.ref l/\H l=some (.lst xs)/\Ah K (del H P) xs ds:=by
 unfold TY at h;rw[pl.at] at h;split at h
 ·rename_i oq e;split at h
  ·rename_i jm e';cases e;cases h;have z:=CC e';subst z;obtain⟨az,o1,hp,nd⟩:=pl.own E;cases o1 with
   |lst hh hr=>exact⟨rfl,_,_,rfl,hh,hr.oN.2⟩
  ·cases h
 ·cases h
def Zs {π:List Nat}{x:Str}(h:TY i ρ π=.ex x):False:=by
 unfold TY at h;split at h
 ·split at h<;>cases h
 ·cases h
def Am.tU {K:zr}{π:List Nat}{l:Addr}{xs ys:List V}{ds es:List D}(E:Am K P0 P H σ ρ)(pl:Bg K P H σ ρ i π (.ref l) (.lst (ds.map .sh)))(hH:H l=some (.lst xs))(o:Ah K (del H P) xs ds)(o':Ah K (del H P) ys es):
 ∃c p t,ρ[i]?=some (some c)/\treeOf c=some (p,t)/\Am K P0 P (upd H l (.lst ys)) σ (ρ.set i (some (toCl p (ER t π (.lst (es.map .sh))))))/\Tr P0 P H P (upd H l (.lst ys)):=
 E.tR pl hH o.ows o'.ows zax (λ z=>by cases z) (λ a ha=>by cases ha)
abbrev iB (t:OT):M (List D):=match t with | .lst us=>iA (DK us) | _=>.bad
def Zt (ha:DP X WX a i fp)(he:DN X WX e fn){apos ad:Pos}(hs: ~~~(starEach [e] X.env=[(false,eval e X.env)]))(bh: ~~~(swapsWith (.Call (.Attribute a "extend" apos) [e] [] ad) none pos.line X.env=pure false))(ar: ~~~(attributeBase a "extend" X.env (eval a X.env)=eval a X.env))(aE: ~~~(((backTo ad (starEach [e] X.env)).all (λ x => !x.1)&&(backToKw ad (keywordEach [] X.env)).all (λ x=>x.1.isSome)&&decide (([e]:List Expr).length+([]:List Keyword).length+(if ([]:List Keyword).isEmpty then 0 else 1)<30))=true))(au: ~~~((apos.endLine==ad.line)=true))(ak: ~~~((backTo ad (starEach [] X.env)).any (·.1)=false)):
 DS X WX (.Expr (.Call (.Attribute a "extend" apos) [e] [] ad) pos) (λ ρ=>(fp ρ).bind λ π=>(TY i ρ π).bind λ ds=>((fn ρ).bind iB).bind λ es=>if ds.length+es.length<=1000 then Gm i ρ π (.lst ((ds++es).map .sh)) else .bad):=by
 obtain⟨ta,a1,a2⟩:=ha;obtain⟨te,e1,e2⟩:=he;refine⟨_,Fq (OO zba PySem.F.slot_list_extend PySem.F.type_list_extend WO a1 (Bn e1 Cn hs) ar aE au hs ak) bh,λ P0 P σ H Z ρ E h=>?_⟩;dsimp only at h;refine a2 P0 P σ H _ ρ E ?_;refine eC h E λ π h=>?_;intro v t1 H1 s1 pl;have E1:=E.same s1;cases q1:TY i ρ π with
 |bad=>rw[q1] at h;exact h.elim
 |ex x=>exact (Zs q1).elim
 |ok ds =>
  rw[q1] at h;simp only[M.A9] at h;obtain⟨rfl,l,xs,rfl,hl,ol⟩:=pl.shl E1 q1;refine⟨.inl ⟨rfl,xs,.of hl⟩,e2 P0 P σ H1 _ ρ E1 ?_⟩;cases q2:fn ρ with
  |bad=>rw[q2] at h;exact h
  |ex y=>rw[q2] at h;exact λ H' s=>h H' P ((E.tr s1).trans (E1.tr s))
  |ok t =>
   rw[q2] at h;simp only[M.A9] at h;intro w fw H2 s2 n2 aV o2;have sm:=Cu (P:=P) s2 n2;have E2:Am X.K P0 (PU P fw) H2 σ ρ:=E1.more s2 KQ (IV (E1.same s2).C8 o2) sm;cases t with
   |lst us =>
    simp only[iB] at h;cases q3:DK us with
    |none=>rw[q3] at h;exact h.elim
    |some es =>
     rw[q3] at h;simp only[iA,M.A9] at h;have z:=CC q3;subst z;cases o2 with
     |lst hb hr =>
      by_cases hz:ds.length+es.length<=1000
      ·rw[if_pos hz] at h;have he:=hr.oN.2;have d5:=ol.mono sm;have a7:=s2 _ _ hl;obtain⟨c,p,t0,g1,g2,E3,t3⟩:=E2.tU (pl.more sm s2) a7 d5 (d5.append he);rw[HJ g1 g2] at h;exact⟨l,_,xs,_,rfl,rfl,a7,hb,zam (AA (by rw[ol.length,he.length];exact hz)),h _ _ _ (((E.tr s1).trans (E1.vB s2 n2)).trans t3) E3⟩
      ·rw[if_neg hz] at h;exact h.elim
   |_=>exact h.elim
end
abbrev gX (K:zr)(WX:Str->Hp->Prop)(P0:Eb)(P:Addr->Prop)(H:Hp)(σ:St)(Q:VK):M (Ae×OT)->Prop
 | .ok (ρ,t)=>∀v fp H' P',Tr P0 P H P' H'->Am K P0 P' H' σ ρ->C7 K H' P' v t fp->fp.Nodup->(∀a∈fp,P' a/\¬ P0 a/\∀(j:Nat) c v' fq,ρ[j]?=some (some c)->σ[j]?=some (some v')->Dt K H' P' c v' fq->a∉fq)->Q v H'
 | .ex x=>∀H' P',Tr P0 P H P' H'->WX x H'
 | .bad=>False
abbrev DX (X:Cx)(WX:Str->Hp->Prop)(e:Expr)(f:Ae->M (Ae×OT)):Prop:=
 ∃t,PE X e t/\∀P0 P σ H Q ρ,Am X.K P0 P H σ ρ->gX X.K WX P0 P H σ Q (f ρ)->t σ H Q
abbrev Zu:OT->Bool
 | .sh _=>false
 |_=>true
abbrev Sl (i:Nat)(F:OT->List D->M (OT×OT))(ρ:Ae)(π:List Nat)(aw:List D):M (Ae×OT):=match ρ[i]? with
 |some (some c)=>(match treeOf c with
  |some (p,t)=>(match KO t π with
   |some t1=>if Zu t1=true then (match F t1 aw with | .ok (t2,r)=>.ok (ρ.set i (some (toCl p (ER t π t2))),r)|_=>.bad) else .bad
   |none=>.bad)
  |none=>.bad)
 |_=>.bad
section
variable {X:Cx}{E:XK}{WX:Str->Hp->Prop}{c:Bool}{P0:Eb}{P:Addr->Prop}{H:Hp}{σ:St}{ρ:Ae}{a b e:Expr}{f g:Ae->M D}{fn:Ae->M OT}{fx:Ae->M (Ae×OT)}{fp:Ae->M (List Nat)}{pos:Pos}{i:Nat}{es:List Expr}{fs:Ae->M (List D)}
def Zv {F:OT->List D->M (OT×OT)}{π:List Nat}{aw:List D}{c:Cl}{p:Option Nat}{t t1 t2 r:OT}(h:ρ[i]?=some (some c))(ht:treeOf c=some (p,t))(hs:KO t π=some t1)(hN:Zu t1=true)(hF:F t1 aw=.ok (t2,r)):Sl i F ρ π aw=.ok (ρ.set i (some (toCl p (ER t π t2))),r):=by
 unfold Sl;simp only[h,ht,hs,hN,if_true,hF]
def Zw {k n:Nat}{F:OT->List D->M (OT×OT)}{x:Str}{p:Pos}(xo:G8 X E)(G:Pf X.prog X.w X.K X.mg X.base x k n F)(hr:BC k X.A)(hg:Gl X x)(hp:DP X (D1 X.K E) a i fp)(ha:DA X (D1 X.K E) true es fs)(hn:es.length+1=n)(aS:(x==("__debug__" : Str))=false:=by decide)(he: ~~~(starEach (a::es) X.env=(false,eval a X.env)::starEach es X.env))(ao: ~~~((backTo pos (starEach es X.env)).any (·.1)=false)):
 DX X (D1 X.K E) (.Call (.Name x p) (a::es) [] pos) (λ ρ=>(fp ρ).bind λ π=>(fs ρ).bind λ aw=>Sl i F ρ π aw):=by
 obtain⟨fa,fd,ps,hF,hm,hk,hb⟩:=G.ex;obtain⟨tp,p1,p2⟩:=hp;obtain⟨ta,a1,a2,a3⟩:=ha;refine⟨_,Vm hF hr hg hm hk hb .nil xo.call (Bn p1 a1 he) aS he ao,λ P0 P σ H Q ρ Ev h=>?_⟩;dsimp only at h;refine p2 P0 P σ H _ ρ Ev ?_;cases q:fp ρ with
 |bad=>rw[q] at h;exact h
 |ex x=>rw[q] at h;exact λ H' s=>h H' P (Ev.tr s)
 |ok π =>
  rw[q] at h;simp only[M.A9] at h;intro v t1 H1 s1 pl;have E1:=Ev.same s1;refine a2 P0 P σ H1 _ ρ E1 ?_;cases q2:fs ρ with
  |bad=>rw[q2] at h;exact h
  |ex y=>rw[q2] at h;exact λ H' s=>h H' P ((Ev.tr s1).trans (E1.tr s))
  |ok aw =>
   rw[q2] at h;simp only[M.A9] at h;intro vs H2 s2 a5;have E2:=E1.same s2;have de:=pl.same s2;show Pe X.K n F ((v::vs)++[]) H2 Q E;rw[zV];obtain⟨v0,c,pp,t,g1,g2,g3,g4⟩:=de.ex;unfold Sl at h;simp only[g1,g2,g4.sub] at h;by_cases hx:Zu t1=true
   ·rw[if_pos hx] at h;obtain⟨az,o1,vw,gp⟩:=de.own E2;have jq:∃l,v=.ref l:=by
     cases o1 with
     |sh hv=>exact absurd hx (by simp[Zu])
     |lst _ _|tup _ _|dK _ _|dT _ _|ins _ _ _=>exact⟨_,rfl⟩
    obtain⟨l,rfl⟩:=jq;refine⟨by rw[z7,a5.length,a3 ρ aw q2];exact hn,P,l,t1,az,vs,aw,rfl,E2.C8,λ b hb=>(vw b hb).1,gp,o1,a5,?_⟩;cases qF:F t1 aw with
    |bad|ex x=>rw[qF] at h;exact h.elim
    |ok z =>
    obtain⟨t2,r⟩:=z;rw[qF] at h;intro w H' P' fu fr k1 k2 k3 k4 k5 k6 k7 k8 k9 oy;obtain⟨c',p',t',m1,m2,m3,m4,m5⟩:=E2.tT de o1 k1 k2 k3 k4 k5 k9 k6 k7 oy k8;rw[g1] at m1;cases m1;rw[g2] at m2;cases m2;exact h w fr H' P' (((Ev.tr s1).trans (E1.tr s2)).trans m4) m3 k6 k7 m5
   ·rw[if_neg hx] at h;exact h.elim
def N3 (he:DX X WX e fx)(hs: ~~~(swapsWith e none pos.line X.env=pure false)):DS X WX (.Expr e pos) (λ ρ=>(fx ρ).bind λ z=>.ok (.next z.1)):=by
 obtain⟨te,e1,e2⟩:=he;refine⟨_,Fq e1 hs,λ P0 P σ H Z ρ E h=>?_⟩;dsimp only at h;refine e2 P0 P σ H _ ρ E ?_;cases q:fx ρ with
 |bad|ex x=>rw[q] at h;exact h
 |ok z=>rw[q] at h;exact λ v fp H' P' t E' o nd hf=>h σ H' P' t E'
end
abbrev Ga (i:Nat)(ρ:Ae)(π:List Nat):M (Bool×List D×List D):=match TX i ρ π with
 |some (.Bo b ks ts)=>(match DK ts with|some vs=>.ok (b,ks,vs)|none=>.bad)
 |_=>.bad
abbrev putD (ks vs:List D)(k v:D):List D×List D:=if LW ks k=true then (ks,J0 ks vs k v) else (ks++[k],vs++[v])
section
variable {X:Cx}{E:XK}{WX:Str->Hp->Prop}{c:Bool}{P0:Eb}{P:Addr->Prop}{H:Hp}{σ:St}{ρ:Ae}{a b e:Expr}{f g:Ae->M D}{fn:Ae->M OT}{fx:Ae->M (Ae×OT)}{fp:Ae->M (List Nat)}{pos:Pos}{i:Nat}{es:List Expr}{fs:Ae->M (List D)}
def Bg.Bo {K:zr}{π:List Nat}{v:V}{t1:OT}{bl:Bool}{ks vs:List D}(pl:Bg K P H σ ρ i π v t1)(E:Am K P0 P H σ ρ)(h:Ga i ρ π=.ok (bl,ks,vs)):t1=.Bo bl ks (vs.map .sh)/\∃l xs,v=.ref l/\P l/\Ah K (del H P) xs vs/\C7 K H P (.ref l) (.Bo bl ks (vs.map .sh)) [l]/\
 ((bl=false/\∃kvs,H l=some (.dK kvs)/\ks=(kvs.map λ kv=>Ct kv.1)/\xs=kvs.map zay)\/(bl=true/\∃kvs,H l=some (.dT kvs)/\ks=(kvs.map λ kv=>.tup (kv.1.map Ct))/\xs=kvs.map zay)):=by
 unfold Ga at h;rw[pl.at] at h;split at h
 ·rename_i b' sf oq e;split at h
  ·rename_i aG e';cases e;cases h;have z:=CC e';subst z;obtain⟨az,o1,hp,nd⟩:=pl.own E;generalize ht:OT.Bo bl ks (vs.map .sh)=t at o1;cases o1 with
   |dK hh hr =>
    injection ht with h1 h2 h3
    subst h1 h2 h3;obtain⟨rfl,hs⟩:=hr.oN;exact⟨rfl,_,_,rfl,(hp _ zv).1,hs,.dK hh hr,.inl ⟨rfl,_,hh,rfl,rfl⟩⟩
   |dT hh hr =>
    injection ht with h1 h2 h3
    subst h1 h2 h3;obtain⟨rfl,hs⟩:=hr.oN;exact⟨rfl,_,_,rfl,(hp _ zv).1,hs,.dT hh hr,.inr ⟨rfl,_,hh,rfl,rfl⟩⟩
   |_=>cases ht
  ·cases h
 ·cases h
def Zx {π:List Nat}{x:Str}(h:Ga i ρ π=.ex x):False:=by
 unfold Ga at h;split at h
 ·split at h<;>cases h
 ·cases h
def Am.oR {K:zr}{π:List Nat}{l:Addr}{t1 u:OT}{o':HO}(E:Am K P0 P H σ ρ)(pl:Bg K P H σ ρ i π (.ref l) t1)(ot:C7 K H P (.ref l) t1 [l])(hn:∀xs,o'≠.tup xs/\∀z,o'≠.Y6 z (.tup xs))(new:Ad (del H P) (del (upd H l o') P)->C7 K (upd H l o') P (.ref l) u [l]):
 ∃c p t,ρ[i]?=some (some c)/\treeOf c=some (p,t)/\Am K P0 P (upd H l o') σ (ρ.set i (some (toCl p (ER t π u))))/\Tr P0 P H P (upd H l o'):=by
 obtain⟨az,o1,hp,_⟩:=pl.own E;have:=o1.Cj ot;subst this;have pP:P l:=(hp l zv).1;have sd:del (upd H l o') P=del H P:=by
  funext b;by_cases hb:P b
  ·rw[D9 hb,D9 hb]
  ·rw[Au hb,Au hb,Ai (λ z=>hb (by rw[z];exact pP))]
 have sm:Ad (del H P) (del (upd H l o') P):=by rw[sd];exact Ad.refl _
 refine E.tQ pl ot (λ _ h=>h) (λ a h=>?_) sm (λ a ha hn=>Ai λ z=>hn (by rw[z];exact zv)) (new sm) (by simp) (λ a ha=>.inl ha);by_cases ha:a=l
 ·subst ha;exact⟨_,Ap,hn⟩
 ·unfold DB;rw[Ai ha];exact E.C8 a h
def Ma {n:Nat}(hu:X.A.units+n<cLine)(ha:DP X WX a i fp)(hk:DE X WX true b g)(hv:DE X WX true e f){pos':Pos}(hs: ~~~(swapsWith e (some (.Subscript a b pos')) pos.line X.env=pure false))(hn:1<=n:=by decide):
 DS X WX (.Assign [.Subscript a b pos'] e pos) (λ ρ=>(f ρ).bind λ v=>(fp ρ).bind λ π=>(g ρ).bind λ k=>(Ga i ρ π).bind λ z=>if keyOk z.1 k=true/\z.2.1.length<1000 then Gm i ρ π (.Bo z.1 (putD z.2.1 z.2.2 k v).1 ((putD z.2.1 z.2.2 k v).2.map .sh)) else .bad):=by
 obtain⟨ta,a1,a2⟩:=ha;obtain⟨tk,k1,k2⟩:=hk;obtain⟨tv,v1,v2⟩:=hv;refine⟨_,fL (by omega) a1 k1 v1 hs,λ P0 P σ H Z ρ E h=>?_⟩;dsimp only at h;refine v2 P0 P σ H _ ρ E ?_;refine eC h E λ d h=>?_;intro w H0 s0 hw;have E0:=E.same s0;refine a2 P0 P σ H0 _ ρ E0 ?_;cases q:fp ρ with
 |bad=>rw[q] at h;exact h
 |ex x=>rw[q] at h;exact λ H' s=>h H' P ((E.tr s0).trans (E0.tr s))
 |ok π =>
  rw[q] at h;simp only[M.A9] at h;intro v t1 H1 s1 pl;have E1:=E0.same s1;refine k2 P0 P σ H1 _ ρ E1 ?_;cases q2:g ρ with
  |bad=>rw[q2] at h;exact h
  |ex y=>rw[q2] at h;exact λ H' s=>h H' P (((E.tr s0).trans (E0.tr s1)).trans (E1.tr s))
  |ok k =>
   rw[q2] at h;simp only[M.A9] at h;intro y H2 s2 hy;have E2:=E1.same s2;have de:=pl.same s2;have ly:=(hw.mono s1.del).mono s2.del;have so:=((E.tr s0).trans (E0.tr s1)).trans (E1.tr s2);cases q3:Ga i ρ π with
   |bad=>rw[q3] at h;exact h.elim
   |ex x=>exact (Zx q3).elim
   |ok z =>
    obtain⟨bb,ks,vs⟩:=z;rw[q3] at h;simp only[M.A9] at h;by_cases hc:keyOk bb k=true/\ks.length<1000
    ·rw[if_pos hc] at h;obtain⟨rfl,l,xs,rfl,hP,cj,ot,jr⟩:=de.Bo E2 q3;have hK:=Eh hc.1;rcases jr with ⟨rfl,kvs,hH,rfl,rfl⟩|⟨rfl,kvs,hH,rfl,rfl⟩
     ·cases hK with
      |k κ =>
       have ey:=hy.hV;refine⟨l,_,rfl,.inl ⟨kvs,κ,hH,ey,AA (by have:=hc.2;rw[zu] at this;omega),rfl⟩,?_⟩;have aT:∃aG,(putD (kvs.map λ kv=>Ct kv.1) vs (Ct κ) d)=((putK kvs κ w).map (λ kv=>Ct kv.1),aG)/\Ah X.K (del H2 P) ((putK kvs κ w).map zay) aG:=by
        unfold putD putK;rw[Jx GL];by_cases hh:(kvs.any λ kv=>decide (kv.1=κ))=true
        ·rw[if_pos hh,if_pos hh];refine⟨_,by rw[GO (fk:=Ct) GL],?_⟩;rw[<-GN (fk:=Ct) GL];exact GP ly cj
        ·rw[if_neg hh,if_neg hh];refine⟨_,by rw[zK];rfl,?_⟩;rw[zK];exact cj.snoc ly
       obtain⟨aG,e1,e2⟩:=aT;obtain⟨c,p,t0,g1,g2,E3,t3⟩:=E2.oR (o':=.dK (putK kvs κ w)) (u:=.Bo false ((putK kvs κ w).map λ kv=>Ct kv.1) (aG.map .sh)) de ot (λ _=>⟨λ z=>(by cases z),λ _ z=>by cases z⟩) (λ mv=>.dK Ap (e2.mono mv).ows);rw[e1,HJ g1 g2] at h;exact h _ _ _ (so.trans t3) E3
     ·cases hK with
      |t κ =>
       cases hy with
       |tup ht a7 =>
        have ey:=Ah.keys κ a7;subst ey;refine⟨l,_,rfl,.inr ⟨kvs,κ,_,hH,rfl,(An ht).2,AA (by have:=hc.2;rw[zu] at this;omega),rfl⟩,?_⟩;have hf:∀a b:List Key,Bl (.tup (a.map Ct)) (.tup (b.map Ct))=decide (a=b):=λ a b=>by simp only[Bl];exact M7 a b
        have aT:∃aG,(putD (kvs.map λ kv=>.tup (kv.1.map Ct)) vs (.tup (κ.map Ct)) d)=((putK kvs κ w).map (λ kv=>.tup (kv.1.map Ct)),aG)/\Ah X.K (del H2 P) ((putK kvs κ w).map zay) aG:=by
         unfold putD putK;rw[Jx (fk:=λ κ:List Key=>D.tup (κ.map Ct)) hf];by_cases hh:(kvs.any λ kv=>decide (kv.1=κ))=true
         ·rw[if_pos hh,if_pos hh];refine⟨_,by rw[GO (fk:=λ κ:List Key=>D.tup (κ.map Ct)) hf],?_⟩;rw[<-GN (fk:=λ κ:List Key=>D.tup (κ.map Ct)) hf];exact GP ly cj
         ·rw[if_neg hh,if_neg hh];refine⟨_,by rw[zK];rfl,?_⟩;rw[zK];exact cj.snoc ly
        obtain⟨aG,e1,e2⟩:=aT;obtain⟨c,p,t0,g1,g2,E3,t3⟩:=E2.oR (o':=.dT (putK kvs κ w)) (u:=.Bo true ((putK kvs κ w).map λ kv=>.tup (kv.1.map Ct)) (aG.map .sh)) de ot (λ _=>⟨λ z=>(by cases z),λ _ z=>by cases z⟩) (λ mv=>.dT Ap (e2.mono mv).ows);rw[e1,HJ g1 g2] at h;exact h _ _ _ (so.trans t3) E3
    ·rw[if_neg hc] at h;exact h.elim
def Sn (tk:Bool):DN X WX (.Dict [] [] pos) (λ _=>.ok (.Bo tk [] [])):=by
 cases tk with
 |false =>
  refine⟨_,YM,λ P0 P σ H Q ρ E h p hp=>?_⟩;exact h _ [p] _ (AN hp _) (λ a ha=>by rw[zy.mp ha];exact hp) (by simp) (.dK (kvs:=[]) Ap .nil)
 |true =>
  refine⟨_,YN,λ P0 P σ H Q ρ E h p hp=>?_⟩;exact h _ [p] _ (AN hp _) (λ a ha=>by rw[zy.mp ha];exact hp) (by simp) (.dT (kvs:=[]) Ap .nil)
end
section
variable {X:Cx}{WX:Str->Hp->Prop}{c:Bool}{e:Expr}{f:Ae->M D}{pos:Pos}
abbrev lD (K:zr):List V->Hp->VK->Prop:=λ xs H Q=>∃(a:Addr) (bs:List (Addr×List Int)) (b:Addr×List Int),xs=[.ref a]/\D7 K H a (bs.map λ b=>V.ref b.1)/\(∀b∈bs,EC K H b.1 (b.2.map V.int))/\AV bs=some b/\Q (.ref b.1) H
def Xg (hc:X.calm=true)(hu:X.A.units+1<cLine):F5 X (.builtin "min") (lD X.K):=by
 intro pins s σ H xs us Q I r h;obtain⟨a,bs,b0,rfl,hl,hb,he,q⟩:=h;obtain⟨ua,rfl,ra⟩:=r.one;cases ra;obtain⟨aa,rv,pl,hz⟩:=I.list hl;have ei:=HB rv;subst ei;have tv:∀a:Addr,∃t:Array Value,∀b∈bs,b.1=a->IsTup s.heap a t/\IntsAre t.toList b.2:=λ a=>by
  by_cases bU:∃b∈bs,b.1=a
  ·obtain⟨b,bU,rfl⟩:=bU;obtain⟨ts,rt,pt,_⟩:=I.tuple (hb b bU);refine⟨ts.toArray,λ b' ay e=>⟨pt,?_⟩⟩;have q2:=hb b' ay;rw[e] at q2;have e2:=I.F4 q2 (hb b bU);rw[<-e2] at rt;simpa using intsAre_of rt
  ·exact⟨#[],λ b ay e=>absurd ⟨b,ay,e⟩ bU⟩
 have ae:bs≠[]:=λ z=>by subst z;cases he
 refine MO bs (λ b=>z3 (tv b)) a none (λ _=>ae) (I.ok.hd hc) hu pl.isList (λ b ay=>(zt (tv b.1) b ay rfl).1) (λ b ay=>(zt (tv b.1) b ay rfl).2) λ h' tk hk=>?_;rw[he];exact⟨.ref b0.1,H,I.kept (t':=tk) hk,rfl,q⟩
abbrev VS (ds:List D):M D:=match ds with
 |[.lst xs]=>(match GG xs with|some ks=>(match AV ks with|some k=>.ok k.1|none=>.bad)|none=>.bad)
 |_=>.bad
def iC:Ip X.K WX (lD X.K) VS:=by
 intro P H ds vs Q ht hl h;unfold VS at h;split at h
 ·rename_i xs;obtain⟨v,rfl,hv⟩:=hl.one;split at h
  ·rename_i ks e1;cases hv with
   |lst hs hh =>
    obtain⟨bs,rfl,h2,h3⟩:=IQ hh e1;split at h
    ·rename_i k e2;rcases IR h3 with ⟨q1,q2⟩|⟨b,k',q1,q2,_,q3⟩
     ·rw[q2] at e2;cases e2
     ·rw[q2] at e2;cases e2;exact⟨_,bs,b,rfl,hs.AY,λ b hb=>(h2 b hb).AY,q1,h _ H (Ad.refl H) q3⟩
    ·exact h.elim
  ·exact h.elim
 ·exact h.elim
def iD {p:Pos}{n:Nat}(hc:X.calm=true)(hu:X.A.units+n<cLine)(hg:Gl X "min")(hm:X.mg "min" = none)(ha:DE X WX c e f)(hb:bootBuiltins "min" = some (.builtin "min"):=by decide +kernel)(hs: ~~~(starEach [e] X.env=[(false,eval e X.env)]))(hn:1<=n:=by decide):DE X WX c (.Call (.Name "min" p) [e] [] pos) (λ ρ=>((f ρ).bind λ d=>(M.ok []).bind λ ds=>.ok (d::ds)).bind VS):=
 GF (Xg hc (by omega)) iC hg hm hb (A2 ha A6 hs) (he:=hs)
end
section
variable {X:Cx}{E:XK}{WX:Str->Hp->Prop}{c:Bool}{P0:Eb}{P:Addr->Prop}{H:Hp}{σ:St}{ρ:Ae}{a b e:Expr}{f g:Ae->M D}{fn:Ae->M OT}{fp:Ae->M (List Nat)}{pos:Pos}{i:Nat}
abbrev iE:V->List V->Hp->VK->Prop:=λ x vs H Q=>∃(l:Addr) (ns:List Int) (k:Int),x=.ref l/\vs=[.int k]/\H l=some (.lst (ns.map V.int))/\k∈ns/\Q .AL (upd H l (.lst ((ns.erase k).map V.int)))
def Pg {α β:Type}(f:α->β):∀(l:List α) (k:Nat),(l.eraseIdx k).map f=(l.map f).eraseIdx k
 |[],_|_::_,0=>rfl
 |x::r,k+1=>by rw[List.eraseIdx_cons_succ,zx,zx,List.eraseIdx_cons_succ,Pg f r k]
abbrev UB (k:Int):Value->Bool
 | .int i _=>i==k
 |_=>false
def Xh:uW X "list.remove" iE:=by
 intro pins s σ H x vs v us Q I rx rv h;obtain⟨l,ns,k,rfl,rfl,hH,hk,q⟩:=h;cases rx;obtain⟨u,rfl,ru⟩:=rv.one;obtain⟨tk,rfl⟩:=ru;obtain⟨z,aa,n,r,hl,e⟩:=I.WN hH;have hlen:=r.length;have gq:ns.idxOf k<ns.length:=List.idxOf_lt_length_iff.mpr hk;have gu:∀m (hm:m<aa.toArray.size) (sq:m<ns.length),∃t,aa.toArray[m]=Value.int ns[m] t:=λ m hm sq=>by
  have hx:(ns.map V.int)[m]?=some (V.int ns[m]):=by rw[zU,z4 sq];rfl
  obtain⟨w,hw,bg⟩:=r.get hx;obtain⟨t,rfl⟩:=bg;refine⟨t,?_⟩;have:aa[m]?=some aa[m]:=z4 (by simpa using hm);rw[hw] at this;simpa using (zT this).symm
 have hsz:aa.toArray.size=ns.length:=by rw[z9,<-hlen,zu]
 have hm:=MeetsSeq.list_remove l aa.toArray n (.int k tk) (UB k) (λ y hy=>by
  obtain⟨m,hm,rfl⟩:=Array.mem_iff_getElem.mp hy;obtain⟨t,ht⟩:=gu m hm (by rw[<-hsz];exact hm);rw[ht];exact MeetsSeq.EqGives.int _ _ _ _) (ns.idxOf k) (by rw[hsz];exact gq) (by
  obtain⟨t,ht⟩:=gu (ns.idxOf k) (by rw[hsz];exact gq) gq;rw[ht];simp[UB]) (λ m hm af=>by
  obtain⟨t,ht⟩:=gu m hm (by omega);rw[ht];have:=List.not_of_lt_findIdx (p:=(· == k)) (xs:=ns) (i:=m) af;simpa [UB] using this) (by rw[z9];omega)
 refine call_meets F.slot_list_remove ⟨_,e,rfl⟩ F.entry_list_remove (F.args_list_remove_2 _ _) hm ⟨e,?_⟩;refine⟨.AL,_,I.fF (its':=aa.eraseIdx (ns.idxOf k)) hH e ?_ ?_ ?_,rfl,q⟩
 ·show aa.toArray.eraseIdxIfInBounds _=_;rw[List.eraseIdxIfInBounds_toArray]
 ·rw[show ns.erase k=ns.eraseIdx (ns.idxOf k) from List.erase_eq_eraseIdx_of_idxOf rfl,Pg];exact r.eraseIdx _
 ·rw[zu];have:=List.length_erase_le (a:=k) (l:=ns);rw[zu] at z;omega
def Xi (ha:DP X WX a i fp)(he:DE X WX true e f){apos ad:Pos}(hs: ~~~(starEach [e] X.env=[(false,eval e X.env)]))(bh: ~~~(swapsWith (.Call (.Attribute a "remove" apos) [e] [] ad) none pos.line X.env=pure false))(ar: ~~~(attributeBase a "remove" X.env (eval a X.env)=eval a X.env))(aE: ~~~(((backTo ad (starEach [e] X.env)).all (λ x => !x.1)&&(backToKw ad (keywordEach [] X.env)).all (λ x=>x.1.isSome)&&decide (([e]:List Expr).length+([]:List Keyword).length+(if ([]:List Keyword).isEmpty then 0 else 1)<30))=true))(au: ~~~((apos.endLine==ad.line)=true))(ak: ~~~((backTo ad (starEach [] X.env)).any (·.1)=false)):
 DS X WX (.Expr (.Call (.Attribute a "remove" apos) [e] [] ad) pos) (λ ρ=>(fp ρ).bind λ π=>(TY i ρ π).bind λ ds=>(f ρ).bind λ d=>match d,CS ds with
  | .int k,some ns=>if k∈ns then Gm i ρ π (.lst (((ns.erase k).map D.int).map .sh)) else .bad
  |_,_=>.bad):=by
 obtain⟨ta,a1,a2⟩:=ha;obtain⟨te,e1,e2⟩:=he;refine⟨_,Fq (OO zba PySem.F.slot_list_remove PySem.F.type_list_remove Xh a1 (Bn e1 Cn hs) ar aE au hs ak) bh,λ P0 P σ H Z ρ E h=>?_⟩;dsimp only at h;refine a2 P0 P σ H _ ρ E ?_;refine eC h E λ π h=>?_;intro v t1 H1 s1 pl;have E1:=E.same s1;cases q1:TY i ρ π with
 |bad=>rw[q1] at h;exact h.elim
 |ex x=>exact (Zs q1).elim
 |ok ds =>
  rw[q1] at h;simp only[M.A9] at h;obtain⟨rfl,l,xs,rfl,hl,ol⟩:=pl.shl E1 q1;refine⟨.inl ⟨rfl,xs,.of hl⟩,e2 P0 P σ H1 _ ρ E1 ?_⟩;cases q2:f ρ with
  |bad=>rw[q2] at h;exact h
  |ex y=>rw[q2] at h;exact λ H' s=>h H' P ((E.tr s1).trans (E1.tr s))
  |ok d =>
   rw[q2] at h;simp only[M.A9] at h;intro w H2 s2 hw;have E2:=E1.same s2;have de:=pl.same s2;cases d with
   |int k =>
    cases q3:CS ds with
    |none=>rw[q3] at h;exact h.elim
    |some ns =>
     rw[q3] at h;dsimp only at h;by_cases hk:k∈ns
     ·rw[if_pos hk] at h;have:=Fb q3;subst this;have d5:=ol.mono s2.del;have ex:=Ee d5;subst ex;have a7:=s2 _ _ hl;obtain⟨c,p,t0,g1,g2,E3,t3⟩:=E2.tU (ys:=(ns.erase k).map V.int) (es:=(ns.erase k).map D.int) de a7 d5 (Ah.ints _);rw[HJ g1 g2] at h;exact⟨l,ns,k,rfl,by rw[hw.int_inv],a7,hk,h _ _ _ (((E.tr s1).trans (E1.tr s2)).trans t3) E3⟩
     ·rw[if_neg hk] at h;exact h.elim
   |_=>exact h.elim
end
section
variable {X:Cx}{WX:Str->Hp->Prop}{c:Bool}{P0:Eb}{P:Addr->Prop}{H:Hp}{σ:St}{ρ:Ae}{a b e:Expr}{f g:Ae->M D}{fn:Ae->M OT}{pos:Pos}{te:TE}
abbrev tV (ds:List D):M D:=match ds with
 |[.lst xs]=>(match CS xs with|some ns=>.ok (.int ns.sum)|none=>.bad)
 |_=>.bad
abbrev xA (te:TE):TE:=λ σ H Q=>te σ H λ x H1=>∃n:Nat,x=.int (n:Int)/\n<=1000/\∀r,H1 r=none->Q (.ref r) (upd H1 r (.lst ((zan n).map λ i:Nat=>V.int (i:Int))))
def Xj {acc:Array Value}{n:Nat}(h:ItemsOf (λ i v=>∃t,v=Value.int (0+(i:Int)*1) t) acc n):Vals ((zan n).map λ i:Nat=>V.int (i:Int)) acc.toList:=by
 obtain⟨h1,h2⟩:=h;have key:∀(l:List Value) (k:Nat),(∀i v,l[i]?=some v->∃t,v=Value.int ((k+i:Nat):Int) t)->Vals ((List.range' k l.length).map λ i:Nat=>V.int (i:Int)) l:=by
  intro l;induction l with
  |nil=>intro k _;exact .nil
  |cons v r ih =>
   intro k hk;rw[z7,List.range'_succ,zx];refine .cons (by obtain⟨t,e⟩:=hk 0 v rfl;exact⟨t,by simpa using e⟩) (ih (k+1) λ i w hw=>?_);obtain⟨t,e⟩:=hk (i+1) w (by simpa using hw);exact⟨t,by rw[e];congr 1;omega⟩
 have:=key acc.toList 0 (λ i v hv=>by
  obtain⟨t,e⟩:=h2 i v (by rw[<-Array.getElem?_toList];exact hv);exact⟨t,by rw[e];congr 1;omega⟩)
 rw[Array.length_toList,h1] at this;rw[List.range_eq_range'];exact this
def Qw {p p2 bA:Pos}(hc:X.calm=true)(hg:Gl X "list")(hm:X.mg "list" = none)(jl:Gl X "range")(bd:X.mg "range" = none)(he:PE X e te)(hv:bootBuiltins "list" = some (.type "list"):=by decide +kernel)(hs: ~~~(starEach [.Call (.Name "range" p2) [e] [] bA] X.env=[(false,eval (.Call (.Name "range" p2) [e] [] bA) X.env)]))(aO: ~~~(starEach [e] X.env=[(false,eval e X.env)])):
 PE X (.Call (.Name "list" p) [.Call (.Name "range" p2) [e] [] bA] [] pos) (xA te):=by
 intro pins s σ H Q I h;refine wpAny_Call_Name_kw (Dz I hg hm hv ?_);refine zai ?_ hs;rw[hs];refine zbh ?_;refine wpAny_Call_Name_kw (Dz I jl bd boot_range ?_);refine zai ?_ aO;rw[aO];refine zbh (Bk (he pins s σ H _ I h) λ u s1 zz=>?_);obtain⟨x,H1,I1,r1,q1⟩:=zz;obtain⟨n,rfl,hn,q⟩:=q1;obtain⟨t,rfl⟩:=r1;refine zbn ?_;refine call_range_1 ?_;refine zbn ?_;have h4:((n:Nat):Int)<2^62:=by omega
 refine call_list_range (n:=n) (I1.ok.hd hc) (IsRange.new ..) (small_one (by omega) (by omega) (by omega) h4) (by rw[rangeSize_one];split<;>omega) (by omega) λ h' tk o5 c' hk aA o6=>?_;have kp:∀b o,s1.heap.get? b=some o->h'.get? b=some o:=λ b o e=>hk b o (z6 _ e);have rv:=Xj o6;have d6:∀o:Obj,s1.heap.objs.size<=(s1.heap.push o).objs.size:=λ o=>by simp[Heap.push]
 refine⟨.ref _,_,I1.laid (t':=tk) (o:=.lst ((zan n).map λ i:Nat=>V.int (i:Int))) kp (d6 _) ⟨?_,o5.toList,c',rv,by simpa using aA⟩,rfl,q _ (I1.Ar.fresh (d6 _))⟩;rw[zu,List.length_range];exact zam (AA hn)
abbrev vC (d:D):M OT:=match d with
 | .int j=>@ite _ (0<=j/\j<=1000) (zci _) (.ok (.lst ((C9 0 j.toNat).map .sh))) .bad
 |_=>.bad
def Qx {n:Nat}(h:n<=1000):vC (.int (n:Int))=.ok (.lst (((zan n).map λ i:Nat=>D.int (i:Int)).map .sh)):=by
 unfold vC;dsimp only;rw[if_pos ⟨by omega,by omega⟩,zat,MT]
def JC {p p2 bA:Pos}(hc:X.calm=true)(hg:Gl X "list")(hm:X.mg "list" = none)(jl:Gl X "range")(bd:X.mg "range" = none)(he:DE X WX true e f)(hv:bootBuiltins "list" = some (.type "list"):=by decide +kernel)(hs: ~~~(starEach [.Call (.Name "range" p2) [e] [] bA] X.env=[(false,eval (.Call (.Name "range" p2) [e] [] bA) X.env)]))(aO: ~~~(starEach [e] X.env=[(false,eval e X.env)])):
 DN X WX (.Call (.Name "list" p) [.Call (.Name "range" p2) [e] [] bA] [] pos) (λ ρ=>(f ρ).bind vC):=by
 obtain⟨te,e1,e2⟩:=he;refine⟨_,Qw hc hg hm jl bd e1 hv hs aO,λ P0 P σ H Q ρ E h=>?_⟩;refine e2 P0 P σ H _ ρ E ?_;dsimp only at h;refine Yc h λ d h=>?_;intro v H1 s1 hv;cases d with
 |int j =>
  by_cases hj:0<=j/\j<=1000
  ·obtain⟨n,rfl⟩:∃n:Nat,j=n:=⟨j.toNat,by omega⟩;rw[Qx (by omega)] at h;refine⟨n,hv.int_inv,by omega,λ r hr=>h.KR s1 (xs:=(zan n).map λ i:Nat=>V.int (i:Int)) ?_ r hr⟩;have:∀l:List Nat,Ah X.K (del H1 P) (l.map λ i:Nat=>V.int (i:Int)) (l.map λ i:Nat=>D.int (i:Int)):=λ l=>by
    induction l with
    |nil=>exact .nil
    |cons x r ih=>exact .cons (.int _) ih
   exact this _
  ·have e:vC (.int j)=.bad:=if_neg hj;rw[e] at h;exact h.elim
 |_=>exact h.elim
abbrev iF (lo hi:Option Int)(d:D):M OT:=match d with
 | .lst ds=>.ok (.lst (((ds.drop (HT.ME ds.length 0 lo)).take (HT.ME ds.length ds.length hi-HT.ME ds.length 0 lo)).map .sh))
 |_=>.bad
def N4 {lo hi:Option Expr}{o7 fh:Ae->M (Option Int)}{p2:Pos}(ha:DE X WX true e f)(hl:DO X WX true lo o7)(hh:DO X WX true hi fh):DN X WX (.Subscript e (.Slice lo hi none p2) pos) (λ ρ=>(f ρ).bind λ d=>(o7 ρ).bind λ l=>(fh ρ).bind λ u=>iF l u d):=by
 obtain⟨ta,a1,a2⟩:=ha;obtain⟨tl,l1,l2⟩:=hl;obtain⟨th,h1,h2⟩:=hh;refine⟨_,YG fE a1 l1 h1,λ P0 P σ H Q ρ E h=>?_⟩;dsimp only at h;refine a2 P0 P σ H _ ρ E ?_;cases q:f ρ with
 |bad|ex x=>rw[q] at h;exact h
 |ok d =>
  rw[q] at h;intro v H1 s1 hv;refine l2 P0 P σ H1 _ ρ (E.same s1) ?_;cases q2:o7 ρ with
  |bad=>rw[q2] at h;exact h
  |ex y=>rw[q2] at h;exact λ H' s=>h H' (s1.trans s)
  |ok l =>
   rw[q2] at h;intro H2 s2;refine h2 P0 P σ H2 _ ρ ((E.same s1).same s2) ?_;cases q3:fh ρ with
   |bad=>rw[q3] at h;exact h
   |ex y=>rw[q3] at h;exact λ H' s=>h H' ((s1.trans s2).trans s)
   |ok u =>
    rw[q3] at h;simp only[M.A9] at h;intro H3 s3;unfold iF at h;split at h
    ·cases hv with
     |lst hs hl =>
      refine⟨_,_,rfl,(s3.seq (s2.seq hs.AY)),λ p hp=>h.KR ((s1.trans s2).trans s3) ?_ p hp⟩;unfold YH;rw[hl.length];exact ((((hl.drop _).take _).mono s2.del).mono s3.del)
    ·exact h.elim
def Zy:xY X.K WX (kZ X.K) Sh:=by
 intro P H x y v w Q ht hx hy h;unfold Sh at h;split at h
 ·rename_i ds es;by_cases hl:ds.length+es.length<=1000
  ·rw[if_pos hl] at h;cases hx with
   |lst h1 h2 =>
    cases hy with
    |lst h3 h4=>exact⟨_,_,_,_,rfl,rfl,h1.AY,h3.AY,zam (AA (by rw[h2.length,h4.length];exact hl)),h.KR (Ad.refl _) (h2.xW h4)⟩
  ·rw[if_neg hl] at h;exact h.elim
 ·exact h.elim
def iG (ha:DE X WX true a f)(hb:DE X WX true b g):DN X WX (.BinOp a .Add b pos) (λ ρ=>(f ρ).bind λ x=>(g ρ).bind λ y=>Sh x y):=by
 obtain⟨ta,a1,a2⟩:=ha;obtain⟨tb,b1,b2⟩:=hb;exact⟨_,Yw gD a1 b1,λ P0 P σ H Q ρ E h=>tN a2 b2 Zy E h⟩
abbrev GK (μ:List (Option Nat))(g:TG):Prop:=∀σ0 σ x H Q,(∀(j:Nat) v,(EN μ σ0)[j]?=some (some v)->σ[j]?=some (some v))->g x σ H Q->g x σ H λ σ' H'=>Q σ' H'/\∀(j:Nat) v,(EN μ σ0)[j]?=some (some v)->σ'[j]?=some (some v)
abbrev tW (μ:List (Option Nat))(g:Y9):Prop:=∀σ0 σ x H Q,(∀(j:Nat) v,(EN μ σ0)[j]?=some (some v)->σ[j]?=some (some v))->g x σ H Q->g x σ H λ σ' H'=>Q σ' H'/\∀(j:Nat) v,(EN μ σ0)[j]?=some (some v)->σ'[j]?=some (some v)
def GK.keeps {μ:List (Option Nat)}{g:TG}(h:GK μ g):KG μ g:=λ σ x H Q q=>h σ (EN μ σ) x H Q (λ _ _ z=>z) q
def iH {μ:List (Option Nat)}{i:Nat}(h:μ[i]?=some none):GK μ (OF i):=λ σ0 σ x H Q hk q=>by
 refine⟨q,λ j v hj=>?_⟩;have ae:i≠j:=λ z=>by
  subst z;unfold EN at hj;rw[zU,h] at hj;cases hj
 rw[zas ae];exact hk j v hj
def iI {μ:List (Option Nat)}:tW μ mP:=λ σ0 σ x H Q hk q=>⟨q.1,q.2,hk⟩
def Zz {μ:List (Option Nat)}{t:TG}{u:Y9}(mono:∀v σ H Q Q',(∀σ' H',Q σ' H'->Q' σ' H')->t v σ H Q->t v σ H Q')(ht:GK μ t)(hu:tW μ u):tW μ (Yo t u):=λ σ0 σ x H Q hk q=>by
 obtain⟨v,r,rfl,q⟩:=q;exact⟨v,r,rfl,mono _ _ _ _ _ (λ σ' H' z=>hu σ0 σ' r H' Q z.2 z.1) (ht σ0 σ v H _ hk q)⟩
def oS {K:zr}{μ:List (Option Nat)}{n:Nat}{t:Y9}(h:tW μ t):GK μ (mQ K n t):=λ σ0 σ x H Q hk q=>by
 obtain⟨a,xs,rfl,h1,h2,q⟩:=q;exact⟨a,xs,rfl,h1,h2,h σ0 σ xs H Q hk q⟩
variable {da:List D->Ae->M Ae}{gt:D->Ae->M Ae}{es:List Expr}
abbrev iJ (X:Cx)(scope:Scope)(NB:List Str)(μ:List (Option Nat))(es:List Expr)(gt:List D->Ae->M Ae):Prop:=
 ∃g:Y9,(∀s H C ex,qL (blockOf X s H scope C NB ex) es g)/\tW μ g/\∀P0 P σ H Q ρ vs ds,Am X.K P0 P H σ ρ->Ah X.K (del H P) vs ds->gG X.K P0 P H Q (gt ds ρ)->g vs σ H Q
def JD {scope:Scope}{NB:List Str}{μ:List (Option Nat)}:iJ X scope NB μ [] (λ ds ρ=>match ds with | []=>.ok ρ | _=>.bad):=
 ⟨mP,λ s H C ex=>Vk,iI,λ P0 P σ H Q ρ vs ds E hv h=>by
  cases hv with
  |nil=>exact⟨rfl,h σ E⟩
  |cons _ _=>exact h.elim⟩
def CM {scope:Scope}{NB:List Str}{μ:List (Option Nat)}(i:Nat){x:Str}{px:Pos}(hN:NB.Nodup)(hi:NB[i]?=some x)(hx:(relabel scope X.env).names.lookup x=some .local)(hm:μ[i]?=some none)(hr:iJ X scope NB μ es da)
 (hs:∀s H C ex,(assignEach (.Name x px::es) (blockOf X s H scope C NB ex).env).map (·.2)=assign (.Name x px) (blockOf X s H scope C NB ex).env::(assignEach es (blockOf X s H scope C NB ex).env).map (·.2):=by intro _ _ _ _;rfl):
 iJ X scope NB μ (.Name x px::es) (λ ds ρ=>match ds with|d::r=>da r (ρ.set i (some (.val d)))|[]=>.bad):=by
 obtain⟨gr,r1,r2,r3⟩:=hr;refine⟨Yo (OF i) gr,λ s H C ex=>RK (Q7 (X:=blockOf X s H scope C NB ex) hN hi (.inl hx) (.inr hx)) (r1 s H C ex) (hs s H C ex),Zz (λ v σ H Q Q' hq h=>hq _ _ h) (iH hm) r2,λ P0 P σ H Q ρ vs ds E hv h=>?_⟩;cases hv with
 |nil=>exact h.elim
 |cons h1 h2=>exact⟨_,_,rfl,r3 P0 P _ H Q _ _ _ (E.X0 h1) h2 h⟩
def Mb {scope:Scope}{NB:List Str}{μ:List (Option Nat)}{k n:Nat}{pt:Pos}(hc:X.calm=true)(h:iJ X scope NB μ es da)
 (hn:∀s H C ex,(assignEach es (blockOf X s H scope C NB ex).env).length=n:=by intro _ _ _ _;rfl) (aM:∀s H C ex,(assignEach es (blockOf X s H scope C NB ex).env).findIdx? (·.1)=none:=by intro _ _ _ _;rfl):
 tH X scope NB μ (.Tuple es k pt) (λ d ρ=>match d with | .tup ds=>if ds.length=n then da ds ρ else .bad|_=>.bad):=by
 obtain⟨t,a1,a2,a3⟩:=h;refine⟨mQ X.K n t,λ s H C ex=>Yp (X:=blockOf X s H scope C NB ex) hc (a1 s H C ex) (hn s H C ex) (aM s H C ex),(oS a2).keeps,λ P0 P σ H Q ρ v d E hv h=>?_⟩;cases hv with
 | @tup a xs ds hs hl =>
  dsimp only at h;by_cases hd:ds.length=n
  ·rw[if_pos hd] at h;exact⟨a,xs,rfl,EC.of (An hs).2,by rw[hl.length];exact hd,a3 P0 P σ H Q ρ xs ds E hl h⟩
  ·rw[if_neg hd] at h;exact h.elim
 |_=>exact h.elim
end
abbrev WP (m:M Out)(nx:Ae->Prop)(rt:Out->Prop)(ex:Str->Prop):Prop:=match m with
 | .ok (.next ρ)=>nx ρ
 | .ok o=>rt o
 | .ex x=>ex x
 | .bad=>False
section
variable {nx:Ae->Prop}{rt:Out->Prop}{ex:Str->Prop}{m:M Out}{k:Ae->M Out}{ρ ρ':Ae}
def B4 (h:m=.ok (.next ρ'))(hn:nx ρ'):WP m nx rt ex:=by rw[h];exact hn
def WP.mono {sr:Ae->Prop}{ss:Out->Prop}{mf:Str->Prop}(h:WP m nx rt ex)(h1:∀ρ,nx ρ->sr ρ)(h2:∀o,rt o->ss o)(h3:∀x,ex x->mf x):WP m sr ss mf:=by
 cases m with
 |bad=>exact h
 |ex x=>exact h3 x h
 |ok o =>
  cases o with
  |next ρ=>exact h1 ρ h
  |ret d|brk d|cont d|CO d|F7 d ρ=>exact h2 _ h
def wp_seq (h:WP m (λ ρ=>WP (k ρ) nx rt ex) rt ex):WP (Z8 m k) nx rt ex:=by
 cases m with
 |bad|ex x=>exact h
 |ok o =>
  cases o with
  |next ρ|ret d|brk d|cont d|CO d|F7 d ρ=>exact h
def wp_step (h:m=.ok (.next ρ'))(hk:WP (k ρ') nx rt ex):WP (Z8 m k) nx rt ex:=by rw[h];exact hk
def BL {I:Ae->Prop}(h:WP m I rt ex)(hk:∀ρ,I ρ->WP (k ρ) nx rt ex):WP (Z8 m k) nx rt ex:=wp_seq (h.mono hk (λ _ h=>h) λ _ h=>h)
abbrev inLoop (I:Ae->Prop)(nx:Ae->Prop)(rt:Out->Prop)(o:Out):Prop:=match o with
 | .cont ρ=>I ρ
 | .brk ρ=>nx ρ
 |o=>rt o
def Bh {gt:D->Ae->M Ae}{gb:Ae->M Out}{ds:List D}(I:Nat->Ae->Prop)(h0:I 0 ρ)
 (step:∀i d ρ,ds[i]?=some d->I i ρ->∃ρ1,gt d ρ=.ok ρ1/\WP (gb ρ1) (I (i+1)) (inLoop (I (i+1)) nx rt) ex) (done:∀ρ,I ds.length ρ->nx ρ):WP (forM gt gb ds ρ) nx rt ex:=by
 have key:∀(n i:Nat) (ρ:Ae),i+n=ds.length->I i ρ->WP (forM gt gb (ds.drop i) ρ) nx rt ex:=by
  intro n;induction n with
  |zero =>
   intro i ρ hi h;have e:i=ds.length:=by omega
   subst e;rw[List.drop_length,forM];exact done ρ h
  |succ n ih =>
   intro i ρ hi h;have af:i<ds.length:=by omega
   obtain⟨ρ1,h1,h2⟩:=step i ds[i] ρ (z4 af) h;rw[Jp af,forM,h1];dsimp only;cases q:gb ρ1 with
   |bad|ex x=>rw[q] at h2;exact h2
   |ok o =>
    rw[q] at h2;cases o with
    |next ρ2=>exact ih (i+1) ρ2 (by omega) h2
    |ret d|CO d|F7 d ρ2=>exact h2
    |cont ρ2=>exact ih (i+1) ρ2 (by omega) h2
    |brk ρ2=>exact h2
 have:=key ds.length 0 ρ (by omega) h0;rw[List.drop_zero] at this;exact this
def So {α:Type}{c:Ae->M Bool}{b:Ae->M Out}{lt:α->α->Prop}(J:α->Ae->Prop){x:α}(hx:Acc lt x)(h0:J x ρ)
 (step:∀x ρ,J x ρ->(c ρ=.ok false/\nx ρ)\/(c ρ=.ok true/\WP (b ρ) (λ ρ2=>∃y,lt y x/\J y ρ2) (inLoop (λ ρ2=>∃y,lt y x/\J y ρ2) nx rt) ex)):WP (Lk c b ρ) nx rt ex:=by
 have key:∀x,Acc lt x->∀ρ,J x ρ->∃n,Av c b n ρ≠.bad/\WP (Av c b n ρ) nx rt ex:=by
  intro x hx;induction hx with
  |intro x _ ih =>
   intro ρ h;rcases step x ρ h with ⟨h1,h2⟩|⟨h1,h2⟩
   ·refine⟨1,?_,?_⟩
    ·rw[Av,h1];intro z;cases z
    ·rw[Av,h1];exact h2
   ·cases q:b ρ with
    |bad=>rw[q] at h2;exact h2.elim
    |ex y =>
     rw[q] at h2;refine⟨1,?_,?_⟩
     ·rw[Av,h1];dsimp only;rw[q];intro z;cases z
     ·rw[Av,h1];dsimp only;rw[q];exact h2
    |ok o =>
     rw[q] at h2;have go:∀ρ2,(∃y,lt y x/\J y ρ2)->(∀n,Av c b (n+1) ρ=Av c b n ρ2)->∃n,Av c b n ρ≠.bad/\WP (Av c b n ρ) nx rt ex:=by
      rintro ρ2 ⟨y,hy,hJ⟩ e;obtain⟨n,h3,h4⟩:=ih y hy ρ2 hJ;exact⟨n+1,by rw[e];exact h3,by rw[e];exact h4⟩
     cases o with
     |next ρ2|cont ρ2=>exact go ρ2 h2 λ n=>by rw[Av,h1];dsimp only;rw[q]
     |brk ρ2 =>
      refine⟨1,?_,?_⟩
      ·rw[Av,h1];dsimp only;rw[q];intro z;cases z
      ·rw[Av,h1];dsimp only;rw[q];exact h2
     |ret d =>
      refine⟨1,?_,?_⟩
      ·rw[Av,h1];dsimp only;rw[q];intro z;cases z
      ·rw[Av,h1];dsimp only;rw[q];exact h2
     |CO d =>
      refine⟨1,?_,?_⟩
      ·rw[Av,h1];dsimp only;rw[q];intro z;cases z
      ·rw[Av,h1];dsimp only;rw[q];exact h2
     |F7 d ρ2 =>
      refine⟨1,?_,?_⟩
      ·rw[Av,h1];dsimp only;rw[q];intro z;cases z
      ·rw[Av,h1];dsimp only;rw[q];exact h2
 obtain⟨n,h1,h2⟩:=key x hx ρ h0;unfold Lk;have hx:∃n,Av c b n ρ≠.bad:=⟨n,h1⟩;rw[dif_pos hx];have e:Av c b (z3 hx) ρ=Av c b n ρ:=by
  have a:=CJ (zt hx) n;have b':=CJ h1 (z3 hx);rw[Nat.add_comm] at b';rw[<-a,<-b']
 rw[e];exact h2
abbrev xZ (Q:OT->Prop)(o:Out):Prop:=match o with
 | .ret d=>Q (.sh d)
 | .CO c=>∃t,tO c=.ok t/\Q t
 |_=>False
def Ll {Q:OT->Prop}(h:WP m (λ _=>Q (.sh .AL)) (xZ Q) (λ _=>False)):∃t,Zm m=.ok t/\Q t:=by
 cases m with
 |bad|ex x=>exact h.elim
 |ok o =>
  cases o with
  |next ρ|ret d=>exact⟨_,rfl,h⟩
  |CO c=>exact h
  |F7 c ρ|brk ρ|cont ρ=>exact h.elim
def Bb {t:OT}(h:WP m (λ _=>OT.sh .AL=t) (xZ (·=t)) (λ _=>False)):Zm m=.ok t:=by
 obtain⟨u,h1,h2⟩:=Ll (Q:=(·=t)) h;rw[h1,h2]
abbrev yA (Q:D->Prop)(o:Out):Prop:=match o with
 | .ret d=>Q d
 | .CO c=>∃t,wX c=.ok t/\Q t
 |_=>False
def tX {Q:D->Prop}(h:WP m (λ _=>Q .AL) (yA Q) (λ _=>False)):∃t,fin m=.ok t/\Q t:=by
 cases m with
 |bad|ex x=>exact h.elim
 |ok o =>
  cases o with
  |next ρ|ret d=>exact⟨_,rfl,h⟩
  |CO c=>exact h
  |F7 c ρ|brk ρ|cont ρ=>exact h.elim
def tY {d:D}(h:WP m (λ _=>D.AL=d) (yA (·=d)) (λ _=>False)):fin m=.ok d:=by
 obtain⟨u,h1,h2⟩:=tX (Q:=(·=d)) h;rw[h1,h2]
end
section
variable {d:D}{ds es:List D}{ρ ρ':Ae}{o:Option Cl}{i n:Nat}{p:Option Nat}{t u:OT}{π:List Nat}{b:Bool}{ks vs:List D}{ts:List OT}{m:M D}
def vD:rv 0 (some (.val d)::ρ)=.ok d:=rfl
def vE:rv (i+1) (o::ρ)=rv i ρ:=rfl
abbrev Sq (f:Ae->Ae)(m:M Out):M Out:=match m with
 | .ok (.next ρ)=>.ok (.next (f ρ))
 |m=>m
def JE {f:Ae->Ae}:Sq f (.ok (.next ρ))=.ok (.next (f ρ)):=rfl
def JF:Od 0 (some (.own ds)::ρ)=.ok []:=rfl
def JG:Od 0 (some (.ow (.LV n ds))::ρ)=.ok []:=rfl
def HK:Od 0 (some (.ow (.tree p t))::ρ)=.ok []:=by unfold Od TX;simp[treeOf]
def VT:Od (i+1) (o::ρ)=Od i ρ:=rfl
def VU:TX 0 (some (.own ds)::ρ) π=KO (.lst (ds.map .sh)) π:=rfl
def VW:TX 0 (some (.ow (.LV n ds))::ρ) π=KO (.lst (ds.map .sh)) π:=rfl
def N5:TX 0 (some (.ow (.tree p t))::ρ) π=KO t π:=rfl
def Mc:TY 0 (some (.own ds)::ρ) []=.ok ds:=by unfold TY;simp[VU,CL]
def Md:TY 0 (some (.ow (.LV n ds))::ρ) []=.ok ds:=by unfold TY;simp[VW,CL]
def JH:TY 0 (some (.ow (.tree p (.lst (ds.map .sh))))::ρ) []=.ok ds:=by unfold TY;simp[N5,CL]
def iK:TY (i+1) (o::ρ) π=TY i ρ π:=rfl
def HL:Ej 0 (some (.own ds)::ρ) []=.ok (ds.map .sh):=by unfold Ej;simp[VU]
def HM:Ej 0 (some (.ow (.LV n ds))::ρ) []=.ok (ds.map .sh):=by unfold Ej;simp[VW]
def FE:Ej 0 (some (.ow (.tree p (.lst ts)))::ρ) []=.ok ts:=by unfold Ej;simp[N5]
def Qy:Ej (i+1) (o::ρ) π=Ej i ρ π:=rfl
def De:Ga 0 (some (.ow (.tree p (.Bo b ks (vs.map .sh))))::ρ) []=.ok (b,ks,vs):=by unfold Ga;simp[N5,CL]
def Qz:Ga (i+1) (o::ρ) π=Ga i ρ π:=rfl
def JI:Gm 0 (some (.own ds)::ρ) [] u=.ok (.next (some (toCl none u)::ρ)):=by unfold Gm;simp[treeOf]
def JJ:Gm 0 (some (.ow (.LV n ds))::ρ) [] u=.ok (.next (some (toCl (some n) u)::ρ)):=by unfold Gm;simp[treeOf]
def HN:Gm 0 (some (.ow (.tree p t))::ρ) π u=.ok (.next (some (toCl p (ER t π u))::ρ)):=by unfold Gm;simp[treeOf]
def VX:Gm (i+1) (o::ρ) π u=Sq (o::·) (Gm i ρ π u):=by
 unfold Gm Sq;simp only[za0,z5];split
 ·rename_i c e;split<;>simp_all
 ·simp_all
def JK:X2 0 (some (.own ds)::ρ) (.ok d)=if ds.length<1000 then .ok (.next (some (.own (ds++[d]))::ρ)) else .bad:=rfl
def VY:X2 (i+1) (o::ρ) m=Sq (o::·) (X2 i ρ m):=by
 unfold X2;rw[za0];cases q:ρ[i]? with
 |none=>rfl
 |some oo =>
  cases oo with
  |none=>rfl
  |some c =>
   cases c with
   |own ds =>
    cases m with
    |ok d =>
     simp only[M.A9,z5];by_cases h:ds.length<1000
     ·rw[if_pos h,if_pos h];rfl
     ·rw[if_neg h,if_neg h];rfl
    |ex x|bad=>rfl
   |val d|ow w=>rfl
def JL {j:Int}:X9 0 (some (.own ds)::ρ) (.ok (.int j)) (.ok d)=if 0<=j/\j.toNat<=ds.length/\ds.length<1000 then .ok (.next (some (.own (ds.take j.toNat++d::ds.drop j.toNat))::ρ)) else .bad:=rfl
def VZ {m2:M D}:X9 (i+1) (o::ρ) m m2=Sq (o::·) (X9 i ρ m m2):=by
 unfold X9;rw[za0];cases q:ρ[i]? with
 |none=>rfl
 |some oo =>
  cases oo with
  |none=>rfl
  |some c =>
   cases c with
   |own ds =>
    cases m with
    |ok d =>
     cases m2 with
     |ok d2 =>
      simp only[M.A9,z5];cases d with
      |int j =>
       dsimp only;by_cases h:0<=j/\j.toNat<=ds.length/\ds.length<1000
       ·rw[if_pos h,if_pos h];rfl
       ·rw[if_neg h,if_neg h];rfl
      |_=>rfl
     |ex x|bad=>rfl
    |ex x|bad=>rfl
   |val d|ow w=>rfl
def JM:Uz 0 (some (.val d)::ρ)=.ok (.ret d):=rfl
def JN:Uz 0 (some (.own ds)::ρ)=.ok (.CO (.own ds)):=rfl
def Me {w:Ow}:Uz 0 (some (.ow w)::ρ)=.ok (.CO (.ow w)):=rfl
def W0:Uz (i+1) (o::ρ)=Uz i ρ:=rfl
def yB:wY i ρ π=match TX i ρ π with | some (.sh d)=>.ok d | _=>.bad:=rfl
def iL:Zo (i+1) (o::ρ)=o::Zo i ρ:=by
 unfold Zo;simp only[za0,z5];split<;>simp_all
def iM {c:Cl}:Zo 0 (some c::ρ)=some (Jv c)::ρ:=rfl
def JO:Jv (.val d)=.val d:=rfl
def JP:Jv (.own ds)=.val (.lst ds):=rfl
def JQ:Jv (.ow (.LV n ds))=.val (.lst ds):=rfl
def Mf:Jv (.ow (.tree p t))=.val (er t):=rfl
def J1:er (.Bo b ks (vs.map .sh))=.Bo b ks vs:=by rw[er,IZ]
def J2:er (.lst (ds.map .sh))=.lst ds:=by rw[er,IZ]
def Ph:er (.sh d)=d:=rfl
def vF {l:List (Option Nat)}:BH (none::l) ρ=none::BH l ρ:=rfl
def vG:BH [] ρ=[]:=rfl
def iN {l:List (Option Nat)}:BH (some i::l) ρ=(match ρ[i]? with | some (some (.val d))=>some (.val d) | _=>none)::BH l ρ:=rfl
def iO {α:Type}{x y:α}:(if ([]:List D).length<=1000 then x else y)=x:=if_pos (by show 0<=1000;decide)
def iP {α:Type}{x y:α}{a:D}:(if [a].length<=1000 then x else y)=x:=if_pos (by show 1<=1000;decide)
def iQ {α:Type}{x y:α}{a b:D}:(if [a,b].length<=1000 then x else y)=x:=if_pos (by show 2<=1000;decide)
def iR {α:Type}{x y:α}{a b c:D}:(if [a,b,c].length<=1000 then x else y)=x:=if_pos (by show 3<=1000;decide)
def iS {α:Type}{x y:α}{a b c d:D}:(if [a,b,c,d].length<=1000 then x else y)=x:=if_pos (by show 4<=1000;decide)
def toCl_nil:toCl none (.lst [])=.own []:=rfl
def CD {α:Type}{gt:D->Ae->M Ae}{ft:Ae->M Bool}{fe:Ae->M D}{g:α->D}(p:α->Bool)(f:α->D):∀ {l:List α},(∀x∈l,∃ρ1,gt (g x) ρ=.ok ρ1/\ft ρ1=.ok (p x)/\(p x=true->fe ρ1=.ok (f x)))->Bv gt ft fe (l.map g) ρ=.ok ((l.filter p).map f)
 |[],_=>rfl
 |x::r,h=>by
  obtain⟨ρ1,h1,h2,h3⟩:=h x zv;have ih:=CD (gt:=gt) (ft:=ft) (fe:=fe) (g:=g) p f (l:=r) λ y hy=>h y (zw _ hy);rw[zx,Bv,h1];dsimp only;rw[h2];dsimp only;rw[List.filter_cons];cases hp:p x with
  |true =>
   rw[if_pos rfl,h3 hp];dsimp only;rw[ih];simp
  |false=>simp[ih]
def Cb {α:Type}{gt:D->Ae->M Ae}{ft:Ae->M Bool}{fe:Ae->M D}{g:α->D}(f:α->D){l:List α}(h:∀x∈l,∃ρ1,gt (g x) ρ=.ok ρ1/\ft ρ1=.ok true/\fe ρ1=.ok (f x)):Bv gt ft fe (l.map g) ρ=.ok (l.map f):=by
 have:=CD (gt:=gt) (ft:=ft) (fe:=fe) (ρ:=ρ) (g:=g) (λ _=>true) f (l:=l) λ x hx=>by
  obtain⟨ρ1,h1,h2,h3⟩:=h x hx;exact⟨ρ1,h1,h2,λ _=>h3⟩
 rw[this,List.filter_eq_self.mpr (λ _ _=>rfl)]
def BM {α:Type}{g:α->D}{l:List α}{i:Nat}{d:D}(h:(l.map g)[i]?=some d):∃x,l[i]?=some x/\d=g x:=by
 rw[zU] at h;cases q:l[i]? with
 |none=>rw[q] at h;cases h
 |some x=>rw[q] at h;cases h;exact⟨x,rfl,rfl⟩
def QA:iB (.lst (ds.map .sh))=.ok ds:=by unfold iB;simp[CL,iA]
def HP {α:Type}{x:α}:iA (some x)=.ok x:=rfl
def Mg:Si i ρ (.sh d)=.ok (.next (ρ.set i (some (.val d)))):=rfl
def JR:Si i ρ (.lst ts)=.ok (.next (ρ.set i (some (toCl none (.lst ts))))):=rfl
def JS:Si i ρ (.tup ts)=.ok (.next (ρ.set i (some (.ow (.tree none (.tup ts)))))):=rfl
def JT:Si i ρ (.Bo b ks ts)=.ok (.next (ρ.set i (some (.ow (.tree none (.Bo b ks ts)))))):=rfl
def JU {x:Str}{ns:List Str}:Si i ρ (.ins x ns ts)=.ok (.next (ρ.set i (some (.ow (.tree none (.ins x ns ts)))))):=rfl
def Mh:Zn (.sh d)=.ok (.ret d):=rfl
def JV:Zn (.lst ts)=.ok (.CO (.ow (.tree none (.lst ts)))):=rfl
def JW:Zn (.tup ts)=.ok (.CO (.ow (.tree none (.tup ts)))):=rfl
def JX:Zn (.Bo b ks ts)=.ok (.CO (.ow (.tree none (.Bo b ks ts)))):=rfl
def Sr {α:Type}{f:α->D}(h:∀x,Jr (f x)=true):∀l:List α,Js (l.map f)=true
 |[]=>by simp[Js]
 |x::r=>by rw[zx,Js,h x,Sr h r];rfl
def Ss:∀ds:List D,G9 (ds.map .sh)=Js ds
 |[]=>by simp[Js,G9]
 |d::r=>by rw[zx,G9,GJ,Ss r,Js]
def oT (h:Jr d=true):TV (.ok (.sh d))=.ok (.sh d):=by unfold TV;simp[GJ,h]
def iT (h:Js ds=true):TV (.ok (.lst (ds.map .sh)))=.ok (.lst (ds.map .sh)):=by unfold TV;simp[GJ,Ss,h]
def iU {i:Int}:Jr (.int i)=true:=by simp[Jr]
def ZA:Gk (.lst ds)=.ok (!ds.isEmpty):=rfl
def oU {a s m:Int}(h0:0<=a)(h1:a<m)(s0:1<=s)(s1:s<m):(a+s)%m≠a:=by
 by_cases h:a+s<m
 ·rw[Int.emod_eq_of_lt (by omega) h];omega
 ·have e:(a+s)%m=(a+s-m)%m:=by rw[Int.sub_emod_right]
  rw[e,Int.emod_eq_of_lt (by omega) (by omega)];omega
def Mi {k:Nat}(i j:Int):fY k (.int i) (.int j)=.ok (.bl (decide (i=j))):=by
 rw[Uv (Fz _) (Fz _)];simp only[Bl,Bool.beq_eq_decide_eq]
def Mj {k:Nat}(i j:Int):Yd k (.int i) (.int j)=.ok (.bl (!decide (i=j))):=by
 rw[Uw (Fz _) (Fz _)];simp only[Bl,Bool.beq_eq_decide_eq]
def JY {i j:Int}:sW (.int i) (.int j)=.ok (.int (i+j)):=rfl
def JZ {i j:Int}:sX (.int i) (.int j)=.ok (.int (i-j)):=rfl
def Ml {i j:Int}:xS (.int i) (.int j)=.ok (.bl (decide (i<j))):=rfl
def Mm {i j:Int}:yS (.int i) (.int j)=.ok (.bl (decide (i<=j))):=rfl
def Mn {i j:Int}:xT (.int i) (.int j)=.ok (.bl (decide (j<i))):=rfl
def Mo {i j:Int}:yT (.int i) (.int j)=.ok (.bl (decide (j<=i))):=rfl
def Mp {i:Int}:xU (.int i)=.ok (some i):=rfl
def K1:WZ [.lst ds]=.ok (.int ds.length):=rfl
def K2:WZ [.tup ds]=.ok (.int ds.length):=rfl
def ite_tt {α:Type}{x y:α}:(if true=true then x else y)=x:=rfl
def ite_ff {α:Type}{x y:α}:(if false=true then x else y)=y:=rfl
def ZC {lo hi:Option Int}{x:D}(h:qO lo hi x=.ok (.lst ds)):iF lo hi x=.ok (.lst (ds.map .sh)):=by
 unfold qO at h;unfold iF;cases x with
 |lst xs=>dsimp only at h ⊢;injection h with h;injection h with h;rw[h]
 |_=>cases h
def Su (xs:List D)(k:Nat):iF (some (k:Int)) none (.lst xs)=.ok (.lst ((xs.drop k).map .sh)):=ZC (Zb xs k)
def iV (xs:List D)(a b:Nat):iF (some (a:Int)) (some (b:Int)) (.lst xs)=.ok (.lst (((xs.drop a).take (b-a)).map .sh)):=ZC (gE xs a b)
def K3:KR (.lst ds)=.ok (.lst (ds.map .sh)):=rfl
def K4:KR (.tup ds)=.ok (.lst (ds.map .sh)):=rfl
def HQ {ns:List Int}:tV [.lst (ns.map D.int)]=.ok (.int ns.sum):=by unfold tV;dsimp only;rw[F9]
def HR {T:String}:Jo T (.lst ds)=.ok (.bl (EE T (.lst ds))):=rfl
def HS {T:String}:Jo T (.tup ds)=.ok (.bl (EE T (.tup ds))):=rfl
def HU {T:String}{k:Int}:Jo T (.int k)=.ok (.bl (EE T (.int k))):=rfl
def HV {T:String}:Jo T .AL=.ok (.bl (EE T .AL)):=rfl
def K5 {T:String}{k:Bool}:Jo T (.bl k)=.ok (.bl (EE T (.bl k))):=rfl
def HW {T:String}{k:Str}:Jo T (.str k)=.ok (.bl (EE T (.str k))):=rfl
def HX {T:String}:Jo T (.Bo b ks vs)=.ok (.bl (EE T (.Bo b ks vs))):=rfl
def W2:EE "list" (.lst ds)=true:=rfl
def W3:EE "tuple" (.tup ds)=true:=rfl
def W4 {k:Int}:EE "int" (.int k)=true:=rfl
def W5 {k:Int}:EE "bool" (.int k)=false:=rfl
def W6:EE "dict" (.Bo b ks vs)=true:=rfl
def HY {neg:Bool}{k:Int}{ns:List Int}:Jy neg (.int k) (.lst (ns.map D.int))=.ok (.bl (if neg then !ns.contains k else ns.contains k)):=by
 unfold Jy uZ;dsimp only;rw[F9]
abbrev vO (s:Option D):Option Cl:=s.map .val
def Mq {s:Option D}:EF (vO s::ρ)=vO s::EF ρ:=by cases s<;>rfl
end
abbrev UC (x:Int):List Int->List Int
 |[]=>[x]
 |y::r=>if x<=y then x::y::r else y::UC x r
abbrev GR:List Int->List Int
 |[]=>[]
 |x::r=>UC x (GR r)
def KU (x:Int):∀l:List Int,(UC x l).Perm (x::l)
 |[]=>.refl _
 |y::r=>by
  unfold UC;split
  ·exact .refl _
  ·exact ((KU x r).cons y).trans (.swap x y r)
def Ek:∀l:List Int,(GR l).Perm l
 |[]=>.refl _
 |x::r=>(KU x (GR r)).trans ((Ek r).cons x)
def Lm (x:Int):∀l:List Int,l.Pairwise (·<=·)->(UC x l).Pairwise (·<=·)
 |[],_=>by simp[UC]
 |y::r,h=>by
  unfold UC;have hy:=List.pairwise_cons.mp h;split
  ·rename_i bW;exact List.pairwise_cons.mpr ⟨λ z hz=>by
    rcases zB.mp hz with rfl|hz
    ·exact bW
    ·exact Int.le_trans bW (hy.1 z hz),h⟩
  ·rename_i bW;exact List.pairwise_cons.mpr ⟨λ z hz=>by
    rcases zB.mp ((KU x r).mem_iff.mp hz) with rfl|hz
    ·omega
    ·exact hy.1 z hz,Lm x r hy.2⟩
def FF:∀l:List Int,(GR l).Pairwise (·<=·)
 |[]=>.nil
 |x::r=>Lm x _ (FF r)
def GS:∀ {a b:List Int},a.Perm b->a.Pairwise (·<=·)->b.Pairwise (·<=·)->a=b
 |[],b,hp,_,_=>(List.nil_perm.mp hp).symm
 |x::r,[],hp,_,_=>by have:=hp.length_eq;simp at this
 |x::r,y::t,hp,ha,hb=>by
  have bX:=List.pairwise_cons.mp ha;have ay:=List.pairwise_cons.mp hb;have e:x=y:=by
   have h1:x∈y::t:=hp.mem_iff.mp (zv ..);have h2:y∈x::r:=hp.mem_iff.mpr (zv ..);rcases zB.mp h1 with e|h1
   ·exact e
   rcases zB.mp h2 with e|h2
   ·exact e.symm
   have:=bX.1 _ h2;have:=ay.1 _ h1;omega
  subst e;rw[GS (List.Perm.cons_inv hp) bX.2 ay.2]
def K6:∀ {us:List Value}{ns:List Int},IntsAre us ns->Vals (ns.map V.int) us
 |_,_,.nil=>.nil
 |_,_,.cons n t h=>.cons ⟨t,rfl⟩ (K6 h)
def N6 {K:zr}{H:Hp}:∀l:List Int,Ah K H (l.map V.int) (l.map D.int)
 |[]=>.nil
 |x::r=>.cons (.int _) (N6 r)
section
variable {X:Cx}{WX:Str->Hp->Prop}{c:Bool}{P0:Eb}{P:Addr->Prop}{H:Hp}{σ:St}{ρ:Ae}{a b e:Expr}{f g:Ae->M D}{fn:Ae->M OT}{pos:Pos}{te:TE}
abbrev xB (X:Cx)(te:TE):TE:=λ σ H Q=>te σ H λ x H1=>∃p ns,x=.ref p/\D7 X.K H1 p (List.map V.int ns)/\ns.length<64/\∀r,H1 r=none->Q (.ref r) (upd H1 r (.lst ((GR ns).map V.int)))
def Xk {p:Pos}(hc:X.calm=true)(hg:Gl X "sorted")(hm:X.mg "sorted" = none)(he:PE X e te)(hv:bootBuiltins "sorted" = some (.builtin "sorted"):=by decide +kernel)(hs: ~~~(starEach [e] X.env=[(false,eval e X.env)])):
 PE X (.Call (.Name "sorted" p) [e] [] pos) (xB X te):=by
 intro pins s σ H Q I h;refine wpAny_Call_Name_kw (Dz I hg hm hv ?_);refine PyProof.Rows.callWith_builtin1 ?_ hs;rw[hs];refine zbh (Bk (he pins s σ H _ I h) λ u s1 zz=>?_);obtain⟨x,H1,I1,r1,q1⟩:=zz;obtain⟨q,ns,rfl,hq,vx,h⟩:=q1;cases r1;refine zbn ?_;obtain⟨aa,r',pl,hz⟩:=I1.list hq;have hi:=intsAre_of r';have gw:=r'.length;rw[zu] at gw;refine sorted_ints pl.isList hi (by omega) λ out cu b1 b2 b3=>?_;obtain⟨c',aA⟩:=sortedAll_at s1.heap aa out;have e:cu=GR ns:=GS (b2.trans (Ek ns).symm) b3 (FF ns);subst e;refine⟨.ref _,_,I1.laid (t':=s1.toks) (o:=.lst ((GR ns).map V.int)) (λ b o e=>sortedAll_old e) (Nat.le_succ _) ⟨?_,out.toList,c',K6 b1,by simpa using aA⟩,rfl,h _ (I1.Ar.fresh (Nat.le_succ _))⟩;rw[zu,(Ek ns).length_eq];exact zam (AA (by omega))
abbrev iW (d:D):M OT:=match d with
 | .lst xs=>(match CS xs with|some ns=>if ns.length<64 then .ok (.lst (((GR ns).map .int).map .sh)) else .bad|none=>.bad)
 |_=>.bad
def Xl {ns:List Int}(h:ns.length<64):iW (.lst (ns.map .int))=.ok (.lst (((GR ns).map .int).map .sh)):=by
 unfold iW;dsimp only;rw[F9];dsimp only;rw[if_pos h]
def Xm {p:Pos}(hc:X.calm=true)(hg:Gl X "sorted")(hm:X.mg "sorted" = none)(he:DE X WX true e f)(hv:bootBuiltins "sorted" = some (.builtin "sorted"):=by decide +kernel)(hs: ~~~(starEach [e] X.env=[(false,eval e X.env)])):
 DN X WX (.Call (.Name "sorted" p) [e] [] pos) (λ ρ=>(f ρ).bind iW):=by
 obtain⟨te,e1,e2⟩:=he;refine⟨_,Xk hc hg hm e1 hv hs,λ P0 P σ H Q ρ E h=>?_⟩;refine e2 P0 P σ H _ ρ E ?_;dsimp only at h;refine Yc h λ d h=>?_;intro v H1 s1 hv;unfold iW at h;split at h
 ·rename_i xs;split at h
  ·rename_i ns eb;have:=Fb eb;subst this;split at h
   ·rename_i hl;cases hv with
    |lst hs hh =>
     have:=Ee hh;subst this;exact⟨_,ns,rfl,hs.AY,hl,h.KR s1 (N6 _)⟩
   ·exact h.elim
  ·exact h.elim
 ·exact h.elim
abbrev iX (d k:D):M OT:=match k with
 | .int j=>if 0<=j/\j.toNat<=1000 then .ok (.lst ((zE j.toNat d).map .sh)) else .bad
 |_=>.bad
def N7 {d:D}{n:Nat}(h:n<=1000):iX d (.int (n:Int))=.ok (.lst ((zE n d).map .sh)):=by
 unfold iX;dsimp only;rw[if_pos ⟨by omega,by omega⟩,zat]
def UE {db:Pos}(ha:DE X WX true a f)(hb:DE X WX true b g)(aM: ~~~(starEach [a] X.env=[(false,eval a X.env)])):
 DN X WX (.BinOp (.List [a] db) .Mult b pos) (λ ρ=>(f ρ).bind λ d=>(g ρ).bind λ k=>iX d k):=by
 obtain⟨ta,a1,a2⟩:=ha;obtain⟨tb,b1,b2⟩:=hb;refine⟨_,Yw nR (Q9 (Bn a1 Cn aM)) b1,λ P0 P σ H Q ρ E h=>?_⟩;dsimp only at h;refine a2 P0 P σ H _ ρ E ?_;refine Yc h λ d h=>?_;intro v H1 s1 hv;have E1:=E.same s1;refine⟨zam (AA (by simp)),λ p hp=>?_⟩;have s2:Ad H1 (upd H1 p (.lst [v])):=AN hp _;have E2:=E1.same s2;refine b2 P0 P σ _ _ ρ E2 ?_;cases q2:g ρ with
 |bad=>rw[q2] at h;exact h
 |ex x=>rw[q2] at h;exact λ H' s3=>h H' ((s1.trans s2).trans s3)
 |ok k =>
  rw[q2] at h;simp only[M.A9] at h;unfold iX at h;intro w H3 s3 hw;cases k with
  |int j =>
   dsimp only at h;by_cases hj:0<=j/\j.toNat<=1000
   ·rw[if_pos hj] at h;cases hw;refine⟨p,j,[v],rfl,rfl,s3 _ _ Ap,by omega,by omega,zam (AA (by simp;omega)),?_⟩;rw[P8];exact h.KR ((s1.trans s2).trans s3) (Sb ((hv.mono s2.del).mono s3.del) j.toNat)
   ·rw[if_neg hj] at h;exact h.elim
  |_=>exact h.elim
end
abbrev iY (f:Str):List Str->List D->Option D
 |n::ns,d::ds=>if f==n then some d else iY f ns ds
 |_,_=>none
def Sv {K:zr}{H:Hp}{f:Str}:∀ {fs:List (Str×V)}{ds:List D}{d:D},Ah K H (fs.map zay) ds->iY f (fs.map zX) ds=some d->∃v,fs.lookup f=some v/\BX K H v d
 |[],ds,d,_,h=>by simp[iY] at h
 |(n,v)::fs,_,d,.cons hv ht,h=>by
  rw[zx,iY] at h;rw[zb2];cases q:f==n with
  |true=>rw[q,if_pos rfl] at h;cases h;exact⟨v,rfl,hv⟩
  |false=>rw[q,if_neg (by simp)] at h;exact Sv ht h
def N8 {K:zr}{H:Hp}{f:Str}:∀ {fs:List (Str×V)}{ds:List D},Ah K H (fs.map zay) ds->iY f (fs.map zX) ds=none->fs.lookup f=none
 |[],ds,_,h=>rfl
 |(n,v)::fs,_,.cons hv ht,h=>by
  rw[zx,iY] at h;rw[zb2];cases q:f==n with
  |true=>rw[q,if_pos rfl] at h;cases h
  |false=>rw[q,if_neg (by simp)] at h;exact N8 ht h
structure Ir (K:zr)(x f:Str):Prop where
 ex:∃C,zY K mainGlobals x=some (some (.ref C))/\WK K C/\IH K C f
abbrev Of (cs:List Str)(f:Str)(d:D):M D:=match d with
 | .ins x ns ds=>if x∈cs then (match iY f ns ds with|some e=>.ok e|none=>.bad) else .bad
 |_=>.bad
section
variable {X:Cx}{E:XK}{WX:Str->Hp->Prop}{c:Bool}{P0:Eb}{P:Addr->Prop}{H:Hp}{σ:St}{ρ:Ae}{a b e:Expr}{es:List Expr}{f g:Ae->M D}{fs:Ae->M (List D)}{fn:Ae->M OT}{pos:Pos}{te:TE}
def ES (cs:List Str){fl:Str}(o8:∀x∈cs,Ir X.K x fl)(ha:DE X WX c a f)(hb: ~~~(attributeBase a fl X.env (eval a X.env)=eval a X.env)):DE X WX c (.Attribute a fl pos) (λ ρ=>(f ρ).bind (Of cs fl)):=by
 obtain⟨ta,a1,a2⟩:=ha;refine⟨_,nE a1 hb,λ P0 P σ H Q ρ E h=>?_⟩;dsimp only at h;refine a2 P0 P σ H _ ρ E ?_;cases e:f ρ with
 |bad|ex x=>rw[e] at h;exact h
 |ok d =>
  rw[e] at h;simp only[M.A9] at h;intro v H1 s1 hv;unfold Of at h;split at h
  ·rename_i x ns ds;split at h
   ·rename_i hx;split at h
    ·rename_i d' el;cases hv with
     |ins hn ha hl =>
      obtain⟨C,br,hc,d8⟩:=(o8 x hx).ex;rw[hn] at br;cases br;obtain⟨v',l1,l2⟩:=Sv hl el;exact⟨_,_,_,_,v',rfl,(An ha).2,hc,d8,l1,h v' H1 s1 l2⟩
    ·exact h.elim
   ·exact h.elim
  ·exact h.elim
structure Pj (K:zr)(x m qual:Str)(st:Stmt)(ps:List Str):Prop where
 ex:∃C f fd,zY K mainGlobals x=some (some (.ref C))/\WK K C/\Meth K C m f/\Yb K m qual st f fd/\Binds K fd ps []
structure J3 (P:Program)(w:World)(K:zr)(mg:Str->Option Value)(base:Heap)(x m:Str)(k n:Nat)(F:List D->M OT):Prop where
 ex:∃C fa fd ps,zY K mainGlobals x=some (some (.ref C))/\WK K C/\Meth K C m fa/\Dr P w K mg base (Ur P w base) k fa fd ps (spT K n F)/\Binds K fd ps []
def Mr {P:Program}{w:World}{K:zr}{mg:Str->Option Value}{base:Heap}{x m qual:Str}{st:Stmt}{N ps:List Str}{k n:Nat}(T:Pj K x m qual st ps)(S:Ac N ps (A4 st))(g:Ae->M Out)(hb:∀(f:Addr) (B7:Value) (A:Around) (outer:List Env) (s:Shared) (H:Hp) (E:XK),BC k (A.deeper (envOfC qual (A4 st) s.heap.objs.size f B7))->TU (kY P w K mg base N qual (A4 st) f B7 A outer s H E) (D1 K E) (AO st) g)(hn: ~~~(ps.length=n)):
 J3 P w K mg base x m (k+1) n (λ ds=>Zm (g (AE N ds))):=by
 obtain⟨C,f,fd,h1,h2,h3,F,hB⟩:=T.ex;subst hn;exact⟨⟨C,f,fd,ps,h1,h2,h3,tP F S g (hb f),hB⟩⟩
abbrev vH (x:Str):List (Str×(List D->M OT))->Option (List D->M OT)
 |[]=>none
 |(y,F)::r=>if x=y then some F else vH x r
def W7 {x:Str}{F:List D->M OT}:∀ {ms:List (Str×(List D->M OT))},vH x ms=some F->(x,F)∈ms
 |[],h=>by cases h
 |(y,G)::r,h=>by
  unfold vH at h;split at h
  ·rename_i e;cases h;subst e;exact zv
  ·exact zw _ (W7 h)
abbrev Ii (ms:List (Str×(List D->M OT)))(m:Str)(d:D):M (List D->M OT):=match d with
 | .ins x ns es=>(match vH x ms with
  |some F=>(match iY m ns es with|none=>.ok F|some _=>.bad)
  |none=>.bad)
 |_=>.bad
def Sw {ms:List (Str×(List D->M OT))}{m:Str}{d:D}{F:List D->M OT}(h:Ii ms m d=.ok F):∃x ns es,d=.ins x ns es/\(x,F)∈ms/\iY m ns es=none:=by
 unfold Ii at h;split at h
 ·rename_i x ns es;split at h
  ·rename_i G e;split at h
   ·rename_i e2;cases h;exact⟨x,ns,es,rfl,W7 e,e2⟩
   ·cases h
  ·cases h
 ·cases h
def Pk {ms:List (Str×(List D->M OT))}{m:Str}{d:D}{x:Str}:Ii ms m d≠.ex x:=λ h=>by
 unfold Ii at h;split at h
 ·split at h
  ·split at h<;>cases h
  ·cases h
 ·cases h
abbrev ZD (X:Cx)(m:Str)(k:Nat)(E:XK)(ta:TE)(t:TA):TE:=λ σ H Q=>ta σ H λ x H1=>∃a C dx fs f fd ps n F,x=.ref a/\H1 a=some (.ins C dx fs)/\fs.lookup m=none/\WK X.K C/\Meth X.K C m f/\Dr X.prog X.w X.K X.mg X.base (Ur X.prog X.w X.base) k f fd ps (spT X.K n F)/\Binds X.K fd ps []/\
 t σ H1 λ vs H2=>spT X.K n F (x::vs) H2 Q E
def ZE {pl:Sem Bool}{o:Expr}{m:Str}{k:Nat}{ta:TE}{t:TA}{apos:Pos}(he:PE X o ta)(hr:BC k X.A)(hx:Gw (Ur X.prog X.w X.base) X E)(ha:PA X (e::es) t)(aM: ~~~(starEach (e::es) X.env=(false,eval e X.env)::starEach es X.env))(ao: ~~~((backTo pos (starEach es X.env)).any (·.1)=false))(ht: ~~~(eval (.Call (.Attribute o m apos) (e::es) [] pos) X.env=(do
  let ov <-eval o X.env
  standAt apos.atName
  let (f,first) <-holding [ov] (getMethod ov m pl)
  callWith pos f first (backTo pos (starEach (e::es) X.env)) (backToKw pos (keywordEach [] X.env))))):
 PE X (.Call (.Attribute o m apos) (e::es) [] pos) (ZD X m k E ta t):=by
 intro pins s σ H Q I h;refine PySem.W.methodCall_KW (pl:=pl) (Bk (he pins s σ H _ I h) λ u s1 zz=>?_) ht;obtain⟨x,H1,I1,rx,a,C,dx,fs,f,fd,ps,n,F,ex,ea,l,c,hm,hF,hb,q⟩:=zz;subst ex;obtain rfl:u=zad a:=rx;refine MB I1 ea c hm l ?_;refine PySem.W.callWith_K (first:=[.ref a]) (h₀:=X.base) I.ok.mod.Y7 hm.kp (Bk (ha pos pins s1 σ H1 _ I1 q) λ us s2 ⟨vs,H2,I2,r,q2⟩=>⟨I2.Mz,?_⟩) aM ao;exact Qa (us:=.ref a::us) (vs:=.ref a::vs) hF hr hb .nil hx I2 (.cons rfl r) (by rw[zV];exact q2)
def Xn {pl:Sem Bool}{o:Expr}{m:Str}{k:Nat}{ta:TE}{apos:Pos}(he:PE X o ta)(hr:BC k X.A)(hx:Gw (Ur X.prog X.w X.base) X E)(ht: ~~~(eval (.Call (.Attribute o m apos) [] [] pos) X.env=(do
  let ov <-eval o X.env
  standAt apos.atName
  let (f,first) <-holding [ov] (getMethod ov m pl)
  callWith pos f first (backTo pos (starEach [] X.env)) (backToKw pos (keywordEach [] X.env))))):
 PE X (.Call (.Attribute o m apos) [] [] pos) (ZD X m k E ta nG):=by
 intro pins s σ H Q I h;refine PySem.W.methodCall_KW (pl:=pl) (Bk (he pins s σ H _ I h) λ u s1 zz=>?_) ht;obtain⟨x,H1,I1,rx,a,C,dx,fs,f,fd,ps,n,F,ex,ea,l,c,hm,hF,hb,q⟩:=zz;subst ex;obtain rfl:u=zad a:=rx;refine MB I1 ea c hm l ?_;exact PySem.W.callWith_K0 (first:=[.ref a]) I1.Mz hm.kp (Qa (us:=[.ref a]) (vs:=[.ref a]) hF hr hb .nil hx I1 (.cons rfl .nil) q)
def W8 {P:Program}{w:World}{K:zr}{mg:Str->Option Value}{base:Heap}{CX:Vl}{k k':Nat}{f:Addr}{fd:FuncData}{ps:List Str}{sp:Sp}(h:k<=k')(F:Dr P w K mg base CX k f fd ps sp):Dr P w K mg base CX k' f fd ps sp:=
 ⟨F.len,λ A stack s H args us vs Q E hr=>F.run A stack s H args us vs Q E (hr.mono h)⟩
def QB {o:Expr}{fo:Ae->M D}{m:Str}{k n:Nat}{apos:Pos}{pl:Sem Bool}(ms:List (Str×(List D->M OT)))(xo:G8 X E)(ip:∀p∈ms,∃k',k'<=k/\J3 X.prog X.w X.K X.mg X.base p.1 m k' n p.2)(hr:BC k X.A)(ho:DE X (D1 X.K E) true o fo)(ha:DA X (D1 X.K E) true (e::es) fs)(aN:(e::es).length+1=n)(aM: ~~~(starEach (e::es) X.env=(false,eval e X.env)::starEach es X.env))(ao: ~~~((backTo pos (starEach es X.env)).any (·.1)=false))(ht: ~~~(eval (.Call (.Attribute o m apos) (e::es) [] pos) X.env=(do
  let ov <-eval o X.env
  standAt apos.atName
  let (f,first) <-holding [ov] (getMethod ov m pl)
  callWith pos f first (backTo pos (starEach (e::es) X.env)) (backToKw pos (keywordEach [] X.env))))):
 DN X (D1 X.K E) (.Call (.Attribute o m apos) (e::es) [] pos) (λ ρ=>(fo ρ).bind λ d=>(Ii ms m d).bind λ F=>(fs ρ).bind λ ds=>F (d::ds)):=by
 obtain⟨ta,a1,a2⟩:=ho;obtain⟨tb,b1,b2,b3⟩:=ha;refine⟨_,ZE (pl:=pl) a1 hr xo.call b1 aM ao ht,λ P0 P σ H Q ρ Ev h=>?_⟩;dsimp only at h;refine a2 P0 P σ H _ ρ Ev ?_;refine Yc h λ d h=>?_;intro v H1 s1 hv;cases q2:Ii ms m d with
 |bad=>rw[q2] at h;exact h.elim
 |ex y=>exact (Pk q2).elim
 |ok F =>
  rw[q2] at h;simp only[M.A9] at h;obtain⟨x,ns,vy,rfl,aR,o9⟩:=Sw q2;obtain⟨k',c9,M0⟩:=ip _ aR;obtain⟨C,fa,fd,ps,h1,h2,h3,h4,h5⟩:=M0.ex;cases hv with
  |ins hn hH hl =>
   rw[hn] at h1;cases h1;refine⟨_,_,_,_,fa,fd,ps,n,F,rfl,(An hH).2,N8 hl o9,h2,h3,W8 c9 h4,h5,?_⟩;refine b2 P0 P σ H1 _ ρ (Ev.same s1) ?_;cases q3:fs ρ with
   |bad=>rw[q3] at h;exact h
   |ex y=>rw[q3] at h;exact λ H' s=>h H' (s1.trans s)
   |ok ds =>
    rw[q3] at h;simp only[M.A9] at h;intro vs H2 s2 a5;have js:=(BX.ins hn hH hl).mono s2.del;exact⟨by rw[z7,a5.length,b3 ρ ds q3];exact aN,P,_,((Ev.same s1).same s2).C8,.cons js a5,h.same (s1.trans s2)⟩
def GU {o:Expr}{fo:Ae->M D}{m:Str}{k:Nat}{apos:Pos}{pl:Sem Bool}(ms:List (Str×(List D->M OT)))(xo:G8 X E)(ip:∀p∈ms,∃k',k'<=k/\J3 X.prog X.w X.K X.mg X.base p.1 m k' 1 p.2)(hr:BC k X.A)(ho:DE X (D1 X.K E) true o fo)(ht: ~~~(eval (.Call (.Attribute o m apos) [] [] pos) X.env=(do
  let ov <-eval o X.env
  standAt apos.atName
  let (f,first) <-holding [ov] (getMethod ov m pl)
  callWith pos f first (backTo pos (starEach [] X.env)) (backToKw pos (keywordEach [] X.env))))):
 DN X (D1 X.K E) (.Call (.Attribute o m apos) [] [] pos) (λ ρ=>(fo ρ).bind λ d=>(Ii ms m d).bind λ F=>F [d]):=by
 obtain⟨ta,a1,a2⟩:=ho;refine⟨_,Xn (pl:=pl) a1 hr xo.call ht,λ P0 P σ H Q ρ Ev h=>?_⟩;dsimp only at h;refine a2 P0 P σ H _ ρ Ev ?_;refine Yc h λ d h=>?_;intro v H1 s1 hv;cases q2:Ii ms m d with
 |bad=>rw[q2] at h;exact h.elim
 |ex y=>exact (Pk q2).elim
 |ok F =>
  rw[q2] at h;simp only[M.A9] at h;obtain⟨x,ns,vy,rfl,aR,o9⟩:=Sw q2;obtain⟨k',c9,M0⟩:=ip _ aR;obtain⟨C,fa,fd,ps,h1,h2,h3,h4,h5⟩:=M0.ex;cases hv with
  |ins hn hH hl =>
   rw[hn] at h1;cases h1;refine⟨_,_,_,_,fa,fd,ps,1,F,rfl,(An hH).2,N8 hl o9,h2,h3,W8 c9 h4,h5,?_⟩;exact⟨rfl,P,_,(Ev.same s1).C8,.cons (BX.ins hn hH hl) .nil,h.same s1⟩
end
section
variable {X:Cx}{E:XK}{WX:Str->Hp->Prop}{c:Bool}{P0:Eb}{P:Addr->Prop}{H:Hp}{σ:St}{ρ:Ae}{a b e:Expr}{es:List Expr}{f g:Ae->M D}{fs:Ae->M (List D)}{fn:Ae->M OT}{pos:Pos}{te:TE}
structure oV (K:zr)(mg:Str->Option Value)(x:Str)(C:Addr):Prop where
 ns:zY K mainGlobals x=some (some (.ref C))
 yC:mg x=some (.ref C)
def Pm {p dx C:Addr}(hp:H p=none)(hd:H dx=none):Ad H (upd (upd H dx (.own p)) p (.ins C dx [])):=λ b u q=>by
 rw[Ai (Ax q hp),Ai (Ax q hd)];exact q
structure tZ (P:Program)(w:World)(K:zr)(mg:Str->Option Value)(base:Heap)(x:Str)(k n:Nat)(F:OT->List D->M (OT×OT)):Prop where
 ex:∃C fa fd ps,oV K mg x C/\Mk K C fa/\Dr P w K mg base (Ur P w base) k fa fd ps (Pe K n F)/\Binds K fd ps []
abbrev Pn (m:M (OT×OT)):M OT:=match m with
 | .ok (t,.sh .AL)=>.ok t
 |_=>.bad
def iZ {x:Str}{k n:Nat}{F:OT->List D->M (OT×OT)}{p:Pos}(xo:G8 X E)(G:tZ X.prog X.w X.K X.mg X.base x k n F)(hr:BC (k+1) X.A)(hg:Gl X x)(ha:DA X (D1 X.K E) true (e::es) fs)(aN:(e::es).length+1=n)(aS:(x==("__debug__" : Str))=false:=by decide)(he: ~~~(starEach (e::es) X.env=(false,eval e X.env)::starEach es X.env))(ao: ~~~((backTo pos (starEach es X.env)).any (·.1)=false)):
 DN X (D1 X.K E) (.Call (.Name x p) (e::es) [] pos) (λ ρ=>(fs ρ).bind λ ds=>Pn (F (.ins x [] []) ds)):=by
 obtain⟨C,fa,fd,ps,hT,hM,hF,hb⟩:=G.ex;obtain⟨ta,a1,a2,a3⟩:=ha;refine⟨_,Vn hM hF hr hg hT.yC hb .nil xo.call a1 aS he ao,λ P0 P σ H Q ρ Ev h=>?_⟩;dsimp only at h;refine a2 P0 P σ H _ ρ Ev ?_;cases q:fs ρ with
 |bad|ex x=>rw[q] at h;exact h
 |ok ds =>
  rw[q] at h;simp only[M.A9] at h;intro vs H1 s1 a5 y dx hy hd ae;rw[zV];have E1:=Ev.same s1;have sm:=Pm (C:=C) hy hd;have bH:∀a∈[y],H1 a=none:=λ a ha=>by rw[zy.mp ha];exact hy
  refine⟨by rw[z7,a5.length,a3 ρ ds q];exact aN,PU P [y],y,.ins x [] [],[y],vs,ds,rfl,λ a ha=>?_,λ a ha=>.inr ha,by simp,C7.ins (fs:=[]) hT.ns Ap .nil,a5.mono (Cu sm bH),?_⟩
  ·rcases ha with ha|ha
   ·exact (E1.C8 a ha).same sm
   ·rw[zy.mp ha];exact⟨_,Ap,λ xs=>⟨(λ z=>by cases z),(λ z w=>by cases w)⟩⟩
  ·cases q2:F (.ins x [] []) ds with
   |bad|ex z=>rw[q2] at h;exact h
   |ok tr =>
    obtain⟨t,r⟩:=tr;rw[q2] at h;simp only[Pn] at h;intro v H' P' ag fr k1 k2 k3 k4 k5 k6 k7 k8 k9 oy;cases r with
    |sh d =>
     cases d with
     |AL =>
      cases k6 with
      |sh hv =>
       cases hv;refine⟨rfl,h _ ag H' ?_ ?_ k5 ?_⟩
       ·intro b u eb;have e1:=s1 b u eb;have bI:b≠y:=λ z=>by rw[z,hy] at e1;cases e1
        have e2:=sm b u e1;by_cases hP:P b
        ·exact (k1 b (.inl hP) (by simp[bI])).2.trans e2
        ·exact (An (k3 b u (by rw[Au λ z=>z.elim hP λ w=>bI (zy.mp w)];exact e2))).2
       ·intro b jt;cases eb:H b with
        |none=>rfl
        |some u =>
         exfalso;have e1:=s1 b u eb;have bI:b≠y:=λ z=>by rw[z,hy] at e1;cases e1
         have e2:=sm b u e1;have hn:=λ z=>bI (zy.mp ((k9 b jt).2 z));exact (An (k3 b u (by rw[Au hn];exact e2))).1 (k9 b jt).1
       ·refine k4.move (λ b u eb=>?_) λ _ _=>rfl;obtain⟨g1,g2⟩:=An eb;rw[Au]
        ·exact g2
        ·rintro (z|z)
         ·have bI:b≠y:=λ w=>by
           obtain⟨o,e1,_⟩:=E1.C8 b z;rw[w,hy] at e1;cases e1
          exact g1 (k1 b (.inl z) (by simp[bI])).1
         ·exact g1 (k9 b z).1
     |_=>exact h.elim
    |_=>exact h.elim
end
abbrev Po (i:Nat)(ρ:Ae)(π:List Nat):M (Str×List Str×List D):=match TX i ρ π with
 |some (.ins x ns ts)=>(match DK ts with|some vs=>.ok (x,ns,vs)|none=>.bad)
 |_=>.bad
def ZF {i:Nat}{ρ:Ae}{π:List Nat}{x:Str}(h:Po i ρ π=.ex x):False:=by
 unfold Po at h;split at h
 ·split at h<;>cases h
 ·cases h
abbrev ZG (f:Str):List Str->List Str
 |[]=>[f]
 |g::r=>if g=f then g::r else g::ZG f r
abbrev ZH (f:Str)(d:D):List Str->List D->List D
 |[],_=>[d]
 |g::r,e::t=>if g=f then d::t else e::ZH f d r t
 |_::_,[]=>[]
def Sx (f:Str)(v:V):∀fs:List (Str×V),(E9 f v fs).map zX=ZG f (fs.map zX)
 |[]=>rfl
 |(g,x)::r=>by
  rw[zx,ZG,E9];split
  ·rfl
  ·rw[zx,Sx f v r]
def Sy {K:zr}{H:Hp}{f:Str}{v:V}{d:D}(hv:BX K H v d):∀ {fs:List (Str×V)}{ds:List D},Ah K H (fs.map zay) ds->Ah K H ((E9 f v fs).map zay) (ZH f d (fs.map zX) ds)
 |[],_,.nil=>.cons hv .nil
 |(g,x)::r,_,.cons hx ht=>by
  rw[zx,ZH,E9];split
  ·exact .cons hv ht
  ·exact .cons hx (Sy hv ht)
section
variable {X:Cx}{E:XK}{WX:Str->Hp->Prop}{c:Bool}{P0:Eb}{P:Addr->Prop}{H:Hp}{σ:St}{ρ:Ae}{a b e:Expr}{f g:Ae->M D}{fn:Ae->M OT}{fp:Ae->M (List Nat)}{pos:Pos}{i:Nat}{es:List Expr}{fs:Ae->M (List D)}
def Bg.ins {K:zr}{π:List Nat}{v:V}{t1:OT}{x:Str}{ns:List Str}{vs:List D}(pl:Bg K P H σ ρ i π v t1)(E:Am K P0 P H σ ρ)(h:Po i ρ π=.ok (x,ns,vs)):
 t1=.ins x ns (vs.map .sh)/\∃l C dx fs,v=.ref l/\Ah K (del H P) (fs.map zay) vs/\C7 K H P (.ref l) (.ins x ns (vs.map .sh)) [l]/\zY K mainGlobals x=some (some (.ref C))/\H l=some (.ins C dx fs)/\ns=fs.map zX:=by
 unfold Po at h;rw[pl.at] at h;split at h
 ·rename_i x' cu oq e;split at h
  ·rename_i aG e';cases e;cases h;have z:=CC e';subst z;obtain⟨az,o1,hp,nd⟩:=pl.own E;generalize ht:OT.ins x ns (vs.map .sh)=t at o1;cases o1 with
   |ins hn hh hr =>
    injection ht with h1 h2 h3
    subst h1 h2 h3;obtain⟨rfl,hs⟩:=hr.oN;exact⟨rfl,_,_,_,_,rfl,hs,.ins hn hh hr,hn,hh,rfl⟩
   |_=>cases ht
  ·cases h
 ·cases h
def Ms (cs:List Str){fl:Str}(o8:∀x∈cs,Ir X.K x fl)(ha:DP X WX a i fp)(hv:DE X WX true e f){pos':Pos}(hs: ~~~(swapsWith e (some (.Attribute a fl pos')) pos.line X.env=pure false)):
 DS X WX (.Assign [.Attribute a fl pos'] e pos) (λ ρ=>(f ρ).bind λ v=>(fp ρ).bind λ π=>(Po i ρ π).bind λ z=>if z.1∈cs/\z.2.1.length<1000 then Gm i ρ π (.ins z.1 (ZG fl z.2.1) ((ZH fl v z.2.1 z.2.2).map .sh)) else .bad):=by
 obtain⟨ta,a1,a2⟩:=ha;obtain⟨tv,v1,v2⟩:=hv;refine⟨_,nF a1 v1 hs,λ P0 P σ H Z ρ E h=>?_⟩;dsimp only at h;refine v2 P0 P σ H _ ρ E ?_;refine eC h E λ d h=>?_;intro w H0 s0 hw;have E0:=E.same s0;refine a2 P0 P σ H0 _ ρ E0 ?_;cases q:fp ρ with
 |bad=>rw[q] at h;exact h
 |ex x=>rw[q] at h;exact λ H' s=>h H' P ((E.tr s0).trans (E0.tr s))
 |ok π =>
  rw[q] at h;simp only[M.A9] at h;intro v t1 H1 s1 pl;have E1:=E0.same s1;have vz:=(E.tr s0).trans (E0.tr s1);cases q3:Po i ρ π with
  |bad=>rw[q3] at h;exact h.elim
  |ex x=>exact (ZF q3).elim
  |ok z =>
   obtain⟨x,ns,vs⟩:=z;rw[q3] at h;simp only[M.A9] at h;by_cases hc:x∈cs/\ns.length<1000
   ·rw[if_pos hc] at h;obtain⟨rfl,l,C,dx,fs,rfl,cj,ot,hn,hH,rfl⟩:=pl.ins E1 q3;obtain⟨C',br,bP,d8⟩:=(o8 x hc.1).ex;rw[hn] at br;cases br;have v3:=hw.mono s1.del;obtain⟨c,p,t0,g1,g2,E3,t3⟩:=E1.oR (o':=.ins C dx (E9 fl w fs)) (u:=.ins x (ZG fl (fs.map zX)) ((ZH fl d (fs.map zX) vs).map .sh)) pl ot (λ _=>⟨λ z=>(by cases z),λ _ z=>by cases z⟩) (λ mv=>by
     have:=C7.ins (K:=X.K) (H:=upd H1 l (.ins C dx (E9 fl w fs))) (P:=P) (p:=l) (fs:=E9 fl w fs) (x:=x) hn Ap (((Sy v3 cj).mono mv).ows);rw[Sx] at this;exact this)
    rw[HJ g1 g2] at h;exact⟨l,C,dx,fs,rfl,hH,bP,d8,by have:=hc.2;rw[zu] at this;exact this,h _ _ _ (vz.trans t3) E3⟩
   ·rw[if_neg hc] at h;exact h.elim
end
def C6 {K:zr}{f:Str}:∀y∈([]:List Str),Ir K y f:=λ y h=>by cases h
def Bx {K:zr}{f x:Str}{xs:List Str}(h:Ir K x f)(t:∀y∈xs,Ir K y f):∀y∈x::xs,Ir K y f:=λ y hy=>by
 rcases zB.mp hy with rfl|hy
 ·exact h
 ·exact t y hy
def EI {P:Program}{w:World}{K:zr}{mg:Str->Option Value}{base:Heap}{m:Str}{k n:Nat}:∀p∈([]:List (Str×(List D->M OT))),∃k',k'<=k/\J3 P w K mg base p.1 m k' n p.2:=λ p h=>by cases h
def Dw {P:Program}{w:World}{K:zr}{mg:Str->Option Value}{base:Heap}{m x:Str}{k k' n:Nat}{F:List D->M OT}{ms:List (Str×(List D->M OT))}(hk:k'<=k)(h:J3 P w K mg base x m k' n F)(t:∀p∈ms,∃k',k'<=k/\J3 P w K mg base p.1 m k' n p.2):
 ∀p∈(x,F)::ms,∃k',k'<=k/\J3 P w K mg base p.1 m k' n p.2:=λ p hp=>by
 rcases zB.mp hp with rfl|hp
 ·exact⟨k',hk,h⟩
 ·exact t p hp
end L2
set_option maxRecDepth 1000000
set_option maxHeartbeats 0
namespace L2
open PySem
def HZ:entryFor table "dict.update.loop" = some Builtin.«dict.update.loop»:=by unfold entryFor;rfl
open PySem PySem.Spec PySem.Calls PyProof.Rows PySem.W PySem.Builtin PySem.Builtin.ObjectAttr
section
variable {prog:Program}{w:World}{A:Around}{E:Value->Shared->Prop}{s:Shared}
def call_meets {T id:String}{nm:Str}{B:Builtin}{self:Value}{rest:List Value}{Sp:PySem.Spec}{Q:Value->Shared->Prop}(SL:Slot T nm id)(hB:entryFor table id=some B)(ht:s.TypeIs self T)(ha:argsOk id ⟨self::rest,[]⟩)(m:Meets (B ⟨self::rest,[]⟩) Sp)
 (h:Sp A (λ r s'=>match r with | .ok (.ret v)=>Q v s' | .ok _=>False | .error e=>E e s') s):wpAny (model prog w) A (call (.builtin id) (self::rest)) Q E s:=
 wpAny_call (codeAny_call_builtin SL.plain hB (SL.check _ _ _ _ _ _ _ _ ht ha (m prog w A _ s h)))
def Ln {l:Addr}{xs:Array Value}{k:Nat}{sl:Array (Option Value)}{Q:Option Value->Shared->Prop}(hh:A.handled=none)(hl:s.heap.get? l=some {cls:=.type "list",data:=.seq xs k,slots:=sl})
 (h:∀h' tk,(∀b o,s.heap.get? b=some o->h'.get? b=some o)->Q none {s with heap:=h',toks:=tk}):wpAny (model prog w) A (getAttr? (.ref l) "keys") Q E s:=by
 have miss:typeLookup (.type "list") "keys" = pure none:=am_miss_of_fast (by decide +kernel);have T0:∀hp:Heap,hp.get? l=some {cls:=.type "list",data:=.seq xs k,slots:=sl}->Looks (model prog w) hp (typeOf (.ref l)) (.type "list"):=λ hp e=>(Looks.ld e).andThen .now;have SL:=PySem.F.slot_list_getattribute;have aF:(onTheHeap (Value.type "list")&&Value.builtin "list.__getattribute__" == Value.builtin "object.__getattribute__")=false:=rfl;have pc:(false&&onTheHeap (Value.builtin "list.__getattribute__"))=false:=rfl;unfold getAttr? getAttrBy?;refine wpAny_bind (wpAny_mkText (wpAny_bind (wpAny_attempt ?_)));unfold getAttrBy;refine wpAny_holding (wpAny_bind ((T0 _ hl).at (wpAny_bind ?_)));rw[SL.lookup];refine wpAny_pure ?_;dsimp only;rw[aF,if_neg zO];unfold getAttrByItsOwn hookBefore;rw[if_neg (show ¬ onTheHeap (Value.type "list")=true from zO)];refine wpAny_bind (wpAny_pure (wpAny_bind (wpAny_attempt (wpAny_holding ?_))));unfold callGetattribute;rw[pc,if_neg zO];unfold boundAndCalled;rw[SL.bind];refine wpAny_bind (wpAny_pure ?_);dsimp only;refine call_meets SL am_entry_list_getattribute ⟨_,hl,rfl⟩ (PySem.F.args_list_getattribute_2 _ _) (meets_getattribute_miss_list l xs k sl "keys" s.toks miss rfl (by decide)) ⟨hl,hh,λ h' tk e ne=>?_⟩;dsimp only;obtain⟨kp,nw,t,u,he⟩:=ne;have T1:Looks (model prog w) h' (typeOf (.ref e)) (.type "AttributeError"):=(Looks.ld he).andThen .now;unfold getattributeRaised isInstance;refine wpAny_bind (wpAny_bind (T1.at ?_));rw[sub_AttributeError];refine wpAny_pure ?_;rw[if_pos rfl];unfold hookBehind;rw[if_neg (show ¬ onTheHeap (Value.type "list")=true from zO),am_list_getattr_none];refine wpAny_bind (wpAny_pure ?_);unfold hookOrError attributeErrorLeaves;dsimp only;rw[if_pos (show (!false)=true from rfl)];refine wpAny_bind (wpAny_throw ?_);refine wpAny_bind (wpAny_bind (T1.at ?_));rw[sub_AttributeError];refine wpAny_pure ?_;rw[if_pos rfl];exact wpAny_pure (h h' tk kp)
def Pp {t:Addr}{aa:Array Value}{Q:List Value->Shared->Prop}(ht:IsTup s.heap t aa)(h:Q aa.toList s):wpAny (model prog w) A (Dict.pairItems (.ref t)) Q E s:=by
 obtain⟨o,h1,h2,n,h3⟩:=ht;have T0:Looks (model prog w) s.heap (typeOf (.ref t)) (.type "tuple"):=h2▸(Looks.ld h1).andThen .now;unfold Dict.pairItems;refine wpAny_bind (T0.at ?_);have hx:(Value.type "tuple" == Value.type "list" || Value.type "tuple" == Value.type "tuple")=true:=by decide
 rw[if_pos hx];exact wpAny_bind (wpAny_seqItems h1 h3 (wpAny_pure h))
def CN:plainId "dict.update.loop" = true:=by decide +kernel
def N9 {K:Type}[DecidableEq K]{knd:KeyKind prog w K}{h h':Heap}{d I l:Addr}{i:Nat}{xs:List (List K×Addr×Value)}(hd:h.DictOfH (tupleKind knd) d xs)(hit:h.IsListIter I l i)(sb:∀b o,b≠I->h.get? b=some o->h'.get? b=some o):
 h'.DictOfH (tupleKind knd) d xs:=by
 obtain⟨o,es,ep,h1,h2,h3,h4,h5,h6⟩:=hd;obtain⟨oi,i1,i2,i3⟩:=hit;refine⟨o,es,ep,sb d o (λ z=>?_) h1,h2,h3,h4,λ x hx=>?_,h6⟩
 ·subst z;rw[i1] at h1;cases h1;rw[i3] at h3;cases h3
 ·obtain⟨ok,aa,n,k1,k2,k3,k4⟩:=h5 x hx;refine⟨ok,aa,n,sb _ _ (λ z=>?_) k1,k2,k3,k4⟩;rw[z,i1] at k1;cases k1;rw[i3] at k3;cases k3
def UG {K:Type}[DecidableEq K]{knd:KeyKind prog w K}{R:Result->Shared->Prop}{d I l:Addr}{items:Array Value}{h0:Heap}(ps:List (List K×Addr×Value))(hh:A.handled=none)(ck:A.in1.units<cLine)(c8:l≠I)(pd:d≠I)(iq:l≠d)
 (ju:ps.length=items.size) (hsz:items.size+1<=sizeLine) (hl:h0.IsList l items)
 (hp:∀(j:Nat) p,ps[j]?=some p->(p.2.1≠d/\p.2.1≠I/\(tupleKind knd).is h0 p.1 p.2.1)/\∃t,items[j]?=some (.ref t)/\t≠d/\t≠I/\IsTup h0 t #[.ref p.2.1,p.2.2]):
 ∀(m i:Nat) (xs:List (List K×Addr×Value)) (s:Shared),items.size-i=m->i<=items.size->xs.length<=i->s.heap.IsListIter I l i->s.heap.DictOfH (tupleKind knd) d xs->(∀b o,b≠d->b≠I->h0.get? b=some o->s.heap.get? b=some o)->
  (∀h' tk,h'.DictOfH (tupleKind knd) d ((ps.drop i).foldl (λ acc p=>storedH acc p.1 p.2.1 p.2.2) xs)->(∀b o,b≠d->b≠I->h0.get? b=some o->h'.get? b=some o)->R (.ok (.ret .none)) {s with heap:=h',toks:=tk})->
  codeAny (model prog w) A (.builtin "dict.update.loop" ⟨[.ref d,.ref I,rawInt i,.none],[]⟩) R s:=by
 intro m;induction m with
 |zero =>
  intro i xs s hm hi pe hit hd hf h;have bi:i=items.size:=by omega
  refine codeAny_builtin HZ ?_;rw[zb1 CN _];show wpAny _ A.in1 (pyNext (.ref I) >>= _) _ _ s;refine wpAny_bind (wpAny_pyNext_list_end (A:=A.in1) hh hit (hl.at λ o e=>hf l o iq c8 e) (by simp[bi]) λ h' eb=>?_);have hd2:=N9 hd hit λ b o hb e=>eb b o hb e;show wpAny _ A.in1 (Dict.addKeywords d [] >>= _) _ _ _;unfold Dict.addKeywords;refine wpAny_bind (wpAny_bind ?_);refine wpAny_pure (wpAny_pure (wpAny_pure ?_));have ed:ps.drop i=[]:=by rw[List.drop_eq_nil_iff];omega
  rw[ed] at h;exact h h' s.toks hd2 λ b o h1 h2 e=>eb b o h2 (hf b o h1 h2 e)
 |succ m ih =>
  intro i xs s hm hi pe hit hd hf h;have af:i<items.size:=by omega
  obtain⟨p,df⟩:∃p,ps[i]?=some p:=⟨ps[i]'(by omega),z4 _⟩;obtain⟨⟨p1,p2,p3⟩,t,ht,t1,t2,t3⟩:=hp i p df;refine codeAny_builtin HZ ?_;rw[zb1 CN _];show wpAny _ A.in1 (pyNext (.ref I) >>= _) _ _ s;refine wpAny_bind (wpAny_pyNext_list_item (A:=A.in1) hit (hl.at λ o e=>hf l o iq c8 e) ht λ h' aI sb=>?_);have hd2:h'.DictOfH (tupleKind knd) d xs:=N9 hd hit λ b o hb e=>(sb.2 b hb).trans e;have ir:∀b o,b≠d->b≠I->h0.get? b=some o->h'.get? b=some o:=λ b o h1 h2 e=>(sb.2 b h2).trans (hf b o h1 h2 e);have t4:IsTup h' t #[.ref p.2.1,p.2.2]:=by
   obtain⟨o,e1,e2⟩:=t3;exact⟨o,ir t o t1 t2 e1,e2⟩
  have p4:(tupleKind knd).is h' p.1 p.2.1:=by
   obtain⟨o,aa,n,e1,e2⟩:=p3;exact⟨o,aa,n,ir _ o p1 p2 e1,e2⟩
  dsimp only;refine wpAny_bind (wpAny_holding (wpAny_bind (wpAny_tryCatch (Pp t4 ?_))));show wpAny _ A.in1 (holding [.ref p.2.1,p.2.2] (dictSet d (.ref p.2.1) p.2.2)) _ _ _;refine wpAny_holding (wpAny_dictSet_heap (knd:=tupleKind knd) (hsz:=by omega) ck p4 hd2 λ h3 gx jv=>?_);refine wpAny_pure ⟨plainId_quiet CN _,?_⟩;have gy:h3.IsListIter I l (i+1):=by
   obtain⟨o,e1,e2⟩:=aI;exact⟨o,(jv.2 I (zac pd)).trans e1,e2⟩
  have ed:ps.drop i=p::ps.drop (i+1):=by
   rw[zbi (by omega:i<ps.length)];rw[z4 (by omega:i<ps.length)] at df;rw[zT df]
  rw[ed,zP] at h;have gw:(storedH xs p.1 p.2.1 p.2.2).length<=i+1:=by
   unfold storedH;split
   ·rw[zu];omega
   ·rw[zW,zav];omega
  have q:=ih (i+1) (storedH xs p.1 p.2.1 p.2.2) {s with heap:=h3,toks:=s.toks+(tupleKind knd).draws p.1} (by omega) (by omega) gw gy gx (λ b o h1 h2 e=>(jv.2 b h1).trans (ir b o h1 h2 e)) h;exact q
def LX {K:Type}[DecidableEq K]{knd:KeyKind prog w K}{Q:Value->Shared->Prop}{l:Addr}{items:Array Value}{n:Nat}{sl:Array (Option Value)}(ps:List (List K×Addr×Value))(hh:A.handled=none)(ck:A.units+2<cLine)
 (ju:ps.length=items.size) (hsz:items.size+1<=sizeLine) (hl:s.heap.get? l=some {cls:=.type "list",data:=.seq items n,slots:=sl})
 (hp:∀(j:Nat) p,ps[j]?=some p->(tupleKind knd).is s.heap p.1 p.2.1/\∃t,items[j]?=some (.ref t)/\IsTup s.heap t #[.ref p.2.1,p.2.2])
 (h:∀h' tk,h'.DictOfH (tupleKind knd) s.heap.objs.size (ps.foldl (λ acc p=>storedH acc p.1 p.2.1 p.2.2) [])->(∀b o,s.heap.get? b=some o->h'.get? b=some o)->Q (.ref s.heap.objs.size) {s with heap:=h',toks:=tk}):
 wpAny (model prog w) A (call (.type "dict") [.ref l]) Q E s:=by
 refine callType_codes (Q₁:=λ obj s₁=>obj=.ref s.heap.objs.size/\s₁={s with heap:=s.heap.push {cls:=.type "dict",data:=.dict #[]} }) PySem.F.kt_called_dict (PySem.F.kt_typeCall_dict_1 _) PySem.F.entry_dict_init
  (kt_code_dict_new _ ⟨rfl,rfl⟩) λ obj s₁ h₁=>?_
 obtain⟨rfl,rfl⟩:=h₁;have hS:(s.heap.push {cls:=.type "dict",data:=.dict #[]}).get? s.heap.objs.size=some {cls:=.type "dict",data:=.dict #[]}:=zN _ rfl;have ll:l<s.heap.objs.size:=zD hl;have bY:(s.heap.push {cls:=.type "dict",data:=.dict #[]}).get? l=some {cls:=.type "list",data:=.seq items n,slots:=sl}:=z6 _ hl;refine⟨⟨_,hS,rfl⟩,PySem.F.args_dict_init_2 _ _,?_⟩;have TD:Looks (model prog w) (s.heap.push {cls:=.type "dict",data:=.dict #[]}) (typeOf (.ref s.heap.objs.size)) (.type "dict"):=(Looks.ld hS).andThen .now;have TL:Looks (model prog w) (s.heap.push {cls:=.type "dict",data:=.dict #[]}) (typeOf (.ref l)) (.type "list"):=(Looks.ld bY).andThen .now;unfold Builtin.«dict.__init__» Dict.selfAndRest Dict.notOrdered;dsimp only;rw[if_pos (by decide)];refine wpAny_bind (wpAny_bind (wpAny_bind (TD.at ?_)));rw[if_neg (by decide)];refine wpAny_pure ?_;unfold Dict.addrOf;refine wpAny_bind (wpAny_pure (wpAny_pure ?_));unfold Dict.updateCommon Dict.updateFrom;dsimp only;refine wpAny_bind (TL.at ?_);rw[if_pos (by decide)];refine wpAny_bind (Ln (A:=A.in1.in1) hh bY λ h2 v4 gz=>?_);rw[if_pos (show (none:Option Value).isNone=true from rfl)];refine wpAny_bind (wpAny_rule ?_);have a7:h2.IsList l items:=⟨_,gz _ _ bY,rfl,n,rfl⟩;have jw:=gz _ _ hS;refine wpAny_bind (wpAny_pyIter_list a7 ?_);refine wpAny_pure ⟨plainId_quiet CN _,?_⟩;have lz:s.heap.objs.size<h2.objs.size:=zD jw;have pf:∀b o,s.heap.get? b=some o->(h2.push {cls:=.type "list_iterator",data:=.fields #[.ref l,.int 0 0]}).get? b=some o:=λ b o e=>z6 _ (gz _ _ (z6 _ e));have gx:(h2.push {cls:=.type "list_iterator",data:=.fields #[.ref l,.int 0 0]}).DictOfH (tupleKind knd) s.heap.objs.size []:=
  ⟨_,#[],0,z6 _ jw,⟨rfl,rfl,rfl⟩,rfl,rfl,λ x hx=>absurd hx List.not_mem_nil,zax⟩
 have af:∀b o,s.heap.get? b=some o->b≠s.heap.objs.size/\b≠h2.objs.size:=λ b o e=>by
  have:=zD e;exact⟨zM this,zM (Nat.lt_trans this lz)⟩
 refine UG (A:=A.in1) (knd:=knd) (l:=l) (h0:=s.heap) ps hh ck (zM (Nat.lt_trans ll lz)) (zM lz) (zM ll) ju hsz ⟨_,hl,rfl,n,rfl⟩ (λ j p hj=>?_) items.size 0 [] _ (by omega) (by omega) (by simp) ⟨_,zN _ rfl,rfl,rfl⟩ gx (λ b o h1 ge e=>pf b o e) λ h' tk bq ph=>?_
 ·obtain⟨q1,t,q2,q3⟩:=hp j p hj;obtain⟨o1,_,_,e1,_⟩:=id q1;obtain⟨o2,e2,_⟩:=id q3;exact⟨⟨(af _ _ e1).1,(af _ _ e1).2,q1⟩,t,q2,(af _ _ e2).1,(af _ _ e2).2,q3⟩
 ·exact⟨rfl,h h' tk bq λ b o e=>ph b o (af _ _ e).1 (af _ _ e).2 e⟩
end
structure Xo where
 (t:Addr) (κ:List Key) (b:Addr) (v:V)
abbrev jA (H:Hp)(p:Xo):Prop:=H p.t=some (.tup [.ref p.b,p.v])/\H p.b=some (.tup (p.κ.map kV))
abbrev vI (ps:List Xo):List (List Key×V):=ps.foldl (λ acc p=>putK acc p.κ p.v) []
abbrev yX (X:Cx)(te:TE):TE:=λ σ H Q=>te σ H λ x H1=>∃(l:Addr) (ps:List Xo),x=.ref l/\D7 X.K H1 l (ps.map λ p=>V.ref p.t)/\(∀p∈ps,jA H1 p)/\ps.length<=1000/\∀r,H1 r=none->Q (.ref r) (upd H1 r (.dT (vI ps)))
def Sz:∀ {ps:List Xo}{us:List Value},Vals (ps.map λ p=>V.ref p.t) us->us=ps.map λ p=>zad p.t
 |[],_,.nil=>rfl
 |p::ps,_,.cons h t=>by
  cases h;rw[zx,<-Sz t]
def lE {H:Hp}:∀ {ps:List Xo}{qs:List (List Key×Addr×Value)}{kvs:List (List Key×V)}{xs:List (List Key×Addr×Value)},(∀p∈ps,jA H p)->Paired (λ(p:Xo) (q:List Key×Addr×Value)=>p.κ=q.1/\p.b=q.2.1/\RelV p.v q.2.2) ps qs->KT H kvs xs->KT H (ps.foldl (λ acc p=>putK acc p.κ p.v) kvs) (qs.foldl (λ acc p=>storedH acc p.1 p.2.1 p.2.2) xs)
 |[],_,_,_,_,.nil,h=>h
 |p::ps,_,_,_,ho,.cons (b:=q) hq t,h=>by
  obtain⟨q1,q2,q3⟩:=q;obtain⟨e1,e2,e3⟩:=hq;dsimp only at e1 e2 e3;subst e1 e2;have r:=lE (ps:=ps) (λ p' hp=>ho p' (zw _ hp)) t (h.put p.κ (ho p zv).2 e3);exact r
def ZI:∀(ps:List Xo) (kvs:List (List Key×V)),(ps.foldl (λ acc p=>putK acc p.κ p.v) kvs).length<=kvs.length+ps.length
 |[],kvs=>zF _
 |p::ps,kvs=>by
  have h1:=ZI ps (putK kvs p.κ p.v);have h2:=Ds kvs p.κ p.v;rw[zP,z7];omega
def W9 {h:Heap}{H:Hp}{P:Program}{w:World}(ok:Gi P w H h):∀ {ps:List Xo},(∀p∈ps,jA H p)->∃qs:List (List Key×Addr×Value),Paired (λ(p:Xo) (q:List Key×Addr×Value)=>p.κ=q.1/\p.b=q.2.1/\RelV p.v q.2.2) ps qs/\
 ∀(j:Nat) q,qs[j]?=some q->(tupleKind (B6 P w)).is h q.1 q.2.1/\∃t,(ps.map λ p=>zad p.t)[j]?=some (.ref t)/\IsTup h t #[.ref q.2.1,q.2.2]
 |[],_=>⟨[],.nil,λ j q e=>by simp at e⟩
 |p::ps,ho=>by
  obtain⟨qs,h1,h2⟩:=W9 ok λ p hp=>ho p (zw _ hp);obtain⟨o1,o2⟩:=ho p zv;obtain⟨_,aa,r,it⟩:=(show BQ P w H h p.t (.tup [.ref p.b,p.v]) from ok p.t _ o1);obtain⟨u,v,rfl,ru,rv⟩:=r.two;cases ru;refine⟨(p.κ,p.b,v)::qs,.cons ⟨rfl,rfl,rv⟩ h1,λ j q e=>?_⟩;cases j with
  |zero =>
   rw[zaw] at e;cases e;exact⟨IJ ok o2,p.t,by simp,it⟩
  |succ j =>
   rw[za0] at e;obtain⟨a1,t,a2,a3⟩:=h2 j q e;exact⟨a1,t,by simpa using a2,a3⟩
section
variable {X:Cx}{WX:Str->Hp->Prop}{c:Bool}{P0:Eb}{P:Addr->Prop}{H:Hp}{σ:St}{ρ:Ae}{a b e:Expr}{f g:Ae->M D}{fn:Ae->M OT}{pos:Pos}{te:TE}
def ZJ {p:Pos}{n:Nat}(hc:X.calm=true)(hu:X.A.units+n<cLine)(hg:Gl X "dict")(hm:X.mg "dict" = none)(he:PE X e te)(hv:bootBuiltins "dict" = some (.type "dict"):=by decide +kernel)(hs: ~~~(starEach [e] X.env=[(false,eval e X.env)]))(hn:2<=n:=by decide):
 PE X (.Call (.Name "dict" p) [e] [] pos) (yX X te):=by
 intro pins s σ H Q I h;refine wpAny_Call_Name_kw (Dz I hg hm hv ?_);refine zai ?_ hs;rw[hs];refine zbh (Bk (he pins s σ H _ I h) λ u s1 zz=>?_);obtain⟨x,H1,I1,r1,q1⟩:=zz;obtain⟨l,ps,rfl,hq,ho,hlen,q⟩:=q1;cases r1;refine zbn ?_;obtain⟨aa,r',pl,hz⟩:=I1.list hq;have hits:=Sz r';subst hits;obtain⟨⟨pi,jx,jy,g7⟩,n0,o1,o2,o3,o4⟩:=pl;dsimp only at o2 o3 o4;subst o2 o3 o4;obtain⟨qs,h1,h2⟩:=W9 I1.Ar ho;refine LX (knd:=B6 X.prog X.w) qs (I1.ok.hd hc) (by omega) (by rw[z9,zu,<-h1.length]) (AA (by rw[z9,zu];omega)) o1 (λ j p hj=>?_) λ h' tk hd kp=>?_
 ·obtain⟨a1,t,a2,a3⟩:=h2 j p hj;exact⟨a1,t,by rw[List.getElem?_toArray];exact a2,a3⟩
 ·have pk:=lE ho h1 (show KT H1 [] [] from .nil);have d6:s1.heap.objs.size<=s1.heap.objs.size:=zF _;have bD:=I1.Ar.fresh d6;have pq:=ZI ps [];obtain⟨o,es,ep,g1,g2,g3,g4,g5,g6⟩:=hd;refine⟨.ref _,_,I1.laid (t':=tk) (o:=.dT (vI ps)) kp d6 ⟨zam (AA (by unfold vI;simp at pq;omega)),beq_eq_false_iff_ne.mpr (zac (zM I1.big)),_,pk.keeps (λ b ys eb=>by rw[Ai (λ z=>by rw[z,bD] at eb;cases eb)];exact eb),o,es,ep,g1,g2,g3,g4,g6⟩,rfl,q _ bD⟩
abbrev QC:List D->Option (List (D×D))
 |[]=>some []
 | .tup [k,v]::r=>(QC r).map ((k,v)::·)
 |_=>none
abbrev lF (l:List (D×D)):List D×List D:=l.foldl (λ z kv=>putD z.1 z.2 kv.1 kv.2) ([],[])
abbrev jB (d:D):M OT:=match d with
 | .lst xs=>(match QC xs with|some l=>if l.length<=1000/\(l.all λ kv=>keyOk true kv.1)=true then .ok (.Bo true (lF l).1 ((lF l).2.map .sh)) else .bad|none=>.bad)
 |_=>.bad
def Wa {K:zr}{H:Hp}{P:Addr->Prop}:∀ {xs:List V}{ds:List D}{l:List (D×D)},Ah K (del H P) xs ds->QC ds=some l->(l.all λ kv=>keyOk true kv.1)=true->
 ∃ps:List Xo,xs=ps.map (λ p=>V.ref p.t)/\(∀p∈ps,jA H p)/\Paired (λ(p:Xo) (kv:D×D)=>kv.1=.tup (p.κ.map Ct)/\BX K (del H P) p.v kv.2) ps l
 |_,[],l,.nil,e,_=>by cases e;exact⟨[],rfl,λ p hp=>(by cases hp),.nil⟩
 |_,d::ds,l,.cons hd ht,e,hk=>by
  unfold QC at e;split at e
  ·rename_i bj;cases bj
  ·rename_i k v r bj;cases bj;obtain⟨l',e1,e2⟩:=zaq.mp e;subst e2;rw[zc8,zZ] at hk;obtain⟨ps,q1,q2,q3⟩:=Wa ht e1 hk.2;have hK:=Eh hk.1;cases hK with
   |t κ =>
    cases hd with
    |tup h1 h2 =>
     obtain⟨x,y,rfl,hx,hy⟩:=h2.two;cases hx with
     |tup g1 g2 =>
      rename_i tt bb d0;have ey:=Ah.keys κ g2;subst ey;refine⟨⟨tt,κ,bb,y⟩::ps,by rw[zx,q1],λ p hp=>?_,.cons ⟨rfl,hy⟩ q3⟩;rcases zB.mp hp with rfl|hp
      ·exact⟨(An h1).2,(An g1).2⟩
      ·exact q2 p hp
  ·cases e
def ZK {K:zr}{H:Hp}{P:Addr->Prop}:∀ {ps:List Xo}{l:List (D×D)}{kvs:List (List Key×V)}{vs:List D},Paired (λ(p:Xo) (kv:D×D)=>kv.1=.tup (p.κ.map Ct)/\BX K (del H P) p.v kv.2) ps l->Ah K (del H P) (kvs.map zay) vs->
 ∃aG,l.foldl (λ z kv=>putD z.1 z.2 kv.1 kv.2) (kvs.map (λ kv=>D.tup (kv.1.map Ct)),vs)=((ps.foldl (λ acc p=>putK acc p.κ p.v) kvs).map (λ kv=>D.tup (kv.1.map Ct)),aG)/\Ah K (del H P) ((ps.foldl (λ acc p=>putK acc p.κ p.v) kvs).map zay) aG
 |[],_,kvs,vs,.nil,h=>⟨vs,rfl,h⟩
 |p::ps,_,kvs,vs,.cons (b:=kv) hq t,h=>by
  obtain⟨k,d⟩:=kv;obtain⟨e1,e2⟩:=hq;dsimp only at e1 e2;subst e1;have hf:∀a b:List Key,Bl (.tup (a.map Ct)) (.tup (b.map Ct))=decide (a=b):=λ a b=>by simp only[Bl];exact M7 a b
  have aT:∃aG,(putD (kvs.map λ kv=>.tup (kv.1.map Ct)) vs (.tup (p.κ.map Ct)) d)=((putK kvs p.κ p.v).map (λ kv=>.tup (kv.1.map Ct)),aG)/\Ah K (del H P) ((putK kvs p.κ p.v).map zay) aG:=by
   unfold putD putK;rw[Jx (fk:=λ κ:List Key=>D.tup (κ.map Ct)) hf];by_cases hh:(kvs.any λ kv=>decide (kv.1=p.κ))=true
   ·rw[if_pos hh,if_pos hh];refine⟨_,by rw[GO (fk:=λ κ:List Key=>D.tup (κ.map Ct)) hf],?_⟩;rw[<-GN (fk:=λ κ:List Key=>D.tup (κ.map Ct)) hf];exact GP e2 h
   ·rw[if_neg hh,if_neg hh];refine⟨_,by rw[zK];rfl,?_⟩;rw[zK];exact h.snoc e2
  obtain⟨v6,g1,g2⟩:=aT;obtain⟨pw,g3,g4⟩:=ZK t g2;refine⟨pw,?_,g4⟩;rw[zP];dsimp only;rw[g1];exact g3
def SA {p:Pos}{n:Nat}(hc:X.calm=true)(hu:X.A.units+n<cLine)(hg:Gl X "dict")(hm:X.mg "dict" = none)(he:DE X WX true e f)(hv:bootBuiltins "dict" = some (.type "dict"):=by decide +kernel)(hs: ~~~(starEach [e] X.env=[(false,eval e X.env)]))(hn:2<=n:=by decide):
 DN X WX (.Call (.Name "dict" p) [e] [] pos) (λ ρ=>(f ρ).bind jB):=by
 obtain⟨te,e1,e2⟩:=he;refine⟨_,ZJ hc hu hg hm e1 hv hs hn,λ P0 P σ H Q ρ E h=>?_⟩;refine e2 P0 P σ H _ ρ E ?_;dsimp only at h;refine Yc h λ d h=>?_;intro v H1 s1 hv;unfold jB at h;split at h
 ·rename_i xs;split at h
  ·rename_i l eb;split at h
   ·rename_i hl;cases hv with
    |lst hs hh =>
     obtain⟨ps,q1,q2,q3⟩:=Wa hh eb hl.2;subst q1;obtain⟨aG,g1,g2⟩:=ZK (kvs:=[]) q3 .nil;refine⟨_,ps,rfl,hs.AY,q2,by rw[q3.length];exact hl.1,λ r hr=>?_⟩;have e3:lF l=((vI ps).map (λ kv=>D.tup (kv.1.map Ct)),aG):=g1;rw[e3] at h;have br:∀a∈[r],H1 a=none:=λ a ha=>by rw[zy.mp ha];exact hr
     exact h _ [r] _ (s1.trans (AN hr _)) (λ a ha=>DZ s1 (br a ha)) (by simp) (.dT Ap (g2.mono (Cu (AN hr _) br)).ows)
   ·exact h.elim
  ·exact h.elim
 ·exact h.elim
end
open PySem PySem.Spec PyProof.Rows
section
variable {X:Cx}{WX:Str->Hp->Prop}{c:Bool}{P0:Eb}{P:Addr->Prop}{H:Hp}{σ:St}{ρ:Ae}{a b e:Expr}{f g:Ae->M D}{fn:Ae->M OT}{pos:Pos}{te:TE}
abbrev ZL (x y:D):M D:=match x,y with
 | .tup xs,.tup ys=>(match CS xs,CS ys with|some ns,some ms=>.ok (.bl (HT.lexLt ns ms))|_,_=>.bad)
 |_,_=>.bad
def Wb:VC X.K WX (sH X.K) ZL:=by
 intro P H x y v w Q ht hx hy h;unfold ZL at h;split at h
 ·rename_i xs ys;split at h
  ·rename_i ns ms e1 e2;have:=Fb e1;subst this;have:=Fb e2;subst this;cases hx with
   |tup h1 h2 =>
    cases hy with
    |tup h3 h4 =>
     have:=Ee h2;subst this;have:=Ee h4;subst this;exact⟨_,_,ns,ms,rfl,rfl,EC.of (An h1).2,EC.of (An h3).2,h _ H (Ad.refl H) (.bl _)⟩
  ·exact h.elim
 ·exact h.elim
def xC {n:Nat}(hu:X.A.units+n<cLine)(ha:DE X WX c a f)(hb:DE X WX c b g):DE X WX c (.Compare a [.Lt] [b] pos) (λ ρ=>(f ρ).bind λ x=>(g ρ).bind λ y=>ZL x y):=YW (YI (by omega)) Wb ha hb (IG _)
def ZM {n:Nat}(hu:X.A.units+n<cLine)(ha:DE X WX c a f)(hb:DE X WX c b g):DT X WX (.Compare a [.Lt] [b] pos) (λ ρ=>((f ρ).bind λ x=>(g ρ).bind λ y=>ZL x y).bind OX):=Fu (YI (by omega)) Wb ha hb (IG _)
def ZN (hk:DE X WX true a f)(hv:DE X WX true b g):DN X WX (.Dict [some a] [b] pos) (λ ρ=>(f ρ).bind λ k=>(g ρ).bind λ v=>if keyOk false k=true then .ok (.Bo false [k] [.sh v]) else .bad):=by
 obtain⟨tk,k1,k2⟩:=hk;obtain⟨tv,v1,v2⟩:=hv;refine⟨_,fN (YO k1 v1 fM) rfl rfl (by simp) (by simp),λ P0 P σ H Q ρ E h p hp=>?_⟩;dsimp only at h;have hn:∀a∈[p],H a=none:=λ a ha=>by rw[zy.mp ha];exact hp
 have s0:Ad H (upd H p (.dK [])):=AN hp _;have E1:Am X.K P0 (PU P [p]) (upd H p (.dK [])) σ ρ:=E.more s0 KQ (λ a ha=>ha.elim (λ z=>(E.C8 a z).same s0) λ z=>by
  rw[zy.mp z];exact⟨_,Ap,λ _=>⟨λ z=>(by cases z),λ _ z=>by cases z⟩⟩) (Cu s0 hn)
 refine k2 P0 (PU P [p]) σ _ _ ρ E1 ?_;cases q:f ρ with
 |bad=>rw[q] at h;exact h
 |ex x=>rw[q] at h;exact λ H' s=>h H' (s0.trans s)
 |ok k =>
  rw[q] at h;simp only[M.A9] at h;intro y H2 s2 hy;have E2:=E1.same s2;refine v2 P0 (PU P [p]) σ H2 _ ρ E2 ?_;cases q2:g ρ with
  |bad=>rw[q2] at h;exact h
  |ex x=>rw[q2] at h;exact λ H' s=>h H' ((s0.trans s2).trans s)
  |ok d =>
   rw[q2] at h;simp only[M.A9] at h;intro w H3 s3 hw;by_cases hc:keyOk false k=true
   ·rw[if_pos hc] at h;have hK:=Eh hc;cases hK with
    |k κ =>
     have ey:=hy.hV;subst ey;refine⟨s3 _ _ (s2 _ _ Ap),[(κ,w)],rfl,by simp,?_⟩;have s4:Ad H (upd H3 p (.dK (Gy [] [(κ,w)]))):=λ a o ha=>by
      rw[Ai (λ z=>by rw[z,hp] at ha;cases ha)];exact s3 _ _ (s2 _ _ (s0 _ _ ha))
     have s5:Ad (del H3 (PU P [p])) (del (upd H3 p (.dK (Gy [] [(κ,w)]))) (PU P [p])):=λ a o ha=>by
      obtain⟨n1,n2⟩:=An ha;rw[Au n1,Ai (λ z=>n1 (.inr (by rw[z];exact zy.mpr rfl)))];exact n2
     refine h _ [p] _ s4 hn (by simp) ?_;have e1:Gy [] [(κ,w)]=[(κ,w)]:=rfl;rw[e1] at s5 ⊢;exact .dK (kvs:=[(κ,w)]) Ap (.cons (.sh (hw.mono s5)) .nil)
   ·rw[if_neg hc] at h;exact h.elim
abbrev Pq (x:D)(m:M D):M D:=match x with
 | .Bo b ks vs=>m.bind λ y=>if keyOk b y=true then .ok ((Gj ks vs y).getD .AL) else .bad
 |_=>.bad
def jC {K:zr}{v:V}{bb:Bool}{ks vs:List D}{P:Addr->Prop}(h:BX K (del H P) v (.Bo bb ks vs)):∃a,v=.ref a/\wO H a:=by
 cases h with
 |Vw h1 h2=>exact⟨_,rfl,.inl ⟨_,h1.AY⟩⟩
 |Vx h1 h2=>exact⟨_,rfl,.inr ⟨_,h1.AY⟩⟩
def Na {n:Nat}{o k:Expr}{apos ad:Pos}(hu:X.A.units+n<cLine)(ha:DE X WX c o f)(hb:DE X WX c k g)(m:M1 X o "get" apos k ad:=by exact⟨rfl,rfl,rfl,rfl⟩)(hn:1<=n:=by decide):
 DE X WX c (.Call (.Attribute o "get" apos) [k] [] ad) (λ ρ=>(f ρ).bind λ x=>Pq x (g ρ)):=by
 obtain⟨ta,a1,a2⟩:=ha;obtain⟨tb,b1,b2⟩:=hb;refine⟨_,YQ (by omega) a1 b1 m,λ P0 P σ H Q ρ E h=>?_⟩;dsimp only at h;refine a2 P0 P σ H _ ρ E ?_;refine Yc h λ x h=>?_;intro v H1 s1 hv;unfold Pq at h;split at h
 ·rename_i bb ks vs;obtain⟨a,rfl,hD⟩:=jC hv;refine⟨a,rfl,hD,b2 P0 P σ H1 _ ρ (E.same s1) ?_⟩;cases e2:g ρ with
  |bad=>rw[e2] at h;exact h
  |ex y=>rw[e2] at h;exact gV.same (m:=.ex y) h s1
  |ok y =>
   rw[e2] at h;simp only[M.A9] at h;intro w H2 s2 hw;by_cases hk:keyOk bb y=true
   ·rw[if_pos hk] at h;obtain⟨a',xs,ea,g',hl,br⟩:=Qv (hv.mono s2.del) hw (Eh hk);cases ea;refine⟨_,g',?_⟩;refine gV.same (gV.same h s1) s2 _ H2 (Ad.refl _) ?_;cases eg:Gj ks vs y with
    |none =>
     have:Gj ks xs y=none:=by
      cases v7:Gj ks xs y with
      |none=>rfl
      |some z =>
       have h1:=HI (xs:=xs) (y:=y) br;have h2:=HI (ks:=ks) (xs:=vs) (y:=y) (by rw[<-hl.length,br]);rw[h1,v7,eg] at h2;cases h2
     rw[this];exact .AL
    |some d =>
     obtain⟨x,e3,e4⟩:=N2 hl eg;rw[e3];exact e4
   ·rw[if_neg hk] at h;exact h.elim
 ·exact h.elim
end
abbrev yD (K:zr)(a:Addr)(n:Nat):It:=
 ⟨λ i H=>∃xs x,D7 K H a xs/\xs.length=n/\i<n/\xs[n-1-i]?=some x,λ i H x H'=>H'=H/\∀xs,D7 K H a xs->xs[n-1-i]?=some x,λ i H=>∃xs,D7 K H a xs/\xs.length=n/\n<=i⟩
def ZO {h:Heap}{it a:Addr}{i:Int}{xs:Array Value}(h1:h.IsRevIter it a i)(h2:h.IsList a xs):a≠it:=λ z=>by
 subst z;obtain⟨o,e1,e2,_⟩:=h1;obtain⟨o2,e3,e4,_⟩:=h2;rw[e1] at e3;cases e3;rw[e2] at e4;exact absurd (Value.type.inj e4) (by decide)
def ZP {P:Program}{w:World}{K:zr}{tg:Expr}(a it:Addr)(n:Nat):Turn P w K tg (yD K a n) [it] it (λ i h=>i<=n/\h.IsRevIter it a ((n:Int)-1-i)) where
 mem:=by simp
 obj:=λ i h st b hb=>by
  have e:b=it:=by simpa using hb
  subst e;obtain⟨_,o,e,c,d⟩:=st;exact⟨o,e,λ v z=>by rw[d] at z;cases z⟩
 keep:=λ i h h' st k=>⟨st.1,st.2.at λ o e=>k it (by simp) o e⟩
 item:=by
  intro X hP hw hK hc i pins s σ H E I hf st hg;subst hP hw hK;obtain⟨xs,x,hq,pz,bi,hx⟩:=hg;obtain⟨aa,rv,p,hz⟩:=I.list hq;obtain⟨u,hu,ru⟩:=rv.get hx;obtain⟨f0,f1,f2,f3,f4,f5⟩:=hf it (by simp);have hl:=rv.length;have p6:aa.toArray.size=n:=by rw[z9,<-hl,pz]
  have W:=Walks.listRev (prog:=X.prog) (w:=X.w) (A:=X.A) (I.ok.hd hc) it a (ZO st.2 p.isList) aa.toArray;rw[p6] at W;refine W.item i s _ _ bi ⟨st.1,st.2,p.isList⟩ λ v h' tk hv bM kp=>?_;have ev:v=u:=by
   rw[List.getElem?_toArray,hu] at hv;exact (zT hv).symm
  subst ev;have I1:Inv X pins σ H {s with heap:=h',toks:=tk}:=I.turned (t':=tk) (λ b o hb e=>kp b o (by simpa using hb) e) f0 f1 f3 f4 f5;obtain⟨o,e,c,d⟩:=id bM.2.1;exact⟨v,rfl,Yu (s:={s with heap:=h',toks:=tk}) e c d (by decide) ⟨x,H,I1,ru,⟨rfl,λ ys hy=>by rw[I.Gs hy hq];exact hx⟩,⟨bM.1,bM.2.1⟩,λ b hb=>(hf b hb).1⟩⟩
 done:=by
  intro X hP hw hK hc i pins s σ H E I hf st hg;subst hP hw hK;obtain⟨xs,hq,pz,bi⟩:=hg;obtain⟨aa,rv,p,hz⟩:=I.list hq;obtain⟨f0,f1,f2,f3,f4,f5⟩:=hf it (by simp);have hl:=rv.length;have p6:aa.toArray.size=n:=by rw[z9,<-hl,pz]
  have W:=Walks.listRev (prog:=X.prog) (w:=X.w) (A:=X.A) (I.ok.hd hc) it a (ZO st.2 p.isList) aa.toArray;rw[p6] at W;have v8:i=n:=Nat.le_antisymm st.1 bi;subst v8;exact W.done s _ _ ⟨st.1,st.2,p.isList⟩ λ h' tk kp=>⟨rfl,I.turned (t':=tk) (λ b o hb e=>kp b o (by simpa using hb) e) f0 f1 f3 f4 f5⟩
 self:=λ _ _ _ _ _ st h=>wpAny_pyIter_revIter st.2 h
section
variable {X:Cx}{WX:Str->Hp->Prop}{tg a:Expr}{f:Ae->M D}{pos p:Pos}{te:TE}
abbrev xD (K:zr)(ta:TA):TI:=λ σ H R=>ta σ H λ vs H1=>∃a xs,vs=[.ref a]/\D7 K H1 a xs/\R (yD K a xs.length) H1
def oW {ta:TA}(hg:Gl X "reversed")(hm:X.mg "reversed" = none)(ha:PA X [a] ta)(hb:bootBuiltins "reversed" = some (.type "reversed"):=by decide +kernel)(hs: ~~~(starEach [a] X.env=[(false,eval a X.env)])):
 PI X tg (.Call (.Name "reversed" p) [a] [] pos) (xD X.K ta):=by
 intro pins s σ H R I h;refine Call_ (Dz I hg hm hb (zai (Bk (ha pos pins s σ H _ I h) λ us s1 zz=>?_) hs rfl));obtain⟨vs,H1,I1,r1,q1⟩:=zz;obtain⟨j,xs,e,hq,q⟩:=q1;subst e;cases r1 with
 |cons r rr =>
  cases rr;cases r;obtain⟨aa,rv,p,hz⟩:=I1.list hq;have hl:=rv.length;refine call_reversed_list p.isList ?_;have hit:(s1.heap.push (revObj j ((aa.toArray.size:Int)-1))).IsRevIter s1.heap.objs.size j ((xs.length:Int)-1-(0:Nat)):=by
   rw[z9,<-hl];exact⟨_,zN _ rfl,rfl,by simp[revObj]⟩
  refine wpAny_pyIter_revIter (s:={s1 with heap:=s1.heap.push (revObj j ((aa.toArray.size:Int)-1))}) hit ?_;refine⟨s1.heap.objs.size,[s1.heap.objs.size],_,_,H1,rfl,I1.kept (t':=s1.toks) λ b o e=>z6 _ e,ZP j _ xs.length,⟨za6 _,hit⟩,λ b hb=>?_,q⟩;have e:b=s1.heap.objs.size:=by simpa using hb
  subst e;exact I1.Yt (zF _) (I1.Ar.fresh (zF _))
def ZQ (hg:Gl X "reversed")(hm:X.mg "reversed" = none)(ha:DE X WX true a f)(hb:bootBuiltins "reversed" = some (.type "reversed"):=by decide +kernel)(hs: ~~~(starEach [a] X.env=[(false,eval a X.env)])):
 DI X WX tg (.Call (.Name "reversed" p) [a] [] pos) (λ ρ=>(f ρ).bind λ d=>match d with | .lst ds=>.ok ds.reverse|_=>.bad):=by
 obtain⟨ta,a1,a2⟩:=ha;refine⟨_,oW hg hm (Bn a1 Cn hs) hb hs,λ P0 P σ H R ρ E h=>?_⟩;dsimp only at h;refine a2 P0 P σ H _ ρ E ?_;cases q:f ρ with
 |bad|ex x=>rw[q] at h;exact h
 |ok d =>
  rw[q] at h;cases d with
  |lst ds =>
   intro v H1 s1 hv;cases hv with
   | @lst a xs _ hs hl =>
    have hlen:=hl.length;refine⟨a,xs,rfl,hs.AY,h _ H1 s1 ⟨λ i P' H' s hi=>?_,λ i P' H' s hi=>?_,λ i P' H' v gh d s ht hd y=>?_⟩⟩
    ·rw[zao] at hi;obtain⟨x,hx,_⟩:=hl.get (z4 (show xs.length-1-i<ds.length by omega));exact⟨xs,x,(s.seq hs).AY,rfl,by omega,hx⟩
    ·rw[zao] at hi;exact⟨xs,(s.seq hs).AY,rfl,by omega⟩
    ·obtain⟨rfl,y⟩:=y;have af:=(zG.mp hd).1;rw[zao] at af;rw[List.getElem?_reverse af] at hd;obtain⟨x,hx,bq⟩:=hl.get hd;have e:=y xs (s.seq hs).AY;rw[hlen,hx] at e;cases e;exact⟨Ad.refl _,bq.mono s⟩
  |_=>exact h.elim
end
structure oX (K:zr)(x qual:Str)(st:Stmt)(f:Addr)(fd:FuncData):Prop where
 ex:∃(oc:Value) (od:Option Addr) (dV kV doc pm:Value) (an:Option Addr) (B7 ct:Value) (TR:Array (Option Value)),
  fd=zaj x qual (Bm st) (AO st) (A4 st) dV kV doc pm an B7 ct/\K.lookup f=some ⟨oc,od,.func fd,TR⟩/\zb5 K B7 qual=true
 kp:zah K (.ref f)=true
section
variable {P:Program}{w:World}{K:zr}{mg:Str->Option Value}{base:Heap}
def jD {x qual:Str}{st:Stmt}{f:Addr}{fd:FuncData}{N ps:List Str}{k:Nat}(F:oX K x qual st f fd)(S:Ac N ps (A4 st))(g:Ae->M Out)
 (hb:∀(B7:Value) (A:Around) (outer:List Env) (s:Shared) (H:Hp) (E:XK),BC k (A.deeper (envOfC qual (A4 st) s.heap.objs.size f B7))->TU (kY P w K mg base N qual (A4 st) f B7 A outer s H E) (D1 K E) (AO st) g):
 Dr P w K mg base (Ur P w base) (k+1) f fd ps (Pe K ps.length λ t aw=>Ei (g (D4 N t aw))):=by
 obtain⟨oc,od,dV,kV,doc,pm,an,B7,ct,TR,rfl,lk,bc⟩:=F.ex;refine Vo lk bc S (λ vs H Q E h=>h.1) λ A outer s H vs Q E hr h=>?_;obtain⟨hl,P',p,t,fp,rest,aw,rfl,ht,hp,nd,ho,hv,hq⟩:=h;obtain⟨tt,h1,h2⟩:=hb B7 A outer s H E hr;refine⟨tt,h1,h2 ⟨λ a=>P' a/\a∉fp,λ _=>p⟩ P' _ H _ _ (JB ht hp nd ho hv) ?_⟩;dsimp only at hq;revert hq;cases g (D4 N t aw) with
 |bad|ex x=>exact λ h=>h.elim
 |ok o =>
  have sub:∀ {P2:Addr->Prop} {H2:Hp} {σ2:St} {ρ:Ae},Am K ⟨λ a=>P' a/\a∉fp,λ _=>p⟩ P2 H2 σ2 ρ->∀a,P2 a/\¬ (P' a/\a∉fp)->P2 a/\(P' a->a∈fp):=λ E a ha=>⟨ha.1,λ z=>zbg λ w=>ha.2 ⟨z,w⟩⟩;cases o with
  |ret d|CO d=>exact λ h=>h.elim
  |next ρ =>
   intro hq σ' H' P2 t2 E2;unfold Ei at hq;dsimp only at hq;split at hq
   ·rename_i t' e;obtain⟨c,ag,k1,k2,k3,k4,k5,k6⟩:=M9 E2 e;exact hq .AL H' P2 ag [] (λ a ha hn=>⟨E2.sub a ⟨ha,hn⟩,t2.2 a ⟨ha,hn⟩⟩) E2.C8 t2.1 k4 k5 (.sh .AL) zax (λ a ha=>by cases ha) (λ a ha=>sub E2 a (k6 a ha)) (λ a ha=>by cases ha)
   ·exact hq.elim
  |F7 r ρ =>
   intro hq v fr σ' H' P2 t2 E2 o2 aV hf;unfold Ei at hq;dsimp only at hq;split at hq
   ·rename_i t' e;obtain⟨c,ag,k1,k2,k3,k4,k5,k6⟩:=M9 E2 e;exact hq v H' P2 ag fr (λ a ha hn=>⟨E2.sub a ⟨ha,hn⟩,t2.2 a ⟨ha,hn⟩⟩) E2.C8 t2.1 k4 k5 o2 aV (λ a ha=>(hf a ha).2.2 0 c _ ag k1 k2 k3) (λ a ha=>sub E2 a (k6 a ha)) (λ a ha=>sub E2 a ⟨(hf a ha).1,(hf a ha).2.1⟩)
   ·exact hq.elim
  |brk ρ|cont ρ=>exact λ h=>h.elim
end
def jE {K:zr}{x qual:Str}{st:Stmt}{f:Addr}{oc:Value}{od an:Option Addr}{TR:Array (Option Value)}{dV kV doc pm B7 ct:Value}(l:K.lookup f=some ⟨oc,od,.func (zaj x qual (Bm st) (AO st) (A4 st) dV kV doc pm an B7 ct),TR⟩)
 (c:zb5 K B7 qual=true) (k:zah K (.ref f)=true):oX K x qual st f (zaj x qual (Bm st) (AO st) (A4 st) dV kV doc pm an B7 ct):=⟨⟨oc,od,dV,kV,doc,pm,an,B7,ct,TR,rfl,l,c⟩,k⟩
structure Pr (P:Program)(w:World)(K:zr)(mg:Str->Option Value)(base:Heap)(x:Str)(k n:Nat)(F:OT->List D->M (OT×OT)):Prop where
 ex:∃C fa fd ps,oV K mg x C/\Mk K C fa/\Dr P w K mg base (Ur P w base) k fa fd ps (Pe K n F)/\Binds K fd ps []/\Binds K fd ps [.none]
def Pr.yY {P:Program}{w:World}{K:zr}{mg:Str->Option Value}{base:Heap}{x:Str}{k n:Nat}{F:OT->List D->M (OT×OT)}(G:Pr P w K mg base x k n F):tZ P w K mg base x k n F:=by
 obtain⟨C,fa,fd,ps,h1,h2,h3,h4,_⟩:=G.ex;exact⟨⟨C,fa,fd,ps,h1,h2,h3,h4⟩⟩
structure UH (K:zr)(mg:Str->Option Value)(x qual:Str)(st:Stmt)(ps:List Str):Prop where
 ex:∃C f fd,oV K mg x C/\Mk K C f/\oX K "__init__" qual st f fd/\Binds K fd ps []/\Binds K fd ps [.none]
def ZR {P:Program}{w:World}{K:zr}{mg:Str->Option Value}{base:Heap}{x qual:Str}{st:Stmt}{N ps:List Str}{k n:Nat}(T:UH K mg x qual st ps)(S:Ac N ps (A4 st))(g:Ae->M Out)(hb:∀(f:Addr) (B7:Value) (A:Around) (outer:List Env) (s:Shared) (H:Hp) (E:XK),BC k (A.deeper (envOfC qual (A4 st) s.heap.objs.size f B7))->TU (kY P w K mg base N qual (A4 st) f B7 A outer s H E) (D1 K E) (AO st) g)(hn: ~~~(ps.length=n)):
 Pr P w K mg base x (k+1) n (λ t aw=>Ei (g (D4 N t aw))):=by
 obtain⟨C,f,fd,h1,h2,F,hB⟩:=T.ex;subst hn;exact⟨⟨C,f,fd,ps,h1,h2,jD F S g (hb f),hB⟩⟩
section
variable {X:Cx}{E:XK}{WX:Str->Hp->Prop}{c:Bool}{e:Expr}{es:List Expr}{fs:Ae->M (List D)}{pos:Pos}{H:Hp}
def ZS {x:Str}{k n:Nat}{F:OT->List D->M (OT×OT)}{p:Pos}(xo:G8 X E)(G:Pr X.prog X.w X.K X.mg X.base x k n F)(hr:BC (k+1) X.A)(hg:Gl X x)(ha:DA X (D1 X.K E) true (e::es) fs)(aN:(e::es).length+2=n)(aS:(x==("__debug__" : Str))=false:=by decide)(he: ~~~(starEach (e::es) X.env=(false,eval e X.env)::starEach es X.env))(ao: ~~~((backTo pos (starEach es X.env)).any (·.1)=false)):
 DN X (D1 X.K E) (.Call (.Name x p) (e::es) [] pos) (λ ρ=>(fs ρ).bind λ ds=>Pn (F (.ins x [] []) (ds++[.AL]))):=by
 obtain⟨C,fa,fd,ps,hT,hM,hF,_,hb⟩:=G.ex;obtain⟨ta,a1,a2,a3⟩:=ha;refine⟨_,Vn hM hF hr hg hT.yC hb (show Vals [.AL] [.none] from .cons (show RelV .AL .none from rfl) .nil) xo.call a1 aS he ao,λ P0 P σ H Q ρ Ev h=>?_⟩;dsimp only at h;refine a2 P0 P σ H _ ρ Ev ?_;cases q:fs ρ with
 |bad|ex x=>rw[q] at h;exact h
 |ok ds =>
  rw[q] at h;simp only[M.A9] at h;intro vs H1 s1 a5 y dx hy hd ae;have E1:=Ev.same s1;have sm:=Pm (C:=C) hy hd;have bH:∀a∈[y],H1 a=none:=λ a ha=>by rw[zy.mp ha];exact hy
  refine⟨by rw[z7,zW,a5.length,a3 ρ ds q];exact aN,PU P [y],y,.ins x [] [],[y],vs++[.AL],ds++[.AL],rfl,λ a ha=>?_,λ a ha=>.inr ha,by simp,C7.ins (fs:=[]) hT.ns Ap .nil,(a5.mono (Cu sm bH)).append (.cons .AL .nil),?_⟩
  ·rcases ha with ha|ha
   ·exact (E1.C8 a ha).same sm
   ·rw[zy.mp ha];exact⟨_,Ap,λ xs=>⟨(λ z=>by cases z),(λ z w=>by cases w)⟩⟩
  ·cases q2:F (.ins x [] []) (ds++[.AL]) with
   |bad|ex z=>rw[q2] at h;exact h
   |ok tr =>
    obtain⟨t,r⟩:=tr;rw[q2] at h;simp only[Pn] at h;intro v H' P' ag fr k1 k2 k3 k4 k5 k6 k7 k8 k9 oy;cases r with
    |sh d =>
     cases d with
     |AL =>
      cases k6 with
      |sh hv =>
       cases hv;refine⟨rfl,h _ ag H' ?_ ?_ k5 ?_⟩
       ·intro b u eb;have e1:=s1 b u eb;have bI:b≠y:=λ z=>by rw[z,hy] at e1;cases e1
        have e2:=sm b u e1;by_cases hP:P b
        ·exact (k1 b (.inl hP) (by simp[bI])).2.trans e2
        ·exact (An (k3 b u (by rw[Au λ z=>z.elim hP λ w=>bI (zy.mp w)];exact e2))).2
       ·intro b jt;cases eb:H b with
        |none=>rfl
        |some u =>
         exfalso;have e1:=s1 b u eb;have bI:b≠y:=λ z=>by rw[z,hy] at e1;cases e1
         have e2:=sm b u e1;have hn:=λ z=>bI (zy.mp ((k9 b jt).2 z));exact (An (k3 b u (by rw[Au hn];exact e2))).1 (k9 b jt).1
       ·refine k4.move (λ b u eb=>?_) λ _ _=>rfl;obtain⟨g1,g2⟩:=An eb;rw[Au]
        ·exact g2
        ·rintro (z|z)
         ·have bI:b≠y:=λ w=>by
           obtain⟨o,e1,_⟩:=E1.C8 b z;rw[w,hy] at e1;cases e1
          exact g1 (k1 b (.inl z) (by simp[bI])).1
         ·exact g1 (k9 b z).1
     |_=>exact h.elim
    |_=>exact h.elim
end
def yZ {P:List Value->Prop}(h:P [])(us:List Value)(hl:us.length=0):P us:=by
 cases us with
 |nil=>exact h
 |cons _ _=>cases hl
def vJ {P:List Value->Prop}(h:∀a,P [a])(us:List Value)(hl:us.length=1):P us:=by
 cases us with
 |nil=>cases hl
 |cons a us=>exact yZ (P:=λ l=>P (a::l)) (h a) us (Nat.succ.inj hl)
def ln2 {P:List Value->Prop}(h:∀a b,P [a,b])(us:List Value)(hl:us.length=2):P us:=by
 cases us with
 |nil=>cases hl
 |cons a us=>exact vJ (P:=λ l=>P (a::l)) (λ b=>h a b) us (Nat.succ.inj hl)
def xE {P:List Value->Prop}(h:∀a b c,P [a,b,c])(us:List Value)(hl:us.length=3):P us:=by
 cases us with
 |nil=>cases hl
 |cons a us=>exact ln2 (P:=λ l=>P (a::l)) (λ b c=>h a b c) us (Nat.succ.inj hl)
def yE {P:List Value->Prop}(h:∀a b c d,P [a,b,c,d])(us:List Value)(hl:us.length=4):P us:=by
 cases us with
 |nil=>cases hl
 |cons a us=>exact xE (P:=λ l=>P (a::l)) (λ b c d=>h a b c d) us (Nat.succ.inj hl)
def AQ {K:zr}{mg:Str->Option Value}{h:Heap}{x:Str}{st:Stmt}{ps:List Str}(X:K.In h)(G:h.Ns mainGlobals mg)(p:FP K x st)(hb:∀(kV dc pm:Value) (an:Option Addr) (cd ct:Value) (us:List Value),us.length=ps.length->bindArgs (zaj x x (Bm st) (AO st) (A4 st) .none kV dc pm an cd ct) ⟨us,[]⟩=pure (ps.zip us):=by first | exact (λ _ _ _ _ _ _=>vJ λ _=>rfl) | exact (λ _ _ _ _ _ _=>ln2 λ _ _=>rfl) | exact (λ _ _ _ _ _ _=>xE λ _ _ _=>rfl) | exact (λ _ _ _ _ _ _=>yE λ _ _ _ _=>rfl)):AH K mg x st ps:=by
 obtain⟨f,oc,od,an,sl,kV,dc,pm,cd,ct,a,l,c,k⟩:=p.ex;have F:=Ug (st:=st) l c k;exact⟨⟨_,_,F,PySem.W.mg_of X G a,F.binds hb⟩⟩
def Wc {K:zr}{C:Addr}{x m qual:Str}{st:Stmt}{ps:List Str}(aC:zY K mainGlobals x=some (some (.ref C)))(cl:WK K C)(p:MP K C m qual st)(hb:∀(kV dc pm:Value) (an:Option Addr) (cd ct:Value) (us:List Value),us.length=ps.length->bindArgs (zaj m qual (Bm st) (AO st) (A4 st) .none kV dc pm an cd ct) ⟨us,[]⟩=pure (ps.zip us):=by first | exact (λ _ _ _ _ _ _=>vJ λ _=>rfl) | exact (λ _ _ _ _ _ _=>ln2 λ _ _=>rfl) | exact (λ _ _ _ _ _ _=>xE λ _ _ _=>rfl) | exact (λ _ _ _ _ _ _=>yE λ _ _ _ _=>rfl)):Pj K x m qual st ps:=by
 obtain⟨f,oc,od,an,sl,kV,dc,pm,cd,ct,a,i,l,c,k⟩:=p.ex;have F:=Ug (st:=st) l c k;exact⟨⟨_,_,_,aC,cl,⟨a,i,k⟩,F,F.binds hb⟩⟩
open PySem PySem.W PySem.Calls PyProof.Rows
abbrev R0:Rn:=⟨topRun,Heap.nsMap,importEnds,fenceModules?,PySem.start,treeTable⟩
def oY:R0=R1:=by
 unfold R0 R1;rw[PySem.W.Fast.te14082659384304107361,PySem.W.Fast.te8920871248978507458,PySem.W.Fast.te10274390034422433532,PySem.W.Fast.te14289696077712309145,PySem.W.Fast.te1435165496053646825,PySem.W.Fast.te14364793385576792824]
def Wd (p:Program)(w:World)(N:Nat):openEnds treeTable p w N=My R0 p w N:=by
 unfold openEnds fencedOpening My;rfl
def Nb {h:Heap}{a:Addr}{o:Obj}:∀ {as:List Addr},(uP h as).lookup a=some o->h.get? a=some o
 |[],e=>by cases e
 |b::r,e=>by
  unfold uP at e;rw[zaz] at e;cases q:h.get? b with
  |none=>rw[q] at e;exact Nb (as:=r) e
  |some u =>
   rw[q] at e;dsimp only [zb0] at e;rw[zb2] at e;cases c:a==b with
   |true=>rw[c] at e;cases e;rw[eq_of_beq c];exact q
   |false=>rw[c] at e;exact Nb (as:=r) e
abbrev uA (h h':Heap):Prop:=∀(b:Addr) (o:Obj),h.get? b=some o->h'.get? b=some o
def oZ {h h':Heap}{as:List Addr}(s:uA h h'):(uP h as).In h':=λ a o e=>s a o (Nb e)
def jF {p q:Program}{Xt:Shared->Bool}{N:Nat}(h:∀w:World,(openEnds treeTable p w N).map (λ s=>openSeen q [] (importedModules p.main.body) Xt true s)=some (openGood q [])):LeftO p q [] Xt (λ s=>s.heap) (λ w=>Yh R0 p w N) N:=λ w=>by
 have e:=h w;unfold Yh;dsimp only;rw[<-Wd];cases q':openEnds treeTable p w N with
 |none=>rw[q'] at e;cases e
 |some s =>
  rw[q'] at e;rw[zb0] at e ⊢;dsimp only;rw[zT e]
def QD {α β γ:Type}{o:Option γ}{f:γ->α×β}{a:α×β}(h:o.map (λ s=>(f s).1)=some a.1)(k:o.map (λ s=>(f s).2)=some a.2):o.map f=some a:=by
 cases o with
 |none=>cases h
 |some s =>
  rw[zb0] at h k ⊢;exact congrArg some (Prod.ext (zT h) (zT k))
def uB {l:PySem.W.OpenLaw}{n k:Nat}{q:Program}{loose:List Str}{XP:(Str->Option Value)->Heap->Prop}{YP:World->Heap->Prop}{d:DefRec}{K:World->zr}{CX:World->Vl}{sp:World->Sp}{x:Str}
 (hn:l.most=some n) (aD:n<=sizeLine) (gl:d.params.defaults=[]) (hr:BC k callerA) (hY:∀(w:World) (h:Heap),YP w h->(K w).In h)
 (F:∀(w:World) (mg:Str->Option Value) (fa:Addr) (h:Heap),(K w).In h->h.Ns mainGlobals mg->mg d.name=some (.ref fa)->∃fd:FuncData,(∀(s:Shared) (u:Value),BindsTo s fd ⟨[u],[]⟩ [(x,u)])/\
  ∀base:Heap,(K w).In base->base.Ns mainGlobals mg->Dr l.prog w (K w) mg base (CX w) k fa fd [x] (sp w))
 (bF:∀(w:World) (H:Hp) (a:Addr) (ns:List Int),(∀n∈ns,Sm n)->ns.length<=n->fI H->D7 (K w) H a (ns.map V.int)->sp w [.ref a] H (λ v _=>v=.bl true) λ _ _ _=>False)
 (jf:∀(w:World) (H:Hp) (s:Shared) (e:Value) (s':Shared),CX w [] H s (λ _ _ _=>False) e s'->False):PySem.W.WalkO q loose XP YP l.row.toRowW d [] (λ f vs=>PySem.call f vs):=by
 refine HT.P9 hn gl λ w s₀ s₁ mg mb fa o pm cd doc a vs ns bv G Y ho hd bc gm bV bm hlen hg=>?_;have KX:=hY w _ Y;obtain⟨fd,hb,hF⟩:=F w mg fa _ KX G.T.g gm;exact RU KX G.T.g G.T.b G.T.builtins G.T.nolimit hg bV bm (zal hlen aD) hr hF hb (λ H hO hS=>bF w H a ns bv hlen hO hS) λ H e s'=>jf w H s₁ e s'
abbrev cst:Option (Int×Int)->D
 |none=>.AL
 |some p=>.tup [.int p.1,.int p.2]
abbrev Aj:Option (Int×Int)->Option (Int×Int)->Option (Int×Int)
 |some p,some q=>some (p.1+q.1,p.2+q.2)
 |_,_=>none
abbrev lG (p q:Int×Int):Int×Int:=if p.1<q.1\/(p.1=q.1/\p.2<=q.2) then p else q
abbrev DQ:Option (Int×Int)->Option (Int×Int)->Option (Int×Int)
 |none,b=>b
 |some p,none=>some p
 |some p,some q=>some (lG p q)
abbrev FG (cs:List (Option (Int×Int))):Option (Int×Int):=cs.foldl DQ none
def GV (cs:List (Option (Int×Int))):Bv (λ d ρ=>.ok (ρ.set 0 (some (.val d)))) (λ ρ=>(rv 0 ρ).bind λ x=>.ok (!Bq x)) (rv 0) (cs.map cst) [none]=.ok ((cs.filterMap id).map λ p=>cst (some p)):=by
 induction cs with
 |nil=>rfl
 |cons c r ih =>
  rw[zx,Bv];cases c with
  |none =>
   show Bv _ _ _ (r.map cst) [none]=_;rw[ih];rfl
  |some p =>
   show (match Bv _ _ _ (r.map cst) [none] with | .ok ys=>M.ok (cst (some p)::ys)|_=>.bad)=_;rw[ih];rfl
def Xp (ps:List (Int×Int)):GG (ps.map λ p=>cst (some p))=some (ps.map λ p=>(cst (some p),[p.1,p.2])):=by
 induction ps with
 |nil=>rfl
 |cons p r ih=>rw[zx,GG,ih];rfl
def ZT (cs:List (Option (Int×Int))):AV ((cs.filterMap id).map λ p=>(cst (some p),[p.1,p.2]))=(FG cs).map λ p=>(cst (some p),[p.1,p.2]):=by
 have key:∀(cs:List (Option (Int×Int))) (z:Option (Int×Int)),((cs.filterMap id).map λ p=>(cst (some p),[p.1,p.2])).foldl BR (z.map λ p=>(cst (some p),[p.1,p.2]))=(cs.foldl DQ z).map λ p=>(cst (some p),[p.1,p.2]):=by
  intro cs;induction cs with
  |nil=>intro z;rfl
  |cons c r ih =>
   intro z;cases c with
   |none =>
    rw[show List.filterMap id (none::r)=List.filterMap id r from rfl,zP,ih z];cases z<;>rfl
   |some q =>
    rw[show List.filterMap id (some q::r)=q::List.filterMap id r from rfl,zx,zP,zP,<-ih (DQ z (some q))];congr 1;cases z with
    |none=>rfl
    |some p =>
     simp only[zb0,BR,HT.Cy,HT.C1,DQ,lG];by_cases h1:q.1=p.1
     ·by_cases h2:q.2=p.2
      ·rw[if_pos (show p.1<q.1\/(p.1=q.1/\p.2<=q.2) by omega)];simp[h1,h2]
      ·by_cases h3:q.2<p.2
       ·rw[if_neg (show ¬ (p.1<q.1\/(p.1=q.1/\p.2<=q.2)) by omega)];simp[h1,h2,h3]
       ·rw[if_pos (show p.1<q.1\/(p.1=q.1/\p.2<=q.2) by omega)];simp[h1,h2,h3]
     ·by_cases h3:q.1<p.1
      ·rw[if_neg (show ¬ (p.1<q.1\/(p.1=q.1/\p.2<=q.2)) by omega)];simp[h1,h3]
      ·rw[if_pos (show p.1<q.1\/(p.1=q.1/\p.2<=q.2) by omega)];simp[h1,h3]
 exact key cs none
def We (cs:List (Option (Int×Int))):VG (.lst ((cs.filterMap id).map λ p=>cst (some p))) .AL=.ok (cst (FG cs)):=by
 simp only[VG,Xp,ZT];cases FG cs<;>rfl
def SD (cs:List (Option (Int×Int))):Jq (Bv (λ d ρ=>.ok (ρ.set 0 (some (.val d)))) (λ ρ=>(rv 0 ρ).bind λ x=>.ok (!Bq x)) (rv 0) (cs.map cst) [none])=.ok (.lst ((cs.filterMap id).map λ p=>cst (some p))):=by
 rw[GV];rfl
noncomputable abbrev Co:=Option (Int×Int)
abbrev BI:Co->Co->Prop
 |_,none=>True
 |none,some _=>False
 |some p,some q=>p.1<q.1\/(p.1=q.1/\p.2<=q.2)
def Cc:∀a:Co,BI a a
 |none=>trivial
 |some p=>.inr ⟨rfl,Int.le_refl _⟩
def Ao:∀ {a b c:Co},BI a b->BI b c->BI a c
 |_,_,none,_,_=>trivial
 |none,none,some _,_,h|some _,none,some _,_,h|none,some _,some _,h,_=>h.elim
 |some p,some q,some r,h1,h2=>by simp only[BI] at *;omega
def K7:∀ {a b:Co},BI a b->BI b a->a=b
 |none,none,_,_=>rfl
 |none,some _,h,_|some _,none,_,h=>h.elim
 |some p,some q,h1,h2=>by
  obtain⟨p1,p2⟩:=p;obtain⟨q1,q2⟩:=q;simp only[BI] at h1 h2;have e1:p1=q1:=by omega
  have e2:p2=q2:=by omega
  rw[e1,e2]
def Bt:∀a b:Co,(DQ a b=a/\BI a b)\/(DQ a b=b/\BI b a/\a≠b)
 |none,none=>.inl ⟨rfl,trivial⟩
 |none,some q=>.inr ⟨rfl,trivial,λ h=>by cases h⟩
 |some p,none=>.inl ⟨rfl,trivial⟩
 |some p,some q=>by
  unfold DQ lG;by_cases h:p.1<q.1\/(p.1=q.1/\p.2<=q.2)
  ·dsimp only;rw[if_pos h];exact .inl ⟨rfl,h⟩
  ·dsimp only;rw[if_neg h];refine .inr ⟨rfl,?_,λ e=>?_⟩
   ·simp only[BI];omega
   ·cases e;exact h (.inr ⟨rfl,Int.le_refl _⟩)
def EJ (a b:Co):BI (DQ a b) a:=by
 rcases Bt a b with ⟨e,h⟩|⟨e,h,_⟩
 ·rw[e];exact Cc a
 ·rw[e];exact h
def EK (a b:Co):BI (DQ a b) b:=by
 rcases Bt a b with ⟨e,h⟩|⟨e,h,_⟩
 ·rw[e];exact h
 ·rw[e];exact Cc b
def SE (cs:List Co):∀z:Co,BI (cs.foldl DQ z) z/\(∀x∈cs,BI (cs.foldl DQ z) x)/\(cs.foldl DQ z=z\/cs.foldl DQ z∈cs):=by
 induction cs with
 |nil=>intro z;exact⟨Cc z,(λ x h=>by cases h),.inl rfl⟩
 |cons c r ih =>
  intro z;obtain⟨h1,h2,h3⟩:=ih (DQ z c);rw[zP];refine⟨Ao h1 (EJ z c),λ x hx=>?_,?_⟩
  ·rcases zB.mp hx with rfl|hx
   ·exact Ao h1 (EK z x)
   ·exact h2 x hx
  ·rcases h3 with h3|h3
   ·rw[h3];rcases Bt z c with ⟨e,_⟩|⟨e,_⟩
    ·exact .inl e
    ·rw[e];exact .inr zv
   ·exact .inr (zw _ h3)
def Mt {cs:List Co}{x:Co}(h:x∈cs):BI (FG cs) x:=(SE cs none).2.1 x h
def K8 (cs:List Co):FG cs=none\/FG cs∈cs:=(SE cs none).2.2
def jG {cs:List Co}{v:Co}(h1:∀x∈cs,BI v x)(h2:v≠none->∃x∈cs,BI x v):FG cs=v:=by
 refine K7 ?_ ?_
 ·cases v with
  |none=>cases FG cs<;>exact trivial
  |some p =>
   obtain⟨x,hx,hl⟩:=h2 (by intro z;cases z);exact Ao (Mt hx) hl
 ·rcases K8 cs with h|h
  ·rw[h];cases v<;>exact trivial
  ·exact h1 _ h
def Bc:∀a b:Co,Aj a b=Aj b a
 |none,none=>rfl
 |none,some _|some _,none=>rfl
 |some p,some q=>by simp only[Aj];rw[Int.add_comm,Int.add_comm p.2]
def C3:∀ {a b:Co}(c:Co),BI a b->BI (Aj a c) (Aj b c)
 |_,none,c,_=>by cases c<;>exact trivial
 |none,some _,c,h=>h.elim
 |some p,some q,none,h=>trivial
 |some p,some q,some r,h=>by simp only[Aj,BI] at *;omega
abbrev NN:Co->Prop
 |none=>True
 |some p=>0<=p.1/\0<=p.2
def Nc:∀ {a b:Co},NN a->NN b->NN (Aj a b)
 |none,none,_,_=>trivial
 |none,some _,_,_|some _,none,_,_=>trivial
 |some p,some q,h1,h2=>by simp only[Aj,NN] at *;omega
def ZU {a b:Co}(h1:NN a)(h2:NN b):NN (DQ a b):=by
 rcases Bt a b with ⟨e,_⟩|⟨e,_⟩
 ·rw[e];exact h1
 ·rw[e];exact h2
abbrev ltN (a b:Co):Prop:=NN a/\BI a b/\a≠b
def Xq (a b c:Co)(h1:ltN a b)(h2:ltN b c):ltN a c:=
 ⟨h1.1,Ao h1.2.1 h2.2.1,λ e=>by subst e;exact h1.2.2 (K7 h1.2.1 h2.2.1)⟩
abbrev rank:Co->Nat×Nat×Nat
 |none=>(1,0,0)
 |some p=>(0,p.1.toNat,p.2.toNat)
def pA:∀a:Co,NN a->Acc ltN a:=by
 have wf:WellFounded (InvImage (Prod.Lex (· < ·) (Prod.Lex (· < ·) (· < ·))) rank):=InvImage.wf rank (Prod.lex Nat.lt_wfRel (Prod.lex Nat.lt_wfRel Nat.lt_wfRel)).wf;intro a;induction a using wf.induction with
 |h a ih =>
  intro ha;refine .intro _ λ b ⟨hb,hl,ae⟩=>ih b ?_ hb;cases b with
  |none=>cases a with
   |none=>exact (ae rfl).elim
   |some p=>exact hl.elim
  |some q=>cases a with
   |none=>exact Prod.Lex.left _ _ (by decide)
   |some p =>
    obtain⟨p1,p2⟩:=p;obtain⟨q1,q2⟩:=q;simp only[BI,NN] at hl ha hb;show Prod.Lex _ _ (0,q1.toNat,q2.toNat) (0,p1.toNat,p2.toNat);refine Prod.Lex.right _ ?_;by_cases h:q1<p1
    ·exact Prod.Lex.left _ _ (by omega)
    ·have e:q1=p1:=by omega
     subst e;have h2:q2≠p2:=λ e=>ae (by rw[e]);exact Prod.Lex.right _ (by omega)
def jH (a:Co):Acc ltN a:=.intro _ λ b h=>pA b h.1
def Xr (cs:List Co):Acc (O3 ltN) cs:=MZ ltN jH cs.length cs rfl
structure Road where
 a:Int
 b:Int
 l:Option Int
 w:Int
abbrev GW:Option Int->D
 |none=>.AL
 |some i=>.int i
abbrev Bs (r:Road):D:=.tup [.int r.a,.int r.b,GW r.l,.int r.w]
abbrev Aq (m:Int)(rs:List Road):D:=.tup [.int m,.lst (rs.map Bs)]
abbrev Cd (r:Road):Co:=match r.l with | none=>none | some l=>some (l,1)
structure GX (m:Nat)(r:Road):Prop where
 a0:0<=r.a
 a1:r.a<m
 b0:0<=r.b
 b1:r.b<m
 l0:∀l,r.l=some l->0<=l
abbrev K9 (r:Road):Road:=⟨r.b,r.a,r.l,r.w⟩
def Wf {m:Nat}{r:Road}(h:GX m r):NN (Cd r):=by
 unfold Cd;split
 ·trivial
 ·rename_i l e;exact⟨h.l0 l e,by show (0:Int)<=1;decide⟩
abbrev atC (cs:List Co)(i:Int):Co:=cs.getD i.toNat none
def DR {cs:List Co}{i:Int}(h0:0<=i)(h1:i<cs.length):cs[i.toNat]?=some (atC cs i):=by
 unfold atC;rw[zH,z4 (show i.toNat<cs.length by omega)];rfl
def set_same {α:Type}:∀ {l:List α}{i:Nat}{x:α},l[i]?=some x->l.set i x=l
 |[],_,_,h=>by cases h
 |y::r,0,x,h=>by cases h;rfl
 |y::r,i+1,x,h=>by rw[z5,set_same (by simpa using h)]
abbrev Df (r:Road)(cs:List Co):List Co:=cs.set r.b.toNat (DQ (atC cs r.b) (Aj (atC cs r.a) (Cd r)))
def I0 {cs:List Co}{i j:Int}{v:Co}(hi:0<=i)(hj:0<=j)(h1:i<cs.length):atC (cs.set i.toNat v) j=if j=i then v else atC cs j:=by
 unfold atC;rw[zH,zH];by_cases h:j=i
 ·subst h;rw[if_pos rfl,za3 (by omega)];rfl
 ·rw[if_neg h,zas (by omega)]
structure Good (m s:Nat)(rs:List Road)(cs:List Co):Prop where
 len:cs.length=m
 st:atC cs s=some (0,0)
 nn:∀c∈cs,NN c
 sup:∀p:Int,0<=p->p<m->p≠s->atC cs p≠none->∃r∈rs,r.b=p/\BI (Aj (atC cs r.a) (Cd r)) (atC cs p)
def Good.lH {m s:Nat}{rs:List Road}{cs:List Co}(g:Good m s rs cs){i:Int}(h0:0<=i)(h1:i<m):NN (atC cs i):=
 g.nn _ (zI (DR h0 (by rw[g.len];exact h1)))
def Xs {m s:Nat}{rs:List Road}{cs:List Co}{r:Road}(g:Good m s rs cs)(hr:r∈rs)(Ar:∀r∈rs,GX m r):
 Good m s rs (Df r cs)/\(∀i:Int,0<=i->BI (atC (Df r cs) i) (atC cs i))/\(DQ (atC cs r.b) (Aj (atC cs r.a) (Cd r))=atC cs r.b->Df r cs=cs)/\
 (DQ (atC cs r.b) (Aj (atC cs r.a) (Cd r))≠atC cs r.b->O3 ltN (Df r cs) cs):=by
 have ok:=Ar r hr;have bE:r.b<cs.length:=by rw[g.len];exact ok.b1
 have hx:NN (Aj (atC cs r.a) (Cd r)):=Nc (g.lH ok.a0 ok.a1) (Wf ok);have hv:NN (DQ (atC cs r.b) (Aj (atC cs r.a) (Cd r))):=ZU (g.lH ok.b0 ok.b1) hx;have aW:∀i:Int,0<=i->atC (Df r cs) i=if i=r.b then DQ (atC cs r.b) (Aj (atC cs r.a) (Cd r)) else atC cs i:=λ i hi=>I0 ok.b0 hi bE
 have le:∀i:Int,0<=i->BI (atC (Df r cs) i) (atC cs i):=λ i hi=>by
  rw[aW i hi];by_cases h:i=r.b
  ·rw[if_pos h,h];exact EJ _ _
  ·rw[if_neg h];exact Cc _
 refine⟨⟨by unfold Df;rw[zap];exact g.len,?_,λ c hc=>?_,λ p h0 h1 hp hn=>?_⟩,le,λ h=>?_,λ h=>?_⟩
 ·rw[aW s (by omega)];by_cases h:(s:Int)=r.b
  ·rw[if_pos h,<-h,g.st];cases q:Aj (atC cs r.a) (Cd r) with
   |none=>rfl
   |some x =>
    rw[q] at hx;unfold DQ lG;dsimp only;rw[if_pos (by simp only[NN] at hx;omega)]
  ·rw[if_neg h];exact g.st
 ·unfold Df at hc;rcases zcc hc with h|h
  ·exact g.nn c h
  ·rw[h];exact hv
 ·rw[aW p h0] at hn ⊢;by_cases h:p=r.b
  ·rw[if_pos h] at hn ⊢;rcases Bt (atC cs r.b) (Aj (atC cs r.a) (Cd r)) with ⟨e,_⟩|⟨e,_⟩
   ·rw[e] at hn ⊢;subst h;obtain⟨r',h2,h3,h4⟩:=g.sup r.b h0 h1 hp hn;exact⟨r',h2,h3,Ao (C3 _ (le r'.a (Ar r' h2).a0)) h4⟩
   ·rw[e];exact⟨r,hr,h.symm,C3 _ (le r.a ok.a0)⟩
  ·rw[if_neg h] at hn ⊢;obtain⟨r',h2,h3,h4⟩:=g.sup p h0 h1 hp hn;exact⟨r',h2,h3,Ao (C3 _ (le r'.a (Ar r' h2).a0)) h4⟩
 ·unfold Df;rw[h];exact set_same (DR ok.b0 bE)
 ·unfold Df;exact VN ltN (DR ok.b0 bE) ⟨hv,EJ _ _,h⟩
abbrev Right (m s:Nat)(rs:List Road)(cs:List Co):Prop:=
 cs.length=m/\atC cs s=some (0,0)/\(∀c∈cs,NN c)/\∀p:Int,0<=p->p<m->p≠s->atC cs p=FG ((rs.filter λ r=>decide (r.b=p)).map λ r=>Aj (Cd r) (atC cs r.a))
def right_of {m s:Nat}{rs:List Road}{cs:List Co}(g:Good m s rs cs)(h:∀r∈rs,DQ (atC cs r.b) (Aj (atC cs r.a) (Cd r))=atC cs r.b):Right m s rs cs:=by
 refine⟨g.len,g.st,g.nn,λ p h0 h1 hp=>?_⟩;symm;refine jG (λ x hx=>?_) λ hn=>?_
 ·obtain⟨r,hr,rfl⟩:=zS.mp hx;obtain⟨h2,h3⟩:=zau.mp hr;have e:r.b=p:=by simpa using h3
  have:=EK (atC cs r.b) (Aj (atC cs r.a) (Cd r));rw[h r h2,e] at this;rw[Bc];exact this
 ·obtain⟨r,h2,h3,h4⟩:=g.sup p h0 h1 hp hn;refine⟨_,zS.mpr ⟨r,zau.mpr ⟨h2,by simpa using h3⟩,rfl⟩,?_⟩;rw[Bc];exact h4
def Nd {m s:Nat}(rs:List Road)(h:s<m):Good m s rs ((zE m none).set s (some (0,0))):=by
 have hl:(zE m (none:Co)).length=m:=zc0;have aW:∀i:Int,0<=i->atC ((zE m none).set s (some (0,0))) i=if i=s then some (0,0) else none:=λ i hi=>by
  have:=I0 (cs:=zE m none) (i:=(s:Int)) (j:=i) (v:=some (0,0)) (by omega) hi (by rw[hl];omega);rw[zat] at this;rw[this];by_cases h:i=s
  ·rw[if_pos h,if_pos h]
  ·rw[if_neg h,if_neg h];unfold atC;rw[zH,zbd];split<;>rfl
 refine⟨by rw[zap,hl],?_,λ c hc=>?_,λ p h0 h1 hp hn=>?_⟩
 ·rw[aW s (by omega),if_pos rfl]
 ·rcases zcc hc with h|h
  ·rw[List.eq_of_mem_replicate h];trivial
  ·rw[h];exact⟨Int.le_refl _,Int.le_refl _⟩
 ·rw[aW p h0,if_neg hp] at hn;exact (hn rfl).elim
def pB {α:Type}{l:List α}{n:Int}(h:0<=n/\n<l.length):RS l n=l[n.toNat]? :=by
 unfold RS ON;obtain⟨h1,h2⟩:=h;simp[h1,h2]
def Mu {n:Nat}{j:Int}(h:0<=j/\j<n):ON n j=some j.toNat:=by
 unfold ON;obtain⟨h1,h2⟩:=h;simp[h1,h2]
def I9 {α:Type}{f:α->D}{l:List α}{n:Int}{x:α}(h0:0<=n)(h:l[n.toNat]?=some x):fZ (.lst (l.map f)) (.int n)=.ok (f x):=by
 have h1:=(zG.mp h).1;unfold fZ;dsimp only;rw[pB (by rw[zu];omega),zU,h];rfl
def Ce {cs:List Co}{i:Int}(h0:0<=i)(h1:i<cs.length):fZ (.lst (cs.map cst)) (.int i)=.ok (cst (atC cs i)):=I9 h0 (DR h0 h1)
def KW {n:Nat}(c:Co):Pl (n+1) (cst c):=by
 cases c with
 |none=>exact oG
 |some p=>exact Ut (EH (Fz _) (EH (Fz _) Qt))
def Wg (a b:Co):Bl (cst a) (cst b)=decide (a=b):=by
 rcases a with _|⟨a1,a2⟩<;>rcases b with _|⟨b1,b2⟩
 ·simp[cst,Bl]
 ·simp[cst,Bl]
 ·simp[cst,Bl]
 ·rw[zbp];simp[cst,Bl,Cp]
def jI (a b:Co):Yd 16 (cst a) (cst b)=.ok (.bl (!decide (a=b))):=by rw[Uw (KW (n:=15) a) (KW (n:=15) b),Wg]
def Wh (a b:Co):fY 16 (cst a) (cst b)=.ok (.bl (decide (a=b))):=by rw[Uv (KW (n:=15) a) (KW (n:=15) b),Wg]
def Wi (c:Co):Jr (cst c)=true:=by
 cases c<;>simp[cst,Jr,Js]
def QE (c:Co):dp (.ok (cst c))=.ok (cst c):=by
 unfold dp;rw[M.A9,if_pos (Wi c)]
def AZ {a b:Int}(h:0<b):ED (.int a) (.int b)=.ok (.int (a%b)):=by
 unfold ED BD;dsimp only;rw[if_pos h]
def Fc {a b:Int}(h:Yx a b):Lh (.int a) (.int b)=.ok (.int (a / b)):=by
 unfold Lh BD;dsimp only;rw[if_pos h]
inductive Wk (rs:List Road):Int->Int->Int×Int->Prop
 |nil (u:Int):Wk rs u u (0,0)
 |cons {r:Road} {l:Int} {w:Int} {c:Int×Int}:r∈rs->r.l=some l->Wk rs r.b w c->Wk rs r.a w (l+c.1,1+c.2)
def Wk.trans {rs:List Road}{u v w:Int}{c d:Int×Int}(h:Wk rs u v c)(k:Wk rs v w d):Wk rs u w (c.1+d.1,c.2+d.2):=by
 induction h with
 |nil u=>simpa using k
 |cons hr hl _ ih =>
  have:=Wk.cons hr hl (ih k);simpa [zc9] using this
def Wk.one {rs:List Road}{r:Road}{l:Int}(hr:r∈rs)(hl:r.l=some l):Wk rs r.a r.b (l,1):=by
 have:=Wk.cons hr hl (Wk.nil (rs:=rs) r.b);simpa using this
abbrev BN (rs:List Road)(u w:Int)(x:Co):Prop:=(∀c,Wk rs u w c->BI x (some c))/\∀p,x=some p->Wk rs u w p
def BN.Cj {rs:List Road}{u w:Int}{x y:Co}(h:BN rs u w x)(k:BN rs u w y):x=y:=by
 refine K7 ?_ ?_
 ·cases y with
  |none=>cases x<;>exact trivial
  |some q=>exact h.1 q (k.2 q rfl)
 ·cases x with
  |none=>cases y<;>exact trivial
  |some q=>exact k.1 q (h.2 q rfl)
def Ka {r:Road}{c:Int×Int}(h:Cd r=some c):∃l,r.l=some l/\c=(l,1):=by
 unfold Cd at h;split at h
 ·cases h
 ·rename_i l e;cases h;exact⟨l,e,rfl⟩
def E5 {a b:Co}{c:Int×Int}(h:Aj a b=some c):∃p q,a=some p/\b=some q/\c=(p.1+q.1,p.2+q.2):=by
 cases a with
 |none=>cases h
 |some p=>cases b with
  |none=>cases h
  |some q=>cases h;exact⟨p,q,rfl,rfl,rfl⟩
def Right.min_le {m s:Nat}{rs:List Road}{cs:List Co}(h:Right m s rs cs){r:Road}(hr:r∈rs)(Ar:GX m r):BI (atC cs r.b) (Aj (Cd r) (atC cs r.a)):=by
 obtain⟨h1,h2,h3,h4⟩:=h;by_cases hs:r.b=s
 ·rw[hs,h2];have hn:NN (Aj (Cd r) (atC cs r.a)):=Nc (Wf Ar) (h3 _ (zI (DR Ar.a0 (by rw[h1];exact Ar.a1))));cases q:Aj (Cd r) (atC cs r.a) with
  |none=>exact trivial
  |some p=>rw[q] at hn;simp only[NN] at hn;simp only[BI];omega
 ·rw[h4 r.b Ar.b0 Ar.b1 hs];exact Mt (zS.mpr ⟨r,zau.mpr ⟨hr,by simp⟩,rfl⟩)
def Xu {m s:Nat}{rs:List Road}{cs:List Co}(h:Right m s rs cs)(Ar:∀r∈rs,GX m r){u w:Int}{c:Int×Int}(k:Wk rs u w c):BI (atC cs w) (Aj (atC cs u) (some c)):=by
 induction k with
 |nil u =>
  cases atC cs u with
  |none=>exact trivial
  |some p=>simp only[Aj,BI];omega
 | @cons r l w c hr hl _ ih =>
  refine Ao ih ?_;have h1:=h.min_le hr (Ar r hr);have e:Cd r=some (l,1):=by unfold Cd;rw[hl]
  rw[e] at h1;cases q:atC cs r.a with
  |none=>exact trivial
  |some p =>
   rw[q] at h1;cases q2:atC cs r.b with
   |none=>rw[q2] at h1;exact h1.elim
   |some p2=>rw[q2] at h1;simp only[Aj,BI] at *;omega
def Xv {m s:Nat}{rs:List Road}{cs:List Co}(h:Right m s rs cs)(Ar:∀r∈rs,GX m r):∀(n:Nat) (w:Int) (p:Int×Int),0<=w->w<m->atC cs w=some p->p.2.toNat=n->Wk rs s w p:=by
 obtain⟨h1,h2,h3,h4⟩:=h;intro n;induction n with
 |zero =>
  intro w p h0 hw hp hn;by_cases hs:w=s
  ·rw[hs,h2] at hp;cases hp;rw[hs];exact .nil _
  ·exfalso;have e:=h4 w h0 hw hs;rw[hp] at e;rcases K8 ((rs.filter λ r=>decide (r.b=w)).map λ r=>Aj (Cd r) (atC cs r.a)) with z|z
   ·rw[z] at e;cases e
   ·rw[<-e] at z;obtain⟨r,hr,e2⟩:=zS.mp z;have ck:=(zau.mp hr).1;obtain⟨p1,p2,e3,e4,e5⟩:=E5 e2;obtain⟨l,hl,rfl⟩:=Ka e3;have ok:=Ar r ck;have nn:=h3 _ (zI (DR ok.a0 (by rw[h1];exact ok.a1)));rw[e4] at nn;simp only[NN] at nn;rw[e5] at hn;simp only at hn;omega
 |succ n ih =>
  intro w p h0 hw hp hn;by_cases hs:w=s
  ·rw[hs,h2] at hp;cases hp;rw[hs];exact .nil _
  ·have e:=h4 w h0 hw hs;rw[hp] at e;rcases K8 ((rs.filter λ r=>decide (r.b=w)).map λ r=>Aj (Cd r) (atC cs r.a)) with z|z
   ·rw[z] at e;cases e
   ·rw[<-e] at z;obtain⟨r,hr,e2⟩:=zS.mp z;obtain⟨ck,p7⟩:=zau.mp hr;have p7:r.b=w:=by simpa using p7
    obtain⟨p1,p2,e3,e4,e5⟩:=E5 e2;obtain⟨l,hl,rfl⟩:=Ka e3;have ok:=Ar r ck;have nn:=h3 _ (zI (DR ok.a0 (by rw[h1];exact ok.a1)));rw[e4] at nn;simp only[NN] at nn;subst e5;simp only at hn;have w1:=ih r.a p2 ok.a0 ok.a1 e4 (by omega);have w2:=w1.trans (Wk.one ck hl);rw[p7] at w2;have e6:((l+p2.1,1+p2.2):Int×Int)=(p2.1+l,p2.2+1):=by rw[Int.add_comm l,Int.add_comm 1]
    show Wk rs s w (l+p2.1,1+p2.2);rw[e6];exact w2
def Right.ZV {m s:Nat}{rs:List Road}{cs:List Co}(h:Right m s rs cs)(Ar:∀r∈rs,GX m r){w:Int}(h0:0<=w)(hw:w<m):BN rs s w (atC cs w):=by
 refine⟨λ c k=>?_,λ p hp=>Xv h Ar _ w p h0 hw hp rfl⟩;have:=Xu h Ar k;rw[h.2.1] at this;have e:Aj (some (0,0)) (some c)=some c:=by simp[Aj]
 rw[e] at this;exact this
def UI {a b c d:Co}(h:BI a b)(k:BI c d):BI (Aj a c) (Aj b d):=by
 refine Ao (C3 c h) ?_;rw[Bc b c,Bc b d];exact C3 b k
def Dg:∀a b c:Co,Aj (Aj a b) c=Aj a (Aj b c)
 |none,b,c=>by cases b<;>cases c<;>rfl
 |some p,none,c=>by cases c<;>rfl
 |some p,some q,none=>rfl
 |some p,some q,some r=>by simp only[Aj];rw[zc9,zc9]
def Pt:∀a:Co,Aj a (some (0,0))=a
 |none=>rfl
 |some p=>by simp[Aj]
def Pu (a:Co):Aj (some (0,0)) a=a:=by rw[Bc];exact Pt a
def SF (a:Co):DQ a a=a:=by rcases Bt a a with ⟨e,_⟩ | ⟨e,_⟩<;>exact e
def ZW {a b:Co}(h:NN b):BI a (Aj a b):=by
 cases a with
 |none=>exact trivial
 |some p=>cases b with
  |none=>exact trivial
  |some q=>simp only[NN] at h;simp only[Aj,BI];omega
structure FW (m k:Nat)(rs:List Road)(A:Int->Int->Co):Prop where
 dg:∀x:Int,0<=x->x<m->A x x=some (0,0)
 nn:∀x y:Int,0<=x->x<m->0<=y->y<m->NN (A x y)
 sd:∀x y:Int,0<=x->x<m->0<=y->y<m->∀p,A x y=some p->Wk rs x y p
 ed:∀r∈rs,BI (A r.a r.b) (Cd r)
 tr:∀v x y:Int,0<=v->v<k->0<=x->x<m->0<=y->y<m->BI (A x y) (Aj (A x v) (A v y))
abbrev over (k:Int)(A:Int->Int->Co):Int->Int->Co:=λ x y=>DQ (A x y) (Aj (A x k) (A k y))
def SG {m k:Nat}{rs:List Road}{A:Int->Int->Co}(F:FW m k rs A)(hk:k<m)(x:Int):over k A x k=A x k:=by
 unfold over;rw[F.dg k (by omega) (by omega),Pt,SF]
def SH {m k:Nat}{rs:List Road}{A:Int->Int->Co}(F:FW m k rs A)(hk:k<m)(y:Int):over k A k y=A k y:=by
 unfold over;rw[F.dg k (by omega) (by omega),Pu,SF]
def ZX {m k:Nat}{rs:List Road}{A:Int->Int->Co}(F:FW m k rs A)(hk:k<m):FW m (k+1) rs (over k A):=by
 have k0:(0:Int)<=k:=by omega
 have k1:(k:Int)<m:=by omega
 refine⟨λ x h0 h1=>?_,λ x y h0 h1 h2 h3=>ZU (F.nn x y h0 h1 h2 h3) (Nc (F.nn x k h0 h1 k0 k1) (F.nn k y k0 k1 h2 h3)),λ x y h0 h1 h2 h3 p hp=>?_,λ r hr=>Ao (EJ _ _) (F.ed r hr),λ v x y v0 v1 h0 h1 h2 h3=>?_⟩
 ·unfold over;rw[F.dg x h0 h1];have hn:NN (Aj (A x k) (A k x)):=Nc (F.nn x k h0 h1 k0 k1) (F.nn k x k0 k1 h0 h1);cases q:Aj (A x k) (A k x) with
  |none=>rfl
  |some z =>
   rw[q] at hn;simp only[NN] at hn;unfold DQ lG;dsimp only;rw[if_pos (by omega)]
 ·unfold over at hp;rcases Bt (A x y) (Aj (A x k) (A k y)) with ⟨e,_⟩|⟨e,_⟩
  ·rw[e] at hp;exact F.sd x y h0 h1 h2 h3 p hp
  ·rw[e] at hp;obtain⟨p1,p2,e1,e2,rfl⟩:=E5 hp;exact (F.sd x k h0 h1 k0 k1 p1 e1).trans (F.sd k y k0 k1 h2 h3 p2 e2)
 ·by_cases hv:v=k
  ·subst hv;rw[SG F hk,SH F hk];exact EK _ _
  ·have vk:v<k:=by omega
   have vm:v<m:=by omega
   have v9:=F.tr v x y v0 vk h0 h1 h2 h3;have wa:=F.tr v k y v0 vk k0 k1 h2 h3;have wb:=F.tr v x k v0 vk h0 h1 k0 k1;have g1:BI (over k A x y) (A x y):=EJ _ _;have g2:BI (over k A x y) (Aj (A x k) (A k y)):=EK _ _;have wc:=F.nn k v k0 k1 v0 vm;have we:=F.nn v k v0 vm k0 k1;have e1:over k A x v=DQ (A x v) (Aj (A x k) (A k v)):=rfl;have e2:over k A v y=DQ (A v y) (Aj (A v k) (A k y)):=rfl;rw[e1,e2];rcases Bt (A x v) (Aj (A x k) (A k v)) with ⟨e,_⟩|⟨e,_⟩<;>rcases Bt (A v y) (Aj (A v k) (A k y)) with ⟨e',_⟩|⟨e',_⟩<;>rw[e,e']
   ·exact Ao g1 v9
   ·refine Ao g2 ?_;rw[<-Dg];exact C3 _ wb
   ·refine Ao g2 ?_;rw[Dg,Bc (A x k),Bc (A x k)];exact C3 _ wa
   ·refine Ao g2 ?_;have e3:Aj (Aj (A x k) (A k v)) (Aj (A v k) (A k y))=Aj (Aj (A x k) (A k y)) (Aj (A k v) (A v k)):=by
     rw[Dg,Dg,<-Dg (A k v),Bc (Aj (A k v) (A v k))]
    rw[e3];exact ZW (Nc wc we)
def pC {m:Nat}{rs:List Road}{A:Int->Int->Co}(F:FW m m rs A)(Ar:∀r∈rs,GX m r){x y:Int}(h0:0<=x)(h1:x<m)(h2:0<=y)(h3:y<m):BN rs x y (A x y):=by
 refine⟨λ c k=>?_,F.sd x y h0 h1 h2 h3⟩;induction k with
 |nil u=>rw[F.dg u h0 h1];exact Cc _
 | @cons r l w c hr hl k' ih =>
  have ok:=Ar r hr;have i1:=ih ok.b0 ok.b1 h2 h3;have t:=F.tr r.b r.a w ok.b0 (by have:=ok.b1;omega) h0 h1 h2 h3;have e:=F.ed r hr;have e':Cd r=some (l,1):=by unfold Cd;rw[hl]
  rw[e'] at e;refine Ao t (Ao (UI e i1) ?_);exact Cc _
structure Nf (m:Nat)(rs:List Road)(u:Int)(n:Nat)(R:List Co):Prop where
 len:R.length=m
 st:atC R u=some (0,0)
 nn:∀c∈R,NN c
 sd:∀y:Int,0<=y->y<m->∀p,atC R y=some p->Wk rs u y p
 ed:∀r∈rs.take n,r.a=u->BI (atC R r.b) (Cd r)
def Xw {m u:Nat}(rs:List Road)(h:u<m):Nf m rs u 0 ((zE m none).set u (some (0,0))):=by
 have g:=Nd (m:=m) (s:=u) rs h;refine⟨g.len,g.st,g.nn,λ y h0 h1 p hp=>?_,λ r hr=>by rw[zca] at hr;cases hr⟩;by_cases hy:y=u
 ·rw[hy,g.st] at hp;cases hp;rw[hy];exact .nil _
 ·have:=I0 (cs:=zE m none) (i:=(u:Int)) (j:=y) (v:=some (0,0)) (by omega) h0 (by rw[zc0];omega);rw[zat,if_neg hy] at this;rw[this] at hp;unfold atC at hp;rw[zH,zbd] at hp;split at hp<;>cases hp
def ZY {m:Nat}{rs:List Road}{u:Int}{n:Nat}{R:List Co}{r:Road}(g:Nf m rs u n R)(hr:rs[n]?=some r)(hu:r.a≠u):Nf m rs u (n+1) R:=
 ⟨g.len,g.st,g.nn,g.sd,λ r' aX ai=>by
  rw[za4,hr] at aX;rcases zJ.mp aX with h|h
  ·exact g.ed r' h ai
  ·have:r'=r:=by simpa using h
   rw[this] at ai;exact (hu ai).elim⟩
def ZZ {m:Nat}{rs:List Road}{u:Int}{n:Nat}{R:List Co}{r:Road}(g:Nf m rs u n R)(hr:rs[n]?=some r)(hu:r.a=u)(Ar:∀r∈rs,GX m r):Nf m rs u (n+1) (R.set r.b.toNat (DQ (atC R r.b) (Cd r))):=by
 have hm:=zI hr;have ok:=Ar r hm;have bE:r.b<R.length:=by rw[g.len];exact ok.b1
 have aW:∀i:Int,0<=i->atC (R.set r.b.toNat (DQ (atC R r.b) (Cd r))) i=if i=r.b then DQ (atC R r.b) (Cd r) else atC R i:=λ i hi=>I0 ok.b0 hi bE
 have nb:NN (atC R r.b):=g.nn _ (zI (DR ok.b0 bE));refine⟨by rw[zap];exact g.len,?_,λ c hc=>?_,λ y h0 h1 p hp=>?_,λ r' aX ai=>?_⟩
 ·rw[aW u (by rw[<-hu];exact ok.a0)];by_cases h:u=r.b
  ·rw[if_pos h,<-h,g.st];have hx:=Wf ok;cases q:Cd r with
   |none=>rfl
   |some z =>
    rw[q] at hx;simp only[NN] at hx;unfold DQ lG;dsimp only;rw[if_pos (by omega)]
  ·rw[if_neg h];exact g.st
 ·rcases zcc hc with h|h
  ·exact g.nn c h
  ·rw[h];exact ZU nb (Wf ok)
 ·rw[aW y h0] at hp;by_cases h:y=r.b
  ·rw[if_pos h] at hp;rcases Bt (atC R r.b) (Cd r) with ⟨e,_⟩|⟨e,_⟩
   ·rw[e] at hp;rw[h];exact g.sd r.b ok.b0 ok.b1 p hp
   ·rw[e] at hp;obtain⟨l,hl,rfl⟩:=Ka hp;rw[h,<-hu];exact Wk.one hm hl
  ·rw[if_neg h] at hp;exact g.sd y h0 h1 p hp
 ·have p8:r'∈rs:=zae aX;rw[aW r'.b (Ar r' p8).b0];rw[za4,hr] at aX;rcases zJ.mp aX with h|h
  ·by_cases hb:r'.b=r.b
   ·rw[if_pos hb];have:=g.ed r' h ai;rw[hb] at this;exact Ao (EJ _ _) this
   ·rw[if_neg hb];exact g.ed r' h ai
  ·have e:r'=r:=by simpa using h
   rw[e,if_pos rfl];exact EK _ _
abbrev at2 (ac:List (List Co))(x y:Int):Co:=atC (ac.getD x.toNat []) y
abbrev AI (ac:List (List Co)):List (List D):=ac.map λ R=>R.map cst
structure QF (m:Nat)(ac:List (List Co)):Prop where
 len:ac.length=m
 row:∀R∈ac,R.length=m
def QF.get {m:Nat}{ac:List (List Co)}(h:QF m ac){x:Int}(h0:0<=x)(h1:x<m):ac[x.toNat]?=some (ac.getD x.toNat [])/\(ac.getD x.toNat []).length=m:=by
 have hl:x.toNat<ac.length:=by rw[h.len];omega
 have e:ac[x.toNat]?=some (ac.getD x.toNat []):=by rw[zH,z4 hl];rfl
 exact⟨e,h.row _ (zI e)⟩
abbrev put2 (ac:List (List Co))(x y:Int)(v:Co):List (List Co):=ac.set x.toNat ((ac.getD x.toNat []).set y.toNat v)
def QF.put {m:Nat}{ac:List (List Co)}(h:QF m ac){x y:Int}(h0:0<=x)(h1:x<m)(h2:0<=y)(h3:y<m)(v:Co):QF m (put2 ac x y v)/\∀x' y':Int,0<=x'->0<=y'->at2 (put2 ac x y v) x' y'=if x'=x/\y'=y then v else at2 ac x' y':=by
 obtain⟨e,hl⟩:=h.get h0 h1;refine⟨⟨by unfold put2;rw[zap];exact h.len,λ R hR=>?_⟩,λ x' y' hx hy=>?_⟩
 ·unfold put2 at hR;rcases zcc hR with z|z
  ·exact h.row R z
  ·rw[z,zap];exact hl
 ·unfold at2 put2;by_cases su:x'=x
  ·subst su;have e2:(ac.set x'.toNat ((ac.getD x'.toNat []).set y.toNat v)).getD x'.toNat []=(ac.getD x'.toNat []).set y.toNat v:=by
    rw[zH (l:=ac.set _ _),za3 (by rw[h.len];omega)];rfl
   rw[e2,I0 h2 hy (by rw[hl];exact h3)];by_cases l6:y'=y
   ·rw[if_pos l6,if_pos ⟨rfl,l6⟩]
   ·rw[if_neg l6,if_neg (λ z=>l6 z.2)]
  ·have e2:(ac.set x.toNat ((ac.getD x.toNat []).set y.toNat v)).getD x'.toNat []=ac.getD x'.toNat []:=by
    rw[zH,zas (by omega),zH]
   rw[e2,if_neg (λ z=>su z.1)]
def SI {m:Nat}{ac:List (List Co)}(h:QF m ac){x:Int}(h0:0<=x)(h1:x<m):rowAt (AI ac) (.int x)=.ok ((ac.getD x.toNat []).map cst):=by
 obtain⟨e,hl⟩:=h.get h0 h1;have e1:ON (AI ac).length x=some x.toNat:=Mu ⟨h0,by unfold AI;rw[zu,h.len];exact h1⟩;have e2:(AI ac)[x.toNat]?=some ((ac.getD x.toNat []).map cst):=by unfold AI;rw[zU,e];rfl
 unfold rowAt;simp only[e1,e2]
def jJ {m:Nat}{ac:List (List Co)}(h:QF m ac){x y:Int}(h0:0<=x)(h1:x<m)(h2:0<=y)(h3:y<m):fZ (.lst ((ac.getD x.toNat []).map cst)) (.int y)=.ok (cst (at2 ac x y)):=
 Ce h2 (by rw[(h.get h0 h1).2];exact h3)
def jK {m:Nat}{ac:List (List Co)}(h:QF m ac){x y:Int}(h0:0<=x)(h1:x<m)(h2:0<=y)(h3:y<m)(i:Nat)(ρ:Ae)(v:Co):gO i ρ (AI ac) (cst v) (.int x) ((ac.getD x.toNat []).map cst) (.int y)=.ok (.next (ρ.set i (some (.ow (.rows (AI (put2 ac x y v))))))):=by
 have e1:ON (AI ac).length x=some x.toNat:=Mu ⟨h0,by unfold AI;rw[zu,h.len];exact h1⟩;have e2:ON ((ac.getD x.toNat []).map cst).length y=some y.toNat:=Mu ⟨h2,by rw[zu,(h.get h0 h1).2];exact h3⟩;unfold gO;simp only[e1,e2];unfold AI put2;rw[List.map_set,List.map_set]
def FW.congr {m k:Nat}{rs:List Road}{A B:Int->Int->Co}(F:FW m k rs A)(hk:k<=m)(Ar:∀r∈rs,GX m r)(h:∀x y:Int,0<=x->x<m->0<=y->y<m->B x y=A x y):FW m k rs B:=by
 refine⟨λ x h0 h1=>?_,λ x y h0 h1 h2 h3=>?_,λ x y h0 h1 h2 h3 p hp=>?_,λ r hr=>?_,λ v x y v0 v1 h0 h1 h2 h3=>?_⟩
 ·rw[h x x h0 h1 h0 h1];exact F.dg x h0 h1
 ·rw[h x y h0 h1 h2 h3];exact F.nn x y h0 h1 h2 h3
 ·rw[h x y h0 h1 h2 h3] at hp;exact F.sd x y h0 h1 h2 h3 p hp
 ·have ok:=Ar r hr;rw[h r.a r.b ok.a0 ok.a1 ok.b0 ok.b1];exact F.ed r hr
 ·rw[h x y h0 h1 h2 h3,h x v h0 h1 v0 (by omega),h v y v0 (by omega) h2 h3];exact F.tr v x y v0 v1 h0 h1 h2 h3
def bZ {m:Nat}{rs:List Road}{ac:List (List Co)}(hM:QF m ac)(Ar:∀r∈rs,GX m r)(h:∀u:Nat,u<m->Nf m rs u rs.length (ac.getD u [])):FW m 0 rs (at2 ac):=by
 have key:∀x:Int,0<=x->x<m->Nf m rs x rs.length (ac.getD x.toNat []):=λ x h0 h1=>by
  have:=h x.toNat (by omega);rw[Int.toNat_of_nonneg h0] at this;exact this
 refine⟨λ x h0 h1=>(key x h0 h1).st,λ x y h0 h1 h2 h3=>(key x h0 h1).nn _ (zI (DR h2 (by rw[(key x h0 h1).len];exact h3))),λ x y h0 h1 h2 h3 p hp=>(key x h0 h1).sd y h2 h3 p hp,λ r hr=>?_,λ v x y v0 v1=>by omega⟩;have ok:=Ar r hr;exact (key r.a ok.a0 ok.a1).ed r (by rw[za5];exact hr) rfl
abbrev hit (rs:List Road)(cs:List Co)(p:Nat)(k:Nat):Bool:=match rs[k]? with
 |some r=>decide (r.b=(p:Int))&&decide (Aj (atC cs r.a) (Cd r)≠none)&&decide (Aj (atC cs r.a) (Cd r)=atC cs (p:Int))
 |none=>false
def Wk.nn {m:Nat}{rs:List Road}(Ar:∀r∈rs,GX m r){u w:Int}{c:Int×Int}(h:Wk rs u w c):0<=c.1/\0<=c.2:=by
 induction h with
 |nil=>exact⟨Int.le_refl _,Int.le_refl _⟩
 |cons hr hl _ ih =>
  have:=(Ar _ hr).l0 _ hl;simp only;omega
abbrev pD (p:Int×Int):D:=.tup [.int p.1,.int p.2]
def GY (p q:Int×Int):Bl (pD p) (pD q)=decide (p=q):=by
 obtain⟨a,b⟩:=p;obtain⟨c,d⟩:=q;unfold pD;simp only[Bl,Cp,Bool.and_true];rw[zbp];simp
def GZ (p:Int×Int):keyOk true (pD p)=true:=rfl
def Wj (B:List (Int×Int))(p:Int×Int):LW (B.map pD) (pD p)=decide (p∈B):=by
 unfold LW;rw[List.any_map,zbp];simp only[zcg,Function.comp,GY,decide_eq_true_eq];constructor
 ·rintro ⟨x,hx,rfl⟩;exact hx
 ·intro h;exact⟨p,h,rfl⟩
def QG (B:List (Int×Int))(vs:List D)(neg:Bool)(a b:Int):Jy neg (.tup [.int a,.int b]) (.Bo true (B.map pD) vs)=.ok (.bl (if neg=true then !decide ((a,b)∈B) else decide ((a,b)∈B))):=by
 unfold Jy;dsimp only;have h1:keyOk true (D.tup [D.int a,D.int b])=true:=rfl;have h2:LW (B.map pD) (D.tup [D.int a,D.int b])=decide ((a,b)∈B):=Wj B (a,b);rw[if_pos h1,h2]
abbrev KY (B:List (Int×Int))(p:Int×Int):List (Int×Int):=if p∈B then B else B++[p]
abbrev D5 {α:Type}(B:List α):List D:=B.map λ _=>.bl true
def Pw {α:Type}(f:α->D)(y:D):∀B:List α,J0 (B.map f) (D5 B) y (.bl true)=D5 B
 |[]=>rfl
 |b::r=>by
  show J0 (f b::r.map f) (.bl true::D5 r) y (.bl true)=.bl true::D5 r;rw[J0,Pw f y r];split<;>rfl
def Wl (B:List (Int×Int))(p:Int×Int):putD (B.map pD) (D5 B) (pD p) (.bl true)=((KY B p).map pD,D5 (KY B p)):=by
 unfold putD KY;rw[Wj];by_cases h:p∈B
 ·rw[decide_eq_true h,if_pos rfl,if_pos h,Pw]
 ·rw[decide_eq_false h,if_neg (by simp),if_neg h];unfold D5;simp
def SJ {B:List (Int×Int)}{p q:Int×Int}:q∈KY B p↔q∈B\/q=p:=by
 unfold KY;split
 ·constructor
  ·exact .inl
  ·rintro (h|rfl)
   ·exact h
   ·assumption
 ·simp
def UJ {B:List (Int×Int)}{p:Int×Int}(h:B.Nodup):(KY B p).Nodup:=by
 unfold KY;split
 ·exact h
 ·rename_i hn;exact zQ.mpr ⟨h,by simp,λ a ha b hb z=>by simp at hb;subst hb;subst z;exact hn ha⟩
def KZ {α:Type}[DecidableEq α]:∀ {l u:List α},l.Nodup->(∀x∈l,x∈u)->l.length<=u.length
 |[],_,_,_=>za6 _
 |x::r,u,nd,h=>by
  have aV:=zag.mp nd;have hx:=h x zv;have ih:=KZ (l:=r) (u:=u.erase x) aV.2 λ y hy=>(List.mem_erase_of_ne (λ z=>aV.1 (by rw[<-z];exact hy))).mpr (h y (zw _ hy));have e:=List.length_erase_of_mem hx;have:0<u.length:=List.length_pos_of_mem hx;rw[z7];omega
def cB (p:Int×Int):Jr (pD p)=true:=by simp[pD,Jr,Js]
abbrev B3 (m:Nat):List Int:=(zan m).map λ i:Nat=>(i:Int)
def Ng (m:Nat):((zan m).map λ i:Nat=>D.int (i:Int))=(B3 m).map D.int:=by unfold B3;rw[zak];rfl
def Fd (m:Nat):(B3 m).length=m:=by unfold B3;simp
def H9 {m:Nat}{p:Int}:p∈B3 m↔0<=p/\p<m:=by
 unfold B3;constructor
 ·intro h;obtain⟨i,hi,rfl⟩:=zS.mp h;have:=zcb.mp hi;omega
 ·rintro ⟨h0,h1⟩;exact zS.mpr ⟨p.toNat,zcb.mpr (by omega),by omega⟩
abbrev B8 (B:List (Int×Int))(L:List Int)(v:Int):List (Int×Int):=(L.filter λ u=>decide ((u,v)∈B)).flatMap λ u=>((L.filter λ w=>decide ((v,w)∈B)).filter λ w=>decide (u≠w) && !decide ((u,w)∈B)).map λ w=>(u,w)
abbrev pE (B:List (Int×Int)):Prop:=∀x,(x,x)∉B
def Xx (B:List (Int×Int))(L:List Int)(v:Int):(B8 B L v).length<=L.length*L.length:=by
 unfold B8;rw[List.length_flatMap];have key:∀l:List Int,(l.map λ u=>(((L.filter λ w=>decide ((v,w)∈B)).filter λ w=>decide (u≠w) && !decide ((u,w)∈B)).map λ w=>(u,w)).length).sum<=l.length*L.length:=by
  intro l;induction l with
  |nil=>simp
  |cons u r ih =>
   rw[zx,List.sum_cons,z7,Nat.succ_mul];have:(((L.filter λ w=>decide ((v,w)∈B)).filter λ w=>decide (u≠w) && !decide ((u,w)∈B)).map λ w=>(u,w)).length<=L.length:=by
    rw[zu];exact zal (List.length_filter_le _ _) (List.length_filter_le _ _)
   omega
 exact zal (key _) (Nat.mul_le_mul_right _ (List.length_filter_le _ _))
def Px {α:Type}(f:α->List Int):∀l:List α,GG (l.map λ x=>D.tup ((f x).map D.int))=some (l.map λ x=>(D.tup ((f x).map D.int),f x))
 |[]=>rfl
 |x::r=>by
  rw[zx,GG,Px f r];simp[Z9,F9]
def Py {B:List (Int×Int)}{L:List Int}{v:Int}{p:Int×Int}(h:p∈B8 B L v):p.1∈L/\p.2∈L/\p.1≠p.2:=by
 unfold B8 at h;obtain⟨u,hu,h⟩:=List.mem_flatMap.mp h;obtain⟨w,hw,rfl⟩:=zS.mp h;have h1:=zau.mp hw;have h2:=zau.mp h1.1;have h3:=zau.mp hu;simp at h1;exact⟨h3.1,h2.1,h1.2.1⟩
abbrev Cr (B ps:List (Int×Int)):List (Int×Int):=ps.foldl KY B
structure Cs (m:Nat)(B:List (Int×Int)):Prop where
 nd:B.Nodup
 no:pE B
 yF:∀p∈B,(0<=p.1/\p.1<m)/\(0<=p.2/\p.2<m)
def Cs.add {m:Nat}{B:List (Int×Int)}(h:Cs m B){p:Int×Int}(hp:p.1≠p.2)(h1:0<=p.1/\p.1<m)(h2:0<=p.2/\p.2<m):Cs m (KY B p):=by
 refine⟨UJ h.nd,λ x hx=>?_,λ q hq=>?_⟩
 ·rcases SJ.mp hx with z|z
  ·exact h.no x z
  ·subst z;exact hp rfl
 ·rcases SJ.mp hq with z|z
  ·exact h.yF q z
  ·subst z;exact⟨h1,h2⟩
def Cs.Cr {m:Nat}{B:List (Int×Int)}(h:Cs m B):∀ {ps:List (Int×Int)},(∀p∈ps,p.1≠p.2/\(0<=p.1/\p.1<m)/\(0<=p.2/\p.2<m))->Cs m (L2.Cr B ps):=by
 intro ps;induction ps generalizing B with
 |nil=>intro _;exact h
 |cons p r ih =>
  intro hp;have:=hp p zv;exact ih (h.add this.1 this.2.1 this.2.2) λ q hq=>hp q (zw _ hq)
def Cs.len {m:Nat}{B:List (Int×Int)}(h:Cs m B)(hm:m<=20):B.length<1000:=by
 have key:=KZ (l:=B) (u:=(zan m).flatMap λ i:Nat=>(zan m).map λ j:Nat=>((i:Int),(j:Int))) h.nd λ p hp=>by
  obtain⟨h1,h2⟩:=h.yF p hp;refine List.mem_flatMap.mpr ⟨p.1.toNat,zcb.mpr (by omega),zS.mpr ⟨p.2.toNat,zcb.mpr (by omega),?_⟩⟩;rw[Int.toNat_of_nonneg h1.1,Int.toNat_of_nonneg h2.1]
 have e:((zan m).flatMap λ i:Nat=>(zan m).map λ j:Nat=>((i:Int),(j:Int))).length=m*m:=by
  rw[List.length_flatMap];simp[List.map_const',List.sum_replicate_nat]
 rw[e] at key;have:m*m<=20*20:=Nat.mul_le_mul hm hm;omega
def ET (a b c d:Int):HT.lexLt [a,b] [c,d]=decide (a<c\/(a=c/\b<d)):=by
 rw[HT.Cy,HT.Cy,HT.C1,zbp];by_cases h1:a=c
 ·subst h1;by_cases h2:b=d
  ·subst h2;simp
  ·simp[h2]
 ·simp[h1]
def Xy {α β:Type}(f:α->β):∀bs:List (α×List Int),AV (bs.map λ b=>(f b.1,b.2))=(AV bs).map λ b=>(f b.1,b.2):=by
 intro bs;unfold AV
 suffices z:∀o:Option (α×List Int),(bs.map λ b=>(f b.1,b.2)).foldl BR (o.map λ b=>(f b.1,b.2))=(bs.foldl BR o).map λ b=>(f b.1,b.2) from z none
 induction bs with
 |nil=>intro o;rfl
 |cons b r ih =>
  intro o;rw[zx,zP,zP,<-ih];congr 1;cases o with
  |none=>rfl
  |some c =>
   unfold BR;dsimp only [zb0];split<;>rfl
def cC {α:Type}:∀(bs:List (α×List Int)) (o:Option (α×List Int)) (b:α×List Int),bs.foldl BR o=some b->b∈bs\/o=some b:=by
 intro bs;induction bs with
 |nil=>intro o b h;exact .inr h
 |cons x r ih =>
  intro o b h;rw[zP] at h;rcases ih _ _ h with q|q
  ·exact .inl (zw _ q)
  ·cases o with
   |none=>cases q;exact .inl zv
   |some c =>
    unfold BR at q;dsimp only at q;split at q
    ·cases q;exact .inl zv
    ·exact .inr q
def Xz {α:Type}{bs:List (α×List Int)}(h2:∀b∈bs,∃x y:Int,b.2=[x,y]){b:α×List Int}(hb:AV bs=some b):∀c∈bs,HT.lexLt c.2 b.2=false:=by
 unfold AV at hb
 suffices z:∀(bs:List (α×List Int)) (o:Option (α×List Int)),(∀b∈bs,∃x y:Int,b.2=[x,y])->(∀b,o=some b->∃x y:Int,b.2=[x,y])->∀b,bs.foldl BR o=some b->(∀c∈bs,HT.lexLt c.2 b.2=false)/\(∀c,o=some c->HT.lexLt c.2 b.2=false) from (z bs none h2 (λ b h=>by cases h) b hb).1
 intro bs;induction bs with
 |nil =>
  intro o _ ho b h;refine⟨λ c hc=>(by cases hc),λ c hc=>?_⟩;have e:o=some b:=h;rw[hc] at e;cases e;obtain⟨x,y,e⟩:=ho _ hc;rw[e,ET];simp
 |cons d r ih =>
  intro o h2 ho b h;rw[zP] at h;have hd:=h2 d zv;have aM:∀b,BR o d=some b->∃x y:Int,b.2=[x,y]:=λ b hb=>by
   unfold BR at hb;cases o with
   |none=>cases hb;exact hd
   |some c =>
    dsimp only at hb;split at hb
    ·cases hb;exact hd
    ·cases hb;exact ho _ rfl
  obtain⟨i1,i2⟩:=ih (BR o d) (λ c hc=>h2 c (zw _ hc)) aM b h;have wg:=IL o d;obtain⟨k,hk⟩:∃k,BR o d=some k:=by
   cases q:BR o d with
   |none=>exact (wg q).elim
   |some k=>exact⟨k,rfl⟩
  have wj:=i2 k hk;obtain⟨kx,ky,ek⟩:=aM k hk;have fb:∃x y:Int,b.2=[x,y]:=by
   have:=cC r (BR o d) b h;rcases this with z|z
   ·exact h2 b (zw _ z)
   ·exact aM b z
  obtain⟨bx,zb,eb⟩:=fb;obtain⟨dx,dy,ed⟩:=hd;rw[ek,eb,ET,decide_eq_false_iff_not] at wj;have ca:HT.lexLt d.2 b.2=false/\∀c,o=some c->HT.lexLt c.2 b.2=false:=by
   unfold BR at hk;cases o with
   |none =>
    cases hk;rw[ed] at ek;injection ek with e1 e2
    injection e2 with e2 _
    refine⟨?_,λ c hc=>by cases hc⟩;rw[ed,eb,ET,decide_eq_false_iff_not];omega
   |some c =>
    obtain⟨cx,cy,ec⟩:=ho c rfl;dsimp only at hk;rw[ed,ec,ET] at hk;by_cases hl:dx<cx\/(dx=cx/\dy<cy)
    ·rw[if_pos (decide_eq_true hl)] at hk;cases hk;rw[ed] at ek;injection ek with e1 e2
     injection e2 with e2 _
     refine⟨?_,λ c' be=>?_⟩
     ·rw[ed,eb,ET,decide_eq_false_iff_not];omega
     ·cases be;rw[ec,eb,ET,decide_eq_false_iff_not];omega
    ·rw[if_neg (by simpa using hl)] at hk;cases hk;rw[ec] at ek;injection ek with e1 e2
     injection e2 with e2 _
     refine⟨?_,λ c' be=>?_⟩
     ·rw[ed,eb,ET,decide_eq_false_iff_not];omega
     ·cases be;rw[ec,eb,ET,decide_eq_false_iff_not];omega
  refine⟨λ c hc=>?_,ca.2⟩;rcases zB.mp hc with z|z
  ·rw[z];exact ca.1
  ·exact i1 c z
abbrev Bp (B:List (Int×Int))(L:List Int):Int:=match AV (L.map λ p=>(p,[((B8 B L p).length:Int),p])) with
 |some k=>k.1
 |none=>0
def Pz {B:List (Int×Int)}{L:List Int}(h:L≠[]):Bp B L∈L/\∀p∈L,¬ (((B8 B L p).length:Int)<(B8 B L (Bp B L)).length\/(((B8 B L p).length:Int)=(B8 B L (Bp B L)).length/\p<Bp B L)):=by
 unfold Bp;cases q:AV (L.map λ p=>(p,[((B8 B L p).length:Int),p])) with
 |none=>exact (Jm (λ z=>h (List.map_eq_nil_iff.mp z)) q).elim
 |some k =>
  obtain⟨p,hp,rfl⟩:=zS.mp (KH _ _ q);refine⟨hp,λ p' f8=>?_⟩;have:=Xz (λ b hb=>by obtain⟨x,_,rfl⟩:=zS.mp hb;exact⟨_,_,rfl⟩) q _ (zS.mpr ⟨p',f8,rfl⟩);rw[ET,decide_eq_false_iff_not] at this;exact this
abbrev TZ:Nat->List (Int×Int)->List Int->List Int
 |0,_,_=>[]
 |n+1,B,L=>if L=[] then [] else Bp B L::TZ n (Cr B (B8 B L (Bp B L))) (L.erase (Bp B L))
abbrev BJ (rs:List Road):List (Int×Int):=rs.foldl (λ B r=>match r.l with | none=>B | some _=>KY B (r.a,r.b)) []
def SK {m:Nat}:∀ {rs:List Road},(∀r∈rs,GX m r/\r.a≠r.b)->Cs m (BJ rs):=by
 intro rs
 suffices z:∀(rs:List Road) (B:List (Int×Int)),Cs m B->(∀r∈rs,GX m r/\r.a≠r.b)->Cs m (rs.foldl (λ B r=>match r.l with|none=>B|some _=>KY B (r.a,r.b)) B) from λ h=>z rs [] ⟨zax,λ x h=>(by cases h),λ p h=>(by cases h)⟩ h
 intro rs;induction rs with
 |nil=>intro B h _;exact h
 |cons r t ih =>
  intro B h hr;rw[zP];refine ih _ ?_ λ r' h'=>hr r' (zw _ h');have:=hr r zv;cases r.l with
  |none=>exact h
  |some l=>exact h.add this.2 ⟨this.1.a0,this.1.a1⟩ ⟨this.1.b0,this.1.b1⟩
def Fe {f:Int->Int->M D}{a b:Int}:BD f (.int a) (.int b)=f a b:=rfl
def Ha {bs:List Bool}:X5 [.lst (bs.map D.bl)]=.ok (.bl (bs.all id)):=by unfold X5;dsimp only;rw[MX]
def Kb {bs:List Bool}:Zj [.lst (bs.map D.bl)]=.ok (.bl (bs.any id)):=by unfold Zj;dsimp only;rw[MX]
def jL {a b:List D}(h:a.length+b.length<=1000):Sh (.lst a) (.lst b)=.ok (.lst ((a++b).map .sh)):=if_pos h
def SM (m:Nat):(B3 m).Pairwise (·<=·):=by
 unfold B3;rw[List.pairwise_map];exact (List.pairwise_lt_range (n:=m)).imp λ h=>by omega
def Nh (m:Nat):(B3 m).Nodup:=by
 unfold B3 List.Nodup;rw[List.pairwise_map];exact (List.pairwise_lt_range (n:=m)).imp λ h=>by omega
def XA {m:Nat}{L:List Int}:GR L=B3 m↔L.Perm (B3 m):=
 ⟨λ h=>by rw[<-h];exact (Ek L).symm,λ h=>GS ((Ek L).trans h) (FF L) (SM m)⟩
def Ff {m:Nat}{L:List Int}(h:L.Perm (B3 m)):L.length=m:=by rw[h.length_eq,Fd]
def AW {m:Nat}{L:List Int}(h:L.Perm (B3 m)){p:Int}:p∈L↔0<=p/\p<m:=by rw[h.mem_iff,H9]
def FH {m:Nat}{L:List Int}(h:L.Perm (B3 m)):L.Nodup:=h.nodup_iff.mpr (Nh m)
def PB:∀ {a b:List Int},Cp (a.map D.int) (b.map D.int)=decide (a=b)
 |[],[]=>by simp[Cp]
 |[],y::t=>by simp[Cp]
 |x::r,[]=>by simp[Cp]
 |x::r,y::t=>by
  rw[zx,zx,Cp,PB,Bl];by_cases h:x=y<;>by_cases k:r=t<;>simp[h,k]
def cD {a b:List Int}:Bl (.lst (a.map D.int)) (.lst (b.map D.int))=decide (a=b):=by rw[Bl];exact PB
def cE {a b:List Int}:fY 16 (.lst (a.map D.int)) (.lst (b.map D.int))=.ok (.bl (decide (a=b))):=by rw[Uv (VI (n:=15) a) (VI (n:=15) b),cD]
def XB {i:Nat}{L:List Int}(h:L.Perm (B3 i))(n:Nat):(L.take n++(i:Int)::L.drop n).Perm (B3 (i+1)):=by
 have e:B3 (i+1)=B3 i++[(i:Int)]:=by unfold B3;rw[List.range_succ,zK];rfl
 rw[e];refine List.perm_middle.trans ?_;rw[zb7];exact ((h.cons _).trans (List.perm_append_singleton _ _).symm)
def Kc {i:Nat}{ρ:Ae}{ds:List D}{d:D}{p:Int}(hi:ρ[i]?=some (some (.own ds)))(h0:0<=p)(h1:p<ds.length):gF i ρ (.ok (.int p)) d=.ok (.next (ρ.set i (some (.own (ds.set p.toNat d))))):=by
 unfold gF;rw[hi];dsimp only;rw[M.A9];unfold oH;dsimp only;rw[Mu ⟨h0,h1⟩]
def jM {ρ:Ae}:Zo 0 (none::ρ)=none::ρ:=rfl
def cF:∃T Q:Int,WW (.int 10) (.int 60)=.ok (.int T)/\WW (.int 982451653) (.int 7)=.ok (.int Q)/\1000000<T/\T.natAbs<2^200/\0<Q/\Q.natAbs<2^250:=⟨10^60,982451653^7,rfl,rfl,by decide,by decide,by decide,by decide⟩
abbrev O4:Int:=z3 cF
def lI:∃Q:Int,WW (.int 10) (.int 60)=.ok (.int O4)/\WW (.int 982451653) (.int 7)=.ok (.int Q)/\1000000<O4/\O4.natAbs<2^200/\0<Q/\Q.natAbs<2^250:=zt cF
def lJ:WW (.int 10) (.int 60)=.ok (.int O4):=(zt lI).1
def QH:1000000<O4:=(zt lI).2.2.1
def jN {i:Int}:ED (.int i) (.int O4)=.ok (.int (i%O4)):=AZ (by have:=QH;omega)
abbrev cl:Nat->D->Prop
 |0,d=>tE d=false
 |n+1,d=>tE d=false/\∀ds,(d=.tup ds\/d=.lst ds)->∀e∈ds,cl n e
structure J4 (m:Nat)(r:Road):Prop where
 a0:0<=r.a
 a1:r.a<m
 b0:0<=r.b
 b1:r.b<m
 ab:r.a≠r.b
 l0:∀l,r.l=some l->0<=l/\l<O4
 w0:0<=r.w
 w1:r.w<O4
def cG {S:List D}{q:Int}(h:0<S.length)(h0:0<=q):ED (.int q) (.int (S.length:Int))=.ok (.int (q%S.length))/\∃y,y∈S/\AR (.lst S) (.int (q%(S.length:Int)))=.ok y:=by
 have bF:(0:Int)<(S.length:Int):=by omega
 have b0:0<=q%(S.length:Int):=zbf _ (by omega);have b1:q%(S.length:Int)<S.length:=zb9 _ bF;refine⟨AZ bF,S[(q%(S.length:Int)).toNat]'(by omega),zbt _,?_⟩;have:=I9 (f:=λ d:D=>d) (l:=S) b0 (z4 (by omega));rw[List.map_id'] at this;exact this
def jO {a b:OT}:er (.tup [a,b])=.tup [er a,er b]:=by simp[er,OU]
section
variable {α β:Type}{a b c d e f g:α}{x y:β}
def jP:(if [a,b,c,d,e].length<=1000 then x else y)=x:=rfl
def jQ:(if [a,b,c,d,e,f].length<=1000 then x else y)=x:=rfl
def jR:(if [a,b,c,d,e,f,g].length<=1000 then x else y)=x:=rfl
def Mv {t:Bool}:er (.Bo t [] [])=.Bo t [] []:=by simp[er,OU]
end
structure U0 (m:Nat)(rs:List Road)(rk:Int->Nat)(Af:Int->Int->Co):Prop where
 snd:∀x y c,Af x y=some c->Wk rs x y c/\x≠y/\(0<=x/\x<m)/\0<=y/\y<m
 road:∀r∈rs,BI (Af r.a r.b) (Cd r)
 yG:∀p x y,x≠y->rk p<rk x->rk p<rk y->BI (Af x y) (Aj (Af x p) (Af p y))
 inj:∀x y:Int,0<=x->x<m->0<=y->y<m->rk x=rk y->x=y
 nn:∀x y c,Wk rs x y c->0<=c.1/\0<=c.2
inductive Og (Af:Int->Int->Co) (rk:Int->Nat) (s:Int):Int->Int×Int->Prop
 |nil:Og Af rk s s (0,0)
 |snoc {x y:Int} {c d:Int×Int}:Og Af rk s x c->rk x<rk y->Af x y=some d->Og Af rk s y (c.1+d.1,c.2+d.2)
inductive SN (Af:Int->Int->Co) (rk:Int->Nat) (t:Int):Nat->Int->Int×Int->Prop
 |nil:SN Af rk t 0 t (0,0)
 |snoc {n:Nat} {x y:Int} {c d:Int×Int}:SN Af rk t n x c->rk y<rk x->Af x y=some d->SN Af rk t (n+1) y (c.1+d.1,c.2+d.2)
abbrev U1 (p q:Int×Int):Prop:=p.1<q.1\/(p.1=q.1/\p.2<=q.2)
def cH {a:Co}{q:Int×Int}(h:BI a (some q)):∃p,a=some p/\U1 p q:=by
 cases a with
 |none=>exact h.elim
 |some p=>exact⟨p,rfl,h⟩
abbrev UD (Af:Int->Int->Co)(rk:Int->Nat)(s w:Int)(c:Int×Int):Prop:=∃t n c1 c2,Og Af rk s t c1/\SN Af rk t n w c2/\U1 (c1.1+c2.1,c1.2+c2.2) c
section
variable {m:Nat}{rs:List Road}{rk:Int->Nat}{Af Cf:Int->Int->Co}{s w:Int}
def Og.walk (L:U0 m rs rk Af){t:Int}{c:Int×Int}(h:Og Af rk s t c):Wk rs s t c:=by
 induction h with
 |nil=>exact .nil s
 |snoc _ _ ha ih=>exact ih.trans (L.snd _ _ _ ha).1
def SN.walk (L:U0 m rs rk Af){t x:Int}{n:Nat}{c:Int×Int}(h:SN Af rk t n x c):Wk rs t x c:=by
 induction h with
 |nil=>exact .nil t
 |snoc _ _ ha ih=>exact ih.trans (L.snd _ _ _ ha).1
def pF (L:U0 m rs rk Af):∀(n:Nat){t x y:Int}{c1 c2 d:Int×Int},Og Af rk s t c1->SN Af rk t n x c2->Af x y=some d->UD Af rk s y (c1.1+c2.1+d.1,c1.2+c2.2+d.2):=by
 intro n;induction n with
 |zero =>
  intro t x y c1 c2 d hu hd ha;obtain⟨_,ae,hx,hy⟩:=L.snd _ _ _ ha;cases hd with
  |nil =>
   by_cases h:rk y<rk t
   ·exact⟨t,1,c1,_,hu,.snoc .nil h ha,by simp only[U1];omega⟩
   ·have h2:rk t<rk y:=by
     have hq:rk t≠rk y:=λ e=>ae (L.inj t y hx.1 hx.2 hy.1 hy.2 e);omega
    exact⟨y,0,_,_,.snoc hu h2 ha,.nil,by simp only[U1];omega⟩
 |succ n ih =>
  intro t x y c1 c2 d hu hd ha;obtain⟨hw,ae,hx,hy⟩:=L.snd _ _ _ ha;by_cases h:rk y<rk x
  ·exact⟨t,n+2,c1,_,hu,.snoc hd h ha,by simp only[U1];omega⟩
  ·have h2:rk x<rk y:=by
    have hq:rk x≠rk y:=λ e=>ae (L.inj x y hx.1 hx.2 hy.1 hy.2 e);omega
   cases hd with
   | @snoc _ z _ c e bq hr bX =>
    have n1:=L.nn _ _ _ hw;have n2:=L.nn _ _ _ (L.snd _ _ _ bX).1;by_cases hz:z=y
    ·subst hz;exact⟨t,n,c1,c,hu,bq,by simp only[U1];omega⟩
    ·have q:=L.yG x z y hz hr h2;rw[bX,ha] at q;obtain⟨f,hf,hle⟩:=cH q;obtain⟨t',n',p9,qa,g1,g2,g3⟩:=ih hu bq hf;refine⟨t',n',p9,qa,g1,g2,?_⟩;simp only[U1] at *;omega
def jS (L:U0 m rs rk Af){u:Int}{c:Int×Int}(h:Wk rs u w c):∀ {c0:Int×Int},UD Af rk s u c0->UD Af rk s w (c0.1+c.1,c0.2+c.2):=by
 induction h with
 |nil u =>
  intro c0 h;simpa using h
 | @cons r l w c hr hl _ ih =>
  intro c0 h0;obtain⟨t,n,c1,c2,g1,g2,g3⟩:=h0;have q:=L.road r hr;unfold Cd at q;rw[hl] at q;obtain⟨d,hd,hle⟩:=cH q;obtain⟨t',n',p9,qa,k1,k2,k3⟩:=pF L n g1 g2 hd;have r1:=@ih (c0.1+l,c0.2+1) ⟨t',n',p9,qa,k1,k2,by simp only[U1] at *;omega⟩;simpa [zc9] using r1
abbrev Kept (rs:List Road)(Af Cf:Int->Int->Co):Prop:=∀x y c,Cf x y=some c↔(Af x y=some c/\BN rs x y (some c))
def jT (L:U0 m rs rk Af)(K:Kept rs Af Cf){t:Int}{c1:Int×Int}(h:Og Af rk s t c1):∀ {c2:Int×Int},Wk rs t w c2->(∀c,Wk rs s w c->U1 (c1.1+c2.1,c1.2+c2.2) c)->Og Cf rk s t c1:=by
 induction h with
 |nil=>exact λ _ _=>.nil
 | @snoc x y c d hu hr ha ih =>
  intro c2 hw hm;have bX:=(L.snd _ _ _ ha).1;refine .snoc (ih (c2:=(d.1+c2.1,d.2+c2.2)) (bX.trans hw) λ c' be=>?_) hr ((K x y d).mpr ⟨ha,λ e he=>?_,λ p hp=>by cases hp;exact bX⟩)
  ·have:=hm c' be;simp only[U1] at *;omega
  ·have:=hm _ (((hu.walk L).trans he).trans hw);simp only[U1,BI] at *;omega
def jU (L:U0 m rs rk Af)(K:Kept rs Af Cf){t x:Int}{n:Nat}{c2:Int×Int}{c1:Int×Int}(hs:Wk rs s t c1)(h:SN Af rk t n x c2):(∀c,Wk rs s x c->U1 (c1.1+c2.1,c1.2+c2.2) c)->SN Cf rk t n x c2:=by
 induction h with
 |nil=>exact λ _=>.nil
 | @snoc n x y c d hd hr ha ih =>
  intro hm;have bX:=(L.snd _ _ _ ha).1;refine .snoc (ih λ c' be=>?_) hr ((K x y d).mpr ⟨ha,λ e he=>?_,λ p hp=>by cases hp;exact bX⟩)
  ·have:=hm _ (be.trans bX);simp only[U1] at *;omega
  ·have:=hm _ ((hs.trans (hd.walk L)).trans he);simp only[U1,BI] at *;omega
def cI (L:U0 m rs rk Af)(K:Kept rs Af Cf){c:Int×Int}(h:BN rs s w (some c)):∃t n c1 c2,Og Cf rk s t c1/\SN Cf rk t n w c2/\c=(c1.1+c2.1,c1.2+c2.2):=by
 obtain⟨t,n,c1,c2,g1,g2,g3⟩:=jS L (h.2 c rfl) (c0:=(0,0)) ⟨s,0,_,_,.nil,.nil,by simp[U1]⟩;have hw:=(g1.walk L).trans (g2.walk L);have q:=h.1 _ hw;have e:c=(c1.1+c2.1,c1.2+c2.2):=by
  obtain⟨a,b⟩:=c;simp only[U1,BI] at *;refine Prod.ext ?_ ?_<;>dsimp only<;>omega
 refine⟨t,n,c1,c2,jT L K g1 (g2.walk L) λ c' be=>?_,jU L K (g1.walk L) g2 λ c' be=>?_,e⟩
 ·have:=h.1 _ be;rw[e] at this;exact this
 ·have:=h.1 _ be;rw[e] at this;exact this
structure vK (rk:Int->Nat)(Cf:Int->Int->Co)(s:Int)(R:Int->Co):Prop where
 st:BI (R s) (some (0,0))
 cl:∀x y,rk x<rk y->BI (R y) (Aj (R x) (Cf x y))
 sd:∀x c,R x=some c->Og Cf rk s x c
def vK.le {R:Int->Co}(h:vK rk Cf s R){t:Int}{c:Int×Int}(u:Og Cf rk s t c):BI (R t) (some c):=by
 induction u with
 |nil=>exact h.st
 | @snoc x y c d hu hr ha ih =>
  refine Ao (h.cl x y hr) ?_;rw[ha];exact C3 (some d) ih
structure uC (rk:Int->Nat)(Cf:Int->Int->Co)(s:Int)(R T:Int->Co)(m:Nat):Prop where
 top:∀x:Int,0<=x->x<m->BI (T x) (R x)
 cl:∀x y:Int,0<=x->x<m->0<=y->y<m->rk y<rk x->BI (T y) (Aj (T x) (Cf x y))
 sd:∀x c,T x=some c->∃t n c1 c2,Og Cf rk s t c1/\SN Cf rk t n x c2/\c=(c1.1+c2.1,c1.2+c2.2)
def Kept.lK (K:Kept rs Af Cf){x y:Int}{c:Int×Int}(h:Cf x y=some c):Af x y=some c:=((K x y c).mp h).1
def Og.of_kept (K:Kept rs Af Cf){t:Int}{c:Int×Int}(h:Og Cf rk s t c):Og Af rk s t c:=by
 induction h with
 |nil=>exact .nil
 |snoc _ hr ha ih=>exact .snoc ih hr (K.lK ha)
def SN.of_kept (K:Kept rs Af Cf){t x:Int}{n:Nat}{c:Int×Int}(h:SN Cf rk t n x c):SN Af rk t n x c:=by
 induction h with
 |nil=>exact .nil
 |snoc _ hr ha ih=>exact .snoc ih hr (K.lK ha)
def uD (L:U0 m rs rk Af)(K:Kept rs Af Cf){t x:Int}{n:Nat}{c:Int×Int}(h:SN Cf rk t n x c)(ht:0<=t/\t<m):0<=x/\x<m:=by
 cases h with
 |nil=>exact ht
 |snoc _ hr ha=>exact (L.snd _ _ _ (K.lK ha)).2.2.2
def uE (L:U0 m rs rk Af)(K:Kept rs Af Cf){t:Int}{c:Int×Int}(h:Og Cf rk s t c)(ht:0<=s/\s<m):0<=t/\t<m:=by
 cases h with
 |nil=>exact ht
 |snoc _ hr ha=>exact (L.snd _ _ _ (K.lK ha)).2.2.2
def uC.le (L:U0 m rs rk Af)(K:Kept rs Af Cf){R T:Int->Co}(h:uC rk Cf s R T m){t x:Int}{n:Nat}{c1 c2:Int×Int}(ht:0<=t/\t<m)(hT:BI (T t) (some c1))(u:SN Cf rk t n x c2):BI (T x) (some (c1.1+c2.1,c1.2+c2.2)):=by
 induction u with
 |nil=>simpa using hT
 | @snoc n x y c d hd hr ha ih =>
  have hx:=uD L K hd ht;have hy:=(L.snd _ _ _ (K.lK ha)).2.2.2;refine Ao (h.cl x y hx.1 hx.2 hy.1 hy.2 hr) ?_;rw[ha];have:=C3 (some d) ih;simp only[Aj,zc9] at this;exact this
def PD (L:U0 m rs rk Af)(K:Kept rs Af Cf){R T:Int->Co}(hs:0<=s/\s<m)(hR:vK rk Cf s R)(hT:uC rk Cf s R T m){x:Co}(hx:BN rs s w x):BN rs s w (T w):=by
 have key:BI (T w) x:=by
  cases x with
  |none=>cases T w<;>exact trivial
  |some c =>
   obtain⟨t,n,c1,c2,g1,g2,e⟩:=cI L K hx;have ht:=uE L K g1 hs;rw[e];exact hT.le L K ht (Ao (hT.top t ht.1 ht.2) (hR.le g1)) g2
 refine⟨λ c hc=>Ao key (hx.1 c hc),λ p hp=>?_⟩;obtain⟨t,n,c1,c2,g1,g2,rfl⟩:=hT.sd w p hp;exact ((g1.of_kept K).walk L).trans ((g2.of_kept K).walk L)
end
def Wk.turn {rs:List Road}{u w:Int}{c:Int×Int}(h:Wk rs u w c):Wk (rs.map K9) w u c:=by
 induction h with
 |nil u=>exact .nil u
 | @cons r l w c hr hl _ ih =>
  have h1:Wk (rs.map K9) (K9 r).a (K9 r).b (l,1):=Wk.one (zS.mpr ⟨r,hr,rfl⟩) hl;have:=ih.trans h1;have e:(c.1+l,c.2+1)=(l+c.1,1+c.2):=by rw[Int.add_comm,Int.add_comm c.2]
  rw[<-e];exact this
def Ia (rs:List Road):(rs.map K9).map K9=rs:=by
 rw[zak];exact (zbs λ r _=>rfl).trans (List.map_id rs)
def BN.turn {rs:List Road}{u w:Int}{x:Co}(h:BN rs u w x):BN (rs.map K9) w u x:=by
 refine⟨λ c hc=>h.1 c ?_,λ p hp=>(h.2 p hp).turn⟩;have:=hc.turn;rw[Ia] at this;exact this
def U0.turn {m:Nat}{rs:List Road}{rk:Int->Nat}{Af:Int->Int->Co}(L:U0 m rs rk Af):U0 m (rs.map K9) rk (λ x y=>Af y x):=by
 refine⟨λ x y c h=>?_,λ r hr=>?_,λ p x y ae h1 h2=>?_,L.inj,λ x y c h=>?_⟩
 ·obtain⟨a,b,c,d⟩:=L.snd _ _ _ h;exact⟨a.turn,zac b,d,c⟩
 ·obtain⟨r',aX,rfl⟩:=zS.mp hr;exact L.road r' aX
 ·rw[Bc];exact L.yG p y x (zac ae) h2 h1
 ·have:=h.turn;rw[Ia] at this;exact L.nn _ _ _ this
def Kept.turn {rs:List Road}{Af Cf:Int->Int->Co}(K:Kept rs Af Cf):Kept (rs.map K9) (λ x y=>Af y x) (λ x y=>Cf y x):=λ x y c=>by
 refine (K y x c).trans ⟨λ h=>⟨h.1,h.2.turn⟩,λ h=>⟨h.1,?_⟩⟩;have:=h.2.turn;rw[Ia] at this;exact this
section
variable {κ β:Type} [DecidableEq κ]
abbrev Ay:List (κ×β)->κ->Option β
 |[],_=>none
 |(k,v)::r,x=>if k=x then some v else Ay r x
abbrev Dh (A:List (κ×β))(k:κ)(v:β):List (κ×β):=if (Ay A k).isSome=true then A.map λ kv=>if kv.1=k then (kv.1,v) else kv else A++[(k,v)]
def QI (k j:κ)(v:β):∀A:List (κ×β),Ay (A.map λ kv=>if kv.1=k then (kv.1,v) else kv) j=if j=k then (Ay A j).map λ _=>v else Ay A j
 |[]=>by simp[Ay]
 |(k',v')::r=>by
  rw[zx];by_cases h1:k'=k
  ·rw[if_pos h1];subst h1;simp only[Ay];by_cases h2:k'=j
   ·subst h2;simp
   ·rw[if_neg h2,if_neg h2,QI k' j v r]
  ·rw[if_neg h1];simp only[Ay];by_cases h2:k'=j
   ·subst h2;rw[if_pos rfl,if_pos rfl,if_neg h1]
   ·rw[if_neg h2,if_neg h2,QI k j v r]
def Ni (k j:κ)(v:β):∀A:List (κ×β),Ay A k=none->Ay (A++[(k,v)]) j=if j=k then some v else Ay A j
 |[],_=>by
  simp only[List.nil_append,Ay];by_cases h:k=j
  ·subst h;simp
  ·rw[if_neg h,if_neg (zac h)]
 |(k',v')::r,h=>by
  simp only[Ay] at h;by_cases h1:k'=k
  ·rw[if_pos h1] at h;cases h
  ·rw[if_neg h1] at h;rw[zbu];simp only[Ay];rw[Ni k j v r h];by_cases h2:k'=j
   ·subst h2;rw[if_pos rfl,if_pos rfl,if_neg h1]
   ·rw[if_neg h2,if_neg h2]
def Ib (A:List (κ×β))(k j:κ)(v:β):Ay (Dh A k v) j=if j=k then some v else Ay A j:=by
 unfold Dh;by_cases h:(Ay A k).isSome=true
 ·rw[if_pos h,QI];by_cases hj:j=k
  ·subst hj;rw[if_pos rfl,if_pos rfl];obtain⟨x,hx⟩:=zbl.mp h;rw[hx];rfl
  ·rw[if_neg hj,if_neg hj]
 ·rw[if_neg h];exact Ni k j v A (by cases e:Ay A k with|none=>rfl|some x=>rw[e] at h;exact (h rfl).elim)
def Ic:∀ {A:List (κ×β)}{k:κ},(Ay A k).isSome=true↔k∈A.map zX
 |[],k=>by simp[Ay]
 |(k',v')::r,k=>by
  simp only[Ay,zx,zB];by_cases h:k'=k
  ·rw[if_pos h];simp[h]
  ·rw[if_neg h,Ic];simp[zac h]
def Nj {A:List (κ×β)}{k:κ}:Ay A k=none↔k∉A.map zX:=by
 rw[<-Ic];cases Ay A k<;>simp
def SO (A:List (κ×β))(k:κ)(v:β):(Dh A k v).map zX=if (Ay A k).isSome=true then A.map zX else A.map zX++[k]:=by
 unfold Dh;split
 ·rw[zak];refine zbs λ kv _=>?_;dsimp only [Function.comp];split<;>rfl
 ·rw[zK];rfl
def L0 {A:List (κ×β)}{k:κ}{v:β}(h:(A.map zX).Nodup):((Dh A k v).map zX).Nodup:=by
 rw[SO];split
 ·exact h
 ·rename_i hn;rw[Ic] at hn;rw[zQ];exact⟨h,by simp,λ x hx y hy=>by rw[zy.mp hy];exact λ e=>hn (e▸hx)⟩
def Nk {A:List (κ×β)}{k x:κ}{v:β}(h:x∈(Dh A k v).map zX):x∈A.map zX\/x=k:=by
 rw[SO] at h;split at h
 ·exact .inl h
 ·rcases zJ.mp h with h|h
  ·exact .inl h
  ·exact .inr (zy.mp h)
def QJ:∀ {A:List (κ×β)}{k:κ}{v:β},Ay A k=some v->(k,v)∈A
 |(k',v')::r,k,v,h=>by
  simp only[Ay] at h;split at h
  ·rename_i e;cases h;subst e;exact zv
  ·exact zw _ (QJ h)
def cJ:∀ {A:List (κ×β)}{k:κ}{v:β},(A.map zX).Nodup->(k,v)∈A->Ay A k=some v
 |(k',v')::r,k,v,hn,h=>by
  rw[zx,zag] at hn;simp only[Ay];rcases zB.mp h with e|h
  ·cases e;rw[if_pos rfl]
  ·have:k'≠k:=λ e=>hn.1 (e▸zS.mpr ⟨_,h,rfl⟩);rw[if_neg this];exact cJ hn.2 h
variable {kf:κ->D}{vf:β->D}(he:∀a b,Bl (kf a) (kf b)=decide (a=b))
include he
def Kd (A:List (κ×β))(k:κ):LW (A.map λ kv=>kf kv.1) (kf k)=(Ay A k).isSome:=by
 induction A with
 |nil=>rfl
 |cons kv r ih =>
  obtain⟨k',v'⟩:=kv;unfold LW at ih ⊢;rw[zx,zbe,ih,he];simp only[Ay];by_cases h:k'=k
  ·rw[if_pos h,decide_eq_true h];rfl
  ·rw[if_neg h,decide_eq_false h];rfl
def Hb (A:List (κ×β))(k:κ):Gj (A.map λ kv=>kf kv.1) (A.map λ kv=>vf kv.2) (kf k)=(Ay A k).map vf:=by
 induction A with
 |nil=>rfl
 |cons kv r ih =>
  obtain⟨k',v'⟩:=kv;rw[zx,zx,Gj,he,ih];simp only[Ay];by_cases h:k'=k
  ·rw[decide_eq_true h,if_pos rfl,if_pos h];rfl
  ·rw[decide_eq_false h,if_neg zO,if_neg h]
def cK (k:κ)(v:β)(A:List (κ×β)):J0 (A.map λ kv=>kf kv.1) (A.map λ kv=>vf kv.2) (kf k) (vf v)=(A.map λ kv=>if kv.1=k then (kv.1,v) else kv).map λ kv=>vf kv.2:=by
 induction A with
 |nil=>rfl
 |cons kv r ih =>
  obtain⟨k',v'⟩:=kv;rw[zx,zx,J0,he,ih,zx,zx];by_cases h:k'=k
  ·rw[decide_eq_true h,if_pos rfl,if_pos h]
  ·rw[decide_eq_false h,if_neg zO,if_neg h]
def Ke (A:List (κ×β))(k:κ)(v:β):putD (A.map λ kv=>kf kv.1) (A.map λ kv=>vf kv.2) (kf k) (vf v)=((Dh A k v).map (λ kv=>kf kv.1),(Dh A k v).map λ kv=>vf kv.2):=by
 unfold putD Dh;rw[Kd he];by_cases h:(Ay A k).isSome=true
 ·rw[if_pos h,if_pos h,cK he];refine Prod.ext ?_ rfl;dsimp only;rw[zak];refine zbs λ kv _=>?_;dsimp only [Function.comp];split<;>rfl
 ·rw[if_neg h,if_neg h,zK,zK];rfl
end
def Hc (a b:Int):Bl (.int a) (.int b)=decide (a=b):=by
 simp only[Bl];by_cases h:a=b
 ·subst h;simp
 ·simp[h]
noncomputable abbrev LA:=List ((Int×Int)×((Int×Int)×Option Int))
abbrev XC (v:(Int×Int)×Option Int):D:=.tup [cst (some v.1),GW v.2]
abbrev Lp (A:LA):D:=.Bo true (A.map λ kv=>pD kv.1) (A.map λ kv=>XC kv.2)
abbrev Jf (A:LA):OT:=.Bo true (A.map λ kv=>pD kv.1) ((A.map λ kv=>XC kv.2).map .sh)
abbrev Al (A:LA)(p:Int×Int):Co:=(Ay A p).map zX
abbrev layA (A:LA)(p:Int×Int)(c:Co)(mid:Option Int):LA:=match c with
 |none=>A
 |some c=>(match Ay A p with
  |none=>Dh A p (c,mid)
  |some z=>if c.1<z.1.1\/(c.1=z.1.1/\c.2<z.1.2) then Dh A p (c,mid) else A)
def Hd (A:LA)(p q:Int×Int)(c:Co)(mid:Option Int):Al (layA A p c mid) q=if q=p then DQ (Al A p) c else Al A q:=by
 unfold layA Al;cases c with
 |none =>
  by_cases h:q=p
  ·subst h;rw[if_pos rfl];cases Ay A q<;>rfl
  ·rw[if_neg h]
 |some c =>
  cases e:Ay A p with
  |none =>
   dsimp only;rw[Ib];by_cases h:q=p
   ·rw[if_pos h,if_pos h];rfl
   ·rw[if_neg h,if_neg h]
  |some z =>
   dsimp only;by_cases hc:c.1<z.1.1\/(c.1=z.1.1/\c.2<z.1.2)
   ·rw[if_pos hc,Ib];by_cases h:q=p
    ·rw[if_pos h,if_pos h];simp only[zb0,DQ,lG];rw[if_neg (by omega)]
    ·rw[if_neg h,if_neg h]
   ·rw[if_neg hc];by_cases h:q=p
    ·subst h;rw[if_pos rfl,e];simp only[zb0,DQ,lG];rw[if_pos (by omega)]
    ·rw[if_neg h]
def UK (A:LA)(p q:Int×Int)(c:Co)(mid:Option Int):BI (Al (layA A p c mid) q) (Al A q):=by
 rw[Hd];split
 ·rename_i h;subst h;exact EJ _ _
 ·exact Cc _
def cL {A:LA}{p x:Int×Int}{c:Co}{mid:Option Int}(h:x∈(layA A p c mid).map zX):x∈A.map zX\/x=p:=by
 unfold layA at h;split at h
 ·exact .inl h
 ·split at h
  ·exact Nk h
  ·split at h
   ·exact Nk h
   ·exact .inl h
def XD {A:LA}{p:Int×Int}{c:Co}{mid:Option Int}(h:(A.map zX).Nodup):((layA A p c mid).map zX).Nodup:=by
 unfold layA;split
 ·exact h
 ·split
  ·exact L0 h
  ·split
   ·exact L0 h
   ·exact h
abbrev QK (p u:Int)(A:LA)(w:Int):LA:=if u=w then A else layA A (u,w) (Aj (Al A (u,p)) (Al A (p,w))) (some p)
abbrev jV (p:Int)(H:List Int)(A:LA)(u:Int):LA:=H.foldl (QK p u) A
abbrev pG (A:LA)(p:Int)(H:List Int):LA:=H.foldl (jV p H) A
abbrev UL:LA->List Int->LA
 |A,[]=>A
 |A,p::r=>UL (pG A p r) r
abbrev lay0 (rs:List Road):LA:=rs.foldl (λ A r=>layA A (r.a,r.b) (Cd r) none) []
abbrev BY (rs:List Road)(L:List Int):LA:=UL (lay0 rs) L
structure Fp (m:Nat)(A:LA):Prop where
 nd:(A.map zX).Nodup
 rg:∀p∈A.map zX,p.1≠p.2/\(0<=p.1/\p.1<m)/\0<=p.2/\p.2<m
def Fp.lay {m:Nat}{A:LA}(h:Fp m A){p:Int×Int}{c:Co}{mid:Option Int}(hp:p.1≠p.2/\(0<=p.1/\p.1<m)/\0<=p.2/\p.2<m):Fp m (layA A p c mid):=
 ⟨XD h.nd,λ q hq=>(cL hq).elim (h.rg q) λ e=>e▸hp⟩
def Fp.len {m:Nat}{A:LA}(h:Fp m A)(hm:m<=20):A.length<1000:=by
 have:=Cs.len (B:=A.map zX) (m:=m) ⟨h.nd,λ x hx=>(h.rg _ hx).1 rfl,λ q hq=>⟨(h.rg q hq).2.1,(h.rg q hq).2.2⟩⟩ hm;rwa[zu] at this
def Kf {α β:Type}{f:β->α->β}(P:List α->β->Prop):∀ {L pre:List α}{b:β},P pre b->(∀a∈L,∀pre b,P pre b->P (pre++[a]) (f b a))->P (pre++L) (L.foldl f b)
 |[],pre,b,h,_=>by rw[zV];exact h
 |a::L,pre,b,h,hs=>by
  have:=Kf P (L:=L) (hs a zv pre b h) λ x hx=>hs x (zw _ hx);rw[za9] at this;exact this
abbrev jW (rs:List Road)(A:LA):Prop:=∀x y c,Al A (x,y)=some c->Wk rs x y c
def jW.lay {rs:List Road}{A:LA}(h:jW rs A){x y:Int}{c:Co}{mid:Option Int}(hc:∀p,c=some p->Wk rs x y p):jW rs (layA A (x,y) c mid):=λ u w d hd=>by
 rw[Hd] at hd;split at hd
 ·rename_i e;cases e;rcases Bt (Al A (x,y)) c with ⟨e,_⟩|⟨e,_⟩
  ·rw[e] at hd;exact h _ _ _ hd
  ·rw[e] at hd;exact hc d hd
 ·exact h _ _ _ hd
structure Over (m:Nat)(rs:List Road)(p:Int)(H:List Int)(A0 A:LA):Prop where
 ok:Fp m A
 sd:jW rs A
 le:∀q,BI (Al A q) (Al A0 q)
 sm:∀x y,(x∉H\/y∉H)->Al A (x,y)=Al A0 (x,y)
def XE {m:Nat}{rs:List Road}{p:Int}{H:List Int}{A0 A:LA}(hp:p∉H)(hH:∀x∈H,0<=x/\x<m)(h:Over m rs p H A0 A){u w:Int}(hu:u∈H)(hw:w∈H):Over m rs p H A0 (QK p u A w)/\(u≠w->BI (Al (QK p u A w) (u,w)) (Aj (Al A0 (u,p)) (Al A0 (p,w)))):=by
 unfold QK;by_cases e:u=w
 ·rw[if_pos e];exact⟨h,λ z=>(z e).elim⟩
 ·rw[if_neg e];have e1:=h.sm u p (.inr hp);have e2:=h.sm p w (.inl hp);refine⟨⟨h.ok.lay ⟨e,hH u hu,hH w hw⟩,h.sd.lay λ c hc=>?_,λ q=>Ao (UK _ _ _ _ _) (h.le q),λ x y bW=>?_⟩,λ _=>?_⟩
  ·obtain⟨a,b,ha,hb,rfl⟩:=E5 hc;exact (h.sd _ _ _ ha).trans (h.sd _ _ _ hb)
  ·rw[Hd,if_neg (λ z=>by cases z;exact bW.elim (λ q=>q hu) λ q=>q hw)];exact h.sm x y bW
  ·rw[Hd,if_pos rfl,e1,e2];exact EK _ _
def lL {p u:Int}{A:LA}{w:Int}(q:Int×Int):BI (Al (QK p u A w) q) (Al A q):=by
 unfold QK;split
 ·exact Cc _
 ·exact UK _ _ _ _ _
def lM {p u:Int}(q:Int×Int):∀(H:List Int) (A:LA),BI (Al (H.foldl (QK p u) A) q) (Al A q)
 |[],A=>Cc _
 |w::H,A=>Ao (lM q H (QK p u A w)) (lL q)
def pH {m:Nat}{rs:List Road}{p:Int}{H:List Int}{A0 A:LA}(hp:p∉H)(hH:∀x∈H,0<=x/\x<m)(h:Over m rs p H A0 A){u:Int}(hu:u∈H):Over m rs p H A0 (jV p H A u)/\∀w∈H,u≠w->BI (Al (jV p H A u) (u,w)) (Aj (Al A0 (u,p)) (Al A0 (p,w))):=by
 unfold jV;have:=Kf (L:=H) (pre:=[]) (f:=QK p u) (b:=A) (λ W A=>Over m rs p H A0 A/\∀w∈W,u≠w->BI (Al A (u,w)) (Aj (Al A0 (u,p)) (Al A0 (p,w)))) ⟨h,λ w hw=>by cases hw⟩ λ w hw W B hB=>by
  obtain⟨b1,b2⟩:=hB;obtain⟨c1,c2⟩:=XE hp hH b1 hu hw;refine⟨c1,λ x hx ae=>?_⟩;rcases zJ.mp hx with hx|hx
  ·exact Ao (lL _) (b2 x hx ae)
  ·rw[zy.mp hx] at ae ⊢;exact c2 ae
 exact this
def cM {m:Nat}{rs:List Road}{p:Int}{H:List Int}{A:LA}(hp:p∉H)(hH:∀x∈H,0<=x/\x<m)(h1:Fp m A)(h2:jW rs A):Over m rs p H A (pG A p H)/\∀u∈H,∀w∈H,u≠w->BI (Al (pG A p H) (u,w)) (Aj (Al A (u,p)) (Al A (p,w))):=by
 unfold pG;have:=Kf (L:=H) (pre:=[]) (f:=jV p H) (b:=A) (λ U B=>Over m rs p H A B/\∀u∈U,∀w∈H,u≠w->BI (Al B (u,w)) (Aj (Al A (u,p)) (Al A (p,w)))) ⟨⟨h1,h2,λ q=>Cc _,λ x y _=>rfl⟩,λ u hu=>by cases hu⟩ λ u hu U B hB=>by
  obtain⟨b1,b2⟩:=hB;obtain⟨c1,c2⟩:=pH hp hH b1 hu;refine⟨c1,λ x hx w hw ae=>?_⟩;rcases zJ.mp hx with hx|hx
  ·exact Ao (lM _ H B) (b2 x hx w hw ae)
  ·rw[zy.mp hx] at ae ⊢;exact c2 w hw ae
 exact this
def QL {m:Nat}{rs:List Road}(Ar:∀r∈rs,GX m r/\r.a≠r.b):Fp m (lay0 rs)/\jW rs (lay0 rs)/\∀r∈rs,BI (Al (lay0 rs) (r.a,r.b)) (Cd r):=by
 unfold lay0;have:=Kf (L:=rs) (pre:=[]) (f:=λ A r=>layA A (r.a,r.b) (Cd r) none) (b:=[]) (λ W A=>Fp m A/\jW rs A/\∀r∈W,BI (Al A (r.a,r.b)) (Cd r)) ⟨⟨by simp,λ p hp=>by cases hp⟩,⟨(λ _ _ _ h=>by cases h),λ r hr=>by cases hr⟩⟩ λ r hr W B hB=>by
  obtain⟨b1,b2,b3⟩:=hB;obtain⟨o1,o2⟩:=Ar r hr;refine⟨b1.lay ⟨o2,⟨o1.a0,o1.a1⟩,o1.b0,o1.b1⟩,b2.lay λ c hc=>?_,λ x hx=>?_⟩
  ·obtain⟨l,hl,rfl⟩:=Ka hc;exact Wk.one hr hl
  ·rcases zJ.mp hx with hx|hx
   ·exact Ao (UK _ _ _ _ _) (b3 x hx)
   ·rw[zy.mp hx,Hd,if_pos rfl];exact EK _ _
 exact this
abbrev DU:List Int->Int->Nat
 |[],_=>0
 |a::l,x=>if a=x then 0 else DU l x+1
def Wm:∀ {pre post:List Int}{p:Int},p∉pre->DU (pre++p::post) p=pre.length
 |[],post,p,_=>by simp[DU]
 |a::pre,post,p,h=>by
  rw[zB,not_or] at h;rw[zbu,DU,if_neg (zac h.1),Wm h.2];rfl
def UM:∀ {pre post:List Int}{x:Int},x∈pre->DU (pre++post) x<pre.length
 |a::pre,post,x,h=>by
  rw[zbu,DU];by_cases e:a=x
  ·rw[if_pos e];simp
  ·rw[if_neg e,z7];have:=UM (post:=post) ((zB.mp h).resolve_left (zac e));omega
def QM:∀ {pre post:List Int}{x:Int},x∉pre->pre.length<=DU (pre++post) x
 |[],post,x,_=>za6 _
 |a::pre,post,x,h=>by
  rw[zB,not_or] at h;rw[zbu,DU,if_neg (zac h.1),z7];have:=QM (post:=post) h.2;omega
def QN:∀ {L:List Int}{x y:Int},x∈L->y∈L->DU L x=DU L y->x=y
 |a::l,x,y,hx,hy,e=>by
  rw[DU,DU] at e;by_cases h1:a=x
  ·by_cases h2:a=y
   ·rw[<-h1,<-h2]
   ·rw[if_pos h1,if_neg h2] at e;omega
  ·by_cases h2:a=y
   ·rw[if_neg h1,if_pos h2] at e;omega
   ·rw[if_neg h1,if_neg h2] at e;exact QN ((zB.mp hx).resolve_left (zac h1)) ((zB.mp hy).resolve_left (zac h2)) (by omega)
def UN {L:List Int}{x:Int}(h:DU L x<L.length):x∈L:=by
 refine zbg λ hn=>?_;have:=QM (pre:=L) (post:=[]) hn;rw[zV] at this;omega
def cN:∀(L:List Int) (x:Int),DU L x<=L.length
 |[],_=>zF _
 |a::l,x=>by
  rw[DU,z7];split
  ·omega
  ·have:=cN l x;omega
def Lq:∀ {L:List Int}{p:Int},p∈L->∃pre post,L=pre++p::post/\p∉pre
 |a::l,p,h=>by
  by_cases ha:a=p
  ·subst ha;exact⟨[],l,rfl,by simp⟩
  ·obtain⟨pre,post,e2,hn⟩:=Lq ((zB.mp h).resolve_left (zac ha));exact⟨a::pre,post,by rw[zbu,<-e2],by simp[zac ha,hn]⟩
def cO {L:List Int}{p:Int}(h:DU L p<L.length):∃pre post,L=pre++p::post/\p∉pre/\∀x,DU L p<DU L x->x∈L->x∈post:=by
 obtain⟨pre,post,e,hn⟩:=Lq (UN h);refine⟨pre,post,e,hn,λ x hr hx=>?_⟩;subst e;rw[Wm hn] at hr;rcases zJ.mp hx with hx|hx
 ·have:=UM (post:=p::post) hx;omega
 ·rcases zB.mp hx with rfl|hx
  ·rw[Wm hn] at hr;omega
  ·exact hx
def pI {m:Nat}{rs:List Road}{L:List Int}(hL:L.Nodup)(hr:∀x∈L,0<=x/\x<m):∀(post pre:List Int) (A:LA),L=pre++post->Fp m A->jW rs A->(∀r∈rs,BI (Al A (r.a,r.b)) (Cd r))->
 (∀pa p pb,L=pa++p::pb->pa.length<pre.length->∀x∈pb,∀y∈pb,x≠y->BI (Al A (x,y)) (Aj (Al A (x,p)) (Al A (p,y))))->
 Fp m (UL A post)/\jW rs (UL A post)/\(∀r∈rs,BI (Al (UL A post) (r.a,r.b)) (Cd r))/\∀pa p pb,L=pa++p::pb->∀x∈pb,∀y∈pb,x≠y->BI (Al (UL A post) (x,y)) (Aj (Al (UL A post) (x,p)) (Al (UL A post) (p,y))):=by
 intro post;induction post with
 |nil =>
  intro pre A e h1 h2 h3 h4;rw[zV] at e;refine⟨h1,h2,h3,λ pa p pb e2=>h4 pa p pb e2 ?_⟩;rw[<-e,e2,zW,z7];omega
 |cons p post ih =>
  intro pre A e h1 h2 h3 h4;rw[UL];have hn:(pre++p::post).Nodup:=e▸hL;rw[zQ,zag] at hn;have bi:∀x∈post,0<=x/\x<m:=λ x hx=>hr x (by rw[e];simp[hx]);obtain⟨o,ov⟩:=cM (p:=p) hn.2.1.1 bi h1 h2;refine ih (pre++[p]) (pG A p post) (by rw[e];simp) o.ok o.sd (λ r aX=>Ao (o.le _) (h3 r aX)) λ pa q pb e2 af x hx y hy ae=>?_;rw[zW,zav] at af;by_cases hq:pa.length<pre.length
  ·-- an l7 one
   have sv:q∉post:=λ ff=>by
    have e3:pre++p::post=pa++q::pb:=by rw[<-e,e2]
    have q1:q∈pre:=by
     have:=congrArg (λ l=>l[pa.length]?) e3;rw[zar hq,zb4 (zF _),Nat.sub_self] at this;exact zI this
    exact hn.2.2 q q1 q (zw _ ff) rfl
   rw[o.sm x q (.inr sv),o.sm q y (.inl sv)];exact Ao (o.le _) (h4 pa q pb e2 hq x hx y hy ae)
  ·have ao:pa.length=pre.length:=by omega
   have e3:pa++q::pb=pre++p::post:=by rw[<-e2,e]
   obtain⟨rfl,e4⟩:=List.append_inj e3 ao;cases e4;rw[o.sm x p (.inr hn.2.1.1),o.sm p y (.inl hn.2.1.1)];exact ov x hx y hy ae
def Nl {m:Nat}{rs:List Road}{L:List Int}(hL:L.Perm (B3 m))(Ar:∀r∈rs,GX m r/\r.a≠r.b):Fp m (BY rs L)/\U0 m rs (DU L) (λ x y=>Al (BY rs L) (x,y)):=by
 have jq:L.Nodup:=FH hL;obtain⟨a1,a2,a3⟩:=QL Ar;obtain⟨b1,b2,b3,b4⟩:=pI jq (λ x hx=>(AW hL).mp hx) L [] (lay0 rs) rfl a1 a2 a3 (λ pa p pb _ h=>by simp at h);refine⟨b1,λ x y c h=>?_,b3,λ p x y ae h1 h2=>?_,λ x y x0 x1 y0 y1 e=>QN ((AW hL).mpr ⟨x0,x1⟩) ((AW hL).mpr ⟨y0,y1⟩) e,λ x y c h=>Wk.nn (λ r hr=>(Ar r hr).1) h⟩
 ·have hm:(x,y)∈(UL (lay0 rs) L).map zX:=by
   rw[<-Ic];unfold Al at h;cases q:Ay (BY rs L) (x,y) with
   |none=>rw[q] at h;cases h
   |some z=>unfold BY at q;rw[q];rfl
  have:=b1.rg _ hm;exact⟨b2 _ _ _ h,this.1,this.2.1,this.2.2⟩
 ·have aR:∀ {x y:Int} {c:Int×Int},Al (BY rs L) (x,y)=some c->x∈L/\y∈L:=fun {x y c} h=>by
   have hm:(x,y)∈(UL (lay0 rs) L).map zX:=by
    rw[<-Ic];unfold Al at h;cases q:Ay (BY rs L) (x,y) with
    |none=>rw[q] at h;cases h
    |some z=>unfold BY at q;rw[q];rfl
   have:=b1.rg _ hm;exact⟨(AW hL).mpr this.2.1,(AW hL).mpr this.2.2⟩
  have ao:DU L p<L.length:=zL h1 (cN L x);obtain⟨pre,post,e,hn,d9⟩:=cO ao;cases q1:Al (BY rs L) (x,p) with
  |none=>cases Al (BY rs L) (x,y)<;>exact trivial
  |some c1 =>
   cases q2:Al (BY rs L) (p,y) with
   |none=>cases Al (BY rs L) (x,y)<;>exact trivial
   |some c2 =>
    have r:=b4 pre p post e x (d9 x h1 (aR q1).1) y (d9 y h2 (aR q2).2) ae;rw[<-q1,<-q2];exact r
noncomputable abbrev CA:=List ((Int×Int)×(Int×Int))
abbrev Mw (C:CA):D:=.Bo true (C.map λ kv=>pD kv.1) (C.map λ kv=>cst (some kv.2))
abbrev qR (C:CA):OT:=.Bo true (C.map λ kv=>pD kv.1) ((C.map λ kv=>cst (some kv.2)).map .sh)
noncomputable abbrev RA:=List (Int×(Int×Int))
abbrev SQ (R:RA):D:=.Bo false (R.map λ kv=>D.int kv.1) (R.map λ kv=>cst (some kv.2))
abbrev Ye (R:RA):OT:=.Bo false (R.map λ kv=>D.int kv.1) ((R.map λ kv=>cst (some kv.2)).map .sh)
def QO (A:LA):er (Jf A)=Lp A:=J1
def QP (C:CA):er (qR C)=Mw C:=J1
def QQ (R:RA):er (Ye R)=SQ R:=J1
def L1 (i:Int):keyOk false (.int i)=true:=rfl
def QR (A:LA)(p:Int×Int)(neg:Bool):Jy neg (pD p) (Lp A)=.ok (.bl (if neg=true then !(Ay A p).isSome else (Ay A p).isSome)):=by
 unfold Lp Jy;dsimp only;rw[if_pos (GZ p),Kd GY]
def QS {A:LA}{p:Int×Int}{v:(Int×Int)×Option Int}(h:Ay A p=some v):AR (Lp A) (pD p)=.ok (XC v):=by
 unfold Lp AR;dsimp only;rw[if_pos (GZ p),Hb GY,h];rfl
def pJ (C:CA)(p:Int×Int)(neg:Bool):Jy neg (pD p) (Mw C)=.ok (.bl (if neg=true then !(Ay C p).isSome else (Ay C p).isSome)):=by
 unfold Mw Jy;dsimp only;rw[if_pos (GZ p),Kd GY]
def pK {C:CA}{p:Int×Int}{c:Int×Int}(h:Ay C p=some c):AR (Mw C) (pD p)=.ok (cst (some c)):=by
 unfold Mw AR;dsimp only;rw[if_pos (GZ p),Hb (vf:=λ c=>cst (some c)) GY,h];rfl
def pL (C:CA)(p:Int×Int):Pq (Mw C) (.ok (pD p))=.ok (cst (Ay C p)):=by
 unfold Mw Pq;simp only[M.A9];rw[if_pos (GZ p),Hb (vf:=λ c=>cst (some c)) GY];cases Ay C p<;>rfl
def cP (R:RA)(p:Int)(neg:Bool):Jy neg (.int p) (SQ R)=.ok (.bl (if neg=true then !(Ay R p).isSome else (Ay R p).isSome)):=by
 unfold SQ Jy;dsimp only;rw[if_pos (L1 p),Kd (kf:=D.int) Hc]
def cQ {R:RA}{p:Int}{c:Int×Int}(h:Ay R p=some c):AR (SQ R) (.int p)=.ok (cst (some c)):=by
 unfold SQ AR;dsimp only;rw[if_pos (L1 p),Hb (kf:=D.int) (vf:=λ c=>cst (some c)) Hc,h];rfl
def cR (R:RA)(p:Int):Pq (SQ R) (.ok (.int p))=.ok (cst (Ay R p)):=by
 unfold SQ Pq;simp only[M.A9];rw[if_pos (L1 p),Hb (kf:=D.int) (vf:=λ c=>cst (some c)) Hc];cases Ay R p<;>rfl
def cS (A:LA)(p:Int×Int)(v:(Int×Int)×Option Int):putD (A.map λ kv=>pD kv.1) (A.map λ kv=>XC kv.2) (pD p) (XC v)=((Dh A p v).map (λ kv=>pD kv.1),(Dh A p v).map λ kv=>XC kv.2):=Ke GY A p v
def pM (R:RA)(p:Int)(c:Int×Int):putD (R.map λ kv=>D.int kv.1) (R.map λ kv=>cst (some kv.2)) (.int p) (cst (some c))=((Dh R p c).map (λ kv=>D.int kv.1),(Dh R p c).map λ kv=>cst (some kv.2)):=Ke (kf:=D.int) (vf:=λ c=>cst (some c)) Hc R p c
def QT {α:Type}(k v:α->D):∀l:List α,QC (l.map λ x=>.tup [k x,v x])=some (l.map λ x=>(k x,v x))
 |[]=>rfl
 |x::l=>by rw[zx,QC,QT k v l];rfl
def lN:∀(C C0:CA),((C0++C).map zX).Nodup->(C.map λ kv=>(pD kv.1,cst (some kv.2))).foldl (λ z kv=>putD z.1 z.2 kv.1 kv.2) (C0.map (λ kv=>pD kv.1),C0.map λ kv=>cst (some kv.2))=((C0++C).map (λ kv=>pD kv.1),(C0++C).map λ kv=>cst (some kv.2))
 |[],C0,_=>by simp
 |kv::C,C0,hn=>by
  obtain⟨p,c⟩:=kv;rw[zx,zP];dsimp only;have h0:Ay C0 p=none:=by
   rw[Nj];intro hm;rw[zK,zQ] at hn;exact hn.2.2 p hm p (by simp) rfl
  have e:Dh C0 p c=C0++[(p,c)]:=by unfold Dh;rw[h0];rfl
  rw[Ke (vf:=λ c=>cst (some c)) GY,e,lN C (C0++[(p,c)]) (by rw[za9];exact hn),za9];rfl
def cT {C:CA}(hn:(C.map zX).Nodup)(hl:C.length<=1000):jB (.lst (C.map λ kv=>.tup [pD kv.1,cst (some kv.2)]))=.ok (qR C):=by
 unfold jB;dsimp only;rw[QT (λ kv:(Int×Int)×(Int×Int)=>pD kv.1) (λ kv=>cst (some kv.2))];dsimp only;have e:=lN C [] hn;rw[if_pos ⟨by rw[zu];exact hl,by rw[List.all_map];exact List.all_eq_true.mpr λ x _=>rfl⟩];have e2:lF (C.map λ kv=>(pD kv.1,cst (some kv.2)))=(C.map (λ kv=>pD kv.1),C.map λ kv=>cst (some kv.2)):=e;rw[e2];rfl
abbrev AG (m:Nat)(rs:List Road)(L:List Int)(A:LA)(K:List (Int×Int)):D:=.ins "Ladder" ["own_map","own_order","laid","kept_ones"] [Aq m rs,.lst (L.map D.int),Lp A,.lst (K.map pD)]
structure BO (m:Nat)(rs:List Road)(L:List Int)(A:LA)(K:List (Int×Int)):Prop where
 m1:1<=m
 m2:m<=16
 rl:rs.length<=60
 ok:∀r∈rs,GX m r/\r.a≠r.b
 pm:L.Perm (B3 m)
 la:A=BY rs L
 kn:K.Nodup
 km:∀p,p∈K↔∃c,Al A p=some c/\BN rs p.1 p.2 (some c)
def BO.xF {m:Nat}{rs:List Road}{L:List Int}{A:LA}{K:List (Int×Int)}(h:BO m rs L A K):Fp m A:=by
 rw[h.la];exact (Nl h.pm h.ok).1
def BO.lK {m:Nat}{rs:List Road}{L:List Int}{A:LA}{K:List (Int×Int)}(h:BO m rs L A K):U0 m rs (DU L) (λ x y=>Al A (x,y)):=by
 rw[h.la];exact (Nl h.pm h.ok).2
def Fg {A:LA}{p:Int×Int}{c:Int×Int}(h:Al A p=some c):p∈A.map zX:=by
 rw[<-Ic];unfold Al at h;cases q:Ay A p with
 |none=>rw[q] at h;cases h
 |some z=>rfl
def BO.Y7 {m:Nat}{rs:List Road}{L:List Int}{A:LA}{K:List (Int×Int)}(h:BO m rs L A K){p:Int×Int}(hp:p∈K):p.1≠p.2/\(0<=p.1/\p.1<m)/\0<=p.2/\p.2<m:=by
 obtain⟨c,hc,_⟩:=(h.km p).mp hp;exact h.xF.rg p (Fg hc)
def BO.kl {m:Nat}{rs:List Road}{L:List Int}{A:LA}{K:List (Int×Int)}(h:BO m rs L A K):K.length<1000:=
 Cs.len (m:=m) ⟨h.kn,λ x hx=>(h.Y7 hx).1 rfl,λ q hq=>⟨(h.Y7 hq).2.1,(h.Y7 hq).2.2⟩⟩ (by have:=h.m2;omega)
abbrev Iv (A:LA)(K:List (Int×Int)):CA:=K.map λ p=>(p,(Al A p).getD (0,0))
def Nm (A:LA)(K:List (Int×Int)):(Iv A K).map zX=K:=by
 unfold Iv;rw[zak];exact (zbs λ p _=>rfl).trans (List.map_id K)
def BO.kept {m:Nat}{rs:List Road}{L:List Int}{A:LA}{K:List (Int×Int)}(h:BO m rs L A K):Kept rs (λ x y=>Al A (x,y)) (λ x y=>Ay (Iv A K) (x,y)):=λ x y c=>by
 have hn:((Iv A K).map zX).Nodup:=by rw[Nm];exact h.kn
 constructor
 ·intro hf;have hm:=QJ hf;unfold Iv at hm;obtain⟨p,hp,e⟩:=zS.mp hm;obtain⟨c',hc,bn⟩:=(h.km p).mp hp;rw[hc] at e;cases e;exact⟨hc,bn⟩
 ·rintro ⟨h1,h2⟩;refine cJ hn ?_;unfold Iv;exact zS.mpr ⟨(x,y),(h.km (x,y)).mpr ⟨c,h1,h2⟩,by rw[show Al A (x,y)=some c from h1];rfl⟩
abbrev SR (C:CA):CA:=C.map λ kv=>((kv.1.2,kv.1.1),kv.2)
def XF {C:CA}(h:(C.map zX).Nodup):((SR C).map zX).Nodup:=by
 have e:(SR C).map zX=(C.map zX).map λ p=>(p.2,p.1):=by
  unfold SR;rw[zak,zak];rfl
 rw[e];exact (List.pairwise_map.mpr (h.imp fun {a b} iu e=>iu (by cases a;cases b;cases e;rfl)))
def QU (x y:Int):∀C:CA,Ay (SR C) (x,y)=Ay C (y,x)
 |[]=>rfl
 |((a,b),c)::C=>by
  unfold SR;rw[zx,Ay,Ay];have:=QU x y C;unfold SR at this;rw[this];by_cases h:a=y/\b=x
  ·rw[if_pos (by rw[h.1,h.2]),if_pos (by rw[h.1,h.2])]
  ·rw[if_neg (λ e=>h (by cases e;exact⟨rfl,rfl⟩)),if_neg (λ e=>h (by cases e;exact⟨rfl,rfl⟩))]
def uF (p q:Int×Int):ZL (cst (some p)) (cst (some q))=.ok (.bl (decide (p.1<q.1\/(p.1=q.1/\p.2<q.2)))):=by
 rw[<-ET];rfl
def UO {m:M Out}{t r:OT}(h:WP m (λ ρ=>GQ ρ=some t/\OT.sh .AL=r) (λ o=>match o with | .F7 r' ρ=>GQ ρ=some t/\r'=r | _=>False) (λ _=>False)):Ei m=.ok (t,r):=by
 cases m with
 |bad|ex x=>exact h.elim
 |ok o =>
  cases o with
  |next ρ=>obtain⟨h1,h2⟩:=(show GQ ρ=some t/\OT.sh .AL=r from h);unfold Ei;dsimp only;rw[h1,<-h2]
  |F7 r' ρ=>obtain⟨h1,h2⟩:=(show GQ ρ=some t/\r'=r from h);unfold Ei;dsimp only;rw[h1,<-h2]
  |ret d|CO d|brk d|cont d=>exact h.elim
def L3 {F:OT->List D->M (OT×OT)}{ρ:Ae}{p:Option Nat}{t t2 r:OT}{aw:List D}{i:Nat}(h:ρ[i]?=some (some (.ow (.tree p t))))(hN:Zu t=true)(hF:F t aw=.ok (t2,r)):Sl i F ρ [] aw=.ok (ρ.set i (some (toCl p t2)),r):=by
 rw[Zv h rfl rfl hN hF,Ef]
def E6 {A:LA}{p:Option Nat}{ρ:Ae}:Ga 0 (some (.ow (.tree p (Jf A)))::ρ) []=.ok (true,A.map (λ kv=>pD kv.1),A.map λ kv=>XC kv.2):=De
def Ie {R:RA}{p:Option Nat}{ρ:Ae}:Ga 0 (some (.ow (.tree p (Ye R)))::ρ) []=.ok (false,R.map (λ kv=>D.int kv.1),R.map λ kv=>cst (some kv.2)):=De
def Fp.ov {m:Nat}{A:LA}(h:Fp m A){p u w:Int}(hu:0<=u/\u<m)(hw:0<=w/\w<m):Fp m (QK p u A w):=by
 unfold QK;split
 ·exact h
 ·rename_i e;exact h.lay ⟨e,hu,hw⟩
def Fp.ou {m:Nat}{p u:Int}(hu:0<=u/\u<m):∀ {H:List Int}{A:LA},Fp m A->(∀x∈H,0<=x/\x<m)->Fp m (H.foldl (QK p u) A)
 |[],A,h,_=>h
 |w::H,A,h,hH=>by
  have r:=Fp.ou (A:=QK p u A w) (H:=H) (p:=p) hu (h.ov hu (hH w zv)) λ x hx=>hH x (zw _ hx);exact r
def Em {α β:Type}{f:β->α->β}{l:List α}{i:Nat}{x:α}{b:β}(h:l[i]?=some x):(l.take (i+1)).foldl f b=f ((l.take i).foldl f b) x:=by
 rw[za4,h,Option.toList_some,zc7];rfl
def Fp.lo {m:Nat}{p:Int}{H0:List Int}(h0:∀x∈H0,0<=x/\x<m):∀ {H:List Int}{A:LA},Fp m A->(∀x∈H,0<=x/\x<m)->Fp m (H.foldl (jV p H0) A)
 |[],A,h,_=>h
 |w::H,A,h,hH=>by
  have r:=Fp.lo (p:=p) (A:=jV p H0 A w) (H:=H) h0 (Fp.ou (hH w zv) h h0) λ x hx=>hH x (zw _ hx);exact r
def Mx (c:Co):TV (.ok (.sh (cst c)))=.ok (.sh (cst c)):=by
 cases c<;>rfl
abbrev xG (a b:List Co×Bool):Prop:=b.2=true/\(a.2=false\/(a.2=true/\O3 ltN a.1 b.1))
def pN (x:List Co):Acc xG (x,false):=.intro _ λ y h=>by cases h.1
def pO (x:List Co):Acc xG (x,true):=by
 have:=Xr x;induction this with
 |intro x _ ih =>
  refine .intro _ λ y h=>?_;obtain⟨y,b⟩:=y;rcases h.2 with e|⟨e,h2⟩
  ·dsimp only at e;subst e;exact pN y
  ·dsimp only at e;subst e;exact ih y h2
def UP (n:Nat):C9 0 n=(B3 n).map D.int:=by rw[MT,Ng]
def J4.yH {m:Nat}{r:Road}(h:J4 m r):GX m r/\r.a≠r.b:=⟨⟨h.a0,h.a1,h.b0,h.b1,λ l hl=>(h.l0 l hl).1⟩,h.ab⟩
abbrev KP (rs:List Road)(A:LA)(p:Int×Int):Prop:=∃c,Al A p=some c/\BN rs p.1 p.2 (some c)
abbrev uG (A:LA)(cs:List Co)(u w:Int):Bool:=match Al A (u,w) with
 |none=>false
 |some c=>decide (some c=atC cs w)
def cU {m s:Nat}{rs:List Road}{cs:List Co}{A:LA}(hR:Right m s rs cs)(Ar:∀r∈rs,GX m r){w:Int}(h0:0<=w)(h1:w<m):uG A cs s w=true↔KP rs A (s,w):=by
 have hm:=hR.ZV Ar h0 h1;unfold uG KP;cases q:Al A ((s:Int),w) with
 |none=>simp
 |some c =>
  dsimp only;constructor
  ·intro h;have e:=of_decide_eq_true h;exact⟨c,rfl,e▸hm⟩
  ·rintro ⟨c',e,h⟩;cases e;exact decide_eq_true (h.Cj hm)
def pQ {m:Nat}{rs:List Road}{A:LA}{K:List (Int×Int)}(hA:Fp m A)(hm:m<=20)(hn:K.Nodup)(hK:∀p∈K,KP rs A p):K.length<1000:=by
 have hr:∀p∈K,p.1≠p.2/\(0<=p.1/\p.1<m)/\0<=p.2/\p.2<m:=λ p hp=>by
  obtain⟨c,hc,_⟩:=hK p hp;exact hA.rg p (Fg hc)
 exact Cs.len (m:=m) ⟨hn,λ x hx=>(hr _ hx).1 rfl,λ q hq=>⟨(hr q hq).2.1,(hr q hq).2.2⟩⟩ hm
def L4:∀ds:List D,(∀d∈ds,Jr d=true)->G9 (ds.map .sh)=true
 |[],_=>rfl
 |d::ds,h=>by
  rw[zx,G9,GJ,h d zv,L4 ds λ x hx=>h x (zw _ hx)];rfl
def Nn {ds:List D}(h:∀d∈ds,Jr d=true):TV (.ok (.lst (ds.map .sh)))=.ok (.lst (ds.map .sh)):=by
 unfold TV;simp only[M.A9];rw[GJ,L4 ds h];rfl
def cV (L:List Int):TV (.ok (.lst ((L.map D.int).map .sh)))=.ok (.lst ((L.map D.int).map .sh)):=Nn λ d hd=>by
 obtain⟨x,_,rfl⟩:=zS.mp hd;rfl
def jX (K:List (Int×Int)):TV (.ok (.lst ((K.map pD).map .sh)))=.ok (.lst ((K.map pD).map .sh)):=Nn λ d hd=>by
 obtain⟨x,_,rfl⟩:=zS.mp hd;exact cB x
def cW (cs:List Co):TV (.ok (.lst ((cs.map cst).map .sh)))=.ok (.lst ((cs.map cst).map .sh)):=Nn λ d hd=>by
 obtain⟨x,_,rfl⟩:=zS.mp hd;exact Wi x
def pR (v:(Int×Int)×Option Int):Jr (XC v)=true:=by
 obtain⟨c,l⟩:=v;cases l<;>rfl
def jY (A:LA):TV (.ok (Jf A))=.ok (Jf A):=by
 unfold TV Jf;simp only[M.A9];rw[GJ,L4 _ λ d hd=>by
  obtain⟨x,_,rfl⟩:=zS.mp hd;exact pR x.2]
 rfl
def QV {L:List Int}(hn:L.Nodup){i:Nat}{x:Int}(h:L[i]?=some x):DU L x=i:=by
 have af:=(zG.mp h).1;have e:L=L.take i++x::L.drop (i+1):=by
  have h2:L.drop i=x::L.drop (i+1):=by
   rw[zbi af];rw[z4 af] at h;rw[zT h]
  rw[<-h2,zb7]
 have hx:x∉L.take i:=λ hm=>by
  rw[e,zQ] at hn;exact hn.2.2 x hm x zv rfl
 rw[e,Wm hx,zaf];omega
def Wn {L:List Int}(hn:L.Nodup){i:Nat}{y:Int}(h:y∈L.drop i):i<=DU L y:=by
 have hy:y∉L.take i:=λ hm=>by
  rw[<-zb7 i L,zQ] at hn;exact hn.2.2 y hm y h rfl
 have h1:=QM (pre:=L.take i) (post:=L.drop i) hy;rw[zb7,zaf] at h1;have h2:L.drop i≠[]:=λ e=>by rw[e] at h;cases h
 have h3:i<L.length:=by
  rw[Ne,List.drop_eq_nil_iff] at h2;omega
 omega
def jZ {L:List Int}{i:Nat}{y:Int}(h:y∈L)(hr:i<=DU L y):y∈L.drop i:=by
 rw[<-zb7 i L] at h;rcases zJ.mp h with h|h
 ·have h1:=UM (post:=L.drop i) h;rw[zb7,zaf] at h1;omega
 ·exact h
structure RD (L:List Int)(C:CA)(s:Int)(i:Nat)(R:RA):Prop where
 nd:(R.map zX).Nodup
 rg:∀k∈R.map zX,k∈L
 st:BI (Ay R s) (some (0,0))
 sd:∀y c,Ay R y=some c->Og (λ x y=>Ay C (x,y)) (DU L) s y c
 cl:∀x y,DU L x<i->DU L x<DU L y->BI (Ay R y) (Aj (Ay R x) (Ay C (x,y)))
structure lO (L:List Int)(C:CA)(s:Int)(i:Nat)(x:Int)(c0:Int×Int)(W:List Int)(R0 R:RA):Prop where
 nd:(R.map zX).Nodup
 rg:∀k∈R.map zX,k∈L
 sd:∀y c,Ay R y=some c->Og (λ x y=>Ay C (x,y)) (DU L) s y c
 le:∀y,BI (Ay R y) (Ay R0 y)
 sm:∀y,DU L y<=i->Ay R y=Ay R0 y
 cw:∀y∈W,BI (Ay R y) (Aj (some c0) (Ay C (x,y)))
def lO.put {L:List Int}{C:CA}{s:Int}{i:Nat}{x:Int}{c0:Int×Int}{W:List Int}{R0 R:RA}(h:lO L C s i x c0 W R0 R){y:Int}{d v:Int×Int}(hy:y∈L)(hr:i<DU L y)(hx:DU L x=i)(pc:Ay R0 x=some c0)(hd:Ay C (x,y)=some d)(hv:DQ (Ay R y) (some (c0.1+d.1,c0.2+d.2))=some v):lO L C s i x c0 (W++[y]) R0 (Dh R y v):=by
 have hle:BI (some v) (Ay R y):=hv▸EJ _ _;refine⟨L0 h.nd,λ k hk=>(Nk hk).elim (h.rg k) λ e=>e▸hy,λ z c hz=>?_,λ z=>?_,λ z hz=>?_,λ z hz=>?_⟩
 ·rw[Ib] at hz;split at hz
  ·rename_i e;subst e;cases hz;rcases Bt (Ay R z) (some (c0.1+d.1,c0.2+d.2)) with ⟨e,_⟩|⟨e,_⟩
   ·rw[hv] at e;exact h.sd z _ e.symm
   ·rw[hv] at e;cases e;have aF:=h.sd x c0 (by rw[h.sm x (by omega)];exact pc);exact .snoc aF (by omega) hd
  ·exact h.sd z c hz
 ·rw[Ib];split
  ·rename_i e;subst e;exact Ao hle (h.le z)
  ·exact h.le z
 ·rw[Ib,if_neg (λ e=>by subst e;omega)];exact h.sm z hz
 ·rw[Ib];split
  ·rename_i e;subst e;rw[hd];exact hv▸EK _ _
  ·rename_i e;rcases zJ.mp hz with hz|hz
   ·exact h.cw z hz
   ·exact (e (zy.mp hz)).elim
def lO.skip {L:List Int}{C:CA}{s:Int}{i:Nat}{x:Int}{c0:Int×Int}{W:List Int}{R0 R:RA}(h:lO L C s i x c0 W R0 R){y:Int}(hd:Ay C (x,y)=none):lO L C s i x c0 (W++[y]) R0 R:=
 ⟨h.nd,h.rg,h.sd,h.le,h.sm,λ z hz=>by
  rcases zJ.mp hz with hz|hz
  ·exact h.cw z hz
  ·rw[zy.mp hz,hd];cases Ay R y<;>exact trivial⟩
def RD.go {L:List Int}{C:CA}{s:Int}{i:Nat}{x:Int}{c0:Int×Int}{R0 R:RA}(hC:∀p c,Ay C p=some c->p.2∈L)(h0:RD L C s i R0)(hx:L[i]?=some x)(hn:L.Nodup)(hc:Ay R0 x=some c0)(h:lO L C s i x c0 (L.drop (i+1)) R0 R):RD L C s (i+1) R:=by
 have qb:=QV hn hx;refine⟨h.nd,h.rg,Ao (h.le s) h0.st,h.sd,λ u y hu hy=>?_⟩;by_cases e:DU L u<i
 ·rw[h.sm u (by omega)];exact Ao (h.le y) (h0.cl u y e hy)
 ·have e2:DU L u=i:=by omega
  have hi:=(zG.mp hx).1;have qd:u∈L:=UN (by omega);have eu:u=x:=QN qd (zI hx) (by omega);subst eu;rw[h.sm u (by omega),hc];cases q:Ay C (u,y) with
  |none=>cases Ay R y<;>exact trivial
  |some d =>
   have:=h.cw y (jZ (hC _ _ q) (by omega));rw[q] at this;exact this
def RD.skip {L:List Int}{C:CA}{s:Int}{i:Nat}{x:Int}{R:RA}(h0:RD L C s i R)(hx:L[i]?=some x)(hn:L.Nodup)(hc:Ay R x=none):RD L C s (i+1) R:=by
 have qb:=QV hn hx;refine⟨h0.nd,h0.rg,h0.st,h0.sd,λ u y hu hy=>?_⟩;by_cases e:DU L u<i
 ·exact h0.cl u y e hy
 ·have hi:=(zG.mp hx).1;have eu:u=x:=QN (UN (by omega)) (zI hx) (by omega);subst eu;rw[hc];cases Ay C (u,y)<;>cases Ay R y<;>exact trivial
def RD.start {L:List Int}{C:CA}{s:Int}(hs:s∈L):RD L C s 0 [(s,(0,0))]:=by
 refine⟨by simp,λ k hk=>by simp at hk;rw[hk];exact hs,by simp[Ay,BI],λ y c h=>?_,λ x y h=>by omega⟩;simp only[Ay] at h;split at h
 ·rename_i e;subst e;cases h;exact .nil
 ·cases h
def RD.yI {m:Nat}{L:List Int}{C:CA}{s:Int}{R:RA}(h:RD L C s L.length R)(hC:∀p c,Ay C p=some c->p.1∈L/\p.2∈L):vK (DU L) (λ x y=>Ay C (x,y)) s (Ay R):=by
 refine⟨h.st,λ x y hr=>?_,h.sd⟩;cases q:Ay C (x,y) with
 |none=>cases Ay R x<;>cases Ay R y<;>exact trivial
 |some d =>
  have hx:DU L x<L.length:=zL hr (cN L y);have:=h.cl x y hx hr;rw[q] at this;exact this
structure cX (m:Nat)(L:List Int)(C:CA)(s:Int)(R:RA)(W:List Int)(T:List Co):Prop where
 len:T.length=m
 no:∀x:Int,0<=x->x<m->x∉W->atC T x=none
 top:∀x∈W,BI (atC T x) (Ay R x)
 cl:∀x∈W,∀y∈W,DU L y<DU L x->BI (atC T y) (Aj (atC T x) (Ay C (x,y)))
 sd:∀(x:Int) c,0<=x->x<m->atC T x=some c->∃t n c1 c2,Og (λ x y=>Ay C (x,y)) (DU L) s t c1/\SN (λ x y=>Ay C (x,y)) (DU L) t n x c2/\c=(c1.1+c2.1,c1.2+c2.2)
def cX.step {m:Nat}{L:List Int}{C:CA}{s:Int}{R:RA}{W:List Int}{T:List Co}(hR:∀y c,Ay R y=some c->Og (λ x y=>Ay C (x,y)) (DU L) s y c)(h:cX m L C s R W T){y:Int}(qe:0<=y)(wk:y<m)(qg:y∉W)(hW:∀x∈W,(0<=x/\x<m)/\DU L y<DU L x):
 cX m L C s R (W++[y]) (T.set y.toNat (FG (Ay R y::W.map λ x=>Aj (atC T x) (Ay C (x,y))))):=by
 obtain⟨v,hv⟩:∃v,v=FG (Ay R y::W.map λ x=>Aj (atC T x) (Ay C (x,y))):=⟨_,rfl⟩;rw[<-hv];have aW:∀i:Int,0<=i->atC (T.set y.toNat v) i=if i=y then v else atC T i:=λ i hi=>I0 qe hi (by rw[h.len];exact wk)
 have bW:∀x∈W,x≠y:=λ x hx e=>qg (e▸hx);refine⟨by rw[zap];exact h.len,λ x h0 h1 hx=>?_,λ x hx=>?_,λ x hx z hz hr=>?_,λ x c h0 h1 hx=>?_⟩
 ·rw[zJ,not_or] at hx;rw[aW x h0,if_neg (λ e=>hx.2 (zy.mpr e))];exact h.no x h0 h1 hx.1
 ·rcases zJ.mp hx with hx|hx
  ·rw[aW x (hW x hx).1.1,if_neg (bW x hx)];exact h.top x hx
  ·have e:=zy.mp hx;subst e;rw[aW x qe,if_pos rfl,hv];exact Mt zv
 ·rcases zJ.mp hx with aF|aF
  ·rcases zJ.mp hz with bu|bu
   ·rw[aW x (hW x aF).1.1,if_neg (bW x aF),aW z (hW z bu).1.1,if_neg (bW z bu)];exact h.cl x aF z bu hr
   ·have e:=zy.mp bu;rw[e] at hr ⊢;rw[aW x (hW x aF).1.1,if_neg (bW x aF),aW y qe,if_pos rfl,hv];exact Mt (zw _ (zS.mpr ⟨x,aF,rfl⟩))
  ·have e:=zy.mp aF;rw[e] at hr;rcases zJ.mp hz with bu|bu
   ·have:=(hW z bu).2;omega
   ·rw[zy.mp bu] at hr;omega
 ·rw[aW x h0] at hx;split at hx
  ·rename_i e;subst e;rw[hv] at hx;rcases K8 (Ay R x::W.map λ z=>Aj (atC T z) (Ay C (z,x))) with e|e
   ·rw[e] at hx;cases hx
   ·rw[hx] at e;rcases zB.mp e with e|e
    ·exact⟨x,0,c,(0,0),hR x c e.symm,.nil,by simp⟩
    ·obtain⟨z,hz,e⟩:=zS.mp e;obtain⟨p,q,e1,e2,rfl⟩:=E5 e;obtain⟨t,n,c1,c2,g1,g2,rfl⟩:=h.sd z p (hW z hz).1.1 (hW z hz).1.2 e1;exact⟨t,n+1,c1,_,g1,.snoc g2 (hW z hz).2 e2,by simp only[zc9]⟩
  ·exact h.sd x c h0 h1 hx
def cX.start {m:Nat}{L:List Int}{C:CA}{s:Int}{R:RA}:cX m L C s R [] (zE m none):=by
 have d8:∀x:Int,atC (zE m none) x=none:=λ x=>by
  unfold atC;rw[zH,zbd];split<;>rfl
 exact⟨by simp,λ x _ _ _=>d8 x,(λ x hx=>by cases hx),(λ x hx=>by cases hx),λ x c _ _ h=>by rw[d8] at h;cases h⟩
def pS {a b g i:Int}(ha:0<=a/\a<O4)(hb:0<=b/\b<O4)(hg:0<=g/\g<O4)(h0:0<=i)(h1:i<8):∃l:Option Int,AR (.lst [.AL,.int 0,.int 0,.int 1,.int a,.int b,.int g,.int g]) (.int i)=.ok (GW l)/\∀z,l=some z->0<=z/\z<O4:=by
 have ht:=QH;have hi:i=0\/i=1\/i=2\/i=3\/i=4\/i=5\/i=6\/i=7:=by omega
 rcases hi with rfl|rfl|rfl|rfl|rfl|rfl|rfl|rfl
 ·exact⟨none,rfl,λ z e=>by cases e⟩
 ·exact⟨some 0,rfl,λ z e=>by cases e;omega⟩
 ·exact⟨some 0,rfl,λ z e=>by cases e;omega⟩
 ·exact⟨some 1,rfl,λ z e=>by cases e;omega⟩
 ·exact⟨some a,rfl,λ z e=>by cases e;exact ha⟩
 ·exact⟨some b,rfl,λ z e=>by cases e;exact hb⟩
 ·exact⟨some g,rfl,λ z e=>by cases e;exact hg⟩
 ·exact⟨some g,rfl,λ z e=>by cases e;exact hg⟩
def pT {a b i:Int}(ha:0<=a/\a<O4)(hb:0<=b/\b<O4)(h0:0<=i)(h1:i<2):∃w:Int,AR (.lst [.int a,.int b]) (.int i)=.ok (.int w)/\0<=w/\w<O4:=by
 have hi:i=0\/i=1:=by omega
 rcases hi with rfl|rfl
 ·exact⟨a,rfl,ha⟩
 ·exact⟨b,rfl,hb⟩
def kA {α:Type}{a b c d e f g h:D}{x y:α}:(if [a,b,c,d,e,f,g,h].length<=1000 then x else y)=x:=if_pos (by simp)
def Wo (r:Road):dp (.ok (Bs r))=.ok (Bs r):=by
 obtain⟨a,b,l,w⟩:=r;cases l<;>rfl
def QW (i:Int):dp (.ok (.int i))=.ok (.int i):=rfl
def UQ {ρ:Ae}{i m:Nat}{ac:List (List Co)}{x y:Int}(h:ρ[i]?=some (some (.ow (.rows (AI ac)))))(hM:QF m ac)(h0:0<=x)(h1:x<m)(h2:0<=y)(h3:y<m):gN i ρ (.ok (.int x)) (.ok (.int y))=.ok (cst (at2 ac x y)):=by
 unfold gN;rw[h];simp only[M.A9];rw[SI hM h0 h1];exact jJ hM h0 h1 h2 h3
def kB {ρ:Ae}{i m:Nat}{ac:List (List Co)}{x y:Int}{v:Co}(h:ρ[i]?=some (some (.ow (.rows (AI ac)))))(hM:QF m ac)(h0:0<=x)(h1:x<m)(h2:0<=y)(h3:y<m):VP i ρ (.ok (.int x)) (.ok (.int y)) (cst v)=.ok (.next (ρ.set i (some (.ow (.rows (AI (put2 ac x y v))))))):=by
 unfold VP;rw[h];simp only[M.A9];rw[SI hM h0 h1];exact jK hM h0 h1 h2 h3 i ρ v
def SS:∀(n:Nat) (B:List (Int×Int)) (L:List Int),L.length=n->(TZ n B L).Perm L
 |0,B,L,h=>by rw[List.length_eq_zero_iff.mp h];exact .refl _
 |n+1,B,L,h=>by
  have ae:L≠[]:=λ e=>by rw[e] at h;cases h
  have hm:=(Pz (B:=B) ae).1;rw[TZ,if_neg ae];refine List.Perm.trans ?_ (List.perm_cons_erase hm).symm;exact (SS n _ _ (by rw[List.length_erase_of_mem hm,h];rfl)).cons _
section
variable {prog:Program}{w:World}{A:Around}{E:Value->Shared->Prop}{s:Shared}
def PF {K:Type}[DecidableEq K]{knd:KeyKind prog w K}{h h':Heap}{d I l:Addr}{i:Nat}{xs:List (K×Value)}(hd:h.DictOf knd d xs)(hit:h.IsListIter I l i)(sb:∀b o,b≠I->h.get? b=some o->h'.get? b=some o):h'.DictOf knd d xs:=by
 obtain⟨o,es,ep,h1,h2,h3,h4⟩:=hd;obtain⟨oi,i1,i2,i3⟩:=hit;refine⟨o,es,ep,sb d o (λ z=>?_) h1,h2,h3,h4⟩;subst z;rw[i1] at h1;cases h1;rw[i3] at h3;cases h3
def UR {K:Type}[DecidableEq K]{knd:KeyKind prog w K}{R:Result->Shared->Prop}{d I l:Addr}{items:Array Value}{h0:Heap}(ps:List (K×Value×Value))(hh:A.handled=none)(c8:l≠I)(pd:d≠I)(iq:l≠d)
 (ju:ps.length=items.size) (hsz:items.size+1<=sizeLine) (hl:h0.IsList l items)
 (hp:∀(j:Nat) p,ps[j]?=some p->knd.is p.1 p.2.1=true/\∃t,items[j]?=some (.ref t)/\t≠d/\t≠I/\IsTup h0 t #[p.2.1,p.2.2]):
 ∀(m i:Nat) (xs:List (K×Value)) (s:Shared),items.size-i=m->i<=items.size->xs.length<=i->s.heap.IsListIter I l i->s.heap.DictOf knd d xs->(∀b o,b≠d->b≠I->h0.get? b=some o->s.heap.get? b=some o)->
  (∀h' tk,h'.DictOf knd d ((ps.drop i).foldl (λ acc p=>stored acc p.1 p.2.2) xs)->(∀b o,b≠d->b≠I->h0.get? b=some o->h'.get? b=some o)->R (.ok (.ret .none)) {s with heap:=h',toks:=tk})->
  codeAny (model prog w) A (.builtin "dict.update.loop" ⟨[.ref d,.ref I,rawInt i,.none],[]⟩) R s:=by
 intro m;induction m with
 |zero =>
  intro i xs s hm hi pe hit hd hf h;have bi:i=items.size:=by omega
  refine codeAny_builtin HZ ?_;rw[zb1 CN _];show wpAny _ A.in1 (pyNext (.ref I) >>= _) _ _ s;refine wpAny_bind (wpAny_pyNext_list_end (A:=A.in1) hh hit (hl.at λ o e=>hf l o iq c8 e) (by simp[bi]) λ h' eb=>?_);have hd2:=PF hd hit λ b o hb e=>eb b o hb e;show wpAny _ A.in1 (Dict.addKeywords d [] >>= _) _ _ _;unfold Dict.addKeywords;refine wpAny_bind (wpAny_bind ?_);refine wpAny_pure (wpAny_pure (wpAny_pure ?_));have ed:ps.drop i=[]:=by rw[List.drop_eq_nil_iff];omega
  rw[ed] at h;exact h h' s.toks hd2 λ b o h1 h2 e=>eb b o h2 (hf b o h1 h2 e)
 |succ m ih =>
  intro i xs s hm hi pe hit hd hf h;have af:i<items.size:=by omega
  obtain⟨p,df⟩:∃p,ps[i]?=some p:=⟨ps[i]'(by omega),z4 _⟩;obtain⟨p3,t,ht,t1,t2,t3⟩:=hp i p df;refine codeAny_builtin HZ ?_;rw[zb1 CN _];show wpAny _ A.in1 (pyNext (.ref I) >>= _) _ _ s;refine wpAny_bind (wpAny_pyNext_list_item (A:=A.in1) hit (hl.at λ o e=>hf l o iq c8 e) ht λ h' aI sb=>?_);have hd2:h'.DictOf knd d xs:=PF hd hit λ b o hb e=>(sb.2 b hb).trans e;have ir:∀b o,b≠d->b≠I->h0.get? b=some o->h'.get? b=some o:=λ b o h1 h2 e=>(sb.2 b h2).trans (hf b o h1 h2 e);have t4:IsTup h' t #[p.2.1,p.2.2]:=by
   obtain⟨o,e1,e2⟩:=t3;exact⟨o,ir t o t1 t2 e1,e2⟩
  dsimp only;refine wpAny_bind (wpAny_holding (wpAny_bind (wpAny_tryCatch (Pp t4 ?_))));show wpAny _ A.in1 (holding [p.2.1,p.2.2] (dictSet d p.2.1 p.2.2)) _ _ _;refine wpAny_holding (wpAny_dictSet_pairs (knd:=knd) (hsz:=by omega) p3 hd2 λ h3 gx jv=>?_);refine wpAny_pure ⟨plainId_quiet CN _,?_⟩;have gy:h3.IsListIter I l (i+1):=by
   obtain⟨o,e1,e2⟩:=aI;exact⟨o,(jv.2 I (zac pd)).trans e1,e2⟩
  have ed:ps.drop i=p::ps.drop (i+1):=by
   rw[zbi (by omega:i<ps.length)];rw[z4 (by omega:i<ps.length)] at df;rw[zT df]
  rw[ed,zP] at h;have gw:(stored xs p.1 p.2.2).length<=i+1:=by
   unfold stored;split
   ·rw[zu];omega
   ·rw[zW,zav];omega
  exact ih (i+1) (stored xs p.1 p.2.2) {s with heap:=h3,toks:=s.toks+1} (by omega) (by omega) gw gy gx (λ b o h1 h2 e=>(jv.2 b h1).trans (ir b o h1 h2 e)) h
def Oh {K:Type}[DecidableEq K]{knd:KeyKind prog w K}{Q:Value->Shared->Prop}{l:Addr}{items:Array Value}{n:Nat}{sl:Array (Option Value)}(ps:List (K×Value×Value))(hh:A.handled=none)
 (ju:ps.length=items.size) (hsz:items.size+1<=sizeLine) (hl:s.heap.get? l=some {cls:=.type "list",data:=.seq items n,slots:=sl})
 (hp:∀(j:Nat) p,ps[j]?=some p->knd.is p.1 p.2.1=true/\∃t,items[j]?=some (.ref t)/\IsTup s.heap t #[p.2.1,p.2.2])
 (h:∀h' tk,h'.DictOf knd s.heap.objs.size (ps.foldl (λ acc p=>stored acc p.1 p.2.2) [])->(∀b o,s.heap.get? b=some o->h'.get? b=some o)->Q (.ref s.heap.objs.size) {s with heap:=h',toks:=tk}):
 wpAny (model prog w) A (call (.type "dict") [.ref l]) Q E s:=by
 refine callType_codes (Q₁:=λ obj s₁=>obj=.ref s.heap.objs.size/\s₁={s with heap:=s.heap.push {cls:=.type "dict",data:=.dict #[]} }) PySem.F.kt_called_dict (PySem.F.kt_typeCall_dict_1 _) PySem.F.entry_dict_init
  (kt_code_dict_new _ ⟨rfl,rfl⟩) λ obj s₁ h₁=>?_
 obtain⟨rfl,rfl⟩:=h₁;have hS:(s.heap.push {cls:=.type "dict",data:=.dict #[]}).get? s.heap.objs.size=some {cls:=.type "dict",data:=.dict #[]}:=zN _ rfl;have ll:l<s.heap.objs.size:=zD hl;have bY:(s.heap.push {cls:=.type "dict",data:=.dict #[]}).get? l=some {cls:=.type "list",data:=.seq items n,slots:=sl}:=z6 _ hl;refine⟨⟨_,hS,rfl⟩,PySem.F.args_dict_init_2 _ _,?_⟩;have TD:Looks (model prog w) (s.heap.push {cls:=.type "dict",data:=.dict #[]}) (typeOf (.ref s.heap.objs.size)) (.type "dict"):=(Looks.ld hS).andThen .now;have TL:Looks (model prog w) (s.heap.push {cls:=.type "dict",data:=.dict #[]}) (typeOf (.ref l)) (.type "list"):=(Looks.ld bY).andThen .now;unfold Builtin.«dict.__init__» Dict.selfAndRest Dict.notOrdered;dsimp only;rw[if_pos (by decide)];refine wpAny_bind (wpAny_bind (wpAny_bind (TD.at ?_)));rw[if_neg (by decide)];refine wpAny_pure ?_;unfold Dict.addrOf;refine wpAny_bind (wpAny_pure (wpAny_pure ?_));unfold Dict.updateCommon Dict.updateFrom;dsimp only;refine wpAny_bind (TL.at ?_);rw[if_pos (by decide)];refine wpAny_bind (Ln (A:=A.in1.in1) hh bY λ h2 v4 gz=>?_);rw[if_pos (show (none:Option Value).isNone=true from rfl)];refine wpAny_bind (wpAny_rule ?_);have a7:h2.IsList l items:=⟨_,gz _ _ bY,rfl,n,rfl⟩;have jw:=gz _ _ hS;refine wpAny_bind (wpAny_pyIter_list a7 ?_);refine wpAny_pure ⟨plainId_quiet CN _,?_⟩;have lz:s.heap.objs.size<h2.objs.size:=zD jw;have pf:∀b o,s.heap.get? b=some o->(h2.push {cls:=.type "list_iterator",data:=.fields #[.ref l,.int 0 0]}).get? b=some o:=λ b o e=>z6 _ (gz _ _ (z6 _ e));have gx:(h2.push {cls:=.type "list_iterator",data:=.fields #[.ref l,.int 0 0]}).DictOf knd s.heap.objs.size []:=
  ⟨_,#[],0,z6 _ jw,⟨rfl,rfl,rfl⟩,rfl,(by intro e he;simp at he),.nil,zax⟩
 have af:∀b o,s.heap.get? b=some o->b≠s.heap.objs.size/\b≠h2.objs.size:=λ b o e=>by
  have:=zD e;exact⟨zM this,zM (Nat.lt_trans this lz)⟩
 refine UR (A:=A.in1) (knd:=knd) (l:=l) (h0:=s.heap) ps hh (zM (Nat.lt_trans ll lz)) (zM lz) (zM ll) ju hsz ⟨_,hl,rfl,n,rfl⟩ (λ j p hj=>?_) items.size 0 [] _ (by omega) (by omega) (by simp) ⟨_,zN _ rfl,rfl,rfl⟩ gx (λ b o h1 ge e=>pf b o e) λ h' tk bq ph=>?_
 ·obtain⟨q1,t,q2,q3⟩:=hp j p hj;obtain⟨o2,e2,_⟩:=id q3;exact⟨q1,t,q2,(af _ _ e2).1,(af _ _ e2).2,q3⟩
 ·exact⟨rfl,h h' tk bq λ b o e=>ph b o (af _ _ e).1 (af _ _ e).2 e⟩
end
structure XG where
 (t:Addr) (κ:Key) (v:V)
abbrev pU (H:Hp)(p:XG):Prop:=H p.t=some (.tup [kV p.κ,p.v])
abbrev kC (ps:List XG):List (Key×V):=ps.foldl (λ acc p=>putK acc p.κ p.v) []
abbrev zA (X:Cx)(te:TE):TE:=λ σ H Q=>te σ H λ x H1=>∃(l:Addr) (ps:List XG),x=.ref l/\D7 X.K H1 l (ps.map λ p=>V.ref p.t)/\(∀p∈ps,pU H1 p)/\ps.length<=1000/\∀r,H1 r=none->Q (.ref r) (upd H1 r (.dK (kC ps)))
def SU:∀ {ps:List XG}{us:List Value},Vals (ps.map λ p=>V.ref p.t) us->us=ps.map λ p=>zad p.t
 |[],_,.nil=>rfl
 |p::ps,_,.cons h t=>by
  cases h;rw[zx,<-SU t]
def lP:∀ {ps:List XG}{qs:List (Key×Value×Value)}{kvs:List (Key×V)}{xs:List (Key×Value)},Paired (λ(p:XG) (q:Key×Value×Value)=>p.κ=q.1/\RelV p.v q.2.2) ps qs->KV kvs xs->KV (ps.foldl (λ acc p=>putK acc p.κ p.v) kvs) (qs.foldl (λ acc p=>stored acc p.1 p.2.2) xs)
 |[],_,_,_,.nil,h=>h
 |p::ps,_,_,_,.cons (b:=q) hq t,h=>by
  obtain⟨q1,q2,q3⟩:=q;obtain⟨e1,e3⟩:=hq;dsimp only at e1 e3;subst e1;have r:=lP (ps:=ps) t (h.put p.κ e3);exact r
def Wq:∀(ps:List XG) (kvs:List (Key×V)),(ps.foldl (λ acc p=>putK acc p.κ p.v) kvs).length<=kvs.length+ps.length
 |[],kvs=>zF _
 |p::ps,kvs=>by
  have h1:=Wq ps (putK kvs p.κ p.v);have h2:=Ds kvs p.κ p.v;rw[zP,z7];omega
def Wr {h:Heap}{H:Hp}{P:Program}{w:World}(ok:Gi P w H h):∀ {ps:List XG},(∀p∈ps,pU H p)->∃qs:List (Key×Value×Value),Paired (λ(p:XG) (q:Key×Value×Value)=>p.κ=q.1/\RelV p.v q.2.2) ps qs/\
 ∀(j:Nat) q,qs[j]?=some q->(B6 P w).is q.1 q.2.1=true/\∃t,(ps.map λ p=>zad p.t)[j]?=some (.ref t)/\IsTup h t #[q.2.1,q.2.2]
 |[],_=>⟨[],.nil,λ j q e=>by simp at e⟩
 |p::ps,ho=>by
  obtain⟨qs,h1,h2⟩:=Wr ok λ p hp=>ho p (zw _ hp);have o1:=ho p zv;obtain⟨_,aa,r,it⟩:=(show BQ P w H h p.t (.tup [kV p.κ,p.v]) from ok p.t _ o1);obtain⟨u,v,rfl,ru,rv⟩:=r.two;refine⟨(p.κ,u,v)::qs,.cons ⟨rfl,rv⟩ h1,λ j q e=>?_⟩;cases j with
  |zero =>
   rw[zaw] at e;cases e;exact⟨Lg ru,p.t,by simp,it⟩
  |succ j =>
   rw[za0] at e;obtain⟨a1,t,a2,a3⟩:=h2 j q e;exact⟨a1,t,by simpa using a2,a3⟩
section
variable {X:Cx}{WX:Str->Hp->Prop}{c:Bool}{P0:Eb}{P:Addr->Prop}{H:Hp}{σ:St}{ρ:Ae}{a b e:Expr}{f g:Ae->M D}{fn:Ae->M OT}{pos:Pos}{te:TE}
def cY {p:Pos}(hc:X.calm=true)(hg:Gl X "dict")(hm:X.mg "dict" = none)(he:PE X e te)(hv:bootBuiltins "dict" = some (.type "dict"):=by decide +kernel)(hs: ~~~(starEach [e] X.env=[(false,eval e X.env)])):
 PE X (.Call (.Name "dict" p) [e] [] pos) (zA X te):=by
 intro pins s σ H Q I h;refine wpAny_Call_Name_kw (Dz I hg hm hv ?_);refine zai ?_ hs;rw[hs];refine zbh (Bk (he pins s σ H _ I h) λ u s1 zz=>?_);obtain⟨x,H1,I1,r1,q1⟩:=zz;obtain⟨l,ps,rfl,hq,ho,hlen,q⟩:=q1;cases r1;refine zbn ?_;obtain⟨aa,r',pl,hz⟩:=I1.list hq;have hits:=SU r';subst hits;obtain⟨⟨pi,jx,jy,g7⟩,n0,o1,o2,o3,o4⟩:=pl;dsimp only at o2 o3 o4;subst o2 o3 o4;obtain⟨qs,h1,h2⟩:=Wr I1.Ar ho;refine Oh (knd:=B6 X.prog X.w) qs (I1.ok.hd hc) (by rw[z9,zu,<-h1.length]) (AA (by rw[z9,zu];omega)) o1 (λ j p hj=>?_) λ h' tk hd kp=>?_
 ·obtain⟨a1,t,a2,a3⟩:=h2 j p hj;exact⟨a1,t,by rw[List.getElem?_toArray];exact a2,a3⟩
 ·have pk:=lP h1 (show KV [] [] from .nil);have d6:s1.heap.objs.size<=s1.heap.objs.size:=zF _;have bD:=I1.Ar.fresh d6;have pq:=Wq ps [];exact⟨.ref _,_,I1.laid (t':=tk) (o:=.dK (kC ps)) kp d6 ⟨zam (AA (by unfold kC;simp at pq;omega)),beq_eq_false_iff_ne.mpr (zac (zM I1.big)),_,pk,hd⟩,rfl,q _ bD⟩
abbrev cZ (d:D):M OT:=match d with
 | .lst xs=>(match QC xs with|some l=>if l.length<=1000/\(l.all λ kv=>keyOk false kv.1)=true then .ok (.Bo false (lF l).1 ((lF l).2.map .sh)) else .bad|none=>.bad)
 |_=>.bad
def Ws {K:zr}{H:Hp}{P:Addr->Prop}:∀ {xs:List V}{ds:List D}{l:List (D×D)},Ah K (del H P) xs ds->QC ds=some l->(l.all λ kv=>keyOk false kv.1)=true->
 ∃ps:List XG,xs=ps.map (λ p=>V.ref p.t)/\(∀p∈ps,pU H p)/\Paired (λ(p:XG) (kv:D×D)=>kv.1=Ct p.κ/\BX K (del H P) p.v kv.2) ps l
 |_,[],l,.nil,e,_=>by cases e;exact⟨[],rfl,λ p hp=>(by cases hp),.nil⟩
 |_,d::ds,l,.cons hd ht,e,hk=>by
  unfold QC at e;split at e
  ·rename_i bj;cases bj
  ·rename_i k v r bj;cases bj;obtain⟨l',e1,e2⟩:=zaq.mp e;subst e2;rw[zc8,zZ] at hk;obtain⟨ps,q1,q2,q3⟩:=Ws ht e1 hk.2;have hK:=Eh hk.1;cases hK with
   |k κ =>
    cases hd with
    | @tup tt _ _ h1 h2 =>
     obtain⟨x,y,rfl,hx,hy⟩:=h2.two;have ex:=hx.hV;subst ex;refine⟨⟨tt,κ,y⟩::ps,by rw[zx,q1],λ p hp=>?_,.cons ⟨rfl,hy⟩ q3⟩;rcases zB.mp hp with rfl|hp
     ·exact (An h1).2
     ·exact q2 p hp
  ·cases e
def Wt {K:zr}{H:Hp}{P:Addr->Prop}:∀ {ps:List XG}{l:List (D×D)}{kvs:List (Key×V)}{vs:List D},Paired (λ(p:XG) (kv:D×D)=>kv.1=Ct p.κ/\BX K (del H P) p.v kv.2) ps l->Ah K (del H P) (kvs.map zay) vs->
 ∃aG,l.foldl (λ z kv=>putD z.1 z.2 kv.1 kv.2) (kvs.map (λ kv=>Ct kv.1),vs)=((ps.foldl (λ acc p=>putK acc p.κ p.v) kvs).map (λ kv=>Ct kv.1),aG)/\Ah K (del H P) ((ps.foldl (λ acc p=>putK acc p.κ p.v) kvs).map zay) aG
 |[],_,kvs,vs,.nil,h=>⟨vs,rfl,h⟩
 |p::ps,_,kvs,vs,.cons (b:=kv) hq t,h=>by
  obtain⟨k,d⟩:=kv;obtain⟨e1,e2⟩:=hq;dsimp only at e1 e2;subst e1;have aT:∃aG,(putD (kvs.map λ kv=>Ct kv.1) vs (Ct p.κ) d)=((putK kvs p.κ p.v).map (λ kv=>Ct kv.1),aG)/\Ah K (del H P) ((putK kvs p.κ p.v).map zay) aG:=by
   unfold putD putK;rw[Jx (fk:=Ct) GL];by_cases hh:(kvs.any λ kv=>decide (kv.1=p.κ))=true
   ·rw[if_pos hh,if_pos hh];refine⟨_,by rw[GO (fk:=Ct) GL],?_⟩;rw[<-GN (fk:=Ct) GL];exact GP e2 h
   ·rw[if_neg hh,if_neg hh];refine⟨_,by rw[zK];rfl,?_⟩;rw[zK];exact h.snoc e2
  obtain⟨v6,g1,g2⟩:=aT;obtain⟨pw,g3,g4⟩:=Wt t g2;refine⟨pw,?_,g4⟩;rw[zP];dsimp only;rw[g1];exact g3
def dA {p:Pos}(hc:X.calm=true)(hg:Gl X "dict")(hm:X.mg "dict" = none)(he:DE X WX true e f)(hv:bootBuiltins "dict" = some (.type "dict"):=by decide +kernel)(hs: ~~~(starEach [e] X.env=[(false,eval e X.env)])):
 DN X WX (.Call (.Name "dict" p) [e] [] pos) (λ ρ=>(f ρ).bind cZ):=by
 obtain⟨te,e1,e2⟩:=he;refine⟨_,cY hc hg hm e1 hv hs,λ P0 P σ H Q ρ E h=>?_⟩;refine e2 P0 P σ H _ ρ E ?_;dsimp only at h;refine Yc h λ d h=>?_;intro v H1 s1 hv;unfold cZ at h;split at h
 ·rename_i xs;split at h
  ·rename_i l eb;split at h
   ·rename_i hl;cases hv with
    |lst hs hh =>
     obtain⟨ps,q1,q2,q3⟩:=Ws hh eb hl.2;subst q1;obtain⟨aG,g1,g2⟩:=Wt (kvs:=[]) q3 .nil;refine⟨_,ps,rfl,hs.AY,q2,by rw[q3.length];exact hl.1,λ r hr=>?_⟩;have e3:lF l=((kC ps).map (λ kv=>Ct kv.1),aG):=g1;rw[e3] at h;have br:∀a∈[r],H1 a=none:=λ a ha=>by rw[zy.mp ha];exact hr
     exact h _ [r] _ (s1.trans (AN hr _)) (λ a ha=>DZ s1 (br a ha)) (by simp) (.dK Ap (g2.mono (Cu (AN hr _) br)).ows)
   ·exact h.elim
  ·exact h.elim
 ·exact h.elim
end
def uH {α:Type}(l:List α):X5 [.lst (l.map λ _=>D.bl true)]=.ok (.bl true):=by
 have e:(l.map λ _=>D.bl true)=(l.map λ _=>true).map D.bl:=by rw[zak];rfl
 rw[e,Ha];simp
def lQ:∀(C C0:RA),((C0++C).map zX).Nodup->(C.map λ kv=>(D.int kv.1,cst (some kv.2))).foldl (λ z kv=>putD z.1 z.2 kv.1 kv.2) (C0.map (λ kv=>D.int kv.1),C0.map λ kv=>cst (some kv.2))=((C0++C).map (λ kv=>D.int kv.1),(C0++C).map λ kv=>cst (some kv.2))
 |[],C0,_=>by simp
 |kv::C,C0,hn=>by
  obtain⟨p,c⟩:=kv;rw[zx,zP];dsimp only;have h0:Ay C0 p=none:=by
   rw[Nj];intro hm;rw[zK,zQ] at hn;exact hn.2.2 p hm p (by simp) rfl
  have e:Dh C0 p c=C0++[(p,c)]:=by unfold Dh;rw[h0];rfl
  rw[Ke (vf:=λ c=>cst (some c)) Hc,e,lQ C (C0++[(p,c)]) (by rw[za9];exact hn),za9];rfl
def pV {C:RA}(hn:(C.map zX).Nodup)(hl:C.length<=1000):cZ (.lst (C.map λ kv=>.tup [.int kv.1,cst (some kv.2)]))=.ok (Ye C):=by
 unfold cZ;dsimp only;rw[QT (λ kv:Int×(Int×Int)=>D.int kv.1) (λ kv=>cst (some kv.2))];dsimp only;have e:=lQ C [] hn;rw[if_pos ⟨by rw[zu];exact hl,by rw[List.all_map];exact List.all_eq_true.mpr λ x _=>rfl⟩];have e2:lF (C.map λ kv=>(D.int kv.1,cst (some kv.2)))=(C.map (λ kv=>D.int kv.1),C.map λ kv=>cst (some kv.2)):=e;rw[e2];rfl
abbrev Gb (c:Int->Int->Co)(p:Int)(D:List Int)(h:Int):Bool:=decide (c p h≠none) && !(D.any λ x=>decide (Aj (c p x) (c x h)=c p h))
abbrev AB (c:Int->Int->Co)(p:Int)(D:List Int):List Int:=(zan D.length).filterMap λ i=>if Gb c p (D.take i) (D.getD i 0)=true then some (D.getD i 0) else none
def E7 (c:Int->Int->Co)(p:Int)(D:List Int)(h:Int):AB c p (D++[h])=AB c p D++(if Gb c p D h=true then [h] else []):=by
 unfold AB;rw[zW,zav,List.range_succ,zc2];congr 1
 ·have cg:∀(l:List Nat) (f g:Nat->Option Int),(∀i∈l,f i=g i)->l.filterMap f=l.filterMap g:=by
   intro l f g;induction l with
   |nil=>intro _;rfl
   |cons a r ih=>intro h;rw[zaz,zaz,h a zv,ih λ i hi=>h i (zw _ hi)]
  refine cg _ _ _ λ i hi=>?_;have hi:=zcb.mp hi;rw[List.take_append_of_le_length (by omega),zH,zH,zar hi]
 ·have e1:(D++[h]).take D.length=D:=by rw[List.take_append_of_le_length (zF _),za5]
  have e2:(D++[h]).getD D.length 0=h:=by rw[zH,zb4 (zF _)];simp
  rw[zaz,List.filterMap_nil,e1,e2];by_cases q:Gb c p D h=true
  ·rw[if_pos q,if_pos q]
  ·rw[if_neg q,if_neg q]
def Fh (c:Int->Int->Co)(p:Int)(D:List Int):∀x∈AB c p D,x∈D:=by
 intro x hx;obtain⟨i,hi,e⟩:=zby.mp hx;have hi:=zcb.mp hi;split at e
 ·cases e;rw[zH,z4 hi];exact zbt hi
 ·cases e
abbrev Yg (m:Nat)(c:Int->Int->Co):Prop:=∀x y z:Int,(0<=x/\x<m)->(0<=y/\y<m)->(0<=z/\z<m)->BI (c x z) (Aj (c x y) (c y z))
def Yg.turn {m:Nat}{c:Int->Int->Co}(h:Yg m c):Yg m λ x y=>c y x:=λ x y z a b d=>by rw[Bc];exact h z y x d b a
def SV {m:Nat}{c:Int->Int->Co}(T:Yg m c){p y x h:Int}(hp:0<=p/\p<m)(hy:0<=y/\y<m)(hx:0<=x/\x<m)(hh:0<=h/\h<m)(h1:Aj (c p y) (c y x)=c p x)(h2:Aj (c p x) (c x h)=c p h):Aj (c p y) (c y h)=c p h:=by
 refine K7 ?_ (T p y h hp hy hh);rw[<-h2,<-h1,Dg,Bc (c p y),Bc (c p y)];exact C3 _ (T y x h hy hx hh)
def XH {m:Nat}{c:Int->Int->Co}(T:Yg m c){p h:Int}(hp:0<=p/\p<m)(hh:0<=h/\h<m){D:List Int}(hD:∀x∈D,0<=x/\x<(m:Int))(hn:c p h≠none):(AB c p D).any (λ x=>decide (Aj (c p x) (c x h)=c p h))=D.any λ x=>decide (Aj (c p x) (c x h)=c p h):=by
 have key:∀n:Nat,n<=D.length->((D.take n).any (λ x=>decide (Aj (c p x) (c x h)=c p h))=true->(AB c p (D.take n)).any (λ x=>decide (Aj (c p x) (c x h)=c p h))=true):=by
  intro n;induction n with
  |zero=>intro _ q;simp at q
  |succ n ih =>
   intro hl q;have af:n<D.length:=by omega
   have e:D.take (n+1)=D.take n++[D[n]]:=by rw[za4,z4 af];rfl
   rw[e,List.any_append,Bool.or_eq_true] at q;rw[e,E7,List.any_append,Bool.or_eq_true];by_cases z:(D.take n).any (λ x=>decide (Aj (c p x) (c x h)=c p h))=true
   ·exact .inl (ih (by omega) z)
   ·right;have q2:Aj (c p D[n]) (c D[n] h)=c p h:=by
     rcases q with q|q
     ·exact absurd q z
     ·simpa using q
    have wl:Gb c p (D.take n) D[n]=true:=by
     unfold Gb;rw[zZ];refine⟨decide_eq_true λ w=>hn ?_,?_⟩
     ·rw[<-q2,w];rfl
     ·rw[Bool.not_eq_true',Bool.eq_false_iff];intro w;apply z;obtain⟨y,hy,w⟩:=zcg.mp w;exact zcg.mpr ⟨y,hy,decide_eq_true (SV T hp (hD y (zae hy)) (hD _ (zbt af)) hh (of_decide_eq_true w) q2)⟩
    rw[if_pos wl,zbe,decide_eq_true q2];rfl
 have k2:=key D.length (zF _);rw[za5] at k2;cases q:D.any λ x=>decide (Aj (c p x) (c x h)=c p h) with
 |true=>exact k2 q
 |false =>
  rw[Bool.eq_false_iff];intro w;obtain⟨x,hx,w⟩:=zcg.mp w;rw[Bool.eq_false_iff] at q;exact q (zcg.mpr ⟨x,Fh c p D x hx,w⟩)
structure XI (K:zr)(mg:Str->Option Value)(x:Str):Prop where
 ex:∃f,zY K mainGlobals x=some (some (.ref f))/\mg x=some (.ref f)
def lR {K:zr}{mg:Str->Option Value}{h:Heap}{x:Str}{st:Stmt}(X:K.In h)(G:h.Ns mainGlobals mg)(p:FP K x st):XI K mg x:=by
 obtain⟨f,_,_,_,_,_,_,_,_,_,a,_⟩:=p.ex;exact⟨f,a,PySem.W.mg_of X G a⟩
abbrev XJ (x1:Str)(F1:List D->M OT)(x2:Str)(F2:List D->M OT)(m:M (List D))(d:D):M OT:=match d with
 | .F3 x=>if x=x1 then m.bind F1 else if x=x2 then m.bind F2 else .bad
 |_=>.bad
section
variable {X:Cx}{E:XK}{WX:Str->Hp->Prop}{c:Bool}{e:Expr}{es:List Expr}{fs:Ae->M (List D)}{f:Ae->M D}{pos:Pos}
def dB {x:Str}(G:XI X.K X.mg x)(hg:Gl X x)(hd:(x==("__debug__" : Str))=false:=by decide):DE X WX c (.Name x pos) (λ _=>.ok (.F3 x)):=by
 obtain⟨f,a,b⟩:=G.ex;exact⟨_,eL (v:=.ref f) hg b rfl hd,λ P0 P σ H Q ρ E h=>h _ H (Ad.refl H) (.F3 a trivial)⟩
abbrev pW (X:Cx)(E:XK)(tc:TE)(t:TA):TE:=λ σ H Q=>tc σ H λ v H1=>∃fa fd ps k sp,v=.ref fa/\Dr X.prog X.w X.K X.mg X.base (Ur X.prog X.w X.base) k fa fd ps sp/\BC k X.A/\zah X.K (.ref fa)=true/\Binds X.K fd ps []/\t σ H1 λ vs H2=>sp (vs++[]) H2 Q E
def dC {y:Str}{p:Pos}{tc:TE}{t:TA}(hx:Gw (Ur X.prog X.w X.base) X E)(hc:PE X (.Name y p) tc)(ha:PA X (e::es) t)(he: ~~~(starEach (e::es) X.env=(false,eval e X.env)::starEach es X.env))(ao: ~~~((backTo pos (starEach es X.env)).any (·.1)=false)):
 PE X (.Call (.Name y p) (e::es) [] pos) (pW X E tc t):=by
 intro pins s σ H Q I h;refine wpAny_Call_Name_kw (Bk (hc pins s σ H _ I h) λ u s1 zz=>?_);obtain⟨v,H1,I1,r,fa,fd,ps,k,sp,ev,F,hr,hk,hb,q⟩:=zz;subst ev;obtain rfl:u=zad fa:=r;refine PySem.W.callWith_K (h₀:=X.base) I1.ok.mod.Y7 hk (Bk (ha pos pins s1 σ H1 _ I1 q) λ us s2 zz=>?_) he ao;obtain⟨vs,H2,I2,r2,q2⟩:=zz;exact⟨I2.Mz,Qa F hr hb .nil hx I2 r2 q2⟩
def SW {k1 k2 n:Nat}{F1 F2:List D->M OT}{x1 x2 y:Str}{p:Pos}(xo:G8 X E)(V1:XI X.K X.mg x1)(G1:BB X.prog X.w X.K X.mg X.base x1 k1 n F1)(h1:BC k1 X.A)(V2:XI X.K X.mg x2)(G2:BB X.prog X.w X.K X.mg X.base x2 k2 n F2)(h2:BC k2 X.A)(hv:DE X (D1 X.K E) true (.Name y p) f)(ha:DA X (D1 X.K E) true (e::es) fs)(hn:(e::es).length=n)(he: ~~~(starEach (e::es) X.env=(false,eval e X.env)::starEach es X.env))(ao: ~~~((backTo pos (starEach es X.env)).any (·.1)=false)):
 DN X (D1 X.K E) (.Call (.Name y p) (e::es) [] pos) (λ ρ=>(f ρ).bind (XJ x1 F1 x2 F2 (fs ρ))):=by
 obtain⟨f1,n1,m1⟩:=V1.ex;obtain⟨f2,n2,m2⟩:=V2.ex;obtain⟨zc,wm,wn,dL,bK,wo,bE⟩:=G1.ex;obtain⟨zd,wp,wq,qh,bd,g8,wr⟩:=G2.ex;rw[m1] at bK;rw[m2] at bd;cases bK;cases bd;obtain⟨tc,c1,c2⟩:=hv;obtain⟨ta,a1,a2,a3⟩:=ha;refine⟨_,dC xo.call c1 a1 he ao,λ P0 P σ H Q ρ V h=>?_⟩;dsimp only at h;refine c2 P0 P σ H _ ρ V ?_;cases q:f ρ with
 |bad|ex x=>rw[q] at h;exact h
 |ok d =>
  rw[q] at h;simp only[M.A9] at h;intro v H1 s1 hv;have fin:∀ds,fs ρ=.ok ds->∀ {F:List D->M OT},Xd X.K (D1 X.K E) P H Q (F ds)->∀vs H2,Ad H1 H2->Ah X.K (del H2 P) vs ds->spT X.K n F (vs++[]) H2 Q E:=λ ds qs F h vs H2 s2 a5=>by
   rw[zV];exact⟨by rw[a5.length,a3 ρ ds qs];exact hn,P,ds,((V.same s1).same s2).C8,a5,(h.same s1).same s2⟩
  have go:∀ {F:List D->M OT},Xd X.K (D1 X.K E) P H Q ((fs ρ).bind F)->ta σ H1 λ vs H2=>spT X.K n F (vs++[]) H2 Q E:=fun {F} h=>by
   refine a2 P0 P σ H1 _ ρ (V.same s1) ?_;cases qs:fs ρ with
   |bad=>rw[qs] at h;exact h
   |ex x=>rw[qs] at h;exact λ H' s'=>h H' (s1.trans s')
   |ok ds =>
    rw[qs] at h;exact λ vs H2 s2 a5=>fin ds qs h vs H2 s2 a5
  cases hv with
  | @F3 a x hx _ =>
   by_cases e1:x=x1
   ·subst e1;rw[n1] at hx;cases hx;refine⟨_,wm,wn,k1,_,rfl,dL,h1,wo,bE,go ?_⟩;simpa [XJ] using h
   ·by_cases e2:x=x2
    ·subst e2;rw[n2] at hx;cases hx;refine⟨_,wp,wq,k2,_,rfl,qh,h2,g8,wr,go ?_⟩;simpa [XJ,e1] using h
    ·simp only[XJ,if_neg e1,if_neg e2] at h;exact h.elim
  |_=>exact h.elim
end
abbrev kD (k:Int×List Co):OT:=.tup [.sh (.int k.1),.lst ((k.2.map cst).map .sh)]
abbrev eE (k:Int×List Co):D:=.tup [.int k.1,.lst (k.2.map cst)]
abbrev qS (K:List (Int×List Co)):OT:=.lst (K.map kD)
abbrev XM (K:List (Int×List Co)):Cl:=toCl none (qS K)
def pX (k:Int×List Co):er (kD k)=eE k:=by
 have e:=J2 (ds:=k.2.map cst);unfold kD eE;rw[er,OU,OU,OU,e,Ph]
def dD:∀K:List (Int×List Co),OU (K.map kD)=K.map eE
 |[]=>by simp[OU]
 |k::r=>by rw[zx,OU,dD r,pX,zx]
def pY (K:List (Int×List Co)):er (qS K)=.lst (K.map eE):=by unfold qS;rw[er,dD]
def L5 (K:List (Int×List Co)):treeOf (XM K)=some (none,qS K):=Sj _ _
def QX (K:List (Int×List Co)):Jv (XM K)=.val (.lst (K.map eE)):=by rw[Xe (L5 K),pY]
section
variable {K:List (Int×List Co)}{ρ:Ae}{k:Int×List Co}
def dE:TX 0 (some (XM K)::ρ) []=some (qS K):=by
 unfold TX;simp only[zaw,L5,Sg]
def kE:Od 0 (some (XM K)::ρ)=.ok []:=by unfold Od;rw[dE]
def dG:Ej 0 (some (XM K)::ρ) []=.ok (K.map kD):=by unfold Ej;rw[dE];rfl
def kF:Gm 0 (some (XM K)::ρ) [] (.lst (K.map kD++[kD k]))=.ok (.next (some (XM (K++[k]))::ρ)):=by
 unfold Gm;simp only[zaw,L5,Ef,zC];unfold XM qS;rw[zK];rfl
end
def pZ {α:Type}{l:List α}{f g:α->Bool}(h:∀x∈l,f x=g x):l.any f=l.any g:=by
 induction l with
 |nil=>rfl
 |cons a r ih=>rw[zbe,zbe,h a zv,ih λ x hx=>h x (zw _ hx)]
abbrev He (c:Int->Int->Co)(p h:Int):D:=.tup [.int h,cst (c p h)]
def Np (c:Int->Int->Co)(p:Int)(D:List Int):(AB c p D).length<=D.length:=by
 unfold AB;refine zal (List.length_filterMap_le _ _) ?_;rw[List.length_range];exact zF _
def Nq {c:Int->Int->Co}{p h:Int}{D:List Int}(hn:c p h≠none):Gb c p D h = !(D.any λ x=>decide (Aj (c p x) (c x h)=c p h)):=by unfold Gb;rw[decide_eq_true hn,Bool.true_and]
def US {c:Int->Int->Co}{p h:Int}{D:List Int}(hn:c p h=none):Gb c p D h=false:=by unfold Gb;rw[decide_eq_false (λ z=>z hn),Bool.false_and]
def QY {m:Nat}{rs:List Road}{c:Int->Int->Co}(h:∀x y:Int,0<=x->x<m->0<=y->y<m->BN rs x y (c x y)):Yg m c:=λ x y z hx hy hz=>by
 cases e1:c x y with
 |none=>cases c x z<;>exact trivial
 |some p =>
  cases e2:c y z with
  |none=>cases c x z<;>exact trivial
  |some q =>
   have w1:=(h x y hx.1 hx.2 hy.1 hy.2).2 p e1;have w2:=(h y z hy.1 hy.2 hz.1 hz.2).2 q e2;exact (h x z hx.1 hx.2 hz.1 hz.2).1 _ (w1.trans w2)
def Fi {c:Int->Int->Co}{p:Int}{D:List Int}:∀x∈AB c p D,∃q,c p x=some q:=by
 intro x hx;obtain⟨i,hi,e⟩:=zby.mp hx;split at e
 ·rename_i h;cases e;unfold Gb at h;rw[zZ] at h;exact Option.ne_none_iff_exists'.mp (of_decide_eq_true h.1)
 ·cases e
def min_self {m:Nat}{rs:List Road}(Ar:∀r∈rs,GX m r)(u:Int):BN rs u u (some (0,0)):=
 ⟨λ c h=>by have:=h.nn Ar;show (0:Int)<c.1\/_;simp only;omega,λ p e=>by cases e;exact .nil u⟩
abbrev BS (kv:Int×(Int×Int)):D:=.tup [.int kv.1,cst (some kv.2)]
abbrev Bj (R1 R2:RA):List ((Int×Int)×Int):=R1.filterMap λ kv=>(Ay R2 kv.1).map λ c=>((kv.2.1+c.1,kv.2.2+c.2),kv.1)
abbrev L6 (x:(Int×Int)×Int):D:=.tup [cst (some x.1),.int x.2]
def Nr (R2:RA):∀R1:RA,((R1.filter λ kv=>(Ay R2 kv.1).isSome).map λ kv=>D.tup [cst (Aj (some kv.2) (Ay R2 kv.1)),.int kv.1])=(Bj R1 R2).map L6
 |[]=>rfl
 |kv::r=>by
  have ih:=Nr R2 r;unfold Bj at ih ⊢;rw[zaz];cases q:Ay R2 kv.1 with
  |none=>rw[List.filter_cons_of_neg (by rw[q];simp)];exact ih
  |some c=>rw[List.filter_cons_of_pos (by rw[q];rfl),zx,ih,q];rfl
def XN (R1 R2:RA):(Bj R1 R2).length<=R1.length:=List.length_filterMap_le _ _
abbrev O5 (b:Option ((Int×Int)×Int))(x:(Int×Int)×Int):Option ((Int×Int)×Int):=match b with
 |none=>some x
 |some y=>if x.1.1<y.1.1\/(x.1.1=y.1.1/\x.1.2<y.1.2) then some x else some y
abbrev DC:Option ((Int×Int)×Int)->D
 |none=>.AL
 |some x=>L6 x
def XO {c:Int×Int}{h:Int}:∀ {l:List ((Int×Int)×Int)}{b:Option ((Int×Int)×Int)},(∀y,b=some y->BI (some c) (some y.1)/\y.1≠c)->(∀x∈l,BI (some c) (some x.1))->(∃l1 l2,l=l1++(c,h)::l2/\∀x∈l1,x.1≠c)->l.foldl O5 b=some (c,h):=by
 have O6:∀ {l:List ((Int×Int)×Int)},(∀x∈l,BI (some c) (some x.1))->l.foldl O5 (some (c,h))=some (c,h):=by
  intro l;induction l with
  |nil=>intro _;rfl
  |cons x r ih =>
   intro hl;have hx:=hl x zv;have e:O5 (some (c,h)) x=some (c,h):=by
    unfold O5;dsimp only;rw[if_neg];simp only[BI] at hx;omega
   rw[zP,e];exact ih λ x hx=>hl x (zw _ hx)
 intro l;induction l with
 |nil=>rintro b _ _ ⟨l1,l2,e,_⟩;cases l1<;>cases e
 |cons x r ih =>
  rintro b hb hl ⟨l1,l2,e,ae⟩;rw[zP];cases l1 with
  |nil =>
   rw[List.nil_append] at e;cases e;have e2:O5 b (c,h)=some (c,h):=by
    cases b with
    |none=>rfl
    |some y =>
     obtain⟨g1,g2⟩:=hb y rfl;unfold O5;dsimp only;rw[if_pos];simp only[BI] at g1;by_cases q:c.1=y.1.1/\c.2=y.1.2
     ·exact absurd (Prod.ext q.1.symm q.2.symm) g2
     ·omega
   rw[e2];exact O6 λ x hx=>hl x (zw _ hx)
  |cons z l1 =>
   rw[zbu] at e;cases e;refine ih (λ y hy=>?_) (λ x hx=>hl x (zw _ hx)) ⟨l1,l2,rfl,λ x hx=>ae x (zw _ hx)⟩;have hx:BI (some c) (some x.1)/\x.1≠c:=⟨hl x zv,ae x zv⟩;unfold O5 at hy;split at hy
   ·cases hy;exact hx
   ·split at hy
    ·cases hy;exact hx
    ·cases hy;exact hb _ rfl
abbrev B0 (C:Int->Int->Co)(p:Int)(W:List Int):RA:=W.map λ h=>(h,(C p h).getD (0,0))
def kG {C:Int->Int->Co}{p:Int}{W:List Int}(hW:∀x∈W,∃q,C p x=some q):W.map (He C p)=(B0 C p W).map BS:=by
 unfold B0;rw[zak];refine zbs λ h hh=>?_;obtain⟨q,e⟩:=hW h hh;show He C p h=D.tup [.int h,cst (some ((C p h).getD (0,0)))];unfold He;rw[e];rfl
def Kg {C:Int->Int->Co}{p h:Int}:∀ {W:List Int},Ay (B0 C p W) h=if h∈W then some ((C p h).getD (0,0)) else none
 |[]=>rfl
 |x::r=>by
  have ih:=Kg (C:=C) (p:=p) (h:=h) (W:=r);unfold B0 at ih ⊢;rw[zx,Ay,ih];by_cases e:x=h
  ·subst e;rw[if_pos rfl,if_pos zv]
  ·rw[if_neg e];by_cases hm:h∈r
   ·rw[if_pos hm,if_pos (zw _ hm)]
   ·rw[if_neg hm,if_neg λ z=>(zB.mp z).elim (λ w=>e w.symm) hm]
def Hf (c:Int->Int->Co)(p:Int):∀(E D:List Int),∃Z,AB c p (D++E)=AB c p D++Z
 |[],D=>⟨[],by rw[zV,zV]⟩
 |e::E,D=>by
  obtain⟨Z,h⟩:=Hf c p E (D++[e]);rw[za9,List.singleton_append,E7,za9] at h;exact⟨_,h⟩
def dH {α:Type}{B:α->Prop}:∀ {R:List α},(∃x∈R,B x)->∃D h E,R=D++h::E/\B h/\∀x∈D,¬ B x:=by
 classical
 intro R;induction R with
 |nil=>rintro ⟨x,hx,_⟩;cases hx
 |cons a r ih =>
  intro hx;by_cases ha:B a
  ·exact⟨[],a,r,rfl,ha,λ x hx=>by cases hx⟩
  ·obtain⟨D,h,E,e,hb,hn⟩:=ih (by
    obtain⟨x,hx,hb⟩:=hx;rcases zB.mp hx with rfl|hx
    ·exact absurd hb ha
    ·exact⟨x,hx,hb⟩)
   exact⟨a::D,h,E,by rw[e];rfl,hb,λ x hx=>by
    rcases zB.mp hx with rfl|hx
    ·exact ha
    ·exact hn x hx⟩
def Wu {m:Nat}{C:Int->Int->Co}(T:Yg m C){s g h:Int}{D:List Int}(hs:0<=s/\s<m)(hg:0<=g/\g<m)(hh:0<=h/\h<m)(hD:∀x∈D,0<=x/\x<(m:Int))(hc:C s g≠none)(hb:Aj (C s h) (C h g)=C s g)(hn:∀x∈D,Aj (C s x) (C x g)≠C s g):Gb C s D h=true:=by
 rw[Nq λ z=>hc (by rw[<-hb,z];rfl),Bool.not_eq_true',Bool.eq_false_iff];intro w;obtain⟨y,hy,w⟩:=zcg.mp w;exact hn y hy (SV T hs (hD y hy) hh hg (of_decide_eq_true w) hb)
def XQ {m:Nat}{C:Int->Int->Co}(T:Yg m C){s g h:Int}{c:Int×Int}{D E:List Int}(hs:0<=s/\s<m)(hg:0<=g/\g<m)(hR:∀x∈D++h::E,0<=x/\x<(m:Int))(hc:C s g=some c)(hb:Aj (C s h) (C h g)=C s g)(hn:∀x∈D,Aj (C s x) (C x g)≠C s g):
 (Bj (B0 C s (AB C s (D++h::E))) (B0 (λ x y=>C y x) g (AB (λ x y=>C y x) g (D++h::E)))).foldl O5 none=some (c,h):=by
 have hh:=hR h (by simp);have hD:∀x∈D,0<=x/\x<(m:Int):=λ x hx=>hR x (by simp[hx]);have be:C s g≠none:=by rw[hc];exact λ z=>by cases z
 have k1:=Wu T hs hg hh hD be hb hn;have k2:Gb (λ x y=>C y x) g D h=true:=Wu T.turn hg hs hh hD be (by rw[Bc];exact hb) λ x hx=>by rw[Bc];exact hn x hx
 obtain⟨Z1,e1⟩:=Hf C s E (D++[h]);obtain⟨Z2,e2⟩:=Hf (λ x y=>C y x) g E (D++[h]);rw[za9,List.singleton_append,E7,if_pos k1,za9] at e1;rw[za9,List.singleton_append,E7,if_pos k2,za9] at e2;obtain⟨p,q,hp,hq,df⟩:=E5 (hb.trans hc);have sum:∀x∈Bj (B0 C s (AB C s (D++h::E))) (B0 (λ x y=>C y x) g (AB (λ x y=>C y x) g (D++h::E))),x.2∈AB C s (D++h::E)/\some x.1=Aj (C s x.2) (C x.2 g):=λ x hx=>by
  obtain⟨kv,hk,ex⟩:=zby.mp hx;obtain⟨y,hy,rfl⟩:=zS.mp hk;rw[Kg] at ex;obtain⟨b,eb,rfl⟩:=zaq.mp ex;split at eb
  ·rename_i hm;cases eb;obtain⟨a1,f1⟩:=Fi y hy;obtain⟨a2,f2⟩:=Fi y hm;refine⟨hy,?_⟩;dsimp only at f2 ⊢;rw[f1,f2];rfl
  ·cases eb
 refine XO (λ y hy=>by cases hy) (λ x hx=>?_) ?_
 ·obtain⟨g1,g2⟩:=sum x hx;rw[g2,<-hc];exact T s x.2 g hs (hR _ (Fh _ _ _ _ g1)) hg
 ·have bd:h∈AB (λ x y=>C y x) g (D++h::E):=by rw[e2];simp
  have es:Bj (B0 C s (AB C s (D++h::E))) (B0 (λ x y=>C y x) g (AB (λ x y=>C y x) g (D++h::E)))=Bj (B0 C s (AB C s D)) (B0 (λ x y=>C y x) g (AB (λ x y=>C y x) g (D++h::E)))++(c,h)::Bj (B0 C s Z1) (B0 (λ x y=>C y x) g (AB (λ x y=>C y x) g (D++h::E))):=by
   rw[e1];unfold Bj B0;rw[zK,zK,zc2,zc2,List.map_singleton];congr 1;rw[zaz];have ef:=Kg (C:=λ x y=>C y x) (p:=g) (h:=h) (W:=AB (λ x y=>C y x) g (D++h::E));rw[if_pos bd] at ef;unfold B0 at ef;dsimp only at ef ⊢;rw[ef,hp,hq,df];rfl
  refine⟨_,_,es,λ x hx z=>?_⟩;have am:=sum x (by rw[es];exact za2 _ hx);obtain⟨kv,hk,ex⟩:=zby.mp hx;obtain⟨y,hy,rfl⟩:=zS.mp hk;obtain⟨b,eb,rfl⟩:=zaq.mp ex;exact hn y (Fh _ _ _ _ hy) (by rw[<-am.2,z,hc])
def XR {m:Nat}{C:Int->Int->Co}(T:Yg m C){s g:Int}{R:List Int}(hs:0<=s/\s<m)(hg:0<=g/\g<m)(hR:∀x∈R,0<=x/\x<(m:Int))(hc:C s g=none):
 Bj (B0 C s (AB C s R)) (B0 (λ x y=>C y x) g (AB (λ x y=>C y x) g R))=[]:=by
 unfold Bj;refine List.filterMap_eq_nil_iff.mpr λ kv hk=>?_;obtain⟨y,hy,rfl⟩:=zS.mp hk;rw[Kg];by_cases hm:y∈AB (λ x y=>C y x) g R
 ·exfalso;obtain⟨a1,f1⟩:=Fi y hy;obtain⟨a2,f2⟩:=Fi y hm;have:=T s y g hs (hR y (Fh _ _ _ _ hy)) hg;have f2:C y g=some a2:=f2;rw[hc,f1,f2] at this;exact this
 ·rw[if_neg hm];rfl
def uI (x:(Int×Int)×Int):Pl 2 (L6 x):=Ut (EH (KW (n:=0) _) (EH (Fz _) Qt))
def XS (C:Int->Int->Co)(p:Int)(W:List Int):(B0 C p W).map zX=W:=by unfold B0;rw[zak];exact List.map_id'' (λ _=>rfl) W
def UT {c:Int->Int->Co}{p:Int}{D:List Int}(h:D.Nodup):(AB c p D).Nodup:=by
 have key:∀n:Nat,n<=D.length->(AB c p (D.take n)).Nodup:=by
  intro n;induction n with
  |zero=>intro _;rw[zca];exact zax
  |succ n ih =>
   intro hl;have af:n<D.length:=by omega
   have e:D.take (n+1)=D.take n++[D[n]]:=by rw[za4,z4 af];rfl
   rw[e,E7];split
   ·refine zQ.mpr ⟨ih (by omega),by simp,λ a ha b hb z=>?_⟩;have sw:=Fh _ _ _ _ ha;rw[z,zy.mp hb] at sw;obtain⟨j,hj,ej⟩:=List.getElem_of_mem sw;rw[zaf] at hj;rw[List.getElem_take] at ej;exact List.pairwise_iff_getElem.mp h j n (by omega) af (by omega) ej
   ·rw[zV];exact ih (by omega)
 have:=key D.length (zF _);rwa[za5] at this
end L2
namespace HT
open PySem PyProof.Rows
abbrev kH (A:Around)(s:Shared)(x y:Value)(r:Bool):Prop:=∀(prog:Program) (w:World) (E:Value->Shared->Prop) (Q:Value->Shared->Prop),Q (.bool r) s->wpAny (model prog w) A (richCompare .Lt x y) Q E s
section
open PySem.SeqAt
open PySem.AutoSeq1 (wpAny_loadPart')
open PySem.MeetsSeq PySem.MeetsSeq2 PySem.MeetsSeq3
def QZ (l b:Addr)(x1 x2:Value)(a c:Int)(t u:Tok)(n n2:Nat)(dd fg:Option Addr)(sl cr:Array (Option Value))(e r:Bool):
 Meets (Builtin.«tuple.__lt__» ⟨[.ref l,.ref b],[]⟩)
  (λ A R s=>s.heap.get? l=some {cls:=.type "tuple",dict:=dd,data:=.seq #[x1,.int a t] n,slots:=sl}/\s.heap.get? b=some {cls:=.type "tuple",dict:=fg,data:=.seq #[x2,.int c u] n2,slots:=cr}/\
   EqAt A.in1 s x1 x2 e/\(e=false->kH A.in1 s x1 x2 r)/\R (.ok (.ret (.bool (if e=true then decide (a<c) else r)))) s):=
 .of_wp λ prog w A R s h=>by
  obtain⟨hp,g,d,tk,os⟩:=s;obtain⟨hl,hb,he,af,h⟩:=h;have f2:=AutoSeq1.sub_tuple_tuple
  wp_walk using wpAny_loadPart' hl,wpAny_loadPart' hb,wpAny_forIn_list _ (λ rest b s'=>b.1=none/\s'=⟨hp,g,d,tk,os⟩/\(rest=[(x1,x2),(.int a t,.int c u)]\/(rest=[(.int a t,.int c u)]/\e=true)\/(rest=[]/\e=true/\a=c))) _
  case turn =>
   rintro ⟨y,x⟩ rest b s' ⟨ay,rfl,hz⟩;rcases hz with hz|⟨hz,rfl⟩|⟨hz,_⟩
   ·injection hz with ja bf
    injection ja with hy hx
    subst hy hx;refine wpAny_bind (he prog w _ _ ?_);cases e with
    |true =>
     wp_walk
     exact⟨rfl,rfl,.inr (.inl ⟨bf,rfl⟩)⟩
    |false =>
     have jb:=af rfl prog w
     wp_walk using jb
     exact⟨_,rfl,by simpa using h⟩
   ·injection hz with ja bf
    injection ja with hy hx
    subst hy hx;rw[if_pos rfl] at h;obtain⟨e,wt,cv⟩:=RO A.in1 ⟨hp,g,d,tk,os⟩ a t c u;refine wpAny_bind (wt prog w _ _ ?_);cases e with
    |true =>
     wp_walk
     exact⟨rfl,rfl,.inr (.inr ⟨bf,rfl,cv.mp rfl⟩)⟩
    |false =>
     have jb:=RP A.in1 ⟨hp,g,d,tk,os⟩ a t c u prog w
     wp_walk using jb
     exact⟨_,rfl,by simpa using h⟩
   ·cases hz
  case fin =>
   rintro ⟨b1,b2⟩ s' ⟨ay,rfl,hz⟩;simp only at ay;subst ay;rcases hz with hz|⟨hz,_⟩|⟨_,rfl,rfl⟩
   ·cases hz
   ·cases hz
   ·rw[if_pos rfl,decide_eq_false (Int.lt_irrefl _)] at h
    wp_walk
    exact⟨_,rfl,by simpa [Builtin.Tuple.tupleCompareSizes] using h⟩
  case h =>
   exact⟨rfl,rfl,.inl rfl⟩
end
section
variable {prog:Program}{w:World}{A:Around}{E:Value->Shared->Prop}{s:Shared}
def qA {l b:Addr}{x1 x2:Value}{a c:Int}{t u:Tok}{e r:Bool}{Q:Value->Shared->Prop}(hl:IsTup s.heap l #[x1,.int a t])(hb:IsTup s.heap b #[x2,.int c u])(he:SeqAt.EqAt A.in1 s x1 x2 e)(af:e=false->kH A.in1 s x1 x2 r)
 (hu:A.units<cLine) (h:Q (.bool (if e=true then decide (a<c) else r)) s):wpAny (model prog w) A (compareOp .Lt (.ref l) (.ref b)) Q E s:=by
 obtain⟨⟨cls,dd,data,sl⟩,ho,hc,n,hd⟩:=id hl;obtain⟨⟨mz,fg,data2,cr⟩,jc,jd,n2,hd2⟩:=id hb;simp only at hc hd jd hd2;subst hc hd jd hd2;exact richCompare_meets_room (op:=.Lt) ⟨_,ho,rfl⟩ ⟨_,jc,rfl⟩ PySem.F.slot_tuple_lt PySem.F.entry_tuple_lt (PySem.F.args_tuple_lt_2 _ _) (QZ l b x1 x2 a c t u n n2 dd fg sl cr e r)
  ⟨ho,jc,he,af,show Value.bool (if e=true then decide (a<c) else r)≠Value.notImplemented/\Q (.bool (if e=true then decide (a<c) else r)) s from ⟨(λ x=>nomatch x),h⟩⟩ hu
end
end HT
namespace L2
open PySem PySem.Spec PyProof.Rows
section
variable {prog:Program}{w:World}{A:Around}{R:Result->Shared->Prop}
def XT (bs:List (Addr×List Int))(OK:Heap->Prop)(l I S:Addr)(o:Option Value)(f9:o=none->bs≠[])(hh:A.handled=none)(c7:S≠I)(c8:l≠I)(jk:l≠S)(Ar:∀h h':Heap,OK h->(∀b o,b≠I->b≠S->h.get? b=some o->h'.get? b=some o)->OK h')
 (hL:∀s:Shared,OK s.heap->∀b∈bs,∀m∈bs,HT.kH A.in1 s (.ref b.1) (.ref m.1) (HT.lexLt b.2 m.2)):∀(k j:Nat) (s:Shared) (c:Nat),bs.length-j=k->j<=bs.length->s.heap.IsListIter I l j->s.heap.IsList l (bs.map λ b=>zad b.1).toArray->OK s.heap->
  s.heap.get? S=some {cls:=.type "list",dict:=none,data:=.seq (D3 (bs.take j)) c,slots:=#[]} ->
  (∀h' tk,(∀b o,b≠I->b≠S->s.heap.get? b=some o->h'.get? b=some o)->R (.ok (.ret (match AV bs with|none=>o.getD .none|some b=>.ref b.1))) {s with heap:=h',toks:=tk})->
  codeAny (model prog w) A (.builtin "min.loop" ⟨[.ref I,.none,.ref S],fU o⟩) R s:=by
 have a4:(toString "min" ++ toString ".loop" : String) = "min.loop" := by decide
 intro k;induction k with
 |zero =>
  intro j s c hr hj hit hl ht hS hR;have bi:j=bs.length:=by omega
  subst bi;rw[za5] at hS;refine codeAny_builtin PySem.F.entry_min_loop ?_;rw[zb1 za8 _];show wpAny _ A.in1 (seqItems? (.ref S) >>= _) _ _ s;refine wpAny_bind (wpAny_seqItems hS rfl ?_);show wpAny _ A.in1 (tryCatch (pyNext (.ref I)) _ >>= _) _ _ s;refine wpAny_bind (wpAny_tryCatch (wpAny_pyNext_list_end (A:=A.in1) hh hit hl (by simp) λ h' eb=>?_));have aA:h'.get? S=_:=eb S _ c7 hS;unfold D3 at aA;cases hb:AV bs with
  |none =>
   unfold D3;rw[hb];cases o with
   |none=>exact (Jm (f9 rfl) hb).elim
   |some d =>
   show wpAny _ A.in1 (rule _ >>= _) _ _ _;refine wpAny_bind (wpAny_rule (wpAny_pure ?_));have q:=hR h' s.toks λ b o h1 h2 e=>eb b o h1 e;rw[hb] at q;exact q
  |some b =>
   rw[hb] at aA;unfold D3;rw[hb];show wpAny _ A.in1 (updateSeq S (λ _=>#[]) >>= _) _ _ _;refine wpAny_bind ?_;refine wpAny_updateSeq aA rfl (wpAny_bind (wpAny_letGo (wpAny_pure ?_)));have q:=hR (h'.update S (zbq λ _=>#[])) s.toks λ b o h1 h2 e=>(zbx _ _ (zac h2)).trans (eb b o h1 e);rw[hb] at q;exact q
 |succ k ih =>
  intro j s c hr hj hit hl ht hS hR;have af:j<bs.length:=by omega
  have ej:bs.take (j+1)=bs.take j++[bs[j]]:=by rw[za4,z4 af];rfl
  have mj:bs[j]∈bs:=zbt af;refine codeAny_builtin PySem.F.entry_min_loop ?_;rw[zb1 za8 _];show wpAny _ A.in1 (seqItems? (.ref S) >>= _) _ _ s;refine wpAny_bind (wpAny_seqItems hS rfl ?_);show wpAny _ A.in1 (tryCatch (pyNext (.ref I)) _ >>= _) _ _ s;refine wpAny_bind (wpAny_tryCatch (wpAny_pyNext_list_item (A:=A.in1) hit hl (x:=.ref bs[j].1) (by simp[af]) λ h' aI sb=>?_));have b8:zc4 I s.heap h':=sb;have aA:h'.get? S=_:=(b8.2 S c7).trans hS;have cp:h'.IsList l (bs.map λ b=>zad b.1).toArray:=hl.at λ o e=>(b8.2 l c8).trans e;have ci:OK h':=Ar _ _ ht λ b o h1 _ e=>(b8.2 b h1).trans e;cases hb:AV (bs.take j) with
  |none =>
   unfold D3 at aA ⊢;rw[hb] at aA ⊢;show wpAny _ A.in1 (updateSeq S (λ _=>#[.ref bs[j].1,.ref bs[j].1]) >>= _) _ _ _;refine wpAny_bind ?_;refine wpAny_updateSeq aA rfl ?_;rw[a4];have s1:=Heap.SameBut.update h' S (zbq λ _=>(#[.ref bs[j].1,.ref bs[j].1]:Array Value));refine wpAny_pure ⟨plainId_quiet za8 _,ih (j+1) _ (c+1) (by omega) af (aI.at λ o e=>(s1.2 I (zac c7)).trans e) (cp.at λ o e=>(s1.2 l jk).trans e) (Ar _ _ ci λ b o _ h2 e=>(s1.2 b h2).trans e) ?_ λ bT tk aJ=>?_⟩
   ·refine (zc3 _ aA rfl).trans ?_;unfold D3;rw[ej,Cz,hb];rfl
   ·exact hR bT tk λ b o h1 h2 e=>aJ b o h1 h2 ((s1.2 b h2).trans ((b8.2 b h1).trans e))
  |some m =>
   have mm:m∈bs:=zae (KH _ _ hb);unfold D3 at aA ⊢;rw[hb] at aA ⊢;show wpAny _ A.in1 (tryCatch (holding [.ref bs[j].1,.ref bs[j].1] (richCompare .Lt (.ref bs[j].1) (.ref m.1) >>= _)) _ >>= _) _ _ _;refine wpAny_bind (wpAny_tryCatch (wpAny_holding (wpAny_bind (hL _ ci _ mj _ mm _ _ _ _ ?_))));refine wpAny_bind (wpAny_holding (wpAny_truthy_bool ?_));refine wpAny_bind (wpAny_letGo (wpAny_pure ?_));cases hc:HT.lexLt bs[j].2 m.2 with
   |true =>
    simp only[if_true];have s1:=Heap.SameBut.update h' S (zbq λ _=>(#[.ref bs[j].1,.ref bs[j].1]:Array Value));refine wpAny_bind ?_;refine wpAny_updateSeq aA rfl (wpAny_bind (wpAny_letGo ?_));rw[a4];refine wpAny_pure ⟨plainId_quiet za8 _,ih (j+1) _ c (by omega) af (aI.at λ o e=>(s1.2 I (zac c7)).trans e) (cp.at λ o e=>(s1.2 l jk).trans e) (Ar _ _ ci λ b o _ h2 e=>(s1.2 b h2).trans e) ?_ λ bT tk aJ=>?_⟩
    ·refine (zc3 _ aA rfl).trans ?_;unfold D3;rw[ej,Cz,hb];simp only[hc,if_true];rfl
    ·exact hR bT tk λ b o h1 h2 e=>aJ b o h1 h2 ((s1.2 b h2).trans ((b8.2 b h1).trans e))
   |false =>
    simp only[zR,if_false];refine wpAny_bind (wpAny_letGo ?_);rw[a4];refine wpAny_pure ⟨plainId_quiet za8 _,ih (j+1) _ c (by omega) af aI cp ci ?_ λ bT tk aJ=>?_⟩
    ·refine aA.trans ?_;unfold D3;rw[ej,Cz,hb];simp only[hc,zR,if_false]
    ·exact hR bT tk λ b o h1 h2 e=>aJ b o h1 h2 ((b8.2 b h1).trans e)
def XU {E:Value->Shared->Prop}{s:Shared}{Q:Value->Shared->Prop}(bs:List (Addr×List Int))(l:Addr)(o:Option Value)(f9:o=none->bs≠[])(hh:A.handled=none)
 (hl:s.heap.IsList l (bs.map λ b=>zad b.1).toArray) (af:∀s':Shared,(∀b o,s.heap.get? b=some o->s'.heap.get? b=some o)->∀b∈bs,∀m∈bs,HT.kH A.in1 s' (.ref b.1) (.ref m.1) (HT.lexLt b.2 m.2))
 (hQ:∀h' tk,(∀b o,s.heap.get? b=some o->h'.get? b=some o)->Q (match AV bs with|none=>o.getD .none|some b=>.ref b.1) {s with heap:=h',toks:=tk}):
 wpAny (model prog w) A (call (.builtin "min") [.ref l] (fU o)) Q E s:=by
 have a4:(toString "min" ++ toString ".loop" : String) = "min.loop" := by decide
 obtain⟨ol,ga,_⟩:=id hl;have nu:l<s.heap.objs.size:=zD ga;refine kmk_tree PySem.F.kind_min PySem.F.plain_min PySem.F.entry_min (S2 _ _) ?_;show wpAny _ A.in1 (zbo "min" ["key","default"] 0 ⟨[],fU o⟩ >>= _) _ _ s;refine wpAny_bind (wpAny_of_eq (show zbo "min" ["key","default"] 0 ⟨[],fU o⟩=pure [none,o] by cases o<;>rfl) ?_);refine wpAny_bind (wpAny_pure ?_);refine wpAny_bind (wpAny_pyIter_list hl ?_);refine wpAny_bind (wpAny_newList ?_ (za6 _));rw[a4];have hS:(s.heap.push {cls:=.type "list_iterator",data:=.fields #[.ref l,.int 0 0]}).objs.size=s.heap.objs.size+1:=zcd ..;have old:∀b o,s.heap.get? b=some o->b≠s.heap.objs.size/\b≠(s.heap.push {cls:=.type "list_iterator",data:=.fields #[.ref l,.int 0 0]}).objs.size:=λ b o e=>⟨zM (zD e),by rw[hS];exact zM (Nat.lt_succ_of_lt (zD e))⟩;have grow:∀b o,s.heap.get? b=some o->((s.heap.push {cls:=.type "list_iterator",data:=.fields #[.ref l,.int 0 0]}).push {cls:=.type "list",data:=.seq #[]}).get? b=some o:=λ b o e=>z6 _ (z6 _ e);refine wpAny_pure ⟨plainId_quiet za8 _,?_⟩;refine XT bs (λ h=>∀b o,s.heap.get? b=some o->h.get? b=some o) l s.heap.objs.size (s.heap.push {cls:=.type "list_iterator",data:=.fields #[.ref l,.int 0 0]}).objs.size o f9 hh (by rw[hS];exact Nat.succ_ne_self _) (old l ol ga).1 (old l ol ga).2 (λ h h' k1 k2 b o e=>k2 b o (old b o e).1 (old b o e).2 (k1 b o e)) af _ 0 _ 0 rfl (za6 _) ?_ ?_ ?_ ?_ ?_
 ·exact⟨_,z6 _ (zN _ rfl),rfl,rfl⟩
 ·exact hl.at λ o e=>grow l o e
 ·exact grow
 ·exact zN _ rfl
 ·intro h' tk c9;exact hQ h' tk λ b o e=>c9 b o (old b o e).1 (old b o e).2 (grow b o e)
end
def xH (x1 y1 k1 x2 y2 k2:Int):(if decide (x1=x2/\y1=y2)=true then decide (k1<k2) else HT.lexLt [x1,y1] [x2,y2])=HT.lexLt [x1,y1,k1] [x2,y2,k2]:=by
 simp only[HT.Cy,HT.C1,decide_eq_true_eq];by_cases a:x1=x2
 ·by_cases b:y1=y2
  ·subst a b;simp only[and_self,if_true];by_cases c:k1=k2
   ·subst c;simp
   ·rw[if_neg c]
  ·rw[if_neg (λ z=>b z.2),if_pos a,if_pos a,if_neg b,if_neg b]
 ·rw[if_neg (λ z=>a z.1),if_neg a,if_neg a]
section
variable {X:Cx}{WX:Str->Hp->Prop}{c:Bool}{e:Expr}{f:Ae->M D}{pos:Pos}
abbrev lS (K:zr):List V->Hp->VK->Prop:=λ xs H Q=>∃(a:Addr) (bs:List (Addr×List Int)) (b:Addr×List Int),xs=[.ref a]/\D7 K H a (bs.map λ b=>V.ref b.1)/\(∀b∈bs,∃q x y k,b.2=[x,y,k]/\EC K H b.1 [.ref q,.int k]/\EC K H q [.int x,.int y])/\AV bs=some b/\Q (.ref b.1) H
def XW (hc:X.calm=true)(hu:X.A.units+8<cLine):F5 X (.builtin "min") (lS X.K):=by
 intro pins s σ H xs us Q I r h;obtain⟨a,bs,b0,rfl,hl,hb,he,q⟩:=h;obtain⟨ua,rfl,ra⟩:=r.one;cases ra;obtain⟨aa,rv,pl,hz⟩:=I.list hl;have ei:=HB rv;subst ei;have ae:bs≠[]:=λ z=>by subst z;cases he
 have tv:∀b∈bs,∃q x y k t t1 t2,b.2=[x,y,k]/\EC X.K H q [.int x,.int y]/\IsTup s.heap b.1 #[.ref q,.int k t]/\IsTup s.heap q #[.int x t1,.int y t2]:=λ b ay=>by
  obtain⟨q,x,y,k,e,h1,h2⟩:=hb b ay;obtain⟨ts,rt,pt,_⟩:=I.tuple h1;obtain⟨us,ru,pu,_⟩:=I.tuple h2;obtain⟨v1,v2,rfl,r1,r2⟩:=rt.two;obtain⟨w1,w2,rfl,s1,s2⟩:=ru.two;cases r1;obtain⟨t,rfl⟩:=r2;obtain⟨t1,rfl⟩:=s1;obtain⟨t2,rfl⟩:=s2;exact⟨q,x,y,k,t,t1,t2,e,h2,pt,pu⟩
 refine XU bs a none (λ _=>ae) (I.ok.hd hc) pl.isList (λ s' ex b ay m hm=>?_) λ h' tk hk=>?_
 ·obtain⟨q1,x1,y1,k1,t,t1,t2,e1,g1,p1,p2⟩:=tv b ay;obtain⟨q2,x2,y2,k2,t',sx,sy,e2,g2,wu,sB⟩:=tv m hm;have up:∀ {l:Addr} {z:Array Value},IsTup s.heap l z->IsTup s'.heap l z:=λ h=>let ⟨o,ho,r⟩:=h;⟨o,ex _ o ho,r⟩;rw[e1,e2,<-xH];have sK:X.A.in1.in1.units<cLine:=by show X.A.units+1+1<cLine;omega
  have eq:SeqAt.EqAt X.A.in1.in1 s' (.ref q1) (.ref q2) (decide (x1=x2/\y1=y2)):=by
   by_cases hq:q1=q2
   ·subst hq;have e3:=I.F4 g1 g2;cases e3;rw[decide_eq_true ⟨rfl,rfl⟩];exact .same _
   ·refine .of_refs hq ?_;have:=SeqAt.RcAt.tuples (A:=X.A.in1.in1) (s:=s') (e:=λ j=>if j=0 then x1==x2 else y1==y2) (up p2) (up sB) sK λ j h1 h2=>by
     have hj:j<2:=h1;rcases (by omega:j=0\/j=1) with rfl|rfl
     ·exact SeqAt.EqAt.int_int _ _ _ _
     ·exact SeqAt.EqAt.int_int _ _ _ _
    have e4:((zan (min (#[Value.int x1 t1,.int y1 t2]).size (#[Value.int x2 sx,.int y2 sy]).size)).all (λ j=>if j=0 then x1==x2 else y1==y2)&&(#[Value.int x1 t1,.int y1 t2]).size==(#[Value.int x2 sx,.int y2 sy]).size)=decide (x1=x2/\y1=y2):=by
     show ((zan 2).all _&&(2==2))=_;rw[show zan 2=[0,1] from rfl];simp only[zc8,List.all_nil,if_true,Nat.one_ne_zero,if_false,Bool.and_true,beq_self_eq_true];by_cases a1:x1=x2<;>by_cases a2:y1=y2<;>simp[a1,a2]
    rw[e4] at this;exact this
  intro prog w E Q' wv;exact HT.qA (up p1) (up wu) eq (λ _ prog w E Q hQ=>HT.II (up p2) (up sB) (.cons _ _ (.cons _ _ .nil)) (.cons _ _ (.cons _ _ .nil)) sK hQ) (by show X.A.units+1<cLine;omega) wv
 ·rw[he];exact⟨.ref b0.1,H,I.kept (t':=tk) hk,rfl,q⟩
abbrev kI:D->Option (List Int)
 | .tup [.tup [.int x,.int y],.int k]=>some [x,y,k]
 |_=>none
abbrev PH:List D->Option (List (D×List Int))
 |[]=>some []
 |d::r=>(kI d).bind λ k=>(PH r).map ((d,k)::·)
def dI {d:D}{k:List Int}(h:kI d=some k):∃x y z,d=.tup [.tup [.int x,.int y],.int z]/\k=[x,y,z]:=by
 unfold kI at h;split at h
 ·cases h;exact⟨_,_,_,rfl,rfl⟩
 ·cases h
def SX {K:zr}{H:Hp}:∀ {ds:List D}{xs:List V}{ks:List (D×List Int)},Ah K H xs ds->PH ds=some ks->∃bs:List (Addr×List Int),xs=bs.map (λ b=>V.ref b.1)/\(∀b∈bs,∃q x y k,b.2=[x,y,k]/\EC K H b.1 [.ref q,.int k]/\EC K H q [.int x,.int y])/\Alike K H bs ks:=by
 intro ds;induction ds with
 |nil=>intro xs ks h e;cases h;cases e;exact⟨[],rfl,by simp,.nil⟩
 |cons d r ih =>
  intro xs ks h e;rw[PH] at e;obtain⟨k,q,e⟩:=Option.bind_eq_some_iff.mp e;obtain⟨sf,q2,rfl⟩:=zaq.mp e;obtain⟨x,y,z,rfl,rfl⟩:=dI q;cases h with
  |cons h t =>
   obtain⟨bs,h1,h2,h3⟩:=ih t q2;have h':=h;cases h with
   | @tup a vs _ hs hl =>
    cases hl with
    |cons g hl =>
     cases hl with
     |cons g2 hl =>
      cases hl;cases g2;cases g with
      | @tup a2 ws _ aO a7 =>
       cases a7 with
       |cons u1 a7 =>
        cases a7 with
        |cons u2 a7 =>
         cases a7;cases u1;cases u2;refine⟨(a,[x,y,z])::bs,by rw[h1];rfl,λ b hb=>?_,.cons ⟨rfl,h'⟩ h3⟩;rcases zB.mp hb with w|w
         ·subst w;exact⟨a2,x,y,z,rfl,EC.of hs,EC.of aO⟩
         ·exact h2 b w
abbrev SY (ds:List D):M D:=match ds with
 |[.lst xs]=>(match PH xs with|some ks=>(match AV ks with|some k=>.ok k.1|none=>.bad)|none=>.bad)
 |_=>.bad
def kJ:Ip X.K WX (lS X.K) SY:=by
 intro P H ds vs Q ht hl h;unfold SY at h;split at h
 ·rename_i xs;obtain⟨v,rfl,hv⟩:=hl.one;split at h
  ·rename_i ks e1;cases hv with
   |lst hs hh =>
    obtain⟨bs,rfl,h2,h3⟩:=SX hh e1;split at h
    ·rename_i k e2;rcases IR h3 with ⟨q1,q2⟩|⟨b,k',q1,q2,_,q3⟩
     ·rw[q2] at e2;cases e2
     ·rw[q2] at e2;cases e2;exact⟨_,bs,b,rfl,hs.AY,λ b hb=>(let ⟨q,x,y,k,a,u,w⟩:=h2 b hb;⟨q,x,y,k,a,u.AY,w.AY⟩),q1,h _ H (Ad.refl H) q3⟩
    ·exact h.elim
  ·exact h.elim
 ·exact h.elim
def kK {p:Pos}{n:Nat}(hc:X.calm=true)(hu:X.A.units+n<cLine)(hg:Gl X "min")(hm:X.mg "min" = none)(ha:DE X WX c e f)(hb:bootBuiltins "min" = some (.builtin "min"):=by decide +kernel)(hs: ~~~(starEach [e] X.env=[(false,eval e X.env)]))(hn:8<=n:=by decide):
 DE X WX c (.Call (.Name "min" p) [e] [] pos) (λ ρ=>((f ρ).bind λ d=>.ok [d]).bind SY):=by
 have:=GF (pos:=pos) (p:=p) (XW hc (by omega)) kJ hg hm hb (A2 ha A6 hs) (he:=hs);exact this
end
abbrev dJ (R1 R2:RA)(k:Nat):Option ((Int×Int)×Int):=(R1[k]?).bind λ kv=>(Ay R2 kv.1).map λ c=>((kv.2.1+c.1,kv.2.2+c.2),(k:Int))
abbrev Ij (R1 R2:RA)(i:Nat):List ((Int×Int)×Int):=(zan i).filterMap (dJ R1 R2)
def PJ (R1 R2:RA)(i:Nat):Ij R1 R2 (i+1)=Ij R1 R2 i++(dJ R1 R2 i).toList:=by
 unfold Ij;rw[List.range_succ,zc2];congr 1
def dM (R1 R2:RA)(i:Nat):(Ij R1 R2 i).length<=i:=by
 refine zal (List.length_filterMap_le _ _) ?_;rw[List.length_range];exact zF _
def UU {R1 R2:RA}{i:Nat}{kv:Int×(Int×Int)}(h:R1[i]?=some kv):Bj (R1.take (i+1)) R2=Bj (R1.take i) R2++((Ay R2 kv.1).map λ c=>((kv.2.1+c.1,kv.2.2+c.2),kv.1)).toList:=by
 have e:R1.take (i+1)=R1.take i++[kv]:=by rw[za4,h];rfl
 unfold Bj;rw[e,zc2];congr 1
abbrev qB (x:(Int×Int)×Int):D×List Int:=(L6 x,[x.1.1,x.1.2,x.2])
def T4:∀l:List ((Int×Int)×Int),PH (l.map L6)=some (l.map qB)
 |[]=>rfl
 |x::r=>by
  have e:kI (L6 x)=some [x.1.1,x.1.2,x.2]:=rfl;rw[zx,PH,e,Option.bind_some,T4 r];rfl
def kL (R1 R2:RA):∀i:Nat,i<=R1.length->(Ij R1 R2 i=[]/\(Bj (R1.take i) R2).foldl O5 none=none)\/∃(c:Int×Int) (k:Nat) (h:Int) (v:Int×Int),AV ((Ij R1 R2 i).map qB)=some (qB (c,(k:Int)))/\(Bj (R1.take i) R2).foldl O5 none=some (c,h)/\k<i/\R1[k]?=some (h,v)/\Ij R1 R2 i≠[]:=by
 intro i;induction i with
 |zero=>intro _;exact .inl ⟨rfl,rfl⟩
 |succ i ih =>
  intro hi;have af:i<R1.length:=by omega
  have hg:=z4 af;obtain⟨kv,g9⟩:∃kv,R1[i]?=some kv:=⟨_,hg⟩;rw[PJ,UU g9,zc7];unfold dJ;rw[g9,Option.bind_some];cases q:Ay R2 kv.1 with
  |none =>
   simp only[Option.map_none,Option.toList_none,zV,List.foldl_nil];rcases ih (by omega) with h|⟨c,k,h,v,h1,h2,h3,h4,h5⟩
   ·exact .inl h
   ·exact .inr ⟨c,k,h,v,h1,h2,by omega,h4,h5⟩
  |some c' =>
   simp only[zb0,Option.toList_some,zP,List.foldl_nil,zK,List.map_singleton];right;rcases ih (by omega) with ⟨h1,h2⟩|⟨c,k,h,v,h1,h2,h3,h4,h5⟩
   ·rw[h1,h2];exact⟨_,i,kv.1,kv.2,rfl,rfl,by omega,g9,by simp⟩
   ·rw[h2,Cz,h1];by_cases hc:kv.2.1+c'.1<c.1\/(kv.2.1+c'.1=c.1/\kv.2.2+c'.2<c.2)
    ·have e1:HT.lexLt (qB ((kv.2.1+c'.1,kv.2.2+c'.2),(i:Int))).2 (qB (c,(k:Int))).2=true:=by
      show HT.lexLt [_,_,_] [_,_,_]=true;simp only[HT.Cy,HT.C1];rcases hc with z|⟨z1,z2⟩
      ·rw[if_neg (by omega)];exact decide_eq_true z
      ·rw[if_pos z1,if_neg (by omega)];exact decide_eq_true z2
     have e2:O5 (some (c,h)) ((kv.2.1+c'.1,kv.2.2+c'.2),kv.1)=some ((kv.2.1+c'.1,kv.2.2+c'.2),kv.1):=if_pos hc;dsimp only;rw[if_pos e1,e2];exact⟨_,i,kv.1,kv.2,rfl,rfl,by omega,g9,by simp⟩
    ·have e1:HT.lexLt (qB ((kv.2.1+c'.1,kv.2.2+c'.2),(i:Int))).2 (qB (c,(k:Int))).2=false:=by
      show HT.lexLt [_,_,_] [_,_,_]=false;simp only[HT.Cy,HT.C1];by_cases z1:kv.2.1+c'.1=c.1
      ·rw[if_pos z1];by_cases z2:kv.2.2+c'.2=c.2
       ·rw[if_pos z2,if_neg (by omega)];exact decide_eq_false (by omega)
       ·rw[if_neg z2];exact decide_eq_false (by omega)
      ·rw[if_neg z1];exact decide_eq_false (by omega)
     have e2:O5 (some (c,h)) ((kv.2.1+c'.1,kv.2.2+c'.2),kv.1)=some (c,h):=if_neg hc;dsimp only;rw[if_neg (by rw[e1];exact zO),e2];exact⟨c,k,h,v,rfl,rfl,by omega,h4,by simp⟩
def uJ (x:(Int×Int)×Int):dp (.ok (L6 x))=.ok (L6 x):=rfl
def qC (b:Option ((Int×Int)×Int)):Pl 2 (DC b):=by
 cases b with
 |none=>exact⟨by decide,rfl⟩
 |some x=>exact uI x
end L2
set_option maxHeartbeats 4000000
namespace cn
open PySem L2
abbrev top (i:Nat):Stmt:=PySem.Challenge.pw_nodeladder_k62_labels_meet.main.body.getD i (.Pass ⟨0,0,0,0⟩)
noncomputable abbrev Fj:Stmt:=top 7
def Kh:Ac ["thing","bound"] ["thing","bound"] (A4 Fj):=nofun
noncomputable abbrev Ki:Stmt:=top 8
def Oi:Ac ["thing"] ["thing"] (A4 Ki):=nofun
noncomputable abbrev PL:Stmt:=top 9
def UW:Ac ["thing","many"] ["thing","many"] (A4 PL):=nofun
noncomputable abbrev T5:Stmt:=top 10
def L7:Ac ["thing","many","roads"] ["thing"] (A4 T5):=nofun
noncomputable abbrev PM:Stmt:=top 11
def UX:Ac ["thing"] ["thing"] (A4 PM):=nofun
noncomputable abbrev Wv:Stmt:=top 12
def dN:Ac ["one","other"] ["one","other"] (A4 Wv):=nofun
noncomputable abbrev Ww:Stmt:=top 13
def dO:Ac ["some"] ["some"] (A4 Ww):=nofun
noncomputable abbrev Lr:Stmt:=top 14
def R3:Ac ["road"] ["road"] (A4 Lr):=nofun
noncomputable abbrev Kj:Stmt:=top 16
def Oj:Ac ["ladder"] ["ladder"] (A4 Kj):=nofun
noncomputable abbrev DL:Stmt:=top 17
def Hg:Ac ["ladder"] ["ladder"] (A4 DL):=nofun
noncomputable abbrev PN:Stmt:=top 18
def Di:Ac ["order","costs","place","reached","rank","lower","higher","cost"] ["order","costs","place"] (A4 PN):=nofun
noncomputable abbrev Wx:Stmt:=top 20
def Fl:Ac ["order","costs","place","reached","told","higher","lower","over"] ["order","costs","place"] (A4 Wx):=nofun
noncomputable abbrev Ls:Stmt:=top 21
def R4:Ac ["ladder","start"] ["ladder","start"] (A4 Ls):=nofun
noncomputable abbrev Nt:Stmt:=top 22
def T6:Ac ["ladder","goal"] ["ladder","goal"] (A4 Nt):=nofun
noncomputable abbrev Lu:Stmt:=top 24
def R5:Ac ["costs","known","hub"] ["costs","known","hub"] (A4 Lu):=nofun
noncomputable abbrev Nu:Stmt:=top 25
def Dx:Ac ["ladder","place","costs_of","costs","label","known","hub"] ["ladder","place","costs_of"] (A4 Nu):=nofun
noncomputable abbrev Lw:Stmt:=top 26
def R6:Ac ["ladder","place"] ["ladder","place"] (A4 Lw):=nofun
noncomputable abbrev Kk:Stmt:=top 27
def Ol:Ac ["ladder","place"] ["ladder","place"] (A4 Kk):=nofun
noncomputable abbrev lT:Stmt:=top 28
def J5:Ac ["out","into","costs","sums","best","cost","hub"] ["out","into"] (A4 lT):=nofun
noncomputable abbrev Iw:Stmt:=top 30
def Nv:Ac ["laid","pair"] ["laid","pair"] (A4 Iw):=nofun
noncomputable abbrev lU:Stmt:=top 31
def qD:Ac ["laid","pair","cost","middle"] ["laid","pair","cost","middle"] (A4 lU):=nofun
noncomputable abbrev Nw:Stmt:=top 32
def EL:Ac ["laid","place","higher","u","w","cost"] ["laid","place","higher"] (A4 Nw):=nofun
noncomputable abbrev Lx:Stmt:=top 33
def CV:Ac ["net","order","laid","road","rank","place"] ["net","order"] (A4 Lx):=nofun
noncomputable abbrev Nx:Stmt:=top 35
def T7:Ac ["net","thing"] ["net","thing"] (A4 Nx):=nofun
noncomputable abbrev Gd:Stmt:=top 36
def L8:Ac ["net","thing"] ["net","thing"] (A4 Gd):=nofun
noncomputable abbrev Kl:Stmt:=top 37
def EU:Ac ["net","bows","road"] ["net"] (A4 Kl):=nofun
noncomputable abbrev Hh:Stmt:=top 38
def BZ:Ac ["bows","left","place","ahead","behind","missing","u"] ["bows","left","place"] (A4 Hh):=nofun
noncomputable abbrev Ny:Stmt:=top 39
def T8:Ac ["bows","left"] ["bows","left"] (A4 Ny):=nofun
noncomputable abbrev T9:Stmt:=top 40
def E8:Ac ["net","bows","left","order","place","bow"] ["net"] (A4 T9):=nofun
noncomputable abbrev Km:Stmt:=top 42
def BF:Ac ["net","start","costs","changed","road","cost"] ["net","start"] (A4 Km):=nofun
noncomputable abbrev EM:Stmt:=top 44
def J6:Ac ["net","order"] ["net","order"] (A4 EM):=nofun
noncomputable abbrev Ly:Stmt:=top 45
def DV:Ac ["net","laid","kept","u","costs"] ["net","laid"] (A4 Ly):=nofun
noncomputable abbrev Az:Stmt:=inClass (top 46) 0
def J7:Ac ["self","net","order"] ["self","net","order"] (A4 Az):=nofun
noncomputable abbrev Hi:Stmt:=inClass (top 46) 2
def LY:Ac ["self"] ["self"] (A4 Hi):=nofun
noncomputable abbrev Dy:Stmt:=inClass (top 46) 4
def D6:Ac ["self","u","w","many"] ["self","u","w"] (A4 Dy):=nofun
noncomputable abbrev Iy:Stmt:=inClass (top 46) 5
def Nz:Ac ["self","u","w"] ["self","u","w"] (A4 Iy):=nofun
noncomputable abbrev Iz:Stmt:=inClass (top 46) 8
def NA:Ac ["self"] ["self"] (A4 Iz):=nofun
noncomputable abbrev IA:Stmt:=top 48
def NC:Ac ["_law_script","_law_k"] ["_law_script","_law_k"] (A4 IA):=nofun
noncomputable abbrev PP:Stmt:=top 49
def ND:Ac ["_law_cell","_law_k","_law_number"] ["_law_cell","_law_k"] (A4 PP):=nofun
noncomputable abbrev Lz:Stmt:=top 50
def R7:Ac ["_law_cell","_law_k"] ["_law_cell","_law_k"] (A4 Lz):=nofun
noncomputable abbrev LB:Stmt:=top 51
def R8:Ac ["_law_found"] ["_law_found"] (A4 LB):=nofun
noncomputable abbrev IB:Stmt:=top 52
def NE:Ac ["_law_found"] ["_law_found"] (A4 IB):=nofun
noncomputable abbrev LC:Stmt:=top 53
def Bi:Ac ["_law_cells","_law_many","_law_roads_here","_law_k","_law_mixed","_law_great_here","_law_one","_law_other","_law_small","_law_length"] ["_law_cells","_law_many"] (A4 LC):=nofun
noncomputable abbrev LD:Stmt:=top 54
def FI:Ac ["_law_cell","_law_many","_law_order_here","_law_place"] ["_law_cell","_law_many"] (A4 LD):=nofun
noncomputable abbrev LF:Stmt:=top 55
def R9:Ac ["_law_one","_law_other"] ["_law_one","_law_other"] (A4 LF):=nofun
noncomputable abbrev LG:Stmt:=top 56
def Ra:Ac ["_law_some"] ["_law_some"] (A4 LG):=nofun
noncomputable abbrev NF:Stmt:=top 57
def Ta:Ac ["_law_road"] ["_law_road"] (A4 NF):=nofun
noncomputable abbrev LH:Stmt:=top 58
def By:Ac ["_law_roads_here","_law_many","_law_costs_here","_law_u","_law_v","_law_row","_law_road","_law_w"] ["_law_roads_here","_law_many"] (A4 LH):=nofun
noncomputable abbrev PQ:Stmt:=top 59
def Dj:Ac ["_law_out","_law_into","_law_some","_law_k","_law_best","_law_hub","_law_cost"] ["_law_out","_law_into"] (A4 PQ):=nofun
noncomputable abbrev PR:Stmt:=top 60
def CW:Ac ["_law_script","_law_first","_law_many","_law_roads_here","_law_ladder","_law_costs_here","_law_k","_law_start","_law_goal","_law_out","_law_into","_law_handed","_law_found"] ["_law_script"] (A4 PR):=nofun
structure Txt (K:zr)(mg:Str->Option Value):Prop where
 L9:AH K mg "is_whole_below" Fj ["thing","bound"]
 Rb:AH K mg "is_measure" Ki ["thing"]
 XX:AH K mg "is_road" PL ["thing","many"]
 dP:AH K mg "is_map" T5 ["thing"]
 XY:AH K mg "checked" PM ["thing"]
 kM:AH K mg "added" Wv ["one","other"]
 kN:AH K mg "least" Ww ["some"]
 Tb:AH K mg "road_cost" Lr ["road"]
 Rc:AH K mg "kept_costs" Kj ["ladder"]
 Ik:AH K mg "kept_costs_turned" DL ["ladder"]
 XZ:AH K mg "climbed" PN ["order","costs","place"]
 kO:AH K mg "swept" Wx ["order","costs","place"]
 Tc:AH K mg "costs_out" Ls ["ladder","start"]
 UY:AH K mg "costs_in" Nt ["ladder","goal"]
 Td:AH K mg "lies_over" Lu ["costs","known","hub"]
 UZ:AH K mg "label_by" Nu ["ladder","place","costs_of"]
 Te:AH K mg "label_out" Lw ["ladder","place"]
 Rf:AH K mg "label_into" Kk ["ladder","place"]
 uK:AH K mg "met" lT ["out","into"]
 Om:AH K mg "cost_so_far" Iw ["laid","pair"]
 uL:AH K mg "lay" lU ["laid","pair","cost","middle"]
 V0:AH K mg "lay_over" Nw ["laid","place","higher"]
 Tf:AH K mg "laid_arcs" Lx ["net","order"]
 V3:AH K mg "is_order" Nx ["net","thing"]
 LZ:AH K mg "checked_order" Gd ["net","thing"]
 Rg:AH K mg "first_bows" Kl ["net"]
 NG:AH K mg "missing_bows" Hh ["bows","left","place"]
 V4:AH K mg "lightest" Ny ["bows","left"]
 dQ:AH K mg "ranked" T9 ["net"]
 Rh:AH K mg "costs_from" Km ["net","start"]
 Kn:AH K mg "order_or_ranked" EM ["net","order"]
 Tg:AH K mg "kept_arcs" Ly ["net","laid"]
 Ko:UH K mg "Ladder" "Ladder.__init__" Az ["self","net","order"]
 NH:Pj K "Ladder" "order" "Ladder.order" Hi ["self"]
 Hj:Pj K "Ladder" "checked_arc" "Ladder.checked_arc" Dy ["self","u","w"]
 Oo:Pj K "Ladder" "cost" "Ladder.cost" Iy ["self","u","w"]
 Oq:Pj K "Ladder" "kept" "Ladder.kept" Iz ["self"]
 Ot:AH K mg "_law_cell_at" IA ["_law_script","_law_k"]
 Y0:AH K mg "_law_mix" PP ["_law_cell","_law_k"]
 Th:AH K mg "_law_great" Lz ["_law_cell","_law_k"]
 Ti:AH K mg "_law_whole" LB ["_law_found"]
 Ou:AH K mg "_law_is_cost" IB ["_law_found"]
 Tj:AH K mg "_law_roads" LC ["_law_cells","_law_many"]
 Tn:AH K mg "_law_order" LD ["_law_cell","_law_many"]
 To:AH K mg "_law_added" LF ["_law_one","_law_other"]
 Tp:AH K mg "_law_least" LG ["_law_some"]
 V5:AH K mg "_law_open" NF ["_law_road"]
 Tq:AH K mg "_law_costs" LH ["_law_roads_here","_law_many"]
 Y1:AH K mg "_law_due" PQ ["_law_out","_law_into"]
 yJ:AH K mg "law" PR ["_law_script"]
 lV:mg "all" = none
 uM:mg "any" = none
 dR:mg "bool" = none
 V6:mg "dict" = none
 LI:mg "enumerate" = none
 dS:mg "int" = none
 B9:mg "isinstance" = none
 Fm:mg "len" = none
 En:mg "list" = none
 Wy:mg "min" = none
 Cw:mg "range" = none
 NI:mg "reversed" = none
 dU:mg "sorted" = none
 Kq:mg "tuple" = none
 J8:XI K mg "costs_in"
 Hk:XI K mg "costs_out"
 Eo:Ir K "Ladder" "kept_ones"
 Dq:Ir K "Ladder" "laid"
 BP:Ir K "Ladder" "own_map"
 CF:Ir K "Ladder" "own_order"
local macro_rules|`(tactic|simp_arith[$xs,*])=>do `(tactic|simp only[$[$(("vD vE Mq List.set_cons_zero List.set_cons_succ M.A9 HH HG Jw JO JP JQ Mf J1 J2 Ph JF JG HK VT Mc Md JH iK HL HM FE Qy De Qz JI JJ HN VX JE Ef toCl_list toCl_listP toCl_dct Mg JR JS JT JU Mh JV JW JX qP tM JK VY JL VZ JM JN Me W0 vF vG iN iO iP iQ iR iS toCl_nil Jq JA OX QA HP Mi Mj JY JZ Ml Mm Mn Mo Mp K1 K2 K3 K4 HQ HR HS HU HV K5 HW HX W2 W3 W4 W5 W6 HY ite_tt ite_ff Bool.not_true Bool.not_false List.getElem?_cons_zero List.getElem?_cons_succ Fe Ha Kb iM jM iL jP jQ jR Mv QO QP QQ E6 Ie Mx QE kA Wo QW".splitOn " ").toArray.map λ x=>Lean.mkIdent x.toName):term],*,$xs,*])
variable {P:Program}{w:World}{K:zr}{mg:Str->Option Value}{base:Heap}
def CY:∃F:List D->M OT,(∀ {P w K mg base},Txt K mg->BB P w K mg base "is_whole_below" 1 2 F)/\(∀i n:Int,0<=i->i<n->F [.int i,.int n]=.ok (.sh (.bl true))):=by
 refine⟨_,λ T=>Aw (k:=0) T.L9 Kh _ (λ f B7 A outer s H E hr=>(A5 (Ak (AX (MS (EQ (S7 _) rfl T.B9 rfl T.dS (by decide +kernel) (A1 0 (pv 0))) (MS (Z0 (EQ (P5 _) rfl T.B9 rfl T.dR (by decide +kernel) (A1 0 (pv 0)))) (MR (WY rX kQ A7 (A1 0 (pv 0)) (A1 1 (pv 1)))))))))),?_⟩;intro i n h0 h1;have e0:AE ["thing","bound"] [.int i,.int n]=[some (.val (.int i)),some (.val (.int n))]:=rfl;rw[e0];refine Bb ?_;have a:=decide_eq_true h0;have b:=decide_eq_true h1;simp_arith[Fe,a,b,Gk];rfl
abbrev Ge:List D->M OT:=z3 CY
def B1:Txt K mg->BB P w K mg base "is_whole_below" 1 2 Ge:=(zt CY).1
def B2:∀i n:Int,0<=i->i<n->Ge [.int i,.int n]=.ok (.sh (.bl true)):=(zt CY).2
def EV:∃F:List D->M OT,(∀ {P w K mg base},Txt K mg->BB P w K mg base "is_measure" 2 1 F)/\(∀i:Int,0<=i->i<O4->F [.int i]=.ok (.sh (.bl true))):=by
 refine⟨_,λ T=>Aw (k:=1) T.Rb Oi _ (λ f B7 A outer s H E hr=>(A5 (Ak (Ab A8.toXCall (B1 T) (hr.mono (by decide)) rfl (A2 (A1 0 (pv 0)) (A2 (YX A7 A7) A6)) rfl)))),?_⟩;intro i h0 h1;have e0:AE ["thing"] [.int i]=[some (.val (.int i))]:=rfl;rw[e0];have h:=B2 i O4 h0 h1;refine Bb ?_;simp_arith[lJ,h];rfl
abbrev LJ:List D->M OT:=z3 EV
def IC:Txt K mg->BB P w K mg base "is_measure" 2 1 LJ:=(zt EV).1
def ID:∀i:Int,0<=i->i<O4->LJ [.int i]=.ok (.sh (.bl true)):=(zt EV).2
def J9:∃F:List D->M OT,(∀ {P w K mg base},Txt K mg->BB P w K mg base "is_road" 3 2 F)/\(∀(m:Nat) (r:Road),J4 m r->F [Bs r,.int m]=.ok (.sh (.bl true))):=by
 refine⟨_,λ T=>Aw (k:=2) T.XX UW _ (λ f B7 A outer s H E hr=>(A3 (Ba (DW.dt (Ec (CB (BW (c:=true) (EQ (Fx _) rfl T.B9 rfl T.Kq (by decide +kernel) (A1 0 (pv 0))))) (Dc (Io (c:=true) (AM hr 16 (by decide)) (Dd rfl T.Fm (A1 0 (pv 0))) A7)))) (A5 (Ak (AX Du))) As) (A3 (Ba (DW.dt (Ec (CB (BW (c:=true) (Ag (Ab A8.toXCall (B1 T) (hr.mono (by decide)) rfl (A2 (Aa (AM hr 16 (by decide)) (A1 0 (pv 0)) A7) (A2 (A1 1 (pv 1)) A6)) rfl)))) (Dc (CB (BW (c:=true) (Ag (Ab A8.toXCall (B1 T) (hr.mono (by decide)) rfl (A2 (Aa (AM hr 16 (by decide)) (A1 0 (pv 0)) A7) (A2 (A1 1 (pv 1)) A6)) rfl))))))) (A5 (Ak (AX Du))) As) (A3 (Ba (Li (c:=true) (AM hr 16 (by decide)) (Aa (AM hr 16 (by decide)) (A1 0 (pv 0)) A7) (Aa (AM hr 16 (by decide)) (A1 0 (pv 0)) A7)) (A5 (Ak (AX Du))) As) (A5 (Ak (AX (MS (tD (Ul (Aa (AM hr 16 (by decide)) (A1 0 (pv 0)) A7)) (MR (Ag (Ab A8.toXCall (IC T) (hr.mono (by decide)) rfl (A2 (Aa (AM hr 16 (by decide)) (A1 0 (pv 0)) A7) A6) rfl)))) (MR (Ag (Ab A8.toXCall (IC T) (hr.mono (by decide)) rfl (A2 (Aa (AM hr 16 (by decide)) (A1 0 (pv 0)) A7) A6) rfl))))))))))),?_⟩;intro m r ok;have e0:AE ["thing","many"] [Bs r,.int m]=[some (.val (Bs r)),some (.val (.int m))]:=rfl;rw[e0];refine Bb ?_;have i0:AR (Bs r) (.int 0)=.ok (.int r.a):=rfl;have i1:AR (Bs r) (.int 1)=.ok (.int r.b):=rfl;have i2:AR (Bs r) (.int 2)=.ok (GW r.l):=rfl;have i3:AR (Bs r) (.int 3)=.ok (.int r.w):=rfl;have ha:=B2 r.a m ok.a0 ok.a1;have hb:=B2 r.b m ok.b0 ok.b1;have hw:=ID r.w ok.w0 ok.w1;apply wp_step
 ·rfl
 apply wp_step
 ·simp_arith[i0,i1,ha,hb,Gk];rfl
 apply wp_step
 ·simp_arith[i0,i1,decide_eq_false ok.ab];rfl
 simp_arith[i2,i3,hw];cases q:r.l with
 |none=>rfl
 |some z =>
  have hl:=ID z (ok.l0 z q).1 (ok.l0 z q).2;have e:GW (some z)=.int z:=rfl;simp_arith[e,hl];rfl
abbrev Ts:List D->M OT:=z3 J9
def V7:Txt K mg->BB P w K mg base "is_road" 3 2 Ts:=(zt J9).1
def V8:∀(m:Nat) (r:Road),J4 m r->Ts [Bs r,.int m]=.ok (.sh (.bl true)):=(zt J9).2
def La:∃F:List D->M OT,(∀ {P w K mg base},Txt K mg->BB P w K mg base "is_map" 4 1 F)/\(∀(m:Nat) (rs:List Road),1<=m->m<=16->rs.length<=60->(∀r∈rs,J4 m r)->F [Aq m rs]=.ok (.sh (.bl true))):=by
 refine⟨_,λ T=>Aw (k:=3) T.dP L7 _ (λ f B7 A outer s H E hr=>(A3 (Ba (DW.dt (Ec (CB (BW (c:=true) (EQ (Fx _) rfl T.B9 rfl T.Kq (by decide +kernel) (A1 0 (pv 0))))) (Dc (Io (c:=true) (AM hr 16 (by decide)) (Dd rfl T.Fm (A1 0 (pv 0))) A7)))) (A5 (Ak (AX Du))) As) (A3 (AJ 1 L7.nd rfl (Or.inr rfl) (Aa (AM hr 16 (by decide)) (A1 0 (pv 0)) A7)) (A3 (AJ 2 L7.nd rfl (za1 rfl) (Aa (AM hr 16 (by decide)) (A1 0 (pv 0)) A7)) (A3 (Ba (DW.dt (Ec (CB (BW (c:=true) (Ag (Ab A8.toXCall (B1 T) (hr.mono (by decide)) rfl (A2 (A1 1 (pv 1)) (A2 A7 A6)) rfl)))) (Dc (Li (c:=true) (AM hr 16 (by decide)) (A1 1 (pv 1)) A7)))) (A5 (Ak (AX Du))) As) (A3 (Ba (DW.dt (Ec (CB (BW (c:=true) (EQ (OZ _) rfl T.B9 rfl T.En (by decide +kernel) (A1 2 (pv 2))))) (Dc (VD (c:=true) (Dd rfl T.Fm (A1 2 (pv 2))) A7)))) (A5 (Ak (AX Du))) As) (A5 (Ak (AX (Zd rfl rfl T.lV (Ag (CU (NB:=["road","many"]) [none,some 1] rfl (AU (A1 2 (pv 2))) rfl rfl (Ca 0 (by decide) rfl rfl rfl) (λ _ _ _ _=>EG) (λ _ _ _ _=>(Ag (Br (Ab (B5 rfl).toXCall (V7 T) (hr.mono (by decide)) rfl (A2 (A1 0 (pv 0)) (A2 (A1 1 (pv 1)) A6)) rfl)))))))))))))))),?_⟩;intro m rs h1 h2 hl Ar;have e0:AE ["thing","many","roads"] [Aq m rs]=[some (.val (Aq m rs)),none,none]:=rfl;rw[e0];refine Bb ?_;have i0:AR (Aq m rs) (.int 0)=.ok (.int m):=rfl;have i1:AR (Aq m rs) (.int 1)=.ok (.lst (rs.map Bs)):=rfl;have hn:=B2 m 17 (by omega) (by omega);have hm:decide ((m:Int)=0)=false:=decide_eq_false (by omega);have bY:decide ((60:Int)<((rs.map Bs).length:Int))=false:=decide_eq_false (by rw[zu];omega);have a7:(rs.map Bs).length<=1000:=by rw[zu];omega
 apply wp_step
 ·rfl
 apply wp_step
 ·simp_arith[i0];rfl
 apply wp_step
 ·simp_arith[i1];rfl
 apply wp_step
 ·simp_arith[hn,hm,Gk];rfl
 apply wp_step
 ·simp_arith[bY,Gk];rfl
 simp_arith[if_pos a7];rw[Cb (λ _:Road=>D.bl true) (λ r hr=>⟨_,rfl,rfl,by
  have:=V8 m r (Ar r hr);simp_arith[this]⟩)]
 simp_arith[uH];rfl
abbrev Wz:List D->M OT:=z3 La
def Y2:Txt K mg->BB P w K mg base "is_map" 4 1 Wz:=(zt La).1
def Y3:∀(m:Nat) (rs:List Road),1<=m->m<=16->rs.length<=60->(∀r∈rs,J4 m r)->Wz [Aq m rs]=.ok (.sh (.bl true)):=(zt La).2
def Ja:∃F:List D->M OT,(∀ {P w K mg base},Txt K mg->BB P w K mg base "checked" 5 1 F)/\(∀(m:Nat) (rs:List Road),1<=m->m<=16->rs.length<=60->(∀r∈rs,J4 m r)->F [Aq m rs]=.ok (.tup [.sh (.int m),.lst ((rs.map Bs).map .sh)])):=by
 refine⟨_,λ T=>Aw (k:=4) T.XY UX _ (λ f B7 A outer s H E hr=>(A3 (Ba (CB (BW (c:=true) (Ag (Ab A8.toXCall (Y2 T) (hr.mono (by decide)) rfl (A2 (A1 0 (pv 0)) A6) rfl)))) (A5 Us) As) (A5 (Ak (Zk (Ju (AX (Aa (AM hr 16 (by decide)) (A1 0 (pv 0)) A7)) (Ju (CU (NB:=["road"]) [none] rfl (AU (Aa (AM hr 16 (by decide)) (A1 0 (pv 0)) A7)) rfl rfl (Ca 0 (by decide) rfl rfl rfl) (λ _ _ _ _=>EG) (λ _ _ _ _=>(Z5 rfl T.Kq (A1 0 (pv 0))))) CT))))))),?_⟩;intro m rs h1 h2 hl Ar;have e0:AE ["thing"] [Aq m rs]=[some (.val (Aq m rs))]:=rfl;rw[e0];have h1:=Y3 m rs h1 h2 hl Ar;have n0:AR (Aq m rs) (.int 0)=.ok (.int m):=rfl;have n1:AR (Aq m rs) (.int 1)=.ok (.lst (rs.map Bs)):=rfl;have a7:(rs.map Bs).length<=1000:=by rw[zu];omega
 refine Bb ?_;apply wp_step
 ·simp_arith[h1,Gk];rfl
 simp_arith[n0,n1,if_pos a7];rw[Cb Bs (λ r hr=>⟨_,rfl,rfl,rfl⟩)];simp_arith[];exact⟨_,rfl,rfl⟩
abbrev Tt:List D->M OT:=z3 Ja
def V9:Txt K mg->BB P w K mg base "checked" 5 1 Tt:=(zt Ja).1
def Va:∀(m:Nat) (rs:List Road),1<=m->m<=16->rs.length<=60->(∀r∈rs,J4 m r)->Tt [Aq m rs]=.ok (.tup [.sh (.int m),.lst ((rs.map Bs).map .sh)]):=(zt Ja).2
def NJ:∃F:List D->M OT,(∀ {P w K mg base},Txt K mg->BB P w K mg base "added" 1 2 F)/\(∀a b:Co,F [cst a,cst b]=.ok (.sh (cst (Aj a b)))):=by
 refine⟨_,λ T=>Aw (k:=0) T.kM dN _ (λ f B7 A outer s H E hr=>(A3 (Ba (DW.dt (Ec (GD (c:=true) (A1 0 (pv 0))) (Dc (GD (c:=true) (A1 1 (pv 1)))))) (A5 (Ak (AX CQ))) As) (A5 (Ak (AX (AD (A2 (BU (Aa (AM hr 16 (by decide)) (A1 0 (pv 0)) A7) (Aa (AM hr 16 (by decide)) (A1 1 (pv 1)) A7)) (A2 (BU (Aa (AM hr 16 (by decide)) (A1 0 (pv 0)) A7) (Aa (AM hr 16 (by decide)) (A1 1 (pv 1)) A7)) A6)))))))),?_⟩;intro a b;rcases a with _|⟨a1,a2⟩<;>rcases b with _|⟨b1,b2⟩<;>rfl
abbrev dW:List D->M OT:=z3 NJ
def Fn:Txt K mg->BB P w K mg base "added" 1 2 dW:=(zt NJ).1
def Fo:∀a b:Co,dW [cst a,cst b]=.ok (.sh (cst (Aj a b))):=(zt NJ).2
def NK:∃F:List D->M OT,(∀ {P w K mg base},Txt K mg->BB P w K mg base "least" 1 1 F)/\(∀cs:List Co,cs.length<=1000->F [.lst (cs.map cst)]=.ok (.sh (cst (FG cs)))):=by
 refine⟨_,λ T=>Aw (k:=0) T.kN dO _ (λ f B7 A outer s H E hr=>(A5 (Ak (AX (VH rfl (AM hr 1 (by decide)) rfl T.Wy (Ag (CU (NB:=["cost"]) [none] rfl (AU (A1 0 (pv 0))) rfl rfl (Ca 0 (by decide) rfl rfl rfl) (λ _ _ _ _=>Fy (HD (c:=true) (A1 0 (pv 0)))) (λ _ _ _ _=>(A1 0 (pv 0))))) CQ))))),?_⟩;intro cs hc;have e0:∀x:D,AE ["some"] [x]=[some (.val x)]:=λ x=>rfl;rw[e0];refine Bb ?_;have hl:(cs.map cst).length<=1000:=by rw[zu];exact hc
 have ww:=SD cs;have qi:=We cs;simp_arith[if_pos hl];rw[GV];simp_arith[qi];rfl
abbrev Ri:List D->M OT:=z3 NK
def NL:Txt K mg->BB P w K mg base "least" 1 1 Ri:=(zt NK).1
def NM:∀cs:List Co,cs.length<=1000->Ri [.lst (cs.map cst)]=.ok (.sh (cst (FG cs))):=(zt NK).2
def FJ:∃F:List D->M OT,(∀ {P w K mg base},Txt K mg->BB P w K mg base "road_cost" 1 1 F)/\(∀r:Road,F [Bs r]=.ok (.sh (cst (Cd r)))):=by
 refine⟨_,λ T=>Aw (k:=0) T.Tb R3 _ (λ f B7 A outer s H E hr=>(A3 (Ba (GD (c:=true) (Aa (AM hr 16 (by decide)) (A1 0 (pv 0)) A7)) (A5 (Ak (AX CQ))) As) (A5 (Ak (AX (AD (A2 (Aa (AM hr 16 (by decide)) (A1 0 (pv 0)) A7) (A2 A7 A6)))))))),?_⟩;intro r;obtain⟨a,b,l,w⟩:=r;cases l<;>rfl
abbrev NO:List D->M OT:=z3 FJ
def FK:Txt K mg->BB P w K mg base "road_cost" 1 1 NO:=(zt FJ).1
def FL:∀r:Road,NO [Bs r]=.ok (.sh (cst (Cd r))):=(zt FJ).2
def C4:∃F:List D->M OT,(∀ {P w K mg base},Txt K mg->J3 P w K mg base "Ladder" "checked_arc" 2 3 F)/\(∀(m:Nat) (rs:List Road) (L:List Int) (A:LA) (K:List (Int×Int)) (u w:Int),0<=u->u<m->0<=w->w<m->(Ay A (u,w)).isSome=true->F [AG m rs L A K,.int u,.int w]=.ok (.sh (pD (u,w)))):=by
 refine⟨_,λ T=>Mr (k:=1) T.Hj D6 _ (λ f B7 A outer s H E hr=>(A3 (AJ 3 D6.nd rfl (za1 rfl) (Aa (AM hr 16 (by decide)) (ES ["Ladder"] (Bx T.BP C6) (A1 0 (pv 0))) A7)) (A3 (Ba (DW.dt (Ec (CB (BW (c:=true) (Ag (Ab A8.toXCall (B1 T) (hr.mono (by decide)) rfl (A2 (A1 1 (pv 1)) (A2 (A1 3 (pv 3)) A6)) rfl)))) (Ec (CB (BW (c:=true) (Ag (Ab A8.toXCall (B1 T) (hr.mono (by decide)) rfl (A2 (A1 2 (pv 2)) (A2 (A1 3 (pv 3)) A6)) rfl)))) (Dc (M8 (c:=true) (AM hr 16 (by decide)) (AD (A2 (A1 1 (pv 1)) (A2 (A1 2 (pv 2)) A6))) (ES ["Ladder"] (Bx T.Dq C6) (A1 0 (pv 0)))))))) (A5 Us) As) (A5 (Ak (AX (AD (A2 (A1 1 (pv 1)) (A2 (A1 2 (pv 2)) A6))))))))),?_⟩;intro m rs L A K u w u0 u1 w0 w1 hf;have e0:AE ["self","u","w","many"] [AG m rs L A K,.int u,.int w]=[some (.val (AG m rs L A K)),some (.val (.int u)),some (.val (.int w)),none]:=rfl;rw[e0];refine Bb ?_;have f1:Of ["Ladder"] "own_map" (AG m rs L A K)=.ok (Aq m rs):=rfl;have f2:Of ["Ladder"] "laid" (AG m rs L A K)=.ok (Lp A):=rfl;have n0:AR (Aq m rs) (.int 0)=.ok (.int m):=rfl;have h1:=B2 u m u0 u1;have h2:=B2 w m w0 w1;have hp:D.tup [.int u,.int w]=pD (u,w):=rfl;have hm:=QR A (u,w) true;rw[hf] at hm;apply wp_step
 ·simp_arith[f1,n0];rfl
 apply wp_step
 ·simp_arith[h1,h2,f2,hp,hm,Gk];rfl
 rfl
abbrev Be:List D->M OT:=z3 C4
def Gn:Txt K mg->J3 P w K mg base "Ladder" "checked_arc" 2 3 Be:=(zt C4).1
def Gp:∀(m:Nat) (rs:List Road) (L:List Int) (A:LA) (K:List (Int×Int)) (u w:Int),0<=u->u<m->0<=w->w<m->(Ay A (u,w)).isSome=true->Be [AG m rs L A K,.int u,.int w]=.ok (.sh (pD (u,w))):=(zt C4).2
def Ep:∃F:List D->M OT,(∀ {P w K mg base},Txt K mg->J3 P w K mg base "Ladder" "cost" 3 3 F)/\(∀(m:Nat) (rs:List Road) (L:List Int) (A:LA) (K:List (Int×Int)) (u w:Int) (c:Int×Int),Fp m A->Al A (u,w)=some c->F [AG m rs L A K,.int u,.int w]=.ok (.sh (cst (some c)))):=by
 refine⟨_,λ T=>Mr (k:=2) T.Oo Nz _ (λ f B7 A outer s H E hr=>(A5 (Ak (AX (Aa (AM hr 16 (by decide)) (Aa (AM hr 16 (by decide)) (ES ["Ladder"] (Bx T.Dq C6) (A1 0 (pv 0))) (Ag (QB (k:=2) [("Ladder",Be)] A8.toXCall (Dw (by decide) (Gn T) EI) (hr.mono (by decide)) (A1 0 (pv 0)) (A2 (A1 1 (pv 1)) (A2 (A1 2 (pv 2)) A6)) rfl))) A7))))),?_⟩;intro m rs L A K u w c hA hc;have e0:AE ["self","u","w"] [AG m rs L A K,.int u,.int w]=[some (.val (AG m rs L A K)),some (.val (.int u)),some (.val (.int w))]:=rfl;rw[e0];refine Bb ?_;have f2:Of ["Ladder"] "laid" (AG m rs L A K)=.ok (Lp A):=rfl;have hk:=hA.rg _ (Fg hc);obtain⟨v,hv⟩:∃v,Ay A (u,w)=some (c,v):=by
  unfold Al at hc;cases q:Ay A (u,w) with
  |none=>rw[q] at hc;cases hc
  |some z=>rw[q] at hc;obtain⟨z1,z2⟩:=z;cases hc;exact⟨z2,rfl⟩
 have h1:=Gp m rs L A K u w hk.2.1.1 hk.2.1.2 hk.2.2.1 hk.2.2.2 (by rw[hv];rfl);have hi:=QS hv;have h0:AR (XC (c,v)) (.int 0)=.ok (cst (some c)):=rfl;have hs:Ii [("Ladder",Be)] "checked_arc" (AG m rs L A K)=.ok Be:=rfl;simp_arith[f2,hs,h1,hi,h0];rfl
abbrev Bz:List D->M OT:=z3 Ep
def Hl:Txt K mg->J3 P w K mg base "Ladder" "cost" 3 3 Bz:=(zt Ep).1
def Hm:∀(m:Nat) (rs:List Road) (L:List Int) (A:LA) (K:List (Int×Int)) (u w:Int) (c:Int×Int),Fp m A->Al A (u,w)=some c->Bz [AG m rs L A K,.int u,.int w]=.ok (.sh (cst (some c))):=(zt Ep).2
def Er:∃F:List D->M OT,(∀ {P w K mg base},Txt K mg->J3 P w K mg base "Ladder" "kept" 1 1 F)/\(∀(m:Nat) (rs:List Road) (L:List Int) (A:LA) (K:List (Int×Int)),F [AG m rs L A K]=.ok (.lst ((K.map pD).map .sh))):=by
 refine⟨_,λ T=>Mr (k:=0) T.Oq NA _ (λ f B7 A outer s H E hr=>(A5 (Ak (FD rfl T.En (ES ["Ladder"] (Bx T.Eo C6) (A1 0 (pv 0))))))),?_⟩;intro m rs L A K;rfl
abbrev BA:List D->M OT:=z3 Er
def Hn:Txt K mg->J3 P w K mg base "Ladder" "kept" 1 1 BA:=(zt Er).1
def Ho:∀(m:Nat) (rs:List Road) (L:List Int) (A:LA) (K:List (Int×Int)),BA [AG m rs L A K]=.ok (.lst ((K.map pD).map .sh)):=(zt Er).2
def EW:∃F:List D->M OT,(∀ {P w K mg base},Txt K mg->BB P w K mg base "kept_costs" 4 1 F)/\(∀(m:Nat) (rs:List Road) (L:List Int) (A:LA) (K:List (Int×Int)),BO m rs L A K->F [AG m rs L A K]=.ok (qR (Iv A K))):=by
 refine⟨_,λ T=>Aw (k:=3) T.Rc Oj _ (λ f B7 A outer s H E hr=>(A5 (Ak (SA rfl (AM hr 16 (by decide)) rfl T.V6 (Ag (CU (NB:=["u","w","ladder"]) [none,none,some 0] rfl (AU (Ag (GU (k:=1) [("Ladder",BA)] A8.toXCall (Dw (by decide) (Hn T) EI) (hr.mono (by decide)) (A1 0 (pv 0))))) rfl rfl (Mb (n:=2) rfl (CM 0 (by decide) rfl rfl rfl (CM 1 (by decide) rfl rfl rfl JD))) (λ _ _ _ _=>EG) (λ _ _ _ _=>(AD (A2 (AD (A2 (A1 0 (pv 0)) (A2 (A1 1 (pv 1)) A6))) (A2 (Ag (Br (QB (k:=3) [("Ladder",Bz)] (B5 rfl).toXCall (Dw (by decide) (Hl T) EI) (hr.mono (by decide)) (A1 2 (pv 2)) (A2 (A1 0 (pv 0)) (A2 (A1 1 (pv 1)) A6)) rfl))) A6)))))))))),?_⟩;intro m rs L A K ok;have e0:AE ["ladder"] [AG m rs L A K]=[some (.val (AG m rs L A K))]:=rfl;rw[e0];refine Bb ?_;have hs:Ii [("Ladder",BA)] "kept" (AG m rs L A K)=.ok BA:=rfl;have aO:Ii [("Ladder",Bz)] "cost" (AG m rs L A K)=.ok Bz:=rfl;have hk:=Ho m rs L A K;have hl:(K.map pD).length<=1000:=by rw[zu];have:=ok.kl;omega
 have hn:((Iv A K).map zX).Nodup:=by rw[Nm];exact ok.kn
 have hd:=cT (C:=Iv A K) hn (by simp only[Iv,zu];have:=ok.kl;omega);simp_arith[hs,hk,if_pos hl];rw[Cb (λ p=>D.tup [pD p,cst (some ((Al A p).getD (0,0)))]) (λ p hp=>⟨_,rfl,rfl,by
  obtain⟨c,hc,_⟩:=(ok.km p).mp hp;have h1:=Hm m rs L A K p.1 p.2 c ok.xF hc;simp_arith[aO,h1];rw[hc];rfl⟩)]
 have e1:(K.map λ p=>D.tup [pD p,cst (some ((Al A p).getD (0,0)))])=(Iv A K).map λ kv=>D.tup [pD kv.1,cst (some kv.2)]:=by
  simp only[SR,Iv,zak];rfl
 rw[e1];simp_arith[hd];exact⟨_,rfl,rfl⟩
abbrev LK:List D->M OT:=z3 EW
def Ov:Txt K mg->BB P w K mg base "kept_costs" 4 1 LK:=(zt EW).1
def Ox:∀(m:Nat) (rs:List Road) (L:List Int) (A:LA) (K:List (Int×Int)),BO m rs L A K->LK [AG m rs L A K]=.ok (qR (Iv A K)):=(zt EW).2
def Cg:∃F:List D->M OT,(∀ {P w K mg base},Txt K mg->BB P w K mg base "kept_costs_turned" 4 1 F)/\(∀(m:Nat) (rs:List Road) (L:List Int) (A:LA) (K:List (Int×Int)),BO m rs L A K->F [AG m rs L A K]=.ok (qR (SR (Iv A K)))):=by
 refine⟨_,λ T=>Aw (k:=3) T.Ik Hg _ (λ f B7 A outer s H E hr=>(A5 (Ak (SA rfl (AM hr 16 (by decide)) rfl T.V6 (Ag (CU (NB:=["u","w","ladder"]) [none,none,some 0] rfl (AU (Ag (GU (k:=1) [("Ladder",BA)] A8.toXCall (Dw (by decide) (Hn T) EI) (hr.mono (by decide)) (A1 0 (pv 0))))) rfl rfl (Mb (n:=2) rfl (CM 0 (by decide) rfl rfl rfl (CM 1 (by decide) rfl rfl rfl JD))) (λ _ _ _ _=>EG) (λ _ _ _ _=>(AD (A2 (AD (A2 (A1 1 (pv 1)) (A2 (A1 0 (pv 0)) A6))) (A2 (Ag (Br (QB (k:=3) [("Ladder",Bz)] (B5 rfl).toXCall (Dw (by decide) (Hl T) EI) (hr.mono (by decide)) (A1 2 (pv 2)) (A2 (A1 0 (pv 0)) (A2 (A1 1 (pv 1)) A6)) rfl))) A6)))))))))),?_⟩;intro m rs L A K ok;have e0:AE ["ladder"] [AG m rs L A K]=[some (.val (AG m rs L A K))]:=rfl;rw[e0];refine Bb ?_;have hs:Ii [("Ladder",BA)] "kept" (AG m rs L A K)=.ok BA:=rfl;have aO:Ii [("Ladder",Bz)] "cost" (AG m rs L A K)=.ok Bz:=rfl;have hk:=Ho m rs L A K;have hl:(K.map pD).length<=1000:=by rw[zu];have:=ok.kl;omega
 have hn:((Iv A K).map zX).Nodup:=by rw[Nm];exact ok.kn
 have hd:=cT (C:=SR (Iv A K)) (XF hn) (by unfold SR;simp only[Iv,zu];have:=ok.kl;omega);simp_arith[hs,hk,if_pos hl];rw[Cb (λ p=>D.tup [pD (p.2,p.1),cst (some ((Al A p).getD (0,0)))]) (λ p hp=>⟨_,rfl,rfl,by
  obtain⟨c,hc,_⟩:=(ok.km p).mp hp;have h1:=Hm m rs L A K p.1 p.2 c ok.xF hc;simp_arith[aO,h1];rw[hc];rfl⟩)]
 have e1:(K.map λ p=>D.tup [pD (p.2,p.1),cst (some ((Al A p).getD (0,0)))])=(SR (Iv A K)).map λ kv=>D.tup [pD kv.1,cst (some kv.2)]:=by
  simp only[SR,Iv,zak];rfl
 rw[e1];simp_arith[hd];exact⟨_,rfl,rfl⟩
abbrev Es:List D->M OT:=z3 Cg
def Hq:Txt K mg->BB P w K mg base "kept_costs_turned" 4 1 Es:=(zt Cg).1
def Hr:∀(m:Nat) (rs:List Road) (L:List Int) (A:LA) (K:List (Int×Int)),BO m rs L A K->Es [AG m rs L A K]=.ok (qR (SR (Iv A K))):=(zt Cg).2
def Jb:∃F:List D->M OT,(∀ {P w K mg base},Txt K mg->BB P w K mg base "climbed" 2 3 F)/\(∀(m:Nat) (L:List Int) (C:CA) (s:Int),m<=20->L.Perm (B3 m)->s∈L->(∀p c,Ay C p=some c->p.1∈L/\p.2∈L)->∃R:RA,F [.lst (L.map D.int),Mw C,.int s]=.ok (Ye R)/\RD L C s L.length R):=by
 refine⟨_,λ T=>Aw (k:=1) T.XZ Di _ (λ f B7 A outer s H E hr=>(A3 (Bw 3 Di.nd rfl (za1 rfl) (ZN (A1 2 (pv 2)) (AD (A2 A7 (A2 A7 A6))))) (A3 (Bf A8.toXCall.own rfl (VF rfl T.LI (A1 0 (pv 0))) (Qp (n:=2) rfl (Dv (AK 4 Di.nd rfl (za1 rfl)) (Dv (AK 5 Di.nd rfl (za1 rfl)) M5))) (A5 (Ba (IW (KS (c:=true) (AM hr 16 (by decide)) (A1 5 (pv 5)) (A1 3 (pv 3)))) (A5 (Bf A8.toXCall.own rfl (AU (Ag (N4 (A1 0 (pv 0)) (M4 (BU (A1 4 (pv 4)) A7)) VE))) (AK 6 Di.nd rfl (za1 rfl)) (A5 (Ba (KS (c:=true) (AM hr 16 (by decide)) (AD (A2 (A1 5 (pv 5)) (A2 (A1 6 (pv 6)) A6))) (A1 1 (pv 1))) (A3 (AJ 7 Di.nd rfl (za1 rfl) (Ag (Eg (Ab A8.toXCall (Fn T) (hr.mono (by decide)) rfl (A2 (Aa (AM hr 16 (by decide)) (A1 3 (pv 3)) (A1 5 (pv 5))) (A2 (Aa (AM hr 16 (by decide)) (A1 1 (pv 1)) (AD (A2 (A1 5 (pv 5)) (A2 (A1 6 (pv 6)) A6)))) A6)) rfl)))) (A5 (Ma (AM hr 16 (by decide)) (BV 3 (pv 3)) (A1 6 (pv 6)) (Ag (Eg (Ab A8.toXCall (NL T) (hr.mono (by decide)) rfl (A2 (EO (A2 (Na (AM hr 16 (by decide)) (A1 3 (pv 3)) (A1 6 (pv 6))) (A2 (A1 7 (pv 7)) A6))) A6) rfl)))))) As)))) As))) (A5 (Cv 3 (pv 3)))))),?_⟩;intro m L C s hm hL hs hC;have hn:=FH hL;have hlen:=Ff hL;have e0:AE ["order","costs","place","reached","rank","lower","higher","cost"] [.lst (L.map D.int),Mw C,.int s]=[some (.val (.lst (L.map D.int))),some (.val (Mw C)),some (.val (.int s)),none,none,none,none,none]:=rfl;rw[e0];refine (λ h:∃t,_/\∃R:RA,t=Ye R/\RD L C s L.length R=>by
  obtain⟨t,h1,R,rfl,h2⟩:=h;exact⟨R,h1,h2⟩) (Ll ?_)
 refine wp_step (ρ':=[some (.val (.lst (L.map D.int))),some (.val (Mw C)),some (.val (.int s)),some (.ow (.tree none (Ye [(s,(0,0))]))),none,none,none,none]) (by rfl) ?_;refine BL (I:=λ ρ=>∃(R:RA) (s4 s5 s6 s7:Option Cl),ρ=[some (.val (.lst (L.map D.int))),some (.val (Mw C)),some (.val (.int s)),some (.ow (.tree none (Ye R))),s4,s5,s6,s7]/\RD L C s L.length R) ?_ ?_
 ·simp_arith[];refine Bh (λ i ρ=>i<=L.length/\∃(R:RA) (s4 s5 s6 s7:Option Cl),ρ=[some (.val (.lst (L.map D.int))),some (.val (Mw C)),some (.val (.int s)),some (.ow (.tree none (Ye R))),s4,s5,s6,s7]/\RD L C s i R) ⟨za6 _,_,none,none,none,none,rfl,RD.start hs⟩ ?_ ?_
  ·rintro i d ρ hd ⟨hi,R,s4,s5,s6,s7,rfl,hR⟩;obtain⟨d',aB,rfl⟩:=KL hd;obtain⟨x,hx,rfl⟩:=BM aB;have af:=(zG.mp hx).1;rw[Nat.zero_add];refine⟨_,rfl,?_⟩;have dh:=cP R x false;have qb:=QV hn hx;cases q:Ay R x with
   |none =>
    rw[q] at dh;refine B4 (ρ':=_) (by simp_arith[dh];rfl) ⟨af,R,_,_,_,_,rfl,hR.skip hx hn q⟩
   |some c0 =>
    rw[q] at dh;have sl:iF (some ((i:Int)+1)) none (.lst (L.map D.int))=.ok (.lst (((L.drop (i+1)).map D.int).map .sh)):=by rw[List.map_drop];exact Su _ (i+1)
    simp_arith[dh,sl,if_true,Option.isSome_some,zR,if_false];refine Bh (λ j ρ=>j<=(L.drop (i+1)).length/\∃(R':RA) (s6 s7:Option Cl),ρ=[some (.val (.lst (L.map D.int))),some (.val (Mw C)),some (.val (.int s)),some (.ow (.tree none (Ye R'))),some (.val (.int i)),some (.val (.int x)),s6,s7]/\lO L C s i x c0 ((L.drop (i+1)).take j) R R') ⟨za6 _,R,s6,s7,rfl,hR.nd,hR.rg,hR.sd,λ y=>Cc _,λ y _=>rfl,λ y hy=>by rw[zca] at hy;cases hy⟩ ?_ ?_
    ·rintro j d ρ hd ⟨hj,R',s6,s7,rfl,hI⟩;obtain⟨y,hy,rfl⟩:=BM hd;have jz:=(zG.mp hy).1;have tf:=zI hy;have wx:y∈L:=List.mem_of_mem_drop tf;have aY:i<DU L y:=Wn hn tf;have et:(L.drop (i+1)).take (j+1)=(L.drop (i+1)).take j++[y]:=by rw[za4,hy];rfl
     refine⟨_,rfl,?_⟩;rw[et];have t1:∀a b:Int,D.tup [.int a,.int b]=pD (a,b):=λ a b=>rfl;have l8:=pJ C (x,y) false;cases q2:Ay C (x,y) with
     |none =>
      rw[q2] at l8;refine B4 (ρ':=_) (by simp_arith[t1,l8];rfl) ⟨jz,R',_,_,rfl,hI.skip q2⟩
     |some dd =>
      rw[q2] at l8;have aF:Ay R' x=some c0:=by rw[hI.sm x (by omega)];exact q
      have i1:=cQ aF;have i2:=pK q2;have h1:=Fo (some c0) (some dd);have g1:=cR R' y;obtain⟨v,hv⟩:∃v,DQ (Ay R' y) (some (c0.1+dd.1,c0.2+dd.2))=some v:=by
       cases Ay R' y with
       |none|some z=>exact⟨_,rfl⟩
      have h2:Ri [.lst [cst (Ay R' y),cst (some (c0.1+dd.1,c0.2+dd.2))]]=.ok (.sh (cst (DQ (Ay R' y) (some (c0.1+dd.1,c0.2+dd.2))))):=NM [Ay R' y,some (c0.1+dd.1,c0.2+dd.2)] (by simp);rw[hv] at h2;have a6:=hI.put wx aY qb q q2 hv;have hl:(R'.map λ kv=>D.int kv.1).length<1000:=by
       have:=KZ hI.nd hI.rg;rw[zu] at this ⊢;omega
      have iw:∀z:Int,keyOk false (.int z)=true:=λ z=>rfl;have ha:Aj (some c0) (some dd)=some (c0.1+dd.1,c0.2+dd.2):=rfl;rw[ha] at h1;simp_arith[t1,l8,if_true,Option.isSome_some,zR,if_false];apply wp_step
      ·simp_arith[t1,i1,i2,h1];rfl
      refine B4 (ρ':=[some (.val (.lst (L.map D.int))),some (.val (Mw C)),some (.val (.int s)),some (.ow (.tree none (Ye (Dh R' y v)))),some (.val (.int i)),some (.val (.int x)),some (.val (.int y)),some (.val (cst (some (c0.1+dd.1,c0.2+dd.2))))]) (by
       simp_arith[g1,h2,iw,hl,and_self,if_true,pM];rfl) ⟨jz,_,_,_,rfl,a6⟩
    ·rintro ρ ⟨_,R',s6,s7,rfl,hI⟩;rw[zu,za5] at hI;exact⟨af,R',_,_,s6,s7,rfl,hR.go (λ p c h=>(hC p c h).2) hx hn q hI⟩
  ·rintro ρ ⟨_,R,s4,s5,s6,s7,rfl,hR⟩;rw[HE,zu] at hR;exact⟨R,s4,s5,s6,s7,rfl,hR⟩
 ·rintro ρ ⟨R,s4,s5,s6,s7,rfl,hR⟩;exact⟨_,rfl,R,rfl,hR⟩
abbrev Tu:List D->M OT:=z3 Jb
def Vb:Txt K mg->BB P w K mg base "climbed" 2 3 Tu:=(zt Jb).1
def Vc:∀(m:Nat) (L:List Int) (C:CA) (s:Int),m<=20->L.Perm (B3 m)->s∈L->(∀p c,Ay C p=some c->p.1∈L/\p.2∈L)->∃R:RA,Tu [.lst (L.map D.int),Mw C,.int s]=.ok (Ye R)/\RD L C s L.length R:=(zt Jb).2
def NP:∃F:List D->M OT,(∀ {P w K mg base},Txt K mg->BB P w K mg base "swept" 3 3 F)/\(∀(m:Nat) (L:List Int) (C:CA) (s:Int),m<=20->L.Perm (B3 m)->s∈L->(∀p c,Ay C p=some c->p.1∈L/\p.2∈L)->∃(R:RA) (T:List Co),F [.lst (L.map D.int),Mw C,.int s]=.ok (.lst ((T.map cst).map .sh))/\RD L C s L.length R/\cX m L C s R L.reverse T):=by
 refine⟨_,λ T=>Aw (k:=2) T.kO Fl _ (λ f B7 A outer s H E hr=>(A3 (AJ 3 Fl.nd rfl (za1 rfl) (Ag (Ab A8.toXCall (Vb T) (hr.mono (by decide)) rfl (A2 (A1 0 (pv 0)) (A2 (A1 1 (pv 1)) (A2 (A1 2 (pv 2)) A6))) rfl))) (A3 (Bw 4 Fl.nd rfl (Or.inr rfl) (UE CQ (Dd rfl T.Fm (A1 0 (pv 0))))) (A3 (Bw 5 Fl.nd rfl (za1 rfl) (FC CT)) (A3 (Bf A8.toXCall.own rfl (ZQ rfl T.NI (A1 0 (pv 0))) (AK 6 Fl.nd rfl (Or.inr rfl)) (A3 (Zr (NB:=["high","told","costs","lower"]) 7 [none,some 4,some 1,some 6] Fl.nd rfl (za1 rfl) rfl (AU (A1 5 (pv 5))) rfl rfl (Ca 0 (by decide) rfl rfl rfl) (λ _ _ _ _=>EG) (λ _ _ _ _=>(Ag (Br (Ab (B5 rfl).toXCall (Fn T) (hr.mono (by decide)) rfl (A2 (Aa (AM hr 16 (by decide)) (A1 1 (pv 1)) (A1 0 (pv 0))) (A2 (Na (AM hr 16 (by decide)) (A1 2 (pv 2)) (AD (A2 (A1 0 (pv 0)) (A2 (A1 3 (pv 3)) A6)))) A6)) rfl))))) (A3 (MW 4 (pv 4) (Ag (Eg (Ab A8.toXCall (NL T) (hr.mono (by decide)) rfl (A2 (Ag (iG (EO (A2 (Na (AM hr 16 (by decide)) (A1 3 (pv 3)) (A1 6 (pv 6))) A6)) (A1 7 (pv 7)))) A6) rfl))) (A1 6 (pv 6))) (A5 (DY 5 (pv 5) (A1 6 (pv 6))))))) (A5 (Cv 4 (pv 4)))))))),?_⟩;intro m L C s hm hL hs hC;have hn:=FH hL;have hlen:=Ff hL;obtain⟨R,hF,hR⟩:=Vc m L C s hm hL hs hC;have e0:AE ["order","costs","place","reached","told","higher","lower","over"] [.lst (L.map D.int),Mw C,.int s]=[some (.val (.lst (L.map D.int))),some (.val (Mw C)),some (.val (.int s)),none,none,none,none,none]:=rfl;rw[e0];refine (λ h:∃t,_/\∃T:List Co,t=.lst ((T.map cst).map .sh)/\cX m L C s R L.reverse T=>by
  obtain⟨t,h1,T,rfl,h2⟩:=h;exact⟨R,T,h1,hR,h2⟩) (Ll ?_)
 have j3:((L.map D.int).length:Int)=(m:Int):=by rw[zu,hlen]
 have bo:=N7 (d:=.AL) (n:=m) (by omega);have cb:zE m D.AL=(zE m (none:Co)).map cst:=by rw[List.map_replicate];rfl
 rw[cb] at bo;apply wp_step
 ·simp_arith[hF];rfl
 try simp only[zC,z5]
 apply wp_step
 ·simp_arith[j3,bo];rfl
 try simp only[zC,z5]
 apply wp_step
 ·rfl
 try simp only[zC,z5]
 refine BL (I:=λ ρ=>∃(T:List Co) (s5 s6 s7:Option Cl),ρ=[some (.val (.lst (L.map D.int))),some (.val (Mw C)),some (.val (.int s)),some (.val (SQ R)),some (.own (T.map cst)),s5,s6,s7]/\cX m L C s R L.reverse T) ?_ ?_
 ·have h7:(L.map D.int).reverse=L.reverse.map D.int:=by rw[List.map_reverse]
  simp_arith[h7];refine Bh (λ i ρ=>i<=L.reverse.length/\∃(T:List Co) (s6 s7:Option Cl),ρ=[some (.val (.lst (L.map D.int))),some (.val (Mw C)),some (.val (.int s)),some (.val (SQ R)),some (.own (T.map cst)),some (.own ((L.reverse.take i).map D.int)),s6,s7]/\cX m L C s R (L.reverse.take i) T) ⟨za6 _,_,none,none,rfl,cX.start⟩ ?_ ?_
  ·rintro i d ρ hd ⟨hi,T,s6,s7,rfl,hT⟩;obtain⟨y,hy,rfl⟩:=BM hd;have af:=(zG.mp hy).1;have aY:=(AW hL).mp (zb8.mp (zI hy));have et:L.reverse.take (i+1)=L.reverse.take i++[y]:=by rw[za4,hy];rfl
   rw[zao] at af;have wy:L[L.length-1-i]?=some y:=by rw[List.getElem?_reverse af] at hy;exact hy
   have ze:=QV hn wy;have qj:∀x∈L.reverse.take i,(0<=x/\x<m)/\DU L y<DU L x:=λ x hx=>by
    have wz:=zb8.mp (zae hx);refine⟨(AW hL).mp wz,?_⟩;rw[List.take_reverse,zb8] at hx;have:=Wn hn hx;omega
   have qg:y∉L.reverse.take i:=λ hx=>by have:=(qj y hx).2;omega
   have tj:=hT.len;refine⟨_,rfl,?_⟩;have bY:((L.reverse.take i).map D.int).length<=1000:=by rw[zu,zaf,zao];omega
   have t1:∀a b:Int,D.tup [.int a,.int b]=pD (a,b):=λ a b=>rfl;have g1:=cR R y;obtain⟨vs,a5⟩:∃vs:List Co,vs=(L.reverse.take i).map λ x=>Aj (atC T x) (Ay C (x,y)):=⟨_,rfl⟩;apply wp_step
   ·simp_arith[if_pos bY];rw[Cb (λ x=>cst (Aj (atC T x) (Ay C (x,y)))) (λ x hx=>⟨_,rfl,rfl,by
     have tm:=(qj x hx).1;have x1:AR (.lst (T.map cst)) (.int x)=.ok (cst (atC T x)):=Ce tm.1 (by rw[tj];exact tm.2);have g2:=pL C (x,y);have h1:=Fo (atC T x) (Ay C (x,y));simp_arith[t1,x1,g2,h1]⟩)]
    have ev:(L.reverse.take i).map (λ x=>cst (Aj (atC T x) (Ay C (x,y))))=vs.map cst:=by rw[a5,zak];rfl
    rw[ev];have dv:=cW vs;simp_arith[dv];rfl
   try simp only[zC,z5]
   have ao:Sh (.lst [cst (Ay R y)]) (.lst (vs.map cst))=.ok (.lst (((Ay R y::vs).map cst).map .sh)):=jL (by rw[a5,zu,zu,zaf,zao,zav];omega);have h3:=NM (Ay R y::vs) (by rw[a5,z7,zu,zaf,zao];omega);have a6:=Kc (i:=4) (ρ:=[some (.val (.lst (L.map D.int))),some (.val (Mw C)),some (.val (.int s)),some (.val (SQ R)),some (.own (T.map cst)),some (.own ((L.reverse.take i).map D.int)),some (.val (.int y)),some (.own (vs.map cst))]) (d:=cst (FG (Ay R y::vs))) (p:=y) rfl aY.1 (by rw[zu,tj];exact aY.2);have aZ:(T.map cst).set y.toNat (cst (FG (Ay R y::vs)))=(T.set y.toNat (FG (Ay R y::vs))).map cst:=by rw[List.map_set]
   rw[aZ] at a6;apply wp_step
   ·simp_arith[g1,ao,h3,a6];rfl
   try simp only[zC,z5]
   have w4:((L.reverse.take i).map D.int).length<1000:=by rw[zu,zaf,zao];omega
   refine B4 (ρ':=[some (.val (.lst (L.map D.int))),some (.val (Mw C)),some (.val (.int s)),some (.val (SQ R)),some (.own ((T.set y.toNat (FG (Ay R y::vs))).map cst)),some (.own ((L.reverse.take (i+1)).map D.int)),some (.val (.int y)),some (.own (vs.map cst))]) (by simp_arith[if_pos w4,et,zK,zx,zbr]) ⟨by rw[zao];exact af,_,_,_,rfl,?_⟩;rw[et,a5];exact hT.step hR.sd aY.1 aY.2 qg qj
  ·rintro ρ ⟨_,T,s6,s7,rfl,hT⟩;rw[zu,za5] at hT;exact⟨T,_,s6,s7,rfl,hT⟩
 ·rintro ρ ⟨T,s5,s6,s7,rfl,hT⟩;exact⟨_,rfl,T,rfl,hT⟩
abbrev dX:List D->M OT:=z3 NP
def Tv:Txt K mg->BB P w K mg base "swept" 3 3 dX:=(zt NP).1
def Tw:∀(m:Nat) (L:List Int) (C:CA) (s:Int),m<=20->L.Perm (B3 m)->s∈L->(∀p c,Ay C p=some c->p.1∈L/\p.2∈L)->∃(R:RA) (T:List Co),dX [.lst (L.map D.int),Mw C,.int s]=.ok (.lst ((T.map cst).map .sh))/\RD L C s L.length R/\cX m L C s R L.reverse T:=(zt NP).2
def EX:∃F:List D->M OT,(∀ {P w K mg base},Txt K mg->BB P w K mg base "costs_from" 2 2 F)/\(∀(m s:Nat) (rs:List Road),s<m->m<=900->(∀r∈rs,GX m r)->∃cs:List Co,Right m s rs cs/\F [Aq m rs,.int s]=.ok (.lst ((cs.map cst).map .sh))):=by
 refine⟨_,λ T=>Aw (k:=1) T.Rh BF _ (λ f B7 A outer s H E hr=>(A3 (Bw 2 BF.nd rfl (za1 rfl) (UE CQ (Aa (AM hr 16 (by decide)) (A1 0 (pv 0)) A7))) (A3 (MW 2 (pv 2) (AD (A2 A7 (A2 A7 A6))) (A1 1 (pv 1))) (A3 (AJ 3 BF.nd rfl (za1 rfl) Du) (A3 (Sd A8.toXCall.own (BW (c:=true) (A1 3 (pv 3))) (A3 (AJ 3 BF.nd rfl (za1 rfl) Du) (A5 (Bf A8.toXCall.own rfl (AU (Aa (AM hr 16 (by decide)) (A1 0 (pv 0)) A7)) (AK 4 BF.nd rfl (za1 rfl)) (A3 (AJ 5 BF.nd rfl (za1 rfl) (Ag (Eg (Ab A8.toXCall (NL T) (hr.mono (by decide)) rfl (A2 (EO (A2 (Aa (AM hr 16 (by decide)) (A1 2 (pv 2)) (Aa (AM hr 16 (by decide)) (A1 4 (pv 4)) A7)) (A2 (Ag (Ab A8.toXCall (Fn T) (hr.mono (by decide)) rfl (A2 (Aa (AM hr 16 (by decide)) (A1 2 (pv 2)) (Aa (AM hr 16 (by decide)) (A1 4 (pv 4)) A7)) (A2 (Ag (Ab A8.toXCall (FK T) (hr.mono (by decide)) rfl (A2 (A1 4 (pv 4)) A6) rfl)) A6)) rfl)) A6))) A6) rfl)))) (A5 (Ba (IW (Io (c:=true) (AM hr 16 (by decide)) (A1 5 (pv 5)) (Aa (AM hr 16 (by decide)) (A1 2 (pv 2)) (Aa (AM hr 16 (by decide)) (A1 4 (pv 4)) A7)))) (A3 (MW 2 (pv 2) (A1 5 (pv 5)) (Aa (AM hr 16 (by decide)) (A1 4 (pv 4)) A7)) (A5 (AJ 3 BF.nd rfl (za1 rfl) Du))) As))))))) (A5 (Cv 2 (pv 2)))))))),?_⟩;intro m s rs hs hm Ar;have e0:AE ["net","start","costs","changed","road","cost"] [Aq m rs,.int s]=[some (.val (Aq m rs)),some (.val (.int s)),none,none,none,none]:=rfl;rw[e0];refine (λ h:∃t,_/\∃cs:List Co,Right m s rs cs/\t=.lst ((cs.map cst).map .sh)=>by
  obtain⟨t,h1,cs,h2,rfl⟩:=h;exact⟨cs,h2,h1⟩) (Ll ?_)
 have n0:AR (Aq m rs) (.int 0)=.ok (.int m):=rfl;have n1:AR (Aq m rs) (.int 1)=.ok (.lst (rs.map Bs)):=rfl;have bo:=N7 (d:=.AL) (n:=m) (by omega);have cb:zE m D.AL=(zE m (none:Co)).map cst:=by rw[List.map_replicate];rfl
 rw[cb] at bo;apply wp_step
 ·simp_arith[n0,bo];rfl
 try simp only[zC,z5]
 have a6:=Kc (i:=2) (ρ:=[some (.val (Aq m rs)),some (.val (.int s)),some (.own ((zE m (none:Co)).map cst)),none,none,none]) (d:=.tup [.int 0,.int 0]) (p:=(s:Int)) rfl (by omega) (by rw[zu,zc0];omega);have aZ:((zE m (none:Co)).map cst).set (s:Int).toNat (.tup [.int 0,.int 0])=((zE m none).set s (some (0,0))).map cst:=by rw[zat,List.map_set];rfl
 rw[aZ] at a6;apply wp_step
 ·simp_arith[a6];rfl
 try simp only[zC,z5]
 apply wp_step
 ·rfl
 try simp only[zC,z5]
 refine BL (I:=λ ρ=>∃(cs:List Co) (s3 s4 s5:Option Cl),ρ=[some (.val (Aq m rs)),some (.val (.int s)),some (.own (cs.map cst)),s3,s4,s5]/\Right m s rs cs) ?_ ?_
 ·refine So (lt:=xG) (λ z ρ=>∃(s4 s5:Option Cl),ρ=[some (.val (Aq m rs)),some (.val (.int s)),some (.own (z.1.map cst)),some (.val (.bl z.2)),s4,s5]/\Good m s rs z.1/\(z.2=false->Right m s rs z.1)) (pO _) ⟨none,none,rfl,Nd rs hs,λ e=>by cases e⟩ ?_;rintro ⟨cs,b⟩ ρ ⟨s4,s5,rfl,g,hR⟩;cases b with
  |false=>exact .inl ⟨rfl,cs,_,s4,s5,rfl,hR rfl⟩
  |true =>
   refine .inr ⟨rfl,?_⟩;apply wp_step
   ·rfl
   try simp only[zC,z5]
   simp_arith[n1];refine Bh (λ i ρ=>∃(ax:List Co) (ch:Bool) (s4 s5:Option Cl),ρ=[some (.val (Aq m rs)),some (.val (.int s)),some (.own (ax.map cst)),some (.val (.bl ch)),s4,s5]/\Good m s rs ax/\(ch=true->O3 ltN ax cs)/\(ch=false->ax=cs/\∀r∈rs.take i,DQ (atC cs r.b) (Aj (atC cs r.a) (Cd r))=atC cs r.b)) ⟨cs,false,s4,s5,rfl,g,(λ h=>by cases h),λ _=>⟨rfl,λ r hr=>by rw[zca] at hr;cases hr⟩⟩ ?_ ?_
   ·rintro i d ρ hd ⟨ax,ch,s4,s5,rfl,g1,h1,h2⟩;obtain⟨r,hq,rfl⟩:=BM hd;have hr:=zI hq;have ok:=Ar r hr;obtain⟨g2,_,g4,g5⟩:=Xs g1 hr Ar;have bE:r.b<ax.length:=by rw[g1.len];exact ok.b1
    have w5:r.a<ax.length:=by rw[g1.len];exact ok.a1
    have r0:AR (Bs r) (.int 0)=.ok (.int r.a):=rfl;have r1:AR (Bs r) (.int 1)=.ok (.int r.b):=rfl;have x0:AR (.lst (ax.map cst)) (.int r.a)=.ok (cst (atC ax r.a)):=Ce ok.a0 w5;have x1:AR (.lst (ax.map cst)) (.int r.b)=.ok (cst (atC ax r.b)):=Ce ok.b0 bE;have w6:=FL r;have di:=Fo (atC ax r.a) (Cd r);have hle:Ri [.lst [cst (atC ax r.b),cst (Aj (atC ax r.a) (Cd r))]]=.ok (.sh (cst (DQ (atC ax r.b) (Aj (atC ax r.a) (Cd r))))):=NM [atC ax r.b,Aj (atC ax r.a) (Cd r)] (by simp);have ae:=jI (DQ (atC ax r.b) (Aj (atC ax r.a) (Cd r))) (atC ax r.b);refine⟨_,rfl,?_⟩;apply wp_step
    ·simp_arith[r0,r1,x0,x1,w6,di,hle];rfl
    try simp only[zC,z5]
    by_cases hc:DQ (atC ax r.b) (Aj (atC ax r.a) (Cd r))=atC ax r.b
    ·rw[decide_eq_true hc] at ae;refine B4 (ρ':=_) (by simp_arith[r1,x1,ae];rfl) ⟨ax,ch,_,_,rfl,g1,h1,λ hf=>?_⟩;obtain⟨e1,e2⟩:=h2 hf;subst e1;refine⟨rfl,λ r' aX=>?_⟩;rw[za4,hq] at aX;rcases zJ.mp aX with aX|aX
     ·exact e2 r' aX
     ·have:r'=r:=by simpa using aX
      rw[this];exact hc
    ·rw[decide_eq_false hc] at ae;have a6:=Kc (i:=2) (ρ:=[some (.val (Aq m rs)),some (.val (.int s)),some (.own (ax.map cst)),some (.val (.bl ch)),some (.val (Bs r)),some (.val (cst (DQ (atC ax r.b) (Aj (atC ax r.a) (Cd r)))))]) (d:=cst (DQ (atC ax r.b) (Aj (atC ax r.a) (Cd r)))) (p:=r.b) rfl ok.b0 (by rw[zu];exact bE);have aZ:(ax.map cst).set r.b.toNat (cst (DQ (atC ax r.b) (Aj (atC ax r.a) (Cd r))))=(Df r ax).map cst:=by unfold Df;rw[List.map_set]
     rw[aZ] at a6;simp_arith[r1,x1,ae,if_true];apply wp_step
     ·simp_arith[r1,a6];rfl
     refine B4 (ρ':=_) rfl ⟨Df r ax,true,_,_,rfl,g2,λ _=>?_,λ hf=>by cases hf⟩;cases ch with
     |false=>obtain⟨e1,_⟩:=h2 rfl;subst e1;exact g5 hc
     |true=>exact O3.trans ltN Xq (g5 hc) (h1 rfl)
   ·rintro ρ' ⟨ax,ch,s4,s5,rfl,g1,h1,h2⟩;cases ch with
    |true=>exact⟨(ax,true),⟨rfl,.inr ⟨rfl,h1 rfl⟩⟩,s4,s5,rfl,g1,λ e=>by cases e⟩
    |false =>
     obtain⟨e1,e2⟩:=h2 rfl;subst e1;rw[zu,za5] at e2;exact⟨(ax,false),⟨rfl,.inl rfl⟩,s4,s5,rfl,g1,λ _=>right_of g1 e2⟩
 ·rintro ρ' ⟨cs,s3,s4,s5,rfl,hR⟩;exact⟨_,rfl,cs,hR,rfl⟩
abbrev LL:List D->M OT:=z3 EX
def Oy:Txt K mg->BB P w K mg base "costs_from" 2 2 LL:=(zt EX).1
def EY:∀(m s:Nat) (rs:List Road),s<m->m<=900->(∀r∈rs,GX m r)->∃cs:List Co,Right m s rs cs/\LL [Aq m rs,.int s]=.ok (.lst ((cs.map cst).map .sh)):=(zt EX).2
def DD:∃F:List D->M OT,(∀ {P w K mg base},Txt K mg->J3 P w K mg base "Ladder" "order" 1 1 F)/\(∀(m:Nat) (rs:List Road) (L:List Int) (A:LA) (K:List (Int×Int)),F [AG m rs L A K]=.ok (.lst ((L.map D.int).map .sh))):=by
 refine⟨_,λ T=>Mr (k:=0) T.NH LY _ (λ f B7 A outer s H E hr=>(A5 (Ak (FD rfl T.En (ES ["Ladder"] (Bx T.CF C6) (A1 0 (pv 0))))))),?_⟩;intro m rs L A K;rfl
abbrev AS:List D->M OT:=z3 DD
def DF:Txt K mg->J3 P w K mg base "Ladder" "order" 1 1 AS:=(zt DD).1
def DH:∀(m:Nat) (rs:List Road) (L:List Int) (A:LA) (K:List (Int×Int)),AS [AG m rs L A K]=.ok (.lst ((L.map D.int).map .sh)):=(zt DD).2
def FN:∃F:List D->M OT,(∀ {P w K mg base},Txt K mg->BB P w K mg base "costs_out" 5 2 F)/\(∀(m:Nat) (rs:List Road) (L:List Int) (A:LA) (K:List (Int×Int)) (s:Nat),BO m rs L A K->s<m->∃T:List Co,F [AG m rs L A K,.int s]=.ok (.lst ((T.map cst).map .sh))/\T.length=m/\∀w:Int,0<=w->w<m->BN rs s w (atC T w)):=by
 refine⟨_,λ T=>Aw (k:=4) T.Tc R4 _ (λ f B7 A outer s H E hr=>(A5 (Ak (Ab A8.toXCall (Tv T) (hr.mono (by decide)) rfl (A2 (Ag (GU (k:=1) [("Ladder",AS)] A8.toXCall (Dw (by decide) (DF T) EI) (hr.mono (by decide)) (A1 0 (pv 0)))) (A2 (Ag (Ab A8.toXCall (Ov T) (hr.mono (by decide)) rfl (A2 (A1 0 (pv 0)) A6) rfl)) (A2 (A1 1 (pv 1)) A6))) rfl)))),?_⟩;intro m rs L A K s ok hs;have hm:=ok.m2;have e0:AE ["ladder","start"] [AG m rs L A K,.int s]=[some (.val (AG m rs L A K)),some (.val (.int s))]:=rfl;rw[e0];have h1:=Ox m rs L A K ok;have h2:=DH m rs L A K;have h8:Ii [("Ladder",AS)] "order" (AG m rs L A K)=.ok AS:=rfl;have qk:(s:Int)∈L:=(AW ok.pm).mpr ⟨by omega,by omega⟩;have h9:∀p c,Ay (Iv A K) p=some c->p.1∈L/\p.2∈L:=λ p c h=>by
  have hm:=QJ h;unfold Iv at hm;obtain⟨q,hq,e⟩:=zS.mp hm;cases e;have:=ok.Y7 hq;exact⟨(AW ok.pm).mpr this.2.1,(AW ok.pm).mpr this.2.2⟩
 have hC:∀p c,Ay (Iv A K) p=some c->p.1∈L/\p.2∈L:=λ p c h=>by
  exact h9 p c h
 obtain⟨R,T,hF,hR,hT⟩:=Tw m L (Iv A K) s (by omega) ok.pm qk hC;refine⟨T,Bb ?_,hT.len,λ w h0 h1=>?_⟩
 ·simp_arith[h8,h2,h1,hF];exact⟨_,rfl,rfl⟩
 ·have hU:=hR.yI (m:=m) hC;have a8:∀x:Int,0<=x->x<m->x∈L.reverse:=λ x a b=>zb8.mpr ((AW ok.pm).mpr ⟨a,b⟩);obtain⟨T',j4⟩:∃T':Int->Co,T'=λ x:Int=>if 0<=x/\x<(m:Int) then atC T x else none:=⟨_,rfl⟩
  have cc:∀x:Int,0<=x->x<m->T' x=atC T x:=λ x a b=>by rw[j4];exact if_pos ⟨a,b⟩
  have hS:uC (DU L) (λ x y=>Ay (Iv A K) (x,y)) s (Ay R) T' m:=⟨λ x a b=>by rw[cc x a b];exact hT.top x (a8 x a b),λ x y a b c d hr=>by rw[cc x a b,cc y c d];exact hT.cl x (a8 x a b) y (a8 y c d) hr,λ x c hx=>by
   have am:0<=x/\x<m:=by
    refine zbg λ hn=>?_;rw[j4] at hx;dsimp only at hx;rw[if_neg hn] at hx;cases hx
   rw[cc x am.1 am.2] at hx;exact hT.sd x c am.1 am.2 hx⟩
  obtain⟨cs,ql,_⟩:=EY m s rs hs (by omega) (λ r hr=>(ok.ok r hr).1);have bn:=ql.ZV (λ r hr=>(ok.ok r hr).1) h0 h1;have q:=PD (s:=(s:Int)) (w:=w) ok.lK ok.kept ⟨by omega,by omega⟩ hU hS bn;rw[cc w h0 h1] at q;exact q
abbrev FO:List D->M OT:=z3 FN
def Kr:Txt K mg->BB P w K mg base "costs_out" 5 2 FO:=(zt FN).1
def Rj:∀(m:Nat) (rs:List Road) (L:List Int) (A:LA) (K:List (Int×Int)) (s:Nat),BO m rs L A K->s<m->∃T:List Co,FO [AG m rs L A K,.int s]=.ok (.lst ((T.map cst).map .sh))/\T.length=m/\∀w:Int,0<=w->w<m->BN rs s w (atC T w):=(zt FN).2
def Hs:∃F:List D->M OT,(∀ {P w K mg base},Txt K mg->BB P w K mg base "costs_in" 5 2 F)/\(∀(m:Nat) (rs:List Road) (L:List Int) (A:LA) (K:List (Int×Int)) (s:Nat),BO m rs L A K->s<m->∃T:List Co,F [AG m rs L A K,.int s]=.ok (.lst ((T.map cst).map .sh))/\T.length=m/\∀w:Int,0<=w->w<m->BN rs w s (atC T w)):=by
 refine⟨_,λ T=>Aw (k:=4) T.UY T6 _ (λ f B7 A outer s H E hr=>(A5 (Ak (Ab A8.toXCall (Tv T) (hr.mono (by decide)) rfl (A2 (Ag (GU (k:=1) [("Ladder",AS)] A8.toXCall (Dw (by decide) (DF T) EI) (hr.mono (by decide)) (A1 0 (pv 0)))) (A2 (Ag (Ab A8.toXCall (Hq T) (hr.mono (by decide)) rfl (A2 (A1 0 (pv 0)) A6) rfl)) (A2 (A1 1 (pv 1)) A6))) rfl)))),?_⟩;intro m rs L A K s ok hs;have hm:=ok.m2;have e0:AE ["ladder","goal"] [AG m rs L A K,.int s]=[some (.val (AG m rs L A K)),some (.val (.int s))]:=rfl;rw[e0];have h1:=Hr m rs L A K ok;have h2:=DH m rs L A K;have h8:Ii [("Ladder",AS)] "order" (AG m rs L A K)=.ok AS:=rfl;have qk:(s:Int)∈L:=(AW ok.pm).mpr ⟨by omega,by omega⟩;have h9:∀p c,Ay (Iv A K) p=some c->p.1∈L/\p.2∈L:=λ p c h=>by
  have hm:=QJ h;unfold Iv at hm;obtain⟨q,hq,e⟩:=zS.mp hm;cases e;have:=ok.Y7 hq;exact⟨(AW ok.pm).mpr this.2.1,(AW ok.pm).mpr this.2.2⟩
 have hC:∀p c,Ay (SR (Iv A K)) p=some c->p.1∈L/\p.2∈L:=λ p c h=>by
  rw[show p=(p.1,p.2) from rfl,QU] at h;have:=h9 _ _ h;exact⟨this.2,this.1⟩
 obtain⟨R,T,hF,hR,hT⟩:=Tw m L (SR (Iv A K)) s (by omega) ok.pm qk hC;refine⟨T,Bb ?_,hT.len,λ w h0 h1=>?_⟩
 ·simp_arith[h8,h2,h1,hF];exact⟨_,rfl,rfl⟩
 ·have hU:=hR.yI (m:=m) hC;have a8:∀x:Int,0<=x->x<m->x∈L.reverse:=λ x a b=>zb8.mpr ((AW ok.pm).mpr ⟨a,b⟩);obtain⟨T',j4⟩:∃T':Int->Co,T'=λ x:Int=>if 0<=x/\x<(m:Int) then atC T x else none:=⟨_,rfl⟩
  have cc:∀x:Int,0<=x->x<m->T' x=atC T x:=λ x a b=>by rw[j4];exact if_pos ⟨a,b⟩
  have hS:uC (DU L) (λ x y=>Ay (SR (Iv A K)) (x,y)) s (Ay R) T' m:=⟨λ x a b=>by rw[cc x a b];exact hT.top x (a8 x a b),λ x y a b c d hr=>by rw[cc x a b,cc y c d];exact hT.cl x (a8 x a b) y (a8 y c d) hr,λ x c hx=>by
   have am:0<=x/\x<m:=by
    refine zbg λ hn=>?_;rw[j4] at hx;dsimp only at hx;rw[if_neg hn] at hx;cases hx
   rw[cc x am.1 am.2] at hx;exact hT.sd x c am.1 am.2 hx⟩
  have w9:(λ x y=>Ay (SR (Iv A K)) (x,y))=λ x y=>Ay (Iv A K) (y,x):=by funext x y;exact QU x y _
  rw[w9] at hU hS;obtain⟨cs,ql,_⟩:=EY m w.toNat rs (by omega) (by omega) (λ r hr=>(ok.ok r hr).1);have bn:=ql.ZV (λ r hr=>(ok.ok r hr).1) (w:=(s:Int)) (by omega) (by omega);have ew:((w.toNat:Nat):Int)=w:=by omega
  rw[ew] at bn;have q:=(PD (s:=(s:Int)) (w:=w) ok.lK.turn ok.kept.turn ⟨by omega,by omega⟩ hU hS bn.turn).turn;rw[Ia,cc w h0 h1] at q;exact q
abbrev Ig:List D->M OT:=z3 Hs
def LM:Txt K mg->BB P w K mg base "costs_in" 5 2 Ig:=(zt Hs).1
def Tx:∀(m:Nat) (rs:List Road) (L:List Int) (A:LA) (K:List (Int×Int)) (s:Nat),BO m rs L A K->s<m->∃T:List Co,Ig [AG m rs L A K,.int s]=.ok (.lst ((T.map cst).map .sh))/\T.length=m/\∀w:Int,0<=w->w<m->BN rs w s (atC T w):=(zt Hs).2
def FQ:∃F:List D->M OT,(∀ {P w K mg base},Txt K mg->BB P w K mg base "lies_over" 2 3 F)/\(∀(m:Nat) (T:List Co) (W:List (Int×List Co)) (h:Int),m<=20->T.length=m->W.length<=900->(∀k∈W,(0<=k.1/\k.1<m)/\k.2.length=m)->0<=h->h<m->F [.lst (T.map cst),.lst (W.map eE),.int h]=.ok (.sh (.bl (W.any λ k=>decide (Aj (atC T k.1) (atC k.2 h)=atC T h))))):=by
 refine⟨_,λ T=>Aw (k:=1) T.Td R5 _ (λ f B7 A outer s H E hr=>(A5 (Ak (AX (gU rfl rfl T.uM (Ag (CU (NB:=["higher","row","costs","hub"]) [none,none,some 0,some 2] rfl (AU (A1 1 (pv 1))) rfl rfl (Mb (n:=2) rfl (CM 0 (by decide) rfl rfl rfl (CM 1 (by decide) rfl rfl rfl JD))) (λ _ _ _ _=>EG) (λ _ _ _ _=>(YZ (AM hr 16 (by decide)) (Ag (Br (Ab (B5 rfl).toXCall (Fn T) (hr.mono (by decide)) rfl (A2 (Aa (AM hr 16 (by decide)) (A1 2 (pv 2)) (A1 0 (pv 0))) (A2 (Aa (AM hr 16 (by decide)) (A1 1 (pv 1)) (A1 3 (pv 3))) A6)) rfl))) (Aa (AM hr 16 (by decide)) (A1 2 (pv 2)) (A1 3 (pv 3)))))))))))),?_⟩;intro m T W h hm hT hW hk h0 h1;have e0:AE ["costs","known","hub"] [.lst (T.map cst),.lst (W.map eE),.int h]=[some (.val (.lst (T.map cst))),some (.val (.lst (W.map eE))),some (.val (.int h))]:=rfl;rw[e0];refine Bb ?_;have x1:AR (.lst (T.map cst)) (.int h)=.ok (cst (atC T h)):=Ce h0 (by omega);have hl:(W.map eE).length<=1000:=by rw[zu];omega
 simp_arith[if_pos hl];rw[Cb (λ k:Int×List Co=>D.bl (decide (Aj (atC T k.1) (atC k.2 h)=atC T h))) (λ k c9=>⟨_,rfl,rfl,by
  obtain⟨⟨k0,k1⟩,k2⟩:=hk k c9;have x2:AR (.lst (T.map cst)) (.int k.1)=.ok (cst (atC T k.1)):=Ce k0 (by omega);have x3:AR (.lst (k.2.map cst)) (.int h)=.ok (cst (atC k.2 h)):=Ce h0 (by omega);have di:=Fo (atC T k.1) (atC k.2 h);have wE:=Wh (Aj (atC T k.1) (atC k.2 h)) (atC T h);simp_arith[x1,x2,x3,di,wE]⟩)]
 have e1:(W.map λ k=>D.bl (decide (Aj (atC T k.1) (atC k.2 h)=atC T h)))=(W.map λ k=>decide (Aj (atC T k.1) (atC k.2 h)=atC T h)).map D.bl:=by rw[zak];rfl
 simp_arith[e1];rw[List.any_map];rfl
abbrev NQ:List D->M OT:=z3 FQ
def Rk:Txt K mg->BB P w K mg base "lies_over" 2 3 NQ:=(zt FQ).1
def Rl:∀(m:Nat) (T:List Co) (W:List (Int×List Co)) (h:Int),m<=20->T.length=m->W.length<=900->(∀k∈W,(0<=k.1/\k.1<m)/\k.2.length=m)->0<=h->h<m->NQ [.lst (T.map cst),.lst (W.map eE),.int h]=.ok (.sh (.bl (W.any λ k=>decide (Aj (atC T k.1) (atC k.2 h)=atC T h)))):=(zt FQ).2
def Ht:∃F:List D->M OT,(∀ {P w K mg base},Txt K mg->BB P w K mg base "label_by" 6 3 F)/\(∀(m:Nat) (rs:List Road) (L:List Int) (A:LA) (K:List (Int×Int)) (C:Int->Int->Co) (p:Nat) (x:Str),BO m rs L A K->Yg m C->p<m->(∀s:Int,0<=s->s<m->∃T:List Co,(XJ) "costs_out" (FO) "costs_in" (Ig) (.ok [AG m rs L A K,.int s]) (.F3 x)=.ok (.lst ((T.map cst).map .sh))/\T.length=m/\∀w:Int,0<=w->w<m->atC T w=C s w)->F [AG m rs L A K,.int p,.F3 x]=.ok (.lst (((AB C p L.reverse).map (He C p)).map .sh))):=by
 refine⟨_,λ T=>Aw (k:=5) T.UZ Dx _ (λ f B7 A outer s H E hr=>(A3 (AJ 3 Dx.nd rfl (za1 rfl) (Ag (SW A8.toXCall T.Hk (Kr T) (hr.mono (by decide)) T.J8 (LM T) (hr.mono (by decide)) (A1 2 (pv 2)) (A2 (A1 0 (pv 0)) (A2 (A1 1 (pv 1)) A6)) rfl))) (A3 (Bw 4 Dx.nd rfl (za1 rfl) (FC CT)) (A3 (Bw 5 Dx.nd rfl (za1 rfl) (FC CT)) (A3 (Bf A8.toXCall.own rfl (ZQ rfl T.NI (Ag (GU (k:=1) [("Ladder",AS)] A8.toXCall (Dw (by decide) (DF T) EI) (hr.mono (by decide)) (A1 0 (pv 0))))) (AK 6 Dx.nd rfl (za1 rfl)) (A5 (Ba (IW (DW.dt (Fw (HD (c:=true) (Aa (AM hr 16 (by decide)) (A1 3 (pv 3)) (A1 6 (pv 6)))) (Fv (CB (BW (c:=true) (Ag (Ab A8.toXCall (Rk T) (hr.mono (by decide)) rfl (A2 (A1 3 (pv 3)) (A2 (A1 5 (pv 5)) (A2 (A1 6 (pv 6)) A6))) rfl)))))))) (A3 (DY 4 (pv 4) (AD (A2 (A1 6 (pv 6)) (A2 (Aa (AM hr 16 (by decide)) (A1 3 (pv 3)) (A1 6 (pv 6))) A6)))) (A5 (oQ (BV 5 (pv 5)) (Zk (Ju (AX (A1 6 (pv 6))) (Ju (SW A8.toXCall T.Hk (Kr T) (hr.mono (by decide)) T.J8 (LM T) (hr.mono (by decide)) (A1 2 (pv 2)) (A2 (A1 0 (pv 0)) (A2 (A1 6 (pv 6)) A6)) rfl) CT)))))) As))) (A5 (Cv 4 (pv 4)))))))),?_⟩;intro m rs L A K C p x ok hC hp hG;have hm:=ok.m2;have hL:=ok.pm;have hlen:=Ff hL;obtain⟨T,g1,l1,t1⟩:=hG p (by omega) (by omega);have e0:AE ["ladder","place","costs_of","costs","label","known","hub"] [AG m rs L A K,.int p,.F3 x]=[some (.val (AG m rs L A K)),some (.val (.int p)),some (.val (.F3 x)),none,none,none,none]:=rfl;rw[e0];refine Bb ?_;have hs:Ii [("Ladder",AS)] "order" (AG m rs L A K)=.ok AS:=rfl;have ho:=DH m rs L A K;apply wp_step
 ·simp_arith[g1];rfl
 try simp only[zC,z5]
 apply wp_step
 ·rfl
 try simp only[zC,z5]
 refine wp_step (ρ':=[some (.val (AG m rs L A K)),some (.val (.int p)),some (.val (.F3 x)),some (.val (.lst (T.map cst))),some (.own []),some (XM []),none]) (by simp_arith[];try rfl) ?_;refine BL (I:=λ ρ=>∃(s5 s6:Option Cl),ρ=[some (.val (AG m rs L A K)),some (.val (.int p)),some (.val (.F3 x)),some (.val (.lst (T.map cst))),some (.own ((AB C p L.reverse).map (He C p))),s5,s6]) ?_ ?_
 ·have h7:(L.map D.int).reverse=L.reverse.map D.int:=by rw[List.map_reverse]
  simp_arith[hs,ho,h7];refine Bh (λ i ρ=>∃(W:List (Int×List Co)) (s6:Option Cl),ρ=[some (.val (AG m rs L A K)),some (.val (.int p)),some (.val (.F3 x)),some (.val (.lst (T.map cst))),some (.own ((AB C p (L.reverse.take i)).map (He C p))),some (XM W),s6]/\W.map zX=AB C p (L.reverse.take i)/\∀k∈W,k.2.length=m/\∀w:Int,0<=w->w<m->atC k.2 w=C k.1 w) ⟨[],none,rfl,rfl,λ k hk=>by cases hk⟩ ?_ ?_
  ·rintro i d ρ hd ⟨W,s6,rfl,hW,hk⟩;obtain⟨y,hy,rfl⟩:=BM hd;have aY:=(AW hL).mp (zb8.mp (zI hy));have et:L.reverse.take (i+1)=L.reverse.take i++[y]:=by rw[za4,hy];rfl
   have hD:∀z∈L.reverse.take i,0<=z/\z<(m:Int):=λ z hz=>(AW hL).mp (zb8.mp (zae hz));have nu:=Np C p (L.reverse.take i);rw[zaf,zao] at nu;have zf:W.length<=20:=by
    have:=congrArg List.length hW;rw[zu] at this;omega
   have tu:∀k∈W,(0<=k.1/\k.1<m)/\k.2.length=m:=λ k h=>⟨hD _ (Fh C p _ _ (by rw[<-hW];exact List.mem_map_of_mem h)),(hk k h).1⟩;refine⟨_,rfl,?_⟩;have x1:AR (.lst (T.map cst)) (.int y)=.ok (cst (C p y)):=by rw[<-t1 y aY.1 aY.2];exact Ce aY.1 (by omega)
   rw[et,E7];cases hc:C p y with
   |none =>
    rw[hc] at x1;have aN:Bq (cst none)=true:=rfl;rw[US hc,if_neg (by decide),zV];exact B4 (ρ':=[some (.val (AG m rs L A K)),some (.val (.int p)),some (.val (.F3 x)),some (.val (.lst (T.map cst))),some (.own ((AB C p (L.reverse.take i)).map (He C p))),some (XM W),some (.val (.int y))]) (by simp_arith[QX,x1,aN];try rfl) ⟨W,_,rfl,hW,hk⟩
   |some c =>
    have ae:C p y≠none:=by rw[hc];exact λ z=>by cases z
    rw[hc] at x1;have aN:Bq (cst (some c))=false:=rfl;have im:=Rl m T W y (by omega) l1 (by omega) tu aY.1 aY.2;have wP:(W.any λ k=>decide (Aj (atC T k.1) (atC k.2 y)=atC T y))=(L.reverse.take i).any λ z=>decide (Aj (C p z) (C z y)=C p y):=by
     rw[<-XH hC ⟨by omega,by omega⟩ aY hD ae,<-hW,List.any_map];refine pZ λ k h=>?_;obtain⟨⟨a,b⟩,_⟩:=tu k h;rw[Function.comp,t1 k.1 a b,t1 y aY.1 aY.2,(hk k h).2 y aY.1 aY.2]
    rw[wP] at im;rw[Nq ae];cases hz:(L.reverse.take i).any λ z=>decide (Aj (C p z) (C z y)=C p y) with
    |true =>
     rw[hz] at im;rw[Bool.not_true,if_neg (by decide),zV];exact B4 (ρ':=[some (.val (AG m rs L A K)),some (.val (.int p)),some (.val (.F3 x)),some (.val (.lst (T.map cst))),some (.own ((AB C p (L.reverse.take i)).map (He C p))),some (XM W),some (.val (.int y))]) (by simp_arith[QX,x1,aN,im,Gk];try rfl) ⟨W,_,rfl,hW,hk⟩
    |false =>
     rw[hz] at im;rw[Bool.not_false,if_pos rfl];obtain⟨U,g2,l2,t2⟩:=hG y aY.1 aY.2;have aH:((AB C p (L.reverse.take i)).map (He C p)).length<1000:=by rw[zu];omega
     have ia:(W.map kD).length<1000:=by rw[zu];omega
     have eh:He C p y=.tup [.int y,cst (some c)]:=by unfold He;rw[hc]
     have ek:OT.tup [.sh (.int y),.lst ((U.map cst).map .sh)]=kD (y,U):=rfl;refine B4 (ρ':=[some (.val (AG m rs L A K)),some (.val (.int p)),some (.val (.F3 x)),some (.val (.lst (T.map cst))),some (.own ((AB C p (L.reverse.take i)++[y]).map (He C p))),some (XM (W++[(y,U)])),some (.val (.int y))]) (by
      rw[zK,List.map_singleton,eh];simp_arith[QX,x1,aN,im,Gk,if_pos aH,if_true,Z8];simp_arith[kE,dG,g2,ek,if_pos ia,kF];try rfl) ⟨_,_,rfl,by rw[zK,hW];rfl,λ k h=>?_⟩
     rcases zJ.mp h with h|h
     ·exact hk k h
     ·rw[zy.mp h];exact⟨l2,t2⟩
  ·rintro ρ ⟨W,s6,rfl,_,_⟩;have e:L.reverse.take (L.reverse.map D.int).length=L.reverse:=by rw[zu,za5]
   rw[e];exact⟨_,_,rfl⟩
 ·rintro ρ ⟨s5,s6,rfl⟩;exact⟨_,rfl,rfl⟩
abbrev PV:List D->M OT:=z3 Ht
def LN:Txt K mg->BB P w K mg base "label_by" 6 3 PV:=(zt Ht).1
def LO:∀(m:Nat) (rs:List Road) (L:List Int) (A:LA) (K:List (Int×Int)) (C:Int->Int->Co) (p:Nat) (x:Str),BO m rs L A K->Yg m C->p<m->(∀s:Int,0<=s->s<m->∃T:List Co,(XJ) "costs_out" (FO) "costs_in" (Ig) (.ok [AG m rs L A K,.int s]) (.F3 x)=.ok (.lst ((T.map cst).map .sh))/\T.length=m/\∀w:Int,0<=w->w<m->atC T w=C s w)->PV [AG m rs L A K,.int p,.F3 x]=.ok (.lst (((AB C p L.reverse).map (He C p)).map .sh)):=(zt Ht).2
def FR:∃F:List D->M OT,(∀ {P w K mg base},Txt K mg->BB P w K mg base "label_out" 7 2 F)/\(∀(m:Nat) (rs:List Road) (L:List Int) (A:LA) (K:List (Int×Int)) (c:Int->Int->Co) (p:Nat),BO m rs L A K->(∀x y:Int,0<=x->x<m->0<=y->y<m->BN rs x y (c x y))->p<m->F [AG m rs L A K,.int p]=.ok (.lst (((AB c p L.reverse).map (He c p)).map .sh))):=by
 refine⟨_,λ T=>Aw (k:=6) T.Te R6 _ (λ f B7 A outer s H E hr=>(A5 (Ak (Ab A8.toXCall (LN T) (hr.mono (by decide)) rfl (A2 (A1 0 (pv 0)) (A2 (A1 1 (pv 1)) (A2 (dB T.Hk rfl) A6))) rfl)))),?_⟩;intro m rs L A K c p ok hA hp;have h:=LO m rs L A K c p "costs_out" ok (QY hA) hp λ s h0 h1=>by
  obtain⟨s',rfl⟩:∃s':Nat,(s':Int)=s:=⟨s.toNat,by omega⟩;obtain⟨T,g1,l1,t1⟩:=Rj m rs L A K s' ok (by omega);exact⟨T,g1,l1,λ w a b=>(t1 w a b).Cj (hA _ _ h0 h1 a b)⟩
 have e0:AE ["ladder","place"] [AG m rs L A K,.int p]=[some (.val (AG m rs L A K)),some (.val (.int p))]:=rfl;rw[e0];refine Bb ?_;simp_arith[h];exact⟨_,rfl,rfl⟩
abbrev NR:List D->M OT:=z3 FR
def Rm:Txt K mg->BB P w K mg base "label_out" 7 2 NR:=(zt FR).1
def Ro:∀(m:Nat) (rs:List Road) (L:List Int) (A:LA) (K:List (Int×Int)) (c:Int->Int->Co) (p:Nat),BO m rs L A K->(∀x y:Int,0<=x->x<m->0<=y->y<m->BN rs x y (c x y))->p<m->NR [AG m rs L A K,.int p]=.ok (.lst (((AB c p L.reverse).map (He c p)).map .sh)):=(zt FR).2
def EZ:∃F:List D->M OT,(∀ {P w K mg base},Txt K mg->BB P w K mg base "label_into" 7 2 F)/\(∀(m:Nat) (rs:List Road) (L:List Int) (A:LA) (K:List (Int×Int)) (c:Int->Int->Co) (p:Nat),BO m rs L A K->(∀x y:Int,0<=x->x<m->0<=y->y<m->BN rs x y (c x y))->p<m->F [AG m rs L A K,.int p]=.ok (.lst (((AB (λ x y=>c y x) p L.reverse).map (He (λ x y=>c y x) p)).map .sh))):=by
 refine⟨_,λ T=>Aw (k:=6) T.Rf Ol _ (λ f B7 A outer s H E hr=>(A5 (Ak (Ab A8.toXCall (LN T) (hr.mono (by decide)) rfl (A2 (A1 0 (pv 0)) (A2 (A1 1 (pv 1)) (A2 (dB T.J8 rfl) A6))) rfl)))),?_⟩;intro m rs L A K c p ok hA hp;have h:=LO m rs L A K (λ x y=>c y x) p "costs_in" ok (QY hA).turn hp λ s h0 h1=>by
  obtain⟨s',rfl⟩:∃s':Nat,(s':Int)=s:=⟨s.toNat,by omega⟩;obtain⟨T,g1,l1,t1⟩:=Tx m rs L A K s' ok (by omega);exact⟨T,g1,l1,λ w a b=>(t1 w a b).Cj (hA _ _ a b h0 h1)⟩
 have e0:AE ["ladder","place"] [AG m rs L A K,.int p]=[some (.val (AG m rs L A K)),some (.val (.int p))]:=rfl;rw[e0];refine Bb ?_;simp_arith[h];exact⟨_,rfl,rfl⟩
abbrev LP:List D->M OT:=z3 EZ
def Oz:Txt K mg->BB P w K mg base "label_into" 7 2 LP:=(zt EZ).1
def OA:∀(m:Nat) (rs:List Road) (L:List Int) (A:LA) (K:List (Int×Int)) (c:Int->Int->Co) (p:Nat),BO m rs L A K->(∀x y:Int,0<=x->x<m->0<=y->y<m->BN rs x y (c x y))->p<m->LP [AG m rs L A K,.int p]=.ok (.lst (((AB (λ x y=>c y x) p L.reverse).map (He (λ x y=>c y x) p)).map .sh)):=(zt EZ).2
def Vd:∃F:List D->M OT,(∀ {P w K mg base},Txt K mg->BB P w K mg base "met" 2 2 F)/\(∀(R1 R2:RA),(R2.map zX).Nodup->R1.length<=900->R2.length<=900->F [.lst (R1.map BS),.lst (R2.map BS)]=.ok (.sh (DC ((Bj R1 R2).foldl O5 none)))):=by
 refine⟨_,λ T=>Aw (k:=1) T.uK J5 _ (λ f B7 A outer s H E hr=>(A3 (AJ 2 J5.nd rfl (Or.inr rfl) (Ag (dA rfl rfl T.V6 (A1 1 (pv 1))))) (A3 (Qq (NB:=["hub","cost","costs"]) 3 [none,none,some 2] J5.nd rfl (za1 rfl) rfl (AU (A1 0 (pv 0))) rfl rfl (Mb (n:=2) rfl (CM 0 (by decide) rfl rfl rfl (CM 1 (by decide) rfl rfl rfl JD))) (λ _ _ _ _=>Fy (KS (c:=true) (AM hr 16 (by decide)) (A1 0 (pv 0)) (A1 2 (pv 2)))) (λ _ _ _ _=>(AD (A2 (Ag (Br (Ab (B5 rfl).toXCall (Fn T) (hr.mono (by decide)) rfl (A2 (A1 1 (pv 1)) (A2 (Aa (AM hr 16 (by decide)) (A1 2 (pv 2)) (A1 0 (pv 0))) A6)) rfl))) (A2 (A1 0 (pv 0)) A6))))) (A3 (AJ 4 J5.nd rfl (za1 rfl) CQ) (A3 (Bf A8.toXCall.own rfl (AU (A1 3 (pv 3))) (Qp (n:=2) rfl (Dv (AK 5 J5.nd rfl (za1 rfl)) (Dv (AK 6 J5.nd rfl (za1 rfl)) M5))) (A5 (Ba (DW.dt (Ec (GD (c:=true) (A1 4 (pv 4))) (Dc (ZM (c:=true) (AM hr 16 (by decide)) (A1 5 (pv 5)) (Aa (AM hr 16 (by decide)) (A1 4 (pv 4)) A7))))) (A5 (AJ 4 J5.nd rfl (za1 rfl) (AD (A2 (A1 5 (pv 5)) (A2 (A1 6 (pv 6)) A6))))) As))) (A5 (Ak (AX (A1 4 (pv 4)))))))))),?_⟩;intro R1 R2 hn h1 h2;have e0:AE ["out","into","costs","sums","best","cost","hub"] [.lst (R1.map BS),.lst (R2.map BS)]=[some (.val (.lst (R1.map BS))),some (.val (.lst (R2.map BS))),none,none,none,none,none]:=rfl;rw[e0];refine Bb ?_;have hd:cZ (.lst (R2.map BS))=.ok (Ye R2):=pV hn (by omega);have hl:(R1.map BS).length<=1000:=by rw[zu];omega
 have zg:=XN R1 R2;apply wp_step
 ·simp_arith[hd];rfl
 try simp only[zC,z5]
 refine wp_step (ρ':=[some (.val (.lst (R1.map BS))),some (.val (.lst (R2.map BS))),some (.val (SQ R2)),some (.val (.lst ((Bj R1 R2).map L6))),none,none,none]) (by
  simp_arith[if_pos hl];rw[CD (λ kv:Int×(Int×Int)=>(Ay R2 kv.1).isSome) (λ kv=>D.tup [cst (Aj (some kv.2) (Ay R2 kv.1)),.int kv.1]) (λ kv hk=>⟨_,rfl,by
   have hm:=cP R2 kv.1 false;simp_arith[hm];try rfl,λ hs=>by
   obtain⟨c,hc⟩:=zbl.mp hs;have hi:=cQ hc;have di:=Fo (some kv.2) (some c);rw[hc];simp_arith[hi,di]⟩),Nr]
  simp_arith[];try rfl) ?_
 apply wp_step
 ·rfl
 try simp only[zC,z5]
 refine BL (I:=λ ρ=>∃s5 s6:Option Cl,ρ=[some (.val (.lst (R1.map BS))),some (.val (.lst (R2.map BS))),some (.val (SQ R2)),some (.val (.lst ((Bj R1 R2).map L6))),some (.val (DC ((Bj R1 R2).foldl O5 none))),s5,s6]) ?_ ?_
 ·simp_arith[];refine Bh (λ i ρ=>∃s5 s6:Option Cl,ρ=[some (.val (.lst (R1.map BS))),some (.val (.lst (R2.map BS))),some (.val (SQ R2)),some (.val (.lst ((Bj R1 R2).map L6))),some (.val (DC (((Bj R1 R2).take i).foldl O5 none))),s5,s6]) ⟨none,none,rfl⟩ ?_ ?_
  ·rintro i d ρ hd ⟨s5,s6,rfl⟩;rw[zU] at hd;obtain⟨x,hx,rfl⟩:=zaq.mp hd;have et:(Bj R1 R2).take (i+1)=(Bj R1 R2).take i++[x]:=by rw[za4,hx];rfl
   refine⟨_,rfl,?_⟩;rw[et,zc7,zP,List.foldl_nil];obtain⟨b,hb⟩:∃b,b=((Bj R1 R2).take i).foldl O5 none:=⟨_,rfl⟩;rw[<-hb];cases b with
   |none =>
    have aN:Bq (DC none)=true:=rfl;exact B4 (ρ':=[some (.val (.lst (R1.map BS))),some (.val (.lst (R2.map BS))),some (.val (SQ R2)),some (.val (.lst ((Bj R1 R2).map L6))),some (.val (DC (some x))),some (.val (cst (some x.1))),some (.val (.int x.2))]) (by simp_arith[aN];try rfl) ⟨_,_,rfl⟩
   |some y =>
    have aN:Bq (DC (some y))=false:=rfl;have h0:AR (DC (some y)) (.int 0)=.ok (cst (some y.1)):=rfl;have hx:=uF x.1 y.1;by_cases hc:x.1.1<y.1.1\/(x.1.1=y.1.1/\x.1.2<y.1.2)
    ·have e:O5 (some y) x=some x:=if_pos hc;rw[decide_eq_true hc] at hx;rw[e];exact B4 (ρ':=[some (.val (.lst (R1.map BS))),some (.val (.lst (R2.map BS))),some (.val (SQ R2)),some (.val (.lst ((Bj R1 R2).map L6))),some (.val (DC (some x))),some (.val (cst (some x.1))),some (.val (.int x.2))]) (by simp_arith[aN,h0,hx];try rfl) ⟨_,_,rfl⟩
    ·have e:O5 (some y) x=some y:=if_neg hc;rw[decide_eq_false hc] at hx;rw[e];exact B4 (ρ':=[some (.val (.lst (R1.map BS))),some (.val (.lst (R2.map BS))),some (.val (SQ R2)),some (.val (.lst ((Bj R1 R2).map L6))),some (.val (DC (some y))),some (.val (cst (some x.1))),some (.val (.int x.2))]) (by simp_arith[aN,h0,hx];try rfl) ⟨_,_,rfl⟩
  ·rintro ρ ⟨s5,s6,rfl⟩;rw[zbw (by rw[zu];exact zF _)];exact⟨_,_,rfl⟩
 ·rintro ρ ⟨s5,s6,rfl⟩;rfl
abbrev uN:List D->M OT:=z3 Vd
def qE:Txt K mg->BB P w K mg base "met" 2 2 uN:=(zt Vd).1
def qG:∀(R1 R2:RA),(R2.map zX).Nodup->R1.length<=900->R2.length<=900->uN [.lst (R1.map BS),.lst (R2.map BS)]=.ok (.sh (DC ((Bj R1 R2).foldl O5 none))):=(zt Vd).2
def Et:∃F:List D->M OT,(∀ {P w K mg base},Txt K mg->BB P w K mg base "cost_so_far" 1 2 F)/\(∀(A:LA) (p:Int×Int),F [Lp A,pD p]=.ok (.sh (cst (Al A p)))):=by
 refine⟨_,λ T=>Aw (k:=0) T.Om Nv _ (λ f B7 A outer s H E hr=>(A3 (Ba (M8 (c:=true) (AM hr 16 (by decide)) (A1 1 (pv 1)) (A1 0 (pv 0))) (A5 (Ak (AX CQ))) As) (A5 (Ak (AX (Aa (AM hr 16 (by decide)) (Aa (AM hr 16 (by decide)) (A1 0 (pv 0)) (A1 1 (pv 1))) A7)))))),?_⟩;intro A p;have e0:AE ["laid","pair"] [Lp A,pD p]=[some (.val (Lp A)),some (.val (pD p))]:=rfl;rw[e0];refine Bb ?_;have hm:=QR A p true;unfold Al;cases q:Ay A p with
 |none =>
  rw[q] at hm;simp_arith[hm,Gk];rfl
 |some v =>
  rw[q] at hm;have hi:=QS q;have h0:AR (XC v) (.int 0)=.ok (cst (some v.1)):=rfl;apply wp_step
  ·simp_arith[hm,Gk];rfl
  simp_arith[hi,h0];rfl
abbrev Ks:List D->M OT:=z3 Et
def Hu:Txt K mg->BB P w K mg base "cost_so_far" 1 2 Ks:=(zt Et).1
def Hv:∀(A:LA) (p:Int×Int),Ks [Lp A,pD p]=.ok (.sh (cst (Al A p))):=(zt Et).2
def Ve:∃F:OT->List D->M (OT×OT),(∀ {P w K mg base},Txt K mg->Pf P w K mg base "lay" 1 4 F)/\(∀(A:LA) (p:Int×Int) (c:Co) (mid:Option Int),A.length<1000->F (Jf A) [pD p,cst c,GW mid]=.ok (Jf (layA A p c mid),.sh .AL)):=by
 refine⟨_,λ T=>Sk (k:=0) T.uL qD _ (λ f B7 A outer s H E hr=>(A5 (Ba (IW (DW.dt (Fw (HD (c:=true) (A1 2 (pv 2))) (Fv (DW.dt (Ec (M8 (c:=true) (AM hr 16 (by decide)) (A1 1 (pv 1)) (A1 0 (pv 0))) (Dc (ZM (c:=true) (AM hr 16 (by decide)) (A1 2 (pv 2)) (Aa (AM hr 16 (by decide)) (Aa (AM hr 16 (by decide)) (A1 0 (pv 0)) (A1 1 (pv 1))) A7))))))))) (A5 (Ma (AM hr 16 (by decide)) (BV 0 (pv 0)) (A1 1 (pv 1)) (AD (A2 (A1 2 (pv 2)) (A2 (A1 3 (pv 3)) A6))))) As))),?_⟩;intro A p c mid hA;have e0:D4 ["laid","pair","cost","middle"] (Jf A) [pD p,cst c,GW mid]=[some (.ow (.tree (some 0) (Jf A))),some (.val (pD p)),some (.val (cst c)),some (.val (GW mid))]:=rfl;rw[e0];refine UO ?_;have hm:=QR A p true;have tw:∀c:Int×Int,D.tup [cst (some c),GW mid]=XC (c,mid):=λ c=>rfl;have hl:(A.map λ kv=>pD kv.1).length<1000:=by rw[zu];exact hA
 have iw:keyOk true (pD p)=true:=rfl;have af:∀v,(List.map (λ kv=>pD kv.1) (Dh A p v))=(List.map (λ kv=>pD kv.1) (Dh A p v)):=λ _=>rfl;cases c with
 |none =>
  refine B4 (ρ':=_) (by simp_arith[cst,Bq];rfl) ⟨rfl,rfl⟩
 |some c =>
  have aN:Bq (cst (some c))=false:=rfl;cases q:Ay A p with
  |none =>
   rw[q] at hm;have el:layA A p (some c) mid=Dh A p (c,mid):=by unfold layA;dsimp only;rw[q]
   rw[el];refine B4 (ρ':=[some (.ow (.tree (some 0) (Jf (Dh A p (c,mid))))),some (.val (pD p)),some (.val (cst (some c))),some (.val (GW mid))]) (by
    simp_arith[aN,hm,Gk,E6,tw,if_pos (And.intro iw hl),cS,iw,hl,and_self,if_true];rfl) ⟨rfl,rfl⟩
  |some z =>
   rw[q] at hm;have hi:=QS q;have h0:AR (XC z) (.int 0)=.ok (cst (some z.1)):=rfl;have hx:=uF c z.1;by_cases hc:c.1<z.1.1\/(c.1=z.1.1/\c.2<z.1.2)
   ·have el:layA A p (some c) mid=Dh A p (c,mid):=by unfold layA;dsimp only;rw[q];dsimp only;rw[if_pos hc]
    rw[decide_eq_true hc] at hx;rw[el];refine B4 (ρ':=[some (.ow (.tree (some 0) (Jf (Dh A p (c,mid))))),some (.val (pD p)),some (.val (cst (some c))),some (.val (GW mid))]) (by
     simp_arith[aN,hm,hi,h0,hx,Gk,E6,tw,if_pos (And.intro iw hl),cS,iw,hl,and_self,if_true];rfl) ⟨rfl,rfl⟩
   ·have el:layA A p (some c) mid=A:=by unfold layA;dsimp only;rw[q];dsimp only;rw[if_neg hc]
    rw[decide_eq_false hc] at hx;rw[el];refine B4 (ρ':=_) (by simp_arith[aN,hm,hi,h0,hx,Gk];rfl) ⟨rfl,rfl⟩
abbrev uO:OT->List D->M (OT×OT):=z3 Ve
def dY:Txt K mg->Pf P w K mg base "lay" 1 4 uO:=(zt Ve).1
def dZ:∀(A:LA) (p:Int×Int) (c:Co) (mid:Option Int),A.length<1000->uO (Jf A) [pD p,cst c,GW mid]=.ok (Jf (layA A p c mid),.sh .AL):=(zt Ve).2
def Hw:∃F:OT->List D->M (OT×OT),(∀ {P w K mg base},Txt K mg->Pf P w K mg base "lay_over" 2 3 F)/\(∀(m:Nat) (A:LA) (p:Int) (H:List Int),m<=20->Fp m A->(∀x∈H,0<=x/\x<m)->F (Jf A) [.int p,.lst (H.map D.int)]=.ok (Jf (pG A p H),.sh .AL)):=by
 refine⟨_,λ T=>Sk (k:=1) T.V0 EL _ (λ f B7 A outer s H E hr=>(A5 (Bf A8.toXCall.own rfl (AU (A1 2 (pv 2))) (AK 3 EL.nd rfl (za1 rfl)) (A5 (Bf A8.toXCall.own rfl (AU (A1 2 (pv 2))) (AK 4 EL.nd rfl (za1 rfl)) (A5 (Ba (Io (c:=true) (AM hr 16 (by decide)) (A1 3 (pv 3)) (A1 4 (pv 4))) (A3 (AJ 5 EL.nd rfl (za1 rfl) (Ag (Eg (Ab A8.toXCall (Fn T) (hr.mono (by decide)) rfl (A2 (Ag (Ab A8.toXCall (Hu T) (hr.mono (by decide)) rfl (A2 (A1 0 (pv 0)) (A2 (AD (A2 (A1 3 (pv 3)) (A2 (A1 1 (pv 1)) A6))) A6)) rfl)) (A2 (Ag (Ab A8.toXCall (Hu T) (hr.mono (by decide)) rfl (A2 (A1 0 (pv 0)) (A2 (AD (A2 (A1 1 (pv 1)) (A2 (A1 4 (pv 4)) A6))) A6)) rfl)) A6)) rfl)))) (A5 (N3 (Zw A8.toXCall (dY T) (hr.mono (by decide)) rfl (BV 0 (pv 0)) (A2 (AD (A2 (A1 3 (pv 3)) (A2 (A1 4 (pv 4)) A6))) (A2 (A1 5 (pv 5)) (A2 (A1 1 (pv 1)) A6))) rfl)))) As))))))),?_⟩;intro m A p H hm hA hH;have e0:D4 ["laid","place","higher","u","w","cost"] (Jf A) [.int p,.lst (H.map D.int)]=[some (.ow (.tree (some 0) (Jf A))),some (.val (.int p)),some (.val (.lst (H.map D.int))),none,none,none]:=rfl;rw[e0];refine UO ?_;simp_arith[];refine Bh (λ i ρ=>∃s3 s4 s5:Option Cl,ρ=[some (.ow (.tree (some 0) (Jf ((H.take i).foldl (jV p H) A)))),some (.val (.int p)),some (.val (.lst (H.map D.int))),s3,s4,s5]) ⟨none,none,none,rfl⟩ ?_ ?_
 ·rintro i d ρ hd ⟨s3,s4,s5,rfl⟩;obtain⟨u,hu,rfl⟩:=BM hd;have qd:=hH u (zI hu);refine⟨_,rfl,?_⟩;obtain⟨B,hB⟩:∃B,B=(H.take i).foldl (jV p H) A:=⟨_,rfl⟩;have ib:Fp m B:=by rw[hB];exact Fp.lo hH hA λ x hx=>hH x (zae hx)
  rw[<-hB,Em hu,<-hB];simp_arith[];refine Bh (λ j ρ=>∃s4 s5:Option Cl,ρ=[some (.ow (.tree (some 0) (Jf ((H.take j).foldl (QK p u) B)))),some (.val (.int p)),some (.val (.lst (H.map D.int))),some (.val (.int u)),s4,s5]) ⟨s4,s5,rfl⟩ ?_ ?_
  ·rintro j d ρ hd ⟨s4,s5,rfl⟩;obtain⟨w,hw,rfl⟩:=BM hd;have zh:=hH w (zI hw);refine⟨_,rfl,?_⟩;obtain⟨C,hC⟩:∃C,C=(H.take j).foldl (QK p u) B:=⟨_,rfl⟩;have qm:Fp m C:=by rw[hC];exact Fp.ou qd ib λ x hx=>hH x (zae hx)
   rw[Em hw,<-hC];by_cases e:u=w
   ·have ev:QK p u C w=C:=by unfold QK;rw[if_pos e]
    rw[ev];refine B4 (ρ':=_) (by simp_arith[decide_eq_true e];rfl) ⟨_,_,rfl⟩
   ·have ev:QK p u C w=layA C (u,w) (Aj (Al C (u,p)) (Al C (p,w))) (some p):=by unfold QK;rw[if_neg e]
    rw[ev];have h1:=Hv C (u,p);have h2:=Hv C (p,w);have h3:=Fo (Al C (u,p)) (Al C (p,w));have h4:=dZ C (u,w) (Aj (Al C (u,p)) (Al C (p,w))) (some p) (qm.len hm);have t1:∀a b:Int,D.tup [.int a,.int b]=pD (a,b):=λ a b=>rfl;have t2:GW (some p)=.int p:=rfl;rw[t2] at h4;have h5:=L3 (ρ:=[some (.ow (.tree (some 0) (Jf C))),some (.val (.int p)),some (.val (.lst (H.map D.int))),some (.val (.int u)),some (.val (.int w)),some (.val (cst (Aj (Al C (u,p)) (Al C (p,w)))))]) (i:=0) rfl rfl h4;simp_arith[decide_eq_false e,if_true];apply wp_step
    ·simp_arith[t1,h1,h2,h3];rfl
    refine B4 (ρ':=_) (by simp_arith[t1,h5];rfl) ⟨_,_,rfl⟩
  ·rintro ρ ⟨s4,s5,rfl⟩;rw[zu,za5];exact⟨_,s4,s5,rfl⟩
 ·rintro ρ ⟨s3,s4,s5,rfl⟩;rw[zu,za5];exact⟨rfl,trivial⟩
abbrev PX:OT->List D->M (OT×OT):=z3 Hw
def Tz:Txt K mg->Pf P w K mg base "lay_over" 2 3 PX:=(zt Hw).1
def TB:∀(m:Nat) (A:LA) (p:Int) (H:List Int),m<=20->Fp m A->(∀x∈H,0<=x/\x<m)->PX (Jf A) [.int p,.lst (H.map D.int)]=.ok (Jf (pG A p H),.sh .AL):=(zt Hw).2
def FT:∃F:List D->M OT,(∀ {P w K mg base},Txt K mg->BB P w K mg base "laid_arcs" 3 2 F)/\(∀(m:Nat) (rs:List Road) (L:List Int),m<=20->L.Perm (B3 m)->(∀r∈rs,GX m r/\r.a≠r.b)->F [Aq m rs,.lst (L.map D.int)]=.ok (Jf (BY rs L))):=by
 refine⟨_,λ T=>Aw (k:=2) T.Tf CV _ (λ f B7 A outer s H E hr=>(A3 (Bw 2 CV.nd rfl (za1 rfl) (Sn true)) (A3 (Bf A8.toXCall.own rfl (AU (Aa (AM hr 16 (by decide)) (A1 0 (pv 0)) A7)) (AK 3 CV.nd rfl (za1 rfl)) (A5 (N3 (Zw A8.toXCall (dY T) (hr.mono (by decide)) rfl (BV 2 (pv 2)) (A2 (AD (A2 (Aa (AM hr 16 (by decide)) (A1 3 (pv 3)) A7) (A2 (Aa (AM hr 16 (by decide)) (A1 3 (pv 3)) A7) A6))) (A2 (Ag (Ab A8.toXCall (FK T) (hr.mono (by decide)) rfl (A2 (A1 3 (pv 3)) A6) rfl)) (A2 CQ A6))) rfl)))) (A3 (Bf A8.toXCall.own rfl (VF rfl T.LI (A1 1 (pv 1))) (Qp (n:=2) rfl (Dv (AK 4 CV.nd rfl (za1 rfl)) (Dv (AK 5 CV.nd rfl (za1 rfl)) M5))) (A5 (N3 (Zw A8.toXCall (Tz T) (hr.mono (by decide)) rfl (BV 2 (pv 2)) (A2 (A1 5 (pv 5)) (A2 (Ag (N4 (A1 1 (pv 1)) (M4 (BU (A1 4 (pv 4)) A7)) VE)) A6)) rfl)))) (A5 (Cv 2 (pv 2))))))),?_⟩;intro m rs L hm hL Ar;have e0:AE ["net","order","laid","road","rank","place"] [Aq m rs,.lst (L.map D.int)]=[some (.val (Aq m rs)),some (.val (.lst (L.map D.int))),none,none,none,none]:=rfl;rw[e0];refine Bb ?_;have n1:AR (Aq m rs) (.int 1)=.ok (.lst (rs.map Bs)):=rfl;apply wp_step
 ·rfl
 try simp only[zC,z5]
 have ic:∀i,i<=rs.length->Fp m ((rs.take i).foldl (λ A r=>layA A (r.a,r.b) (Cd r) none) []):=λ i hi=>by
  have:=(QL (m:=m) (rs:=rs.take i) λ r hr=>Ar r (zae hr)).1;exact this
 refine BL (I:=λ ρ=>∃s3 s4 s5:Option Cl,ρ=[some (.val (Aq m rs)),some (.val (.lst (L.map D.int))),some (.ow (.tree none (Jf (lay0 rs)))),s3,s4,s5]) ?_ ?_
 ·simp_arith[n1];refine Bh (λ i ρ=>i<=rs.length/\∃s3 s4 s5:Option Cl,ρ=[some (.val (Aq m rs)),some (.val (.lst (L.map D.int))),some (.ow (.tree none (Jf ((rs.take i).foldl (λ A r=>layA A (r.a,r.b) (Cd r) none) [])))),s3,s4,s5]) ⟨za6 _,none,none,none,rfl⟩ ?_ ?_
  ·rintro i d ρ hd ⟨hi,s3,s4,s5,rfl⟩;obtain⟨r,hr,rfl⟩:=BM hd;have af:=(zG.mp hr).1;refine⟨_,rfl,?_⟩;rw[Em hr];obtain⟨B,hB⟩:∃B,B=(rs.take i).foldl (λ A r=>layA A (r.a,r.b) (Cd r) none) []:=⟨_,rfl⟩;have ib:Fp m B:=by rw[hB];exact ic i hi
   rw[<-hB];have i0:AR (Bs r) (.int 0)=.ok (.int r.a):=rfl;have i1:AR (Bs r) (.int 1)=.ok (.int r.b):=rfl;have h1:=FL r;have h2:=dZ B (r.a,r.b) (Cd r) none (ib.len hm);have t1:∀a b:Int,D.tup [.int a,.int b]=pD (a,b):=λ a b=>rfl;have t2:GW none=.AL:=rfl;rw[t2] at h2;have h5:=L3 (ρ:=[some (.val (Aq m rs)),some (.val (.lst (L.map D.int))),some (.ow (.tree none (Jf B))),some (.val (Bs r)),s4,s5]) (i:=2) rfl rfl h2;refine B4 (ρ':=_) (by simp_arith[i0,i1,h1,t1,h5];rfl) ⟨af,_,_,_,rfl⟩
  ·rintro ρ ⟨_,s3,s4,s5,rfl⟩;rw[zu,za5];exact⟨s3,s4,s5,rfl⟩
 ·rintro ρ ⟨s3,s4,s5,rfl⟩;have j3:=QL Ar;refine BL (I:=λ ρ=>∃s3 s4 s5:Option Cl,ρ=[some (.val (Aq m rs)),some (.val (.lst (L.map D.int))),some (.ow (.tree none (Jf (BY rs L)))),s3,s4,s5]) ?_ ?_
  ·simp_arith[];refine Bh (λ i ρ=>i<=L.length/\∃(G:LA) (s3 s4 s5:Option Cl),ρ=[some (.val (Aq m rs)),some (.val (.lst (L.map D.int))),some (.ow (.tree none (Jf G))),s3,s4,s5]/\Fp m G/\UL G (L.drop i)=UL (lay0 rs) L) ⟨za6 _,lay0 rs,s3,s4,s5,rfl,j3.1,rfl⟩ ?_ ?_
   ·rintro i d ρ hd ⟨hi,G,s3,s4,s5,rfl,hG,j5⟩;obtain⟨d',aB,rfl⟩:=KL hd;obtain⟨p,hp,rfl⟩:=BM aB;have af:=(zG.mp hp).1;rw[Nat.zero_add];refine⟨_,rfl,?_⟩;have bi:∀x∈L.drop (i+1),0<=x/\x<m:=λ x hx=>(AW hL).mp (List.mem_of_mem_drop hx);have ed:L.drop i=p::L.drop (i+1):=by
     rw[zbi af];rw[z4 af] at hp;rw[zT hp]
    rw[ed,UL] at j5;have h2:=TB m G p (L.drop (i+1)) hm hG bi;have sl:iF (some ((i:Int)+1)) none (.lst (L.map D.int))=.ok (.lst (((L.drop (i+1)).map D.int).map .sh)):=by rw[List.map_drop];exact Su _ (i+1)
    have h5:=L3 (ρ:=[some (.val (Aq m rs)),some (.val (.lst (L.map D.int))),some (.ow (.tree none (Jf G))),s3,some (.val (.int i)),some (.val (.int p))]) (i:=2) rfl rfl h2;refine B4 (ρ':=_) (by simp_arith[sl,h5];rfl) ⟨af,_,_,_,_,rfl,Fp.lo bi hG bi,j5⟩
   ·rintro ρ ⟨_,G,s3,s4,s5,rfl,hG,j5⟩;rw[HE,zu,List.drop_length,UL] at j5;exact⟨s3,s4,s5,by rw[j5];rfl⟩
  ·rintro ρ ⟨s3,s4,s5,rfl⟩;exact⟨_,rfl,rfl⟩
abbrev NS:List D->M OT:=z3 FT
def Rp:Txt K mg->BB P w K mg base "laid_arcs" 3 2 NS:=(zt FT).1
def Rq:∀(m:Nat) (rs:List Road) (L:List Int),m<=20->L.Perm (B3 m)->(∀r∈rs,GX m r/\r.a≠r.b)->NS [Aq m rs,.lst (L.map D.int)]=.ok (Jf (BY rs L)):=(zt FT).2
def Hx:∃F:List D->M OT,(∀ {P w K mg base},Txt K mg->BB P w K mg base "is_order" 2 2 F)/\(∀(m:Nat) (x:D) (L:List Int),m<=60->L.Perm (B3 m)->F [.tup [.int m,x],.lst (L.map .int)]=.ok (.sh (.bl true))):=by
 refine⟨_,λ T=>Aw (k:=1) T.V3 T7 _ (λ f B7 A outer s H E hr=>(A3 (Ba (DW.dt (Ec (CB (BW (c:=true) (EQ (OZ _) rfl T.B9 rfl T.En (by decide +kernel) (A1 1 (pv 1))))) (Dc (Io (c:=true) (AM hr 16 (by decide)) (Dd rfl T.Fm (A1 1 (pv 1))) (Aa (AM hr 16 (by decide)) (A1 0 (pv 0)) A7))))) (A5 (Ak (AX Du))) As) (A3 (Ba (CB (BW (c:=true) (Zd rfl rfl T.lV (Ag (CU (NB:=["place","net"]) [none,some 0] rfl (AU (A1 1 (pv 1))) rfl rfl (Ca 0 (by decide) rfl rfl rfl) (λ _ _ _ _=>EG) (λ _ _ _ _=>(Ag (Br (Ab (B5 rfl).toXCall (B1 T) (hr.mono (by decide)) rfl (A2 (A1 0 (pv 0)) (A2 (Aa (AM hr 16 (by decide)) (A1 1 (pv 1)) A7) A6)) rfl))))))))) (A5 (Ak (AX Du))) As) (A5 (Ak (AX (YZ (AM hr 16 (by decide)) (Ag (Xm rfl rfl T.dU (A1 1 (pv 1)))) (Ag (JC rfl rfl T.En rfl T.Cw (Aa (AM hr 16 (by decide)) (A1 0 (pv 0)) A7)))))))))),?_⟩;intro m x L hm hL;have e0:AE ["net","thing"] [.tup [.int m,x],.lst (L.map .int)]=[some (.val (.tup [.int m,x])),some (.val (.lst (L.map .int)))]:=rfl;rw[e0];have n0:AR (.tup [.int m,x]) (.int 0)=.ok (.int m):=rfl;refine Bb ?_;have hlen:=Ff hL;have h1:decide (((L.map D.int).length:Int)=(m:Int))=true:=decide_eq_true (by rw[zu];omega);have hl:(L.map D.int).length<=1000:=by rw[zu];omega
 have hs:=Xl (ns:=L) (by omega);have h3:=Qx (n:=m) (by omega);rw[Ng] at h3;have e:decide (GR L=B3 m)=true:=decide_eq_true (XA.mpr hL);apply wp_step
 ·simp_arith[n0,h1];rfl
 apply wp_step
 ·simp_arith[if_pos hl];rw[Cb (λ _:Int=>D.bl true) (λ j hj=>⟨_,rfl,rfl,by
   have zi:=H9.mp (hL.mem_iff.mp hj);have:=B2 j m (by omega) (by omega);simp_arith[n0,this]⟩)]
  simp_arith[uH];rfl
 simp_arith[n0,hs,h3,cE,e];rfl
abbrev PY:List D->M OT:=z3 Hx
def TC:Txt K mg->BB P w K mg base "is_order" 2 2 PY:=(zt Hx).1
def TF:∀(m:Nat) (x:D) (L:List Int),m<=60->L.Perm (B3 m)->PY [.tup [.int m,x],.lst (L.map .int)]=.ok (.sh (.bl true)):=(zt Hx).2
def Dk:∃F:List D->M OT,(∀ {P w K mg base},Txt K mg->BB P w K mg base "checked_order" 3 2 F)/\(∀(m:Nat) (x:D) (L:List Int),m<=60->L.Perm (B3 m)->F [.tup [.int m,x],.lst (L.map .int)]=.ok (.lst ((L.map D.int).map .sh))):=by
 refine⟨_,λ T=>Aw (k:=2) T.LZ L8 _ (λ f B7 A outer s H E hr=>(A3 (Ba (CB (BW (c:=true) (Ag (Ab A8.toXCall (TC T) (hr.mono (by decide)) rfl (A2 (A1 0 (pv 0)) (A2 (A1 1 (pv 1)) A6)) rfl)))) (A5 Us) As) (A5 (Ak (FD rfl T.En (A1 1 (pv 1))))))),?_⟩;intro m x L hm hL;have e0:AE ["net","thing"] [.tup [.int m,x],.lst (L.map .int)]=[some (.val (.tup [.int m,x])),some (.val (.lst (L.map .int)))]:=rfl;rw[e0];have h1:=TF m x L hm hL;refine Bb ?_;apply wp_step
 ·simp_arith[h1];rfl
 simp_arith[];exact⟨_,rfl,rfl⟩
abbrev Eu:List D->M OT:=z3 Dk
def Lb:Txt K mg->BB P w K mg base "checked_order" 3 2 Eu:=(zt Dk).1
def Lc:∀(m:Nat) (x:D) (L:List Int),m<=60->L.Perm (B3 m)->Eu [.tup [.int m,x],.lst (L.map .int)]=.ok (.lst ((L.map D.int).map .sh)):=(zt Dk).2
def F0:∃F:List D->M OT,(∀ {P w K mg base},Txt K mg->BB P w K mg base "first_bows" 2 1 F)/\(∀(m:Nat) (rs:List Road),m<=20->(∀r∈rs,GX m r/\r.a≠r.b)->F [Aq m rs]=.ok (.Bo true ((BJ rs).map pD) ((D5 (BJ rs)).map .sh))):=by
 refine⟨_,λ T=>Aw (k:=1) T.Rg EU _ (λ f B7 A outer s H E hr=>(A3 (Bw 1 EU.nd rfl (za1 rfl) (Sn true)) (A3 (Bf A8.toXCall.own rfl (AU (Aa (AM hr 16 (by decide)) (A1 0 (pv 0)) A7)) (AK 2 EU.nd rfl (za1 rfl)) (A5 (Ba (HD (c:=true) (Ag (Ab A8.toXCall (FK T) (hr.mono (by decide)) rfl (A2 (A1 2 (pv 2)) A6) rfl))) (A5 (Ma (AM hr 16 (by decide)) (BV 1 (pv 1)) (AD (A2 (Aa (AM hr 16 (by decide)) (A1 2 (pv 2)) A7) (A2 (Aa (AM hr 16 (by decide)) (A1 2 (pv 2)) A7) A6))) Du)) As))) (A5 (Cv 1 (pv 1)))))),?_⟩;intro m rs hm Ar;have e0:AE ["net","bows","road"] [Aq m rs]=[some (.val (Aq m rs)),none,none]:=rfl;rw[e0];refine Bb ?_;apply wp_step
 ·rfl
 have n1:AR (Aq m rs) (.int 1)=.ok (.lst (rs.map Bs)):=rfl;refine BL (I:=λ ρ=>∃s2,ρ=[some (.val (Aq m rs)),some (.ow (.tree none (.Bo true ((BJ rs).map pD) ((D5 (BJ rs)).map .sh)))),s2]) ?_ ?_
 ·simp_arith[n1];refine Bh (λ i ρ=>∃s2,ρ=[some (.val (Aq m rs)),some (.ow (.tree none (.Bo true ((BJ (rs.take i)).map pD) ((D5 (BJ (rs.take i))).map .sh)))),s2]) ⟨none,rfl⟩ ?_ ?_
  ·rintro i d ρ hd ⟨s2,rfl⟩;rw[zU] at hd;cases hq:rs[i]? with
   |none=>rw[hq] at hd;cases hd
   |some r =>
    rw[hq] at hd;cases hd;have hr:=zI hq;have et:rs.take (i+1)=rs.take i++[r]:=by rw[za4,hq];rfl
    have eb:BJ (rs.take (i+1))=(match r.l with|none=>BJ (rs.take i)|some _=>KY (BJ (rs.take i)) (r.a,r.b)):=by
     unfold BJ;rw[et,zc7];rfl
    have wS:=SK (m:=m) (rs:=rs.take i) λ r' h'=>Ar r' (zae h');have hlen:=wS.len hm;have h1:=FL r;refine⟨_,rfl,?_⟩;cases hl:r.l with
    |none =>
     have e1:Cd r=none:=by unfold Cd;rw[hl]
     rw[hl] at eb;rw[e1] at h1;simp_arith[h1,cst,Bq];exact⟨_,by rw[eb]⟩
    |some l =>
     have e1:Cd r=some (l,1):=by unfold Cd;rw[hl]
     rw[hl] at eb;rw[e1] at h1;have i0:AR (Bs r) (.int 0)=.ok (.int r.a):=rfl;have i1:AR (Bs r) (.int 1)=.ok (.int r.b):=rfl;have kk:keyOk true (D.tup [.int r.a,.int r.b])=true/\((BJ (rs.take i)).map pD).length<1000:=⟨rfl,by rw[zu];exact hlen⟩;have pp:putD ((BJ (rs.take i)).map pD) (D5 (BJ (rs.take i))) (D.tup [.int r.a,.int r.b]) (.bl true)=_:=Wl (BJ (rs.take i)) (r.a,r.b);simp_arith[h1,cst,Bq,Bool.not_false,if_true,i0,i1,if_pos kk,pp];exact⟨_,by rw[eb]⟩
  ·rintro ρ ⟨s2,rfl⟩;rw[zu,za5];exact⟨s2,rfl⟩
 ·rintro ρ ⟨s2,rfl⟩;exact⟨_,rfl,rfl⟩
abbrev LQ:List D->M OT:=z3 F0
def OB:Txt K mg->BB P w K mg base "first_bows" 2 1 LQ:=(zt F0).1
def OC:∀(m:Nat) (rs:List Road),m<=20->(∀r∈rs,GX m r/\r.a≠r.b)->LQ [Aq m rs]=.ok (.Bo true ((BJ rs).map pD) ((D5 (BJ rs)).map .sh)):=(zt F0).2
def DJ:∃F:List D->M OT,(∀ {P w K mg base},Txt K mg->BB P w K mg base "missing_bows" 1 3 F)/\(∀(B:List (Int×Int)) (vs:List D) (L:List Int) (v:Int),L.length<=30->F [.Bo true (B.map pD) vs,.lst (L.map .int),.int v]=.ok (.lst (((B8 B L v).map pD).map .sh))):=by
 refine⟨_,λ T=>Aw (k:=0) T.NG BZ _ (λ f B7 A outer s H E hr=>(A3 (Qq (NB:=["u","bows","place"]) 3 [none,some 0,some 2] BZ.nd rfl (za1 rfl) rfl (AU (A1 1 (pv 1))) rfl rfl (Ca 0 (by decide) rfl rfl rfl) (λ _ _ _ _=>Fy (KS (c:=true) (AM hr 16 (by decide)) (AD (A2 (A1 0 (pv 0)) (A2 (A1 2 (pv 2)) A6))) (A1 1 (pv 1)))) (λ _ _ _ _=>(A1 0 (pv 0)))) (A3 (Qq (NB:=["w","bows","place"]) 4 [none,some 0,some 2] BZ.nd rfl (za1 rfl) rfl (AU (A1 1 (pv 1))) rfl rfl (Ca 0 (by decide) rfl rfl rfl) (λ _ _ _ _=>Fy (KS (c:=true) (AM hr 16 (by decide)) (AD (A2 (A1 2 (pv 2)) (A2 (A1 0 (pv 0)) A6))) (A1 1 (pv 1)))) (λ _ _ _ _=>(A1 0 (pv 0)))) (A3 (Bw 5 BZ.nd rfl (za1 rfl) (FC CT)) (A3 (Bf A8.toXCall.own rfl (AU (A1 3 (pv 3))) (AK 6 BZ.nd rfl (Or.inr rfl)) (A5 (Zt (BV 5 (pv 5)) (by exact (CU (NB:=["w","u","bows"]) [none,some 6,some 0] rfl (AU (A1 4 (pv 4))) rfl rfl (Ca 0 (by decide) rfl rfl rfl) (λ _ _ _ _=>Fy (DW.dt (Fw (Io (c:=true) (AM hr 16 (by decide)) (A1 1 (pv 1)) (A1 0 (pv 0))) (Fv (M8 (c:=true) (AM hr 16 (by decide)) (AD (A2 (A1 1 (pv 1)) (A2 (A1 0 (pv 0)) A6))) (A1 2 (pv 2))))))) (λ _ _ _ _=>(AD (A2 (A1 1 (pv 1)) (A2 (A1 0 (pv 0)) A6))))))))) (A5 (Cv 5 (pv 5)))))))),?_⟩;intro B vs L v hl;have e0:AE ["bows","left","place","ahead","behind","missing","u"] [.Bo true (B.map pD) vs,.lst (L.map .int),.int v]=[some (.val (.Bo true (B.map pD) vs)),some (.val (.lst (L.map .int))),some (.val (.int v)),none,none,none,none]:=rfl;rw[e0];refine Bb ?_;have hL:(L.map D.int).length<=1000:=by rw[zu];omega
 apply wp_step
 ·simp_arith[if_pos hL];rw[CD (λ u=>decide ((u,v)∈B)) D.int (λ u hu=>⟨_,rfl,by simp[vD,vE,Mq,zC,z5,M.A9,HH,HG,Jw,JO,JP,JQ,Mf,J1,J2,Ph,JF,JG,HK,VT,Mc,Md,JH,iK,HL,HM,FE,Qy,De,Qz,JI,JJ,HN,VX,JE,Ef,toCl_list,toCl_listP,toCl_dct,Mg,JR,JS,JT,JU,Mh,JV,JW,JX,qP,tM,JK,VY,JL,VZ,JM,JN,Me,W0,vF,vG,iN,iO,iP,iQ,iR,iS,toCl_nil,Jq,JA,OX,QA,HP,Mi,Mj,JY,JZ,Ml,Mm,Mn,Mo,Mp,K1,K2,K3,K4,HQ,HR,HS,HU,HV,K5,HW,HX,W2,W3,W4,W5,W6,HY,ite_tt,ite_ff,Bool.not_true,Bool.not_false,zaw,za0,Fe,Ha,Kb,iM,jM,iL,jP,jQ,jR,Mv,QO,QP,QQ,E6,Ie,Mx,QE,kA,Wo,QW,QG],λ _=>by simp_arith[]⟩)];simp_arith[];rfl
 apply wp_step
 ·simp_arith[if_pos hL];rw[CD (λ w=>decide ((v,w)∈B)) D.int (λ u hu=>⟨_,rfl,by simp[vD,vE,Mq,zC,z5,M.A9,HH,HG,Jw,JO,JP,JQ,Mf,J1,J2,Ph,JF,JG,HK,VT,Mc,Md,JH,iK,HL,HM,FE,Qy,De,Qz,JI,JJ,HN,VX,JE,Ef,toCl_list,toCl_listP,toCl_dct,Mg,JR,JS,JT,JU,Mh,JV,JW,JX,qP,tM,JK,VY,JL,VZ,JM,JN,Me,W0,vF,vG,iN,iO,iP,iQ,iR,iS,toCl_nil,Jq,JA,OX,QA,HP,Mi,Mj,JY,JZ,Ml,Mm,Mn,Mo,Mp,K1,K2,K3,K4,HQ,HR,HS,HU,HV,K5,HW,HX,W2,W3,W4,W5,W6,HY,ite_tt,ite_ff,Bool.not_true,Bool.not_false,zaw,za0,Fe,Ha,Kb,iM,jM,iL,jP,jQ,jR,Mv,QO,QP,QQ,E6,Ie,Mx,QE,kA,Wo,QW,QG],λ _=>by simp_arith[]⟩)];simp_arith[];rfl
 apply wp_step
 ·rfl
 try simp only[zC,z5]
 have tz:((L.filter λ w=>decide ((v,w)∈B)).map D.int).length<=1000:=by rw[zu];exact zal (List.length_filter_le _ _) (by omega)
 have hlen:=Xx B L v;have zj:L.length*L.length<=30*30:=Nat.mul_le_mul hl hl;generalize hA:L.filter (λ u=>decide ((u,v)∈B))=A;generalize hW:L.filter (λ w=>decide ((v,w)∈B))=W at tz ⊢;obtain⟨G,hG⟩:∃G:Int->List (Int×Int),G=λ u=>((W.filter λ w=>decide (u≠w) && !decide ((u,w)∈B)).map λ w=>(u,w)):=⟨_,rfl⟩;have ee:B8 B L v=A.flatMap G:=by unfold B8;rw[hA,hW,hG]
 refine BL (I:=λ ρ=>∃s6,ρ=[some (.val (.Bo true (B.map pD) vs)),some (.val (.lst (L.map .int))),some (.val (.int v)),some (.val (.lst (A.map .int))),some (.val (.lst (W.map .int))),some (.own ((A.flatMap G).map pD)),s6]) ?_ ?_
 ·simp_arith[];refine Bh (λ i ρ=>∃s6,ρ=[some (.val (.Bo true (B.map pD) vs)),some (.val (.lst (L.map .int))),some (.val (.int v)),some (.val (.lst (A.map .int))),some (.val (.lst (W.map .int))),some (.own (((A.take i).flatMap G).map pD)),s6]) ⟨none,rfl⟩ ?_ ?_
  ·rintro i d ρ hd ⟨s6,rfl⟩;obtain⟨u,hu,rfl⟩:=BM hd;have et:A.take (i+1)=A.take i++[u]:=by rw[za4,hu];rfl
   refine⟨_,rfl,?_⟩;have hb:(((A.take i).flatMap G).map pD).length+((G u).map pD).length<=1000:=by
    have h1:((A.take (i+1)).flatMap G).length<=(A.flatMap G).length:=by
     conv=>rhs;rw[<-zb7 (i+1) A,List.flatMap_append,zW]
     omega
    rw[et,List.flatMap_append,zW] at h1;rw[ee] at hlen;simp only[List.flatMap_cons,List.flatMap_nil,zV] at h1;rw[zu,zu];omega
   have li:(((W.filter λ w=>decide (u≠w) && !decide ((u,w)∈B)).map λ w=>(u,w)).map pD)=(W.filter λ w=>decide (u≠w) && !decide ((u,w)∈B)).map λ w=>D.tup [.int u,.int w]:=by rw[zak];rfl
   refine B4 (ρ':=[some (.val (.Bo true (B.map pD) vs)),some (.val (.lst (L.map .int))),some (.val (.int v)),some (.val (.lst (A.map .int))),some (.val (.lst (W.map .int))),some (.own (((A.take (i+1)).flatMap G).map pD)),some (.val (.int u))]) ?_ ⟨_,rfl⟩;simp_arith[if_pos tz];rw[CD (λ w=>decide (u≠w) && !decide ((u,w)∈B)) (λ w=>D.tup [.int u,.int w]) (λ w hw=>⟨_,rfl,by
    simp[vD,vE,Mq,zC,z5,M.A9,HH,HG,Jw,JO,JP,JQ,Mf,J1,J2,Ph,JF,JG,HK,VT,Mc,Md,JH,iK,HL,HM,FE,Qy,De,Qz,JI,JJ,HN,VX,JE,Ef,toCl_list,toCl_listP,toCl_dct,Mg,JR,JS,JT,JU,Mh,JV,JW,JX,qP,tM,JK,VY,JL,VZ,JM,JN,Me,W0,vF,vG,iN,iO,iP,iQ,iR,iS,toCl_nil,Jq,JA,OX,QA,HP,Mi,Mj,JY,JZ,Ml,Mm,Mn,Mo,Mp,K1,K2,K3,K4,HQ,HR,HS,HU,HV,K5,HW,HX,W2,W3,W4,W5,W6,HY,ite_tt,ite_ff,Bool.not_true,Bool.not_false,zaw,za0,Fe,Ha,Kb,iM,jM,iL,jP,jQ,jR,Mv,QO,QP,QQ,E6,Ie,Mx,QE,kA,Wo,QW,QG,Yd,OS,Cq,Bl];by_cases h:u=w<;>simp[h],λ _=>by simp_arith[]⟩)]
   rw[<-li];have wT:((W.filter λ w=>decide (u≠w) && !decide ((u,w)∈B)).map λ w=>(u,w))=G u:=by rw[hG]
   rw[wT];simp_arith[if_pos hb];rw[et,List.flatMap_append,List.flatMap_cons,List.flatMap_nil,zV,<-zK]
  ·rintro ρ ⟨s6,rfl⟩;rw[zu,za5];exact⟨s6,rfl⟩
 ·rintro ρ ⟨s6,rfl⟩;rw[ee];exact⟨_,rfl,rfl⟩
abbrev IE:List D->M OT:=z3 DJ
def Gf:Txt K mg->BB P w K mg base "missing_bows" 1 3 IE:=(zt DJ).1
def Gg:∀(B:List (Int×Int)) (vs:List D) (L:List Int) (v:Int),L.length<=30->IE [.Bo true (B.map pD) vs,.lst (L.map .int),.int v]=.ok (.lst (((B8 B L v).map pD).map .sh)):=(zt DJ).2
def Hy:∃F:List D->M OT,(∀ {P w K mg base},Txt K mg->BB P w K mg base "lightest" 2 2 F)/\(∀(B:List (Int×Int)) (vs:List D) (L:List Int),L≠[]->L.length<=30->F [.Bo true (B.map pD) vs,.lst (L.map .int)]=.ok (.sh (.int (Bp B L)))):=by
 refine⟨_,λ T=>Aw (k:=1) T.V4 T8 _ (λ f B7 A outer s H E hr=>(A5 (Ak (AX (Aa (AM hr 16 (by decide)) (iD rfl (AM hr 16 (by decide)) rfl T.Wy (Ag (CU (NB:=["place","bows","left"]) [none,some 0,some 1] rfl (AU (A1 1 (pv 1))) rfl rfl (Ca 0 (by decide) rfl rfl rfl) (λ _ _ _ _=>EG) (λ _ _ _ _=>(AD (A2 (Dd rfl T.Fm (Ag (Br (Ab (B5 rfl).toXCall (Gf T) (hr.mono (by decide)) rfl (A2 (A1 1 (pv 1)) (A2 (A1 2 (pv 2)) (A2 (A1 0 (pv 0)) A6))) rfl)))) (A2 (A1 0 (pv 0)) A6))))))) A7))))),?_⟩;intro B vs L ae hl;have e0:AE ["bows","left"] [.Bo true (B.map pD) vs,.lst (L.map .int)]=[some (.val (.Bo true (B.map pD) vs)),some (.val (.lst (L.map .int)))]:=rfl;rw[e0];refine Bb ?_;have hL:(L.map D.int).length<=1000:=by rw[zu];omega
 simp_arith[if_pos hL];rw[Cb (λ p=>D.tup ([((B8 B L p).length:Int),p].map D.int)) (λ p hp=>⟨_,rfl,rfl,by
  have h1:=Gg B vs L p hl;simp_arith[h1,WZ,zu,zx,zbr]⟩)]
 simp_arith[VS];rw[Px];have hb:=Xy (λ p=>D.tup ([((B8 B L p).length:Int),p].map D.int)) (L.map λ p=>(p,[((B8 B L p).length:Int),p]));rw[zak] at hb;have e2:((λ b:Int×List Int=>(D.tup ([((B8 B L b.1).length:Int),b.1].map D.int),b.2)) ∘ λ p=>(p,[((B8 B L p).length:Int),p]))=λ p=>(D.tup ([((B8 B L p).length:Int),p].map D.int),[((B8 B L p).length:Int),p]):=rfl;rw[e2] at hb;dsimp only;rw[hb];unfold Bp;cases q:AV (L.map λ p=>(p,[((B8 B L p).length:Int),p])) with
 |none=>exact (Jm (λ z=>ae (List.map_eq_nil_iff.mp z)) q).elim
 |some k =>
  simp only[zb0,M.A9];rfl
abbrev PZ:List D->M OT:=z3 Hy
def TH:Txt K mg->BB P w K mg base "lightest" 2 2 PZ:=(zt Hy).1
def TJ:∀(B:List (Int×Int)) (vs:List D) (L:List Int),L≠[]->L.length<=30->PZ [.Bo true (B.map pD) vs,.lst (L.map .int)]=.ok (.sh (.int (Bp B L))):=(zt Hy).2
def Ld:∃F:List D->M OT,(∀ {P w K mg base},Txt K mg->BB P w K mg base "ranked" 3 1 F)/\(∀(m:Nat) (rs:List Road),m<=20->(∀r∈rs,GX m r/\r.a≠r.b)->F [Aq m rs]=.ok (.lst (((TZ m (BJ rs) (B3 m)).map D.int).map .sh))):=by
 refine⟨_,λ T=>Aw (k:=2) T.dQ E8 _ (λ f B7 A outer s H E hr=>(A3 (Bw 1 E8.nd rfl (za1 rfl) (Ab A8.toXCall (OB T) (hr.mono (by decide)) rfl (A2 (A1 0 (pv 0)) A6) rfl)) (A3 (Bw 2 E8.nd rfl (za1 rfl) (JC rfl rfl T.En rfl T.Cw (Aa (AM hr 16 (by decide)) (A1 0 (pv 0)) A7))) (A3 (Bw 3 E8.nd rfl (za1 rfl) (FC CT)) (A3 (Sd A8.toXCall.own (IW (BW (c:=true) (A1 2 (pv 2)))) (A3 (AJ 4 E8.nd rfl (za1 rfl) (Ag (Eg (Ab A8.toXCall (TH T) (hr.mono (by decide)) rfl (A2 (A1 1 (pv 1)) (A2 (A1 2 (pv 2)) A6)) rfl)))) (A3 (Bf A8.toXCall.own rfl (AU (Ag (Eg (Ab A8.toXCall (Gf T) (hr.mono (by decide)) rfl (A2 (A1 1 (pv 1)) (A2 (A1 2 (pv 2)) (A2 (A1 4 (pv 4)) A6))) rfl)))) (AK 5 E8.nd rfl (za1 rfl)) (A5 (Ma (AM hr 16 (by decide)) (BV 1 (pv 1)) (A1 5 (pv 5)) Du))) (A3 (Xi (BV 2 (pv 2)) (A1 4 (pv 4))) (A5 (DY 3 (pv 3) (A1 4 (pv 4)))))))) (A5 (Cv 3 (pv 3)))))))),?_⟩;intro m rs hm Ar;have e0:AE ["net","bows","left","order","place","bow"] [Aq m rs]=[some (.val (Aq m rs)),none,none,none,none,none]:=rfl;rw[e0];refine Bb ?_;have h1:=OC m rs hm Ar;have n0:AR (Aq m rs) (.int 0)=.ok (.int m):=rfl;have h2:=Qx (n:=m) (by omega);rw[Ng] at h2;apply wp_step
 ·simp_arith[h1];rfl
 apply wp_step
 ·simp_arith[n0,h2];rfl
 apply wp_step
 ·rfl
 try simp only[zC,z5]
 refine BL (I:=λ ρ=>∃s1 s2 s4 s5,ρ=[some (.val (Aq m rs)),s1,s2,some (.own ((TZ m (BJ rs) (B3 m)).map D.int)),s4,s5]) ?_ ?_
 ·refine So (lt:=λ a b:Nat=>a<b) (λ n ρ=>∃(B:List (Int×Int)) (L O:List Int) (s4 s5:Option Cl),ρ=[some (.val (Aq m rs)),some (.ow (.tree none (.Bo true (B.map pD) ((D5 B).map .sh)))),some (.own (L.map D.int)),some (.own (O.map D.int)),s4,s5]/\L.length=n/\n+O.length=m/\Cs m B/\(∀p∈L,0<=p/\p<(m:Int))/\O++TZ n B L=TZ m (BJ rs) (B3 m)) (Nat.lt_wfRel.wf.apply m) ⟨BJ rs,B3 m,[],none,none,rfl,Fd m,by simp,SK Ar,λ p hp=>H9.mp hp,rfl⟩ ?_;rintro n ρ ⟨B,L,O,s4,s5,rfl,hn,hO,hB,hL,dk⟩;by_cases j6:L=[]
  ·subst j6;left;have:n=0:=by simpa using hn.symm
   subst this;rw[TZ,zV] at dk;exact⟨rfl,⟨_,_,_,_,by rw[dk]⟩⟩
  ·right;have j7:L.length<=30:=by omega
   have q1:=TJ B (D5 B) L j6 j7;have q2:=Gg B (D5 B) L (Bp B L) j7;obtain⟨aR,_⟩:=Pz (B:=B) j6;have xa:0<L.length:=List.length_pos_of_mem aR;obtain⟨n',rfl⟩:∃n',n=n'+1:=⟨n-1,by omega⟩;rw[TZ,if_neg j6] at dk;constructor
   ·simp_arith[ZA];cases L with
    |nil=>exact (j6 rfl).elim
    |cons x r=>rfl
   apply wp_step
   ·simp_arith[q1,oT iU];rfl
   try simp only[zC,z5]
   have d8:Js ((B8 B L (Bp B L)).map pD)=true:=Sr cB _;refine BL (I:=λ ρ=>∃s5,ρ=[some (.val (Aq m rs)),some (.ow (.tree none (.Bo true ((Cr B (B8 B L (Bp B L))).map pD) ((D5 (Cr B (B8 B L (Bp B L)))).map .sh)))),some (.own (L.map D.int)),some (.own (O.map D.int)),some (.val (.int (Bp B L))),s5]) ?_ ?_
   ·simp_arith[q2,iT d8];refine Bh (λ i ρ=>∃s5,ρ=[some (.val (Aq m rs)),some (.ow (.tree none (.Bo true ((Cr B ((B8 B L (Bp B L)).take i)).map pD) ((D5 (Cr B ((B8 B L (Bp B L)).take i))).map .sh)))),some (.own (L.map D.int)),some (.own (O.map D.int)),some (.val (.int (Bp B L))),s5]) ⟨s5,rfl⟩ ?_ ?_
    ·rintro i d ρ hd ⟨s5,rfl⟩;obtain⟨p,hp,rfl⟩:=BM hd;refine⟨_,rfl,?_⟩;have xb:Cs m (Cr B ((B8 B L (Bp B L)).take i)):=hB.Cr λ q hq=>by
      have:=Py (zae hq);exact⟨this.2.2,hL _ this.1,hL _ this.2.1⟩
     have kk:keyOk true (pD p)=true/\((Cr B ((B8 B L (Bp B L)).take i)).map pD).length<1000:=⟨rfl,by rw[zu];exact xb.len hm⟩;have et:(B8 B L (Bp B L)).take (i+1)=(B8 B L (Bp B L)).take i++[p]:=by rw[za4,hp];rfl
     have ea:Cr B ((B8 B L (Bp B L)).take (i+1))=KY (Cr B ((B8 B L (Bp B L)).take i)) p:=by
      unfold Cr;rw[et,zc7];rfl
     simp_arith[if_pos kk,Wl];exact⟨_,by rw[ea]⟩
    ·rintro ρ ⟨s5,rfl⟩;rw[zu,za5];exact⟨s5,rfl⟩
   ·rintro ρ ⟨s5,rfl⟩;have xc:(O.map D.int).length<1000:=by rw[zu];omega
    apply wp_step
    ·simp_arith[F9,if_pos aR];rfl
    refine B4 (ρ':=[some (.val (Aq m rs)),some (.ow (.tree none (.Bo true ((Cr B (B8 B L (Bp B L))).map pD) ((D5 (Cr B (B8 B L (Bp B L)))).map .sh)))),some (.own ((L.erase (Bp B L)).map D.int)),some (.own ((O++[Bp B L]).map D.int)),some (.val (.int (Bp B L))),s5]) ?_ ?_
    ·simp_arith[if_pos xc,zK,zx,zbr]
    ·have hlen:=List.length_erase_of_mem aR;refine⟨n',by omega,_,_,_,_,_,rfl,by omega,by rw[zW];simp;omega,hB.Cr λ q hq=>?_,λ p hp=>hL p (List.mem_of_mem_erase hp),?_⟩
     ·have:=Py hq;exact⟨this.2.2,hL _ this.1,hL _ this.2.1⟩
     ·rw[za9];exact dk
 ·rintro ρ ⟨s1,s2,s4,s5,rfl⟩;exact⟨_,rfl,rfl⟩
abbrev WA:List D->M OT:=z3 Ld
def Y4:Txt K mg->BB P w K mg base "ranked" 3 1 WA:=(zt Ld).1
def Y5:∀(m:Nat) (rs:List Road),m<=20->(∀r∈rs,GX m r/\r.a≠r.b)->WA [Aq m rs]=.ok (.lst (((TZ m (BJ rs) (B3 m)).map D.int).map .sh)):=(zt Ld).2
def CG:∃F:List D->M OT,(∀ {P w K mg base},Txt K mg->BB P w K mg base "order_or_ranked" 4 2 F)/\(∀(m:Nat) (rs:List Road),m<=20->(∀r∈rs,GX m r/\r.a≠r.b)->(∀L:List Int,L.Perm (B3 m)->F [Aq m rs,.lst (L.map .int)]=.ok (.lst ((L.map D.int).map .sh)))/\F [Aq m rs,.AL]=.ok (.lst (((TZ m (BJ rs) (B3 m)).map D.int).map .sh))):=by
 refine⟨_,λ T=>Aw (k:=3) T.Kn J6 _ (λ f B7 A outer s H E hr=>(A3 (Ba (GD (c:=true) (A1 1 (pv 1))) (A5 (Ak (Ab A8.toXCall (Y4 T) (hr.mono (by decide)) rfl (A2 (A1 0 (pv 0)) A6) rfl))) As) (A5 (Ak (Ab A8.toXCall (Lb T) (hr.mono (by decide)) rfl (A2 (A1 0 (pv 0)) (A2 (A1 1 (pv 1)) A6)) rfl))))),?_⟩;intro m rs hm Ar;have h1:=Y5 m rs hm Ar;refine⟨λ L hL=>?_,?_⟩
 ·have h2:Eu [Aq m rs,.lst (L.map .int)]=.ok (.lst ((L.map D.int).map .sh)):=Lc m (.lst (rs.map Bs)) L (by omega) hL;have e0:AE ["net","order"] [Aq m rs,.lst (L.map .int)]=[some (.val (Aq m rs)),some (.val (.lst (L.map .int)))]:=rfl;rw[e0];refine Bb ?_;apply wp_step
  ·rfl
  simp_arith[h2];exact⟨_,rfl,rfl⟩
 ·have e0:AE ["net","order"] [Aq m rs,.AL]=[some (.val (Aq m rs)),some (.val .AL)]:=rfl;rw[e0];refine Bb ?_;simp_arith[Bq,h1];exact⟨_,rfl,rfl⟩
abbrev Ck:List D->M OT:=z3 CG
def Jc:Txt K mg->BB P w K mg base "order_or_ranked" 4 2 Ck:=(zt CG).1
def Ew:∀(m:Nat) (rs:List Road),m<=20->(∀r∈rs,GX m r/\r.a≠r.b)->(∀L:List Int,L.Perm (B3 m)->Ck [Aq m rs,.lst (L.map .int)]=.ok (.lst ((L.map D.int).map .sh)))/\Ck [Aq m rs,.AL]=.ok (.lst (((TZ m (BJ rs) (B3 m)).map D.int).map .sh)):=(zt CG).2
def FU:∃F:List D->M OT,(∀ {P w K mg base},Txt K mg->BB P w K mg base "kept_arcs" 3 2 F)/\(∀(m:Nat) (rs:List Road) (A:LA),m<=20->(∀r∈rs,GX m r)->Fp m A->∃K:List (Int×Int),F [Aq m rs,Lp A]=.ok (.lst ((K.map pD).map .sh))/\K.Nodup/\∀p,p∈K↔KP rs A p):=by
 refine⟨_,λ T=>Aw (k:=2) T.Tg DV _ (λ f B7 A outer s H E hr=>(A3 (Bw 2 DV.nd rfl (za1 rfl) (FC CT)) (A3 (Bf A8.toXCall.own rfl (C2 (c:=true) rfl T.Cw (Aa (AM hr 16 (by decide)) (A1 0 (pv 0)) A7)) (AK 3 DV.nd rfl (Or.inr rfl)) (A3 (AJ 4 DV.nd rfl (Or.inr rfl) (Ag (Ab A8.toXCall (Oy T) (hr.mono (by decide)) rfl (A2 (A1 0 (pv 0)) (A2 (A1 3 (pv 3)) A6)) rfl))) (A5 (Zt (BV 2 (pv 2)) (by exact (CU (NB:=["w","u","laid","costs"]) [none,some 3,some 1,some 4] rfl (C2 (c:=true) rfl T.Cw (Aa (AM hr 16 (by decide)) (A1 0 (pv 0)) A7)) rfl rfl (Ca 0 (by decide) rfl rfl rfl) (λ _ _ _ _=>Fy (DW.dt (Fw (KS (c:=true) (AM hr 16 (by decide)) (AD (A2 (A1 1 (pv 1)) (A2 (A1 0 (pv 0)) A6))) (A1 2 (pv 2))) (Fv (Li (c:=true) (AM hr 16 (by decide)) (Aa (AM hr 16 (by decide)) (Aa (AM hr 16 (by decide)) (A1 2 (pv 2)) (AD (A2 (A1 1 (pv 1)) (A2 (A1 0 (pv 0)) A6)))) A7) (Aa (AM hr 16 (by decide)) (A1 3 (pv 3)) (A1 0 (pv 0)))))))) (λ _ _ _ _=>(AD (A2 (A1 1 (pv 1)) (A2 (A1 0 (pv 0)) A6)))))))))) (A5 (Cv 2 (pv 2)))))),?_⟩;intro m rs A hm Ar hA;have e0:AE ["net","laid","kept","u","costs"] [Aq m rs,Lp A]=[some (.val (Aq m rs)),some (.val (Lp A)),none,none,none]:=rfl;rw[e0];refine (λ h:∃t,_/\∃K:List (Int×Int),t=.lst ((K.map pD).map .sh)/\K.Nodup/\∀p,p∈K↔KP rs A p=>by
  obtain⟨t,h1,K,rfl,h2⟩:=h;exact⟨K,h1,h2⟩) (Ll ?_)
 have n0:AR (Aq m rs) (.int 0)=.ok (.int m):=rfl;have hr:S8 (.int (m:Int))=.ok ((B3 m).map D.int):=by rw[F8 (by omega),UP]
 have hl:((B3 m).map D.int).length<=1000:=by rw[zu,Fd];omega
 apply wp_step
 ·rfl
 try simp only[zC,z5]
 refine BL (I:=λ ρ=>∃(K:List (Int×Int)) (s3 s4:Option Cl),ρ=[some (.val (Aq m rs)),some (.val (Lp A)),some (.own (K.map pD)),s3,s4]/\K.Nodup/\∀p,p∈K↔KP rs A p) ?_ ?_
 ·simp_arith[n0,hr];refine Bh (λ i ρ=>i<=m/\∃(K:List (Int×Int)) (s3 s4:Option Cl),ρ=[some (.val (Aq m rs)),some (.val (Lp A)),some (.own (K.map pD)),s3,s4]/\K.Nodup/\∀p,p∈K↔(p.1<i/\KP rs A p)) ⟨za6 _,[],none,none,rfl,zax,λ p=>⟨(λ h=>by cases h),λ h=>by
   obtain⟨c,hc,_⟩:=h.2;have:=(hA.rg p (Fg hc)).2.1;omega⟩⟩ ?_ ?_
  ·rintro i d ρ hd ⟨hi,K,s3,s4,rfl,hn,hK⟩;obtain⟨u,hu,rfl⟩:=BM hd;have af:i<m:=by have:=(zG.mp hu).1;rw[Fd] at this;exact this
   have eu:u=(i:Int):=by
    unfold B3 at hu;rw[zU,List.getElem?_range af] at hu;exact (zT hu).symm
   subst eu;obtain⟨cs,hR,hF⟩:=EY m i rs af (by omega) Ar;refine⟨_,rfl,?_⟩;apply wp_step
   ·simp_arith[hF];rfl
   try simp only[zC,z5]
   obtain⟨W,hW⟩:∃W,W=(B3 m).filter λ w=>uG A cs i w:=⟨_,rfl⟩;have t5:∀w,w∈W↔KP rs A ((i:Int),w):=λ w=>by
    rw[hW,zau,H9];constructor
    ·rintro ⟨hw,h⟩;exact (cU hR Ar hw.1 hw.2).mp h
    ·intro h;obtain⟨c,hc,_⟩:=id h;have:=(hA.rg _ (Fg hc)).2.2;exact⟨this,(cU hR Ar this.1 this.2).mpr h⟩
   have xf:W.Nodup:=by rw[hW];exact (Nh m).filter _
   have aD:(K++W.map λ w=>((i:Int),w)).Nodup:=by
    rw[zQ];refine⟨hn,List.pairwise_map.mpr (xf.imp fun {a b} iu e=>iu (by cases e;rfl)),λ x hx y hy e=>?_⟩;subst e;obtain⟨w,_,rfl⟩:=zS.mp hy;have:=(hK _).mp hx;simp at this
   have t6:∀p,p∈K++W.map (λ w=>((i:Int),w))↔(p.1<((i+1:Nat):Int)/\KP rs A p):=λ p=>by
    rw[zJ,hK];constructor
    ·rintro (h|h)
     ·exact⟨by have:=h.1;omega,h.2⟩
     ·obtain⟨w,hw,rfl⟩:=zS.mp h;exact⟨by dsimp only;omega,(t5 w).mp hw⟩
    ·rintro ⟨h1,h2⟩;by_cases e:p.1<(i:Int)
     ·exact .inl ⟨e,h2⟩
     ·have e2:p.1=(i:Int):=by omega
      obtain⟨p1,p2⟩:=p;dsimp only at e2;subst e2;exact .inr (zS.mpr ⟨p2,(t5 p2).mpr h2,rfl⟩)
   have hlen:=pQ hA hm aD λ p hp=>((t6 p).mp hp).2;have hb:(K.map pD).length+((W.map λ w=>((i:Int),w)).map pD).length<=1000:=by
    rw[zW] at hlen;rw[zu,zu];omega
   refine B4 (ρ':=[some (.val (Aq m rs)),some (.val (Lp A)),some (.own ((K++W.map λ w=>((i:Int),w)).map pD)),some (.val (.int i)),some (.val (.lst (cs.map cst)))]) ?_ ⟨af,_,_,_,rfl,aD,t6⟩;have t1:∀a b:Int,D.tup [.int a,.int b]=pD (a,b):=λ a b=>rfl;simp_arith[n0,hr,if_pos hl];rw[CD (λ w=>uG A cs i w) (λ w=>pD ((i:Int),w)) (λ w hw=>⟨_,rfl,by
    have t7:=H9.mp hw;have x1:AR (.lst (cs.map cst)) (.int w)=.ok (cst (atC cs w)):=Ce t7.1 (by rw[hR.1];exact t7.2);have dh:=QR A ((i:Int),w) false;unfold uG Al;cases q:Ay A ((i:Int),w) with
    |none =>
     rw[q] at dh;simp_arith[t1,dh];rfl
    |some v =>
     rw[q] at dh;have hit:=QS q;have h0:AR (XC v) (.int 0)=.ok (cst (some v.1)):=rfl;have he:=Wh (some v.1) (atC cs w);simp_arith[t1,dh,hit,h0,x1,he];rfl,λ _=>by simp_arith[t1]⟩)]
   rw[<-hW];have ew:W.map (λ w=>pD ((i:Int),w))=(W.map λ w=>((i:Int),w)).map pD:=by rw[zak];rfl
   rw[ew];simp_arith[if_pos hb];rw[<-zK]
  ·rintro ρ ⟨_,K,s3,s4,rfl,hn,hK⟩;refine⟨K,s3,s4,rfl,hn,λ p=>(hK p).trans ⟨λ h=>h.2,λ h=>⟨?_,h⟩⟩⟩;obtain⟨c,hc,_⟩:=h;have:=(hA.rg p (Fg hc)).2.1;rw[zu,Fd];omega
 ·rintro ρ ⟨K,s3,s4,rfl,hn,hK⟩;exact⟨_,rfl,K,rfl,hn,hK⟩
abbrev NT:List D->M OT:=z3 FU
def Rr:Txt K mg->BB P w K mg base "kept_arcs" 3 2 NT:=(zt FU).1
def Rt:∀(m:Nat) (rs:List Road) (A:LA),m<=20->(∀r∈rs,GX m r)->Fp m A->∃K:List (Int×Int),NT [Aq m rs,Lp A]=.ok (.lst ((K.map pD).map .sh))/\K.Nodup/\∀p,p∈K↔KP rs A p:=(zt FU).2
def CH:∃F:OT->List D->M (OT×OT),(∀ {P w K mg base},Txt K mg->Pr P w K mg base "Ladder" 6 3 F)/\(∀(m:Nat) (rs:List Road) (o:D) (L:List Int),1<=m->m<=16->rs.length<=60->(∀r∈rs,J4 m r)->L.Perm (B3 m)->(o=.lst (L.map D.int)\/(o=.AL/\L=TZ m (BJ rs) (B3 m)))->∃(A:LA) (K:List (Int×Int)),BO m rs L A K/\∃t,F (.ins "Ladder" [] []) [Aq m rs,o]=.ok (t,.sh .AL)/\er t=AG m rs L A K):=by
 refine⟨_,λ T=>ZR (k:=5) T.Ko J7 _ (λ f B7 A outer s H E hr=>(A3 (Ms ["Ladder"] (Bx T.BP C6) (BV 0 (pv 0)) (Ag (Ab A8.toXCall (V9 T) (hr.mono (by decide)) rfl (A2 (A1 1 (pv 1)) A6) rfl))) (A3 (Ms ["Ladder"] (Bx T.CF C6) (BV 0 (pv 0)) (Ag (Eg (Ab A8.toXCall (Jc T) (hr.mono (by decide)) rfl (A2 (ES ["Ladder"] (Bx T.BP C6) (A1 0 (pv 0))) (A2 (A1 2 (pv 2)) A6)) rfl)))) (A3 (Ms ["Ladder"] (Bx T.Dq C6) (BV 0 (pv 0)) (Ag (Eg (Ab A8.toXCall (Rp T) (hr.mono (by decide)) rfl (A2 (ES ["Ladder"] (Bx T.BP C6) (A1 0 (pv 0))) (A2 (ES ["Ladder"] (Bx T.CF C6) (A1 0 (pv 0))) A6)) rfl)))) (A5 (Ms ["Ladder"] (Bx T.Eo C6) (BV 0 (pv 0)) (Ag (Eg (Ab A8.toXCall (Rr T) (hr.mono (by decide)) rfl (A2 (ES ["Ladder"] (Bx T.BP C6) (A1 0 (pv 0))) (A2 (ES ["Ladder"] (Bx T.Dq C6) (A1 0 (pv 0))) A6)) rfl))))))))),?_⟩;intro m rs o L bK bd ce gn hL ho;have Ar:∀r∈rs,GX m r/\r.a≠r.b:=λ r hr=>(gn r hr).yH;have h1:=Va m rs bK bd ce gn;have h2:Ck [Aq m rs,o]=.ok (.lst ((L.map D.int).map .sh)):=by
  rcases ho with rfl|⟨rfl,rfl⟩
  ·exact (Ew m rs (by omega) Ar).1 L hL
  ·exact (Ew m rs (by omega) Ar).2
 have h3:=Rq m rs L (by omega) hL Ar;have hA:=(Nl hL Ar).1;obtain⟨K,h4,hn,hK⟩:=Rt m rs (BY rs L) (by omega) (λ r hr=>(Ar r hr).1) hA;refine⟨BY rs L,K,⟨bK,bd,ce,Ar,hL,rfl,hn,hK⟩,.ins "Ladder" ["own_map","own_order","laid","kept_ones"] [.sh (Aq m rs),.sh (.lst (L.map D.int)),.sh (Lp (BY rs L)),.sh (.lst (K.map pD))],?_,rfl⟩;have e0:D4 ["self","net","order"] (.ins "Ladder" [] []) [Aq m rs,o]=[some (.ow (.tree (some 0) (.ins "Ladder" [] []))),some (.val (Aq m rs)),some (.val o)]:=rfl;rw[e0];refine UO ?_;have e1:er (.tup [.sh (.int m),.lst ((rs.map Bs).map .sh)])=Aq m rs:=by rw[jO,Ph,J2];rfl
 have T:∀(ns:List Str) (ds:List D),er (.ins "Ladder" ns (ds.map .sh))=.ins "Ladder" ns ds:=λ ns ds=>by rw[er,IZ]
 have T1:=T ["own_map"] [Aq m rs];have T2:=T ["own_map","own_order"] [Aq m rs,.lst (L.map D.int)];have T3:=T ["own_map","own_order","laid"] [Aq m rs,.lst (L.map D.int),Lp (BY rs L)];simp only[zx,zbr] at T1 T2 T3;have d1:=cV L;have d2:=jY (BY rs L);have d3:=jX K;have f1:Of ["Ladder"] "own_map" (.ins "Ladder" ["own_map"] [Aq m rs])=.ok (Aq m rs):=rfl;have f2:Of ["Ladder"] "own_map" (.ins "Ladder" ["own_map","own_order"] [Aq m rs,.lst (L.map D.int)])=.ok (Aq m rs):=rfl;have f3:Of ["Ladder"] "own_order" (.ins "Ladder" ["own_map","own_order"] [Aq m rs,.lst (L.map D.int)])=.ok (.lst (L.map D.int)):=rfl;have f4:Of ["Ladder"] "own_map" (.ins "Ladder" ["own_map","own_order","laid"] [Aq m rs,.lst (L.map D.int),Lp (BY rs L)])=.ok (Aq m rs):=rfl;have f5:Of ["Ladder"] "laid" (.ins "Ladder" ["own_map","own_order","laid"] [Aq m rs,.lst (L.map D.int),Lp (BY rs L)])=.ok (Lp (BY rs L)):=rfl;refine wp_step (ρ':=[some (.ow (.tree (some 0) (.ins "Ladder" ["own_map"] [.sh (Aq m rs)]))),some (.val (Aq m rs)),some (.val o)]) (by simp_arith[h1,e1];rfl) ?_;refine wp_step (ρ':=[some (.ow (.tree (some 0) (.ins "Ladder" ["own_map","own_order"] [.sh (Aq m rs),.sh (.lst (L.map D.int))]))),some (.val (Aq m rs)),some (.val o)]) (by simp_arith[T1,f1,h2,d1];rfl) ?_;refine wp_step (ρ':=[some (.ow (.tree (some 0) (.ins "Ladder" ["own_map","own_order","laid"] [.sh (Aq m rs),.sh (.lst (L.map D.int)),.sh (Lp (BY rs L))]))),some (.val (Aq m rs)),some (.val o)]) (by simp_arith[T2,f2,f3,h3,d2];rfl) ?_;refine B4 (ρ':=[some (.ow (.tree (some 0) (.ins "Ladder" ["own_map","own_order","laid","kept_ones"] [.sh (Aq m rs),.sh (.lst (L.map D.int)),.sh (Lp (BY rs L)),.sh (.lst (K.map pD))]))),some (.val (Aq m rs)),some (.val o)]) (by simp_arith[T3,f4,f5,h4,d3];rfl) ⟨rfl,rfl⟩
abbrev Cm:OT->List D->M (OT×OT):=z3 CH
def Ex:Txt K mg->Pr P w K mg base "Ladder" 6 3 Cm:=(zt CH).1
def Ey:∀(m:Nat) (rs:List Road) (o:D) (L:List Int),1<=m->m<=16->rs.length<=60->(∀r∈rs,J4 m r)->L.Perm (B3 m)->(o=.lst (L.map D.int)\/(o=.AL/\L=TZ m (BJ rs) (B3 m)))->∃(A:LA) (K:List (Int×Int)),BO m rs L A K/\∃t,Cm (.ins "Ladder" [] []) [Aq m rs,o]=.ok (t,.sh .AL)/\er t=AG m rs L A K:=(zt CH).2
def Ez:∃F:List D->M OT,(∀ {P w K mg base},Txt K mg->BB P w K mg base "_law_cell_at" 1 2 F)/\(∀(ns:List Int) (k:Nat),(∀n∈ns,Sm n)->∃v:Int,Sm v/\F [.lst (ns.map D.int),.int k]=.ok (.sh (.int v))):=by
 refine⟨_,λ T=>Aw (k:=0) T.Ot NC _ (λ f B7 A outer s H E hr=>(A3 (Ba (sZ (c:=true) (A1 1 (pv 1)) (Dd rfl T.Fm (A1 0 (pv 0)))) (A5 (Ak (AX (Aa (AM hr 16 (by decide)) (A1 0 (pv 0)) (A1 1 (pv 1)))))) As) (A5 (Ak (AX A7))))),?_⟩;intro ns k bv;have e0:AE ["_law_script","_law_k"] [.lst (ns.map D.int),.int k]=[some (.val (.lst (ns.map D.int))),some (.val (.int k))]:=rfl;rw[e0];by_cases hk:(k:Int)<((ns.map D.int).length:Int)
 ·have g8:=hk;rw[zu] at g8;have i1:AR (.lst (ns.map D.int)) (.int k)=.ok (.int (ns[k]'(by omega))):=I9 (by omega) (by rw[zat];exact z4 _);refine⟨ns[k]'(by omega),bv _ (zbt _),Bb ?_⟩;simp_arith[decide_eq_true hk,i1];rfl
 ·refine⟨0,by unfold Sm;decide,Bb ?_⟩;simp_arith[decide_eq_false hk];rfl
abbrev CZ:List D->M OT:=z3 Ez
def Ci:Txt K mg->BB P w K mg base "_law_cell_at" 1 2 CZ:=(zt Ez).1
def EA:∀(ns:List Int) (k:Nat),(∀n∈ns,Sm n)->∃v:Int,Sm v/\CZ [.lst (ns.map D.int),.int k]=.ok (.sh (.int v)):=(zt Ez).2
def Jd:∃F:List D->M OT,(∀ {P w K mg base},Txt K mg->BB P w K mg base "_law_mix" 1 2 F)/\(∀c k:Int,0<=k->k<=1000->∃v:Int,0<=v/\F [.int c,.int k]=.ok (.sh (.int v))):=by
 refine⟨_,λ T=>Aw (k:=0) T.Y0 ND _ (λ f B7 A outer s H E hr=>(A3 (AJ 2 ND.nd rfl (za1 rfl) (BK (BU (BU (BU (FA (A1 0 (pv 0)) A7) (FA (FA (A1 1 (pv 1)) (A1 1 (pv 1))) A7)) (FA A7 (A1 1 (pv 1)))) A7) A7)) (A5 (Ak (AX (BK (FA (A1 2 (pv 2)) (A1 2 (pv 2))) A7)))))),?_⟩;intro c k h0 h1;have e0:AE ["_law_cell","_law_k","_law_number"] [.int c,.int k]=[some (.val (.int c)),some (.val (.int k)),none]:=rfl;rw[e0];have m1:Iq (.int c) (.int 48271)=.ok (.int (c*48271)):=Ed (.inr (.inr (.inr (by decide))));have m2:Iq (.int k) (.int k)=.ok (.int (k*k)):=Ed (.inr (.inr (.inr ⟨by omega,by omega⟩)));have m3:Iq (.int (k*k)) (.int 69621)=.ok (.int (k*k*69621)):=Ed (.inr (.inr (.inr (by decide))));have m4:Iq (.int 11) (.int k)=.ok (.int (11*k)):=Ed (.inr (.inr (.inr ⟨by omega,by omega⟩)));have q1:ED (.int (c*48271+k*k*69621+11*k+1)) (.int 2147483647)=.ok (.int ((c*48271+k*k*69621+11*k+1)%2147483647)):=AZ (by decide);obtain⟨x,hx⟩:∃x,x=(c*48271+k*k*69621+11*k+1)%2147483647:=⟨_,rfl⟩;have x0:0<=x:=by omega
 have x1:x<2147483647:=by omega
 have m5:Iq (.int x) (.int x)=.ok (.int (x*x)):=Ed (.inr (.inr (.inr ⟨by omega,by omega⟩)));have q2:ED (.int (x*x)) (.int 2147483629)=.ok (.int (x*x%2147483629)):=AZ (by decide);refine⟨x*x%2147483629,zbf _ (by decide),Bb ?_⟩;rw[<-hx] at q1;apply wp_step
 ·simp_arith[m1,m2,m3,m4,q1];rfl
 simp_arith[m5,q2];rfl
abbrev TK:List D->M OT:=z3 Jd
def Dm:Txt K mg->BB P w K mg base "_law_mix" 1 2 TK:=(zt Jd).1
def Dn:∀c k:Int,0<=k->k<=1000->∃v:Int,0<=v/\TK [.int c,.int k]=.ok (.sh (.int v)):=(zt Jd).2
def FV:∃F:List D->M OT,(∀ {P w K mg base},Txt K mg->BB P w K mg base "_law_great" 1 2 F)/\(∀c k:Int,Sm c->0<=k->k<=100->∃v:Int,(0<=v/\v<O4)/\F [.int c,.int k]=.ok (.sh (.int v))):=by
 refine⟨_,λ T=>Aw (k:=0) T.Th R7 _ (λ f B7 A outer s H E hr=>(A5 (Ak (AX (BK (FA (BU (BU (A1 0 (pv 0)) (FA (A1 1 (pv 1)) (A1 1 (pv 1)))) A7) A7) (YX A7 A7)))))),?_⟩;intro c k hs h0 h1;have ht:=QH;have e0:AE ["_law_cell","_law_k"] [.int c,.int k]=[some (.val (.int c)),some (.val (.int k))]:=rfl;rw[e0];have m2:Iq (.int k) (.int k)=.ok (.int (k*k)):=Ed (.inr (.inr (.inr ⟨by omega,by omega⟩)));have hk:0<=k*k:=Int.mul_nonneg h0 h0;have g8:k*k<=100*100:=Int.mul_le_mul h1 h1 h0 (by decide);have hb:PySem.Builtin.Int.intBits (c+(k*k+1))<=2^20+1:=X7 hs (by omega);have m3:Iq (.int (c+(k*k+1))) (.int 5172390846617502938471650293846571029384756102938477)=.ok (.int ((c+(k*k+1))*5172390846617502938471650293846571029384756102938477)):=Ed (.inl ⟨hb,bits_le (by decide)⟩);rw[<-zc9] at m3;refine⟨(c+k*k+1)*5172390846617502938471650293846571029384756102938477%O4,⟨zbf _ (by omega),zb9 _ (by omega)⟩,Bb ?_⟩;simp_arith[m2,m3,lJ,jN];rfl
abbrev NU:List D->M OT:=z3 FV
def Ru:Txt K mg->BB P w K mg base "_law_great" 1 2 NU:=(zt FV).1
def Rv:∀c k:Int,Sm c->0<=k->k<=100->∃v:Int,(0<=v/\v<O4)/\NU [.int c,.int k]=.ok (.sh (.int v)):=(zt FV).2
def FX:∃F:List D->M OT,(∀ {P w K mg base},Txt K mg->BB P w K mg base "_law_whole" 1 1 F)/\(∀i:Int,F [.int i]=.ok (.sh (.bl true))):=by
 refine⟨_,λ T=>Aw (k:=0) T.Ti R8 _ (λ f B7 A outer s H E hr=>(A5 (Ak (AX (MS (EQ (S7 _) rfl T.B9 rfl T.dS (by decide +kernel) (A1 0 (pv 0))) (MR (Z0 (EQ (P5 _) rfl T.B9 rfl T.dR (by decide +kernel) (A1 0 (pv 0)))))))))),?_⟩;intro i;rfl
abbrev NV:List D->M OT:=z3 FX
def FY:Txt K mg->BB P w K mg base "_law_whole" 1 1 NV:=(zt FX).1
def FZ:∀i:Int,NV [.int i]=.ok (.sh (.bl true)):=(zt FX).2
def EB:∃F:List D->M OT,(∀ {P w K mg base},Txt K mg->BB P w K mg base "_law_is_cost" 2 1 F)/\(∀a b:Int,F [.tup [.int a,.int b]]=.ok (.sh (.bl true))):=by
 refine⟨_,λ T=>Aw (k:=1) T.Ou NE _ (λ f B7 A outer s H E hr=>(A3 (Ba (DW.dt (Ec (CB (BW (c:=true) (EQ (Fx _) rfl T.B9 rfl T.Kq (by decide +kernel) (A1 0 (pv 0))))) (Dc (Io (c:=true) (AM hr 16 (by decide)) (Dd rfl T.Fm (A1 0 (pv 0))) A7)))) (A5 (Ak (AX Du))) As) (A5 (Ak (AX (MS (Ag (Ab A8.toXCall (FY T) (hr.mono (by decide)) rfl (A2 (Aa (AM hr 16 (by decide)) (A1 0 (pv 0)) A7) A6) rfl)) (MR (Ag (Ab A8.toXCall (FY T) (hr.mono (by decide)) rfl (A2 (Aa (AM hr 16 (by decide)) (A1 0 (pv 0)) A7) A6) rfl))))))))),?_⟩;intro a b;have e0:AE ["_law_found"] [.tup [.int a,.int b]]=[some (.val (.tup [.int a,.int b]))]:=rfl;rw[e0];refine Bb ?_;have h1:=FZ a;have h2:=FZ b;have i0:AR (.tup [.int a,.int b]) (.int 0)=.ok (.int a):=rfl;have i1:AR (.tup [.int a,.int b]) (.int 1)=.ok (.int b):=rfl;apply wp_step
 ·rfl
 simp_arith[i0,i1,h1,h2,Gk];rfl
abbrev Kt:List D->M OT:=z3 EB
def NW:Txt K mg->BB P w K mg base "_law_is_cost" 2 1 Kt:=(zt EB).1
def NX:∀a b:Int,Kt [.tup [.int a,.int b]]=.ok (.sh (.bl true)):=(zt EB).2
def G0:∃F:List D->M OT,(∀ {P w K mg base},Txt K mg->BB P w K mg base "_law_roads" 2 2 F)/\(∀(cells:List Int) (m:Nat),1<=m->m<=16->cells.length<=60->(∀c∈cells,Sm c)->∃rs:List Road,rs.length<=cells.length/\(∀r∈rs,J4 m r)/\F [.lst (cells.map D.int),.int m]=.ok (.lst ((rs.map Bs).map .sh))):=by
 refine⟨_,λ T=>Aw (k:=1) T.Tj Bi _ (λ f B7 A outer s H E hr=>(A3 (Bw 2 Bi.nd rfl (za1 rfl) (FC CT)) (A3 (Bf A8.toXCall.own rfl (C2 (c:=true) rfl T.Cw (Dd rfl T.Fm (A1 0 (pv 0)))) (AK 3 Bi.nd rfl (za1 rfl)) (A3 (AJ 4 Bi.nd rfl (za1 rfl) (Ag (Ab A8.toXCall (Dm T) (hr.mono (by decide)) rfl (A2 (Aa (AM hr 16 (by decide)) (A1 0 (pv 0)) (A1 3 (pv 3))) (A2 (A1 3 (pv 3)) A6)) rfl))) (A3 (AJ 5 Bi.nd rfl (za1 rfl) (Ag (Ab A8.toXCall (Ru T) (hr.mono (by decide)) rfl (A2 (Aa (AM hr 16 (by decide)) (A1 0 (pv 0)) (A1 3 (pv 3))) (A2 (A1 3 (pv 3)) A6)) rfl))) (A5 (Ba (IW (DW.dt (Fw (VD (c:=true) (A1 1 (pv 1)) A7) (Fw (VD (c:=true) (Dd rfl T.Fm (A1 2 (pv 2))) A7) (Fv (Li (c:=true) (AM hr 16 (by decide)) (BK (A1 4 (pv 4)) A7) A7)))))) (A5 (DY 2 (pv 2) (VM (Zl (c:=true) (Aa (AM hr 16 (by decide)) (A1 2 (pv 2)) (BK (HC (A1 4 (pv 4)) A7) (Dd rfl T.Fm (A1 2 (pv 2))))))))) (A5 (Ba (VD (c:=true) (A1 1 (pv 1)) A7) (A3 (AJ 6 Bi.nd rfl (za1 rfl) (BK (HC (A1 4 (pv 4)) A7) (A1 1 (pv 1)))) (A3 (AJ 7 Bi.nd rfl (za1 rfl) (BK (BU (BU (A1 6 (pv 6)) A7) (BK (HC (A1 4 (pv 4)) A7) (oA (A1 1 (pv 1)) A7))) (A1 1 (pv 1)))) (A3 (AJ 8 Bi.nd rfl (za1 rfl) (HC (A1 4 (pv 4)) A7)) (A3 (AJ 9 Bi.nd rfl (za1 rfl) (Aa (AM hr 16 (by decide)) (EO (A2 CQ (A2 A7 (A2 A7 (A2 A7 (A2 (BK (A1 8 (pv 8)) A7) (A2 (BK (A1 8 (pv 8)) A7) (A2 (A1 5 (pv 5)) (A2 (A1 5 (pv 5)) A6))))))))) (BK (HC (A1 4 (pv 4)) A7) A7))) (A5 (DY 2 (pv 2) (AD (A2 (A1 6 (pv 6)) (A2 (A1 7 (pv 7)) (A2 (A1 9 (pv 9)) (A2 (Aa (AM hr 16 (by decide)) (EO (A2 (BK (A1 8 (pv 8)) A7) (A2 (A1 5 (pv 5)) A6))) (BK (A1 4 (pv 4)) A7)) A6))))))))))) As))))))) (A5 (Cv 2 (pv 2)))))),?_⟩;intro cells m bK bd hl bv;have ht:=QH;have e0:AE ["_law_cells","_law_many","_law_roads_here","_law_k","_law_mixed","_law_great_here","_law_one","_law_other","_law_small","_law_length"] [.lst (cells.map D.int),.int m]=[some (.val (.lst (cells.map D.int))),some (.val (.int m)),none,none,none,none,none,none,none,none]:=rfl;rw[e0];refine (λ h:∃t,_/\∃rs:List Road,t=.lst ((rs.map Bs).map .sh)/\rs.length<=cells.length/\(∀r∈rs,J4 m r)=>by
  obtain⟨t,h1,rs,rfl,h2,h3⟩:=h;exact⟨rs,h2,h3,h1⟩) (Ll ?_)
 have hr:S8 (.int ((cells.map D.int).length:Int))=.ok (C9 0 cells.length):=by rw[zu];exact F8 (by omega)
 apply wp_step
 ·rfl
 try simp only[zC,z5]
 refine BL (I:=λ ρ=>∃(rs:List Road) (s3 s4 s5 s6 s7 s8 s9:Option Cl),ρ=[some (.val (.lst (cells.map D.int))),some (.val (.int m)),some (.own (rs.map Bs)),s3,s4,s5,s6,s7,s8,s9]/\rs.length<=cells.length/\∀r∈rs,J4 m r) ?_ ?_
 ·simp_arith[hr];refine Bh (λ i ρ=>i<=60/\∃(rs:List Road) (s3 s4 s5 s6 s7 s8 s9:Option Cl),ρ=[some (.val (.lst (cells.map D.int))),some (.val (.int m)),some (.own (rs.map Bs)),s3,s4,s5,s6,s7,s8,s9]/\rs.length<=i/\∀r∈rs,J4 m r) ⟨by omega,[],none,none,none,none,none,none,none,rfl,by simp,λ r hr=>by cases hr⟩ ?_ ?_
  ·rintro i d ρ hd ⟨_,rs,s3,s4,s5,s6,s7,s8,s9,rfl,ce,Ar⟩;obtain⟨aB,hi⟩:=BE hd;rw[zc5] at aB;subst aB;have hq:cells[i]?=some cells[i]:=z4 hi;have aj:=bv _ (zbt hi);have x1:AR (.lst (cells.map D.int)) (.int (i:Int))=.ok (.int cells[i]):=I9 (by omega) (by rw[zat];exact hq);obtain⟨v,v0,hv⟩:=Dn cells[i] i (by omega) (by omega);obtain⟨g,g0,hg⟩:=Rv cells[i] i aj (by omega) (by omega);have aH:(rs.map Bs).length<1000:=by rw[zu];omega
   refine⟨_,rfl,?_⟩;apply wp_step
   ·simp_arith[x1,hv];rfl
   try simp only[zC,z5]
   apply wp_step
   ·simp_arith[x1,hg];rfl
   try simp only[zC,z5]
   have d7:Lh (.int v) (.int 7)=.ok (.int (v / 7)):=Fc ⟨by decide,by decide⟩;have q7:ED (.int v) (.int 7)=.ok (.int (v%7)):=AZ (by decide);by_cases hm:(1:Int)<(m:Int)
   ·have dl:(0:Int)<(m:Int):=by omega
    have j8:(0:Int)<(m:Int)-1:=by omega
    by_cases hz:(0:Int)<((rs.map Bs).length:Int)/\v%7=3
    ·have hlen:0<(rs.map Bs).length:=by omega
     obtain⟨p1,y,hy,p2⟩:=cG hlen (show 0<=v / 7 by omega);obtain⟨r,aX,rfl⟩:=zS.mp hy;refine B4 (ρ':=[some (.val (.lst (cells.map D.int))),some (.val (.int m)),some (.own ((rs++[r]).map Bs)),some (.val (.int i)),some (.val (.int v)),some (.val (.int g)),s6,s7,s8,s9]) ?_ ⟨by omega,rs++[r],_,_,_,_,_,_,_,rfl,by simp;omega,λ r2 j9=>by
      rcases zJ.mp j9 with h|h
      ·exact Ar r2 h
      ·rw[zy.mp h];exact Ar r aX⟩
     simp_arith[decide_eq_true hm,decide_eq_true hz.1,q7,decide_eq_true hz.2,d7,p1,p2,if_pos aH,if_true];rw[zK];rfl
    ·obtain⟨o,ho⟩:∃o,o=v / 7%(m:Int):=⟨_,rfl⟩;obtain⟨o',bp⟩:∃o',o'=(o+1+v / 112%((m:Int)-1))%(m:Int):=⟨_,rfl⟩;have o0:0<=o:=by rw[ho];exact zbf _ (by omega)
     have o1:o<m:=by rw[ho];exact zb9 _ dl
     have p0:0<=o':=by rw[bp];exact zbf _ (by omega)
     have p1:o'<m:=by rw[bp];exact zb9 _ dl
     have s0:0<=v / 112%((m:Int)-1):=zbf _ (by omega);have s1:v / 112%((m:Int)-1)<(m:Int)-1:=zb9 _ j8;have iu:o≠o':=by
      have:=oU (a:=o) (s:=1+v / 112%((m:Int)-1)) (m:=m) o0 o1 (by omega) (by omega);rw[bp,zc9];exact λ z=>this z.symm
     have kc:Lh (.int v) (.int 112)=.ok (.int (v / 112)):=Fc ⟨by decide,by decide⟩;have ez:Lh (.int v) (.int 8064)=.ok (.int (v / 8064)):=Fc ⟨by decide,by decide⟩;have e7:Lh (.int v) (.int 1008)=.ok (.int (v / 1008)):=Fc ⟨by decide,by decide⟩;have q1:ED (.int (v / 7)) (.int (m:Int))=.ok (.int o):=by rw[ho];exact AZ dl
     have q2:ED (.int (v / 112)) (.int ((m:Int)-1))=.ok (.int (v / 112%((m:Int)-1))):=AZ j8;have q3:ED (.int (o+1+v / 112%((m:Int)-1))) (.int (m:Int))=.ok (.int o'):=by rw[bp];exact AZ dl
     have q4:ED (.int (v / 8064)) (.int 3)=.ok (.int (v / 8064%3)):=AZ (by decide);have q5:ED (.int (v / 8064)) (.int 100)=.ok (.int (v / 8064%100)):=AZ (by decide);have q6:ED (.int (v / 1008)) (.int 8)=.ok (.int (v / 1008%8)):=AZ (by decide);have q8:ED (.int (v / 8064)) (.int 5)=.ok (.int (v / 8064%5)):=AZ (by decide);have q9:ED (.int v) (.int 2)=.ok (.int (v%2)):=AZ (by decide);obtain⟨l,ao,l0⟩:=pS (a:=v / 8064%3) (b:=v / 8064%100) (g:=g) (i:=v / 1008%8) (by omega) (by omega) g0 (by omega) (by omega);obtain⟨w,t8,w0⟩:=pT (a:=v / 8064%5) (b:=g) (i:=v%2) (by omega) g0 (by omega) (by omega);have t9:D.tup [.int o,.int o',GW l,.int w]=Bs ⟨o,o',l,w⟩:=rfl;rcases Classical.em ((0:Int)<((rs.map Bs).length:Int)) with bu|bu
     ·have n6:¬ v%7=3:=λ z=>hz ⟨bu,z⟩;simp_arith[decide_eq_true hm,decide_eq_true bu,q7,decide_eq_false n6,zR,if_false,if_true];apply wp_step
      ·simp_arith[d7,q1];rfl
      apply wp_step
      ·simp_arith[kc,q2,q3];rfl
      apply wp_step
      ·simp_arith[ez];rfl
      apply wp_step
      ·simp_arith[q4,q5,e7,q6,ao];rfl
      refine B4 (ρ':=[some (.val (.lst (cells.map D.int))),some (.val (.int m)),some (.own ((rs++[(⟨o,o',l,w⟩:Road)]).map Bs)),some (.val (.int i)),some (.val (.int v)),some (.val (.int g)),some (.val (.int o)),some (.val (.int o')),some (.val (.int (v / 8064))),some (.val (GW l))]) (by simp_arith[q8,q9,t8,t9,if_pos aH,zK,zx,zbr]) ⟨by omega,_,_,_,_,_,_,_,_,rfl,by simp;omega,λ r2 j9=>by
       rcases zJ.mp j9 with h|h
       ·exact Ar r2 h
       ·rw[zy.mp h];exact⟨o0,o1,p0,p1,iu,l0,w0.1,w0.2⟩⟩
     ·simp_arith[decide_eq_true hm,decide_eq_false bu,zR,if_false,if_true];apply wp_step
      ·simp_arith[d7,q1];rfl
      apply wp_step
      ·simp_arith[kc,q2,q3];rfl
      apply wp_step
      ·simp_arith[ez];rfl
      apply wp_step
      ·simp_arith[q4,q5,e7,q6,ao];rfl
      refine B4 (ρ':=[some (.val (.lst (cells.map D.int))),some (.val (.int m)),some (.own ((rs++[(⟨o,o',l,w⟩:Road)]).map Bs)),some (.val (.int i)),some (.val (.int v)),some (.val (.int g)),some (.val (.int o)),some (.val (.int o')),some (.val (.int (v / 8064))),some (.val (GW l))]) (by simp_arith[q8,q9,t8,t9,if_pos aH,zK,zx,zbr]) ⟨by omega,_,_,_,_,_,_,_,_,rfl,by simp;omega,λ r2 j9=>by
       rcases zJ.mp j9 with h|h
       ·exact Ar r2 h
       ·rw[zy.mp h];exact⟨o0,o1,p0,p1,iu,l0,w0.1,w0.2⟩⟩
   ·refine B4 (ρ':=_) (by simp_arith[decide_eq_false hm];rfl) ⟨by omega,rs,_,_,_,_,_,_,_,rfl,by omega,Ar⟩
  ·rintro ρ ⟨_,rs,s3,s4,s5,s6,s7,s8,s9,rfl,ce,Ar⟩;rw[Bd] at ce;exact⟨rs,s3,s4,s5,s6,s7,s8,s9,rfl,ce,Ar⟩
 ·rintro ρ ⟨rs,s3,s4,s5,s6,s7,s8,s9,rfl,ce,Ar⟩;exact⟨_,rfl,rs,rfl,ce,Ar⟩
abbrev NY:List D->M OT:=z3 G0
def Rw:Txt K mg->BB P w K mg base "_law_roads" 2 2 NY:=(zt G0).1
def Rx:∀(cells:List Int) (m:Nat),1<=m->m<=16->cells.length<=60->(∀c∈cells,Sm c)->∃rs:List Road,rs.length<=cells.length/\(∀r∈rs,J4 m r)/\NY [.lst (cells.map D.int),.int m]=.ok (.lst ((rs.map Bs).map .sh)):=(zt G0).2
def G3:∃F:List D->M OT,(∀ {P w K mg base},Txt K mg->BB P w K mg base "_law_order" 2 2 F)/\(∀(c:Int) (m:Nat),m<=60->∃L:List Int,L.Perm (B3 m)/\F [.int c,.int m]=.ok (.lst ((L.map D.int).map .sh))):=by
 refine⟨_,λ T=>Aw (k:=1) T.Tn FI _ (λ f B7 A outer s H E hr=>(A3 (Bw 2 FI.nd rfl (za1 rfl) (FC CT)) (A3 (Bf A8.toXCall.own rfl (C2 (c:=true) rfl T.Cw (A1 1 (pv 1))) (AK 3 FI.nd rfl (za1 rfl)) (A5 (Xa 2 (pv 2) (BK (Ag (Ab A8.toXCall (Dm T) (hr.mono (by decide)) rfl (A2 (A1 0 (pv 0)) (A2 (BU A7 (A1 3 (pv 3))) A6)) rfl)) (BU (A1 3 (pv 3)) A7)) (A1 3 (pv 3))))) (A5 (Cv 2 (pv 2)))))),?_⟩;intro c m hm;have e0:AE ["_law_cell","_law_many","_law_order_here","_law_place"] [.int c,.int m]=[some (.val (.int c)),some (.val (.int m)),none,none]:=rfl;rw[e0];refine (λ h:∃t,_/\∃L:List Int,t=OT.lst ((L.map D.int).map .sh)/\L.Perm (B3 m)=>by
  obtain⟨t,h1,L,rfl,h2⟩:=h;exact⟨L,h2,h1⟩) (Ll ?_)
 have hr:=F8 (n:=m) (by omega);apply wp_step
 ·rfl
 try simp only[zC,z5]
 refine BL (I:=λ ρ=>∃(L:List Int) (s3:Option Cl),ρ=[some (.val (.int c)),some (.val (.int m)),some (.own (L.map D.int)),s3]/\L.Perm (B3 m)) ?_ ?_
 ·simp_arith[hr];refine Bh (λ i ρ=>i<=m/\∃(L:List Int) (s3:Option Cl),ρ=[some (.val (.int c)),some (.val (.int m)),some (.own (L.map D.int)),s3]/\L.Perm (B3 i)) ⟨za6 _,[],none,rfl,.refl _⟩ ?_ ?_
  ·rintro i d ρ hd ⟨_,L,s3,rfl,hL⟩;obtain⟨aB,hi⟩:=BE hd;rw[zc5] at aB;subst aB;have hlen:=Ff hL;refine⟨_,rfl,?_⟩;obtain⟨v,v0,hv⟩:=Dn c (40+i) (by omega) (by omega);have bK:ED (.int v) (.int ((i:Int)+1))=.ok (.int (v%((i:Int)+1))):=AZ (by omega);have b0:0<=v%((i:Int)+1):=zbf _ (by omega);have b1:v%((i:Int)+1)<(i:Int)+1:=zb9 _ (by omega);refine B4 (ρ':=[some (.val (.int c)),some (.val (.int m)),some (.own ((L.take (v%((i:Int)+1)).toNat++(i:Int)::L.drop (v%((i:Int)+1)).toNat).map D.int)),some (.val (.int i))]) ?_ ⟨by omega,_,_,rfl,XB hL _⟩;simp_arith[hv,bK];rw[if_pos ⟨b0,by rw[zu];omega,by rw[zu];omega⟩];simp only[zK,zx,List.map_take,List.map_drop];rfl
  ·rintro ρ ⟨_,L,s3,rfl,hL⟩;exact⟨L,s3,rfl,by rw[Bd] at hL;exact hL⟩
 ·rintro ρ ⟨L,s3,rfl,hL⟩;exact⟨_,rfl,L,rfl,hL⟩
abbrev NZ:List D->M OT:=z3 G3
def Ry:Txt K mg->BB P w K mg base "_law_order" 2 2 NZ:=(zt G3).1
def Rz:∀(c:Int) (m:Nat),m<=60->∃L:List Int,L.Perm (B3 m)/\NZ [.int c,.int m]=.ok (.lst ((L.map D.int).map .sh)):=(zt G3).2
def G4:∃F:List D->M OT,(∀ {P w K mg base},Txt K mg->BB P w K mg base "_law_added" 1 2 F)/\(∀a b:Co,F [cst a,cst b]=.ok (.sh (cst (Aj a b)))):=by
 refine⟨_,λ T=>Aw (k:=0) T.To R9 _ (λ f B7 A outer s H E hr=>(A3 (Ba (DW.dt (Ec (GD (c:=true) (A1 0 (pv 0))) (Dc (GD (c:=true) (A1 1 (pv 1)))))) (A5 (Ak (AX CQ))) As) (A5 (Ak (AX (AD (A2 (BU (Aa (AM hr 16 (by decide)) (A1 0 (pv 0)) A7) (Aa (AM hr 16 (by decide)) (A1 1 (pv 1)) A7)) (A2 (BU (Aa (AM hr 16 (by decide)) (A1 0 (pv 0)) A7) (Aa (AM hr 16 (by decide)) (A1 1 (pv 1)) A7)) A6)))))))),?_⟩;intro a b;rcases a with _|⟨a1,a2⟩<;>rcases b with _|⟨b1,b2⟩<;>rfl
abbrev O0:List D->M OT:=z3 G4
def Ku:Txt K mg->BB P w K mg base "_law_added" 1 2 O0:=(zt G4).1
def Kv:∀a b:Co,O0 [cst a,cst b]=.ok (.sh (cst (Aj a b))):=(zt G4).2
def G5:∃F:List D->M OT,(∀ {P w K mg base},Txt K mg->BB P w K mg base "_law_least" 1 1 F)/\(∀cs:List Co,cs.length<=1000->F [.lst (cs.map cst)]=.ok (.sh (cst (FG cs)))):=by
 refine⟨_,λ T=>Aw (k:=0) T.Tp Ra _ (λ f B7 A outer s H E hr=>(A5 (Ak (AX (VH rfl (AM hr 1 (by decide)) rfl T.Wy (Ag (CU (NB:=["_law_cost"]) [none] rfl (AU (A1 0 (pv 0))) rfl rfl (Ca 0 (by decide) rfl rfl rfl) (λ _ _ _ _=>Fy (HD (c:=true) (A1 0 (pv 0)))) (λ _ _ _ _=>(A1 0 (pv 0))))) CQ))))),?_⟩;intro cs hc;have e0:∀x:D,AE ["_law_some"] [x]=[some (.val x)]:=λ x=>rfl;rw[e0];refine Bb ?_;have hl:(cs.map cst).length<=1000:=by rw[zu];exact hc
 have ww:=SD cs;have qi:=We cs;simp_arith[if_pos hl];rw[GV];simp_arith[qi];rfl
abbrev G6:List D->M OT:=z3 G5
def Kw:Txt K mg->BB P w K mg base "_law_least" 1 1 G6:=(zt G5).1
def Kx:∀cs:List Co,cs.length<=1000->G6 [.lst (cs.map cst)]=.ok (.sh (cst (FG cs))):=(zt G5).2
def Hz:∃F:List D->M OT,(∀ {P w K mg base},Txt K mg->BB P w K mg base "_law_open" 1 1 F)/\(∀r:Road,F [Bs r]=.ok (.sh (cst (Cd r)))):=by
 refine⟨_,λ T=>Aw (k:=0) T.V5 Ta _ (λ f B7 A outer s H E hr=>(A3 (Ba (GD (c:=true) (Aa (AM hr 16 (by decide)) (A1 0 (pv 0)) A7)) (A5 (Ak (AX CQ))) As) (A5 (Ak (AX (AD (A2 (Aa (AM hr 16 (by decide)) (A1 0 (pv 0)) A7) (A2 A7 A6)))))))),?_⟩;intro r;obtain⟨a,b,l,w⟩:=r;cases l<;>rfl
abbrev Q0:List D->M OT:=z3 Hz
def TM:Txt K mg->BB P w K mg base "_law_open" 1 1 Q0:=(zt Hz).1
def TN:∀r:Road,Q0 [Bs r]=.ok (.sh (cst (Cd r))):=(zt Hz).2
def G7:∃F:List D->M OT,(∀ {P w K mg base},Txt K mg->BB P w K mg base "_law_costs" 2 2 F)/\(∀(m:Nat) (rs:List Road),m<=900->rs.length<=900->(∀r∈rs,GX m r)->∃ac:List (List Co),QF m ac/\(∀x y:Int,0<=x->x<m->0<=y->y<m->BN rs x y (at2 ac x y))/\∃t,F [.lst (rs.map Bs),.int m]=.ok t/\er t=.lst ((AI ac).map D.lst)):=by
 refine⟨_,λ T=>Aw (k:=1) T.Tq By _ (λ f B7 A outer s H E hr=>(A3 (gL 2 By.nd rfl (za1 rfl)) (A3 (Bf A8.toXCall.own rfl (C2 (c:=true) rfl T.Cw (A1 1 (pv 1))) (AK 3 By.nd rfl (za1 rfl)) (A3 (Bw 5 By.nd rfl (za1 rfl) (UE CQ (A1 1 (pv 1)))) (A3 (MW 5 (pv 5) (AD (A2 A7 (A2 A7 A6))) (A1 3 (pv 3))) (A3 (Bf A8.toXCall.own rfl (AU (A1 0 (pv 0))) (AK 6 By.nd rfl (za1 rfl)) (A5 (Ba (Li (c:=true) (AM hr 16 (by decide)) (Aa (AM hr 16 (by decide)) (A1 6 (pv 6)) A7) (A1 3 (pv 3))) (A5 (MW 5 (pv 5) (Ag (Eg (Ab A8.toXCall (Kw T) (hr.mono (by decide)) rfl (A2 (EO (A2 (Aa (AM hr 16 (by decide)) (A1 5 (pv 5)) (Aa (AM hr 16 (by decide)) (A1 6 (pv 6)) A7)) (A2 (Ag (Ab A8.toXCall (TM T) (hr.mono (by decide)) rfl (A2 (A1 6 (pv 6)) A6) rfl)) A6))) A6) rfl))) (Aa (AM hr 16 (by decide)) (A1 6 (pv 6)) A7))) As))) (A5 (gM 2 5 (pv 2) (pv 5))))))) (A3 (Bf A8.toXCall.own rfl (C2 (c:=true) rfl T.Cw (A1 1 (pv 1))) (AK 4 By.nd rfl (za1 rfl)) (A5 (Bf A8.toXCall.own rfl (C2 (c:=true) rfl T.Cw (A1 1 (pv 1))) (AK 3 By.nd rfl (za1 rfl)) (A5 (Bf A8.toXCall.own rfl (C2 (c:=true) rfl T.Cw (A1 1 (pv 1))) (AK 7 By.nd rfl (za1 rfl)) (A5 (gQ 2 (pv 2) (Ag (Ab A8.toXCall (Kw T) (hr.mono (by decide)) rfl (A2 (EO (A2 (Ux 2 (pv 2) (A1 3 (pv 3)) (A1 7 (pv 7))) (A2 (Ag (Ab A8.toXCall (Ku T) (hr.mono (by decide)) rfl (A2 (Ux 2 (pv 2) (A1 3 (pv 3)) (A1 4 (pv 4))) (A2 (Ux 2 (pv 2) (A1 4 (pv 4)) (A1 7 (pv 7))) A6)) rfl)) A6))) A6) rfl)) (A1 3 (pv 3)) (A1 7 (pv 7))))))))) (A5 (Cv 2 (pv 2))))))),?_⟩;intro m rs hm ce Ar;have e0:AE ["_law_roads_here","_law_many","_law_costs_here","_law_u","_law_v","_law_row","_law_road","_law_w"] [.lst (rs.map Bs),.int m]=[some (.val (.lst (rs.map Bs))),some (.val (.int m)),none,none,none,none,none,none]:=rfl;rw[e0];refine (λ h:∃t,_/\∃ac:List (List Co),QF m ac/\(∀x y:Int,0<=x->x<m->0<=y->y<m->BN rs x y (at2 ac x y))/\er t=.lst ((AI ac).map D.lst)=>by
  obtain⟨t,h1,ac,h2,h3,h4⟩:=h;exact⟨ac,h2,h3,t,h1,h4⟩) (Ll ?_)
 have dm:=F8 (n:=m) (by omega);refine wp_step (ρ':=[some (.val (.lst (rs.map Bs))),some (.val (.int m)),some (.ow (.rows [])),none,none,none,none,none]) rfl ?_;refine BL (I:=λ ρ=>∃(ac:List (List Co)) (s3 s5 s6:Option Cl),ρ=[some (.val (.lst (rs.map Bs))),some (.val (.int m)),some (.ow (.rows (AI ac))),s3,none,s5,s6,none]/\ac.length=m/\∀u:Nat,u<m->Nf m rs u rs.length (ac.getD u [])) ?_ ?_
 ·simp_arith[dm];refine Bh (λ i ρ=>∃(ac:List (List Co)) (s3 s5 s6:Option Cl),ρ=[some (.val (.lst (rs.map Bs))),some (.val (.int m)),some (.ow (.rows (AI ac))),s3,none,s5,s6,none]/\ac.length=i/\∀u:Nat,u<i->Nf m rs u rs.length (ac.getD u [])) ⟨[],none,none,none,rfl,rfl,λ u h=>by omega⟩ ?_ ?_
  ·rintro i d ρ hd ⟨ac,s3,s5,s6,rfl,bP,ba⟩;obtain⟨aB,hi⟩:=BE hd;rw[zc5] at aB;subst aB;refine⟨_,rfl,?_⟩;have bo:=N7 (d:=.AL) (n:=m) (by omega);have cb:zE m D.AL=(zE m (none:Co)).map cst:=by rw[List.map_replicate];rfl
   rw[cb] at bo;apply wp_step
   ·simp_arith[bo];rfl
   try simp only[zC,z5]
   have a6:=Kc (i:=5) (ρ:=[some (.val (.lst (rs.map Bs))),some (.val (.int m)),some (.ow (.rows (AI ac))),some (.val (.int i)),none,some (.own ((zE m (none:Co)).map cst)),s6,none]) (d:=.tup [.int 0,.int 0]) (p:=(i:Int)) rfl (by omega) (by rw[zu,zc0];omega);have aZ:((zE m (none:Co)).map cst).set (i:Int).toNat (.tup [.int 0,.int 0])=((zE m none).set i (some (0,0))).map cst:=by rw[zat,List.map_set];rfl
   rw[aZ] at a6;apply wp_step
   ·simp_arith[a6];rfl
   try simp only[zC,z5]
   refine BL (I:=λ ρ=>∃(R:List Co) (s6:Option Cl),ρ=[some (.val (.lst (rs.map Bs))),some (.val (.int m)),some (.ow (.rows (AI ac))),some (.val (.int i)),none,some (.own (R.map cst)),s6,none]/\Nf m rs i rs.length R) ?_ ?_
   ·simp_arith[];refine Bh (λ j ρ=>∃(R:List Co) (s6:Option Cl),ρ=[some (.val (.lst (rs.map Bs))),some (.val (.int m)),some (.ow (.rows (AI ac))),some (.val (.int i)),none,some (.own (R.map cst)),s6,none]/\Nf m rs i j R) ⟨_,s6,rfl,Xw rs hi⟩ ?_ ?_
    ·rintro j d ρ hd ⟨R,s6,rfl,g⟩;obtain⟨r,hq,rfl⟩:=BM hd;have hr:=zI hq;have ok:=Ar r hr;have r0:AR (Bs r) (.int 0)=.ok (.int r.a):=rfl;have r1:AR (Bs r) (.int 1)=.ok (.int r.b):=rfl;have bE:r.b<R.length:=by rw[g.len];exact ok.b1
     have x1:AR (.lst (R.map cst)) (.int r.b)=.ok (cst (atC R r.b)):=Ce ok.b0 bE;have xg:=TN r;have hle:G6 [.lst [cst (atC R r.b),cst (Cd r)]]=.ok (.sh (cst (DQ (atC R r.b) (Cd r)))):=Kx [atC R r.b,Cd r] (by simp);refine⟨_,rfl,?_⟩;by_cases hu:r.a=(i:Int)
     ·have a6:=Kc (i:=5) (ρ:=[some (.val (.lst (rs.map Bs))),some (.val (.int m)),some (.ow (.rows (AI ac))),some (.val (.int i)),none,some (.own (R.map cst)),some (.val (Bs r)),none]) (d:=cst (DQ (atC R r.b) (Cd r))) (p:=r.b) rfl ok.b0 (by rw[zu];exact bE);have aZ:(R.map cst).set r.b.toNat (cst (DQ (atC R r.b) (Cd r)))=(R.set r.b.toNat (DQ (atC R r.b) (Cd r))).map cst:=by rw[List.map_set]
      rw[aZ] at a6;refine B4 (ρ':=[some (.val (.lst (rs.map Bs))),some (.val (.int m)),some (.ow (.rows (AI ac))),some (.val (.int i)),none,some (.own ((R.set r.b.toNat (DQ (atC R r.b) (Cd r))).map cst)),some (.val (Bs r)),none]) (by simp_arith[r0,r1,decide_eq_true hu,x1,xg,hle,a6];rfl) ⟨_,_,rfl,ZZ g hq hu Ar⟩
     ·refine B4 (ρ':=_) (by simp_arith[r0,decide_eq_false hu];rfl) ⟨_,_,rfl,ZY g hq hu⟩
    ·rintro ρ ⟨R,s6,rfl,g⟩;rw[zu] at g;exact⟨R,s6,rfl,g⟩
   ·rintro ρ ⟨R,s6,rfl,g⟩;have hl:(AI ac).length<1000/\2≠5:=⟨by unfold AI;rw[zu];omega,by decide⟩;refine B4 (ρ':=[some (.val (.lst (rs.map Bs))),some (.val (.int m)),some (.ow (.rows (AI (ac++[R])))),some (.val (.int i)),none,none,s6,none]) ?_ ⟨_,_,_,_,rfl,by simp[bP],λ u hu=>?_⟩
    ·simp only[Zg,zaw,za0,if_pos hl,zC,z5];unfold AI;rw[zK];rfl
    ·by_cases h:u=i
     ·subst h;have e:(ac++[R]).getD u []=R:=by rw[zH,zb4 (by omega)];simp[bP]
      rw[e];exact g
     ·have e:(ac++[R]).getD u []=ac.getD u []:=by rw[zH,zar (by omega),zH]
      rw[e];exact ba u (by omega)
  ·rintro ρ ⟨ac,s3,s5,s6,rfl,bP,ba⟩;rw[Bd] at bP ba;exact⟨ac,s3,s5,s6,rfl,bP,ba⟩
 rintro ρ ⟨ac,s3,s5,s6,rfl,bP,ba⟩;have hM:QF m ac:=⟨bP,λ R hR=>by
  obtain⟨u,hu,e⟩:=List.getElem_of_mem hR;have:=(ba u (by omega)).len;rw[zH,z4 hu] at this;rw[<-e];exact this⟩
 have hF:=bZ hM Ar ba;refine BL (I:=λ ρ=>∃(ac:List (List Co)) (s3 s4 s5 s6 s7:Option Cl),ρ=[some (.val (.lst (rs.map Bs))),some (.val (.int m)),some (.ow (.rows (AI ac))),s3,s4,s5,s6,s7]/\QF m ac/\FW m m rs (at2 ac)) ?_ ?_
 ·simp_arith[dm];refine Bh (λ k ρ=>∃(ac:List (List Co)) (s3 s4 s5 s6 s7:Option Cl),ρ=[some (.val (.lst (rs.map Bs))),some (.val (.int m)),some (.ow (.rows (AI ac))),s3,s4,s5,s6,s7]/\QF m ac/\FW m k rs (at2 ac)) ⟨ac,s3,none,s5,s6,none,rfl,hM,hF⟩ ?_ ?_
  ·rintro k d ρ hd ⟨av,s3,s4,s5,s6,s7,rfl,xh,ke⟩;obtain⟨aB,hk⟩:=BE hd;rw[zc5] at aB;subst aB;refine⟨_,rfl,?_⟩;have k0:(0:Int)<=k:=by omega
   have k1:(k:Int)<m:=by omega
   have oc:=SG ke hk;have orr:=SH ke hk;simp_arith[dm];refine Bh (λ u ρ=>∃(ac:List (List Co)) (s3 s5 s6 s7:Option Cl),ρ=[some (.val (.lst (rs.map Bs))),some (.val (.int m)),some (.ow (.rows (AI ac))),s3,some (.val (.int k)),s5,s6,s7]/\QF m ac/\∀x y:Int,0<=x->x<m->0<=y->y<m->at2 ac x y=if x<u then over k (at2 av) x y else at2 av x y) ⟨av,s3,s5,s6,s7,rfl,xh,λ x y h0 h1 h2 h3=>by rw[if_neg (by omega)]⟩ ?_ ?_
   ·rintro u d ρ hd ⟨bB,s3,s5,s6,s7,rfl,ie,l9⟩;obtain⟨aB,hu⟩:=BE hd;rw[zc5] at aB;subst aB;have u0:(0:Int)<=u:=by omega
    have u1:(u:Int)<m:=by omega
    refine⟨_,rfl,?_⟩;simp_arith[dm];refine Bh (λ w ρ=>∃(ac:List (List Co)) (s5 s6 s7:Option Cl),ρ=[some (.val (.lst (rs.map Bs))),some (.val (.int m)),some (.ow (.rows (AI ac))),some (.val (.int u)),some (.val (.int k)),s5,s6,s7]/\QF m ac/\∀x y:Int,0<=x->x<m->0<=y->y<m->at2 ac x y=if x<u\/(x=u/\y<w) then over k (at2 av) x y else at2 av x y) ⟨bB,s5,s6,s7,rfl,ie,λ x y h0 h1 h2 h3=>by
     rw[l9 x y h0 h1 h2 h3];by_cases h:x<u
     ·rw[if_pos h,if_pos (.inl h)]
     ·rw[if_neg h,if_neg (by omega)]⟩ ?_ ?_
    ·rintro w d ρ hd ⟨aL,s5,s6,s7,rfl,ig,ii⟩;obtain⟨aB,hw⟩:=BE hd;rw[zc5] at aB;subst aB;have w0:(0:Int)<=w:=by omega
     have w1:(w:Int)<m:=by omega
     have a1:at2 aL u w=at2 av u w:=by rw[ii u w u0 u1 w0 w1,if_neg (by omega)]
     have a2:at2 aL u k=at2 av u k:=by
      rw[ii u k u0 u1 k0 k1];split
      ·exact oc u
      ·rfl
     have a3:at2 aL k w=at2 av k w:=by
      rw[ii k w k0 k1 w0 w1];split
      ·exact orr w
      ·rfl
     obtain⟨xi,hP⟩:=ig.put u0 u1 w0 w1 (over k (at2 av) u w);obtain⟨R0,zk⟩:∃R0:Ae,R0=[some (.val (.lst (rs.map Bs))),some (.val (.int m)),some (.ow (.rows (AI aL))),some (.val (.int u)),some (.val (.int k)),s5,s6,some (.val (.int w))]:=⟨_,rfl⟩;have c1:=UQ (ρ:=[some (.val (.lst (rs.map Bs))),some (.val (.int m)),some (.ow (.rows (AI aL))),some (.val (.int u)),some (.val (.int k)),s5,s6,some (.val (.int w))]) (i:=2) rfl ig u0 u1 w0 w1;have c2:=UQ (ρ:=[some (.val (.lst (rs.map Bs))),some (.val (.int m)),some (.ow (.rows (AI aL))),some (.val (.int u)),some (.val (.int k)),s5,s6,some (.val (.int w))]) (i:=2) rfl ig u0 u1 k0 k1;have c3:=UQ (ρ:=[some (.val (.lst (rs.map Bs))),some (.val (.int m)),some (.ow (.rows (AI aL))),some (.val (.int u)),some (.val (.int k)),s5,s6,some (.val (.int w))]) (i:=2) rfl ig k0 k1 w0 w1;rw[a1] at c1;rw[a2] at c2;rw[a3] at c3;have di:=Kv (at2 av u k) (at2 av k w);have hle:G6 [.lst [cst (at2 av u w),cst (Aj (at2 av u k) (at2 av k w))]]=.ok (.sh (cst (over k (at2 av) u w))):=Kx [at2 av u w,Aj (at2 av u k) (at2 av k w)] (by simp);have pj:=kB (ρ:=[some (.val (.lst (rs.map Bs))),some (.val (.int m)),some (.ow (.rows (AI aL))),some (.val (.int u)),some (.val (.int k)),s5,s6,some (.val (.int w))]) (i:=2) (v:=over k (at2 av) u w) rfl ig u0 u1 w0 w1;refine⟨_,rfl,?_⟩;refine B4 (ρ':=[some (.val (.lst (rs.map Bs))),some (.val (.int m)),some (.ow (.rows (AI (put2 aL u w (over k (at2 av) u w))))),some (.val (.int u)),some (.val (.int k)),s5,s6,some (.val (.int w))]) (by simp_arith[c1,c2,c3,di,hle,pj]) ⟨_,_,_,_,rfl,xi,λ x y h0 h1 h2 h3=>?_⟩;rw[hP x y h0 h2];by_cases h:x=u/\y=w
     ·rw[if_pos h,if_pos (by omega),h.1,h.2]
     ·rw[if_neg h,ii x y h0 h1 h2 h3];by_cases h':x<u\/(x=u/\y<w)
      ·rw[if_pos h',if_pos (by omega)]
      ·rw[if_neg h',if_neg (by omega)]
    ·rintro ρ ⟨aL,s5,s6,s7,rfl,ig,ii⟩;rw[Bd] at ii;refine⟨aL,_,_,_,_,rfl,ig,λ x y h0 h1 h2 h3=>?_⟩;rw[ii x y h0 h1 h2 h3];by_cases h:x<u\/(x=u/\y<m)
     ·rw[if_pos h,if_pos (by omega)]
     ·rw[if_neg h,if_neg (by omega)]
   ·rintro ρ ⟨bB,s3,s5,s6,s7,rfl,ie,l9⟩;rw[Bd] at l9;refine⟨bB,_,_,_,_,_,rfl,ie,(ZX ke hk).congr (by omega) Ar λ x y h0 h1 h2 h3=>?_⟩;rw[l9 x y h0 h1 h2 h3,if_pos h1]
  ·rintro ρ ⟨bB,s3,s4,s5,s6,s7,rfl,ie,dL⟩;rw[Bd] at dL;exact⟨bB,s3,s4,s5,s6,s7,rfl,ie,dL⟩
 ·rintro ρ ⟨bB,s3,s4,s5,s6,s7,rfl,ie,dL⟩;refine⟨_,rfl,bB,ie,λ x y h0 h1 h2 h3=>pC dL Ar h0 h1 h2 h3,?_⟩;rw[er,Qm,zak];congr 1;refine zbs λ R _=>?_;dsimp only [Function.comp];rw[J2]
abbrev O1:List D->M OT:=z3 G7
def RB:Txt K mg->BB P w K mg base "_law_costs" 2 2 O1:=(zt G7).1
def RC:∀(m:Nat) (rs:List Road),m<=900->rs.length<=900->(∀r∈rs,GX m r)->∃ac:List (List Co),QF m ac/\(∀x y:Int,0<=x->x<m->0<=y->y<m->BN rs x y (at2 ac x y))/\∃t,O1 [.lst (rs.map Bs),.int m]=.ok t/\er t=.lst ((AI ac).map D.lst):=(zt G7).2
def Je:∃F:List D->M OT,(∀ {P w K mg base},Txt K mg->BB P w K mg base "_law_due" 2 2 F)/\(∀(R1 R2:RA),(R2.map zX).Nodup->R1.length<=20->R2.length<=20->F [.lst (R1.map BS),.lst (R2.map BS)]=.ok (.sh (DC ((Bj R1 R2).foldl O5 none)))):=by
 refine⟨_,λ T=>Aw (k:=1) T.Y1 Dj _ (λ f B7 A outer s H E hr=>(A3 (Bw 2 Dj.nd rfl (za1 rfl) (FC CT)) (A3 (Bf A8.toXCall.own rfl (C2 (c:=true) rfl T.Cw (Dd rfl T.Fm (A1 0 (pv 0)))) (AK 3 Dj.nd rfl (za1 rfl)) (A5 (Bf A8.toXCall.own rfl (AU (A1 1 (pv 1))) (Qp (n:=2) rfl (Dv (AK 5 Dj.nd rfl (za1 rfl)) (Dv (AK 6 Dj.nd rfl (za1 rfl)) M5))) (A5 (Ba (Li (c:=true) (AM hr 16 (by decide)) (A1 5 (pv 5)) (Aa (AM hr 16 (by decide)) (Aa (AM hr 16 (by decide)) (A1 0 (pv 0)) (A1 3 (pv 3))) A7)) (A5 (DY 2 (pv 2) (AD (A2 (Ag (Ab A8.toXCall (Ku T) (hr.mono (by decide)) rfl (A2 (Aa (AM hr 16 (by decide)) (Aa (AM hr 16 (by decide)) (A1 0 (pv 0)) (A1 3 (pv 3))) A7) (A2 (A1 6 (pv 6)) A6)) rfl)) (A2 (A1 3 (pv 3)) A6))))) As))))) (A3 (Ba (IW (Li (c:=true) (AM hr 16 (by decide)) (Dd rfl T.Fm (A1 2 (pv 2))) A7)) (A5 (Ak (AX CQ))) As) (A3 (AJ 4 Dj.nd rfl (za1 rfl) (VM (Zl (c:=true) (kK rfl (AM hr 16 (by decide)) rfl T.Wy (A1 2 (pv 2)))))) (A5 (Ak (AX (AD (A2 (Aa (AM hr 16 (by decide)) (A1 4 (pv 4)) A7) (A2 (Aa (AM hr 16 (by decide)) (Aa (AM hr 16 (by decide)) (A1 0 (pv 0)) (Aa (AM hr 16 (by decide)) (A1 4 (pv 4)) A7)) A7) A6))))))))))),?_⟩;intro R1 R2 hn h1 h2;have e0:AE ["_law_out","_law_into","_law_some","_law_k","_law_best","_law_hub","_law_cost"] [.lst (R1.map BS),.lst (R2.map BS)]=[some (.val (.lst (R1.map BS))),some (.val (.lst (R2.map BS))),none,none,none,none,none]:=rfl;rw[e0];refine Bb ?_;have j3:(((R1.map BS).length:Int))=(R1.length:Int):=by rw[zu]
 have ck:S8 (.int (R1.length:Int))=.ok (C9 0 R1.length):=F8 (by omega);have ub:∀ {k:Nat} {kv:Int×(Int×Int)},R1[k]?=some kv->AR (.lst (R1.map BS)) (.int (k:Int))=.ok (BS kv):=fun {k kv} h=>I9 (by omega) (by rw[zat];exact h);have j0:∀kv:Int×(Int×Int),AR (BS kv) (.int 0)=.ok (.int kv.1):=λ kv=>rfl;have j1:∀kv:Int×(Int×Int),AR (BS kv) (.int 1)=.ok (cst (some kv.2)):=λ kv=>rfl;apply wp_step
 ·rfl
 try simp only[zC,z5]
 refine BL (I:=λ ρ=>∃s3 s4 s5 s6:Option Cl,ρ=[some (.val (.lst (R1.map BS))),some (.val (.lst (R2.map BS))),some (.own ((Ij R1 R2 R1.length).map L6)),s3,s4,s5,s6]) ?_ ?_
 ·simp_arith[j3,ck];refine Bh (λ i ρ=>∃s3 s4 s5 s6:Option Cl,ρ=[some (.val (.lst (R1.map BS))),some (.val (.lst (R2.map BS))),some (.own ((Ij R1 R2 i).map L6)),s3,s4,s5,s6]) ⟨_,_,_,_,rfl⟩ ?_ ?_
  ·rintro i d ρ hd ⟨s3,s4,s5,s6,rfl⟩;obtain⟨aB,hi⟩:=BE hd;rw[zc5] at aB;subst aB;refine⟨_,rfl,?_⟩;obtain⟨kv,g9⟩:∃kv,R1[i]?=some kv:=⟨_,z4 (by omega)⟩;have x1:=ub g9;have iq:=dM R1 R2 i;rw[PJ];have eo:dJ R1 R2 i=(Ay R2 kv.1).map λ c=>((kv.2.1+c.1,kv.2.2+c.2),(i:Int)):=by unfold dJ;rw[g9];rfl
   rw[eo];simp_arith[];refine Bh (λ j ρ=>∃s5 s6:Option Cl,ρ=[some (.val (.lst (R1.map BS))),some (.val (.lst (R2.map BS))),some (.own ((Ij R1 R2 i++((Ay (R2.take j) kv.1).map λ c=>((kv.2.1+c.1,kv.2.2+c.2),(i:Int))).toList).map L6)),some (.val (.int i)),s4,s5,s6]) ⟨s5,s6,by rw[zca];simp only[Ay,Option.map_none,Option.toList_none,zV]⟩ ?_ ?_
   ·rintro j d ρ hd ⟨s5,s6,rfl⟩;rw[zU] at hd;obtain⟨kw,gc,rfl⟩:=zaq.mp hd;refine⟨_,rfl,?_⟩;have et:R2.take (j+1)=R2.take j++[kw]:=by rw[za4,gc];rfl
    have aN:Ay (R2.take j) kw.1=none:=by
     rw[Nj];intro hm;rw[List.map_take] at hm;obtain⟨n,gw,en⟩:=List.getElem_of_mem hm;rw[zaf] at gw;rw[List.getElem_take] at en;have hj:=(zG.mp gc).1;exact List.pairwise_iff_getElem.mp hn n j (by omega) (by rw[zu];exact hj) (by omega) (by
      rw[en,List.getElem_map];exact congrArg zX (zG.mp gc).2.symm)
    have di:=Kv (some kv.2) (some kw.2);rw[et,show kw=(kw.1,kw.2) from rfl,Ni _ _ _ _ aN];by_cases hc:kw.1=kv.1
    ·rw[if_pos hc.symm,<-hc,aN];have x2:=j0 kv;have x3:=j1 kv;rw[<-hc] at x2;have aH:((Ij R1 R2 i++((none:Option (Int×Int)).map λ c=>((kv.2.1+c.1,kv.2.2+c.2),(i:Int))).toList).map L6).length<1000:=by rw[zu];simp;omega
     refine B4 (ρ':=[some (.val (.lst (R1.map BS))),some (.val (.lst (R2.map BS))),some (.own ((Ij R1 R2 i++((some kw.2).map λ c=>((kv.2.1+c.1,kv.2.2+c.2),(i:Int))).toList).map L6)),some (.val (.int i)),s4,some (.val (.int kw.1)),some (.val (cst (some kw.2)))]) (by
      simp only[Option.map_none,Option.toList_none,zV,zb0,Option.toList_some,zK,List.map_singleton] at aH ⊢;simp_arith[x1,x2,x3,decide_true,di,if_pos aH];rfl) ⟨_,_,rfl⟩
    ·rw[if_neg λ z=>hc z.symm];have x2:=j0 kv;exact B4 (ρ':=[some (.val (.lst (R1.map BS))),some (.val (.lst (R2.map BS))),some (.own ((Ij R1 R2 i++((Ay (R2.take j) kv.1).map λ c=>((kv.2.1+c.1,kv.2.2+c.2),(i:Int))).toList).map L6)),some (.val (.int i)),s4,some (.val (.int kw.1)),some (.val (cst (some kw.2)))]) (by
      simp_arith[x1,x2,decide_eq_false hc];try rfl) ⟨_,_,rfl⟩
   ·rintro ρ ⟨s5,s6,rfl⟩;rw[zu,za5];exact⟨_,_,_,_,rfl⟩
  ·rintro ρ ⟨s3,s4,s5,s6,rfl⟩;rw[Bd];exact⟨_,_,_,_,rfl⟩
 rintro ρ ⟨s3,s4,s5,s6,rfl⟩;have key:=kL R1 R2 R1.length (zF _);rw[za5] at key;rcases key with ⟨k1,k2⟩|⟨c,k,h,v,k1,k2,k3,k4,k5⟩
 ·rw[k1,k2];rfl
 ·rw[k2];have hlen:decide ((((Ij R1 R2 R1.length).map L6).length:Int)=0)=false:=decide_eq_false λ z=>k5 (List.length_eq_zero_iff.mp (by rw[zu] at z;omega));have bn:SY [.lst ((Ij R1 R2 R1.length).map L6)]=.ok (L6 (c,(k:Int))):=by
   unfold SY;dsimp only;rw[T4];dsimp only;rw[k1];rfl
  have i0:AR (L6 (c,(k:Int))) (.int 0)=.ok (cst (some c)):=rfl;have i1:AR (L6 (c,(k:Int))) (.int 1)=.ok (.int k):=rfl;have x1:=ub k4;have x2:=j0 (h,v);apply wp_step
  ·simp_arith[hlen];rfl
  try simp only[zC,z5]
  refine wp_step (ρ':=[some (.val (.lst (R1.map BS))),some (.val (.lst (R2.map BS))),some (.own ((Ij R1 R2 R1.length).map L6)),s3,some (.val (L6 (c,(k:Int)))),s5,s6]) (by simp_arith[bn,uJ];try rfl) ?_;simp_arith[i0,i1,x1,x2];rfl
abbrev TQ:List D->M OT:=z3 Je
def Vf:Txt K mg->BB P w K mg base "_law_due" 2 2 TQ:=(zt Je).1
def Vg:∀(R1 R2:RA),(R2.map zX).Nodup->R1.length<=20->R2.length<=20->TQ [.lst (R1.map BS),.lst (R2.map BS)]=.ok (.sh (DC ((Bj R1 R2).foldl O5 none))):=(zt Je).2
def Vh:∃F:List D->M D,(∀ {P w K mg base f fd},Txt K mg->Yb K "law" "law" PR f fd->Dr P w K mg base fJ 8 f fd ["_law_script"] (Uq K 1 F))/\(∀ns:List Int,ns.length<=63->(∀n∈ns,Sm n)->F [.lst (ns.map D.int)]=.ok (.bl true)):=by
 refine⟨_,fun {P w K mg base f fd} T F=>tG (k:=7) F CW _ (λ B7 A outer s H E hr=>(A3 (AJ 1 CW.nd rfl (za1 rfl) (Ag (Br (Ab (B5 rfl).toXCall (Dm T) (hr.mono (by decide)) rfl (A2 (Ag (Ab (B5 rfl).toXCall (Ci T) (hr.mono (by decide)) rfl (A2 (A1 0 (pv 0)) (A2 A7 A6)) rfl)) (A2 A7 A6)) rfl)))) (A3 (AJ 2 CW.nd rfl (za1 rfl) (Aa (AM hr 16 (by decide)) (EO (A2 (BU A7 (BK (A1 1 (pv 1)) A7)) (A2 (BU A7 (BK (A1 1 (pv 1)) A7)) A6))) (gI rfl T.dS (YZ (AM hr 16 (by decide)) (BK (HC (A1 1 (pv 1)) A7) A7) A7)))) (A3 (AJ 3 CW.nd rfl (za1 rfl) (Ag (Br (Ab (B5 rfl).toXCall (Rw T) (hr.mono (by decide)) rfl (A2 (Ag (N4 (A1 0 (pv 0)) (M4 A7) (M4 A7))) (A2 (A1 2 (pv 2)) A6)) rfl)))) (A3 (AJ 4 CW.nd rfl (za1 rfl) (Ag (Br (iZ (B5 rfl).toXCall (Ex T).yY (hr.mono (by decide)) rfl (A2 (AD (A2 (A1 2 (pv 2)) (A2 (Ag (FD rfl T.En (A1 3 (pv 3)))) A6))) (A2 (Ag (Ab (B5 rfl).toXCall (Ry T) (hr.mono (by decide)) rfl (A2 (Ag (Ab (B5 rfl).toXCall (Ci T) (hr.mono (by decide)) rfl (A2 (A1 0 (pv 0)) (A2 A7 A6)) rfl)) (A2 (A1 2 (pv 2)) A6)) rfl)) A6)) rfl)))) (A3 (Ba (Li (c:=true) (AM hr 16 (by decide)) (BK (Ag (Br (Ab (B5 rfl).toXCall (Dm T) (hr.mono (by decide)) rfl (A2 (Ag (Ab (B5 rfl).toXCall (Ci T) (hr.mono (by decide)) rfl (A2 (A1 0 (pv 0)) (A2 A7 A6)) rfl)) (A2 A7 A6)) rfl))) A7) A7) (A5 (AJ 4 CW.nd rfl (za1 rfl) (Ag (Br (ZS (B5 rfl).toXCall (Ex T) (hr.mono (by decide)) rfl (A2 (AD (A2 (A1 2 (pv 2)) (A2 (Ag (FD rfl T.En (A1 3 (pv 3)))) A6))) A6) rfl))))) As) (A3 (AJ 5 CW.nd rfl (za1 rfl) (Ag (Br (Ab (B5 rfl).toXCall (RB T) (hr.mono (by decide)) rfl (A2 (A1 3 (pv 3)) (A2 (A1 2 (pv 2)) A6)) rfl)))) (A3 (Bf PassesOwn.never rfl (C2 (c:=true) rfl T.Cw A7) (AK 6 CW.nd rfl (za1 rfl)) (A3 (AJ 7 CW.nd rfl (za1 rfl) (BK (Ag (Br (Ab (B5 rfl).toXCall (Dm T) (hr.mono (by decide)) rfl (A2 (Ag (Ab (B5 rfl).toXCall (Ci T) (hr.mono (by decide)) rfl (A2 (A1 0 (pv 0)) (A2 A7 A6)) rfl)) (A2 (BU A7 (A1 6 (pv 6))) A6)) rfl))) (A1 2 (pv 2)))) (A3 (AJ 8 CW.nd rfl (za1 rfl) (BK (Ag (Br (Ab (B5 rfl).toXCall (Dm T) (hr.mono (by decide)) rfl (A2 (Ag (Ab (B5 rfl).toXCall (Ci T) (hr.mono (by decide)) rfl (A2 (A1 0 (pv 0)) (A2 A7 A6)) rfl)) (A2 (BU A7 (A1 6 (pv 6))) A6)) rfl))) (A1 2 (pv 2)))) (A3 (AJ 9 CW.nd rfl (za1 rfl) (Ag (Br (Ab (B5 rfl).toXCall (Rm T) (hr.mono (by decide)) rfl (A2 (A1 4 (pv 4)) (A2 (A1 7 (pv 7)) A6)) rfl)))) (A3 (AJ 10 CW.nd rfl (za1 rfl) (Ag (Br (Ab (B5 rfl).toXCall (Oz T) (hr.mono (by decide)) rfl (A2 (A1 4 (pv 4)) (A2 (A1 8 (pv 8)) A6)) rfl)))) (A3 (AJ 11 CW.nd rfl (za1 rfl) (EO (A2 (Ag (FD rfl T.En (A1 9 (pv 9)))) (A2 (Ag (FD rfl T.En (A1 10 (pv 10)))) A6)))) (A3 (AJ 12 CW.nd rfl (za1 rfl) (Ag (Br (Ab (B5 rfl).toXCall (qE T) (hr.mono (by decide)) rfl (A2 (Aa (AM hr 16 (by decide)) (A1 11 (pv 11)) A7) (A2 (Aa (AM hr 16 (by decide)) (A1 11 (pv 11)) A7) A6)) rfl)))) (A3 (Ba (DW.dt (Ec (Io (c:=true) (AM hr 16 (by decide)) (A1 12 (pv 12)) (Ag (Br (Ab (B5 rfl).toXCall (Vf T) (hr.mono (by decide)) rfl (A2 (A1 9 (pv 9)) (A2 (A1 10 (pv 10)) A6)) rfl)))) (Ec (Io (c:=true) (AM hr 16 (by decide)) (A1 11 (pv 11)) (EO (A2 (A1 9 (pv 9)) (A2 (A1 10 (pv 10)) A6)))) (Dc (Io (c:=true) (AM hr 16 (by decide)) (Ul (A1 12 (pv 12))) (Ul (Aa (AM hr 16 (by decide)) (Aa (AM hr 16 (by decide)) (A1 5 (pv 5)) (A1 7 (pv 7))) (A1 8 (pv 8))))))))) (A5 (Uo (Qn Du))) As) (A5 (Ba (DW.dt (Fw (HD (c:=true) (A1 12 (pv 12))) (Fv (CB (DW.dt (Fw (BW (c:=true) (EQ (Fx _) rfl T.B9 rfl T.Kq (by decide +kernel) (A1 12 (pv 12)))) (Fw (BW (c:=true) (Ag (Br (Ab (B5 rfl).toXCall (NW T) (hr.mono (by decide)) rfl (A2 (Aa (AM hr 16 (by decide)) (A1 12 (pv 12)) A7) A6) rfl)))) (Fv (BW (c:=true) (Ag (Br (Ab (B5 rfl).toXCall (FY T) (hr.mono (by decide)) rfl (A2 (Aa (AM hr 16 (by decide)) (A1 12 (pv 12)) A7) A6) rfl)))))))))))) (A5 (Uo (Qn Du))) As)))))))))) (A5 (Uo (Qn Du))))))))))),?_⟩;intro ns m8 bv;have e0:AE ["_law_script","_law_first","_law_many","_law_roads_here","_law_ladder","_law_costs_here","_law_k","_law_start","_law_goal","_law_out","_law_into","_law_handed","_law_found"] [.lst (ns.map D.int)]=[some (.val (.lst (ns.map D.int))),none,none,none,none,none,none,none,none,none,none,none,none]:=rfl;rw[e0];refine tY ?_;obtain⟨z0,zl,ke⟩:=EA ns 0 bv;obtain⟨z1,bu,dL⟩:=EA ns 1 bv;obtain⟨z2,n6,qh⟩:=EA ns 2 bv;have qo:CZ [.lst (ns.map D.int),.int 0]=.ok (.sh (.int z0)):=ke;have qr:CZ [.lst (ns.map D.int),.int 1]=.ok (.sh (.int z1)):=dL;have dn:CZ [.lst (ns.map D.int),.int 2]=.ok (.sh (.int z2)):=qh;obtain⟨v,v0,hv⟩:=Dn z0 0 (by decide) (by decide);have q1:ED (.int v) (.int 6)=.ok (.int (v%6)):=AZ (by decide);have q3:Lh (.int v) (.int 77)=.ok (.int (v / 77)):=Fc ⟨by decide,by decide⟩;have q4:ED (.int (v / 77)) (.int 8)=.ok (.int (v / 77%8)):=AZ (by decide);obtain⟨m,bK,bd,kg⟩:∃m:Nat,1<=m/\m<=16/\((VJ [.bl (decide (v / 77%8=3))]).bind λ y=>AR (.lst [.int (1+v%6),.int (7+v%6)]) y)=.ok (.int m):=by
  by_cases h:v / 77%8=3
  ·refine⟨(7+v%6).toNat,by omega,by omega,?_⟩;rw[decide_eq_true h,show (((7+v%6).toNat:Nat):Int)=7+v%6 by omega];rfl
  ·refine⟨(1+v%6).toNat,by omega,by omega,?_⟩;rw[decide_eq_false h,show (((1+v%6).toNat:Nat):Int)=1+v%6 by omega];rfl
 have dl:(0:Int)<(m:Int):=by omega
 apply wp_step
 ·simp_arith[qo,hv];rfl
 try simp only[zC,z5]
 apply wp_step
 ·simp_arith[q1,q3,q4,kg];rfl
 try simp only[zC,z5]
 have sl:iF (some 3) (some 27) (.lst (ns.map D.int))=.ok (.lst ((((ns.drop 3).take 24).map D.int).map .sh)):=by rw[List.map_take,List.map_drop];exact iV _ 3 27
 obtain⟨rs,ce,gn,xj⟩:=Rx ((ns.drop 3).take 24) m bK bd (by rw[zaf];omega) λ c hc=>bv c (List.mem_of_mem_drop (zae hc));have kh:rs.length<=60:=by rw[zaf] at ce;omega
 have ko:∀r∈rs,GX m r:=λ r hr=>(gn r hr).yH.1;apply wp_step
 ·simp_arith[sl,xj];rfl
 try simp only[zC,z5]
 obtain⟨Lo,xk,xl⟩:=Rz z1 m (by omega);have nn:D.tup [.int m,.lst (rs.map Bs)]=Aq m rs:=rfl;obtain⟨A0,K0,xm,t0,xn,xp⟩:=Ey m rs (.lst (Lo.map D.int)) Lo bK bd kh gn xk (.inl rfl);have qt:Pn (Cm (.ins "Ladder" [] []) [Aq m rs,.lst (Lo.map D.int)])=.ok t0:=by rw[xn];rfl
 refine wp_step (ρ':=[some (.val (.lst (ns.map D.int))),some (.val (.int v)),some (.val (.int m)),some (.val (.lst (rs.map Bs))),some (.val (AG m rs Lo A0 K0)),none,none,none,none,none,none,none,none]) (by simp_arith[qr,xl,nn,qt,xp];try rfl) ?_;obtain⟨v5,zm,uc⟩:=Dn z2 5 (by decide) (by decide);have q5:ED (.int v5) (.int 4)=.ok (.int (v5%4)):=AZ (by decide);refine BL (I:=λ ρ=>∃(L:List Int) (A:LA) (K:List (Int×Int)),ρ=[some (.val (.lst (ns.map D.int))),some (.val (.int v)),some (.val (.int m)),some (.val (.lst (rs.map Bs))),some (.val (AG m rs L A K)),none,none,none,none,none,none,none,none]/\BO m rs L A K) ?_ ?_
 ·by_cases c1:v5%4=1
  ·obtain⟨A,K,ok,t,hI,hE⟩:=Ey m rs .AL (TZ m (BJ rs) (B3 m)) bK bd kh gn (SS m _ _ (Fd m)) (.inr ⟨rfl,rfl⟩);have xq:Pn (Cm (.ins "Ladder" [] []) ([Aq m rs]++[.AL]))=.ok t:=by
    rw[show [Aq m rs]++[D.AL]=[Aq m rs,.AL] from rfl,hI];rfl
   refine B4 (ρ':=[some (.val (.lst (ns.map D.int))),some (.val (.int v)),some (.val (.int m)),some (.val (.lst (rs.map Bs))),some (.val (AG m rs (TZ m (BJ rs) (B3 m)) A K)),none,none,none,none,none,none,none,none]) (by simp_arith[dn,uc,q5,decide_eq_true c1,nn,xq,hE];try rfl) ⟨_,A,K,rfl,ok⟩
  ·refine B4 (ρ':=[some (.val (.lst (ns.map D.int))),some (.val (.int v)),some (.val (.int m)),some (.val (.lst (rs.map Bs))),some (.val (AG m rs Lo A0 K0)),none,none,none,none,none,none,none,none]) (by simp_arith[dn,uc,q5,decide_eq_false c1];try rfl) ⟨_,A0,K0,rfl,xm⟩
 rintro ρ ⟨L,A,K,rfl,ok⟩;obtain⟨ac,hM,hA,tc,xr,xt⟩:=RC m rs (by omega) (by omega) ko;apply wp_step
 ·simp_arith[xr,xt];rfl
 try simp only[zC,z5]
 have hL:=ok.pm;have jq:L.reverse.Nodup:=(List.reverse_perm L).nodup_iff.mpr (FH hL);have hlen:=Ff hL;have ue:∀x∈L.reverse,0<=x/\x<(m:Int):=λ x hx=>(AW hL).mp (zb8.mp hx);have hT:Yg m (at2 ac):=QY hA;have ba:∀x:Int,0<=x->x<m->AR (.lst ((AI ac).map D.lst)) (.int x)=.ok (.lst ((ac.getD x.toNat []).map cst)):=λ x a b=>by
  have g:=(hM.get a b).1;unfold AI;rw[zak];exact I9 a g
 have hr:S8 (.int 4)=.ok (C9 0 4):=F8 (n:=4) (by omega);refine BL (I:=λ ρ=>∃s6 s7 s8 s9 dq cm aK:Option Cl,ρ=[some (.val (.lst (ns.map D.int))),some (.val (.int v)),some (.val (.int m)),some (.val (.lst (rs.map Bs))),some (.val (AG m rs L A K)),some (.val (.lst ((AI ac).map D.lst))),s6,s7,s8,s9,dq,cm,aK]) ?_ ?_
 ·simp_arith[hr];refine Bh (λ i ρ=>∃s6 s7 s8 s9 dq cm aK:Option Cl,ρ=[some (.val (.lst (ns.map D.int))),some (.val (.int v)),some (.val (.int m)),some (.val (.lst (rs.map Bs))),some (.val (AG m rs L A K)),some (.val (.lst ((AI ac).map D.lst))),s6,s7,s8,s9,dq,cm,aK]) ⟨_,_,_,_,_,_,_,rfl⟩ ?_ ?_
  ·rintro i d ρ hd ⟨s6,s7,s8,s9,dq,cm,aK,rfl⟩;obtain⟨aB,hi⟩:=BE hd;rw[zc5] at aB;subst aB;refine⟨_,rfl,?_⟩;obtain⟨p,p0,hp⟩:=Dn z2 (30+i) (by omega) (by omega);obtain⟨p',zn,f8⟩:=Dn z2 (35+i) (by omega) (by omega);have q7:ED (.int p) (.int (m:Int))=.ok (.int (p%m)):=AZ dl;have q8:ED (.int p') (.int (m:Int))=.ok (.int (p'%m)):=AZ dl;obtain⟨s,hs⟩:∃s:Nat,(s:Int)=p%m:=⟨(p%m).toNat,by have:=zbf p (b:=(m:Int)) (by omega);omega⟩;have qu:s<m:=by have:=zb9 p dl;omega
   obtain⟨g,hg⟩:∃g:Nat,(g:Int)=p'%m:=⟨(p'%m).toNat,by have:=zbf p' (b:=(m:Int)) (by omega);omega⟩;have qv:g<m:=by have:=zb9 p' dl;omega
   rw[<-hs] at q7;rw[<-hg] at q8;have qw:(0:Int)<=(s:Int)/\(s:Int)<(m:Int):=⟨by omega,by omega⟩;have uf:(0:Int)<=(g:Int)/\(g:Int)<(m:Int):=⟨by omega,by omega⟩;have xu:=Np (at2 ac) s L.reverse;have xv:=Np (λ x y=>at2 ac y x) g L.reverse;rw[zao] at xu xv;have a1:=Ro m rs L A K (at2 ac) s ok hA qu;have a2:=OA m rs L A K (at2 ac) g ok hA qv;rw[kG Fi] at a1 a2;have g8:((B0 (λ x y=>at2 ac y x) g (AB (λ x y=>at2 ac y x) g L.reverse)).map zX).Nodup:=by rw[XS];exact UT jq
   have xw:(B0 (at2 ac) s (AB (at2 ac) s L.reverse)).length<=20:=by unfold B0;rw[zu];omega
   have xx:(B0 (λ x y=>at2 ac y x) g (AB (λ x y=>at2 ac y x) g L.reverse)).length<=20:=by unfold B0;rw[zu];omega
   have ug:=qG (B0 (at2 ac) s (AB (at2 ac) s L.reverse)) _ g8 (by omega) (by omega);have uh:=Vg _ _ g8 xw xx;obtain⟨B,hB⟩:∃B,B=((Bj (B0 (at2 ac) s (AB (at2 ac) s L.reverse)) (B0 (λ x y=>at2 ac y x) g (AB (λ x y=>at2 ac y x) g L.reverse))).foldl O5 none):=⟨_,rfl⟩;rw[<-hB] at ug uh;have iz:Bq (DC B)=Bq (cst (at2 ac s g))/\∀x,B=some x->DC B=.tup [.tup [.int x.1.1,.int x.1.2],.int x.2]:=by
    refine⟨?_,λ x e=>by rw[e];rfl⟩;cases hc:at2 ac s g with
    |none=>rw[hB,XR hT qw uf ue hc];rfl
    |some c =>
     have xy:at2 ac s s=some (0,0):=(hA s s (by omega) (by omega) (by omega) (by omega)).Cj (min_self ko s);obtain⟨Dl,h,El,eR,hb,hn⟩:=dH (B:=λ x=>Aj (at2 ac s x) (at2 ac x g)=at2 ac s g) (R:=L.reverse) ⟨s,zb8.mpr ((AW hL).mpr qw),by rw[xy,Pu]⟩;have ip:=XQ (D:=Dl) (E:=El) (h:=h) hT qw uf (by rw[<-eR];exact ue) hc hb hn;rw[<-eR] at ip;rw[hB,ip];rfl
   clear hB;obtain⟨O,hO⟩:∃O:D,O=.lst ((B0 (at2 ac) s (AB (at2 ac) s L.reverse)).map BS):=⟨_,rfl⟩;obtain⟨I,hI⟩:∃I:D,I=.lst ((B0 (λ x y=>at2 ac y x) g (AB (λ x y=>at2 ac y x) g L.reverse)).map BS):=⟨_,rfl⟩;have ui:∀(R:RA),Pl 3 (.lst (R.map BS)):=λ R=>Uu λ d hd=>by
    obtain⟨kv,_,rfl⟩:=zS.mp hd;exact Ut (EH (Fz _) (EH (KW (n:=0) _) Qt))
   have xz:AR (.lst [.lst ((B0 (at2 ac) s (AB (at2 ac) s L.reverse)).map BS),.lst ((B0 (λ x y=>at2 ac y x) g (AB (λ x y=>at2 ac y x) g L.reverse)).map BS)]) (.int 0)=.ok (.lst ((B0 (at2 ac) s (AB (at2 ac) s L.reverse)).map BS)):=rfl;have x4:AR (.lst [.lst ((B0 (at2 ac) s (AB (at2 ac) s L.reverse)).map BS),.lst ((B0 (λ x y=>at2 ac y x) g (AB (λ x y=>at2 ac y x) g L.reverse)).map BS)]) (.int 1)=.ok (.lst ((B0 (λ x y=>at2 ac y x) g (AB (λ x y=>at2 ac y x) g L.reverse)).map BS)):=rfl;have qx:Yd 16 (DC B) (DC B)=.ok (.bl false):=MU ((qC B).le (by decide));have qy:Yd 16 (.lst [.lst ((B0 (at2 ac) s (AB (at2 ac) s L.reverse)).map BS),.lst ((B0 (λ x y=>at2 ac y x) g (AB (λ x y=>at2 ac y x) g L.reverse)).map BS)]) (.lst [.lst ((B0 (at2 ac) s (AB (at2 ac) s L.reverse)).map BS),.lst ((B0 (λ x y=>at2 ac y x) g (AB (λ x y=>at2 ac y x) g L.reverse)).map BS)])=.ok (.bl false):=MU ((Uu (n:=3) (EH (ui _) (EH (ui _) Qt))).le (by decide));have r1:=ba s (by omega) (by omega);have x1:AR (.lst ((ac.getD (s:Int).toNat []).map cst)) (.int (g:Int))=.ok (cst (at2 ac s g)):=Ce (by omega) (by rw[(hM.get (x:=(s:Int)) (by omega) (by omega)).2];omega);have qz:Yd 16 (.bl (Bq (DC B))) (.bl (Bq (DC B)))=.ok (.bl false):=MU ⟨by simp[OS],by simp[Cq]⟩;refine wp_step (ρ':=[some (.val (.lst (ns.map D.int))),some (.val (.int v)),some (.val (.int m)),some (.val (.lst (rs.map Bs))),some (.val (AG m rs L A K)),some (.val (.lst ((AI ac).map D.lst))),some (.val (.int i)),some (.val (.int s)),s8,s9,dq,cm,aK]) (by simp_arith[dn,hp,q7];try rfl) ?_;refine wp_step (ρ':=[some (.val (.lst (ns.map D.int))),some (.val (.int v)),some (.val (.int m)),some (.val (.lst (rs.map Bs))),some (.val (AG m rs L A K)),some (.val (.lst ((AI ac).map D.lst))),some (.val (.int i)),some (.val (.int s)),some (.val (.int g)),s9,dq,cm,aK]) (by simp_arith[dn,f8,q8];try rfl) ?_;refine wp_step (ρ':=[some (.val (.lst (ns.map D.int))),some (.val (.int v)),some (.val (.int m)),some (.val (.lst (rs.map Bs))),some (.val (AG m rs L A K)),some (.val (.lst ((AI ac).map D.lst))),some (.val (.int i)),some (.val (.int s)),some (.val (.int g)),some (.val (.lst ((B0 (at2 ac) s (AB (at2 ac) s L.reverse)).map BS))),dq,cm,aK]) (by simp_arith[a1];try rfl) ?_;refine wp_step (ρ':=[some (.val (.lst (ns.map D.int))),some (.val (.int v)),some (.val (.int m)),some (.val (.lst (rs.map Bs))),some (.val (AG m rs L A K)),some (.val (.lst ((AI ac).map D.lst))),some (.val (.int i)),some (.val (.int s)),some (.val (.int g)),some (.val (.lst ((B0 (at2 ac) s (AB (at2 ac) s L.reverse)).map BS))),some (.val (.lst ((B0 (λ x y=>at2 ac y x) g (AB (λ x y=>at2 ac y x) g L.reverse)).map BS))),cm,aK]) (by simp_arith[a2];try rfl) ?_;refine wp_step (ρ':=[some (.val (.lst (ns.map D.int))),some (.val (.int v)),some (.val (.int m)),some (.val (.lst (rs.map Bs))),some (.val (AG m rs L A K)),some (.val (.lst ((AI ac).map D.lst))),some (.val (.int i)),some (.val (.int s)),some (.val (.int g)),some (.val (.lst ((B0 (at2 ac) s (AB (at2 ac) s L.reverse)).map BS))),some (.val (.lst ((B0 (λ x y=>at2 ac y x) g (AB (λ x y=>at2 ac y x) g L.reverse)).map BS))),some (.val (.lst [.lst ((B0 (at2 ac) s (AB (at2 ac) s L.reverse)).map BS),.lst ((B0 (λ x y=>at2 ac y x) g (AB (λ x y=>at2 ac y x) g L.reverse)).map BS)])),aK]) (by simp_arith[];try rfl) ?_;refine wp_step (ρ':=[some (.val (.lst (ns.map D.int))),some (.val (.int v)),some (.val (.int m)),some (.val (.lst (rs.map Bs))),some (.val (AG m rs L A K)),some (.val (.lst ((AI ac).map D.lst))),some (.val (.int i)),some (.val (.int s)),some (.val (.int g)),some (.val (.lst ((B0 (at2 ac) s (AB (at2 ac) s L.reverse)).map BS))),some (.val (.lst ((B0 (λ x y=>at2 ac y x) g (AB (λ x y=>at2 ac y x) g L.reverse)).map BS))),some (.val (.lst [.lst ((B0 (at2 ac) s (AB (at2 ac) s L.reverse)).map BS),.lst ((B0 (λ x y=>at2 ac y x) g (AB (λ x y=>at2 ac y x) g L.reverse)).map BS)])),some (.val (DC B))]) (by simp_arith[xz,x4,ug];try rfl) ?_;refine wp_step (ρ':=[some (.val (.lst (ns.map D.int))),some (.val (.int v)),some (.val (.int m)),some (.val (.lst (rs.map Bs))),some (.val (AG m rs L A K)),some (.val (.lst ((AI ac).map D.lst))),some (.val (.int i)),some (.val (.int s)),some (.val (.int g)),some (.val (.lst ((B0 (at2 ac) s (AB (at2 ac) s L.reverse)).map BS))),some (.val (.lst ((B0 (λ x y=>at2 ac y x) g (AB (λ x y=>at2 ac y x) g L.reverse)).map BS))),some (.val (.lst [.lst ((B0 (at2 ac) s (AB (at2 ac) s L.reverse)).map BS),.lst ((B0 (λ x y=>at2 ac y x) g (AB (λ x y=>at2 ac y x) g L.reverse)).map BS)])),some (.val (DC B))]) (by
    simp_arith[uh,qx,qy,r1,x1,<-iz.1,qz,Gk];try rfl) ?_
   refine B4 (ρ':=[some (.val (.lst (ns.map D.int))),some (.val (.int v)),some (.val (.int m)),some (.val (.lst (rs.map Bs))),some (.val (AG m rs L A K)),some (.val (.lst ((AI ac).map D.lst))),some (.val (.int i)),some (.val (.int s)),some (.val (.int g)),some (.val (.lst ((B0 (at2 ac) s (AB (at2 ac) s L.reverse)).map BS))),some (.val (.lst ((B0 (λ x y=>at2 ac y x) g (AB (λ x y=>at2 ac y x) g L.reverse)).map BS))),some (.val (.lst [.lst ((B0 (at2 ac) s (AB (at2 ac) s L.reverse)).map BS),.lst ((B0 (λ x y=>at2 ac y x) g (AB (λ x y=>at2 ac y x) g L.reverse)).map BS)])),some (.val (DC B))]) (by
    cases zo:B with
    |none =>
     have e:Bq (DC none)=true:=rfl;simp_arith[e];try rfl
    |some x =>
     have e:Bq (DC (some x))=false:=rfl;have e2:DC (some x)=.tup [.tup [.int x.1.1,.int x.1.2],.int x.2]:=rfl;have j0:AR (.tup [.tup [.int x.1.1,.int x.1.2],.int x.2]) (.int 0)=.ok (.tup [.int x.1.1,.int x.1.2]):=rfl;have j1:AR (.tup [.tup [.int x.1.1,.int x.1.2],.int x.2]) (.int 1)=.ok (.int x.2):=rfl;have w1:=FZ x.2;have w2:=NX x.1.1 x.1.2;rw[e2] at e ⊢;simp_arith[e,j0,j1,w1,w2,Gk];try rfl) ⟨_,_,_,_,_,_,_,rfl⟩
  ·rintro ρ ⟨s6,s7,s8,s9,dq,cm,aK,rfl⟩;exact⟨_,_,_,_,_,_,_,rfl⟩
 rintro ρ ⟨s6,s7,s8,s9,dq,cm,aK,rfl⟩;rfl
abbrev eA:List D->M D:=z3 Vh
def qH {P w K mg base f fd}:Txt K mg->Yb K "law" "law" PR f fd->Dr P w K mg base fJ 8 f fd ["_law_script"] (Uq K 1 eA):=(zt Vh).1
def qI:∀ns:List Int,ns.length<=63->(∀n∈ns,Sm n)->eA [.lst (ns.map D.int)]=.ok (.bl true):=(zt Vh).2
set_option maxHeartbeats 0 in
set_option maxHeartbeats 0 in
set_option maxHeartbeats 0 in
set_option maxHeartbeats 0 in
def left (w:World):(PySem.W.openEnds treeTable PySem.Challenge.pw_nodeladder_k62_labels_meet w 6100).map (λ s=>PySem.W.openSeen (D2 PySem.Challenge.pw_nodeladder_k62_labels_meet) [] (importedModules PySem.Challenge.pw_nodeladder_k62_labels_meet.main.body) (λ s=>PySem.W.xlAt (D2 PySem.Challenge.pw_nodeladder_k62_labels_meet) [] s&&PySem.W.recOk [] s) true s)=some (PySem.W.openGood (D2 PySem.Challenge.pw_nodeladder_k62_labels_meet) []):=by
 rw[Wd,oY,PySem.W.Fast.te4187177175401517315,PySem.W.Fast.te5923862056798008813,PySem.W.Fast.te6229657800857527307];exact QD (qW w) (QD (qX w) (QD (qY w) (qZ w)))
set_option maxHeartbeats 0 in
def qJ (w:World):Q1 (Kp R0 PySem.Challenge.pw_nodeladder_k62_labels_meet w) PySem.Challenge.pw_nodeladder_k62_labels_meet:=by
 rw[oY,PySem.W.Fast.te6229657800857527307];exact eF w
set_option maxHeartbeats 0 in
def qK (w:World):Q2 (Kp R0 PySem.Challenge.pw_nodeladder_k62_labels_meet w) PySem.Challenge.pw_nodeladder_k62_labels_meet:=by
 rw[oY,PySem.W.Fast.te6229657800857527307];exact eG w
def all_mk {l:PySem.W.OpenLaw}{w:World}{K:zr}{h:Heap}{mg:Str->Option Value}{fa:Addr}(X:K.In h)(G:h.Ns mainGlobals mg)(x5:mg "law" = some (.ref fa))(u0:Q1 K PySem.Challenge.pw_nodeladder_k62_labels_meet)(u1:Q2 K PySem.Challenge.pw_nodeladder_k62_labels_meet):
 ∃fd:FuncData,(∀(s:Shared) (v:Value),BindsTo s fd ⟨[v],[]⟩ [("_law_script",v)])/\∀base:Heap,K.In base->base.Ns mainGlobals mg->Dr l.prog w K mg base fJ 8 fa fd ["_law_script"] (Uq K 1 eA):=by
 have ah:WK K _:=⟨u0.1.1.1.1.1.2,u0.1.1.1.1.2,u0.1.1.1.2.1,u0.1.1.1.2.2⟩;obtain⟨zp,kr,x6,to33,x8,kt,x9,xL,ya,yb,ku,lb,lc,lf,lg,yc,yd,ye,yf,yg,lh⟩:=u1.2.2.2.2.1.ex;have yh:=jE (st:=Az) ye yf yg;have yi:Binds K (zaj "__init__" "Ladder.__init__" (Bm Az) (AO Az) (A4 Az) (.ref kr) ku lb lc kt lf lg) ["self","net","order"] []:=λ s us hK hl=>by
  have a7:us.length=3:=by simpa using hl
  rcases us with _|⟨_,_|⟨_,_|⟨_,_|⟨_,us⟩⟩⟩⟩<;>first|exact PySem.W.binds_K hK rfl lh rfl rfl rfl|(simp at a7)
 have yj:Binds K (zaj "__init__" "Ladder.__init__" (Bm Az) (AO Az) (A4 Az) (.ref kr) ku lb lc kt lf lg) ["self","net","order"] [.none]:=λ s us hK hl=>by
  have a7:us.length=2:=by simpa using hl
  rcases us with _|⟨_,_|⟨_,_|⟨_,_|⟨_,us⟩⟩⟩⟩<;>first|exact PySem.W.binds_K hK rfl lh rfl rfl rfl|(simp at a7)
 have yk:UH K mg "Ladder" "Ladder.__init__" Az ["self","net","order"]:=⟨_,_,_,⟨u0.1.1.1.1.1.1,PySem.W.mg_of X G u0.1.1.1.1.1.1⟩,⟨u0.1.1.2.1.1.1,yc,yd,u0.1.1.2.1.1.2⟩,yh,yi,yj⟩;obtain⟨zq,yl,ym,yn,yo,yp,yq,yr,yt,yu,uj,yv,yw,yx⟩:=u1.2.2.2.2.2.ex;cases x5.symm.trans (PySem.W.mg_of X G uj);have q0:=Ug (st:=PR) yv yw yx;have yy:AH K mg "law" PR ["_law_script"]:=⟨_,_,q0,PySem.W.mg_of X G uj,q0.binds (λ _ _ _ _ _ _=>vJ λ _=>rfl)⟩;have T:Txt K mg:=⟨AQ X G u0.1.1.2.1.2,AQ X G u0.1.1.2.2.1,AQ X G u0.1.1.2.2.2,AQ X G u0.1.2.1.1.1.1,AQ X G u0.1.2.1.1.1.2,AQ X G u0.1.2.1.1.2,AQ X G u0.1.2.1.2.1,AQ X G u0.1.2.1.2.2,AQ X G u0.1.2.2.1.1,AQ X G u0.1.2.2.1.2,AQ X G u0.1.2.2.2.1,AQ X G u0.1.2.2.2.2,AQ X G u0.2.1.1.1.1.1,AQ X G u0.2.1.1.1.1.2,AQ X G u0.2.1.1.1.2,AQ X G u0.2.1.1.2.1,AQ X G u0.2.1.1.2.2,AQ X G u0.2.1.2.1.1.1,AQ X G u0.2.1.2.1.1.2,AQ X G u0.2.1.2.1.2,AQ X G u0.2.1.2.2.1,AQ X G u0.2.1.2.2.2,AQ X G u0.2.2.1.1.1.1,AQ X G u0.2.2.1.1.1.2,AQ X G u0.2.2.1.1.2,AQ X G u0.2.2.1.2.1,AQ X G u0.2.2.1.2.2,AQ X G u0.2.2.2.1.1,AQ X G u0.2.2.2.1.2,AQ X G u0.2.2.2.2.1,AQ X G u0.2.2.2.2.2,AQ X G u1.1.1.1.1.1.1,yk,Wc u0.1.1.1.1.1.1 ah u1.1.1.1.1.1.2,Wc u0.1.1.1.1.1.1 ah u1.1.1.1.1.2,Wc u0.1.1.1.1.1.1 ah u1.1.1.1.2.1,Wc u0.1.1.1.1.1.1 ah u1.1.1.1.2.2,AQ X G u1.1.1.2.1.1.1,AQ X G u1.1.1.2.1.1.2,AQ X G u1.1.1.2.1.2,AQ X G u1.1.1.2.2.1,AQ X G u1.1.1.2.2.2,AQ X G u1.1.2.1.1.1.1,AQ X G u1.1.2.1.1.1.2,AQ X G u1.1.2.1.1.2,AQ X G u1.1.2.1.2.1,AQ X G u1.1.2.1.2.2,AQ X G u1.1.2.2.1.1,AQ X G u1.1.2.2.1.2,yy,zab X G u1.1.2.2.2.1,zab X G u1.1.2.2.2.2,zab X G u1.2.1.1.1.1.1,zab X G u1.2.1.1.1.1.2,zab X G u1.2.1.1.1.2,zab X G u1.2.1.1.2.1,zab X G u1.2.1.1.2.2,zab X G u1.2.1.2.1.1,zab X G u1.2.1.2.1.2,zab X G u1.2.1.2.2.1,zab X G u1.2.1.2.2.2,zab X G u1.2.2.1.1.1.1,zab X G u1.2.2.1.1.1.2,zab X G u1.2.2.1.1.2,lR X G u0.2.1.1.1.1.2,lR X G u0.2.1.1.1.1.1,⟨_,u0.1.1.1.1.1.1,ah,u1.2.2.1.2.1⟩,⟨_,u0.1.1.1.1.1.1,ah,u1.2.2.1.2.2⟩,⟨_,u0.1.1.1.1.1.1,ah,u1.2.2.2.1.1⟩,⟨_,u0.1.1.1.1.1.1,ah,u1.2.2.2.1.2⟩⟩;refine⟨_,?_,λ base _ _=>qH T q0⟩;exact λ s v=>.of_eq rfl
def walk {l:PySem.W.OpenLaw}{q:Program}{loose:List Str}{XP:(Str->Option Value)->Heap->Prop}{YP:World->Heap->Prop}{d:DefRec}{K:World->zr}(hn:l.most=some 63)(gl:d.params.defaults=[])
 (hY:∀(w:World) (h:Heap),YP w h->(K w).In h)
 (F:∀(w:World) (mg:Str->Option Value) (fa:Addr) (h:Heap),(K w).In h->h.Ns mainGlobals mg->mg d.name=some (.ref fa)->
  ∃fd:FuncData,(∀(s:Shared) (u:Value),BindsTo s fd ⟨[u],[]⟩ [("_law_script",u)])/\∀base:Heap,(K w).In base->base.Ns mainGlobals mg->Dr l.prog w (K w) mg base fJ 8 fa fd ["_law_script"] (Uq (K w) 1 eA)):
 PySem.W.WalkO q loose XP YP l.row.toRowW d [] (λ f vs=>PySem.call f vs):=
 L2.uB (n:=63) (k:=8) (x := "_law_script") (CX:=λ _=>fJ) (sp:=λ w=>Uq (K w) 1 eA) hn (by decide) gl ⟨rfl,by decide,by decide⟩ hY F (λ w H a ns bv hl _ hS=>gJ qI (K w) H a ns bv hl hS) λ _ _ _ _ _ z=>z
end cn
open PySem PySem.W PyProof.Rows L2
set_option maxRecDepth 100000 in
set_option maxHeartbeats 0 in
theorem PySem.Challenge.cw_nodeladder_k62_labels_meet_holds : PySem.Challenge.rw_nodeladder_k62_labels_meet.Holds := by
 w_on;o_law
 refine holds_open (q:=D2 PySem.Challenge.pw_nodeladder_k62_labels_meet) (loose:=[]) (Xt:=λ s=>xlAt (D2 PySem.Challenge.pw_nodeladder_k62_labels_meet) [] s&&recOk [] s) (XP:=XL (D2 PySem.Challenge.pw_nodeladder_k62_labels_meet) []) (Yf:=λ s=>s.heap) (Ya:=λ w=>Yh R0 PySem.Challenge.pw_nodeladder_k62_labels_meet w 6100) (YP:=λ w h=>uA (Yh R0 PySem.Challenge.pw_nodeladder_k62_labels_meet w 6100) h) (N:=6100) (jF cn.left) (λ w s e b o q=>by rw[<-e] at q;exact q) (λ w h h' a b c o q=>b c o (a c o q)) (λ s e=>xl_of s (Bool.and_eq_true_iff.mp e).1) XL.keeps (by rfl) (by rfl) (by rfl) (λ s e=>recFacts_of (Bool.and_eq_true_iff.mp e).2) (by rfl) (by first|assumption|decide +kernel) (by decide +kernel) ⟨rfl,rfl,rfl,rfl,rfl,by decide +kernel⟩ ?hw ?hc;case hw=>w_witness2
 case hc =>
  refine cn.walk (l:=PySem.Challenge.rw_nodeladder_k62_labels_meet) (K:=cn.Kp R0 PySem.Challenge.pw_nodeladder_k62_labels_meet) rfl rfl (λ w h Y=>oZ Y) ?F;intro w mg fa h KX G gm;exact cn.all_mk KX G gm (cn.qJ w) (cn.qK w)
