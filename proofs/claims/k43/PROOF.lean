import PyProof.Rows.All
import Wide.All
import OpenK.AllK
import Wide.FinOn
import Lean
import PyProof.EqAt
import PyProof.EqKinds
import PyProof.TupleCall
import PyProof.NeKinds
import KE.KRevSl
import KE.KIsAll
import PyProof.FitsBits
import KE.LcSums
import KE.KRevIter
import PyProof.ListRange
import PyProof.Rows.SumAny
import PyProof.Rows.SortWalk
import PyProof.AttrMissHeap
import KE.KDictOf
import PyProof.ZipIter
import PyProof.DictWalks
import KE.KDictList
import KE.KFind
import KE.KDictSum
import KE.KSortTup
import PyProof.Rows.SetFrom
import PyProof.SetRoads
import PySem.Challenge.RW_nodeladder_k43_asked
set_option bootstrap.genMatcherCode false
set_option Elab.async false
set_option linter.all false
set_option maxRecDepth 1000000
set_option autoImplicit true
set_option relaxedAutoImplicit true
open PySem.W renaming Frag→za0,nsIn→zb5,findIn→zbd,mg_none_of→zbf,fnOf→zbl,keepIn→zbn,emptyDict→zc9,codeIn→zca,kia_one→zcp,instObj→zcq
open Classical renaming choose_spec→za1,choose→za7,byContradiction→zd4,propDecidable→zdh
open List renaming length_map→za2,mem_cons_self→za3,mem_cons_of_mem→za4,map_cons→za5,getElem?_eq_getElem→za6,length_cons→za8,mem_singleton→za9,size_toArray→zaa,mem_cons→zab,mem_append_right→zad,replicate→zae,set_cons_succ→zaf,getElem?_eq_some_iff→zah,mem_of_getElem?→zai,set_cons_zero→zak,length_append→zal,getD_eq_getElem?_getD→zam,getElem?_map→zan,mem_append→zao,mem_map→zaq,nodup_append→zau,foldl_cons→zav,range→zay,getElem?_set_self→zaz,getElem?_cons_succ→zb1,mem_filter→zb2,map_append→zb3,nodup_cons→zb6,append_nil→zb7,mem_append_left→zb8,length_singleton→zba,getElem?_set_ne→zbc,append_assoc→zbg,length_set→zbj,getElem?_eq_none→zbk,map_map→zbm,length_reverse→zbq,take_length→zbs,take_add_one→zbt,nodup_nil→zby,length_take→zbz,getElem?_cons_zero→zc0,getElem?_range→zc1,length_range→zc2,mem_range→zc4,getElem?_replicate→zc6,mem_of_mem_take→zc7,lookup_cons→zc8,replicate_succ→zcc,filterMap_cons→zcd,getElem?_append_left→zce,take_append_drop→zcf,drop_length→zcm,drop_eq_getElem_cons→zco,map_congr_left→zcu,map_nil→zcy,length_replicate→zcz,length_filter_le→zd0,find?_cons→zd1,ext_getElem?→zd6,any_cons→zd7,getElem?_append_right→zd8,take_zero→zd9,mem_or_eq_of_mem_set→zda,drop_zero→zdb,length_drop→zdd,cons_append→zde,all_eq_true→zdf
open PySem.Heap renaming get?_push_of_some→zac,lt_size→zaj,get?_push_size→zar
open Nat renaming le_refl→zag,lt_of_lt_of_le→zap,ne_of_lt→zat,zero_le→zbb,le_of_lt→zbp,le_trans→zbu
open Option.some renaming inj→zas
open Bool renaming false_ne_true→zaw,false_eq_true→zb0,and_eq_true→zb9,eq_iff_iff→zct
open Or renaming inl→zax
open Prod renaming fst→zb4,snd→zbw
open PyProof.Rows renaming callWith_type1→zbe
open Int renaming toNat_natCast→zbh,emod_nonneg→zcg,emod_lt_of_pos→zch,add_assoc→zcn,zero_add→zd2,le_refl→zd3
open Ne renaming symm→zbi
open PySem.Value renaming ref→zbo
open Option renaming map_some→zbr,isSome_iff_exists→zbx,map_eq_some_iff→zcl
open PySem.Builtin.Int renaming intBits→zbv
open PySem.F renaming plainAttrs_list→zc3,plain_min_loop→zck
open PySem.Calls renaming spliced_cons→zc5,spliced_nil→zcb
open PySem.W.Fast renaming tw5923862056798008813→zci,tw4187177175401517315→zcj
open PySem.Around renaming under_plainId→zcr
open False renaming elim→zcs
open True renaming intro→zcv
open PySem.NameKind renaming free→zcw
open PySem.Paired renaming length→zcx
open PySem.Builtin.List renaming listTooLong→zd5
open PySem renaming mem_of_lookup→zdc
open ForInStep renaming yield→zdg
open Array renaming length_toList→zdi
local macro_rules|`(~~~$t)=>`(autoParam $t PySem.W.name_B._auto_1)
local macro_rules|`(nofun)=>`(⟨rfl,rfl,rfl,by decide +kernel,rfl,by decide +kernel,by decide +kernel⟩)
local macro_rules|`(def $i $b* :$t $v:declVal)=>`(theorem $i $b* :$t $v:declVal)
local macro_rules|`(abbrev $i $b* :$t $v:declVal)=>`(noncomputable def $i $b* :$t $v:declVal)|`(abbrev $i $b* $v:declVal)=>`(noncomputable def $i $b* $v:declVal)
section
set_option maxHeartbeats 0
namespace L2
open PySem PySem.Spec PyProof.Rows PySem.W PySem.Calls
abbrev inClass (s:Stmt)(j:Nat):Stmt:=match s with
 | .ClassDef _ _ _ body _ _ _ _ _ _ _=>body.getD j (.Pass ⟨0,0,0,0⟩)
 |_=>.Pass ⟨0,0,0,0⟩
abbrev BE (s:Stmt):Arguments:=match s with
 | .FunctionDef _ a _ _ _ _ _ _ _ _=>a
 |_=>{posonlyargs:=[],args:=[],vararg:=none,kwonlyargs:=[],kw_defaults:=[],kwarg:=none,defaults:=[]}
abbrev AW (s:Stmt):List Stmt:=match s with
 | .FunctionDef _ _ b _ _ _ _ _ _ _=>b
 |_=>[]
abbrev A6 (s:Stmt):Scope:=match s with
 | .FunctionDef _ _ _ _ _ _ sc _ _ _=>sc
 |_=>{kind:=.function,names:=[],isGenerator:=false,isCoroutine:=false}
structure FP (K:za0)(x:Str)(st:Stmt):Prop where
 ex:∃(f:Addr) (oc:Value) (od an:Option Addr) (sl:Array (Option Value)) (kV dc pm cd ct:Value),zb5 K mainGlobals x=some (some (.ref f))/\K.lookup f=some ⟨oc,od,.func (zbl x x (BE st) (AW st) (A6 st) .none kV dc pm an cd ct),sl⟩/\zca K cd x=true/\zbn K (.ref f)=true
structure MP (K:za0)(C:Addr)(m qual:Str)(st:Stmt):Prop where
 ex:∃(f:Addr) (oc:Value) (od an:Option Addr) (sl:Array (Option Value)) (kV dc pm cd ct:Value),zbd K (.ref C) m=some (some (.ref f))/\PySem.W.isFn K (.ref f)=true/\K.lookup f=some ⟨oc,od,.func (zbl m qual (BE st) (AW st) (A6 st) .none kV dc pm an cd ct),sl⟩/\zca K cd qual=true/\zbn K (.ref f)=true
abbrev Dk (p:Program):Program:={p with main:={p.main with body:=p.main.body.filter λ s=>match s with | .FunctionDef .. =>true | .ClassDef .. =>true | _=>false} }
structure Rn where
 run:(String->Option Builtin)->Program->World->Nat->Option Value->Nat->Shared->Thread->Option Shared
 ns:Heap->Addr->Str->Option Value
 imp:(String->Option Builtin)->Program->World->Nat->Shared->Thread->Option Shared
 fen:Program->Shared->Option Shared
 st:Program->Shared×Thread
 tb:String->Option Builtin
abbrev O1 (R:Rn)(p:Program)(w:World)(N:Nat):Option Shared:=
 ((R.imp R.tb (opening p) w N (R.st (opening p)).fst (R.st (opening p)).snd).bind (R.fen p)).bind λ s₀ =>
 match s₀.heap.isNs mainGlobals&&s₀.gens.size==0 with
 |true=>(R.run R.tb p w s₀.heap.objs.size (R.ns s₀.heap mainGlobals (Str.ofString "__annotations__")) N s₀ (topStub p)).bind λ s₁ =>
  match staticsOk (importedModules p.main.body) s₀.heap s₁.heap&&namesBound p s₁.heap&&gensDone s₁&&laidKept s₀.heap s₁.heap with
  |true=>some s₁
  |false=>none
 |false=>none
abbrev R1:Rn:=⟨PySem.W.Fast.tw14082659384304107361,PySem.W.Fast.tw8920871248978507458,PySem.W.Fast.tw10274390034422433532,PySem.W.Fast.tw14289696077712309145,PySem.W.Fast.tw1435165496053646825,PySem.W.Fast.tw14364793385576792824⟩
abbrev cK (R:Rn)(p:Program)(w:World)(N:Nat):Heap:=match O1 R p w N with | some s=>s.heap | none=>⟨#[],default⟩
abbrev zY (h:Heap)(as:List Addr):za0:=as.filterMap λ a=>(h.get? a).map λ o=>(a,o)
abbrev adN (v:Option (Option Value)):Addr:=match v with | some (some (.ref f))=>f | _=>0
abbrev Hq (K:za0)(f:Addr):Obj:=(K.lookup f).getD ⟨.none,none,.plain,#[]⟩
abbrev Qd (d:Data)(st:Stmt):FuncData:=match d with | .func fd=>fd | _=>zbl Str.empty Str.empty (BE st) [] (A6 st) .none .none .none .none none .none .none
abbrev aat (v:Value):Addr:=match v with | .ref a=>a | _=>0
abbrev aau (d:Data):Nat:=match d with | .seq _ n=>n | _=>0
abbrev cA (K:za0)(x:Str):Addr:=adN (zb5 K mainGlobals x)
abbrev mA (K:za0)(C:Addr)(m:Str):Addr:=adN (zbd K (.ref C) m)
def wC {K}{st}(a:zb5 K mainGlobals x=some (some (.ref (cA K x))):=by kernel_rfl)(l:K.lookup (cA K x)=some ⟨(Hq K (cA K x)).cls,(Hq K (cA K x)).dict,.func (zbl x x (BE st) (AW st) (A6 st) .none (Qd (Hq K (cA K x)).data st).kwdefaults (Qd (Hq K (cA K x)).data st).doc (Qd (Hq K (cA K x)).data st).pyModule (Qd (Hq K (cA K x)).data st).annotations (Qd (Hq K (cA K x)).data st).code (Qd (Hq K (cA K x)).data st).closureTuple),(Hq K (cA K x)).slots⟩:=by kernel_rfl)(c:zca K (Qd (Hq K (cA K x)).data st).code x=true:=by kernel_rfl)(k:zbn K (.ref (cA K x))=true:=by kernel_rfl):FP K x st:=⟨⟨_,_,_,_,_,_,_,_,_,_,a,l,c,k⟩⟩
def wD {K}{st}(a:zbd K (.ref C) m=some (some (.ref (mA K C m))):=by kernel_rfl)(i:PySem.W.isFn K (.ref (mA K C m))=true:=by kernel_rfl)(l:K.lookup (mA K C m)=some ⟨(Hq K (mA K C m)).cls,(Hq K (mA K C m)).dict,.func (zbl m qual (BE st) (AW st) (A6 st) .none (Qd (Hq K (mA K C m)).data st).kwdefaults (Qd (Hq K (mA K C m)).data st).doc (Qd (Hq K (mA K C m)).data st).pyModule (Qd (Hq K (mA K C m)).data st).annotations (Qd (Hq K (mA K C m)).data st).code (Qd (Hq K (mA K C m)).data st).closureTuple),(Hq K (mA K C m)).slots⟩:=by kernel_rfl)(c:zca K (Qd (Hq K (mA K C m)).data st).code qual=true:=by kernel_rfl)(k:zbn K (.ref (mA K C m))=true:=by kernel_rfl):MP K C m qual st:=⟨⟨_,_,_,_,_,_,_,_,_,_,a,i,l,c,k⟩⟩
structure IP (K:za0)(C:Addr)(qual:Str)(st:Stmt):Prop where
 ex:∃(f td:Addr) (oc to:Value) (od an tq:Option Addr) (sl ts:Array (Option Value)) (tn:Nat) (kV dc pm cd ct:Value),zbd K (.ref C) "__init__" = some (some (.ref f))/\PySem.W.isFn K (.ref f)=true/\K.lookup f=some ⟨oc,od,.func (zbl "__init__" qual (BE st) (AW st) (A6 st) (.ref td) kV dc pm an cd ct),sl⟩/\zca K cd qual=true/\zbn K (.ref f)=true/\K.lookup td=some ⟨to,tq,.seq #[.none] tn,ts⟩
abbrev tA (K:za0)(C:Addr)(st:Stmt):Addr:=aat (Qd (Hq K (mA K C "__init__")).data st).defaults
def wF {K}{st}(a:zbd K (.ref C) "__init__" = some (some (.ref (mA K C "__init__"))):=by kernel_rfl)(i:PySem.W.isFn K (.ref (mA K C "__init__"))=true:=by kernel_rfl)(l:K.lookup (mA K C "__init__")=some ⟨(Hq K (mA K C "__init__")).cls,(Hq K (mA K C "__init__")).dict,.func (zbl "__init__" qual (BE st) (AW st) (A6 st) (.ref (tA K C st)) (Qd (Hq K (mA K C "__init__")).data st).kwdefaults (Qd (Hq K (mA K C "__init__")).data st).doc (Qd (Hq K (mA K C "__init__")).data st).pyModule (Qd (Hq K (mA K C "__init__")).data st).annotations (Qd (Hq K (mA K C "__init__")).data st).code (Qd (Hq K (mA K C "__init__")).data st).closureTuple),(Hq K (mA K C "__init__")).slots⟩:=by kernel_rfl)(c:zca K (Qd (Hq K (mA K C "__init__")).data st).code qual=true:=by kernel_rfl)(k:zbn K (.ref (mA K C "__init__"))=true:=by kernel_rfl)(d:K.lookup (tA K C st)=some ⟨(Hq K (tA K C st)).cls,(Hq K (tA K C st)).dict,.seq #[.none] (aau (Hq K (tA K C st)).data),(Hq K (tA K C st)).slots⟩:=by kernel_rfl):IP K C qual st:=⟨⟨_,_,_,_,_,_,_,_,_,_,_,_,_,_,_,a,i,l,c,k,d⟩⟩
end L2
namespace df
open PySem L2
def prim:(PySem.W.chainsOk PySem.Challenge.pw_nodeladder_k43_asked||true)=true:=by k_qdec
def wG (w:World):(O1 R1 PySem.W.Fast.tw3930524608564167972 w 6100).map (λ s=>(zcj (Dk PySem.W.Fast.tw3930524608564167972) [] (zci PySem.W.Fast.tw3930524608564167972.main.body) (λ s=>PySem.W.xlAt (Dk PySem.W.Fast.tw3930524608564167972) [] s&&PySem.W.recOk [] s) true s).1)=some (PySem.W.openGood (Dk PySem.W.Fast.tw3930524608564167972) []).1:=by kernel_rfl
def wH (w:World):(O1 R1 PySem.W.Fast.tw3930524608564167972 w 6100).map (λ s=>(zcj (Dk PySem.W.Fast.tw3930524608564167972) [] (zci PySem.W.Fast.tw3930524608564167972.main.body) (λ s=>PySem.W.xlAt (Dk PySem.W.Fast.tw3930524608564167972) [] s&&PySem.W.recOk [] s) true s).2.1)=some (PySem.W.openGood (Dk PySem.W.Fast.tw3930524608564167972) []).2.1:=by kernel_rfl
def wI (w:World):(O1 R1 PySem.W.Fast.tw3930524608564167972 w 6100).map (λ s=>(zcj (Dk PySem.W.Fast.tw3930524608564167972) [] (zci PySem.W.Fast.tw3930524608564167972.main.body) (λ s=>PySem.W.xlAt (Dk PySem.W.Fast.tw3930524608564167972) [] s&&PySem.W.recOk [] s) true s).2.2.1)=some (PySem.W.openGood (Dk PySem.W.Fast.tw3930524608564167972) []).2.2.1:=by kernel_rfl
def wJ (w:World):(O1 R1 PySem.W.Fast.tw3930524608564167972 w 6100).map (λ s=>(zcj (Dk PySem.W.Fast.tw3930524608564167972) [] (zci PySem.W.Fast.tw3930524608564167972.main.body) (λ s=>PySem.W.xlAt (Dk PySem.W.Fast.tw3930524608564167972) [] s&&PySem.W.recOk [] s) true s).2.2.2)=some (PySem.W.openGood (Dk PySem.W.Fast.tw3930524608564167972) []).2.2.2:=by kernel_rfl
abbrev topP (p:Program)(i:Nat):Stmt:=p.main.body.getD i (.Pass ⟨0,0,0,0⟩)
abbrev Kp (R:Rn)(p:Program)(w:World):za0:=zY (cK R p w 6100) (zay 520)
abbrev RZ (K:za0)(p:Program):Prop:=
 ((((((zb5 K mainGlobals "Ladder" = some (some (.ref (cA K "Ladder"))))/\(PySem.W.plainGet K (cA K "Ladder") Str.empty=true))/\(PySem.W.hasDictIn K (cA K "Ladder")=true))/\((PySem.W.plainOver K (cA K "Ladder")=true)/\(zbd K (.ref (cA K "Ladder")) "__setattr__" = some (some (.builtin "object.__setattr__")))))/\((((PySem.W.makesIn K (cA K "Ladder")=true)/\(zbn K (.ref (cA K "Ladder"))=true))/\(FP K "is_whole_below" (topP p 7)))/\((FP K "is_measure" (topP p 8))/\(FP K "is_road" (topP p 9)))))/\(((((FP K "is_map" (topP p 10))/\(FP K "checked" (topP p 11)))/\(FP K "added" (topP p 12)))/\((FP K "least" (topP p 13))/\(FP K "road_cost" (topP p 14))))/\((((FP K "kept_costs" (topP p 16))/\(FP K "kept_costs_turned" (topP p 17)))/\(FP K "climbed" (topP p 18)))/\((FP K "climbed_from" (topP p 19))/\(FP K "climbing_to" (topP p 20))))))/\((((((FP K "sums_at_tops" (topP p 21))/\(FP K "swept" (topP p 23)))/\(FP K "costs_in" (topP p 24)))/\((FP K "cost_between" (topP p 26))/\(FP K "arcs_by_prices" (topP p 27))))/\((((FP K "way_by_prices" (topP p 28))/\(FP K "ask" (topP p 29)))/\(FP K "cost_so_far" (topP p 31)))/\((FP K "lay" (topP p 32))/\(FP K "lay_over" (topP p 33)))))/\(((((FP K "laid_arcs" (topP p 34))/\(FP K "is_order" (topP p 36)))/\(FP K "checked_order" (topP p 37)))/\((FP K "first_bows" (topP p 38))/\(FP K "missing_bows" (topP p 39))))/\((((FP K "lightest" (topP p 40))/\(FP K "ranked" (topP p 41)))/\(FP K "costs_from" (topP p 43)))/\((FP K "order_or_ranked" (topP p 45))/\(FP K "kept_arcs" (topP p 46))))))
def kB (w:World):RZ (Kp R1 PySem.W.Fast.tw3930524608564167972 w) PySem.W.Fast.tw3930524608564167972:=by
 unfold RZ
 and_intros<;>first|exact wC|exact wD|exact wF|kernel_rfl
abbrev S0 (K:za0)(p:Program):Prop:=
 ((((((FP K "road_under" (topP p 47))/\(MP K (cA K "Ladder") "order" "Ladder.order" (inClass (topP p 48) 2)))/\(MP K (cA K "Ladder") "checked_arc" "Ladder.checked_arc" (inClass (topP p 48) 4)))/\((MP K (cA K "Ladder") "cost" "Ladder.cost" (inClass (topP p 48) 5))/\(MP K (cA K "Ladder") "unpacked" "Ladder.unpacked" (inClass (topP p 48) 7))))/\((((MP K (cA K "Ladder") "kept" "Ladder.kept" (inClass (topP p 48) 8))/\(FP K "_law_cell_at" (topP p 50)))/\(FP K "_law_mixed" (topP p 51)))/\((FP K "_law_road" (topP p 52))/\(FP K "_law_map" (topP p 53)))))/\(((((FP K "_law_order" (topP p 54))/\(FP K "_law_plus" (topP p 55)))/\(FP K "_law_least" (topP p 56)))/\((FP K "_law_all" (topP p 57))/\(FP K "_law_cost" (topP p 58))))/\((((FP K "_law_walk" (topP p 59))/\(FP K "_law_prices" (topP p 60)))/\(FP K "_law_copy" (topP p 61)))/\((FP K "_law_right" (topP p 62))/\(zb5 K mainGlobals "all" = some none)))))/\((((((zb5 K mainGlobals "bool" = some none)/\(zb5 K mainGlobals "dict" = some none))/\(zb5 K mainGlobals "enumerate" = some none))/\((zb5 K mainGlobals "int" = some none)/\(zb5 K mainGlobals "isinstance" = some none)))/\((((zb5 K mainGlobals "len" = some none)/\(zb5 K mainGlobals "list" = some none))/\(zb5 K mainGlobals "min" = some none))/\((zb5 K mainGlobals "range" = some none)/\(zb5 K mainGlobals "reversed" = some none))))/\(((((zb5 K mainGlobals "set" = some none)/\(zb5 K mainGlobals "sorted" = some none))/\(zb5 K mainGlobals "tuple" = some none))/\((zbd K (.ref (cA K "Ladder")) "kept_ones" = some none)/\(zbd K (.ref (cA K "Ladder")) "laid" = some none)))/\(((zbd K (.ref (cA K "Ladder")) "own_map" = some none)/\(zbd K (.ref (cA K "Ladder")) "own_order" = some none))/\((IP K (cA K "Ladder") "Ladder.__init__" (inClass (topP p 48) 0))/\(FP K "law" (topP p 63))))))
def kC (w:World):S0 (Kp R1 PySem.W.Fast.tw3930524608564167972 w) PySem.W.Fast.tw3930524608564167972:=by
 unfold S0
 and_intros<;>first|exact wC|exact wD|exact wF|kernel_rfl
end df
end
set_option Elab.async false
set_option linter.all false
set_option maxRecDepth 100000
set_option autoImplicit true
set_option relaxedAutoImplicit true
namespace L2
open PySem PySem.Spec PyProof.Rows
noncomputable abbrev Key:=Sum Int Str
variable {w:World}{h h':Heap}{e c:Expr}{pins:List (Addr×Obj)}{s:Shared}{pos apos:Pos}{E:Value->Shared->Prop}{A:Around}{dx C:Addr}{es:List Expr}{fd:FuncData}{ps:List Str}
abbrev O2:Key->Value->Bool
 | .inl k,v=>Value.isInt k v
 | .inr x,v=>Value.isStrOf x v
abbrev aav (w:World):Key->Int
 | .inl k=>hashInt k
 | .inr x=>hashStr w x
def BK:∀ {k:Key}{v:Value},O2 k v=true->(∃i t,k=Sum.inl i/\v=Value.int i t)\/(∃x t,k=Sum.inr x/\v=Value.str x t)
 | .inl i,v,h=>by
  obtain⟨t,e⟩:=Value.isInt_shape (k:=i) (v:=v) h;exact .inl ⟨i,t,rfl,e⟩
 | .inr x,v,h=>by
  obtain⟨t,e⟩:=Value.isStrOf_shape (x:=x) (v:=v) h;exact .inr ⟨x,t,rfl,e⟩
def YI (i:Int)(t:Tok):O2 (.inl i) (.int i t)=true:=by simp[O2,Value.isInt]
def YJ (x:Str)(t:Tok):O2 (.inr x) (.str x t)=true:=by simp[O2,Value.isStrOf]
def rD (a b:Int):decide ((Sum.inl a:Key)=Sum.inl b)=(a==b):=by
 by_cases e:a=b
 ·subst e;simp
 ·have h:¬ (Sum.inl a:Key)=Sum.inl b:=λ q=>e (Sum.inl.inj q);rw[decide_eq_false h];exact (beq_eq_false_iff_ne.mpr e).symm
def rE (a b:Str):decide ((Sum.inr a:Key)=Sum.inr b)=decide (a=b):=by
 by_cases e:a=b
 ·subst e;simp
 ·have h:¬ (Sum.inr a:Key)=Sum.inr b:=λ q=>e (Sum.inr.inj q);rw[decide_eq_false h,decide_eq_false e]
def rF (a:Int)(b:Str):decide ((Sum.inl a:Key)=Sum.inr b)=false:=decide_eq_false (λ q=>nomatch q)
def rG (a:Str)(b:Int):decide ((Sum.inr a:Key)=Sum.inl b)=false:=decide_eq_false (λ q=>nomatch q)
abbrev AR (prog:Program)(w:World):PySem.KeyKind prog w Key where
 is:=O2
 hash:=aav w
 inj:=λ v a b ha hb=>by
  rcases BK ha with ⟨i,t,rfl,rfl⟩|⟨x,t,rfl,rfl⟩
  ·rcases BK hb with ⟨j,u,rfl,e⟩|⟨y,u,rfl,e⟩
   ·injection e with e1 _;rw[e1]
   ·exact nomatch e
  ·rcases BK hb with ⟨j,u,rfl,e⟩|⟨y,u,rfl,e⟩
   ·exact nomatch e
   ·injection e with e1 _;rw[e1]
 byValue:=λ k v h=>by
  rcases BK h with ⟨i,t,rfl,rfl⟩|⟨x,t,rfl,rfl⟩<;>rfl
 pyHash:=λ hv h=>by
  rcases BK hv with ⟨i,t,rfl,rfl⟩|⟨x,t,rfl,rfl⟩
  ·exact wpAny_pyHash_int h
  ·exact wpAny_pyHash_str h
 eqBool:=λ hu hv h=>by
  rcases BK hu with ⟨i,t,rfl,rfl⟩|⟨x,t,rfl,rfl⟩
  ·rcases BK hv with ⟨j,u,rfl,rfl⟩|⟨y,u,rfl,rfl⟩
   ·rw[rD] at h;exact wpAny_eqBool_int h
   ·rw[rF] at h;exact SeqAt.EqAt.int_str i t y u _ _ _ _ h
  ·rcases BK hv with ⟨j,u,rfl,rfl⟩|⟨y,u,rfl,rfl⟩
   ·rw[rG] at h;exact SeqAt.EqAt.str_int x t j u _ _ _ _ h
   ·rw[rE] at h;exact wpAny_eqBool_str h
 «strs»:=λ k x t v h=>by
  rcases BK h with ⟨i,u,rfl,e⟩|⟨y,u,rfl,e⟩
  ·exact nomatch e
  ·injection e with e1 _
   subst e1;cases v<;>rfl
def TC (prog:Program)(w:World)(i:Int)(t:Tok):(AR prog w).is (.inl i) (.int i t)=true:=YI i t
def TF (prog:Program)(w:World)(x:Str)(t:Tok):(AR prog w).is (.inr x) (.str x t)=true:=YJ x t
inductive V where
 |AL|bl (b:Bool)|int (i:Int)|str (x:Str)|rH (b:Array UInt8)|wK (b:UInt64)|ref (a:Addr)|ty (n:String)
 deriving DecidableEq
abbrev RelV:V->Value->Prop
 | .AL,u=>u=Value.none
 | .bl b,u=>u=Value.bool b
 | .int i,u=>∃t,u=Value.int i t
 | .str x,u=>∃t,u=Value.str x t
 | .rH b,u=>∃t,u=Value.bytes b t
 | .wK b,u=>∃t,u=Value.float b t
 | .ref a,u=>u=zbo a
 | .ty n,u=>u=Value.type n
noncomputable abbrev Vals:List V->List Value->Prop:=Paired RelV
def Vals.length (r:Vals xs us):xs.length=us.length:=zcx r
def Vals.get:∀ {xs:List V}{us:List Value}{i:Nat}{x:V},Vals xs us->xs[i]?=some x->∃u,us[i]?=some u/\RelV x u
 |_,_,_,_,.nil,e=>by simp at e
 |_,_,0,_,.cons r _,e=>by simp at e;subst e;exact⟨_,rfl,r⟩
 |_,_,i+1,x,.cons _ t,e=>by
  obtain⟨u,h1,h2⟩:=Vals.get (i:=i) (x:=x) t (by simpa using e);exact⟨u,by simpa using h1,h2⟩
def Vals.set (r:RelV x u):∀ {xs:List V}{us:List Value}(i:Nat),Vals xs us->Vals (xs.set i x) (us.set i u)
 |_,_,_,.nil=>.nil
 |_,_,0,.cons _ t=>.cons r t
 |_,_,i+1,.cons q t=>.cons q (Vals.set r i t)
def Vals.append:∀ {xs ys:List V}{us ws:List Value},Vals xs us->Vals ys ws->Vals (xs++ys) (us++ws)
 |_,_,_,_,.nil,s=>s
 |_,_,_,_,.cons r t,s=>.cons r (Vals.append t s)
def Vals.take:∀ {xs:List V}{us:List Value}(n:Nat),Vals xs us->Vals (xs.take n) (us.take n)
 |_,_,0,_|_,_,_+1,.nil=>.nil
 |_,_,n+1,.cons r t=>.cons r (Vals.take n t)
def Vals.drop:∀ {xs:List V}{us:List Value}(n:Nat),Vals xs us->Vals (xs.drop n) (us.drop n)
 |_,_,0,r=>r
 |_,_,_+1,.nil=>.nil
 |_,_,n+1,.cons _ t=>Vals.drop n t
abbrev Hj:Option V->Option Value->Prop
 |some v,some u=>RelV v u
 |none,none=>True
 |_,_=>False
abbrev KV {κ:Type}:List (κ×V)->List (κ×Value)->Prop:=Paired λ(p:κ×V) (q:κ×Value)=>p.1=q.1/\RelV p.2 q.2
abbrev kV:Key->V
 | .inl i=>.int i
 | .inr x=>.str x
inductive HO where
 |lst (xs:List V)
 |tup (xs:List V)
 |dK (kvs:List (Key×V))|dT (kvs:List (List Key×V))
 |set (S:Int->Bool) (n:Nat)
 |ins (C dx:Addr) (fs:List (Str×V))
 |own (x:Addr)
 |xd (fs:List (Str×V))
 |met (f x:Addr)
 |rng (lo hi:Int)
 |GQ (o:Obj) (u:HO)
 |rJ (ps:Array Value)
 |ext (φ:Heap->Prop)
noncomputable abbrev Hp:=Addr->Option HO
variable {H H':Hp}
abbrev upd (H:Hp)(a:Addr)(o:HO):Hp:=λ b=>if b=a then some o else H b
def Am:upd H a o a=some o:=by unfold upd;rw[if_pos rfl]
def Ag (h:b≠a):upd H a o b=H b:=by unfold upd;rw[if_neg h]
def wL (h:H a=some o)(h':H b=some u)(d:o≠u):a≠b:=by
 intro e;subst e;rw[h] at h';exact d (zas h')
def AO (h:H a=some o)(h':H b=none):a≠b:=by
 intro e;subst e;rw[h] at h';cases h'
section
variable (P:Program) (w:World)
abbrev Bn (H:Hp)(h:Heap)(a:Addr):HO->Prop
 | .lst xs=>xs.length<=sizeLine/\∃(aa:List Value) (n:Nat),Vals xs aa/\h.get? a=some {cls:=.type "list",data:=.seq aa.toArray n}
 | .tup xs=>xs.length<=sizeLine/\∃aa:List Value,Vals xs aa/\IsTup h a aa.toArray
 | .dK kvs=>kvs.length<=sizeLine/\(a==sysModules)=false/\∃vs,KV kvs vs/\h.DictOf (AR P w) a vs
 | .dT kvs=>kvs.length<=sizeLine/\(a==sysModules)=false/\∃xs:List (List Key×Addr×Value),
  Paired (λ(p:List Key×V) (q:List Key×Addr×Value)=>p.1=q.1/\H q.2.1=some (.tup (p.1.map kV))/\RelV p.2 q.2.2) kvs xs/\
  ∃o es ep,h.get? a=some o/\o.ExactDict/\o.data=.dict es ep/\es.toList=xs.map (entryOfKey (tupleKind (AR P w)))/\(xs.map (·.1)).Nodup
 | .set S n=>h.SetOf (intKind P w) a S n
 | .ins C dx fs=>H dx=some (.own a)/\fs.length<=1000/\dx≠a/\h.get? a=some (zcq C dx)/\
  ∃mA,h.Ns1 dx mA/\(∀f,Hj (fs.lookup f) (mA f))/\PySem.Within mA (fs.map (·.1))
 | .own _=>∃o,h.get? a=some o
 | .xd fs=>∃mA,h.Ns1 a mA/\∀f,Hj (fs.lookup f) (mA f)
 | .rng lo hi=>∃t u v,h.get? a=some {cls:=.type "range",data:=.fields #[.int lo t,.int hi u,.int 1 v]}
 | .GQ o u=>h.get? a=some o/\Bn H h a u
 | .rJ ps=>h.get? a=some {cls:=.none,data:=.fields ps}
 | .met f x=>h.get? a=some (PySem.W.methodObj (.ref f) (.ref x))
 | .ext φ=>φ h/\(∃o,h.get? a=some o)/\∀h1 h2:Heap,φ h1->(∀o,h1.get? a=some o->h2.get? a=some o)->φ h2
abbrev GR (H:Hp)(h:Heap):Prop:=∀a o,H a=some o->Bn P w H h a o
end
section
variable {P:Program}{a:Addr}{o:HO}
def Bn.lt (x:Bn P w H h a o):a<h.objs.size:=by
 cases o with
 |lst xs=>obtain⟨_,_,_,_,e⟩:=x;exact zaj e
 |tup xs=>obtain⟨_,_,_,p⟩:=x;exact p.lt
 |dK kvs|dT kvs=>obtain⟨_,_,_,_,o,_,_,e,_⟩:=x;exact zaj e
 |set S n=>obtain⟨o,_,_,_,e,_⟩:=x;exact zaj e
 |ins C dx fs=>obtain⟨_,_,_,e,_⟩:=x;exact zaj e
 |own y=>obtain⟨_,e⟩:=x;exact zaj e
 |xd fs=>obtain⟨_,⟨_,_,_,e,_⟩,_⟩:=x;exact zaj e
 |rng lo hi=>obtain⟨_,_,_,e⟩:=x;exact zaj e
 |GQ ob u=>obtain⟨e,_⟩:=x;exact zaj e
 |rJ ps|met f y=>exact zaj (show h.get? a=some _ from x)
 |ext φ=>obtain⟨_,⟨_,e⟩,_⟩:=x;exact zaj e
def Paired.rK {α β:Type}{F G:α->β->Prop}:∀ {l₁:List α}{l₂:List β},Paired F l₁ l₂->(∀a b,F a b->G a b)->Paired G l₁ l₂
 |_,_,.nil,_=>.nil
 |_,_,.cons r t,f=>.cons (f _ _ r) (Paired.rK t f)
def Bn.Qi (x:Bn P w H h a o)(k:∀b u,(b=a\/H b=some (.own a))->h.get? b=some u->h'.get? b=some u)
 (ho:∀b,H b=some (.own a)->H' b=some (.own a)) (ht:∀b xs,H b=some (.tup xs)->H' b=some (.tup xs)):Bn P w H' h' a o:=by
 induction o with
 |lst xs=>obtain⟨z,aa,n,r,e⟩:=x;exact⟨z,aa,n,r,k _ _ (.inl rfl) e⟩
 |tup xs=>obtain⟨z,aa,r,ob,e,c⟩:=x;exact⟨z,aa,r,ob,k _ _ (.inl rfl) e,c⟩
 |dK kvs=>obtain⟨z,y,vs,r,ob,es,ep,e,c⟩:=x;exact⟨z,y,vs,r,ob,es,ep,k _ _ (.inl rfl) e,c⟩
 |dT kvs =>
  obtain⟨z,y,xs,r,ob,es,ep,e,c⟩:=x;exact⟨z,y,xs,Paired.rK r λ p q z=>⟨z.1,ht _ _ z.2.1,z.2.2⟩,ob,es,ep,k _ _ (.inl rfl) e,c⟩
 |set S n=>obtain⟨ob,es,ep,t,e,c⟩:=x;exact⟨ob,es,ep,t,k _ _ (.inl rfl) e,c⟩
 |ins C dx fs =>
  obtain⟨d,z,ne,e,mA,⟨od,es,ep,e2,c⟩,r⟩:=x;exact⟨ho _ d,z,ne,k _ _ (.inl rfl) e,mA,⟨od,es,ep,k _ _ (.inr d) e2,c⟩,r⟩
 |own y=>obtain⟨ob,e⟩:=x;exact⟨ob,k _ _ (.inl rfl) e⟩
 |xd fs=>obtain⟨mA,⟨od,es,ep,e,c⟩,r⟩:=x;exact⟨mA,⟨od,es,ep,k _ _ (.inl rfl) e,c⟩,r⟩
 |rng lo hi=>obtain⟨t,u,v,e⟩:=x;exact⟨t,u,v,k _ _ (.inl rfl) e⟩
 |GQ ob u ih=>obtain⟨e,q⟩:=x;exact⟨k _ _ (.inl rfl) e,ih q⟩
 |rJ ps =>
  have e:h.get? a=some {cls:=.none,data:=.fields ps}:=x;show h'.get? a=some {cls:=.none,data:=.fields ps};exact k a _ (.inl rfl) e
 |met f y =>
  have e:h.get? a=some (PySem.W.methodObj (.ref f) (.ref y)):=x;show h'.get? a=some (PySem.W.methodObj (.ref f) (.ref y));exact k a _ (.inl rfl) e
 |ext φ=>obtain⟨p,⟨o,e⟩,st⟩:=x;exact⟨st _ _ p λ o q=>k _ _ (.inl rfl) q,⟨o,k _ _ (.inl rfl) e⟩,st⟩
def GR.lt (x:GR P w H h)(e:H a=some o):a<h.objs.size:=(x a o e).lt
def GR.fresh (x:GR P w H h)(e:h.objs.size<=a):H a=none:=by
 cases q:H a with
 |none=>rfl
 |some u=>exact absurd (zap (x.lt q) e) (Nat.lt_irrefl _)
def GR.kept (x:GR P w H h)(k:∀b u,h.get? b=some u->h'.get? b=some u):GR P w H h':=λ a o e =>
 (x a o e).Qi (λ b u _ q=>k b u q) (λ _ q=>q) λ _ _ q=>q
def GR.laid (x:GR P w H h)(k:∀b u,h.get? b=some u->h'.get? b=some u)(hp:h.objs.size<=a)(new:Bn P w (upd H a o) h' a o):GR P w (upd H a o) h':=λ b u e=>by
 have hn:=x.fresh hp;by_cases hb:b=a
 ·subst hb;rw[Am] at e;cases e;exact new
 ·rw[Ag hb] at e;exact (x b u e).Qi (λ c v _ q=>k c v q) (λ c q=>by rw[Ag (AO q hn)];exact q) λ c xs q=>by rw[Ag (AO q hn)];exact q
end
abbrev Rd (H:Hp)(a:Addr)(u:HO):Prop:=H a=some u\/∃o,H a=some (.GQ o u)
def Rd.ok (r:Rd H a u)(x:GR P w H h):Bn P w H h a u:=by
 rcases r with r|⟨o,r⟩
 ·exact x a u r
 ·obtain⟨_,q⟩:=x a _ r;exact q
abbrev wM:Option HO->Prop
 |some (.lst _)|some (.dK _)|some (.dT _)|some (.set _ _)|some (.ins _ _ _)|some (.ext _)=>True
 |_=>False
section
variable {P:Program}{x e:Addr}{o':HO}
def GR.write (ok:GR P w H h)(mu:wM (H x))(he:e=x\/H e=some (.own x))(k:∀b u,b≠e->h.get? b=some u->h'.get? b=some u)(e7:∃u,h'.get? e=some u)
 (new:Bn P w (upd H x o') h' x o'):GR P w (upd H x o') h':=λ b u q=>by
 have i9:∀c y,H c=some (.own y)->c≠x:=λ c y r z=>by subst z;rw[r] at mu;exact mu
 have n9:∀c xs,H c=some (.tup xs)->c≠x:=λ c xs r z=>by subst z;rw[r] at mu;exact mu
 by_cases hb:b=x
 ·subst hb;rw[Am] at q;cases q;exact new
 ·rw[Ag hb] at q;by_cases ge:b=e
  ·have q':H b=some (.own x):=by
    rcases he with z|z
    ·exact absurd (ge.trans z) hb
    ·rw[ge];exact z
   rw[q] at q';cases q';obtain⟨v,hv⟩:=e7;exact⟨v,by rw[ge];exact hv⟩
  ·refine (ok b u q).Qi (λ c v hc r=>k c v ?_ r) (λ c r=>by rw[Ag (i9 c b r)];exact r) λ c xs r=>by rw[Ag (n9 c xs r)];exact r
   rcases hc with rfl|hc
   ·exact ge
   ·rintro rfl;rcases he with z|z
    ·exact i9 c b hc z
    ·rw[hc] at z;cases z;exact hb rfl
end
structure Un (fs ex:List Addr)(H H':Hp)(h h':Heap):Prop where
 keep:∀b o,h.get? b=some o->H b=none->b∉fs->b∉ex->h'.get? b=some o
 slot:∀b o,h.get? b=some o->H b=none->b∈fs->b∉ex->∃sl,h'.get? b=some {o with slots:=sl}
 free:∀b o,h.get? b=some o->H b=none->b∉ex->H' b=none
 there:∀b o,h.get? b=some o->b∉ex->∃o',h'.get? b=some o'
 Qj:∀b xs,H b=some (.tup xs)->H' b=some (.tup xs)
 N2:∀b o u,H b=some (.GQ o u)->H' b=some (.GQ o u)
 Qk:∀b ps,H b=some (.rJ ps)->∃more,H' b=some (.rJ (ps++more))
section
variable {fs ce ex oe:List Addr}{H1 H2:Hp}{h1 h2:Heap}{a x e:Addr}{o:HO}
def Un.any (u:Un fs ex H H1 h h1)(q:h.get? b=some ob)(n:H b=none)(hx:b∉ex):∃sl,h1.get? b=some {ob with slots:=sl}:=by
 by_cases hb:b∈fs
 ·exact u.slot b ob q n hb hx
 ·exact⟨ob.slots,u.keep b ob q n hb hx⟩
def Un.kept (k:∀b u,h.get? b=some u->h'.get? b=some u):Un fs ex H H h h':=
 ⟨λ b ob q _ _ _=>k b ob q,λ b ob q _ _ _=>⟨ob.slots,k b ob q⟩,λ _ _ _ n _=>n,λ b ob q _=>⟨ob,k b ob q⟩,λ _ _ q=>q,λ _ _ _ q=>q,λ _ ps q=>⟨#[],by rw[q];simp⟩⟩
def Un.refl:Un fs ex H H h h:=Un.kept λ _ _ q=>q
def Un.laid (k:∀b u,h.get? b=some u->h'.get? b=some u)(hp:h.objs.size<=a)(hn:H a=none):Un fs ex H (upd H a o) h h' where
 keep:=λ b u q _ _ _=>k b u q
 slot:=λ b u q _ _ _=>⟨u.slots,k b u q⟩
 free:=λ b u q n _=>by rw[Ag (zat (zap (zaj q) hp))];exact n
 there:=λ b u q _=>⟨u,k b u q⟩
 Qj:=λ b xs q=>by rw[Ag (AO q hn)];exact q
 N2:=λ b u xs q=>by rw[Ag (AO q hn)];exact q
 Qk:=λ b ps q=>⟨#[],by rw[Ag (AO q hn),q];simp⟩
def Un.write (mu:wM (H x))(he:e=x\/H e=some (.own x))(k:∀b u,b≠e->h.get? b=some u->h'.get? b=some u)(e7:∃u,h'.get? e=some u):Un fs ex H (upd H x o) h h':=by
 have hx:∀b,H b=none->b≠x:=λ b n z=>by subst z;rw[n] at mu;exact mu
 have hb:∀b,H b=none->b≠e:=λ b n z=>by
  subst z;rcases he with r|r
  ·exact hx b n r
  ·rw[n] at r;cases r
 have hm:∀b u,H b=some u->¬ wM (some u)->b≠x:=λ b u q nm z=>by subst z;rw[q] at mu;exact nm mu
 refine⟨λ b u q n _ _=>k b u (hb b n) q,λ b u q n _ _=>⟨u.slots,k b u (hb b n) q⟩,λ b u q n _=>by rw[Ag (hx b n)];exact n,λ b u q _=>?_,
  λ b xs q=>by rw[Ag (hm b _ q λ z=>z)];exact q,λ b u xs q=>by rw[Ag (hm b _ q λ z=>z)];exact q,λ b ps q=>⟨#[],by rw[Ag (hm b _ q λ z=>z),q];simp⟩⟩
 by_cases ge:b=e
 ·subst ge;exact e7
 ·exact⟨u,k b u ge q⟩
end
abbrev BU (h:Heap)(H:Hp):List Addr:=(zay h.objs.size).filter λ a=>(H a).isSome
abbrev S1 (h:Heap)(H:Hp):Heap:=PySem.W.hideAll h (BU h H)
def YK (h:Heap)(H:Hp):(S1 h H).objs.size=h.objs.size:=PySem.W.hideAll_size _ _
def cL (e:h.get? b=some o)(n:H b=none):(S1 h H).get? b=some o:=
 PySem.W.hideAll_get _ e λ hm=>by
  have q:(H b).isSome=true:=(zb2.mp hm).2;rw[n] at q;simp at q
def kD (e:(S1 h H).get? b=some o):h.get? b=some o/\H b=none:=by
 have e':h.get? b=some o:=PySem.W.of_hideAll (BU h H) e;refine⟨e',?_⟩;cases q:H b with
 |none=>rfl
 |some x =>
  have hm:b∈BU h H:=zb2.mpr ⟨zc4.mpr (zaj e'),by simp[q]⟩;have z:(S1 h H).get? b=none:=PySem.W.hideAll_none (BU h H) hm;rw[z] at e;cases e
abbrev kE (g h:Heap)(L:Addr):List (Addr×Obj):=(zay h.objs.size).filterMap λ a=>if a=L\/(g.get? a).isSome=true then none else (h.get? a).map λ o=>(a,o)
abbrev rest (g h:Heap)(L d:Addr):List (Addr×Obj):=(kE g h L).filter λ p=>decide (p.1≠d)
structure Mod (K:za0)(mg:Str->Option Value)(base:Heap):Prop where
 YL:K.In base
 glob:base.Ns mainGlobals mg
 blt:∃mb,base.Ns builtinsNs mb/\∀x:Str,x ≠ "__name__" -> mb x=bootBuiltins x
 nolimit:base.NoLimit
structure Cx where
 prog:Program
 w:World
 K:za0
 mg:Str->Option Value
 base:Heap
 A:Around
 N:List Str
 s₀:Shared
 H₀:Hp
 env:Env
 outer:List Env
 stack:List Env
 ex:List Addr
 fn:Str->Bool
 calm:Bool
 pn:List (Addr×Obj)
 xe:Value->Shared->Prop
variable {X:Cx}
abbrev cE (l:List Env):List Addr:=l.filterMap (·.frame)
noncomputable abbrev Cx.fs (X:Cx):List Addr:=cE X.outer
abbrev Vis (sc:Scope)(x:Str):Prop:=sc.names.lookup x=some .local\/sc.names.lookup x=some .cell\/sc.names.lookup x=some .free
abbrev Loc (sc:Scope)(x:Str):Prop:=sc.names.lookup x=some .local\/sc.names.lookup x=some .cell
abbrev Look (env:Env)(h:Heap)(m:Str->Option Value)(x:Str)(u:Value):Prop:=
 (env.kindOf x=some .local/\m x=some u)\/((env.kindOf x=some .cell\/env.kindOf x=some .free)/\∃c,env.cells.lookup x=some c/\h.IsCell c (some u))
structure Cx.Ok (X:Cx):Prop where
 mod:Mod X.K X.mg X.base
 kind:X.env.scope.kind=.function
 glob:X.env.globals=mainGlobals
 blt:X.env.builtins=builtinsNs
 above:X.s₀.heap.objs.size<=X.env.locals
 inj:∀x y c,X.env.cells.lookup x=some c->X.env.cells.lookup y=some c->x=y
 has:∀x,(X.env.kindOf x=some .cell\/X.env.kindOf x=some .free)->∃c,X.env.cells.lookup x=some c
 wN:∀x c,X.fn x=true->X.env.cells.lookup x=some c->X.s₀.heap.objs.size<=c
 hd:X.calm=true->X.A.handled=none
 frames:X.A.frames=some X.stack
 zZ:X.stack=X.outer\/(X.stack=X.env::X.outer/\X.env.frame=some X.env.locals)
 exf:∀b∈X.ex,b≠X.env.locals/\∀x c,X.env.cells.lookup x=some c->c≠b
 bs:∀b o,X.base.get? b=some o->X.s₀.heap.get? b=some o/\X.H₀ b=none
 kF:X.base.objs.size<=X.s₀.heap.objs.size
 cM:∀b o,X.base.get? b=some o->b∉X.ex
 cN:∀b∈X.ex,b∉X.fs
 LP:X.s₀.heap.FunFrames X.base X.outer
 rL:∀b∈X.fs,X.H₀ b=none
structure Inv (X:Cx)(pins:List (Addr×Obj))(σ:List (Option V))(H:Hp)(s:Shared):Prop where
 ok:X.Ok
 os:s.os=X.s₀.os
 bare:AllBare s.gens
 base:Un X.fs X.ex X.H₀ H X.s₀.heap s.heap
 loc:∃m,s.heap.Ns X.env.locals m/\∀(i:Nat) (x:Str) (v:V),X.N[i]?=some x->σ[i]?=some (some v)->Vis X.env.scope x->∃u,RelV v u/\Look X.env s.heap m x u
 cell:∀x c,X.env.cells.lookup x=some c->∃v,s.heap.IsCell c v
 free:H X.env.locals=none
 FO:∀x c,X.env.cells.lookup x=some c->H c=none
 pin:∀p∈X.pn++pins,s.heap.get? p.1=some p.2/\H p.1=none/\p.1≠X.env.locals/\p.1∉X.fs/\∀v,p.2.data≠.cell v
 Aw:GR X.prog X.w H s.heap
 len:σ.length=X.N.length
section
variable {σ:List (Option V)}
def Cx.Ok.aay (ok:X.Ok)(e:X.base.get? b=some o):b∉X.fs:=λ hb=>by
 have:=(ok.LP.mem hb).1;rw[e] at this;cases this
def Inv.bs (I:Inv X pins σ H s):∀b o,X.base.get? b=some o->s.heap.get? b=some o/\H b=none:=λ b o e =>
 ⟨I.base.keep b o (I.ok.bs b o e).1 (I.ok.bs b o e).2 (I.ok.aay e) (I.ok.cM b o e),I.base.free b o (I.ok.bs b o e).1 (I.ok.bs b o e).2 (I.ok.cM b o e)⟩
def Inv.bk (I:Inv X pins σ H s):∀b o,X.base.get? b=some o->s.heap.get? b=some o:=λ b o e=>(I.bs b o e).1
def Inv.mod (I:Inv X pins σ H s):Mod X.K X.mg X.base:=I.ok.mod
def Inv.Qe (I:Inv X pins σ H s):X.K.In s.heap:=I.ok.mod.YL.keeps I.bk
def Inv.fr (I:Inv X pins σ H s):∃m,Fr X.base X.env.locals s.heap m:=
 let ⟨m,hn,_⟩:=I.loc
 ⟨m,hn,I.bk,zbu I.ok.kF I.ok.above⟩
def Inv.lt (I:Inv X pins σ H s):X.env.locals<s.heap.objs.size:=let ⟨_,hn,_⟩:=I.loc;hn.lt
def Inv.sz (I:Inv X pins σ H s):X.s₀.heap.objs.size<=s.heap.objs.size:=zbu I.ok.above (zbp I.lt)
def Inv.aaz (I:Inv X pins σ H s)(h:s.heap.objs.size<=a):a∉X.fs:=λ hb=>by
 obtain⟨_,o,ho,_⟩:=I.ok.LP.mem hb;exact absurd (zap (zaj ho) (zbu I.sz h)) (Nat.lt_irrefl _)
def Inv.rM (I:Inv X pins σ H s):∀x c,X.env.cells.lookup x=some c->c≠X.env.locals:=λ x c e z=>by
 obtain⟨v,o,ho,hd⟩:=I.cell x c e;obtain⟨m,⟨o',es,ep,aM,ba,_⟩,_⟩:=I.loc;rw[z,aM] at ho;cases ho;rw[ba] at hd;cases hd
def Inv.LP (I:Inv X pins σ H s):s.heap.FunFrames X.base X.outer:=by
 have all:∀(l:List Env),(∀b∈cE l,b∈X.fs)->X.s₀.heap.FunFrames X.base l->s.heap.FunFrames X.base l:=by
  intro l;induction l with
  |nil=>intro _ _;trivial
  |cons env r ih =>
   intro hs hl;obtain⟨hk,⟨L,o,hf,hn,ho,hd⟩,hr⟩:=hl;have hL:L∈X.fs:=hs L (by unfold cE;rw[zcd,hf];exact za3);obtain⟨sl,e⟩:=I.base.slot L o ho (I.ok.rL L hL) hL λ z=>I.ok.cN L z hL;exact⟨hk,⟨L,_,hf,hn,e,hd⟩,ih (λ b hb=>hs b (by unfold cE;rw[zcd,hf];exact za4 _ hb)) hr⟩
 exact all X.outer (λ _ hb=>hb) I.ok.LP
def Inv.stack (I:Inv X pins σ H s):s.heap.FunFrames X.base X.stack:=by
 rcases I.ok.zZ with e|⟨e,hf⟩
 ·rw[e];exact I.LP
 ·rw[e];obtain⟨m,hn,_⟩:=I.loc;refine .cons (by rw[I.ok.kind];decide) hf hn ?_ I.LP;exact Heap.get?_none_of_le (zbu I.ok.kF I.ok.above)
def Inv.VN (I:Inv X pins σ H s):∀b∈cE X.stack,b∈X.env.locals::X.fs:=λ b hb=>by
 rcases I.ok.zZ with e|⟨e,hf⟩
 ·rw[e] at hb;exact za4 _ hb
 ·rw[e] at hb;unfold cE at hb;rw[zcd,hf] at hb;exact hb
def Inv.Xl (I:Inv X pins σ H s):∀b∈cE X.stack,H b=none:=λ b hb=>by
 rcases zab.mp (I.VN b hb) with e|hb
 ·rw[e];exact I.free
 ·obtain⟨_,o,ho,_⟩:=I.ok.LP.mem hb;exact I.base.free b o ho (I.ok.rL b hb) λ z=>I.ok.cN b z hb
def Inv.step {ch:List Addr}(I:Inv X pins σ H s)(be:∀b∈ch,(b∈X.ex\/X.s₀.heap.objs.size<=b)/\b≠X.env.locals/\(∀x c,X.env.cells.lookup x=some c->c≠b)/\∀p∈X.pn++pins,p.1≠b)(keep:∀b o,b≠X.env.locals->b∉X.fs->b∉ch->s.heap.get? b=some o->H b=none->h'.get? b=some o)(slot:∀b o,b≠X.env.locals->b∈X.fs->b∉ch->s.heap.get? b=some o->H b=none->∃sl,h'.get? b=some {o with slots:=sl})(free:∀b o,b∉ch->s.heap.get? b=some o->H b=none->H' b=none)(there:∀b o,b∉ch->s.heap.get? b=some o->∃o',h'.get? b=some o')(Qj:∀b xs,H b=some (.tup xs)->H' b=some (.tup xs))(N2:∀b o u,H b=some (.GQ o u)->H' b=some (.GQ o u))(Qk:∀b ps,H b=some (.rJ ps)->∃more,H' b=some (.rJ (ps++more)))(ns:∀m,s.heap.Ns X.env.locals m->h'.Ns X.env.locals m)(Aw:GR X.prog X.w H' h')(hg:AllBare g'):
 Inv X pins σ H' {s with heap:=h',gens:=g',drawn:=d',toks:=t' }:=by
 have uu:∀b o,X.s₀.heap.get? b=some o->b≠X.env.locals:=λ b o e=>zat (zap (zaj e) I.ok.above);have iz:∀b o,X.s₀.heap.get? b=some o->b∉X.ex->b∉ch:=λ b o e hx hb=>by
  rcases (be b hb).1 with z|z
  ·exact hx z
  ·exact absurd (zap (zaj e) z) (Nat.lt_irrefl _)
 have cellK:∀x c,X.env.cells.lookup x=some c->∀v,s.heap.IsCell c v->h'.IsCell c v:=λ x c e v ⟨o,ho,hd⟩=>by
  have ja:c∉ch:=λ z=>(be c z).2.2.1 x c e rfl;by_cases hc:c∈X.fs
  ·obtain⟨sl,q⟩:=slot c o (I.rM x c e) hc ja ho (I.FO x c e);exact⟨_,q,hd⟩
  ·exact⟨o,keep c o (I.rM x c e) hc ja ho (I.FO x c e),hd⟩
 refine⟨I.ok,I.os,hg,⟨λ b o e n hb hx=>?_,λ b o e n hb hx=>?_,λ b o e n hx=>?_,λ b o e hx=>?_,λ b xs e=>Qj b xs (I.base.Qj b xs e),λ b o xs e=>N2 b o xs (I.base.N2 b o xs e),λ b ps e=>?_⟩,?_,λ x c e=>?_,?_,λ x c e=>?_,λ p hp=>?_,Aw,I.len⟩
 ·exact keep b o (uu b o e) hb (iz b o e hx) (I.base.keep b o e n hb hx) (I.base.free b o e n hx)
 ·obtain⟨sl,e1⟩:=I.base.slot b o e n hb hx;obtain⟨wq,e2⟩:=slot b _ (uu b o e) hb (iz b o e hx) e1 (I.base.free b o e n hx);exact⟨wq,e2⟩
 ·obtain⟨o',e1⟩:=I.base.there b o e hx;exact free b o' (iz b o e hx) e1 (I.base.free b o e n hx)
 ·obtain⟨o',e1⟩:=I.base.there b o e hx;exact there b o' (iz b o e hx) e1
 ·obtain⟨m1,e1⟩:=I.base.Qk b ps e;obtain⟨m2,e2⟩:=Qk b _ e1;exact⟨m1++m2,by rw[e2,Array.append_assoc]⟩
 ·obtain⟨m,hn,hl⟩:=I.loc;refine⟨m,ns m hn,λ i x v e1 e2 e3=>?_⟩;obtain⟨u,r,l⟩:=hl i x v e1 e2 e3;refine⟨u,r,?_⟩;rcases l with l|⟨k,c,e,z⟩
  ·exact .inl l
  ·exact .inr ⟨k,c,e,cellK x c e _ z⟩
 ·obtain⟨v,z⟩:=I.cell x c e;exact⟨v,cellK x c e v z⟩
 ·obtain⟨m,⟨o,_,_,ho,_⟩,_⟩:=I.loc;exact free _ o (λ z=>(be _ z).2.1 rfl) ho I.free
 ·obtain⟨v,o,ho,hd⟩:=I.cell x c e;exact free c o (λ z=>(be c z).2.2.1 x c e rfl) ho (I.FO x c e)
 ·obtain⟨e,n,ne,nf,d⟩:=I.pin p hp;have ja:p.1∉ch:=λ z=>(be p.1 z).2.2.2 p hp rfl;exact⟨keep p.1 p.2 ne nf ja e n,free p.1 p.2 ja e n,ne,nf,d⟩
def Inv.un (I:Inv X pins σ H s)(u:Un X.fs [] H H' s.heap h')(Aw:GR X.prog X.w H' h'):Inv X pins σ H' {s with heap:=h',toks:=t' }:=by
 obtain⟨m,⟨o,es,ep,ho,r⟩,_⟩:=id I.loc;obtain⟨sl,hL⟩:=u.any ho I.free (by simp);exact I.step (g':=s.gens) (d':=s.drawn) (ch:=[]) (λ _ z=>nomatch z) (λ b o _ hb _ e n=>u.keep b o e n hb (by simp)) (λ b o _ hb _ e n=>u.slot b o e n hb (by simp)) (λ b o _ e n=>u.free b o e n (by simp)) (λ b o _ e=>u.there b o e (by simp)) u.Qj u.N2 u.Qk (λ m' hm=>by
  obtain⟨o',og,oh,aM,r'⟩:=hm;rw[ho] at aM;cases aM;exact⟨_,og,oh,hL,r'⟩) Aw I.bare
def Inv.call (I:Inv X pins σ H s)(u:Un (cE X.stack) ch H H' s.heap h')(Aw:GR X.prog X.w H' h')(hg:AllBare g')(be:∀b∈ch,(b∈X.ex\/X.s₀.heap.objs.size<=b)/\b≠X.env.locals/\(∀x c,X.env.cells.lookup x=some c->c≠b)/\∀p∈X.pn++pins,p.1≠b):
 Inv X pins σ H' {s with heap:=h',gens:=g',drawn:=d',toks:=t' }:=by
 obtain⟨m,⟨o,es,ep,ho,r⟩,_⟩:=id I.loc;obtain⟨sl,hL⟩:=u.any ho I.free λ z=>(be _ z).2.1 rfl;exact I.step (ch:=ch) be (λ b o hL hb hc e n=>u.keep b o e n (λ z=>(zab.mp (I.VN b z)).elim hL hb) hc) (λ b o _ _ hc e n=>u.any e n hc) (λ b o hc e n=>u.free b o e n hc) (λ b o hc e=>u.there b o e hc) u.Qj u.N2 u.Qk (λ m' hm=>by
  obtain⟨o',og,oh,aM,r'⟩:=hm;rw[ho] at aM;cases aM;exact⟨_,og,oh,hL,r'⟩) Aw hg
def Inv.turned (I:Inv X pins σ H s)(k:∀b o,b≠it->s.heap.get? b=some o->h'.get? b=some o)(hn:H it=none)(hL:it≠X.env.locals)(h1:it∈X.ex\/X.s₀.heap.objs.size<=it)(h2:∀x c,X.env.cells.lookup x=some c->c≠it)(h3:∀p∈X.pn++pins,p.1≠it):Inv X pins σ H {s with heap:=h',toks:=t' }:=by
 have uv:∀b u,H b=some u->b≠it:=λ b u e z=>by rw[z,hn] at e;cases e
 refine I.step (g':=s.gens) (d':=s.drawn) (ch:=[it]) (λ b hb=>?_) (λ b o _ _ hc e _=>k b o (λ z=>hc (by simp[z])) e) (λ b o _ _ hc e _=>⟨o.slots,k b o (λ z=>hc (by simp[z])) e⟩) (λ _ _ _ _ n=>n)
  (λ b o hc e=>⟨o,k b o (λ z=>hc (by simp[z])) e⟩) (λ _ _ e=>e) (λ _ _ _ e=>e) (λ b ps e=>⟨#[],by rw[e];simp⟩) (λ m hm=>?_) (λ b u e=>?_) I.bare
 ·have e:b=it:=by simpa using hb
  subst e;exact⟨h1,hL,h2,h3⟩
 ·obtain⟨o,es,ep,ho,r⟩:=hm;exact⟨o,es,ep,k _ o (zbi hL) ho,r⟩
 ·refine (I.Aw b u e).Qi (λ c v hc q=>k c v ?_ q) (λ _ q=>q) λ _ _ q=>q;rcases hc with z|z
  ·rw[z];exact uv b u e
  ·exact uv c _ z
def Inv.tok (I:Inv X pins σ H s)(t:Nat):Inv X pins σ H {s with toks:=t}:=I.un (h':=s.heap) (t':=t) Un.refl I.Aw
def Inv.kept (I:Inv X pins σ H s)(k:∀b u,s.heap.get? b=some u->h'.get? b=some u):Inv X pins σ H {s with heap:=h',toks:=t' }:=I.un (Un.kept k) (I.Aw.kept k)
def Inv.laid (I:Inv X pins σ H s)(k:∀b u,s.heap.get? b=some u->h'.get? b=some u)(hp:s.heap.objs.size<=a)(new:Bn X.prog X.w (upd H a o) h' a o):
 Inv X pins σ (upd H a o) {s with heap:=h',toks:=t' }:=I.un (Un.laid k hp (I.Aw.fresh hp)) (I.Aw.laid k hp new)
def Inv.write {e}(I:Inv X pins σ H s)(mu:wM (H x))(he:e=x\/H e=some (.own x))(k:∀b u,b≠e->s.heap.get? b=some u->h'.get? b=some u)(e7:∃u,h'.get? e=some u)(new:Bn X.prog X.w (upd H x o) h' x o):Inv X pins σ (upd H x o) {s with heap:=h',toks:=t' }:=I.un (Un.write mu he k e7) (I.Aw.write mu he k e7 new)
def Inv.weak (I:Inv X pins σ H s)(hl:σ'.length=σ.length)(w:∀(i:Nat) v,σ'[i]?=some (some v)->σ[i]?=some (some v)):Inv X pins σ' H s:=
 ⟨I.ok,I.os,I.bare,I.base,let ⟨m,hn,jb⟩:=I.loc;⟨m,hn,λ i x v e1 e2 e3=>jb i x v e1 (w i v e2) e3⟩,I.cell,I.free,I.FO,I.pin,I.Aw,hl.trans I.len⟩
def Inv.K2 (I:Inv X pins σ H s)(h:∀p∈e8,s.heap.get? p.1=some p.2/\H p.1=none/\p.1≠X.env.locals/\p.1∉X.fs/\∀v,p.2.data≠.cell v):Inv X e8 σ H s:=
 ⟨I.ok,I.os,I.bare,I.base,I.loc,I.cell,I.free,I.FO,λ p hp=>(zao.mp hp).elim (λ z=>I.pin p (zb8 _ z)) (h p),I.Aw,I.len⟩
def TH {N:List Str}(hN:N.Nodup){i:Nat}(a:N[i]?=some x)(b:N[j]?=some x):i=j:=by
 obtain⟨h1,e1⟩:=zah.mp a;obtain⟨h2,e2⟩:=zah.mp b;exact (List.getElem_inj hN).mp (e1.trans e2.symm)
def QN (I:Inv X pins σ H s)(hN:X.N.Nodup)(hi:X.N[i]?=some x)(hx:Loc X.env.scope x)(r:RelV v u)(h:∀s',Inv X pins (σ.set i (some v)) H s'->(∃a,Heap.SameBut a s.heap s'.heap/\(a=X.env.locals\/X.env.cells.lookup x=some a))->Q () s')(hf:X.fn x=true\/X.env.scope.names.lookup x=some .local:=by first|exact .inl rfl|exact .inr rfl|assumption):wpAny M A (storeName X.env x u) Q E s:=by
 obtain⟨m,hn,hl⟩:=id I.loc;have oj:(X.env.scope.kind==.class||(X.env.scope.kind==.module&&X.env.locals != X.env.globals))=false:=by rw[I.ok.kind];rfl
 have hiσ:i<σ.length:=by rw[I.len];exact (zah.mp hi).1
 have rM:=I.rM;have tracked:∀ {a:Addr} {h':Heap},(∃o,s.heap.get? a=some o/\H a=none)->Heap.SameBut a s.heap h'->GR X.prog X.w H h':=fun {a h'} ha hs b ob e=>by
  obtain⟨_,_,e9⟩:=ha;refine (I.Aw b ob e).Qi (λ c w' hc q=>(hs.2 c ?_).trans q) (λ _ q=>q) λ _ _ q=>q;rintro rfl;rcases hc with rfl|hc
  ·rw[e9] at e;cases e
  ·rw[e9] at hc;cases hc
 rcases hx with hk|hk
 ·refine wpAny_storeName_local hk hn (λ h' bq hs=>?_) oj;obtain⟨oL,_,_,wr,_⟩:=id hn;refine h _ ⟨I.ok,I.os,I.bare,⟨λ b o e n hb hx=>?_,λ b o e n hb hx=>?_,I.base.free,λ b o e hx=>?_,I.base.Qj,I.base.N2,I.base.Qk⟩,⟨_,bq,λ j y v' e1 e2 e3=>?_⟩,λ y c e=>?_,I.free,I.FO,λ p hp=>?_,tracked ⟨oL,wr,I.free⟩ hs,by simpa using I.len⟩ ⟨_,hs,.inl rfl⟩
  ·exact (hs.2 b (zat (zap (zaj e) I.ok.above))).trans (I.base.keep b o e n hb hx)
  ·obtain⟨sl,e1⟩:=I.base.slot b o e n hb hx;exact⟨sl,(hs.2 b (zat (zap (zaj e) I.ok.above))).trans e1⟩
  ·obtain⟨o',e1⟩:=I.base.there b o e hx;exact⟨o',(hs.2 b (zat (zap (zaj e) I.ok.above))).trans e1⟩
  ·by_cases hj:j=i
   ·subst hj;rw[hi] at e1;cases e1;rw[zaz hiσ] at e2;cases e2;exact⟨u,r,.inl ⟨hk,by simp⟩⟩
   ·rw[zbc (zbi hj)] at e2;obtain⟨u',r',q⟩:=hl j y v' e1 e2 e3;refine⟨u',r',?_⟩;rcases q with ⟨k,e⟩|⟨k,c,e,z⟩
    ·refine .inl ⟨k,?_⟩;have:y≠x:=λ e=>hj (TH hN e1 (e▸hi));simp[this,e]
    ·exact .inr ⟨k,c,e,z.sameBut hs (rM y c e)⟩
  ·obtain⟨w',z⟩:=I.cell y c e;exact⟨w',z.sameBut hs (rM y c e)⟩
  ·obtain⟨e,n,ne,nf,d⟩:=I.pin p hp;exact⟨(hs.2 p.1 ne).trans e,n,ne,nf,d⟩
 ·have om:X.fn x=true:=by
   rcases hf with z|z
   ·exact z
   ·rw[z] at hk;cases hk
  obtain⟨c,hc⟩:=I.ok.has x (.inl hk);obtain⟨w',z⟩:=I.cell x c hc;refine wpAny_storeName_cell I.ok.kind hk hc z (λ h' bf hs=>?_);obtain⟨oc,uw,on⟩:=id z;refine h {s with heap:=h' } ⟨I.ok,I.os,I.bare,⟨λ b o e n hb hx=>?_,λ b o e n hb hx=>?_,I.base.free,λ b o e hx=>?_,I.base.Qj,I.base.N2,I.base.Qk⟩,⟨m,hn.sameBut hs (zbi (rM x c hc)),λ j y v' e1 e2 e3=>?_⟩,λ y c' e=>?_,I.free,I.FO,λ p hp=>?_,tracked ⟨oc,uw,I.FO x c hc⟩ hs,by simpa using I.len⟩ ⟨c,hs,.inr hc⟩
  ·exact (hs.2 b (zat (zap (zaj e) (I.ok.wN x c om hc)))).trans (I.base.keep b o e n hb hx)
  ·obtain⟨sl,e1⟩:=I.base.slot b o e n hb hx;exact⟨sl,(hs.2 b (zat (zap (zaj e) (I.ok.wN x c om hc)))).trans e1⟩
  ·obtain⟨o',e1⟩:=I.base.there b o e hx;exact⟨o',(hs.2 b (zat (zap (zaj e) (I.ok.wN x c om hc)))).trans e1⟩
  ·by_cases hj:j=i
   ·subst hj;rw[hi] at e1;cases e1;rw[zaz hiσ] at e2;cases e2;exact⟨u,r,.inr ⟨.inl hk,c,hc,bf⟩⟩
   ·rw[zbc (zbi hj)] at e2;obtain⟨u',r',q⟩:=hl j y v' e1 e2 e3;refine⟨u',r',?_⟩;rcases q with q|⟨k,c',e,z'⟩
    ·exact .inl q
    ·refine .inr ⟨k,c',e,z'.sameBut hs ?_⟩;rintro rfl;exact hj (TH hN e1 (I.ok.inj _ _ _ e hc▸hi))
  ·by_cases mn:c'=c
   ·subst mn;exact⟨_,bf⟩
   ·obtain⟨w2,z2⟩:=I.cell y c' e;exact⟨w2,z2.sameBut hs mn⟩
  ·obtain⟨e,n,ne,nf,d⟩:=I.pin p hp;refine⟨(hs.2 p.1 ?_).trans e,n,ne,nf,d⟩;intro q;rw[q,uw] at e;have q':oc=p.2:=zas e;exact d w' (by rw[<-q'];exact on)
def TJ (I:Inv X pins σ H s)(hN:X.N.Nodup)(hi:X.N[i]?=some x)(hx:Loc X.env.scope x)(r:RelV v u)(h:∀s',Inv X pins (σ.set i (some v)) H s'->Q () s')(hf:X.fn x=true\/X.env.scope.names.lookup x=some .local:=by first|exact .inl rfl|exact .inr rfl|assumption):wpAny M A (storeName X.env x u) Q E s:=
 QN I hN hi hx r (λ s' I' _=>h s' I') hf
def Inv.wO (I:Inv X pins σ H s)(ho:s'.os=s.os)(u:Un (cE X.stack) ch H H' s.heap s'.heap)(Aw:GR X.prog X.w H' s'.heap)(hg:AllBare s'.gens)(be:∀b∈ch,(b∈X.ex\/X.s₀.heap.objs.size<=b)/\b≠X.env.locals/\(∀x c,X.env.cells.lookup x=some c->c≠b)/\∀p∈X.pn++pins,p.1≠b):Inv X pins σ H' s':=by
 obtain⟨h',g',d',t',o'⟩:=s';have e:o'=s.os:=ho;subst e;exact I.call (g':=g') (t':=t') (d':=d') u Aw hg be
end
noncomputable abbrev XK:=Value->Option Addr->Hp->Prop
noncomputable abbrev St:=List (Option V)
variable {σ:St}
noncomputable abbrev VK:=V->Hp->Prop
noncomputable abbrev TE:=St->Hp->VK->Prop
variable {ta te:TE}
noncomputable abbrev TT:=St->Hp->(Bool->Hp->Prop)->Prop
noncomputable abbrev TA:=St->Hp->(List V->Hp->Prop)->Prop
structure Ends where
 nx:St->Hp->Prop
 rt:VK
 bk:St->Hp->Prop:=λ _ _=>False
 ct:St->Hp->Prop:=λ _ _=>False
noncomputable abbrev TS:=Ends->St->Hp->Prop
abbrev EP (X:Cx)(pins:List (Addr×Obj))(σ:St)(Q:VK)(u:Value)(s':Shared):Prop:=∃v H',Inv X pins σ H' s'/\RelV v u/\Q v H'
abbrev TP (X:Cx)(pins:List (Addr×Obj))(σ:St)(Q:Bool->Hp->Prop)(b:Bool)(s':Shared):Prop:=∃H',Inv X pins σ H' s'/\Q b H'
abbrev AP (X:Cx)(pins:List (Addr×Obj))(σ:St)(Q:List V->Hp->Prop)(us:List Value)(s':Shared):Prop:=∃vs H',Inv X pins σ H' s'/\Vals vs us/\Q vs H'
abbrev SP (X:Cx)(pins:List (Addr×Obj))(D:Ends)(f:Flow)(s':Shared):Prop:=
 match f with
 | .next=>∃σ' H',Inv X pins σ' H' s'/\D.nx σ' H'
 | .brk=>∃σ' H',Inv X pins σ' H' s'/\D.bk σ' H'
 | .cont=>∃σ' H',Inv X pins σ' H' s'/\D.ct σ' H'
 | .ret u=>∃v σ' H',Inv X pins σ' H' s'/\RelV v u/\D.rt v H'
abbrev PE (X:Cx)(e:Expr)(t:TE):Prop:=
 ∀(pins:List (Addr×Obj)) (s:Shared) (σ:St) (H:Hp) (Q:VK),Inv X pins σ H s->t σ H Q->wpAny (model X.prog X.w) X.A (eval e X.env) (EP X pins σ Q) X.xe s
abbrev PT (X:Cx)(e:Expr)(t:TT):Prop:=
 ∀(pins:List (Addr×Obj)) (s:Shared) (σ:St) (H:Hp) (Q:Bool->Hp->Prop),Inv X pins σ H s->t σ H Q->wpAny (model X.prog X.w) X.A (isTrue e X.env (eval e X.env)) (TP X pins σ Q) X.xe s
abbrev PW (X:Cx)(e:Expr)(t:TT):Prop:=
 ∀(whole:Sem Value) (pins:List (Addr×Obj)) (s:Shared) (σ:St) (H:Hp) (Q:Bool->Hp->Prop),Inv X pins σ H s->t σ H Q->wpAny (model X.prog X.w) X.A (isTrue e X.env whole) (TP X pins σ Q) X.xe s
def PW.pt (h:PW X e t):PT X e t:=h _
abbrev PA (X:Cx)(es:List Expr)(t:TA):Prop:=
 ∀(pos:Pos) (pins:List (Addr×Obj)) (s:Shared) (σ:St) (H:Hp) (Q:List V->Hp->Prop),Inv X pins σ H s->t σ H Q->wpAny (model X.prog X.w) X.A (spliced (backTo pos (starEach es X.env))) (AP X pins σ Q) X.xe s
abbrev PS (X:Cx)(st:Stmt)(t:TS):Prop:=
 ∀(pins:List (Addr×Obj)) (s:Shared) (σ:St) (H:Hp) (D:Ends),Inv X pins σ H s->t D σ H->wpAny (model X.prog X.w) X.A (exec st X.env) (SP X pins D) X.xe s
abbrev Xm (X:Cx)(st:List Stmt)(t:TS):Prop:=
 ∀(pins:List (Addr×Obj)) (s:Shared) (σ:St) (H:Hp) (D:Ends),Inv X pins σ H s->t D σ H->wpAny (model X.prog X.w) X.A (execs st X.env) (SP X pins D) X.xe s
def Bi {α:Type}{t:Sem α}{Q Q'}(h:wpAny M A t Q E s)(hQ:∀a s,Q a s->Q' a s):wpAny M A t Q' E s:=wpAny_mono h hQ λ _ _ x=>x
section
def bin (ha:PE X a ta)(hb:PE X b tb){R:V->V->Hp->Prop}(I:Inv X pins σ H s)(h:ta σ H λ x H1=>tb σ H1 λ y H2=>R x y H2){α:Type}{Q}{f:Value->Value->Sem α}(hf:∀v u s2 x y H2,Inv X pins σ H2 s2->RelV x v->RelV y u->R x y H2->wpAny (model X.prog X.w) X.A (f v u) Q X.xe s2):
 wpAny (model X.prog X.w) X.A (eval a X.env) (λ v s₁=>wpAny (model X.prog X.w) X.A (eval b X.env) (λ u s₂=>wpAny (model X.prog X.w) X.A (f v u) Q X.xe s₂) X.xe s₁) X.xe s:=by
 refine Bi (ha pins s σ H _ I h) λ v s1 zz=>?_;obtain⟨x,H1,I1,r1,q1⟩:=zz;refine Bi (hb pins s1 σ H1 _ I1 q1) λ u s2 zz=>?_;obtain⟨y,H2,I2,r2,q2⟩:=zz;exact hf v u s2 x y H2 I2 r1 r2 q2
abbrev O3 (i:Nat):TE:=λ σ H Q=>∃v,σ[i]?=some (some v)/\Q v H
abbrev tC (v:V):TE:=λ _ H Q=>Q v H
def rN (hN:X.N[i]?=some x)(hv:Vis X.env.scope x)(hd:(x==("__debug__" : Str))=false:=by decide)(bc:(x==("__classdict__" : Str))=false:=by decide):PE X (.Name x pos) (O3 i):=by
 intro pins s σ H Q I h;obtain⟨v,e,h⟩:=h;obtain⟨m,hn,hl⟩:=I.loc;obtain⟨u,r,l⟩:=hl i x v hN e hv;have fin:EP X pins σ Q u s:=⟨v,H,I,r,h⟩;rcases l with ⟨hk,hm⟩|⟨hk,c,hc,fc⟩
 ·exact wpAny_Name (wpAny_loadName_local I.ok.kind hk hn hm fin) hd
 ·rcases hk with hk|hk
  ·exact wpAny_Name (wpAny_loadName_cell I.ok.kind hk hc fc fin) hd
  ·exact wpAny_Name (wpAny_loadName_free I.ok.kind hk hc fc fin bc) hd
def rO {i j pos}:PE X (.Constant (.int i) j pos) (tC (.int i)):=λ _ _ _ H _ I h=>wpAny_Constant_int ⟨.int i,H,I.tok _,⟨_,rfl⟩,h⟩
def wQ {b j pos}:PE X (.Constant (.bool b) j pos) (tC (.bl b)):=λ _ _ _ H _ I h=>Constant_bool ⟨.bl b,H,I,rfl,h⟩
def rQ {j pos}:PE X (.Constant .none j pos) (tC .AL):=λ _ _ _ H _ I h=>Constant_none ⟨.AL,H,I,rfl,h⟩
abbrev Gl (X:Cx)(x:Str):Prop:=X.env.kindOf x=some .globalImplicit
def Xn (I:Inv X pins σ H s)(hg:Gl X x)(hm:X.mg x=some u)(h:Q u s)(hd:(x==("__debug__" : Str))=false:=by decide):wpAny (model X.prog X.w) X.A (eval (.Name x pos) X.env) Q E s:=
 Calls.Name_function_global I.ok.kind hg (Calls.loadGlobal_global (by rw[I.ok.glob];exact I.mod.glob.keeps I.bk) hm h) hd
def D5 (I:Inv X pins σ H s)(hg:Gl X x)(hm:X.mg x=none)(hv:bootBuiltins x=some u)(h:Q u s)(hn:x ≠ "__name__" := by decide)(hd:(x==("__debug__" : Str))=false:=by decide):wpAny (model X.prog X.w) X.A (eval (.Name x pos) X.env) Q E s:=by
 obtain⟨mb,h1,h2⟩:=I.mod.blt;exact Calls.Name_function_global I.ok.kind hg (Calls.loadGlobal_builtin (by rw[I.ok.glob];exact I.mod.glob.keeps I.bk) hm (by rw[I.ok.blt];exact h1.keeps I.bk) ((h2 x hn).trans hv) h) hd
def kG (hg:Gl X x)(hm:X.mg x=none)(hv:bootBuiltins x=some u)(r:RelV v u)(hn:x ≠ "__name__" := by decide)(hd:(x==("__debug__" : Str))=false:=by decide):PE X (.Name x pos) (tC v):=
 λ _ _ _ H _ I h=>D5 I hg hm hv ⟨v,H,I,r,h⟩ hn hd
variable {a b:Expr}{tb:TE}
abbrev PC (X:Cx)(op:CmpOp)(a b:Expr)(t:TE):Prop:=
 ∀(pins:List (Addr×Obj)) (s:Shared) (σ:St) (H:Hp) (Q:VK),Inv X pins σ H s->t σ H Q->
  wpAny (model X.prog X.w) X.A (eval a X.env) (λ v s₁=>wpAny (model X.prog X.w) X.A (eval b X.env) (λ u s₂=>wpAny (model X.prog X.w) X.A (compareOp op v u) (EP X pins σ Q) X.xe s₂) X.xe s₁) X.xe s
def TK (b:Expr)(h:op≠.In)(h2:op≠.NotIn):behindInMarks op b=false:=by
 have e1:(op==CmpOp.In)=false:=by cases op<;>first|rfl|exact absurd rfl h
 have e2:(op==CmpOp.NotIn)=false:=by cases op<;>first|rfl|exact absurd rfl h2
 cases b<;>simp[behindInMarks,e1,e2]
abbrev aaA (ta:TE):TE:=λ σ H Q=>ta σ H λ x H1=>Q (.bl (decide (x=.AL))) H1
abbrev wR (ta:TE):TE:=λ σ H Q=>ta σ H λ x H1=>Q (.bl (!decide (x=.AL))) H1
def RelV.TM (r:RelV x v):(v==Value.none)=decide (x=.AL):=by
 cases x with
 |AL|bl _=>cases r;rfl
 |int _|str _|rH _|wK _=>obtain⟨t,rfl⟩:=r;rfl
 |ref _|ty _=>cases r;rfl
def cO {j pos'}(ha:PE X a ta):PC X .Is a (.Constant .none j pos') (aaA ta):=by
 intro pins s σ H Q I h;refine Bi (ha pins s σ H _ I h) λ v s1 zz=>?_;obtain⟨x,H1,I1,r1,q1⟩:=zz;exact Constant_none (is_none_gen ⟨.bl _,H1,I1,by rw[r1.TM];rfl,q1⟩)
def kH {j pos'}(ha:PE X a ta):PC X .IsNot a (.Constant .none j pos') (wR ta):=by
 intro pins s σ H Q I h;refine Bi (ha pins s σ H _ I h) λ v s1 zz=>?_;obtain⟨x,H1,I1,r1,q1⟩:=zz;exact Constant_none (isnot_none_gen ⟨.bl _,H1,I1,by rw[r1.TM];rfl,q1⟩)
abbrev tB (t:TE):TT:=λ σ H Q=>t σ H λ x H1=>∃c,x=.bl c/\Q c H1
def rR (h:PC X op a b t)(h1:behindInMarks op b=false:=by first | exact TK _ (by decide) (by decide) | rfl):PE X (.Compare a [op] [b] pos) t:=λ pins s σ H Q I hw=>wpAny_Compare1 (h pins s σ H Q I hw) h1
def cP (h:PC X op a b t)(h1:behindInMarks op b=false:=by first | exact TK _ (by decide) (by decide) | rfl):PT X (.Compare a [op] [b] pos) (tB t):=by
 intro pins s σ H Q I hw;refine wpAny_isTrue_Compare1 (Bi (h pins s σ H _ I hw) λ v s1 h1=>Bi h1 λ u s2 h2=>Bi h2 λ c s3 zz=>?_) h1;obtain⟨x,H1,I1,r1,q1⟩:=zz;obtain⟨d,rfl,q⟩:=q1;cases r1;exact wpAny_truthy_bool ⟨H1,I1,q⟩
variable {tA mo:TT}{rest:List Expr}
abbrev aaB (t u:TT):TT:=λ σ H Q=>t σ H λ c H1=>if c=true then u σ H1 Q else Q false H1
abbrev tOr (t u:TT):TT:=λ σ H Q=>t σ H λ c H1=>if c=true then Q true H1 else u σ H1 Q
abbrev aaC (t:TT):TT:=λ σ H Q=>t σ H λ c H1=>Q (!c) H1
def pw_and1 (ha:PT X a tA):PW X (.BoolOp .And [a] pos) tA:=by
 intro wh pins s σ H Q I h;refine isTrue_and (Bi (ha pins s σ H Q I h) λ c s1 e=>?_);cases c with
 |true=>exact isTrue_and_nil e
 |false=>exact e
def pw_or1 (ha:PT X a tA):PW X (.BoolOp .Or [a] pos) tA:=by
 intro wh pins s σ H Q I h;refine isTrue_or (Bi (ha pins s σ H Q I h) λ c s1 e=>?_);cases c with
 |false=>exact isTrue_or_nil e
 |true=>exact e
def pw_and (ha:PT X a tA)(hb:PW X (.BoolOp .And (b::rest) pos) mo):PW X (.BoolOp .And (a::b::rest) pos) (aaB tA mo):=by
 intro wh pins s σ H Q I h;refine isTrue_and (Bi (ha pins s σ H _ I h) λ c s1 zz=>?_);obtain⟨H1,I1,q1⟩:=zz;cases c with
 |true=>exact hb wh pins s1 σ H1 Q I1 q1
 |false=>exact⟨H1,I1,q1⟩
def pw_or (ha:PT X a tA)(hb:PW X (.BoolOp .Or (b::rest) pos) mo):PW X (.BoolOp .Or (a::b::rest) pos) (tOr tA mo):=by
 intro wh pins s σ H Q I h;refine isTrue_or (Bi (ha pins s σ H _ I h) λ c s1 zz=>?_);obtain⟨H1,I1,q1⟩:=zz;cases c with
 |true=>exact⟨H1,I1,q1⟩
 |false=>exact hb wh pins s1 σ H1 Q I1 q1
def rS (ha:PT X a tA):PT X (.UnaryOp .Not a pos) (aaC tA):=by
 intro pins s σ H Q I h;exact isTrue_not (ha pins s σ H (λ c H1=>Q (!c) H1) I h)
abbrev wU (ta tb:TE):TE:=λ σ H Q=>ta σ H λ x H1=>∃c,x=.bl c/\if c=true then tb σ H1 Q else Q (.bl false) H1
abbrev aaD (ta tb:TE):TE:=λ σ H Q=>ta σ H λ x H1=>∃c,x=.bl c/\if c=true then Q (.bl true) H1 else tb σ H1 Q
abbrev wV (ta:TE):TE:=λ σ H Q=>ta σ H λ x H1=>∃c,x=.bl c/\Q (.bl (!c)) H1
def rT {op}(h:PE X a t):PE X (.BoolOp op [a] pos) t:=λ pins s σ H Q I hw=>BoolOp_one (h pins s σ H Q I hw)
def rV (ha:PE X a ta)(hb:PE X (.BoolOp .And (b::rest) pos) tb):PE X (.BoolOp .And (a::b::rest) pos) (wU ta tb):=by
 intro pins s σ H Q I h;refine BoolOp_and (Bi (ha pins s σ H _ I h) λ v s1 zz=>?_);obtain⟨x,H1,I1,r1,q1⟩:=zz;obtain⟨c,rfl,q1⟩:=q1;cases r1;refine wpAny_truthy_bool ?_;cases c with
 |true=>exact hb pins s1 σ H1 Q I1 q1
 |false=>exact⟨.bl false,H1,I1,rfl,q1⟩
def wW (ha:PE X a ta)(hb:PE X (.BoolOp .Or (b::rest) pos) tb):PE X (.BoolOp .Or (a::b::rest) pos) (aaD ta tb):=by
 intro pins s σ H Q I h;refine BoolOp_or (Bi (ha pins s σ H _ I h) λ v s1 zz=>?_);obtain⟨x,H1,I1,r1,q1⟩:=zz;obtain⟨c,rfl,q1⟩:=q1;cases r1;refine wpAny_truthy_bool ?_;cases c with
 |false=>exact hb pins s1 σ H1 Q I1 q1
 |true=>exact⟨.bl true,H1,I1,rfl,q1⟩
def rW (ha:PE X a ta):PE X (.UnaryOp .Not a pos) (wV ta):=by
 intro pins s σ H Q I h;refine UnaryOp_ (Bi (ha pins s σ H _ I h) λ v s1 zz=>?_);obtain⟨x,H1,I1,r1,q1⟩:=zz;obtain⟨c,rfl,q1⟩:=q1;cases r1;exact not_of (wpAny_truthy_bool ⟨.bl (!c),H1,I1,rfl,q1⟩)
end
abbrev Dr (K:za0)(H:Hp)(a:Addr)(xs:List V):Prop:=
 Rd H a (.lst xs) \/
  ∃(o:Obj) (aa:Array Value) (n:Nat),K.lookup a=some o/\o.cls=.type "list" /\ o.dict=none/\o.data=.seq aa n/\aa.size<=sizeLine/\Vals xs aa.toList
abbrev Fj (K:za0)(H:Hp)(a:Addr)(xs:List V):Prop:=
 Rd H a (.tup xs) \/
  ∃(o:Obj) (aa:Array Value) (n:Nat),K.lookup a=some o/\o.cls=.type "tuple" /\ o.data=.seq aa n/\aa.size<=sizeLine/\Vals xs aa.toList
abbrev aaE:Value->Option V
 | .none=>some .AL
 | .bool b=>some (.bl b)
 | .int i _=>some (.int i)
 | .str x _=>some (.str x)
 | .bytes b _=>some (.rH b)
 | .float b _=>some (.wK b)
 | .ref a=>some (.ref a)
 | .type n=>some (.ty n)
 |_=>none
def RelV.abs (r:RelV x u):aaE u=some x:=by
 cases x with
 |AL|bl _=>cases r;rfl
 |int _|str _|rH _|wK _=>obtain⟨t,rfl⟩:=r;rfl
 |ref _|ty _=>cases r;rfl
def RelV.inj (r:RelV x u)(q:RelV y u):x=y:=zas (r.abs.symm.trans q.abs)
def Vals.inj:∀ {xs ys:List V}{us:List Value},Vals xs us->Vals ys us->xs=ys
 |_,_,_,.nil,.nil=>rfl
 |_,_,_,.cons r t,.cons r' t'=>by rw[r.inj r',Vals.inj t t']
section
variable {a:Addr}{xs ys:List V}
def Dr.of {K}(h:H a=some (.lst xs)):Dr K H a xs:=.inl (.inl h)
def Fj.of {K}(h:H a=some (.tup xs)):Fj K H a xs:=.inl (.inl h)
def Inv.list (I:Inv X pins σ H s)(h:Dr X.K H a xs):∃aa:List Value,Vals xs aa/\PlainL s.heap a aa.toArray/\xs.length<=sizeLine:=by
 rcases h with h|⟨o,aa,n,hk,hc,hd,hs,hz,r⟩
 ·obtain⟨z,aa,n,r,e⟩:=h.ok I.Aw;exact⟨aa,r,⟨_,n,e,rfl,rfl,rfl⟩,z⟩
 ·refine⟨aa.toList,r,⟨o,n,I.Qe a o hk,hc,hd,by simpa using hs⟩,?_⟩;have e:=r.length;simp only[zdi] at e;omega
def Inv.tuple (I:Inv X pins σ H s)(h:Fj X.K H a xs):∃aa:List Value,Vals xs aa/\IsTup s.heap a aa.toArray/\xs.length<=sizeLine:=by
 rcases h with h|⟨o,aa,n,hk,hc,hs,hz,r⟩
 ·obtain⟨z,aa,r,p⟩:=h.ok I.Aw;exact⟨aa,r,p,z⟩
 ·refine⟨aa.toList,r,⟨o,I.Qe a o hk,hc,n,by simpa using hs⟩,?_⟩;have e:=r.length;simp only[zdi] at e;omega
def Inv.Hr (I:Inv X pins σ H s)(h:Dr X.K H a xs)(h':Dr X.K H a ys):xs=ys:=by
 obtain⟨aa,r,⟨o,n,e,_,_,d⟩,_⟩:=I.list h;obtain⟨its',r',⟨o',n',e',_,_,d'⟩,_⟩:=I.list h';rw[e] at e';cases e';rw[d] at d';injection d' with d1 _
 have:aa=its':=by simpa using congrArg Array.toList d1
 subst this;exact r.inj r'
def Inv.FQ (I:Inv X pins σ H s)(h:Fj X.K H a xs)(h':Fj X.K H a ys):xs=ys:=by
 obtain⟨aa,r,⟨o,e,_,n,d⟩,_⟩:=I.tuple h;obtain⟨its',r',⟨o',e',_,n',d'⟩,_⟩:=I.tuple h';rw[e] at e';cases e';rw[d] at d';injection d' with d1 _
 have:aa=its':=by simpa using congrArg Array.toList d1
 subst this;exact r.inj r'
end
noncomputable abbrev Cx.Ql (X:Cx)(E:Value->Shared->Prop):Cx:={X with xe:=E}
noncomputable abbrev Cx.wX (X:Cx):Cx:=X.Ql λ _ _=>False
def Cx.Ok.Ql (ok:X.Ok)(E:Value->Shared->Prop):(X.Ql E).Ok:=
 ⟨ok.mod,ok.kind,ok.glob,ok.blt,ok.above,ok.inj,ok.has,ok.wN,ok.hd,ok.frames,ok.zZ,ok.exf,ok.bs,ok.kF,ok.cM,ok.cN,ok.LP,ok.rL⟩
def Cx.Ok.Hs (ok:(X.Ql E).Ok):X.Ok:=
 ⟨ok.mod,ok.kind,ok.glob,ok.blt,ok.above,ok.inj,ok.has,ok.wN,ok.hd,ok.frames,ok.zZ,ok.exf,ok.bs,ok.kF,ok.cM,ok.cN,ok.LP,ok.rL⟩
def Inv.Ql (I:Inv X pins σ H s)(E:Value->Shared->Prop):Inv (X.Ql E) pins σ H s:=⟨I.ok.Ql E,I.os,I.bare,I.base,I.loc,I.cell,I.free,I.FO,I.pin,I.Aw,I.len⟩
def Inv.Hs (I:Inv (X.Ql E) pins σ H s):Inv X pins σ H s:=⟨I.ok.Hs,I.os,I.bare,I.base,I.loc,I.cell,I.free,I.FO,I.pin,I.Aw,I.len⟩
def SP.Hs (h:SP (X.Ql E) pins D f s'):SP X pins D f s':=by
 cases f with
 |next|brk|cont=>obtain⟨σ',H',I,q⟩:=h;exact⟨σ',H',I.Hs,q⟩
 |ret u=>obtain⟨v,σ',H',I,r,q⟩:=h;exact⟨v,σ',H',I.Hs,r,q⟩
def Xm.wX {st}(h:Xm X.wX st t):Xm X st t:=λ pins s σ H D I hw =>
 wpAny_mono (h pins s σ H D (I.Ql _) hw) (λ _ _ q=>q.Hs) λ _ _ z=>zcs z
section
variable {st:Stmt}{rest:List Stmt}{t u:TS}
abbrev wY:TS:=λ D σ H=>D.nx σ H
abbrev aaF (t u:TS):TS:=λ D σ H=>t {D with nx:=u D} σ H
def kI:Xm X [] wY:=λ _ _ σ H _ I h=>wpAny_execs_nil ⟨σ,H,I,h⟩
def cQ (h1:PS X st t)(h2:Xm X rest u):Xm X (st::rest) (aaF t u):=by
 intro pins s σ H D I h;refine wpAny_execs_cons (Bi (h1 pins s σ H {D with nx:=u D} I h) λ f s1 q=>?_);cases f with
 |next =>
  obtain⟨σ',H',I',q⟩:=q;exact h2 pins s1 σ' H' D I' q
 |ret v|brk|cont=>exact q
def kJ (h1:PS X st t):Xm X [st] t:=by
 intro pins s σ H D I h;refine wpAny_execs_cons (Bi (h1 pins s σ H D I h) λ f s1 q=>?_);cases f with
 |next=>exact wpAny_execs_nil q
 |ret v|brk|cont=>exact q
def Inv.quiet (I:Inv X pins σ H s):interactive X.env=false:=by simp[interactive,I.ok.kind]
abbrev wZ (te:TE):TS:=λ D σ H=>te σ H λ _ H1=>D.nx σ H1
def Gd (he:PE X e te)(hs: ~~~(swapsWith e none pos.line X.env=pure false)):PS X (.Expr e pos) (wZ te):=by
 intro pins s σ H D I h;exact wpAny_Expr_any (Bi (he pins s σ H _ I h) λ v s1 ⟨x,H1,I1,r1,q1⟩=>⟨σ,H1,I1,q1⟩) I.quiet hs
abbrev aaG (te:TE):TS:=λ D σ H=>te σ H D.rt
def S2 (he:PE X e te):PS X (.Return (some e) pos) (aaG te):=by
 intro pins s σ H D I h;exact wpAny_Return_some (Bi (he pins s σ H _ I h) λ v s1 ⟨x,H1,I1,r1,q1⟩=>⟨x,σ,H1,I1,r1,q1⟩)
abbrev aaH (c:TT)(t u:TS):TS:=λ D σ H=>c σ H λ b H1=>if b=true then t D σ H1 else u D σ H1
def xA (hc:PT X c tc)(ha:Xm X a t)(hb:Xm X b u):PS X (.If c a b pos) (aaH tc t u):=by
 intro pins s σ H D I h;refine wpAny_If (Bi (hc pins s σ H _ I h) λ d s1 zz=>?_);obtain⟨H1,I1,q1⟩:=zz;cases d with
 |true=>exact ha pins s1 σ H1 D I1 q1
 |false=>exact hb pins s1 σ H1 D I1 q1
end
noncomputable abbrev TG:=V->St->Hp->(St->Hp->Prop)->Prop
noncomputable abbrev cF:=List V->St->Hp->(St->Hp->Prop)->Prop
abbrev PG (X:Cx)(target:Expr)(t:TG):Prop:=
 ∀(pins:List (Addr×Obj)) (s:Shared) (σ:St) (H:Hp) (v:V) (u:Value) (Q:St->Hp->Prop),Inv X pins σ H s->RelV v u->t v σ H Q->
  wpAny (model X.prog X.w) X.A (assign target X.env u) (λ _ s'=>∃σ' H',Inv X pins σ' H' s'/\Q σ' H') X.xe s
abbrev vT (X:Cx)(ts:List Expr)(t:cF):Prop:=
 ∀(pins:List (Addr×Obj)) (s:Shared) (σ:St) (H:Hp) (vs:List V) (us:List Value) (Q:St->Hp->Prop),Inv X pins σ H s->Vals vs us->t vs σ H Q->
  wpAny (model X.prog X.w) X.A (assignInOrder ((assignEach ts X.env).map (·.2)) us) (λ _ s'=>∃σ' H',Inv X pins σ' H' s'/\Q σ' H') X.xe s
noncomputable abbrev rX:=V->V->V->Hp->(Hp->Prop)->Prop
abbrev xB (X:Cx)(t:rX):Prop:=
 ∀(pins:List (Addr×Obj)) (s:Shared) (σ:St) (H:Hp) (o i v:V) (ov iv u:Value) (Q:Hp->Prop),Inv X pins σ H s->RelV o ov->RelV i iv->RelV v u->t o i v H Q->
  wpAny (model X.prog X.w) X.A (setItem ov iv u) (λ _ s'=>∃H',Inv X pins σ H' s'/\Q H') X.xe s
abbrev QO (i:Nat):TG:=λ v σ H Q=>Q (σ.set i (some v)) H
def S4 (hN:X.N.Nodup)(hi:X.N[i]?=some x)(hx:Loc X.env.scope x)(hf:X.fn x=true\/X.env.scope.names.lookup x=some .local:=by first | exact .inl rfl | exact .inr rfl | assumption):PG X (.Name x pos) (QO i):=by
 intro pins s σ H v u Q I r h;exact wpAny_assign_Name (TJ I hN hi hx r (λ s' I'=>⟨_,H,I',h⟩) hf)
abbrev rY:cF:=λ vs σ H Q=>vs=[]/\Q σ H
abbrev cR (t:TG)(u:cF):cF:=λ vs σ H Q=>∃v r,vs=v::r/\t v σ H λ σ' H'=>u r σ' H' Q
def Xo:vT X [] rY:=by
 intro pins s σ H vs us Q I r h;obtain⟨e,h⟩:=h;subst e;cases r;exact assignInOrder_nil ⟨σ,H,I,h⟩
def TN (h1:PG X e t)(h2:vT X es u)(hs: ~~~((assignEach (e::es) X.env).map (·.2)=assign e X.env::(assignEach es X.env).map (·.2))):vT X (e::es) (cR t u):=by
 intro pins s σ H vs us Q I r h;obtain⟨v,vr,e1,h⟩:=h;subst e1;cases r with
 |cons r rr =>
  rw[hs];refine assignInOrder_cons (Bi (h1 pins s σ H _ _ _ I r h) λ _ s1 zz=>?_);obtain⟨σ1,H1,I1,q1⟩:=zz;exact h2 pins s1 σ1 H1 _ _ Q I1 rr q1
abbrev rZ (K:za0)(n:Nat)(t:cF):TG:=λ v σ H Q=>∃a xs,v=.ref a/\Fj K H a xs/\xs.length=n/\t xs σ H Q
def cS (hc:X.calm=true)(h:vT X es t)(hn: ~~~((assignEach es X.env).length=n))(aH: ~~~((assignEach es X.env).findIdx? (·.1)=none)):PG X (.Tuple es k pos) (rZ X.K n t):=by
 intro pins s σ H v u Q I r hw;obtain⟨a,xs,e1,hq,hl,hw⟩:=hw;subst e1;cases r;obtain⟨aa,rv,ht,hz⟩:=I.tuple hq;refine assign_Tuple_tuple (I.ok.hd hc) ht (by simp[hn,<-hl,rv.length]) aH λ h' hx=>?_;have I1:Inv X pins σ H {s with heap:=h' }:=I.kept (t':=s.toks) λ b o e=>hx b o (zat (zaj e)) e;exact h pins _ σ H xs _ Q I1 (by simpa using rv) hw
abbrev aaI (to ti:TE)(t:rX):TG:=λ v σ H Q=>to σ H λ o H1=>ti σ H1 λ i H2=>t o i v H2 λ H3=>Q σ H3
def cT (ho:PE X o to)(hi:PE X i ti)(hs:xB X t)(ha:∀v,assign (.Subscript o i pos) X.env v=(do
  let ov <-holding [v] (eval o X.env);let iv <-holding [v,ov] (eval i X.env)
  standAt pos
  holding [v,ov,iv] (setItem ov iv v)
  release [v,ov,iv] []):=by intro _;rfl):PG X (.Subscript o i pos) (aaI to ti t):=by
 intro pins s σ H v u Q I r h;rw[ha];refine wpAny_bind (wpAny_holding (Bi (ho pins s σ H _ I h) λ ov s1 zz=>?_));obtain⟨x,H1,I1,r1,q1⟩:=zz;refine wpAny_bind (wpAny_holding (Bi (hi pins s1 σ H1 _ I1 q1) λ iv s2 zz=>?_));obtain⟨y,H2,I2,r2,q2⟩:=zz;refine wpAny_bind (wpAny_standAt (wpAny_bind (wpAny_holding (Bi (hs pins s2 σ H2 x y v ov iv u _ I2 r1 r2 r q2) λ _ s3 zz=>?_))));obtain⟨H3,I3,q3⟩:=zz;exact wpAny_release ⟨σ,H3,I3,q3⟩
abbrev xC (te:TE)(g:TG):TS:=λ D σ H=>te σ H λ x H1=>g x σ H1 D.nx
def VO (he:PE X e te)(hg:PG X tg g)(hs: ~~~(swapsWithSole [tg] e pos.line X.env=pure false))(hw: ~~~(swappedStores [tg] e X.env=pure none))(h1: ~~~((assignEach [tg] X.env).map (·.2)=[assign tg X.env])):PS X (.Assign [tg] e pos) (xC te g):=by
 intro pins s σ H D I h;refine wpAny_Assign_stores (Bi (he pins s σ H _ I h) λ v s1 zz=>?_) hs hw;obtain⟨x,H1,I1,r1,q1⟩:=zz;rw[h1];exact Bi (hg pins s1 σ H1 x v _ I1 r1 q1) λ _ s2 q=>q
def VP (hN:X.N.Nodup)(hi:X.N[i]?=some x)(hx:Loc X.env.scope x)(he:PE X e te)(hs: ~~~(swapsWith e (some (.Name x pos')) pos.line X.env=pure false))(hf:X.fn x=true\/X.env.scope.names.lookup x=some .local:=by first | exact .inl rfl | exact .inr rfl | assumption):
 PS X (.Assign [.Name x pos'] e pos) (xC te (QO i)):=by
 intro pins s σ H D I h;refine wpAny_Assign_Name (Bi (he pins s σ H _ I h) λ v s1 zz=>?_) hs;obtain⟨y,H1,I1,r1,q1⟩:=zz;exact TJ I1 hN hi hx r1 (λ s2 I2=>⟨_,H1,I2,q1⟩) hf
abbrev sA (c:TT)(tb:TS):TS:=λ D σ H=>∃W:Nat->St->Hp->Prop,(∃m,W m σ H)/\∀m σ H,W m σ H->
 c σ H λ b H1=>if b=true then ∃N:St->Hp->Prop,(∀σ' H',N σ' H'->∃m',m'<m/\W m' σ' H')/\tb {D with nx:=N,ct:=N,bk:=D.nx} σ H1 else D.nx σ H1
def cU (hp:PassesOwn (model X.prog X.w) X.A X.env X.xe)(hc:PT X c tc)(hb:Xm X body tb):PS X (.While c body [] pos) (sA tc tb):=by
 intro pins s σ H D I h;obtain⟨W,⟨m0,w0⟩,turn⟩:=h;refine wpAny_While (codeAny_whileLoop (λ n s'=>∃σ' H',Inv X pins σ' H' s'/\W n σ' H') ?_ m0 ⟨σ,H,I,w0⟩);rintro n s1 ⟨σ1,H1,I1,w1⟩;refine wpAny_passesOwn hp (Bi (hc pins s1 σ1 H1 _ I1 (turn n σ1 H1 w1)) λ b s2 zz=>?_);obtain⟨H2,I2,q2⟩:=zz;cases b with
 |true =>
  obtain⟨N,hN,q2⟩:=q2;rw[if_pos rfl];refine wpAny_passesOwn hp (Bi (hb pins s2 σ1 H2 _ I2 q2) λ f s3 q3=>?_);cases f with
  |next =>
   obtain⟨σ3,H3,I3,n3⟩:=q3;obtain⟨m',hm,w3⟩:=hN σ3 H3 n3;exact⟨m',hm,σ3,H3,I3,w3⟩
  |cont =>
   obtain⟨σ3,H3,I3,n3⟩:=q3;obtain⟨m',hm,w3⟩:=hN σ3 H3 n3;exact⟨m',hm,σ3,H3,I3,w3⟩
  |brk|ret v=>exact q3
 |false =>
  rw[if_neg zaw];exact wpAny_execs_nil ⟨σ1,H2,I2,q2⟩
structure It where
 go:Nat->Hp->Prop
 jZ:Nat->Hp->V->Hp->Prop
 stop:Nat->Hp->Prop
abbrev N3 (X:Cx)(pins:List (Addr×Obj))(H:Hp)(b:Addr):Prop:=
 H b=none/\b≠X.env.locals/\b∉X.fs/\(b∈X.ex\/X.s₀.heap.objs.size<=b)/\(∀x c,X.env.cells.lookup x=some c->c≠b)/\∀p∈X.pn++pins,p.1≠b
def Inv.VQ (I:Inv X pins σ H s)(hb:s.heap.objs.size<=b)(hn:H' b=none):N3 X pins H' b:=by
 refine⟨hn,Nat.ne_of_gt (zap I.lt hb),I.aaz hb,.inr (zbu I.sz hb),λ x c e z=>?_,λ p hp z=>?_⟩
 ·obtain⟨v,q⟩:=I.cell x c e;exact absurd (zap q.lt (by rw[z];exact hb)) (Nat.lt_irrefl _)
 ·exact absurd (zap (zaj (I.pin p hp).1) (by rw[z];exact hb)) (Nat.lt_irrefl _)
structure Turn (P:Program)(w:World)(K:za0)(tg:Expr)(J:It)(fp:List Addr)(it:Addr)(tn:Nat->Heap->Prop):Prop where
 mem:it∈fp
 obj:∀i h,tn i h->∀b∈fp,∃o,h.get? b=some o/\∀v,o.data≠.cell v
 keep:∀i h h',tn i h->(∀b∈fp,∀o,h.get? b=some o->h'.get? b=some o)->tn i h'
 item:∀(X:Cx),X.prog=P->X.w=w->X.K=K->X.calm=true->∀(i:Nat) (pins:List (Addr×Obj)) (s:Shared) (σ:St) (H:Hp) (E:Value->Shared->Prop),Inv X pins σ H s->(∀b∈fp,N3 X pins H b)->tn i s.heap->J.go i H->
  wpAny (model P w) X.A (pyNext (.ref it)) (λ r s1=>∃u,r=some u/\
   wpAny (model P w) X.A (letOwnedTupleGo tg (.ref it) u) (λ _ s2=>∃x H',Inv X pins σ H' s2/\RelV x u/\J.jZ i H x H'/\tn (i+1) s2.heap/\∀b∈fp,H' b=none) E s1) E s
 done:∀(X:Cx),X.prog=P->X.w=w->X.K=K->X.calm=true->∀(i:Nat) (pins:List (Addr×Obj)) (s:Shared) (σ:St) (H:Hp) (E:Value->Shared->Prop),Inv X pins σ H s->(∀b∈fp,N3 X pins H b)->tn i s.heap->J.stop i H->
  wpAny (model P w) X.A (pyNext (.ref it)) (λ r s1=>r=none/\Inv X pins σ H s1) E s
 self:∀(A:Around) (i:Nat) (s:Shared) (Q:Value->Shared->Prop) (E:Value->Shared->Prop),tn i s.heap->Q (.ref it) s->wpAny (model P w) A (pyIter (.ref it)) Q E s
noncomputable abbrev TI:=St->Hp->(It->Hp->Prop)->Prop
abbrev PIE (X:Cx)(pins:List (Addr×Obj))(σ:St)(tg:Expr)(R:It->Hp->Prop)(mq:Value)(s2:Shared):Prop:=
 ∃(it:Addr) (fp:List Addr) (tn:Nat->Heap->Prop) (J:It) (H':Hp),mq=.ref it/\Inv X pins σ H' s2/\Turn X.prog X.w X.K tg J fp it tn/\tn 0 s2.heap/\(∀b∈fp,N3 X pins H' b)/\R J H'
abbrev PI (X:Cx)(tg iter:Expr)(wi:TI):Prop:=
 ∀(pins:List (Addr×Obj)) (s:Shared) (σ:St) (H:Hp) (R:It->Hp->Prop),Inv X pins σ H s->wi σ H R->
  wpAny (model X.prog X.w) X.A (eval iter X.env) (λ v s1=>wpAny (model X.prog X.w) X.A (pyIter v) (PIE X pins σ tg R) X.xe s1) X.xe s
def TQ (ho:s.heap.get? it=some o)(hc:o.cls=.type n)(hd:o.data=.fields vs)(hn:["enumerate","zip","dict_itemiterator","dict_reverseitemiterator","odict_iterator","itertools.zip_longest","itertools.pairwise"].contains n=false)(hQ:Q () s):wpAny M A (letOwnedTupleGo tg (.ref it) u) Q E s:=by
 unfold letOwnedTupleGo;cases tg<;>first
  |exact wpAny_pure hQ
  |(cases u<;>first
   |exact wpAny_pure hQ
   |(
    refine wpAny_bind (wpAny_load ho ?_);rw[hc,hd];show wpAny M A (if (["enumerate","zip","dict_itemiterator","dict_reverseitemiterator","odict_iterator","itertools.zip_longest","itertools.pairwise"].contains n&&vs[0]?== some (rawInt _))=true then _ else _) Q E s;rw[if_neg (by intro h;rw[hn,Bool.false_and] at h;cases h)];exact wpAny_pure hQ))
abbrev Itl (K:za0)(a:Addr):It:=
 ⟨λ i H=>∃xs x,Dr K H a xs/\xs[i]?=some x,λ i H x H'=>H'=H/\∀xs,Dr K H a xs->xs[i]?=some x,λ i H=>∃xs,Dr K H a xs/\xs.length<=i⟩
abbrev Itt (K:za0)(a:Addr):It:=
 ⟨λ i H=>∃xs x,Fj K H a xs/\xs[i]?=some x,λ i H x H'=>H'=H/\∀xs,Fj K H a xs->xs[i]?=some x,λ i H=>∃xs,Fj K H a xs/\xs.length<=i⟩
abbrev Itr (lo:Int)(n:Nat):It:=⟨λ i _=>i<n,λ i H x H'=>H'=H/\x=.int (lo+i),λ i _=>n<=i⟩
def YM {K}(a it:Addr):Turn P w K tg (Itl K a) [it] it (λ i h=>h.IsListIter it a i) where
 mem:=by simp
 obj:=λ i h st b hb=>by
  have e:b=it:=by simpa using hb
  subst e;obtain⟨o,e,c,d⟩:=st;exact⟨o,e,λ v z=>by rw[d] at z;cases z⟩
 keep:=λ i h h' st k=>st.at λ o e=>k it (by simp) o e
 item:=by
  intro X hP hw hK hc i pins s σ H E I hf st hg;subst hP hw hK;obtain⟨xs,x,hq,hx⟩:=hg;obtain⟨aa,rv,p,hz⟩:=I.list hq;obtain⟨u,hu,ru⟩:=rv.get hx;obtain⟨f0,f1,f2,f3,f4,f5⟩:=hf it (by simp);refine wpAny_pyNext_list_item st p.isList (x:=u) (by simpa using hu) λ h' bg sb=>?_;have I1:Inv X pins σ H {s with heap:=h' }:=I.turned (t':=s.toks) (λ b o hb e=>(sb.2 b hb).trans e) f0 f1 f3 f4 f5;obtain⟨o,e,c,d⟩:=id bg;exact⟨u,rfl,TQ (s:={s with heap:=h' }) e c d (by decide) ⟨x,H,I1,ru,⟨rfl,λ ys hy=>by rw[I.Hr hy hq];exact hx⟩,bg,λ b hb=>(hf b hb).1⟩⟩
 done:=by
  intro X hP hw hK hc i pins s σ H E I hf st hg;subst hP hw hK;obtain⟨xs,hq,hx⟩:=hg;obtain⟨aa,rv,p,hz⟩:=I.list hq;obtain⟨f0,f1,f2,f3,f4,f5⟩:=hf it (by simp);have hl:=rv.length;exact wpAny_pyNext_list_end (I.ok.hd hc) st p.isList (by simp;omega) λ h' eb=>⟨rfl,I.turned (t':=s.toks) (λ b o hb e=>eb b o hb e) f0 f1 f3 f4 f5⟩
 self:=λ _ _ _ _ _ st h=>wpAny_pyIter_listiter st h
def VR {K}(a it:Addr):Turn P w K tg (Itt K a) [it] it (λ i h=>h.IsTupleIter it a i) where
 mem:=by simp
 obj:=λ i h st b hb=>by
  have e:b=it:=by simpa using hb
  subst e;obtain⟨o,e,c,d⟩:=st;exact⟨o,e,λ v z=>by rw[d] at z;cases z⟩
 keep:=λ i h h' st k=>st.at λ o e=>k it (by simp) o e
 item:=by
  intro X hP hw hK hc i pins s σ H E I hf st hg;subst hP hw hK;obtain⟨xs,x,hq,hx⟩:=hg;obtain⟨aa,rv,p,hz⟩:=I.tuple hq;obtain⟨u,hu,ru⟩:=rv.get hx;obtain⟨f0,f1,f2,f3,f4,f5⟩:=hf it (by simp);refine wpAny_pyNext_tuple_item st (show s.heap.IsTuple a aa.toArray from p) (x:=u) (by simpa using hu) λ h' bg sb=>?_;have I1:Inv X pins σ H {s with heap:=h' }:=I.turned (t':=s.toks) (λ b o hb e=>(sb.2 b hb).trans e) f0 f1 f3 f4 f5;obtain⟨o,e,c,d⟩:=id bg;exact⟨u,rfl,TQ (s:={s with heap:=h' }) e c d (by decide) ⟨x,H,I1,ru,⟨rfl,λ ys hy=>by rw[I.FQ hy hq];exact hx⟩,bg,λ b hb=>(hf b hb).1⟩⟩
 done:=by
  intro X hP hw hK hc i pins s σ H E I hf st hg;subst hP hw hK;obtain⟨xs,hq,hx⟩:=hg;obtain⟨aa,rv,p,hz⟩:=I.tuple hq;obtain⟨f0,f1,f2,f3,f4,f5⟩:=hf it (by simp);have hl:=rv.length;exact wpAny_pyNext_tuple_end (I.ok.hd hc) st (show s.heap.IsTuple a aa.toArray from p) (by simp;omega) λ h' eb=>⟨rfl,I.turned (t':=s.toks) (λ b o hb e=>eb b o hb e) f0 f1 f3 f4 f5⟩
 self:=λ _ _ _ _ _ st h=>wpAny_pyIter_tupleiter st h
def VS {K}(it:Addr)(lo:Int)(n:Nat):Turn P w K tg (Itr lo n) [it] it (λ i h=>IsRangeIter h it (lo+(i:Nat)*1) ((n:Int)-(i:Nat)) 1) where
 mem:=by simp
 obj:=λ i h st b hb=>by
  have e:b=it:=by simpa using hb
  subst e;exact⟨_,st,λ v z=>by
   have z':Data.fields _=Data.cell v:=z;cases z'⟩
 keep:=λ i h h' st k=>k it (by simp) _ st
 item:=by
  intro X hP hw hK hc i pins s σ H E I hf st hg;subst hP hw hK;obtain⟨f0,f1,f2,f3,f4,f5⟩:=hf it (by simp);have W:=Walks.range (prog:=X.prog) (w:=X.w) (I.ok.hd hc) it lo 1 n;refine W.item i s _ _ hg st λ v h' tk hv bg kk=>?_;obtain⟨t,rfl⟩:=hv;have I1:Inv X pins σ H {s with heap:=h',toks:=tk}:=I.turned (λ b o hb e=>kk b o (by simpa using hb) e) f0 f1 f3 f4 f5;refine⟨_,rfl,TQ (s:={s with heap:=h',toks:=tk}) (n := "range_iterator") bg rfl rfl (by decide) ⟨.int (lo+i),H,I1,⟨t,?_⟩,⟨rfl,rfl⟩,bg,λ b hb=>(hf b hb).1⟩⟩;rw[Int.mul_one]
 done:=by
  intro X hP hw hK hc i pins s σ H E I hf st hg;subst hP hw hK;obtain⟨f0,f1,f2,f3,f4,f5⟩:=hf it (by simp);exact wpAny_pyNext_range_end (I.ok.hd hc) st (by have:n<=i:=hg;omega) λ h' eb=>⟨rfl,I.turned (t':=s.toks) (λ b o hb e=>eb b o hb e) f0 f1 f3 f4 f5⟩
 self:=λ _ _ _ _ _ st h=>wpAny_pyIter_rangeiter st h
section
variable {tg:Expr}
abbrev xD (K:za0)(tl:TE):TI:=λ σ H R=>tl σ H λ x H1=>∃a,x=.ref a/\(∃xs,Dr K H1 a xs)/\R (Itl K a) H1
abbrev aaK (K:za0)(tl:TE):TI:=λ σ H R=>tl σ H λ x H1=>∃a,x=.ref a/\(∃xs,Fj K H1 a xs)/\R (Itt K a) H1
def kK (hl:PE X l tl):PI X tg l (xD X.K tl):=by
 intro pins s σ H R I h;refine Bi (hl pins s σ H _ I h) λ v s1 zz=>?_;obtain⟨x,H1,I1,r1,q1⟩:=zz;obtain⟨a,e,⟨xs,hq⟩,q⟩:=q1;subst e;cases r1;obtain⟨aa,rv,p,hz⟩:=I1.list hq;refine wpAny_pyIter_list p.isList ?_;refine⟨s1.heap.objs.size,[s1.heap.objs.size],_,_,H1,rfl,I1.kept (t':=s1.toks) λ b o e=>zac _ e,YM a _,⟨_,zar _ rfl,rfl,rfl⟩,λ b hb=>?_,q⟩;have e:b=s1.heap.objs.size:=by simpa using hb
 subst e;exact I1.VQ (zag _) (I1.Aw.fresh (zag _))
def sC (hl:PE X l tl):PI X tg l (aaK X.K tl):=by
 intro pins s σ H R I h;refine Bi (hl pins s σ H _ I h) λ v s1 zz=>?_;obtain⟨x,H1,I1,r1,q1⟩:=zz;obtain⟨a,e,⟨xs,hq⟩,q⟩:=q1;subst e;cases r1;obtain⟨aa,rv,p,hz⟩:=I1.tuple hq;refine wpAny_pyIter_tuple (show s1.heap.IsTuple a aa.toArray from p) ?_;refine⟨s1.heap.objs.size,[s1.heap.objs.size],_,_,H1,rfl,I1.kept (t':=s1.toks) λ b o e=>zac _ e,VR a _,⟨_,zar _ rfl,rfl,rfl⟩,λ b hb=>?_,q⟩;have e:b=s1.heap.objs.size:=by simpa using hb
 subst e;exact I1.VQ (zag _) (I1.Aw.fresh (zag _))
def cV {lo}(I:Inv X pins σ H s)(h1 : -(2^62)<=lo)(h2:lo<2^62)(h3 : -(2^62)<=hi)(h4:hi<2^62)(q:R (Itr lo (hi-lo).toNat) H):wpAny (model X.prog X.w) X.A (pyIter (.ref s.heap.objs.size)) (PIE X pins σ tg R) E {s with heap:=s.heap.push {cls:=.type "range",data:=.fields #[.int lo t,.int hi u,.int 1 v]},toks:=tk}:=by
 refine wpAny_pyIter_range (IsRange.new ..) (small_one h1 h2 h3 h4) ?_;have I1:Inv X pins σ H {s with heap:=s.heap.push {cls:=.type "range",data:=.fields #[.int lo t,.int hi u,.int 1 v]},toks:=tk}:=I.kept λ b o e=>zac _ e;refine⟨(s.heap.push {cls:=.type "range",data:=.fields #[.int lo t,.int hi u,.int 1 v]}).objs.size,[(s.heap.push {cls:=.type "range",data:=.fields #[.int lo t,.int hi u,.int 1 v]}).objs.size],_,_,H,rfl,
  I1.kept (t':=tk) λ b o e=>zac _ e,VS _ lo (hi-lo).toNat,?_,λ b hb=>?_,q⟩
 ·have e1:lo+((0:Nat):Int)*1=lo:=by simp
  have e2:(((hi-lo).toNat:Nat):Int)-((0:Nat):Int)=Builtin.Range.rangeSize lo hi 1:=by rw[rangeSize_one];split<;>omega
  show IsRangeIter _ _ (lo+((0:Nat):Int)*1) ((((hi-lo).toNat:Nat):Int)-((0:Nat):Int)) 1;rw[e1,e2];exact zar _ rfl
 ·have e:b=(s.heap.push {cls:=.type "range",data:=.fields #[.int lo t,.int hi u,.int 1 v]}).objs.size:=by simpa using hb
  subst e;exact I1.VQ (zag _) (I1.Aw.fresh (zag _))
abbrev xE (ta:TA):TI:=λ σ H R=>ta σ H λ vs H1=>∃j:Int,vs=[.int j]/\-(2^62)<=j/\j<2^62/\R (Itr 0 j.toNat) H1
def YN {ta}(hg:Gl X "range")(hm:X.mg "range" = none)(ha:PA X [a] ta)(hs: ~~~(starEach [a] X.env=[(false,eval a X.env)])):PI X tg (.Call (.Name "range" p) [a] [] pos) (xE ta):=by
 intro pins s σ H R I h;refine Call_ (D5 I hg hm boot_range (zbe (Bi (ha pos pins s σ H _ I h) λ us s1 zz=>?_) hs rfl));obtain⟨vs,H1,I1,r1,q1⟩:=zz;obtain⟨j,e,q1,q2,q⟩:=q1;subst e;cases r1 with
 |cons r rr =>
  cases rr;obtain⟨t,rfl⟩:=r;exact call_range_1 (cV I1 (by omega) (by omega) q1 q2 (by simpa using q))
abbrev aaL (wi:TI)(g:TG)(tb:TS):TS:=λ D σ H=>wi σ H λ J H1=>∃W:Nat->Nat->St->Hp->Prop,(∃m,W 0 m σ H1)/\∀i m σ H,W i m σ H->
 (J.stop i H/\D.nx σ H)\/(J.go i H/\∃N:St->Hp->Prop,(∀σ' H',N σ' H'->∃m',m'<m/\W (i+1) m' σ' H')/\∀x H',J.jZ i H x H'->g x σ H' λ σ2 H2=>tb {D with nx:=N,ct:=N,bk:=D.nx} σ2 H2)
abbrev Jx (fp:List Addr)(h:Heap):List (Addr×Obj):=fp.filterMap λ b=>(h.get? b).map λ o=>(b,o)
def Ge (hb:b∈fp)(e:h.get? b=some o):(b,o)∈Jx fp h:=List.mem_filterMap.mpr ⟨b,hb,by rw[e];rfl⟩
def QP (hp:p∈Jx fp h):p.1∈fp/\h.get? p.1=some p.2:=by
 obtain⟨b,hb,e⟩:=List.mem_filterMap.mp hp;cases q:h.get? b with
 |none=>rw[q] at e;cases e
 |some o =>
  rw[q] at e;have e':(b,o)=p:=zas e;subst e';exact⟨hb,q⟩
def Inv.pinned (I:Inv X pins σ H s)(hf:∀b∈fp,N3 X pins H b)(ho:∀b∈fp,∃o,s.heap.get? b=some o/\∀v,o.data≠.cell v):Inv X (pins++Jx fp s.heap) σ H s:=
 I.K2 λ p hp=>(zao.mp hp).elim (λ z=>I.pin p (zad _ z)) λ z=>by
  obtain⟨hb,e⟩:=QP z;obtain⟨f0,f1,f2,_⟩:=hf p.1 hb;obtain⟨o,e',d⟩:=ho p.1 hb;rw[e] at e';cases e';exact⟨e,f0,f1,f2,d⟩
def Inv.K3 (I:Inv X (pins++pl) σ H s):Inv X pins σ H s:=I.K2 λ p hp=>I.pin p (zad _ (zb8 _ hp))
def sD (hp:PassesOwn (model X.prog X.w) X.A X.env X.xe)(hc:X.calm=true)(hi:PI X tg iter wi)(hg:PG X tg g)(hb:Xm X body tb)(hs:∀x,foldedSetIterable iter X.env x=pure x:=by intro _;rfl):PS X (.For tg iter body [] pos) (aaL wi g tb):=by
 intro pins s σ H D I h;refine wpAny_For (Bi (hi pins s σ H _ I h) λ v s1 h1=>Bi h1 λ mq s2 h2=>?_) hs;obtain⟨it,fp,tn,J,H2,e,I2,T,dh,f2,W,⟨m0,w0⟩,turn⟩:=h2;subst e;have bt:∀ {H':Hp},(∀b∈fp,H' b=none)->∀b∈fp,N3 X pins H' b:=λ hn b hb=>⟨hn b hb,(f2 b hb).2⟩;refine codeAny_forLoop_any (λ n s'=>∃i σ' H',Inv X pins σ' H' s'/\tn i s'.heap/\(∀b∈fp,H' b=none)/\W i n σ' H') ?_ m0 ⟨0,σ,H2,I2,dh,λ b hb=>(f2 b hb).1,w0⟩;rintro n s3 ⟨i,σ3,H3,I3,jc,jd,w3⟩;rcases turn i n σ3 H3 w3 with ⟨stop,qn⟩|⟨go,N,hN,step⟩
 ·refine wpAny_passesOwn hp (Bi (T.done X rfl rfl rfl hc i pins s3 σ3 H3 X.xe I3 (bt jd) jc stop) λ r s4 zz=>?_);obtain⟨hr,I4⟩:=zz;subst hr;exact wpAny_execs_nil ⟨σ3,H3,I4,qn⟩
 ·refine wpAny_passesOwn hp (Bi (T.item X rfl rfl rfl hc i pins s3 σ3 H3 X.xe I3 (bt jd) jc go) λ r s4 zz=>?_);obtain⟨u,hr,h4⟩:=zz;subst hr;refine wpAny_passesOwn hp (Bi h4 λ _ s5 zz=>?_);obtain⟨x,H5,I5,r5,y5,gf,oq⟩:=zz;have oy:=I5.pinned (bt oq) (T.obj _ _ gf);refine wpAny_passesOwn hp (Bi (hg _ s5 σ3 H5 x u _ oy r5 (step x H5 y5)) λ _ s6 zz=>?_);obtain⟨σ6,H6,I6,q6⟩:=zz;refine wpAny_passesOwn hp (Bi (hb _ s6 σ6 H6 _ I6 q6) λ f s7 q7=>?_);have again:∀ {σ7:St} {H7:Hp},Inv X (pins++Jx fp s5.heap) σ7 H7 s7->N σ7 H7->∃m,m<n/\∃i σ' H',Inv X pins σ' H' s7/\tn i s7.heap/\(∀b∈fp,H' b=none)/\W i m σ' H':=fun {σ7 H7} I7 n7=>by
   obtain⟨m',hm,w7⟩:=hN σ7 H7 n7;refine⟨m',hm,i+1,σ7,H7,I7.K3,T.keep _ _ _ gf λ b hb o e=>(I7.pin (b,o) (zad _ (zad _ (Ge hb e)))).1,λ b hb=>?_,w7⟩;obtain⟨o,e,d⟩:=T.obj _ _ gf b hb;exact (I7.pin (b,o) (zad _ (zad _ (Ge hb e)))).2.1
  cases f with
  |next|cont=>obtain⟨σ7,H7,I7,n7⟩:=q7;exact again I7 n7
  |brk=>obtain⟨σ7,H7,I7,q7⟩:=q7;exact⟨σ7,H7,I7.K3,q7⟩
  |ret v=>obtain⟨x7,σ7,H7,I7,r7,q7⟩:=q7;exact⟨x7,σ7,H7,I7.K3,r7,q7⟩
end
noncomputable abbrev R2:=V->V->Hp->VK->Prop
abbrev Gf (X:Cx)(f:Value->Value->Sem Value)(r:R2):Prop:=
 ∀(pins:List (Addr×Obj)) (s:Shared) (σ:St) (H:Hp) (x y:V) (v u:Value) (Q:VK),Inv X pins σ H s->RelV x v->RelV y u->r x y H Q->
  wpAny (model X.prog X.w) X.A (f v u) (EP X pins σ Q) X.xe s
abbrev UnR (X:Cx)(f:Value->Sem Value)(r:V->Hp->VK->Prop):Prop:=
 ∀(pins:List (Addr×Obj)) (s:Shared) (σ:St) (H:Hp) (x:V) (v:Value) (Q:VK),Inv X pins σ H s->RelV x v->r x H Q->
  wpAny (model X.prog X.w) X.A (f v) (EP X pins σ Q) X.xe s
abbrev GS (X:Cx)(f:Value)(r:List V->Hp->VK->Prop):Prop:=
 ∀(pins:List (Addr×Obj)) (s:Shared) (σ:St) (H:Hp) (xs:List V) (us:List Value) (Q:VK),Inv X pins σ H s->Vals xs us->r xs H Q->
  wpAny (model X.prog X.w) X.A (call f us) (EP X pins σ Q) X.xe s
abbrev aaN (X:Cx)(r:V->Hp->(Bool->Hp->Prop)->Prop):Prop:=
 ∀(pins:List (Addr×Obj)) (s:Shared) (σ:St) (H:Hp) (x:V) (v:Value) (Q:Bool->Hp->Prop),Inv X pins σ H s->RelV x v->r x H Q->
  wpAny (model X.prog X.w) X.A (truthy v) (TP X pins σ Q) X.xe s
abbrev vU (r:R2)(ta tb:TE):TE:=λ σ H Q=>ta σ H λ x H1=>tb σ H1 λ y H2=>r x y H2 Q
abbrev tUn (r:V->Hp->VK->Prop)(ta:TE):TE:=λ σ H Q=>ta σ H λ x H1=>r x H1 Q
abbrev rI (C:Int->Int->Prop)(g:Int->Int->V):R2:=λ x y H Q=>∃i j,x=.int i/\y=.int j/\C i j/\Q (g i j) H
abbrev cG (g:Int->Int->V):R2:=λ x y H Q=>∃i j,x=.int i/\y=.int j/\Q (g i j) H
abbrev rU (g:Int->V):V->Hp->VK->Prop:=λ x H Q=>∃i,x=.int i/\Q (g i) H
section
variable {a b:Expr}{tb tc:TE}
def sE (ha:PE X a ta)(hb:PE X b tb){R:V->V->Hp->Prop}(I:Inv X pins σ H s)(h:ta σ H λ x H1=>tb σ H1 λ y H2=>R x y H2){f:Value->Value->Sem Value}(hf:∀v u s2 x y H2,Inv X pins σ H2 s2->RelV x v->RelV y u->R x y H2->wpAny (model X.prog X.w) X.A (f v u) Q X.xe s2):
 wpAny (model X.prog X.w) X.A (eval a X.env) (λ v s₁=>wpAny (model X.prog X.w) X.A (eval b X.env) (λ u s₂=>wpAny (model X.prog X.w) X.A (f v u) Q X.xe s₂) X.xe s₁) X.xe s:=by
 refine Bi (ha pins s σ H _ I h) λ v s1 zz=>?_;obtain⟨x,H1,I1,r1,q1⟩:=zz;refine Bi (hb pins s1 σ H1 _ I1 q1) λ u s2 zz=>?_;obtain⟨y,H2,I2,r2,q2⟩:=zz;exact hf v u s2 x y H2 I2 r1 r2 q2
def cW (ho:Gf X (binaryOp op) r)(ha:PE X a ta)(hb:PE X b tb):PE X (.BinOp a op b pos) (vU r ta tb):=by
 intro pins s σ H Q I h;exact wpAny_BinOp (sE ha hb I h λ v u s2 x y H2 I2 rx ry q=>ho pins s2 σ H2 x y v u Q I2 rx ry q)
def xF (ho:UnR X (unaryOp op) r)(ha:PE X a ta):PE X (.UnaryOp op a pos) (tUn r ta):=by
 intro pins s σ H Q I h;exact UnaryOp_ (Bi (ha pins s σ H _ I h) λ v s1 ⟨x,H1,I1,r1,q1⟩=>ho pins s1 σ H1 x v Q I1 r1 q1)
def opI {C}{g:Int->Int->Int}(rule:∀(i j:Int) (t u:Tok) (s:Shared) (Q:Value->Shared->Prop) (E:Value->Shared->Prop),C i j->Q (.int (g i j) s.toks) {s with toks:=s.toks+1}->wpAny (model X.prog X.w) X.A (f (.int i t) (.int j u)) Q E s):
 Gf X f (rI C λ i j=>.int (g i j)):=by
 intro pins s σ H x y v u Q I rx ry h;obtain⟨i,j,rfl,rfl,hc,q⟩:=h;obtain⟨t,rfl⟩:=rx;obtain⟨t',rfl⟩:=ry;exact rule i j t t' s _ _ hc ⟨.int (g i j),H,I.tok _,⟨_,rfl⟩,q⟩
def xG {g:Int->Int->Int}(rule:∀(i j:Int) (t u:Tok) (s:Shared) (Q:Value->Shared->Prop) (E:Value->Shared->Prop),Q (.int (g i j) s.toks) {s with toks:=s.toks+1}->wpAny (model X.prog X.w) X.A (f (.int i t) (.int j u)) Q E s):
 Gf X f (cG λ i j=>.int (g i j)):=by
 intro pins s σ H x y v u Q I rx ry h;obtain⟨i,j,rfl,rfl,q⟩:=h;obtain⟨t,rfl⟩:=rx;obtain⟨t',rfl⟩:=ry;exact rule i j t t' s _ _ ⟨.int (g i j),H,I.tok _,⟨_,rfl⟩,q⟩
def sF {g:Int->Int->Bool}(rule:∀(i j:Int) (t u:Tok) (s:Shared) (Q:Value->Shared->Prop) (E:Value->Shared->Prop),Q (.bool (g i j)) s->wpAny (model X.prog X.w) X.A (f (.int i t) (.int j u)) Q E s):
 Gf X f (cG λ i j=>.bl (g i j)):=by
 intro pins s σ H x y v u Q I rx ry h;obtain⟨i,j,rfl,rfl,q⟩:=h;obtain⟨t,rfl⟩:=rx;obtain⟨t',rfl⟩:=ry;exact rule i j t t' s _ _ ⟨.bl (g i j),H,I,rfl,q⟩
abbrev cX (i j:Int):Prop:=0<j/\j<1073741824
abbrev kL (i j:Int):Prop:=0<=j/\j<=1000000/\i.natAbs<2^64
abbrev cY (i j:Int):Prop:=(-(2^64)<i/\i<2^64)\/(-(2^64)<j/\j<2^64)
def cY.ok (h:cY i j):IntMulOk i j:=by
 rcases h with ⟨h1,h2⟩|⟨h1,h2⟩
 ·exact .of_left (intBits_le_64 h1 h2)
 ·exact .of_right (intBits_le_64 h1 h2)
def sG:Gf X (binaryOp .Add) (cG λ i j=>.int (i+j)):=xG λ _ _ _ _ _ _ _ q=>add_int q
def sH:Gf X (binaryOp .Sub) (cG λ i j=>.int (i-j)):=xG λ _ _ _ _ _ _ _ q=>sub_int q
def kM:Gf X (binaryOp .FloorDiv) (rI cX λ i j=>.int (i / j)):=opI λ i j _ _ _ _ _ hc q=>by
 have h1:(0:Int)<j:=hc.1;have h2:j<1073741824:=hc.2;exact floordiv_int (by omega) (by rw[Int.fdiv_eq_ediv_of_nonneg i (by omega)];exact q) (.inl (PyProof.noPylong_small (by omega)))
def sI:Gf X (binaryOp .Mod) (rI (λ _ j=>0<j) λ i j=>.int (i%j)):=opI λ i j _ _ _ _ _ hc q=>by
 have h1:(0:Int)<j:=hc;exact mod_int' (by omega) (by rw[Int.fmod_eq_emod_of_nonneg i (by omega)];exact q)
def sJ:Gf X (binaryOp .Pow) (rI kL λ i j=>.int (i^j.toNat)):=opI λ _ _ _ _ _ _ _ hc q=>pow_int_small hc.1 hc.2.1 hc.2.2 q
def unI {g:Int->Int}(rule:∀(i:Int) (t:Tok) (s:Shared) (Q:Value->Shared->Prop) (E:Value->Shared->Prop),Q (.int (g i) s.toks) {s with toks:=s.toks+1}->wpAny (model X.prog X.w) X.A (f (.int i t)) Q E s):
 UnR X f (rU λ i=>.int (g i)):=by
 intro pins s σ H x v Q I rx h;obtain⟨i,rfl,q⟩:=h;obtain⟨t,rfl⟩:=rx;exact rule i t s _ _ ⟨.int (g i),H,I.tok _,⟨_,rfl⟩,q⟩
def sL:UnR X (unaryOp .USub) (rU λ i=>.int (-i)):=unI λ _ _ _ _ _ q=>neg_int q
end
section
variable {a b:Expr}{tb tc:TE}
def cZ:Gf X (compareOp .Lt) (cG λ i j=>.bl (decide (i<j))):=sF λ _ _ _ _ _ _ _ q=>lt_int q
def pR:Gf X (compareOp .LtE) (cG λ i j=>.bl (decide (i<=j))):=sF λ _ _ _ _ _ _ _ q=>le_int q
def xH:Gf X (compareOp .Gt) (cG λ i j=>.bl (decide (j<i))):=sF λ _ _ _ _ _ _ _ q=>gt_int q
def Gf.or (h:Gf X f r)(h':Gf X f r'):Gf X f (λ x y H Q=>r x y H Q\/r' x y H Q):=by
 intro pins s σ H x y v u Q I rx ry q;rcases q with q|q
 ·exact h pins s σ H x y v u Q I rx ry q
 ·exact h' pins s σ H x y v u Q I rx ry q
def Jy (b:Expr)(h:op≠.In:=by decide)(h2:op≠.NotIn:=by decide):behindInMarks op b=false:=by
 have e1:(op==CmpOp.In)=false:=by cases op<;>first|rfl|exact absurd rfl h
 have e2:(op==CmpOp.NotIn)=false:=by cases op<;>first|rfl|exact absurd rfl h2
 cases b<;>simp[behindInMarks,e1,e2]
def kN (ho:Gf X (compareOp op) r)(ha:PE X a ta)(hb:PE X b tb)(hm:behindInMarks op b=false):PE X (.Compare a [op] [b] pos) (vU r ta tb):=by
 intro pins s σ H Q I h;exact wpAny_Compare1 (sE ha hb I h λ v u s2 x y H2 I2 rx ry q=>ho pins s2 σ H2 x y v u Q I2 rx ry q) hm
abbrev dA (t:TE):TT:=λ σ H Q=>t σ H λ x H'=>∃k,x=.bl k/\Q k H'
def kO (ho:Gf X (compareOp op) r)(ha:PE X a ta)(hb:PE X b tb)(hm:behindInMarks op b=false):PT X (.Compare a [op] [b] pos) (dA (vU r ta tb)):=by
 intro pins s σ H Q I h;refine wpAny_isTrue_Compare1 (Bi (ha pins s σ H _ I h) λ v s1 ⟨x,H1,I1,r1,q1⟩=>Bi (hb pins s1 σ H1 _ I1 q1) λ u s2 ⟨y,H2,I2,r2,q2⟩ =>
  Bi (ho pins s2 σ H2 x y v u _ I2 r1 r2 q2) λ c s3 ⟨z,H3,I3,r3,k,e,q3⟩=>?_) hm
 subst e;cases r3;exact wpAny_truthy_bool ⟨H3,I3,q3⟩
abbrev dB (r r':R2)(ta tb tc:TE):TE:=λ σ H Q=>ta σ H λ x H1=>tb σ H1 λ y H2=>r x y H2 λ z H3=>∃k,z=.bl k/\
 (if k=true then tc σ H3 λ w' H4=>r' y w' H4 Q else Q (.bl false) H3)
def dC (ho:Gf X (compareOp op) r)(aM:Gf X (compareOp bu) r')(ha:PE X a ta)(hb:PE X b tb)(hc:PE X c tc)(hm:lastMarks [op,bu] [b,c]=false:=by with_unfolding_all rfl):PE X (.Compare a [op,bu] [b,c] pos) (dB r r' ta tb tc):=by
 intro pins s σ H Q I h;refine Compare_chain (Bi (ha pins s σ H _ I h) λ v s1 ⟨x,H1,I1,r1,q1⟩=>chain_link (Bi (hb pins s1 σ H1 _ I1 q1) λ u s2 ⟨y,H2,I2,r2,q2⟩ =>
  Bi (ho pins s2 σ H2 x y v u _ I2 r1 r2 q2) λ d s3 ⟨z,H3,I3,r3,k,e,q3⟩=>?_)) hm
 subst e;cases r3;refine wpAny_truthy_bool ?_;cases k with
 |false=>exact ite_ff ⟨.bl false,H3,I3,rfl,q3⟩
 |true=>exact ite_tt (chain_last (Bi (hc pins s3 σ H3 _ I3 q3) λ w' s4 ⟨z',H4,I4,r4,q4⟩=>aM pins s4 σ H4 y z' u w' Q I4 r2 r4 q4))
def dD (ho:Gf X (compareOp op) r)(aM:Gf X (compareOp bu) r')(ha:PE X a ta)(hb:PE X b tb)(hc:PE X c tc)(hm:lastMarks [op,bu] [b,c]=false:=by with_unfolding_all rfl):PT X (.Compare a [op,bu] [b,c] pos) (dA (dB r r' ta tb tc)):=by
 intro pins s σ H Q I h;refine isTrue_chain (Bi (ha pins s σ H _ I h) λ v s1 ⟨x,H1,I1,r1,q1⟩=>test_link (Bi (hb pins s1 σ H1 _ I1 q1) λ u s2 ⟨y,H2,I2,r2,q2⟩ =>
  Bi (ho pins s2 σ H2 x y v u _ I2 r1 r2 q2) λ d s3 ⟨z,H3,I3,r3,k,e,q3⟩=>?_)) hm
 subst e;cases r3;refine wpAny_truthy_bool ?_;cases k with
 |false =>
  obtain⟨k',e',q'⟩:=q3;cases e';exact ite_ff ⟨H3,I3,q'⟩
 |true =>
  refine ite_tt (test_last (Bi (hc pins s3 σ H3 _ I3 q3) λ w' s4 ⟨z',H4,I4,r4,q4⟩=>Bi (aM pins s4 σ H4 y z' u w' _ I4 r2 r4 q4) λ d' s5 zz=>?_));obtain⟨z2,H5,I5,r5,k2,e2,q5⟩:=zz;subst e2;cases r5;exact wpAny_truthy_bool ⟨H5,I5,q5⟩
abbrev xI (K:za0)(x:V)(H:Hp)(k:Bool):Prop:=
 match x with
 | .AL=>k=false
 | .bl b=>k=b
 | .int i=>k=(i != 0)
 | .str y=>y.length<=sizeLine/\k=((y.length:Int) != 0)
 | .rH y=>y.size<=sizeLine/\k=((y.size:Int) != 0)
 | .ref p=>(∃xs,Dr K H p xs/\k = !xs.isEmpty)\/(∃xs,Fj K H p xs/\k = !xs.isEmpty)\/∃kvs,H p=some (.dK kvs)/\k = !kvs.isEmpty
 |_=>False
def VT {κ:Type}{kvs:List (κ×V)}{vs}(r:KV kvs vs):(!vs.isEmpty) = !kvs.isEmpty:=by
 cases r<;>rfl
def O4 (r:Vals xs aa):(!aa.toArray.isEmpty) = !xs.isEmpty:=by
 cases r<;>simp
def LQ:(sizeLine:Nat)<2^63:=by rw[sizeLine_eq];decide
def sM:aaN X (λ x H Q=>∃k,xI X.K x H k/\Q k H):=by
 intro pins s σ H x v Q I rx h;obtain⟨k,e,q⟩:=h;have hl:=LQ;have hs:sizeLine=16777216:=sizeLine_eq;cases x with
 |AL =>
  cases rx;have e':k=false:=e;subst e';exact truthy_none ⟨H,I,q⟩
 |bl b =>
  cases rx;have e':k=b:=e;subst e';exact wpAny_truthy_bool ⟨H,I,q⟩
 |int i =>
  obtain⟨t,rfl⟩:=rx;have e':k=(i != 0):=e;subst e';exact PySem.P.truthy_int ⟨H,I,q⟩
 |str y =>
  obtain⟨t,rfl⟩:=rx;obtain⟨hy,e'⟩:y.length<=sizeLine/\k=((y.length:Int) != 0):=e;subst e';exact PySem.P.truthy_str (by omega) ⟨H,I.tok _,q⟩
 |rH y =>
  obtain⟨t,rfl⟩:=rx;obtain⟨hy,e'⟩:y.size<=sizeLine/\k=((y.size:Int) != 0):=e;subst e';exact PySem.W.truthy_bytes (by omega) ⟨H,I.tok _,q⟩
 |ref p =>
  cases rx;have e':(∃xs,Dr X.K H p xs/\k = !xs.isEmpty)\/(∃xs,Fj X.K H p xs/\k = !xs.isEmpty)\/∃kvs,H p=some (.dK kvs)/\k = !kvs.isEmpty:=e;rcases e' with ⟨xs,hx,e'⟩|⟨xs,hx,e'⟩|⟨kvs,hx,e'⟩
  ·subst e';obtain⟨aa,r,pl,hz⟩:=I.list hx;have hlen:=r.length;exact wpAny_truthy_list pl.isList (by simp only[zaa];omega) ⟨H,I.tok _,by rw[O4 r];exact q⟩
  ·subst e';obtain⟨aa,r,pl,hz⟩:=I.tuple hx;have hlen:=r.length;exact truthy_tuple pl (by simp only[zaa];omega) ⟨H,I.tok _,by rw[O4 r];exact q⟩
  ·subst e';obtain⟨hz,hS,vs,r,m⟩:kvs.length<=sizeLine/\(p==sysModules)=false/\∃vs,KV kvs vs/\s.heap.DictOf (AR X.prog X.w) p vs:=I.Aw p _ hx;have hlen:kvs.length=vs.length:=zcx r;exact wpAny_truthy_dict hS m (by omega) ⟨H,I.tok _,by rw[VT r];exact q⟩
 |_=>exact (show False from e).elim
def dE (ha:PE X a ta)(he:∀whole,isTrue a X.env whole=(do let v <-whole;standAt a.pos;holding [v] (truthy v))):
 PT X a (λ σ H Q=>ta σ H λ x H'=>∃k,xI X.K x H' k/\Q k H'):=by
 intro pins s σ H Q I h;exact isTrue_plain (Bi (ha pins s σ H _ I h) λ v s1 ⟨x,H1,I1,r1,q1⟩=>sM pins s1 σ H1 x v Q I1 r1 q1) (he _)
def vals1 (r:Vals [x] us):∃u,us=[u]/\RelV x u:=by
 cases r with
 |cons r1 r2=>cases r2;exact⟨_,rfl,r1⟩
def vals2 (r:Vals [x,y] us):∃u w',us=[u,w']/\RelV x u/\RelV y w':=by
 cases r with
 |cons r1 r2 =>
  cases r2 with
  |cons r3 r4=>cases r4;exact⟨_,_,rfl,r1,r3⟩
def YO (hc:X.calm=true):GS X (.builtin "min") (λ xs H Q=>∃i j,xs=[.int i,.int j]/\Q (.int (if j<i then j else i)) H):=by
 intro pins s σ H xs us Q I r h;obtain⟨i,j,rfl,q⟩:=h;obtain⟨u,w',rfl,⟨t,rfl⟩,⟨t',rfl⟩⟩:=vals2 r;refine min_two_ints (I.ok.hd hc) λ h' tk k=>⟨_,H,I.kept k,?_,q⟩;by_cases hj:j<i
 ·rw[if_pos hj,if_pos hj];exact⟨_,rfl⟩
 ·rw[if_neg hj,if_neg hj];exact⟨_,rfl⟩
end
structure VU (h:Heap)(x dx C:Addr)(mA:Str->Option Value):Prop where
 obj:h.get? x=some (zcq C dx)
 ns:h.Ns1 dx mA
 ne:dx≠x
def YQ {mA}(n:h.Ns1 dx mA):∃od,h.get? dx=some od/\∀name,PySem.W.lookIn name od=some (mA name):=by
 obtain⟨o,es,ep,ho,hd,hk,_,hm⟩:=n;refine⟨o,ho,λ name=>?_⟩;have e:=hm name;unfold nsFind findBy at e;rw[<-Array.find?_toList] at e;unfold PySem.W.lookIn;rw[hd];dsimp only;split
 ·rename_i y q;rw[q] at e;exact congrArg some e
 ·rename_i q;rw[q] at e;have a:es.toList.any (·.refKey)=false:=by
   rw[List.any_eq_false];intro y hy;obtain⟨z,t,pc⟩:=hk y (Array.mem_toList_iff.mp hy);simp[DictEntry.refKey,pc]
  have a':¬ es.toList.any (·.refKey)=true:=by rw[a];exact zaw
  rw[if_neg a'];exact congrArg some e
def VU.look {mA}(I:VU h x dx C mA):∃od,PySem.W.InstAt h x (zcq C dx) C (some od)/\∀name,PySem.W.lookIn name od=some (mA name):=
 let ⟨od,ho,hl⟩:=YQ I.ns
 ⟨od,⟨I.obj,rfl,rfl,ho⟩,hl⟩
section
variable {prog:Program}{K:za0}{x f:Addr}{mA:Str->Option Value}{name:Str}{v:Value}
def get_map (X:K.In s.heap)(I:VU s.heap x dx C mA)(hg:PySem.W.plainGet K C name=true)(hh:PySem.W.hasDictIn K C=true)(ha:zbd K (.ref C) name=some none)(hv:mA name=some v)(je:PySem.W.handedIn v=true)(h:Q v {s with toks:=s.toks+1}):
 wpAny (model prog w) A (getAttr (.ref x) name expr) Q E s:=by
 obtain⟨od,J,hl⟩:=I.look;exact PySem.W.get_value X J (PySem.W.plainGet_of hg).1 (PySem.W.findObj_own hh ha rfl (by rw[hl,hv])) je h
def dG (X:K.In s.heap)(I:VU s.heap x dx C mA)(hg:PySem.W.plainGet K C name=true)(hf:zbd K (.ref C) name=some (some (.ref f)))(ht:PySem.W.isFn K (.ref f)=true)(hv:mA name=none)(h:Q (.ref f,[.ref x]) s):
 wpAny (model prog w) A (getMethod (.ref x) name pl) Q E s:=by
 obtain⟨od,J,hl⟩:=I.look;exact PySem.W.method_fn X J (PySem.W.plainGet_of hg).1 (PySem.W.plainGet_of hg).2 hf (beq_iff_eq.mp ht) (by show (PySem.W.lookIn name od).map (·.isSome)=some false;rw[hl,hv];rfl) h
def kQ (X:K.In s.heap)(I:VU s.heap x dx C mA)(hs:zbd K (.ref C) "__setattr__" = some (some (.builtin "object.__setattr__")))(hp:PySem.W.plainOver K C=true)(ht:PySem.W.takerIn K C name=some none)(hh:PySem.W.hasDictIn K C=true)(hw:PySem.Within mA ns)(hsz:ns.length<=sizeLine)(h:∀h',VU h' x dx C (λ y=>if y=name then some v else mA y)->Heap.SameBut dx s.heap h'->Q () {s with heap:=h',toks:=s.toks+2}):
 wpAny (model prog w) A (setAttr (.ref x) name v) Q E s:=by
 obtain⟨od,J,hl⟩:=I.look;refine PySem.W.set_plain X J hs (PySem.W.osa_open (s:={s with toks:=s.toks+1}) (r:=none) X J hp ht λ b=>?_);obtain⟨cd,hc,ba⟩:=PySem.W.any_some hh;have hx:s.heap.get? x=some ⟨.ref C,some dx,.plain,#[]⟩:=I.obj;refine wpAny_bind (wpAny_pure (wpAny_bind (wpAny_bind (wpAny_loadPart hx (wpAny_bind (PySem.W.Looks.here (s:={s with toks:=s.toks+1}) (PySem.W.looks_clsIn X hc) ?_))))));rw[ba];refine wpAny_pure (a:=some dx) (wpAny_bind (wpAny_pure (wpAny_bind ?_)));refine wpAny_nsSet1 (s:={s with toks:=s.toks+1}) I.ns λ h' a5 a6=>?_;obtain⟨oD,esD,epD,wt,wu,wv⟩:=a5.count (PySem.Within.cons name v hw);refine wpAny_bind (wpAny_lookBehind wt (by rw[wu];exact pastItsLine_dict (zbu wv (by rw[za8];omega))) ?_);exact wpAny_pure (h _ ⟨(a6.2 _ (zbi I.ne)).trans I.obj,a5,I.ne⟩ a6)
def dH (X:K.In s.heap)(hm:PySem.W.makesIn K C=true)(hi:zbd K (.ref C) "__init__" = some (some (.ref f)))(hf:PySem.W.typeIn K (.ref f)=some (.type "function"))(h:codeAny (model prog w) (A.under (.builtin "type.__call__" ⟨.ref C::vs,kw⟩)) (.call (.ref f) ⟨.ref (s.heap.objs.size+1)::vs,kw⟩) (PySem.W.InitBack (s.heap.objs.size+1) R)
  {s with heap:=(s.heap.push zc9).push (zcq C s.heap.objs.size)}):
 codeAny (model prog w) A (.call (.ref C) ⟨vs,kw⟩) R s:=by
 obtain⟨hh,g,d,t,os⟩:=s;exact PySem.W.make_core (PySem.W.makes_of X hm) (PySem.W.looks_findIn X hi) (λ self=>PySem.W.bind_fn X self hf) (.inl rfl) h
end
abbrev EF (f:Str)(v:V):List (Str×V)->List (Str×V)
 |[]=>[(f,v)]
 |(g,x)::r=>if g=f then (g,v)::r else (g,x)::EF f v r
def Mr (f g:Str)(v:V):∀fs:List (Str×V),(EF f v fs).lookup g=if g=f then some v else fs.lookup g
 |[]=>by
  show List.lookup g [(f,v)]=_;by_cases h:g=f
  ·have hb:(g==f)=true:=beq_iff_eq.mpr h;simp only[List.lookup,hb,if_pos h]
  ·have hb:(g==f)=false:=beq_eq_false_iff_ne.mpr h;simp only[List.lookup,hb,if_neg h]
 |(k,x)::r=>by
  have ih:=Mr f g v r;rw[show EF f v ((k,x)::r)=(if k=f then (k,v)::r else (k,x)::EF f v r) from rfl];by_cases hk:k=f
  ·rw[if_pos hk];by_cases h:g=k
   ·have hb:(g==k)=true:=beq_iff_eq.mpr h;simp only[List.lookup,hb,if_pos (h.trans hk)]
   ·have hb:(g==k)=false:=beq_eq_false_iff_ne.mpr h;simp only[List.lookup,hb,if_neg (λ e:g=f=>h (e.trans hk.symm))]
  ·rw[if_neg hk];by_cases h:g=k
   ·have hb:(g==k)=true:=beq_iff_eq.mpr h;simp only[List.lookup,hb,if_neg (λ e:g=f=>hk (h.symm.trans e))]
   ·have hb:(g==k)=false:=beq_eq_false_iff_ne.mpr h;simp only[List.lookup,hb];exact ih
def LR (f:Str)(v:V):∀fs:List (Str×V),f∈(EF f v fs).map (·.1)/\∀g,g∈fs.map (·.1)->g∈(EF f v fs).map (·.1)
 |[]=>⟨by simp[EF],λ g h=>by simp at h⟩
 |(k,x)::r=>by
  obtain⟨i1,i2⟩:=LR f v r;rw[show EF f v ((k,x)::r)=(if k=f then (k,v)::r else (k,x)::EF f v r) from rfl];by_cases hk:k=f
  ·rw[if_pos hk];subst hk;exact⟨by simp,λ g h=>by simpa using h⟩
  ·rw[if_neg hk];refine⟨?_,λ g h=>?_⟩
   ·rw[za5];exact za4 _ i1
   ·rw[za5] at h ⊢;rcases zab.mp h with e|e
    ·exact zab.mpr (.inl e)
    ·exact za4 _ (i2 g e)
def Ms (f:Str)(v:V):∀fs:List (Str×V),(EF f v fs).length<=fs.length+1
 |[]=>by simp[EF]
 |(k,x)::r=>by
  have ih:=Ms f v r;rw[show EF f v ((k,x)::r)=(if k=f then (k,v)::r else (k,x)::EF f v r) from rfl];by_cases hk:k=f
  ·rw[if_pos hk,za8,za8];omega
  ·rw[if_neg hk,za8,za8];omega
def Hj.some_of (r:Hj (some v) o):∃u,o=some u/\RelV v u:=by
 cases o with
 |none=>exact (show False from r).elim
 |some u=>exact⟨u,rfl,r⟩
def Hj.none_of (r:Hj none o):o=none:=by
 cases o with
 |none=>rfl
 |some u=>exact (show False from r).elim
def YR (r:RelV v u):PySem.W.handedIn u=true:=by
 cases v with
 |AL=>cases (show u=Value.none from r);rfl
 |bl b=>cases (show u=Value.bool b from r);rfl
 |int i=>obtain⟨t,e⟩:=(show ∃t,u=Value.int i t from r);cases e;rfl
 |str x=>obtain⟨t,e⟩:=(show ∃t,u=Value.str x t from r);cases e;rfl
 |rH b=>obtain⟨t,e⟩:=(show ∃t,u=Value.bytes b t from r);cases e;rfl
 |wK b=>obtain⟨t,e⟩:=(show ∃t,u=Value.float b t from r);cases e;rfl
 |ref a=>cases (show u=zbo a from r);rfl
 |ty n=>cases (show u=Value.type n from r);rfl
section
variable {P:Program}{a:Addr}{fs ce:List (Str×V)}
def S5 (Aw:GR P w H h)(e:H a=some (.ins C dx fs)):∃mA,VU h a dx C mA/\(∀f,Hj (fs.lookup f) (mA f))/\PySem.Within mA (fs.map (·.1))/\fs.length<=1000/\H dx=some (.own a):=by
 obtain⟨d,z,ne,ob,mA,n,r,q⟩:=(show Bn P w H h a (.ins C dx fs) from Aw a _ e);exact⟨mA,⟨ob,n,ne⟩,r,q,z,d⟩
end
structure YS (K:za0)(C:Addr):Prop where
 pg:PySem.W.plainGet K C Str.empty=true
 hd:PySem.W.hasDictIn K C=true
 po:PySem.W.plainOver K C=true
 sa:zbd K (.ref C) "__setattr__" = some (some (.builtin "object.__setattr__"))
def YS.get {K}(c:YS K C)(f:Str):PySem.W.plainGet K C f=true:=c.pg
abbrev Jz (K:za0)(C:Addr)(f:Str):Prop:=zbd K (.ref C) f=some none
def Jz.xJ {K}(n:Jz K C f):PySem.W.takerIn K C f=some none:=by
 unfold PySem.W.takerIn;rw[show zbd K (.ref C) f=some none from n];rfl
structure Meth (K:za0)(C:Addr)(m:Str)(f:Addr):Prop where
 at_:zbd K (.ref C) m=some (some (.ref f))
 fn:PySem.W.isFn K (.ref f)=true
 kp:zbn K (.ref f)=true
section
variable {a:Addr}{fs:List (Str×V)}{f:Str}{v:V}
def VW (I:Inv X pins σ H s)(e:H a=some (.ins C dx fs))(c:YS X.K C)(n:Jz X.K C f)(l:fs.lookup f=some v)(h:∀u s',Inv X pins σ H s'->RelV v u->Q u s'):wpAny (model X.prog X.w) A (getAttr (.ref a) f b) Q E s:=by
 obtain⟨mA,O,r,_,_,_⟩:=S5 I.Aw e;obtain⟨u,hu,ru⟩:=Hj.some_of (v:=v) (o:=mA f) (by rw[<-l];exact r f);exact get_map I.Qe O (c.get f) c.hd n hu (YR ru) (h u _ (I.tok _) ru)
def O5 (I:Inv X pins σ H s)(e:H a=some (.ins C dx fs))(c:YS X.K C)(k:Meth X.K C m g)(l:fs.lookup m=none)(h:Q (.ref g,[.ref a]) s):wpAny (model X.prog X.w) A (getMethod (.ref a) m pl) Q E s:=by
 obtain⟨mA,O,r,_,_,_⟩:=S5 I.Aw e;have hn:mA m=none:=Hj.none_of (by rw[<-l];exact r m);exact dG I.Qe O (c.get m) k.at_ k.fn hn h
def VX (I:Inv X pins σ H s)(e:H a=some (.ins C dx fs))(c:YS X.K C)(n:Jz X.K C f)(hl:fs.length<1000)(ry:RelV y u)(h:∀s',Inv X pins σ (upd H a (.ins C dx (EF f y fs))) s'->Q () s'):wpAny (model X.prog X.w) A (setAttr (.ref a) f u) Q E s:=by
 obtain⟨mA,O,r,wi,_,ho⟩:=S5 I.Aw e;have hz:(fs.map (·.1)).length<=sizeLine:=by rw[za2,sizeLine_eq];omega
 refine kQ I.Qe O c.sa c.po n.xJ c.hd wi hz λ h' O' sb=>h _ ?_;have hd:∃o,h'.get? dx=some o:=let ⟨o,_,_,e',_⟩:=O'.ns;⟨o,e'⟩;refine I.write (x:=a) (e:=dx) (by rw[e];exact zcv) (.inr ho) (λ b q hb z=>(sb.2 b hb).trans z) hd ?_;refine⟨by rw[Ag O.ne];exact ho,?_,O.ne,O'.obj,_,O'.ns,λ g=>?_,λ g hg=>?_⟩
 ·have:=Ms f y fs;omega
 ·show Hj ((EF f y fs).lookup g) (if g=f then some u else mA g);rw[Mr];by_cases q:g=f
  ·rw[if_pos q,if_pos q];exact ry
  ·rw[if_neg q,if_neg q];exact r g
 ·by_cases q:g=f
  ·rw[q];exact (LR f y fs).1
  ·refine (LR f y fs).2 g (wi g λ z=>hg ?_);show (if g=f then some u else mA g)=none;rw[if_neg q];exact z
def Inv.made (I:Inv X pins σ H s):Inv X pins σ (upd (upd H s.heap.objs.size (.own (s.heap.objs.size+1))) (s.heap.objs.size+1) (.ins C s.heap.objs.size []))
 {s with heap:=(s.heap.push zc9).push (zcq C s.heap.objs.size)}:=by
 have e1:(s.heap.push zc9).get? s.heap.objs.size=some zc9:=zar s.heap rfl;have e2:((s.heap.push zc9).push (zcq C s.heap.objs.size)).get? (s.heap.objs.size+1)=some (zcq C s.heap.objs.size):=by
  have:=zar (s.heap.push zc9) (o:=zcq C s.heap.objs.size) rfl;rwa[Heap.size_push] at this
 have e3:(s.heap.push zc9).Ns s.heap.objs.size (λ _=>none):=⟨zc9,#[],_,e1,rfl,(λ e he=>absurd he (by simp)),λ _=>rfl⟩;have I1:=I.laid (a:=s.heap.objs.size) (o:=.own (s.heap.objs.size+1)) (h':=s.heap.push zc9) (t':=s.toks) (λ b u q=>zac _ q) (zag _) ⟨_,e1⟩;refine I1.laid (a:=s.heap.objs.size+1) (o:=.ins C s.heap.objs.size []) (t':=s.toks) (λ b u q=>zac _ q) (Nat.le_of_eq (Heap.size_push _ _)) ?_;have ne:s.heap.objs.size≠s.heap.objs.size+1:=zat (Nat.lt_succ_self _);refine⟨by rw[Ag ne,Am],zbb _,ne,e2,λ _=>none,(Heap.Ns1.of_empty e3).at λ o q=>zac _ q,λ _=>zcv,λ y hy=>absurd rfl hy⟩
def kR (hb:attributeBase e f env (eval e env)=eval e env)(h:wpAny (model prog w) A (eval e env) (λ o s₁=>wpAny (model prog w) A (getAttr o f true) Q E s₁) E s):wpAny (model prog w) A (eval (.Attribute e f pos) env) Q E s:=
 Attribute_any_ h (by rw[arm_eval_Attribute,hb])
end
abbrev aaO (K:za0)(ta:TE)(f:Str):TE:=λ σ H Q=>ta σ H λ x H1=>∃a C dx fs v,x=.ref a/\H1 a=some (.ins C dx fs)/\YS K C/\Jz K C f/\fs.lookup f=some v/\Q v H1
abbrev aaP (K:za0)(ta tv:TE)(f:Str):TS:=λ D σ H=>tv σ H λ y H1=>ta σ H1 λ x H2=>∃a C dx fs,x=.ref a/\H2 a=some (.ins C dx fs)/\YS K C/\Jz K C f/\fs.length<1000/\
 D.nx σ (upd H2 a (.ins C dx (EF f y fs)))
section
variable {o value:Expr}{f:Str}{pos' aT:Pos}{tv:TE}
def sN (he:PE X e ta)(hb:attributeBase e f X.env (eval e X.env)=eval e X.env):PE X (.Attribute e f pos) (aaO X.K ta f):=by
 intro pins s σ H Q I h;refine kR hb (Bi (he pins s σ H _ I h) λ u s1 zz=>?_);obtain⟨x,H1,I1,rx,a,C,dx,fs,v,ex,ea,c,n,l,q⟩:=zz;subst ex;obtain rfl:u=zbo a:=rx;exact VW I1 ea c n l λ u' s2 I2 ru=>⟨v,H1,I2,ru,q⟩
def sO (ha:PE X o ta)(hv:PE X value tv)(hs:swapsWith value (some (.Attribute o f pos')) pos.line X.env=pure false):PS X (.Assign [.Attribute o f pos'] value pos) (aaP X.K ta tv f):=by
 intro pins s σ H D I h;refine plainObj_wpAny_Assign_Attribute (Bi (hv pins s σ H _ I h) λ u s1 ⟨y,H1,I1,ry,q⟩=>Bi (ha pins s1 σ H1 _ I1 q) λ ov s2 zz=>?_) hs;obtain⟨x,H2,I2,rx,a,C,dx,fs,ex,ea,c,n,l,q2⟩:=zz;subst ex;obtain rfl:ov=zbo a:=rx;exact VX I2 ea c n l ry λ s3 I3=>⟨σ,_,I3,q2⟩
end
structure C4 (k:Nat)(A:Around):Prop where
 hd:A.handled=none
 dp:A.depth+3*k+5<recursionLimit
 un:A.units+16*k+200<cLine
def C4.mono (r:C4 k A)(h:j<=k):C4 j A:=⟨r.hd,by have:=r.dp;omega,by have:=r.un;omega⟩
def C4.deeper (r:C4 (k+1) A)(env:Env):C4 k (A.deeper env):=
 ⟨r.hd,by have:=r.dp;show A.depth+1+3*k+5<_;omega,by have:=r.un;show A.units+3+16*k+200<_;omega⟩
def VY:(A.under (.builtin "type.__call__" ⟨.ref C::us,kw⟩)).depth=A.depth+1:=by
 first|rfl|simp[Around.under,Code.weight,Code.isCreation,Code.isGuard,Code.isCaller,Code.frames,Code.isFrame,guardIds]
def VZ:(A.under (.builtin "type.__call__" ⟨.ref C::us,kw⟩)).units=A.units+1:=by
 first|rfl|simp[Around.under,Code.cUnits,Code.frames,Code.isFrame]
def C4.make (r:C4 (k+1) A)(C:Addr)(us:List Value)(kw:List (Str×Value)):C4 k (A.under (.builtin "type.__call__" ⟨.ref C::us,kw⟩)):=
 ⟨r.hd,by have:=r.dp;rw[VY];omega,by have:=r.un;rw[VZ];omega⟩
def C4.depth (r:C4 k A):A.depth<recursionLimit:=by have:=r.dp;omega
def C4.units (r:C4 k A):A.units+64<cLine:=by have:=r.un;omega
abbrev sP:TA:=λ _ H Q=>Q [] H
abbrev pS (ta:TE)(tr:TA):TA:=λ σ H Q=>ta σ H λ x H1=>tr σ H1 λ xs H2=>Q (x::xs) H2
section
variable {t:TA}
def Cv:PA X [] sP:=λ _ _ _ _ H Q I h=>zcb ⟨[],H,I,.nil,h⟩
def Bd (ha:PE X e te)(hr:PA X es t)(hs: ~~~(starEach (e::es) X.env=(false,eval e X.env)::starEach es X.env)):PA X (e::es) (pS te t):=by
 intro pos pins s σ H Q I h;rw[hs];show wpAny _ _ (spliced ((false,eval e X.env)::backTo pos (starEach es X.env))) _ _ s;refine zc5 (Bi (ha pins s σ H _ I h) λ u s1 zz=>?_);obtain⟨x,H1,I1,r1,q1⟩:=zz;exact Bi (hr pos pins s1 σ H1 _ I1 q1) λ us s2 ⟨xs,H2,I2,r2,q2⟩=>⟨x::xs,H2,I2,.cons r1 r2,q2⟩
abbrev aaQ (t:TA):TE:=λ σ H Q=>t σ H λ xs H1=>xs.length<=sizeLine/\∀p,H1 p=none->Q (.ref p) (upd H1 p (.tup xs))
abbrev aaR (t:TA):TE:=λ σ H Q=>t σ H λ xs H1=>xs.length<=sizeLine/\∀p,H1 p=none->Q (.ref p) (upd H1 p (.lst xs))
def W0 {x1}(h:PA X es t):PE X (.Tuple es x1 pos) (aaQ t):=by
 intro pins s σ H Q I hq;refine wpAny_Tuple_spliced (Bi (h pos pins s σ H _ I hq) λ us s1 ⟨xs,H1,I1,r,z,q⟩=>⟨by rw[<-r.length];exact z,?_⟩);have hf:H1 s1.heap.objs.size=none:=I1.Aw.fresh (zag _);refine⟨.ref s1.heap.objs.size,upd H1 s1.heap.objs.size (.tup xs),I1.laid (t':=s1.toks) (λ b u e=>zac _ e) (zag _) ?_,rfl,q _ hf⟩;exact⟨z,us,r,⟨_,zar _ rfl,rfl,_,rfl⟩⟩
def W3 (h:PA X es t):PE X (.List es pos) (aaR t):=by
 intro pins s σ H Q I hq;refine wpAny_List_spliced (Bi (h pos pins s σ H _ I hq) λ us s1 ⟨xs,H1,I1,r,z,q⟩=>⟨by rw[<-r.length];exact z,?_⟩);have hf:H1 s1.heap.objs.size=none:=I1.Aw.fresh (zag _);refine⟨.ref s1.heap.objs.size,upd H1 s1.heap.objs.size (.lst xs),I1.laid (t':=s1.toks) (λ b u e=>zac _ e) (zag _) ?_,rfl,q _ hf⟩;exact⟨z,us,0,r,zar _ rfl⟩
end
noncomputable abbrev Sp:=List V->Hp->VK->XK->Prop
variable {sp:Sp}
noncomputable abbrev Xp:=List Env->Hp->Shared->XK->Value->Shared->Prop
structure W4 (P:Program)(w:World)(K:za0)(mg:Str->Option Value)(base:Heap)(A:Around)(outer:List Env)(s:Shared)(H:Hp):Prop where
 frames:A.frames=some outer
 mod:Mod K mg base
 bs:∀b o,base.get? b=some o->s.heap.get? b=some o/\H b=none
 kF:base.objs.size<=s.heap.objs.size
 LP:s.heap.FunFrames base outer
 rL:∀b∈cE outer,H b=none
 Aw:GR P w H s.heap
 bare:AllBare s.gens
variable {CX:Xp}
abbrev CE (outer:List Env)(P:Program)(w:World)(H:Hp)(s:Shared)(Q:VK)(u:Value)(s':Shared):Prop:=
 ∃v H',s'.os=s.os/\AllBare s'.gens/\Un (cE outer) [] H H' s.heap s'.heap/\GR P w H' s'.heap/\RelV v u/\Q v H'
abbrev CR (CX:Xp)(outer:List Env)(P:Program)(w:World)(H:Hp)(s:Shared)(Q:VK)(E:XK)(r:Result)(s':Shared):Prop:=
 match r with
 | .ok (.ret u)=>CE outer P w H s Q u s'
 | .ok _=>False
 | .error e=>CX outer H s E e s'
structure Ea (P:Program)(w:World)(K:za0)(mg:Str->Option Value)(base:Heap)(CX:Xp)(k:Nat)(f:Addr)(fd:FuncData)(ps:List Str)(sp:Sp):Prop where
 len:∀vs H Q E,sp vs H Q E->vs.length=ps.length
 run:∀(A:Around) (outer:List Env) (s:Shared) (H:Hp) (args:Args) (us:List Value) (vs:List V) (Q:VK) (E:XK),C4 k A->W4 P w K mg base A outer s H->BindsTo s fd args (ps.zip us)->Vals vs us->sp vs H Q E->
  codeAny (model P w) A (.call (.ref f) args) (CR CX outer P w H s Q E) s
def W4.make {K}(e:W4 P w K mg base A outer s H)(C:Addr)(us:List Value)(kw:List (Str×Value)):
 W4 P w K mg base (A.under (.builtin "type.__call__" ⟨.ref C::us,kw⟩)) outer s H:=⟨by first|exact e.frames|(simpa [Around.under,Code.envs,Code.isFrame,pushEnvs] using e.frames),e.mod,e.bs,e.kF,e.LP,e.rL,e.Aw,e.bare⟩
section
variable {s':Shared}
def Inv.xK (I:Inv X pins σ H s):W4 X.prog X.w X.K X.mg X.base X.A X.stack s H:=
 ⟨I.ok.frames,I.ok.mod,I.bs,zbu I.ok.kF I.sz,I.stack,I.Xl,I.Aw,I.bare⟩
def Inv.after (I:Inv X pins σ H s)(h:CE X.stack X.prog X.w H s Q u s'):EP X pins σ Q u s':=by
 obtain⟨v,H',os,bare,un,Aw,r,q⟩:=h;obtain⟨hh,g,d,t,ww⟩:=s';obtain rfl:ww=s.os:=os;exact⟨v,H',I.call (h':=hh) (g':=g) (d':=d) (t':=t) (ch:=[]) un Aw bare (λ b z=>absurd z (by simp)),r,q⟩
end
abbrev xM (sp:Sp)(bv:List V)(E:XK)(t:TA):TE:=λ σ H Q=>t σ H λ vs H1=>sp (vs++bv) H1 Q E
abbrev xN (C:Addr)(sp:Sp)(bv:List V)(E:XK)(t:TA):TE:=λ σ H Q=>t σ H λ vs H1=>∀x dx,H1 x=none->H1 dx=none->dx≠x->
 sp (.ref x::(vs++bv)) (upd (upd H1 dx (.own x)) x (.ins C dx [])) (λ v H2=>v=.AL/\Q (.ref x) H2) E
abbrev Binds (K:za0)(fd:FuncData)(ps:List Str)(ds:List Value):Prop:=
 ∀(s:Shared) (us:List Value),K.In s.heap->(us++ds).length=ps.length->BindsTo s fd ⟨us,[]⟩ (ps.zip (us++ds))
def Binds.all {K}(h:∀us:List Value,us.length=ps.length->bindArgs fd ⟨us,[]⟩=pure (ps.zip us)):Binds K fd ps []:=λ s us _ hl=>by
 rw[zb7] at hl ⊢;exact .of_eq (h us hl)
abbrev JA (CX:Xp)(X:Cx)(E:XK):Prop:=∀(pins:List (Addr×Obj)) (σ:St) (H:Hp) (s:Shared) (e:Value) (s':Shared),Inv X pins σ H s->CX X.stack H s E e s'->X.xe e s'
section
variable {k:Nat}{f:Addr}{bv:List V}{ds:List Value}{E:XK}{x m:Str}{p:Pos}{o:Expr}{t:TA}
def W5 (F:Ea X.prog X.w X.K X.mg X.base CX k f fd ps sp)(hr:C4 k X.A)(hb:Binds X.K fd ps ds)(hd:Vals bv ds)(hx:JA CX X E)(I:Inv X pins σ H s)(r:Vals vs us)(h:sp (vs++bv) H Q E):wpAny (model X.prog X.w) X.A (call (.ref f) us) (EP X pins σ Q) X.xe s:=by
 have r2:Vals (vs++bv) (us++ds):=r.append hd;have hl:(us++ds).length=ps.length:=by rw[<-r2.length];exact F.len _ _ _ _ h
 refine wpAny_call (codeAny_mono (F.run X.A X.stack s H ⟨us,[]⟩ (us++ds) (vs++bv) Q E hr I.xK (hb s us I.Qe hl) r2 h) λ r s' hq=>?_);cases r with
 |error e=>exact hx pins σ H s e s' I hq
 |ok fl =>
  cases fl with
  |ret u=>exact I.after hq
  |next|brk|cont=>exact zcs hq
def Xq (F:Ea X.prog X.w X.K X.mg X.base CX k f fd ps sp)(hr:C4 k X.A)(hg:Gl X x)(hm:X.mg x=some (.ref f))(hk:zbn X.K (.ref f)=true)(hb:Binds X.K fd ps ds)(hd:Vals bv ds)(hx:JA CX X E)(ha:PA X (e::es) t)(aU:(x==("__debug__" : Str))=false:=by decide)(he: ~~~(starEach (e::es) X.env=(false,eval e X.env)::starEach es X.env))(hpl: ~~~((backTo pos (starEach es X.env)).any (·.1)=false)):
 PE X (.Call (.Name x p) (e::es) [] pos) (xM sp bv E t):=by
 intro pins s σ H Q I h;refine wpAny_Call_Name_kw (Xn I hg hm ?_ aU);refine PySem.W.callWith_K (h₀:=X.base) I.ok.mod.YL hk (Bi (ha pos pins s σ H _ I h) λ us s1 ⟨vs,H1,I1,r,q⟩=>⟨I1.Qe,?_⟩) he hpl;exact W5 F hr hb hd hx I1 r q
structure Mk (K:za0)(C f:Addr):Prop where
 makes:PySem.W.makesIn K C=true
 init:zbd K (.ref C) "__init__" = some (some (.ref f))
 fn:PySem.W.isFn K (.ref f)=true
 kp:zbn K (.ref C)=true
def dI (M:Mk X.K C f)(F:Ea X.prog X.w X.K X.mg X.base CX k f fd ps sp)(hr:C4 (k+1) X.A)(hb:Binds X.K fd ps ds)(hd:Vals bv ds)(hx:JA CX X E)(I:Inv X pins σ H s)(r:Vals vs us)(h:∀x dx,H x=none->H dx=none->dx≠x->sp (.ref x::(vs++bv)) (upd (upd H dx (.own x)) x (.ins C dx [])) (λ v H2=>v=.AL/\Q (.ref x) H2) E):
 wpAny (model X.prog X.w) X.A (call (.ref C) us) (EP X pins σ Q) X.xe s:=by
 have hq:=h (s.heap.objs.size+1) s.heap.objs.size (I.Aw.fresh (Nat.le_succ _)) (I.Aw.fresh (zag _)) (zat (Nat.lt_succ_self _));have I2:=Inv.made (C:=C) I;have r2:Vals (V.ref (s.heap.objs.size+1)::(vs++bv)) (zbo (s.heap.objs.size+1)::(us++ds)):=.cons rfl (r.append hd);have hl:(zbo (s.heap.objs.size+1)::us++ds).length=ps.length:=by
  have e:=r2.length;rw[F.len _ _ _ _ hq] at e;exact e.symm
 refine wpAny_call (dH (f:=f) I.Qe M.makes M.init (beq_iff_eq.mp M.fn) (codeAny_mono (F.run _ X.stack _ _ ⟨zbo (s.heap.objs.size+1)::us,[]⟩ (zbo (s.heap.objs.size+1)::(us++ds)) _ _ E (hr.make C us [])
  (I2.xK.make C us []) (hb _ (zbo (s.heap.objs.size+1)::us) I2.Qe hl) r2 hq) λ r s' gh=>?_))
 cases r with
 |error e=>exact hx pins σ _ _ e s' I2 gh
 |ok fl =>
  cases fl with
  |ret u =>
   obtain⟨v,H',I3,rv,ev,q3⟩:=I2.after gh;subst ev;exact⟨rv,⟨V.ref (s.heap.objs.size+1),H',I3,rfl,q3⟩⟩
  |next|brk|cont=>exact zcs gh
def Xr (M:Mk X.K C f)(F:Ea X.prog X.w X.K X.mg X.base CX k f fd ps sp)(hr:C4 (k+1) X.A)(hg:Gl X x)(hm:X.mg x=some (.ref C))(hb:Binds X.K fd ps ds)(hd:Vals bv ds)(hx:JA CX X E)(ha:PA X (e::es) t)(aU:(x==("__debug__" : Str))=false:=by decide)(he: ~~~(starEach (e::es) X.env=(false,eval e X.env)::starEach es X.env))(hpl: ~~~((backTo pos (starEach es X.env)).any (·.1)=false)):
 PE X (.Call (.Name x p) (e::es) [] pos) (xN C sp bv E t):=by
 intro pins s σ H Q I h;refine wpAny_Call_Name_kw (Xn I hg hm ?_ aU);refine PySem.W.callWith_K (h₀:=X.base) I.ok.mod.YL M.kp (Bi (ha pos pins s σ H _ I h) λ us s1 ⟨vs,H1,I1,r,q⟩=>⟨I1.Qe,?_⟩) he hpl;exact dI M F hr hb hd hx I1 r q
end
abbrev PK (X:Cx)(jf:List Keyword)(t:TA):Prop:=
 ∀(pos:Pos) (pins:List (Addr×Obj)) (s:Shared) (σ:St) (H:Hp) (Q:List V->Hp->Prop),Inv X pins σ H s->t σ H Q->wpAny (model X.prog X.w) X.A (evalAll ((backToKw pos (keywordEach jf X.env)).map (·.2))) (AP X pins σ Q) X.xe s
section
variable {k:Nat}{f:Addr}{ks:List Str}{E:XK}{x m:Str}{p pd:Pos}{o:Expr}{jf:List Keyword}{t tk:TA}{nm:Option Str}
def sQ:PK X [] sP:=λ _ _ _ _ H Q I h=>wpAny_evalAll_nil ⟨[],H,I,.nil,h⟩
def kS (ha:PE X e te)(hr:PK X jf t):PK X (⟨nm,e,pd⟩::jf) (pS te t):=by
 intro pos pins s σ H Q I h;show wpAny _ _ (evalAll ((do let v <-eval e X.env;standAt pos;pure v)::(backToKw pos (keywordEach jf X.env)).map (·.2))) _ _ s;refine wpAny_evalAll_cons (wpAny_bind (Bi (ha pins s σ H _ I h) λ u s1 ⟨x,H1,I1,r1,q1⟩=>wpAny_bind (wpAny_standAt (wpAny_pure ?_))));exact Bi (hr pos pins s1 σ H1 _ I1 q1) λ us s2 ⟨xs,H2,I2,r2,q2⟩=>⟨x::xs,H2,I2,.cons r1 r2,q2⟩
variable {g:List Value->List Value->List Value}{gV:List V->List V->List V}
end
structure Aj (N P:List Str)(sc:Scope):Prop where
 kind:sc.kind=.function
 co:sc.isCoroutine=false
 gen:sc.isGenerator=false
 nd:N.Nodup
 pre:N.take P.length=P
 par:∀x∈P,sc.names.lookup x=some .local\/sc.names.lookup x=some .cell
 sR:∀y∈sc.names,y.2≠.free
def QQ {kindOf}:∀ {binds:List (Str×Value)}{m:Str->Option Value},(∀v,(x,v)∉binds)->bindL kindOf binds m x=m x
 |[],_,_=>rfl
 |(n,v)::r,m,h=>by
  unfold bindL;rw[QQ λ w hw=>h w (za4 _ hw)];split
  ·have:x≠n:=by rintro rfl;exact h v za3
   simp[this]
  ·rfl
def QR {kindOf}:∀ {binds:List (Str×Value)}{m:Str->Option Value},(∀v,(x,v)∉binds)->bindC kindOf binds m x=m x
 |[],_,_=>rfl
 |(n,v)::r,m,h=>by
  unfold bindC;rw[QR λ w hw=>h w (za4 _ hw)];split
  ·rfl
  ·have:x≠n:=by rintro rfl;exact h v za3
   simp[this]
def QS {kindOf:Str->Option NameKind}{x:Str}{v:Value}:∀ {P:List Str}{vs:List Value}{i:Nat}{m:Str->Option Value},P.Nodup->P[i]?=some x->vs[i]?=some v->kindOf x=some .local->
 bindL kindOf (P.zip vs) m x=some v
 |[],_,_,_,_,h,_,_|_::_,[],_,_,_,_,h,_=>by simp at h
 |p::P,w::vs,0,m,nd,h1,h2,hk=>by
  simp at h1 h2;subst h1;subst h2;show bindL kindOf ((p,w)::P.zip vs) m p=_;unfold bindL;rw[QQ λ v hv=>(zb6.mp nd).1 (List.of_mem_zip hv).1,if_pos hk];simp
 |p::P,w::vs,i+1,m,nd,h1,h2,hk=>by
  show bindL kindOf ((p,w)::P.zip vs) m x=_;unfold bindL;exact QS (i:=i) (zb6.mp nd).2 (by simpa using h1) (by simpa using h2) hk
def QT {kindOf:Str->Option NameKind}{x:Str}{v:Value}:∀ {P:List Str}{vs:List Value}{i:Nat}{m:Str->Option Value},P.Nodup->P[i]?=some x->vs[i]?=some v->kindOf x≠some .local->
 bindC kindOf (P.zip vs) m x=some v
 |[],_,_,_,_,h,_,_|_::_,[],_,_,_,_,h,_=>by simp at h
 |p::P,w::vs,0,m,nd,h1,h2,hk=>by
  simp at h1 h2;subst h1;subst h2;show bindC kindOf ((p,w)::P.zip vs) m p=_;unfold bindC;rw[QR λ v hv=>(zb6.mp nd).1 (List.of_mem_zip hv).1,if_neg hk];simp
 |p::P,w::vs,i+1,m,nd,h1,h2,hk=>by
  show bindC kindOf ((p,w)::P.zip vs) m x=_;unfold bindC;exact QT (i:=i) (zb6.mp nd).2 (by simpa using h1) (by simpa using h2) hk
abbrev start (N:List Str)(vs:List V):St:=vs.map some++zae (N.length-vs.length) none
abbrev TR (CX:Xp)(P:Program)(w:World)(K:za0)(mg:Str->Option Value)(base:Heap)(N:List Str)(qual:Str)(scope:Scope)(f:Addr)(cd:Value)(A:Around)(outer:List Env)(s:Shared)(H:Hp)(E:XK):Cx where
 prog:=P
 w:=w
 K:=K
 mg:=mg
 base:=base
 A:=A.deeper (envOfC qual scope s.heap.objs.size f cd)
 N:=N
 s₀:=s
 H₀:=H
 env:=envOfC qual scope s.heap.objs.size f cd
 outer:=outer
 stack:=envOfC qual scope s.heap.objs.size f cd::outer
 ex:=[]
 calm:=true
 fn:=λ _=>true
 pn:=[]
 xe:=λ e s'=>wpAny (model P w) (A.deeper (envOfC qual scope s.heap.objs.size f cd)) (leaving (envOfC qual scope s.heap.objs.size f cd) e) (λ _ jg=>CX outer H s E e jg) (λ e' jg=>CX outer H s E e' jg) s'
def TU {sc:Scope}(h:sc.names.lookup x=some .cell):∃c,(cellsFrom n sc.names []).lookup x=some c:=by
 have q:=PySem.W.cellsFrom_some sc.names n [] (.inl h);exact zbx.mp q
def YT {K}{E}(S:Aj N ps scope)(hd:A.handled=none)(e0:W4 P w K mg base A outer s H)(hl:vs.length=ps.length)(r:Vals vs us)(x:InCallC s s.heap.objs.size (bindL (envOfC qual scope s.heap.objs.size f cd).kindOf (ps.zip us) λ _=>none) (cellsFrom (s.heap.objs.size+1) scope.names []) (bindC (envOfC qual scope s.heap.objs.size f cd).kindOf (ps.zip us) λ _=>none) s1):
 Inv (TR CX P w K mg base N qual scope f cd A outer s H E) [] (start N vs) H s1:=by
 have hpl:ps.length<=N.length:=by have:=congrArg List.length S.pre;rw[zbz] at this;omega
 obtain⟨h1,tk,rfl,hk⟩:=x.done;have jh:∀b:Addr,b∉(TR CX P w K mg base N qual scope f cd A outer s H E).ex:=λ b z=>absurd (show b∈([]:List Addr) from z) (by simp);refine⟨⟨e0.mod,S.kind,rfl,rfl,zag _,λ y z c h1 h2=>?_,λ y hy=>?_,λ y c _ h=>?_,λ _=>hd,Around.frames_deeper e0.frames,.inr ⟨rfl,rfl⟩,λ b z=>absurd z (jh b),e0.bs,e0.kF,λ b _ _=>jh b,λ b z=>absurd z (jh b),e0.LP,e0.rL⟩,
  rfl,e0.bare,Un.kept hk,⟨_,x.toInCall.ns,λ i y v h1 h2 h3=>?_⟩,λ y c h=>⟨_,x.cell y c h⟩,e0.Aw.fresh (zag _),λ y c h=>?_,λ p hp=>absurd (show p∈([]:List (Addr×Obj)) from hp) (by simp),e0.Aw.kept hk,?_⟩
 ·exact name_of_addr x.apart (zdc h1) (zdc h2)
 ·have hy:scope.names.lookup y=some .cell\/scope.names.lookup y=some .free:=hy;rcases hy with hy|hy
  ·exact TU hy
  ·exact absurd rfl (S.sR _ (zdc hy))
 ·exact zbp (x.above y c (zdc h))
 ·have hi:i<vs.length:=by
   unfold start at h2;by_cases hi:i<vs.length
   ·exact hi
   ·rw[zd8 (by simpa using hi)] at h2;rw[zc6] at h2;split at h2<;>cases h2
  have ha:vs[i]?=some v:=by
   unfold start at h2;rw[zce (by simpa using hi),zan] at h2;cases e:vs[i]? with
   |none=>rw[e] at h2;cases h2
   |some a=>rw[e] at h2;cases h2;rfl
  obtain⟨u,hu,rv⟩:=r.get ha;have hp:ps[i]?=some y:=by
   rw[<-S.pre,List.getElem?_take_of_lt (by omega)];exact h1
  have ux:ps.Nodup:=by rw[<-S.pre];exact S.nd.sublist (List.take_sublist _ _)
  refine⟨u,rv,?_⟩;rcases S.par y (zai hp) with k|k
  ·exact .inl ⟨k,QS ux hp hu k⟩
  ·obtain⟨c,e⟩:=TU (n:=s.heap.objs.size+1) k;refine .inr ⟨.inl k,c,e,?_⟩;have q:=x.cell y c e;rw[QT ux hp hu (by show scope.names.lookup y≠_;rw[k];decide)] at q;exact q
 ·exact e0.Aw.fresh (zbp (x.above y c (zdc h)))
 ·unfold start;show _=N.length;rw[zal,za2,zcz];omega
def Xs {K}{kV}(lk:K.lookup f=some ⟨oc,od,.func (zbl name qual params body scope dV kV doc pm an B6 ct),VH⟩)(bc:zca K B6 qual=true)(S:Aj N ps scope)(len:∀vs H Q E,sp vs H Q E->vs.length=ps.length)(cf:∀(A:Around) (outer:List Env) (s:Shared) (H:Hp) (vs:List V) (Q:VK) (E:XK),C4 k (A.deeper (envOfC qual scope s.heap.objs.size f B6))->sp vs H Q E->
  ∃t,Xm (TR CX P w K mg base N qual scope f B6 A outer s H E) body t/\t {nx:=λ _ H'=>Q .AL H',rt:=Q} (start N vs) H):
 Ea P w K mg base CX (k+1) f (zbl name qual params body scope dV kV doc pm an B6 ct) ps sp:=by
 refine⟨len,λ A outer s H args us vs Q E hr e0 hb r bE=>?_⟩;have hl:=len _ _ _ _ bE;have KX:K.In s.heap:=e0.mod.YL.keeps λ b o e=>(e0.bs b o e).1;have lim:s.heap.NoLimit:=e0.mod.nolimit.keeps λ b o e=>(e0.bs b o e).1;have ji:∀y∈ps.zip us,scope.names.lookup y.1=some .local\/(scope.names.lookup y.1=some .cell/\((cellsFrom (s.heap.objs.size+1) scope.names []).lookup y.1).isSome=true):=λ⟨n,v⟩ hy=>by
  rcases S.par n (List.of_mem_zip hy).1 with q|q
  ·exact .inl q
  ·exact .inr ⟨q,PySem.W.cellsFrom_some _ _ _ (.inl q)⟩
 refine codeAny_call_function hr.depth (KX _ _ lk) rfl S.co S.gen rfl (PySem.W.codeRec_of KX bc) (hb _ _ _ _ ?_);refine wpAny_newFunctionEnv_cells S.kind ji λ env he s1 x=>?_;subst he;refine⟨lim.keeps x.toInCall.keep,codeAny_func ?_⟩;obtain⟨t,ht,hq⟩:=cf A outer s H vs Q E (hr.deeper _) bE;have I:Inv (TR CX P w K mg base N qual scope f B6 A outer s H E) [] (start N vs) H s1:=YT S hr.hd e0 hl r x;refine wpAny_mono (ht [] s1 (start N vs) H _ I hq) (λ fl s' hs=>?_) λ e s' hs=>hs;have fin:∀ {σ':St} {H':Hp} {v:V} {u:Value},Inv (TR CX P w K mg base N qual scope f B6 A outer s H E) [] σ' H' s'->RelV v u->Q v H'->CE outer P w H s Q u s':=
  fun {σ' H' v u} J rv q=>⟨v,H',J.os,J.bare,J.base,J.Aw,rv,q⟩
 cases fl with
 |ret u =>
  obtain⟨v,σ',H',J,rv,q⟩:=hs;exact fin J rv q
 |next =>
  obtain⟨σ',H',J,q⟩:=hs;exact fin (v:=V.AL) (u:=Value.none) J rfl q
 |brk =>
  obtain⟨_,_,_,q⟩:=hs;exact zcs q
 |cont =>
  obtain⟨_,_,_,q⟩:=hs;exact zcs q
section
variable {x:Str}{p:Pos}{t:TA}{id T:String}{r:List V->Hp->VK->Prop}
abbrev tCB (r:List V->Hp->VK->Prop)(t:TA):TE:=λ σ H Q=>t σ H λ vs H1=>r vs H1 Q
def TV (hc:GS X (.builtin id) r)(hg:Gl X x)(hm:X.mg x=none)(hv:bootBuiltins x=some (.builtin id))(ha:PA X (e::es) t)(hn:x ≠ "__name__" := by decide)(aU:(x==("__debug__" : Str))=false:=by decide)(he: ~~~(starEach (e::es) X.env=(false,eval e X.env)::starEach es X.env))(hpl: ~~~((backTo pos (starEach es X.env)).any (·.1)=false)):PE X (.Call (.Name x p) (e::es) [] pos) (tCB r t):=by
 intro pins s σ H Q I h;refine wpAny_Call_Name_kw (D5 I hg hm hv ?_ hn aU);exact PyProof.Rows.callWith_builtin1 (Bi (ha pos pins s σ H _ I h) λ us s1 ⟨vs,H1,I1,r1,q1⟩=>hc pins s1 σ H1 vs us Q I1 r1 q1) he hpl
def LS (hc:GS X (.type T) r)(hg:Gl X x)(hm:X.mg x=none)(hv:bootBuiltins x=some (.type T))(ha:PA X (e::es) t)(hn:x ≠ "__name__" := by decide)(aU:(x==("__debug__" : Str))=false:=by decide)(he: ~~~(starEach (e::es) X.env=(false,eval e X.env)::starEach es X.env))(hpl: ~~~((backTo pos (starEach es X.env)).any (·.1)=false)):PE X (.Call (.Name x p) (e::es) [] pos) (tCB r t):=by
 intro pins s σ H Q I h;refine wpAny_Call_Name_kw (D5 I hg hm hv ?_ hn aU);exact zbe (Bi (ha pos pins s σ H _ I h) λ us s1 ⟨vs,H1,I1,r1,q1⟩=>hc pins s1 σ H1 vs us Q I1 r1 q1) he hpl
end
end L2
namespace HT
open PySem PyProof.Rows
abbrev lexLt:List Int->List Int->Bool
 |[],[]=>false
 |[],_::_=>true
 |_::_,[]=>false
 |x::xs,y::ys=>if x=y then lexLt xs ys else decide (x<y)
def Gg (x y:Int)(xs ys:List Int):lexLt (x::xs) (y::ys)=if x=y then lexLt xs ys else decide (x<y):=rfl
def Fy:lexLt [] []=false:=rfl
def O6 (y:Int)(ys:List Int):lexLt [] (y::ys)=true:=rfl
def O7 (x:Int)(xs:List Int):lexLt (x::xs) []=false:=rfl
def dJ (A:Around)(s:Shared)(a:Int)(t:Tok)(c:Int)(u:Tok):∃e,SeqAt.EqAt A s (.int a t) (.int c u) e/\(e=true↔a=c):=
 ⟨(a==c),SeqAt.EqAt.int_int a t c u,by simp⟩
def dM (A:Around)(s:Shared)(a:Int)(t:Tok)(c:Int)(u:Tok)(prog:Program)(w:World)(E:Value->Shared->Prop)(Q:Value->Shared->Prop)(h:Q (.bool (decide (a<c))) s):
 wpAny (model prog w) A (richCompare .Lt (.int a t) (.int c u)) Q E s:=
 (PyProof.Rows.lt_int h:wpAny (model prog w) A (compareOp .Lt (.int a t) (.int c u)) Q E s)
section
open PySem.SeqAt
open PySem.AutoSeq1 (wpAny_loadPart')
open PySem.MeetsSeq PySem.MeetsSeq2 PySem.MeetsSeq3
def Qm (l b:Addr)(items ap:Array Value)(n n2:Nat)(dd pe:Option Addr)(sl jj:Array (Option Value))(ns ms:List Int)(hi:IntsAre items.toList ns)(hj:IntsAre ap.toList ms):
 Meets (Builtin.«tuple.__lt__» ⟨[.ref l,.ref b],[]⟩)
  (λ _ R s=>s.heap.get? l=some {cls:=.type "tuple",dict:=dd,data:=.seq items n,slots:=sl}/\s.heap.get? b=some {cls:=.type "tuple",dict:=pe,data:=.seq ap n2,slots:=jj}/\
   R (.ok (.ret (.bool (lexLt ns ms)))) s):=
 .of_wp λ prog w A R s h=>by
  obtain⟨hp,g,d,tk,os⟩:=s;obtain⟨hl,hb,h⟩:=h;have f2:=AutoSeq1.sub_tuple_tuple;have z1:items.size=ns.length:=by rw[<-hi.length];simp
  have z2:ap.size=ms.length:=by rw[<-hj.length];simp
  wp_walk using wpAny_loadPart' hl,wpAny_loadPart' hb,wpAny_forIn_list _ (λ rest b s'=>b.1=none/\s'=⟨hp,g,d,tk,os⟩/\∃(vs ws:List Value) (di i4:List Int),rest=vs.zip ws/\
   IntsAre vs di/\IntsAre ws i4/\di.length+ap.size=i4.length+items.size/\R (.ok (.ret (.bool (lexLt di i4)))) ⟨hp,g,d,tk,os⟩) _
  case turn =>
   rintro ⟨y,x⟩ rest b s' ⟨a9,rfl,vs,ws,di,i4,hz,pf,mr,hlen,hR⟩;cases pf with
   |nil=>rw[List.zip_nil_left] at hz;cases hz
   |cons a t ph =>
    cases mr with
    |nil=>rw[List.zip_nil_right] at hz;cases hz
    |cons c u pk =>
     rw[List.zip_cons_cons] at hz;injection hz with wx ff
     injection wx with hy hx
     subst hy hx;rw[Gg] at hR;simp only[za8] at hlen;obtain⟨e,he,jk⟩:=dJ A.in1 ⟨hp,g,d,tk,os⟩ a t c u;refine wpAny_bind (he prog w _ _ ?_);cases e with
     |true =>
      rw[if_pos (jk.mp rfl)] at hR
      wp_walk
      exact⟨rfl,rfl,_,_,_,_,ff,ph,pk,by omega,hR⟩
     |false =>
      rw[if_neg (λ q=>absurd (jk.mpr q) zaw)] at hR;have wy:=dM A.in1 ⟨hp,g,d,tk,os⟩ a t c u prog w
      wp_walk using wy
      exact⟨_,rfl,by simpa using hR⟩
  case fin =>
   rintro ⟨b1,b2⟩ s' ⟨a9,rfl,vs,ws,di,i4,hz,pf,mr,hlen,hR⟩;simp only at a9;subst a9;have hv:lexLt di i4=decide (items.size<ap.size):=by
    cases pf with
    |nil =>
     cases mr with
     |nil =>
      simp only[List.length_nil] at hlen;rw[Fy];exact (decide_eq_false (by omega)).symm
     |cons c u hw =>
      simp only[List.length_nil,za8] at hlen;rw[O6];exact (decide_eq_true (by omega)).symm
    |cons a t hv =>
     cases mr with
     |nil =>
      simp only[List.length_nil,za8] at hlen;rw[O7];exact (decide_eq_false (by omega)).symm
     |cons c u hw =>
      rw[List.zip_cons_cons] at hz;cases hz
   rw[hv] at hR
   wp_walk
   exact⟨_,rfl,by simpa [Builtin.Tuple.tupleCompareSizes] using hR⟩
  case h =>
   exact⟨rfl,rfl,items.toList,ap.toList,ns,ms,rfl,hi,hj,by omega,h⟩
end
section
variable {prog:Program}{w:World}{A:Around}{E:Value->Shared->Prop}{s:Shared}
def O8 (hl:IsTup s.heap l items)(hb:IsTup s.heap b ap)(hi:IntsAre items.toList ns)(hj:IntsAre ap.toList ms)(hu:A.units<cLine)(h:Q (.bool (lexLt ns ms)) s):wpAny (model prog w) A (compareOp .Lt (.ref l) (.ref b)) Q E s:=by
 obtain⟨⟨cls,dd,data,sl⟩,ho,hc,n,hd⟩:=id hl;obtain⟨⟨wz,pe,data2,jj⟩,u3,pq,n2,hd2⟩:=id hb;simp only at hc hd pq hd2;subst hc hd pq hd2;exact richCompare_meets_room (op:=.Lt) ⟨_,ho,rfl⟩ ⟨_,u3,rfl⟩ PySem.F.slot_tuple_lt PySem.F.entry_tuple_lt (PySem.F.args_tuple_lt_2 _ _) (Qm l b items ap n n2 dd pe sl jj ns ms hi hj)
  ⟨ho,u3,show Value.bool (lexLt ns ms)≠Value.notImplemented/\Q (.bool (lexLt ns ms)) s from ⟨(λ x=>nomatch x),h⟩⟩ hu
abbrev O9 (n d:Nat):Option Int->Nat
 |none=>d
 |some v=>if v<0 then (v+(n:Int)).toNat else min v.toNat n
def dN (n d:Nat):O9 n d none=d:=rfl
def S6 (n d k:Nat):O9 n d (some (k:Int))=min k n:=by
 show (if (k:Int)<0 then ((k:Int)+(n:Int)).toNat else min (k:Int).toNat n)=min k n;rw[if_neg (by omega),zbh]
end
end HT
namespace L2
open PySem PySem.Spec PyProof.Rows
noncomputable abbrev TO:=St->Hp->(Option Int->Hp->Prop)->Prop
abbrev PO (X:Cx)(e:Option Expr)(t:TO):Prop:=
 ∀(pins:List (Addr×Obj)) (s:Shared) (σ:St) (H:Hp) (Q:Option Int->Hp->Prop),Inv X pins σ H s->t σ H Q->
  wpAny (model X.prog X.w) X.A (evalPart e X.env) (λ u s'=>∃o H',Inv X pins σ H' s'/\IsPart u o/\Q o H') X.xe s
abbrev kT:TO:=λ _ H Q=>Q none H
abbrev xO (t:TE):TO:=λ σ H Q=>t σ H λ x H1=>∃i,x=.int i/\Q (some i) H1
def intsAre_of:∀ {us:List Value},Vals (ns.map V.int) us->IntsAre us ns:=by
 induction ns with
 |nil=>intro us r;rw[zcy] at r;cases r;exact .nil
 |cons n ns ih =>
  intro us r;rw[za5] at r;cases r with
  |cons r1 r2 =>
   obtain⟨t,e⟩:=r1;subst e;exact .cons n t (ih r2)
section
variable {X:Cx}{e:Expr}{te:TE}{lo hi:Option Expr}{tl th:TO}{pos p2:Pos}
def kU:PO X none kT:=by
 intro pins s σ H Q I h;rw[evalPart_none];exact wpAny_pure ⟨none,H,I,.none,h⟩
def kW (h:PE X e te):PO X (some e) (xO te):=by
 intro pins s σ H Q I hw;rw[evalPart_some];refine Bi (h pins s σ H _ I hw) λ u s1 zz=>?_;obtain⟨x,H1,I1,r1,q1⟩:=zz;obtain⟨i,rfl,q⟩:=q1;obtain⟨t,rfl⟩:=r1;exact⟨some i,H1,I1,.int i t,q⟩
abbrev SlR (X:Cx)(r:V->Option Int->Option Int->Hp->VK->Prop):Prop:=
 ∀(pins:List (Addr×Obj)) (s:Shared) (σ:St) (H:Hp) (x:V) (v vl vu:Value) (lo hi:Option Int) (sl:Addr) (Q:VK),Inv X pins σ H s->RelV x v->s.heap.IsSliceOf sl vl vu .none->IsPart vl lo->IsPart vu hi->r x lo hi H Q->
  ∃T id,typeLookup (.type T) "__getitem__" = pure (some (.builtin id))/\s.TypeIs v T/\wpAny (model X.prog X.w) X.A (getItem v (.ref sl)) (EP X pins σ Q) X.xe s
abbrev tSl (r:V->Option Int->Option Int->Hp->VK->Prop)(te:TE)(tl th:TO):TE:=λ σ H Q=>te σ H λ x H1=>tl σ H1 λ l H2=>th σ H2 λ u H3=>r x l u H3 Q
def dO (hr:SlR X r)(he:PE X e te)(hl:PO X lo tl)(hu:PO X hi th):PE X (.Subscript e (.Slice lo hi none p2) pos) (tSl r te tl th):=by
 intro pins s σ H Q I h;refine Subscript_ (Bi (he pins s σ H _ I h) λ v s1 zz=>?_);obtain⟨x,H1,I1,r1,q1⟩:=zz;refine wpAny_Slice (Bi (hl pins s1 σ H1 _ I1 q1) λ vl s2 ⟨l,H2,I2,pl,q2⟩=>Bi (hu pins s2 σ H2 _ I2 q2) λ vu s3 zz=>?_);obtain⟨u,H3,I3,pu,q3⟩:=zz;rw[evalPart_none];refine wpAny_pure ?_;have I4:Inv X pins σ H3 {s3 with heap:=s3.heap.push {cls:=.type "slice",data:=.fields #[vl,vu,.none]} }:=I3.kept (t':=s3.toks) λ b ob q=>zac _ q;obtain⟨T,id,hT,ht,hg⟩:=hr pins {s3 with heap:=s3.heap.push {cls:=.type "slice",data:=.fields #[vl,vu,.none]} } σ H3 x v vl vu l u s3.heap.objs.size Q I4 r1 (Heap.IsSliceOf.new ..) pl pu q3;show wpAny (model X.prog X.w) X.A (subscriptTail e (.Slice lo hi none p2) v (.ref s3.heap.objs.size)) (EP X pins σ Q) X.xe {s3 with heap:=s3.heap.push {cls:=.type "slice",data:=.fields #[vl,vu,.none]} };exact tail_any (ops:=[.ref s3.heap.objs.size,v]) ht hT hg (by with_unfolding_all rfl)
abbrev dP (xs:List V)(lo hi:Option Int):List V:=(xs.drop (HT.O9 xs.length 0 lo)).take (HT.O9 xs.length xs.length hi-HT.O9 xs.length 0 lo)
def TX (xs:List V)(lo hi:Option Int):(dP xs lo hi).length<=xs.length:=by
 unfold dP;rw[zbz,zdd];omega
abbrev xP (K:za0):R2:=λ x y H Q=>∃a b ns ms,x=.ref a/\y=.ref b/\Fj K H a (ns.map V.int)/\Fj K H b (ms.map V.int)/\Q (.bl (HT.lexLt ns ms)) H
def dQ (hu:X.A.units<cLine):Gf X (compareOp .Lt) (xP X.K):=by
 intro pins s σ H x y v u Q I rx ry h;obtain⟨a,b,ns,ms,rfl,rfl,ha,hb,q⟩:=h;cases rx;cases ry;obtain⟨aa,r1,p1,_⟩:=I.tuple ha;obtain⟨aN,r2,p2,_⟩:=I.tuple hb;have i1:IntsAre aa.toArray.toList ns:=intsAre_of r1;have i2:IntsAre aN.toArray.toList ms:=intsAre_of r2;exact HT.O8 p1 p2 i1 i2 hu ⟨.bl (HT.lexLt ns ms),H,I,rfl,q⟩
end
abbrev Nn (n:Nat)(i:Int):Option Nat:=if 0<=i then (if i<n then some i.toNat else none) else if -(n:Int)<=i then some (i+n).toNat else none
abbrev S7 {α:Type}(xs:List α)(i:Int):Option α:=(Nn xs.length i).bind λ j=>xs[j]?
def Xu (h:Nn n i=some j):seqIndex? i n=some j/\j<n/\-(n:Int)<=i/\i<n:=by
 unfold Nn at h;by_cases h0:0<=i
 ·rw[if_pos h0] at h;by_cases h1:i<n
  ·rw[if_pos h1] at h;have e:i.toNat=j:=zas h;exact⟨by rw[seqIndex_of h0 h1,e],by omega,by omega,h1⟩
  ·rw[if_neg h1] at h;cases h
 ·rw[if_neg h0] at h;by_cases h1 : -(n:Int)<=i
  ·rw[if_pos h1] at h;have e:(i+n).toNat=j:=zas h;exact⟨by rw[seqIndex_neg (by omega) h1,e],by omega,h1,by omega⟩
  ·rw[if_neg h1] at h;cases h
def Xv {α:Type}{xs}{v:α}(h:S7 xs i=some v):∃j,seqIndex? i xs.length=some j/\xs[j]?=some v/\j<xs.length/\-(xs.length:Int)<=i/\i<xs.length:=by
 unfold S7 at h;cases e:Nn xs.length i with
 |none=>rw[e] at h;cases h
 |some j =>
  rw[e] at h;obtain⟨h1,h2,h3,h4⟩:=Xu e;exact⟨j,h1,h,h2,h3,h4⟩
abbrev Gh (b:Expr):Prop:=∀o i,subscripted b false o i=operate [o,i] (getItem o i)
abbrev kX (X:Cx)(r:R2):Prop:=
 ∀(value slice:Expr) (pins:List (Addr×Obj)) (s:Shared) (σ:St) (H:Hp) (x y:V) (v u:Value) (Q:VK),Inv X pins σ H s->RelV x v->RelV y u->r x y H Q->
  subscripted slice false v u=operate [v,u] (getItem v u)->wpAny (model X.prog X.w) X.A (subscriptTail value slice v u) (EP X pins σ Q) X.xe s
abbrev MtR (X:Cx)(id:String)(r:V->List V->Hp->VK->Prop):Prop:=
 ∀(pins:List (Addr×Obj)) (s:Shared) (σ:St) (H:Hp) (x:V) (xs:List V) (v:Value) (us:List Value) (Q:VK),Inv X pins σ H s->RelV x v->Vals xs us->r x xs H Q->
  wpAny (model X.prog X.w) X.A (call (.builtin id) (v::us)) (EP X pins σ Q) X.xe s
section
variable {X:Cx}{a b:Expr}{ta tb:TE}{pos:Pos}
def kX.or (h:kX X r)(h':kX X r'):kX X (λ x y H Q=>r x y H Q\/r' x y H Q):=by
 intro value slice pins s σ H x y v u Q I rx ry q hs;rcases q with q|q
 ·exact h value slice pins s σ H x y v u Q I rx ry q hs
 ·exact h' value slice pins s σ H x y v u Q I rx ry q hs
def TY (hr:kX X r)(ha:PE X a ta)(hb:PE X b tb)(hs:Gh b):PE X (.Subscript a b pos) (vU r ta tb):=by
 intro pins s σ H Q I h;exact Subscript_ (sE ha hb I h λ v u s2 x y H2 I2 rx ry q=>hr a b pins s2 σ H2 x y v u Q I2 rx ry q (hs _ _))
abbrev sS (K:za0):R2:=λ x y H Q=>∃p xs i v,x=.ref p/\y=.int i/\Dr K H p xs/\S7 xs i=some v/\Q v H
abbrev sT (K:za0):R2:=λ x y H Q=>∃p xs i v,x=.ref p/\y=.int i/\Fj K H p xs/\S7 xs i=some v/\Q v H
def K4:kX X (sS X.K):=by
 intro value slice pins s σ H x y v u Q I rx ry h hs;obtain⟨p,xs,i,z,rfl,rfl,hq,he,q⟩:=h;cases rx;obtain⟨t,rfl⟩:=ry;obtain⟨aa,r,pl,hz⟩:=I.list hq;obtain⟨j,h1,h2,h3,h4,h5⟩:=Xv he;obtain⟨w,ew,bh⟩:=r.get h2;have hl:=r.length;have hn:=LQ;have fin:EP X pins σ Q w s:=⟨z,H,I,bh,q⟩;by_cases h0:0<=i
 ·have hj:i.toNat=j:=by
   rw[seqIndex_of h0 h5] at h1;exact zas h1
  exact item_listR pl.isList h0 (by omega) (by rw[hj];simpa using ew) fin hs
 ·have hj:(i+(aa.toArray.size:Int)).toNat=j:=by
   rw[seqIndex_neg (by omega) h4] at h1;rw[zaa,<-hl];exact zas h1
  exact subscriptTail_builtinR (x:=w) pl.isList.typeIs slot_list_getitem.lookup
   (wpAny_getItem_list_neg (Q:=λ r s'=>r=w/\EP X pins σ Q r s') pl.isList (by omega) (by rw[zaa]<;>omega) (by omega) (by rw[hj];simpa using ew) ⟨rfl,fin⟩) hs
def dR:kX X (sT X.K):=by
 intro value slice pins s σ H x y v u Q I rx ry h hs;obtain⟨p,xs,i,z,rfl,rfl,hq,he,q⟩:=h;cases rx;obtain⟨t,rfl⟩:=ry;obtain⟨aa,r,pl,hz⟩:=I.tuple hq;obtain⟨j,h1,h2,h3,h4,h5⟩:=Xv he;obtain⟨w,ew,bh⟩:=r.get h2;have hl:=r.length;have hn:=LQ;have fin:EP X pins σ Q w s:=⟨z,H,I,bh,q⟩;exact subscriptTail_builtinR (x:=w) pl.typeIs slot_tuple_getitem.lookup
  (getItem_tuple (j:=j) (Q:=λ r s'=>r=w/\EP X pins σ Q r s') pl (by omega) (by omega) (by rw[zaa,<-hl];exact h1) (by simpa using ew) ⟨rfl,fin⟩) hs
def W6 (aa:List Value)(n j:Nat)(u:Value):Obj.mapSeq (·.setIfInBounds j u) {cls:=.type "list",data:=.seq aa.toArray n}={cls:=.type "list",data:=.seq (aa.set j u).toArray n}:=by
 simp[Obj.mapSeq]
def Inv.lst (I:Inv X pins σ H s)(h:H p=some (.lst xs)):
 ∃(aa:List Value) (n:Nat),Vals xs aa/\s.heap.get? p=some {cls:=.type "list",data:=.seq aa.toArray n}/\xs.length<=sizeLine:=by
 obtain⟨z,aa,n,r,e⟩:=I.Aw p _ h;exact⟨aa,n,r,e,z⟩
def Inv.sU {aa:List Value}(I:Inv X pins σ H s)(h:H p=some (.lst xs))(ho:s.heap.get? p=some {cls:=.type "list",data:=.seq aa.toArray n})(hf:f {cls:=.type "list",data:=.seq aa.toArray n}={cls:=.type "list",data:=.seq its'.toArray n' })(r:Vals ys its')(hz:ys.length<=sizeLine)(t:Nat):
 Inv X pins σ (upd H p (.lst ys)) {s with heap:=s.heap.update p f,toks:=t}:=by
 have e:(s.heap.update p f).get? p=some {cls:=.type "list",data:=.seq its'.toArray n' }:=by
  rw[Heap.get?_update_self f ho (by rw[hf]<;>rfl),hf]
 refine I.write (x:=p) (e:=p) (by rw[h];trivial) (.inl rfl) (λ b u hb q=>(Heap.get?_update_other _ _ (zbi hb)).trans q) ⟨_,e⟩ ?_;exact⟨hz,its',n',r,e⟩
abbrev xQ:V->V->V->Hp->(Hp->Prop)->Prop:=λ o i v H Q=>∃p xs k j,o=.ref p/\i=.int k/\H p=some (.lst xs)/\Nn xs.length k=some j/\Q (upd H p (.lst (xs.set j v)))
def set_list:xB X xQ:=by
 intro pins s σ H o i v ov iv u Q I ro ri rv h;obtain⟨p,xs,k,j,rfl,rfl,hp,hj,q⟩:=h;cases ro;obtain⟨t,rfl⟩:=ri;obtain⟨aa,n,r,ho,hz⟩:=I.lst hp;obtain⟨h1,h2,h3,h4⟩:=Xu hj;have hl:=r.length;have hn:=LQ;have I':Inv X pins σ (upd H p (.lst (xs.set j v))) {s with heap:=s.heap.update p (Obj.mapSeq (·.setIfInBounds j u))}:=
  I.sU hp ho (W6 aa n j u) (r.set rv j) (by rw[zbj];exact hz) s.toks
 by_cases h0:0<=k
 ·have hk:k.toNat=j:=by
   rw[seqIndex_of h0 h4] at h1;exact zas h1
  exact PySem.W.ki_setAt ho h0 (by omega) (by rw[zaa,<-hl];exact h4) (by rw[hk];exact⟨_,I',q⟩)
 ·have hk:(k+(aa.toArray.size:Int)).toNat=j:=by
   rw[seqIndex_neg (by omega) h3] at h1;rw[zaa,<-hl];exact zas h1
  exact PySem.W.ki_setBack ho (by omega) (by rw[zaa,<-hl];exact h3) (by omega) (by rw[hk];exact⟨_,I',q⟩)
def S8 (lo hi:Option Int)(n:Nat):(sliceBounds lo hi none n).1=((HT.O9 n 0 lo:Nat):Int)/\(sliceBounds lo hi none n).2.1=((HT.O9 n n hi:Nat):Int)/\(sliceBounds lo hi none n).2.2=1:=by
 refine⟨?_,?_,rfl⟩
 ·cases lo with
  |none=>simp[sliceBounds,HT.O9]
  |some i =>
   simp only[sliceBounds,HT.O9,Option.getD_none,show (1:Int) > 0 by decide,if_true];by_cases h:i<0
   ·simp only[h,if_true]<;>omega
   ·simp only[h,if_false]<;>omega
 ·cases hi with
  |none=>simp[sliceBounds,HT.O9]
  |some i =>
   simp only[sliceBounds,HT.O9,Option.getD_none,show (1:Int) > 0 by decide,if_true];by_cases h:i<0
   ·simp only[h,if_true]<;>omega
   ·simp only[h,if_false]<;>omega
def Qn (aa:List Value)(lo hi:Option Int):slicePick aa.toArray lo hi none=((aa.drop (HT.O9 aa.length 0 lo)).take (HT.O9 aa.length aa.length hi-HT.O9 aa.length 0 lo)).toArray:=by
 obtain⟨h1,h2,h3⟩:=S8 lo hi aa.toArray.size;unfold slicePick;rw[h1,h2,h3];simp only[sliceRange_one,pick_run,zaa]<;>rfl
abbrev aaT (K:za0):V->Option Int->Option Int->Hp->VK->Prop:=λ x lo hi H Q=>∃a xs,x=.ref a/\Dr K H a xs/\∀p,H p=none->Q (.ref p) (upd H p (.lst (dP xs lo hi)))
def kY:SlR X (aaT X.K):=by
 intro pins s σ H x v vl vu lo hi sl Q I rx hs pl pu h;obtain⟨a,xs,rfl,hx,q⟩:=h;cases rx;obtain⟨aa,r,ht,hz⟩:=I.list hx;have hlen:=r.length;refine⟨"list",_,slot_list_getitem.lookup,ht.isList.typeIs,?_⟩;refine wpAny_getItem_list_slice ht.isList hs pl pu .none (by simp) ?_ (by rw[zaa]<;>omega);rw[Qn,<-hlen];refine⟨.ref s.heap.objs.size,_,I.laid (t':=s.toks) (o:=.lst (dP xs lo hi)) (λ b ob q=>zac _ q) (zag _) ?_,rfl,q _ (I.Aw.fresh (zag _))⟩;exact⟨zbu (TX xs lo hi) hz,_,0,(r.drop (HT.O9 xs.length 0 lo)).take (HT.O9 xs.length xs.length hi-HT.O9 xs.length 0 lo),zar _ rfl⟩
abbrev K5:V->Bool
 | .AL| .bl _| .int _| .str _=>true
 |_=>false
abbrev pT:V->V->Bool
 | .AL,.AL=>true
 | .bl a,.bl b=>a==b
 | .bl a,.int b=>(if a then 1 else 0)==b
 | .int a,.bl b=>a==(if b then 1 else 0)
 | .int a,.int b| .str a,.str b=>a==b
 |_,_=>false
def sV (ry:RelV y u)(rx:RelV x v)(fy:K5 y=true)(fx:K5 x=true):SeqAt.EqAt A s u v (pT y x):=by
 cases y with
 |AL =>
  cases ry;cases x with
  |AL=>cases rx;exact SeqAt.EqAt.same _
  |bl b=>cases rx;exact SeqAt.EqAt.none_bool b
  |int b=>obtain⟨t,rfl⟩:=rx;exact SeqAt.EqAt.none_int b t
  |str b=>obtain⟨t,rfl⟩:=rx;exact SeqAt.EqAt.none_str b t
  |_=>exact absurd (show false=true from fx) zaw
 |bl a =>
  cases ry;cases x with
  |AL=>cases rx;exact SeqAt.EqAt.bool_none a
  |bl b=>cases rx;exact SeqAt.EqAt.bool_bool a b
  |int b=>obtain⟨t,rfl⟩:=rx;exact SeqAt.EqAt.bool_int a b t
  |str b=>obtain⟨t,rfl⟩:=rx;exact SeqAt.EqAt.bool_str a b t
  |_=>exact absurd (show false=true from fx) zaw
 |int a =>
  obtain⟨t',rfl⟩:=ry;cases x with
  |AL=>cases rx;exact SeqAt.EqAt.int_none a t'
  |bl b=>cases rx;exact SeqAt.EqAt.int_bool a t' b
  |int b=>obtain⟨t,rfl⟩:=rx;exact SeqAt.EqAt.int_int a t' b t
  |str b=>obtain⟨t,rfl⟩:=rx;exact SeqAt.EqAt.int_str a t' b t
  |_=>exact absurd (show false=true from fx) zaw
 |str a =>
  obtain⟨t',rfl⟩:=ry;cases x with
  |AL=>cases rx;exact SeqAt.EqAt.str_none a t'
  |bl b=>cases rx;exact SeqAt.EqAt.str_bool a t' b
  |int b=>obtain⟨t,rfl⟩:=rx;exact SeqAt.EqAt.str_int a t' b t
  |str b=>obtain⟨t,rfl⟩:=rx;exact SeqAt.EqAt.str_str a t' b t
  |_=>exact absurd (show false=true from fx) zaw
 |_=>exact absurd (show false=true from fy) zaw
abbrev W7 (x:V)(u:Value):Bool:=match u with
 | .none=>pT .AL x
 | .bool b=>pT (.bl b) x
 | .int i _=>pT (.int i) x
 | .str z _=>pT (.str z) x
 |_=>false
def dS (r:RelV y u)(f:K5 y=true):W7 x u=pT y x:=by
 cases y with
 |AL|bl b=>cases r;rfl
 |int i|str z=>obtain⟨t,rfl⟩:=r;rfl
 |_=>exact absurd (show false=true from f) zaw
def K6 {x:V}:∀ {xs:List V}{us:List Value},Vals xs us->xs.all K5=true->us.any (W7 x)=xs.any λ y=>pT y x
 |_,_,.nil,_=>rfl
 |y::xs,u::us,.cons r t,f=>by
  rw[List.all_cons,zb9] at f;rw[zd7,zd7,dS r f.1,K6 t f.2]
def Ht {A:Around}{s:Shared}{x:V}{v:Value}(rx:RelV x v)(fx:K5 x=true):∀ {xs:List V}{us:List Value},Vals xs us->xs.all K5=true->∀u∈us,SeqAt.EqAt A s u v (W7 x u)
 |_,_,.nil,_=>λ u hu=>by cases hu
 |y::xs,u::us,.cons r t,f=>λ u' hu=>by
  rw[List.all_cons,zb9] at f;rcases zab.mp hu with rfl|hu
  ·rw[dS r f.1];exact sV r rx f.1 fx
  ·exact Ht rx fx t f.2 u' hu
abbrev inV (x:V)(xs:List V):Bool:=xs.any λ y=>pT y x
abbrev rIn (K:za0)(neg:Bool):R2:=λ x y H Q=>∃p xs,y=.ref p/\(Dr K H p xs\/Fj K H p xs)/\K5 x=true/\xs.all K5=true/\Q (.bl (if neg then !inV x xs else inV x xs)) H
def YU:Gf X (compareOp .In) (rIn X.K false):=by
 intro pins s σ H x y v u Q I rx ry h;obtain⟨p,xs,rfl,hq,fx,fs,q⟩:=h;cases ry;rcases hq with hq|hq
 ·obtain⟨aa,r,pl,hz⟩:=I.list hq;refine SeqAt.in_listAt (W7 x) pl.isList (λ w hw=>Ht rx fx r fs w (by simpa using hw)) ⟨.bl _,H,I,rfl,?_⟩;rw[show aa.toArray.any (W7 x)=aa.any (W7 x) by simp,K6 r fs];exact q
 ·obtain⟨aa,r,pl,hz⟩:=I.tuple hq;refine SeqAt.in_tupleAt (W7 x) pl (λ w hw=>Ht rx fx r fs w (by simpa using hw)) ⟨.bl _,H,I,rfl,?_⟩;rw[show aa.toArray.any (W7 x)=aa.any (W7 x) by simp,K6 r fs];exact q
def S9:Gf X (compareOp .NotIn) (rIn X.K true):=by
 intro pins s σ H x y v u Q I rx ry h;obtain⟨p,xs,rfl,hq,fx,fs,q⟩:=h;cases ry;rcases hq with hq|hq
 ·obtain⟨aa,r,pl,hz⟩:=I.list hq;refine SeqAt.notIn_listAt (W7 x) pl.isList (λ w hw=>Ht rx fx r fs w (by simpa using hw)) ⟨.bl _,H,I,rfl,?_⟩;rw[show aa.toArray.any (W7 x)=aa.any (W7 x) by simp,K6 r fs];exact q
 ·obtain⟨aa,r,pl,hz⟩:=I.tuple hq;refine SeqAt.notIn_tupleAt (W7 x) pl (λ w hw=>Ht rx fx r fs w (by simpa using hw)) ⟨.bl _,H,I,rfl,?_⟩;rw[show aa.toArray.any (W7 x)=aa.any (W7 x) by simp,K6 r fs];exact q
def Sa:GS X (.builtin "len") (λ xs H Q=>∃p ys,xs=[.ref p]/\(Dr X.K H p ys\/Fj X.K H p ys)/\Q (.int ys.length) H):=by
 intro pins s σ H xs us Q I r h;obtain⟨p,ys,rfl,hq,q⟩:=h;obtain⟨u,rfl,rx⟩:=vals1 r;cases rx;have hn:=LQ;rcases hq with hq|hq
 ·obtain⟨aa,r',pl,hz⟩:=I.list hq;have hlen:=r'.length;exact Calls.call_len_list pl.isList (by simp only[zaa]<;>omega) ⟨.int ys.length,H,I.tok _,⟨s.toks+1,by rw[zaa,hlen]⟩,q⟩
 ·obtain⟨aa,r',pl,hz⟩:=I.tuple hq;have hlen:=r'.length;exact len_tuple pl (by simp only[zaa]<;>omega) ⟨.int ys.length,H,I.tok _,⟨s.toks+1,by rw[zaa,hlen]⟩,q⟩
def Sb:GS X (.type "list") (λ xs H Q=>∃p ys,xs=[.ref p]/\(Dr X.K H p ys\/Fj X.K H p ys)/\∀l,H l=none->Q (.ref l) (upd H l (.lst ys))):=by
 intro pins s σ H xs us Q I r h;obtain⟨p,ys,rfl,hq,q⟩:=h;obtain⟨u,rfl,rx⟩:=vals1 r;cases rx;have fin:∀(aa:List Value),Vals ys aa->ys.length<=sizeLine->∀(h':Heap) (c':Nat),(∀b o',s.heap.get? b=some o'->h'.get? b=some o')->
  h'.get? s.heap.objs.size=some {cls:=.type "list",dict:=none,data:=.seq aa.toArray c',slots:=#[]}->EP X pins σ Q (.ref s.heap.objs.size) {s with heap:=h' }:=λ aa r' hz h' c' kp e =>
  ⟨.ref s.heap.objs.size,_,I.laid (t':=s.toks) kp (zag _) (show Bn X.prog X.w _ h' _ (.lst ys) from ⟨hz,aa,c',r',e⟩),rfl,q _ (I.Aw.fresh (zag _))⟩
 rcases hq with hq|hq
 ·obtain⟨aa,r',pl,hz⟩:=I.list hq;have hlen:=r'.length;obtain⟨o,ho,hc,n,hd⟩:=pl.isList;exact call_list_seq p (.inl rfl) ho hc hd (λ h' c' kp e=>fin aa r' hz h' c' kp e) (by simp only[zaa]<;>omega)
 ·obtain⟨aa,r',pl,hz⟩:=I.tuple hq;have hlen:=r'.length;obtain⟨o,ho,hc,n,hd⟩:=pl;exact call_list_seq p (.inr rfl) ho hc hd (λ h' c' kp e=>fin aa r' hz h' c' kp e) (by simp only[zaa]<;>omega)
def Qo:GS X (.type "tuple") (λ xs H Q=>∃p ys,xs=[.ref p]/\((Dr X.K H p ys/\∀l,H l=none->Q (.ref l) (upd H l (.tup ys)))\/(Fj X.K H p ys/\Q (.ref p) H))):=by
 intro pins s σ H xs us Q I r h;obtain⟨p,ys,rfl,h⟩:=h;obtain⟨u,rfl,rx⟩:=vals1 r;cases rx;rcases h with ⟨hq,q⟩|⟨hq,q⟩
 ·obtain⟨aa,r',pl,hz⟩:=I.list hq;have hlen:=r'.length;refine call_tuple_list pl.isList (λ h' kp=>?_) (by simp only[zaa]<;>omega);have I1:Inv X pins σ H {s with heap:=h' }:=I.kept (t':=s.toks) kp;have I2:Inv X pins σ (upd H h'.objs.size (.tup ys)) {s with heap:=h'.push {cls:=.type "tuple",data:=.seq aa.toArray} }:=
   I1.laid (t':=s.toks) (λ b o e=>zac _ e) (zag _) (show Bn X.prog X.w _ _ _ (.tup ys) from ⟨hz,aa,r',IsTup.new _ _⟩)
  exact⟨.ref h'.objs.size,_,I2,rfl,q _ (I1.Aw.fresh (zag _))⟩
 ·obtain⟨aa,r',pl,hz⟩:=I.tuple hq;exact call_tuple_same pl ⟨.ref p,H,I,rfl,q⟩
abbrev tyV (K:za0)(T:String)(x:V)(H:Hp):Prop:=match x with
 | .str _=>T = "str"
 | .int _=>T = "int"
 | .ref p=>(T = "list" /\ ∃xs,Dr K H p xs)\/(T = "tuple" /\ ∃o,K.lookup p=some o/\o.cls=.type "tuple" /\ o.dict=none) \/
  (T = "dict" /\ ((∃kvs,H p=some (.dK kvs))\/∃kvs,H p=some (.dT kvs)))\/(T = "set" /\ ∃S n,H p=some (.set S n))
 |_=>False
def dU (I:Inv X pins σ H s)(r:RelV x v)(ty:tyV X.K T x H):
 s.TypeIs v T/\∀a,v=.ref a->∃ob,s.heap.get? a=some ob/\ob.dict=none:=by
 cases x with
 |str z =>
  obtain⟨t,rfl⟩:=r;cases (show T = "str" from ty);exact⟨typeIs_str s z t,λ _ e=>nomatch e⟩
 |int i =>
  obtain⟨t,rfl⟩:=r;cases (show T = "int" from ty);exact⟨typeIs_int s i t,λ _ e=>nomatch e⟩
 |ref p =>
  cases r;rcases ty with ⟨rfl,xs,hq⟩|⟨rfl,o,hk,hc,hd⟩|⟨rfl,hk⟩|⟨rfl,S,n,hk⟩
  ·obtain⟨aa,_,pl,_⟩:=I.list hq;refine⟨pl.isList.typeIs,λ a e=>?_⟩;cases e;obtain⟨o,n,e,c,hd,_⟩:=pl;exact⟨o,e,hd⟩
  ·refine⟨⟨o,I.Qe p o hk,hc⟩,λ a e=>?_⟩;cases e;exact⟨o,I.Qe _ o hk,hd⟩
  ·have z:∃o,s.heap.get? p=some o/\o.ExactDict:=by
    rcases hk with ⟨kvs,hk⟩|⟨kvs,hk⟩
    ·obtain⟨_,_,_,_,o,_,_,e,ex,_⟩:=I.Aw p _ hk;exact⟨o,e,ex⟩
    ·obtain⟨_,_,_,_,o,_,_,e,ex,_⟩:=I.Aw p _ hk;exact⟨o,e,ex⟩
   obtain⟨o,e,ex⟩:=z;refine⟨⟨o,e,ex.1⟩,λ a e2=>?_⟩;cases e2;exact⟨o,e,ex.2.1⟩
  ·obtain⟨o,_,_,_,e,ex,_⟩:=I.Aw p _ hk;refine⟨⟨o,e,ex.1⟩,λ a e2=>?_⟩;cases e2;exact⟨o,e,ex.2.1⟩
 |_=>exact zcs ty
abbrev aaV (K:za0)(T:String)(r:V->List V->Hp->VK->Prop)(to:TE):TE:=λ σ H Q=>to σ H λ x H1=>tyV K T x H1/\r x [] H1 Q
abbrev tBM (K:za0)(T:String)(r:V->List V->Hp->VK->Prop)(to:TE)(t:TA):TE:=λ σ H Q=>to σ H λ x H1=>tyV K T x H1/\t σ H1 λ xs H2=>r x xs H2 Q
variable {o e:Expr}{es:List Expr}{to:TE}{t:TA}{name:Str}{apos ad:Pos}{T id:String}{r:V->List V->Hp->VK->Prop}
def dW (pa:PlainAttrs T)(slot:Slot T name id)(pw:typeOf (.builtin id)=pure (.type "method_descriptor"))(hm:MtR X id r)(ho:PE X o to)(ak: ~~~(attributeBase o name X.env (eval o X.env)=eval o X.env))(al: ~~~((apos.endLine==ad.line)=true)):PE X (.Call (.Attribute o name apos) [] [] ad) (aaV X.K T r to):=by
 intro pins s σ H Q I h;refine wpAny_Call_method0_late ak al (Bi (ho pins s σ H _ I h) λ v s1 zz=>?_);obtain⟨x,H1,I1,r1,ty,q1⟩:=zz;obtain⟨h1,h2⟩:=dU I1 r1 ty;exact⟨T,id,pa,slot,pw,h1,h2,Calls.callWith_builtin rfl (PySem.evalArgs_none (hm pins s1 σ H1 x [] v [] Q I1 r1 .nil q1))⟩
def TZ (pa:PlainAttrs T)(slot:Slot T name id)(pw:typeOf (.builtin id)=pure (.type "method_descriptor"))(hm:MtR X id r)(ho:PE X o to)(ha:PA X (e::es) t)(ak: ~~~(attributeBase o name X.env (eval o X.env)=eval o X.env))(aJ: ~~~(((backTo ad (starEach (e::es) X.env)).all (λ x => !x.1)&&(backToKw ad (keywordEach [] X.env)).all (λ x=>x.1.isSome)
  && decide ((e::es).length+([]:List Keyword).length+(if ([]:List Keyword).isEmpty then 0 else 1)<30))=true))(al: ~~~((apos.endLine==ad.line)=true))(hs: ~~~(starEach (e::es) X.env=(false,eval e X.env)::starEach es X.env))(ao: ~~~((backTo ad (starEach es X.env)).any (·.1)=false)):
 PE X (.Call (.Attribute o name apos) (e::es) [] ad) (tBM X.K T r to t):=by
 intro pins s σ H Q I h;refine wpAny_Call_method_late ak aJ al rfl (Bi (ho pins s σ H _ I h) λ v s1 zz=>?_);obtain⟨x,H1,I1,r1,ty,q1⟩:=zz;obtain⟨h1,h2⟩:=dU I1 r1 ty;refine⟨T,id,pa,slot,pw,h1,h2,?_⟩;have hA:=ha ad pins s1 σ H1 _ I1 q1;rw[hs] at hA ⊢;refine Calls.callWith_builtin (by show (false||(backTo ad (starEach es X.env)).any (·.1))=false;rw[ao]<;>rfl) (Calls.evalArgs_plain ?_);exact Bi hA λ us s2 ⟨vs,H2,I2,r2,q2⟩=>hm pins s2 σ H2 x vs v us Q I2 r1 r2 q2
end
abbrev vV (X:Cx)(id:String)(r:V->List V->Hp->VK->Prop):Prop:=
 ∀(pins:List (Addr×Obj)) (s:Shared) (σ:St) (H:Hp) (x:V) (xs:List V) (v:Value) (us:List Value) (Q:VK),Inv X pins σ H s->RelV x v->Vals xs us->r x xs H Q->
  wpAny (model X.prog X.w) X.A (call (.builtin id) (v::us)) (EP X pins σ Q) X.xe s
def Vals.one (h:Vals [x] us):∃u,us=[u]/\RelV x u:=by
 cases h with
 |cons r q=>cases q;exact⟨_,rfl,r⟩
def Vals.two (h:Vals [x,y] us):∃u v,us=[u,v]/\RelV x u/\RelV y v:=by
 cases h with
 |cons r q=>obtain⟨u,rfl,h⟩:=Vals.one q;exact⟨_,_,rfl,r,h⟩
def Vals.zero:∀ {us:List Value},Vals [] us->us=[]
 |_,.nil=>rfl
def Vals.dropLast (h:Vals xs us):Vals xs.dropLast us.dropLast:=by
 induction h with
 |nil=>exact .nil
 |cons r t ih =>
  cases t with
  |nil=>exact .nil
  |cons q t'=>exact .cons r ih
def Vals.eraseIdx:∀ {xs:List V}{us:List Value}(i:Nat),Vals xs us->Vals (xs.eraseIdx i) (us.eraseIdx i)
 |_,_,_,.nil=>.nil
 |_,_,0,.cons _ t=>t
 |_,_,i+1,.cons r t=>.cons r (Vals.eraseIdx i t)
def Vals.rep (h:Vals xs us):∀k:Nat,Vals (zae k xs).flatten (zae k us).flatten
 |0=>.nil
 |k+1=>by
  rw[zcc,zcc,List.flatten_cons,List.flatten_cons];exact Vals.append h (Vals.rep h k)
def W8 {α:Type}(l:List α):l.eraseIdx (l.length-1)=l.dropLast:=by
 induction l with
 |nil=>rfl
 |cons a r ih =>
  cases r with
  |nil=>rfl
  |cons b r =>
   have e:(a::b::r).length-1=((b::r).length-1)+1:=by
    have h1:(a::b::r).length=r.length+2:=rfl;have h2:(b::r).length=r.length+1:=rfl;omega
   rw[e,List.eraseIdx_cons_succ,ih];all_goals rfl
def foldl_rep (aa:List Value):∀(k:Nat) (acc:List Value),
 List.foldl (λ x1 x2=>x1++x2) acc.toArray (zae k aa.toArray)=(acc++(zae k aa).flatten).toArray
 |0,acc=>by simp
 |k+1,acc=>by
  have e:acc.toArray++aa.toArray=(acc++aa).toArray:=by simp
  have e2:(acc++aa)++(zae k aa).flatten=acc++(zae (k+1) aa).flatten:=by
   rw[zcc,List.flatten_cons,zbg]
  rw[<-e2,<-foldl_rep aa k (acc++aa),<-e,zcc,zav]
section
variable {X:Cx}{pins:List (Addr×Obj)}{σ:St}{H:Hp}{s:Shared}{l b:Addr}{xs ys zs:List V}
def Inv.YV {aa:List Value}(I:Inv X pins σ H s)(hH:H l=some (.lst xs))(e:s.heap.get? l=some {cls:=.type "list",data:=.seq aa.toArray n})(hf:f aa.toArray=its'.toArray)(hv:Vals ys its')(hz:ys.length<=sizeLine):
 Inv X pins σ (upd H l (.lst ys)) {s with heap:=s.heap.update l (Obj.mapSeq f),toks:=t' }:=by
 have q:=PySem.IsL.update e f;rw[hf] at q;refine I.write (x:=l) (e:=l) (by rw[hH];exact trivial) (.inl rfl) (λ b' u hb hu=>(Heap.get?_update_other s.heap (Obj.mapSeq f) (zbi hb)).trans hu) ⟨_,q⟩ ?_;exact⟨hz,its',_,hv,q⟩
def Inv.xR (I:Inv X pins σ H s)(hv:Vals ys aa)(hz:ys.length<=sizeLine):
 Inv X pins σ (upd H s.heap.objs.size (.lst ys)) {s with heap:=s.heap.push {cls:=.type "list",data:=.seq aa.toArray},toks:=t' }:=
 I.laid (λ _ _ q=>zac _ q) (zag _) ⟨hz,aa,0,hv,zar _ rfl⟩
def Inv.fresh (I:Inv X pins σ H s):H s.heap.objs.size=none:=I.Aw.fresh (zag _)
def Inv.U0 (I:Inv X pins σ H s)(hH:H l=some (.lst xs)):xs.length<=sizeLine/\∃(aa:List Value) (n:Nat),Vals xs aa/\xs.length=aa.length/\s.heap.get? l=some {cls:=.type "list",data:=.seq aa.toArray n}:=by
 obtain⟨z,aa,n,r,e⟩:=I.Aw l _ hH;exact⟨z,aa,n,r,r.length,e⟩
def U1 (h:n<=sizeLine):zd5 n=false:=by
 unfold zd5;exact decide_eq_false (by omega)
end
section
variable {X:Cx}
abbrev kZ:V->List V->Hp->VK->Prop:=λ x vs H Q=>∃l xs y,x=.ref l/\vs=[y]/\H l=some (.lst xs)/\xs.length<sizeLine/\Q .AL (upd H l (.lst (xs++[y])))
def QU:vV X "list.append" kZ:=by
 intro pins s σ H x vs v us Q I rx rv h;obtain⟨l,xs,y,rfl,rfl,hH,hz,q⟩:=h;cases rx;obtain⟨u,rfl,ru⟩:=rv.one;obtain⟨z,aa,n,r,hl,e⟩:=I.U0 hH;refine call_meets F.slot_list_append ⟨_,e,rfl⟩ F.entry_list_append (F.args_list_append_2 _ _) (PySem.list_append l aa.toArray n u (by rw[zaa];omega)) ⟨e,?_⟩;refine⟨.AL,_,I.YV (its':=aa++[u]) hH e (by simp) (r.append (.cons ru .nil)) ?_,rfl,q⟩;rw[zal,zba];omega
abbrev lA:V->List V->Hp->VK->Prop:=λ x vs H Q=>∃l b xs zs,x=.ref l/\vs=[.ref b]/\H l=some (.lst xs)/\H b=some (.lst zs)/\xs.length+zs.length<=sizeLine/\Q .AL (upd H l (.lst (xs++zs)))
def YW:vV X "list.extend" lA:=by
 intro pins s σ H x vs v us Q I rx rv h;obtain⟨l,b,xs,zs,rfl,rfl,hH,hB,hz,q⟩:=h;cases rx;obtain⟨u,rfl,ru⟩:=rv.one;cases ru;obtain⟨z,aa,n,r,hl,e⟩:=I.U0 hH;obtain⟨z2,aN,n2,r2,ar,e2⟩:=I.U0 hB;have hsz:aa.toArray.size+aN.toArray.size<=sizeLine:=by rw[zaa,zaa];omega
 have cg:¬ (!aa.toArray.isEmpty&&zd5 (aa.toArray.size+aN.toArray.size))=true:=by
  rw[U1 hsz,Bool.and_false];exact zaw
 refine call_meets F.slot_list_extend ⟨_,e,rfl⟩ F.entry_list_extend (F.args_list_extend_2 _ _)
  (AutoSeq1.list_extend_list_list_0 l aa.toArray n b aN.toArray n2 cg (by rw[zaa];omega) (by omega)) ⟨e,e2,?_⟩
 refine⟨.AL,_,I.YV (its':=aa++aN) hH e (by simp) (r.append r2) ?_,rfl,q⟩;rw[zal];omega
abbrev aaW:V->List V->Hp->VK->Prop:=λ x vs H Q=>∃l xs y,x=.ref l/\vs=[]/\H l=some (.lst xs)/\xs[xs.length-1]?=some y/\Q y (upd H l (.lst xs.dropLast))
def sW:vV X "list.pop" aaW:=by
 intro pins s σ H x vs v us Q I rx rv h;obtain⟨l,xs,y,rfl,rfl,hH,hy,q⟩:=h;cases rx;have pz:=rv.zero;subst pz;obtain⟨z,aa,n,r,hl,e⟩:=I.U0 hH;obtain⟨u,hu,ru⟩:=r.get hy;have mt:aa.toArray[aa.toArray.size-1]?=some u:=by
  show aa.toArray[aa.length-1]?=some u;rw[<-Array.getElem?_toList,<-hl];exact hu
 refine call_meets F.slot_list_pop ⟨_,e,rfl⟩ F.entry_list_pop (F.args_list_pop_1 _) (MeetsSeq.list_pop_last l aa.toArray n u mt (by rw[zaa];omega)) ⟨e,?_⟩;refine⟨y,_,I.YV (its':=aa.dropLast) hH e ?_ r.dropLast ?_,ru,q⟩
 ·show aa.toArray.eraseIdxIfInBounds (aa.toArray.size-1)=aa.dropLast.toArray;rw[zaa,List.eraseIdxIfInBounds_toArray,W8]
 ·rw[List.length_dropLast];omega
abbrev sX:V->List V->Hp->VK->Prop:=λ x vs H Q=>∃l xs,x=.ref l/\vs=[]/\H l=some (.lst xs)/\Q .AL (upd H l (.lst []))
def dX:vV X "list.clear" sX:=by
 intro pins s σ H x vs v us Q I rx rv h;obtain⟨l,xs,rfl,rfl,hH,q⟩:=h;cases rx;have pz:=rv.zero;subst pz;obtain⟨z,aa,n,r,hl,e⟩:=I.U0 hH;refine call_meets F.slot_list_clear ⟨_,e,rfl⟩ F.entry_list_clear (F.args_list_clear_1 _) (AutoSeq1.list_clear_list_0 l aa.toArray n (by rw[zaa];omega)) ⟨e,?_⟩;exact⟨.AL,_,I.YV (its':=[]) (ys:=[]) hH e rfl .nil (zbb _),rfl,q⟩
abbrev aaX:R2:=λ x y H Q=>∃l k xs,x=.ref l/\y=.int k/\H l=some (.lst xs)/\-(2^63)<=k/\k<2^63/\xs.length*k.toNat<=sizeLine/\
 ∀p,H p=none->Q (.ref p) (upd H p (.lst (zae k.toNat xs).flatten))
def len_rep {α:Type}(xs:List α)(k:Nat):(zae k xs).flatten.length=k*xs.length:=by
 induction k with
 |zero=>simp
 |succ k ih=>rw[zcc,List.flatten_cons,zal,ih,Nat.succ_mul,Nat.add_comm]
def sY:Gf X (binaryOp .Mult) aaX:=by
 intro pins s σ H x y v u Q I rx ry h;obtain⟨l,k,xs,rfl,rfl,hH,h1,h2,hz,q⟩:=h;cases rx;obtain⟨t,rfl⟩:=ry;obtain⟨z,aa,n,r,hl,e⟩:=I.U0 hH;have hlen:aa.toArray.size*k.toNat<=sizeLine:=by rw[zaa,<-hl];exact hz
 have p6:¬ aa.toArray.size*k.toNat > (2^63-1) / 8:=by
  have:(sizeLine:Nat)<=(2^63-1) / 8:=by decide
  omega
 have gi:¬ (!Builtin.List.listFitsIndex k)=true:=by
  rw[fitsIndex_both h1 h2];exact zaw
 have cg:¬ zd5 (aa.toArray.size*k.toNat)=true:=by
  rw[U1 hlen];exact zaw
 have aV:List.foldl (λ x1 x2=>x1++x2) #[] (zae (if aa.toArray.isEmpty=true then 0 else k.toNat) aa.toArray)=(zae k.toNat aa).flatten.toArray:=by
  have f0:∀m:Nat,List.foldl (λ x1 x2=>x1++x2) #[] (zae m aa.toArray)=(zae m aa).flatten.toArray:=λ m=>by
   have:=foldl_rep aa m [];rw[List.nil_append] at this;exact this
  rw[f0];cases aa with
  |nil=>simp
  |cons a r'=>rw[if_neg (by simp)]
 refine wpAny_binaryOp_repeat_ref (T := "list") (U := "int") (by decide) ⟨_,e,rfl⟩ (λ s'=>typeIs_int s' k t) noFill_list_mul F.fills_int_mul F.slot_int_rmul repeat_list F.slot_int_index.lookup
  (call_meets F.slot_int_rmul (typeIs_int s k t) F.entry_int_rmul (F.args_int_rmul_2 _ _) (int___rmul___int_list k t l aa.toArray n)
   ⟨e,rfl,⟨_,e,rfl⟩,call_meets F.slot_list_mul ⟨_,e,rfl⟩ F.entry_list_mul (F.args_list_mul_2 _ _) (AutoListH.list___mul___list_int_3 l aa.toArray n k t gi p6 cg) ⟨e,?_⟩⟩)
 rw[aV];exact⟨.ref _,_,I.xR (t':=s.toks) (r.rep k.toNat) (by rw[len_rep,Nat.mul_comm];exact hz),rfl,q _ I.fresh⟩
end
end L2
namespace u4
open PySem PySem.W PySem.Calls PyProof.Rows
def N4:∀(ns:List Int) (vs:List Value),WellAll P h vs (ns.map WData.int)->IntsAre vs ns:=by
 intro ns;induction ns with
 |nil =>
  intro vs w;rw[zcy] at w;cases w;exact .nil
 |cons n ns ih =>
  intro vs w;rw[za5] at w;cases w with
  |cons a b =>
   cases a;exact .cons _ _ (ih _ b)
def YX {l:OpenLaw}(hn:l.most=some n)(dk:l.row.toRowW.claim.pre args=true)(mw:WellAll P h vals args):
 ∃a vs ns,vals=[zbo a]/\args=[WData.list (ns.map WData.int)]/\h.get? a=some {cls:=.type "list",data:=.seq vs.toArray}/\IntsAre vs ns/\ns.length<=n:=by
 have w4:WShape.hasAll [] args [.list .int]=true:=(pre_splitW dk).1;have hc:l.pre.holds [] {args:=args}=true:=(pre_splitW dk).2;obtain⟨d,r,rfl,h1,h2⟩:=hasAllW_cons w4;obtain rfl:=hasAllW_nil h2;obtain⟨xs,rfl,h3⟩:=hasW_list h1;obtain⟨ns,rfl⟩:=items_int h3;have hlen:ns.length<=n:=by
  unfold OpenLaw.pre at hc;have h4:(WTm.not (.lt (.lit (.int (n:Int))) (.len (.arg 0)))).holds [] {args:=[.list (ns.map .int)]}=true:=by
   have h4:=(holds_andW hc).1;rw[hn] at h4;exact h4
  have h5:=condW_of h4 (w_not (w_lt w_lit (w_len_list (w_arg rfl))));rw[za2] at h5;refine Nat.le_of_not_lt λ q=>?_;have q':(n:Int)<((ns.length:Nat):Int):=by omega
  first
   |(rw[decide_eq_true q'] at h5;exact absurd h5 (by decide))
   |(simp at h5;omega)
 cases mw with
 |cons w1 w2 =>
  cases w2;cases w1 with
  |list ho aK=>exact⟨_,_,ns,rfl,rfl,ho,N4 ns _ aK,hlen⟩
def YY (l:OpenLaw)(args:List WData):l.row.toRowW.claim.post args (.bool true) args=true:=
 postW_of (r:=l.row.toRowW) (X:=(true==true))
  (show WShape.has [] (.bool true) .bool=true by first|rfl|decide|simp[WShape.has,WShape.arms,WShape.armsAll])
  (show (WTm.eq .res (.lit (.bool true))).value [] {args:=args,res:=some (.bool true),after:=args}=some (.bool (true==true)) from w_eq_bool (w_res rfl) w_lit) rfl
end u4
namespace L2
open PySem PySem.Spec PyProof.Rows
def QV:∀ {vs:List Value}{ns:List Int},IntsAre vs ns->Vals (ns.map V.int) vs
 |_,_,.nil=>.nil
 |_,_,.cons n t h=>.cons ⟨t,rfl⟩ (QV h)
variable {w:World}{mg:Str->Option Value}{base:Heap}{X:Cx}{H:Hp}{pins:List (Addr×Obj)}{σ:St}{s:Shared}{A:Around}{E:Value->Shared->Prop}{e tg iter:Expr}{pos:Pos}{td ty:TE}{scope:Scope}{NB:List Str}{μ:List (Option Nat)}{fp:List Addr}{WX:Str->Hp->Prop}
abbrev lB (H:Hp):Prop:=∀b,H b=none\/∃o xs,H b=some (.GQ o (.lst xs))
def U2 {K}(KX:K.In s₁.heap)(jl:s₁.heap.Ns mainGlobals mg)(hb:s₁.heap.Ns builtinsNs mb)(w5:∀x:Str,x ≠ "__name__" -> mb x=bootBuiltins x)(p7:s₁.heap.NoLimit)(hg:s₁.gens=#[])(ha:s₁.heap.get? a=some {cls:=.type "list",data:=.seq vs.toArray})(hi:IntsAre vs ns)(hl:ns.length<=sizeLine)(hr:C4 k callerA)(F:∀base:Heap,K.In base->base.Ns mainGlobals mg->Ea P w K mg base CX k fa fd [x] sp)(jm:∀(s:Shared) (u:Value),BindsTo s fd ⟨[u],[]⟩ [(x,u)])(bE:∀H:Hp,lB H->Dr K H a (ns.map V.int)->sp [.ref a] H (λ v _=>v=.bl true) λ _ _ _=>False)(jn:∀H e s',CX [] H s₁ (λ _ _ _=>False) e s'->False):
 codeAny (model P w) callerA (.call (.ref fa) ⟨[.ref a],[]⟩) (λ r s'=>r=.ok (.ret (.bool true))/\OldK s₁.heap s'.heap/\s'.os=s₁.os/\AllBare s'.gens) s₁:=by
 have rv:=QV hi;have p8:=hi.length;have core:∀H:Hp,lB H->Dr K H a (ns.map V.int)->GR P w H s₁.heap->(∀b,H b≠none->b=a)->(H a≠none->K.lookup a=none)->
  codeAny (model P w) callerA (.call (.ref fa) ⟨[.ref a],[]⟩) (λ r s'=>r=.ok (.ret (.bool true))/\OldK s₁.heap s'.heap/\s'.os=s₁.os/\AllBare s'.gens) s₁:=by
  intro H hO hS Aw hA hK;have bB:∀ {b:Addr} {o:Obj},s₁.heap.get? b=some o->H b=none->(S1 s₁.heap H).get? b=some o:=λ e n=>cL e n;have jh:∀ {b:Addr} {o:Obj} {es:Array DictEntry} {ep:Nat},s₁.heap.get? b=some o->o.data=.dict es ep->H b=none:=fun {b o es ep} e d=>by
   cases q:H b with
   |none=>rfl
   |some u =>
    have e':b=a:=hA b (by rw[q];simp);subst e';rw[ha] at e;cases e;have d':Data.seq vs.toArray _=Data.dict es ep:=d;cases d'
  have mx:∀ {b:Addr} {m:Str->Option Value},s₁.heap.Ns b m->(S1 s₁.heap H).Ns b m:=fun {b m} ⟨o,es,ep,e,d,r⟩=>⟨o,es,ep,bB e (jh e d),d,r⟩;have u5:K.In (S1 s₁.heap H):=λ b o e=>bB (KX b o e) (by
   cases q:H b with
   |none=>rfl
   |some u =>
    have e':b=a:=hA b (by rw[q];simp);subst e';rw[hK (by rw[q];simp)] at e;cases e)
  have hM:Mod K mg (S1 s₁.heap H):=⟨u5,mx jl,⟨mb,mx hb,w5⟩,let ⟨mc,h1,h2⟩:=p7;⟨mc,mx h1,h2⟩⟩;have e0:W4 P w K mg (S1 s₁.heap H) callerA [] s₁ H:=⟨rfl,hM,λ b o e=>kD e,Nat.le_of_eq (YK _ _),trivial,λ b hb=>absurd (show b∈([]:List Addr) from hb) (by simp),Aw,.of_eq hg⟩;refine codeAny_mono ((F _ u5 (mx jl)).run callerA [] s₁ H ⟨[.ref a],[]⟩ [.ref a] [.ref a] _ _ hr e0 (jm s₁ (.ref a)) (.cons rfl .nil) (bE H hO hS)) λ r s' h=>?_;cases r with
  |error e=>exact (jn H e s' h).elim
  |ok fl =>
   cases fl with
   |next|brk|cont=>exact zcs h
   |ret u =>
    obtain⟨v,H',os,bare,un,gj,r',q⟩:=h;have q':v=.bl true:=q;subst q';obtain rfl:u=Value.bool true:=r';refine⟨rfl,OldK.of_keep λ b o e=>?_,os,bare⟩;cases q:H b with
    |none=>exact un.keep b o e q (by intro z;exact absurd (show b∈([]:List Addr) from z) (by simp)) (by simp)
    |some u =>
     rcases hO b with z|⟨ob,xs,z⟩
     ·rw[q] at z;cases z
     ·have z2:=un.N2 b ob _ z;obtain⟨e1,_⟩:=Aw b _ z;obtain⟨e2,_⟩:=gj b _ z2;rw[e] at e1;cases e1;exact e2
 cases hk:K.lookup a with
 |some o =>
  have e:=KX a o hk;rw[ha] at e;cases e;refine core (λ _=>none) (λ _=>.inl rfl) (.inr ⟨_,vs.toArray,_,hk,rfl,rfl,rfl,by rw[zaa,p8];exact hl,by simpa using rv⟩) (λ b u z=>by have z':(none:Option HO)=some u:=z;cases z') (λ b z=>absurd rfl z) λ z=>absurd rfl z
 |none =>
  refine core (λ b=>if b=a then some (.GQ {cls:=.type "list",data:=.seq vs.toArray} (.lst (ns.map V.int))) else none) (λ b=>?_) (.inl (.inr ⟨{cls:=.type "list",data:=.seq vs.toArray},if_pos rfl⟩)) (λ b u z=>?_) (λ b z=>?_) λ _=>hk
  ·by_cases hb:b=a
   ·exact .inr ⟨_,_,if_pos hb⟩
   ·exact .inl (if_neg hb)
  ·by_cases hb:b=a
   ·have z':=(if_pos hb).symm.trans z;cases z';subst hb;exact⟨ha,by rw[za2];exact hl,vs,_,rv,ha⟩
   ·have z':=(if_neg hb).symm.trans z;cases z'
  ·by_cases hb:b=a
   ·exact hb
   ·exact absurd (if_neg hb) z
noncomputable abbrev lC:Xp:=λ _ _ _ _ _ _=>False
noncomputable abbrev E0:XK:=λ _ _ _=>False
structure cH (K:za0)(x qual:Str)(st:Stmt)(f:Addr)(fd:FuncData):Prop where
 ex:∃(oc:Value) (od:Option Addr) (kV doc pm:Value) (an:Option Addr) (B6 ct:Value) (VH:Array (Option Value)),
  fd=zbl x qual (BE st) (AW st) (A6 st) .none kV doc pm an B6 ct/\K.lookup f=some ⟨oc,od,.func fd,VH⟩/\zca K B6 qual=true
 kp:zbn K (.ref f)=true
section
variable {P:Program}{K:za0}
def cH.ok {st}(F:cH K x qual st f fd)(S:Aj N ps (A6 st))(len:∀vs H Q E,sp vs H Q E->vs.length=ps.length)(cf:∀(B6:Value) (A:Around) (outer:List Env) (s:Shared) (H:Hp) (vs:List V) (Q:VK) (E:XK),C4 k (A.deeper (envOfC qual (A6 st) s.heap.objs.size f B6))->sp vs H Q E->
  ∃t,Xm (TR lC P w K mg base N qual (A6 st) f B6 A outer s H E).wX (AW st) t/\t {nx:=λ _ H'=>Q .AL H',rt:=Q} (start N vs) H):Ea P w K mg base lC (k+1) f fd ps sp:=by
 obtain⟨oc,od,kV,doc,pm,an,B6,ct,VH,rfl,lk,bc⟩:=F.ex;refine Xs lk bc S len λ A outer s H vs Q E hr bE=>?_;obtain⟨t,h,q⟩:=cf B6 A outer s H vs Q E hr bE;exact⟨t,h.wX,q⟩
def cH.binds {st}(F:cH K x qual st f fd)(h:∀(kV doc pm:Value) (an:Option Addr) (B6 ct:Value) (us:List Value),us.length=ps.length->bindArgs (zbl x qual (BE st) (AW st) (A6 st) .none kV doc pm an B6 ct) ⟨us,[]⟩=pure (ps.zip us)):Binds K fd ps []:=by
 obtain⟨oc,od,kV,doc,pm,an,B6,ct,VH,rfl,lk,bc⟩:=F.ex;exact .all (h kV doc pm an B6 ct)
def W9 {st}{kV}(l:K.lookup f=some ⟨oc,od,.func (zbl x qual (BE st) (AW st) (A6 st) .none kV doc pm an B6 ct),VH⟩)(c:zca K B6 qual=true)(k:zbn K (.ref f)=true):cH K x qual st f (zbl x qual (BE st) (AW st) (A6 st) .none kV doc pm an B6 ct):=⟨⟨oc,od,kV,doc,pm,an,B6,ct,VH,rfl,l,c⟩,k⟩
end
def AA (h:n<=1000):n<sizeLine:=Nat.lt_of_le_of_lt h (by decide)
def pv (i:Nat)(hN: ~~~(X.N[i]?=some x))(hv:Vis X.env.scope x:=by first | exact zax rfl | exact Or.inr (zax rfl) | exact Or.inr (Or.inr rfl))(hd:(x==("__debug__" : Str))=false:=by decide)(bc:(x==("__classdict__" : Str))=false:=by decide):PE X (.Name x pos) (O3 i):=rN hN hv hd bc
abbrev Ah (H H':Hp):Prop:=∀b o,H b=some o->H' b=some o
def Ah.refl (H:Hp):Ah H H:=λ _ _ h=>h
def Ah.trans (a:Ah H H1)(b:Ah H1 H2):Ah H H2:=λ c o h=>b c o (a c o h)
def Ah.seq {K}(e:Ah H H')(h:Dr K H a xs):Dr K H' a xs:=by
 rcases h with (h|⟨o,h⟩)|h
 ·exact .inl (.inl (e _ _ h))
 ·exact .inl (.inr ⟨o,e _ _ h⟩)
 ·exact .inr h
section
variable {κ:Type} [DecidableEq κ]
abbrev Qp (kvs:List (κ×V))(k:κ):Option V:=(kvs.find? λ kv=>decide (kv.1=k)).map (·.2)
abbrev putK (kvs:List (κ×V))(k:κ)(v:V):List (κ×V):=
 if (kvs.any λ kv=>decide (kv.1=k))=true then kvs.map (λ kv=>if kv.1=k then (kv.1,v) else kv) else kvs++[(k,v)]
def Oa {p:κ×V}{r:List (κ×V)}{k:κ}(e:p.1=k):Qp (p::r) k=some p.2:=by simp[Qp,zd1,e]
def Ob {p:κ×V}{r:List (κ×V)}{k:κ}(e:¬ p.1=k):Qp (p::r) k=Qp r k:=by simp[Qp,zd1,e]
def U3 (k:κ):∀kvs:List (κ×V),(kvs.any λ kv=>decide (kv.1=k))=(Qp kvs k).isSome
 |[]=>rfl
 |p::r=>by
  rw[zd7];by_cases e:p.1=k
  ·simp only[Oa e,decide_eq_true e,Bool.true_or,Option.isSome_some]
  ·rw[Ob e,decide_eq_false e,Bool.false_or];exact U3 k r
def DU (kvs:List (κ×V))(k:κ)(v:V):(putK kvs k v).length<=kvs.length+1:=by
 unfold putK;split
 ·rw[za2];omega
 ·rw[zal,za8,List.length_nil];omega
def Hj.FR (r:Hj o u):o.isSome=u.isSome:=by
 cases o with
 |none=>cases u with
  |none=>rfl
  |some _=>exact (show False from r).elim
 |some _=>cases u with
  |none=>exact (show False from r).elim
  |some _=>rfl
def Hj.getD (r:Hj o u)(rd:RelV d d'):RelV (o.getD d) (u.getD d'):=by
 cases o with
 |none=>cases u with
  |none=>exact rd
  |some _=>exact (show False from r).elim
 |some _=>cases u with
  |none=>exact (show False from r).elim
  |some _=>exact r
def KV.val {kvs:List (κ×V)}{vs:List (κ×Value)}(r:KV kvs vs)(k:κ):Hj (Qp kvs k) (valueAt vs k):=by
 unfold KV at r;induction r with
 |nil=>exact zcv
 | @cons p q ps qs h t ih =>
  obtain⟨h1,h2⟩:=h;by_cases e:p.1=k
  ·have e':q.1=k:=h1.symm.trans e;have b:valueAt (q::qs) k=some q.2:=by simp[valueAt,zd1,e']
   rw[Oa e,b];exact h2
  ·have e':¬ q.1=k:=λ z=>e (h1.trans z);have b:valueAt (q::qs) k=valueAt qs k:=by simp[valueAt,zd1,e']
   rw[Ob e,b];exact ih
def KV.any {kvs:List (κ×V)}{vs:List (κ×Value)}(r:KV kvs vs)(k:κ):(kvs.any λ kv=>decide (kv.1=k))=vs.any λ kv=>decide (kv.1=k):=by
 unfold KV at r;induction r with
 |nil=>rfl
 |cons h t ih=>rw[zd7,zd7,ih,h.1]
def KV.sZ {kvs:List (κ×V)}{vs:List (κ×Value)}(r:KV kvs vs)(k:κ){y:V}{u:Value}(ry:RelV y u):
 KV (kvs.map λ kv=>if kv.1=k then (kv.1,y) else kv) (vs.map λ kv=>if kv.1=k then (kv.1,u) else kv):=by
 unfold KV at r ⊢;induction r with
 |nil=>exact .nil
 | @cons p q ps qs h t ih =>
  rw[za5,za5];refine .cons ?_ ih;obtain⟨h1,h2⟩:=h;by_cases e:p.1=k
  ·rw[if_pos e,if_pos (h1.symm.trans e)];exact⟨h1,ry⟩
  ·rw[if_neg e,if_neg (λ z=>e (h1.trans z))];exact⟨h1,h2⟩
def KV.put {kvs:List (κ×V)}{vs:List (κ×Value)}(r:KV kvs vs)(k:κ){y:V}{u:Value}(ry:RelV y u):KV (putK kvs k y) (stored vs k u):=by
 unfold putK stored;rw[r.any k];by_cases e:(vs.any λ kv=>decide (kv.1=k))=true
 ·rw[if_pos e,if_pos e];exact r.sZ k ry
 ·rw[if_neg e,if_neg e];exact Paired.snoc r ⟨rfl,ry⟩
def KV.length {kvs:List (κ×V)}{vs:List (κ×Value)}(r:KV kvs vs):kvs.length=vs.length:=zcx r
end
def Mt (r:RelV (kV k) u):(AR P w).is k u=true:=by
 cases k with
 |inl i=>obtain⟨t,e⟩:=(show ∃t,u=Value.int i t from r);subst e;exact TC P w i t
 |inr x=>obtain⟨t,e⟩:=(show ∃t,u=Value.str x t from r);subst e;exact TF P w x t
def QW:∀ {ks:List Key}{us:List Value},Vals (ks.map kV) us->ItemsAre (AR P w) ks us
 |[],_,r=>by rw[zcy] at r;cases r;exact .nil
 |k::ks,_,r=>by
  rw[za5] at r;cases r with
  |cons h t=>exact .cons (Mt h) (QW t)
noncomputable abbrev KT (H:Hp):List (List Key×V)->List (List Key×Addr×Value)->Prop:=Paired λ p q=>p.1=q.1/\H q.2.1=some (.tup (p.1.map kV))/\RelV p.2 q.2.2
def KT.val (r:KT H kvs xs)(k:List Key):Hj (Qp kvs k) ((atKey xs k).map (·.2)):=by
 induction r with
 |nil=>exact zcv
 | @cons p q ps qs h t ih =>
  obtain⟨h1,_,h2⟩:=h;by_cases e:p.1=k
  ·have e':q.1=k:=h1.symm.trans e;have b:atKey (q::qs) k=some q.2:=by simp[atKey,zd1,e']
   rw[Oa e,b];exact h2
  ·have e':¬ q.1=k:=λ z=>e (h1.trans z);have b:atKey (q::qs) k=atKey qs k:=by simp[atKey,zd1,e']
   rw[Ob e,b];exact ih
def KT.sZ (r:KT H kvs xs)(k:List Key)(ry:RelV y u):
 KT H (kvs.map λ kv=>if kv.1=k then (kv.1,y) else kv) (xs.map (putAt k u)):=by
 induction r with
 |nil=>exact .nil
 | @cons p q ps qs h t ih =>
  rw[za5,za5];refine .cons ?_ ih;obtain⟨h1,h2,h3⟩:=h;unfold putAt;by_cases e:p.1=k
  ·rw[if_pos e,if_pos (h1.symm.trans e)];exact⟨h1,h2,ry⟩
  ·rw[if_neg e,if_neg (λ z=>e (h1.trans z))];exact⟨h1,h2,h3⟩
def KT.put (r:KT H kvs xs)(k:List Key)(hb:H b=some (.tup (k.map kV)))(ry:RelV y u):
 KT H (putK kvs k y) (storedH xs k b u):=by
 have e:(kvs.any λ kv=>decide (kv.1=k))=(atKey xs k).isSome:=by
  rw[U3,(r.val k).FR,Option.isSome_map]
 unfold putK storedH;rw[e];by_cases q:(atKey xs k).isSome=true
 ·rw[if_pos q,if_pos q];exact r.sZ k ry
 ·rw[if_neg q,if_neg q];exact Paired.snoc r ⟨rfl,hb,ry⟩
def KT.keeps (r:KT H kvs xs)(ht:∀b ys,H b=some (.tup ys)->H' b=some (.tup ys)):KT H' kvs xs:=
 Paired.rK r λ _ _ z=>⟨z.1,ht _ _ z.2.1,z.2.2⟩
section
variable {P:Program}{h:Heap}{a:Addr}
def pU (ok:GR P w H h)(e:Rd H a u):Bn P w H h a u:=e.ok ok
def K7 (ok:GR P w H h)(e:Rd H a (.dK kvs)):kvs.length<=sizeLine/\(a==sysModules)=false/\∃vs,KV kvs vs/\h.DictOf (AR P w) a vs:=
 show Bn P w H h a (.dK kvs) from pU ok e
def pV (ok:GR P w H h)(e:H a=some (.dK kvs)):kvs.length<=sizeLine/\(a==sysModules)=false/\∃vs,KV kvs vs/\h.DictOf (AR P w) a vs:=K7 ok (.inl e)
def JB (ok:GR P w H h)(e:H a=some (.tup (ks.map kV))):(tupleKind (AR P w)).is h ks a:=by
 obtain⟨_,aa,r,o,h1,h2,n,h3⟩:=(show Bn P w H h a (.tup (ks.map kV)) from ok a _ e);exact⟨o,aa.toArray,n,h1,h2,h3,by simpa using QW r⟩
def Oc (ok:GR P w H h)(e:Rd H a (.dT kvs)):kvs.length<=sizeLine/\(a==sysModules)=false/\
 ∃xs,KT H kvs xs/\h.DictOfH (tupleKind (AR P w)) a xs:=by
 obtain⟨z,y,xs,r,o,es,ep,h1,h2,h3,h4,h5⟩:=(show Bn P w H h a (.dT kvs) from pU ok e);refine⟨z,y,xs,r,o,es,ep,h1,h2,h3,h4,λ x hx=>?_,h5⟩;have all:∀ {l:List (List Key×V)} {m:List (List Key×Addr×Value)},KT H l m->∀x∈m,(tupleKind (AR P w)).is h x.1 x.2.1:=by
  intro l m q;induction q with
  |nil=>intro x hx;exact nomatch hx
  | @cons p q ps qs hq t ih =>
   intro x hx;rcases zab.mp hx with e|hx
   ·subst e;exact JB ok (by rw[<-hq.1];exact hq.2.1)
   ·exact ih x hx
 exact all r x hx
def xS (ok:GR P w H h)(e:H a=some (.dT kvs)):kvs.length<=sizeLine/\(a==sysModules)=false/\
 ∃xs,KT H kvs xs/\h.DictOfH (tupleKind (AR P w)) a xs:=Oc ok (.inl e)
end
abbrev Sd (H:Hp)(a:Addr)(y:V)(r:Option V):Prop:=
 (∃kvs k,Rd H a (.dK kvs)/\y=kV k/\r=Qp kvs k)\/∃kvs k b,Rd H a (.dT kvs)/\y=.ref b/\H b=some (.tup (k.map kV))/\r=Qp kvs k
abbrev xT (H:Hp)(a:Addr)(y v:V)(H':Hp):Prop:=
 (∃kvs k,H a=some (.dK kvs)/\y=kV k/\kvs.length<sizeLine/\H'=upd H a (.dK (putK kvs k v))) \/
 ∃kvs k b,H a=some (.dT kvs)/\y=.ref b/\H b=some (.tup (k.map kV))/\kvs.length<sizeLine/\H'=upd H a (.dT (putK kvs k v))
section
variable {a:Addr}{y v:V}{u r:Value}{o:Option V}
def Inv.big (I:Inv X pins σ H s):sysModules<s.heap.objs.size:=by
 have h:mainGlobals<s.heap.objs.size:=(I.mod.glob.keeps I.bk).lt;exact Nat.lt_trans (by decide) h
def YZ (hu:A.units+1<cLine)(I:Inv X pins σ H s)(g:Sd H a y (some v))(ry:RelV y u)(h:∀w' s',Inv X pins σ H s'->RelV v w'->Q w' s'):
 wpAny (model X.prog X.w) A (getItem (.ref a) u) Q E s:=by
 rcases g with ⟨kvs,k,e,ey,l⟩|⟨kvs,k,b,e,ey,eb,l⟩
 ·subst ey;obtain⟨z,hd,vs,rel,dd⟩:=K7 I.Aw e;obtain⟨w',hw,bh⟩:=Hj.some_of (v:=v) (o:=valueAt vs k) (by rw[l];exact rel.val k);exact wpAny_getItem_of (Mt ry) dd.mapOf hw (h w' _ (I.tok _) bh)
 ·subst ey;cases (show u=zbo b from ry);obtain⟨z,hd,xs,rel,dd⟩:=Oc I.Aw e;obtain⟨w',hw,bh⟩:=Hj.some_of (v:=v) (o:=(atKey xs k).map (·.2)) (by rw[l];exact rel.val k);obtain⟨p,hp,w6⟩:=zcl.mp hw;refine wpAny_getItem_heap (tupleKind_room_in1 hu) (JB I.Aw eb) dd hp ?_;rw[w6];exact h w' _ (I.tok _) bh
def aaY (hu:A.units+1<cLine)(I:Inv X pins σ H s)(g:Sd H a y o)(ry:RelV y u)(h:∀s',Inv X pins σ H s'->Q (.bool o.isSome) s'):
 wpAny (model X.prog X.w) A (compareOp .In u (.ref a)) Q E s:=by
 rcases g with ⟨kvs,k,e,ey,l⟩|⟨kvs,k,b,e,ey,eb,l⟩
 ·subst ey;obtain⟨z,hd,vs,rel,dd⟩:=K7 I.Aw e;refine wpAny_in_of (Mt ry) hd dd.mapOf ?_;rw[<-(rel.val k).FR,<-l];exact h _ (I.tok _)
 ·subst ey;cases (show u=zbo b from ry);obtain⟨z,hd,xs,rel,dd⟩:=Oc I.Aw e;refine wpAny_in_heap (tupleKind_room_in1 hu) (JB I.Aw eb) hd dd ?_;have q:=(rel.val k).FR;rw[Option.isSome_map] at q;rw[<-q,<-l];exact h _ (I.tok _)
def lD (hu:A.units+1<cLine)(I:Inv X pins σ H s)(g:Sd H a y o)(ry:RelV y u)(h:∀s',Inv X pins σ H s'->Q (.bool (!o.isSome)) s'):
 wpAny (model X.prog X.w) A (compareOp .NotIn u (.ref a)) Q E s:=by
 rcases g with ⟨kvs,k,e,ey,l⟩|⟨kvs,k,b,e,ey,eb,l⟩
 ·subst ey;obtain⟨z,hd,vs,rel,dd⟩:=K7 I.Aw e;refine wpAny_notIn_of (Mt ry) hd dd.mapOf ?_;rw[<-(rel.val k).FR,<-l];exact h _ (I.tok _)
 ·subst ey;cases (show u=zbo b from ry);obtain⟨z,hd,xs,rel,dd⟩:=Oc I.Aw e;refine wpAny_notIn_heap (tupleKind_room_in1 hu) (JB I.Aw eb) hd dd ?_;have q:=(rel.val k).FR;rw[Option.isSome_map] at q;rw[<-q,<-l];exact h _ (I.tok _)
def Se (I:Inv X pins σ H s)(mu:wM (H a))(hs:Heap.SameBut a s.heap h')(he:∃q,h'.get? a=some q)(new:Bn X.prog X.w (upd H a ob) h' a ob):
 Inv X pins σ (upd H a ob) {s with heap:=h',toks:=t' }:=
 I.write (x:=a) (e:=a) mu (.inl rfl) (λ b q hb z=>(hs.2 b hb).trans z) he new
def dY (z:kvs.length<=sizeLine)(hd:(a==sysModules)=false)(rel:KV kvs vs)(dd:h'.DictOf (AR P w) a vs):
 Bn P w H' h' a (.dK kvs):=⟨z,hd,vs,rel,dd⟩
def Z0 (hu:A.units+1<cLine)(I:Inv X pins σ H s)(g:xT H a y v H')(ry:RelV y u)(rv:RelV v r)(h:∀s',Inv X pins σ H' s'->Q () s'):
 wpAny (model X.prog X.w) A (setItem (.ref a) u r) Q E s:=by
 rcases g with ⟨kvs,k,e,ey,l,eH⟩|⟨kvs,k,b,e,ey,eb,l,eH⟩
 ·subst ey eH;obtain⟨z,hd,vs,rel,dd⟩:=pV I.Aw e;have hz:vs.length<=sizeLine:=by rw[<-rel.length];exact z
  have hl:(putK kvs k v).length<=sizeLine:=by have:=DU kvs k v;omega
  refine wpAny_setItem_pairs (hsz:=hz) (Mt ry) dd λ h' gl hs=>h _ ?_;have he:∃q,h'.get? a=some q:=let ⟨q,_,_,hq,_⟩:=gl;⟨q,hq⟩;exact Se I (by rw[e];exact zcv) hs he (dY hl hd (rel.put k rv) gl)
 ·subst ey eH;cases (show u=zbo b from ry);obtain⟨z,hd,xs,rel,dd⟩:=xS I.Aw e;have hz:xs.length<=sizeLine:=by rw[<-zcx rel];exact z
  have hl:(putK kvs k v).length<=sizeLine:=by have:=DU kvs k v;omega
  refine wpAny_setItem_heap (hsz:=hz) (tupleKind_room_in1 hu) (JB I.Aw eb) dd λ h' gl hs=>h _ ?_;obtain⟨q,es,ep,hq,h2,h3,h4,_,h5⟩:=gl;refine Se I (by rw[e];exact zcv) hs ⟨q,hq⟩ ⟨hl,hd,_,(rel.put k eb rv).keeps λ c ys ec=>?_,q,es,ep,hq,h2,h3,h4,h5⟩;rw[Ag (wL ec e (λ z=>nomatch z))];exact ec
end
def U4 (I:Inv X pins σ H s)(g:Sd H a y o):s.TypeIs (.ref a) "dict" := by
 rcases g with ⟨kvs,k,e,_,_⟩|⟨kvs,k,b,e,_,_,_⟩
 ·obtain⟨_,_,vs,_,dd⟩:=K7 I.Aw e;exact dd.typeIs
 ·obtain⟨_,_,xs,_,dd⟩:=Oc I.Aw e;exact dd.typeIs
abbrev xU (td ty tv:TE):TS:=λ D σ H=>tv σ H λ v H1=>td σ H1 λ x H2=>ty σ H2 λ y H3=>∃a H4,x=.ref a/\xT H3 a y v H4/\D.nx σ H4
section
variable {o i value:Expr}{pos' aT:Pos}{tv:TE}
def lE (hu:X.A.units+1<cLine)(ho:PE X o td)(hi:PE X i ty)(hv:PE X value tv)(hs:swapsWith value (some (.Subscript o i pos')) pos.line X.env=pure false):
 PS X (.Assign [.Subscript o i pos'] value pos) (xU td ty tv):=by
 intro pins s σ H D I h;refine wpAny_Assign_Subscript (Bi (hv pins s σ H _ I h) λ r s1 ⟨v,H1,I1,rv,q1⟩=>Bi (ho pins s1 σ H1 _ I1 q1) λ u s2 ⟨x,H2,I2,rx,q2⟩=>Bi (hi pins s2 σ H2 _ I2 q2) λ iv s3 zz=>?_) hs;obtain⟨y,H3,I3,ry,a,H4,ex,g,q3⟩:=zz;subst ex;obtain rfl:u=zbo a:=rx;exact Z0 hu I3 g ry rv λ s4 I4=>⟨σ,H4,I4,q3⟩
end
def U5 (h:Heap)(hb:sysModules<h.objs.size):Bn P w H (h.push {cls:=.type "dict",data:=.dict #[]}) h.objs.size (.dK []):=
 ⟨zbb _,beq_eq_false_iff_ne.mpr (zbi (zat hb)),[],.nil,Heap.DictOf.new h⟩
def dZ (h:Heap)(hb:sysModules<h.objs.size):Bn P w H (h.push {cls:=.type "dict",data:=.dict #[]}) h.objs.size (.dT []):=
 ⟨zbb _,beq_eq_false_iff_ne.mpr (zbi (zat hb)),[],.nil,_,#[],0,zar _ rfl,⟨rfl,rfl,rfl⟩,rfl,rfl,zby⟩
abbrev tD:TE:=λ _ H Q=>∀p,H p=none->Q (.ref p) (upd H p (.dK []))
abbrev tE:TE:=λ _ H Q=>∀p,H p=none->Q (.ref p) (upd H p (.dT []))
def eA:PE X (.Dict [] [] pos) tD:=λ pins s σ H Q I h =>
 wpAny_Dict_empty ⟨.ref s.heap.objs.size,_,I.laid (a:=s.heap.objs.size) (o:=.dK []) (t':=s.toks) (λ _ _ q=>zac _ q) (zag _) (U5 s.heap I.big),rfl,h _ (I.Aw.fresh (zag _))⟩
def eB:PE X (.Dict [] [] pos) tE:=λ pins s σ H Q I h =>
 wpAny_Dict_empty ⟨.ref s.heap.objs.size,_,I.laid (a:=s.heap.objs.size) (o:=.dT []) (t':=s.toks) (λ _ _ q=>zac _ q) (zag _) (dZ s.heap I.big),rfl,h _ (I.Aw.fresh (zag _))⟩
abbrev Wa:List (TE×TE)->St->Hp->(List (V×V)->Hp->Prop)->Prop
 |[],_,H,Q=>Q [] H
 |(tk,tv)::r,σ,H,Q=>tk σ H λ x H1=>tv σ H1 λ y H2=>Wa r σ H2 λ ps H3=>Q ((x,y)::ps) H3
noncomputable abbrev VV:List (V×V)->List (Value×Value)->Prop:=Paired λ p q=>RelV p.1 q.1/\RelV p.2 q.2
abbrev PPs (X:Cx)(pos:Pos)(keys:List (Option Expr))(values:List Expr)(dm:List (TE×TE)):Prop:=
 ∀(pins:List (Addr×Obj)) (s:Shared) (σ:St) (H:Hp) (Q:List (V×V)->Hp->Prop),Inv X pins σ H s->Wa dm σ H Q->
  wpAny (model X.prog X.w) X.A (evalPairs (pairTrees keys values X.env pos)) (λ vs s'=>∃ps H',Inv X pins σ H' s'/\VV ps vs/\Q ps H') X.xe s
def lF:PPs X pos [] [] []:=λ pins s σ H Q I h=>pairTrees_nil_walk ⟨[],H,I,.nil,h⟩
def eC (hk:PE X k tk)(hv:PE X v tv)(hr:PPs X pos ks vs dm):
 PPs X pos (some k::ks) (v::vs) ((tk,tv)::dm):=λ pins s σ H Q I h =>
 pairTrees_cons_walk (Bi (hk pins s σ H _ I h) λ u s1 ⟨x,H1,I1,rx,q1⟩=>Bi (hv pins s1 σ H1 _ I1 q1) λ w2 s2 ⟨y,H2,I2,ry,q2⟩ =>
  Bi (hr pins s2 σ H2 _ I2 q2) λ ws s3 ⟨ps,H3,I3,rel,q3⟩=>⟨(x,y)::ps,H3,I3,.cons ⟨rx,ry⟩ rel,q3⟩)
abbrev Hu (kvs more:List (Key×V)):List (Key×V):=more.foldl (λ acc kv=>putK acc kv.1 kv.2) kvs
def KV.merge:∀ {more:List (Key×V)}{rs:List (Key×Value)}{kvs:List (Key×V)}{vs:List (Key×Value)},KV more rs->KV kvs vs->KV (Hu kvs more) (merged vs rs):=by
 intro more rs kvs vs r;unfold KV at r;induction r generalizing kvs vs with
 |nil=>intro q;exact q
 | @cons p q ps qs h t ih =>
  intro r0;have e:KV (putK kvs p.1 p.2) (stored vs q.1 q.2):=by
   have:=r0.put p.1 h.2;rw[<-h.1];exact this
  exact ih e
def Jb:∀(more kvs:List (Key×V)),(Hu kvs more).length<=kvs.length+more.length
 |[],kvs=>by show kvs.length<=kvs.length+0;omega
 |p::r,kvs=>by
  have h1:=Jb r (putK kvs p.1 p.2);have h2:=DU kvs p.1 p.2;show (Hu (putK kvs p.1 p.2) r).length<=_;rw[za8];omega
def Od {P:Program}{w:World}:∀ {kvs:List (Key×V)}{ws:List (Value×Value)},VV (kvs.map λ kv=>(kV kv.1,kv.2)) ws->∃rs,Carries (AR P w) ws rs/\KV kvs rs
 |[],_,r=>by rw[zcy] at r;cases r;exact⟨[],zcv,.nil⟩
 |p::kvs,_,r=>by
  rw[za5] at r;cases r with
  | @cons a b as bs h t =>
   obtain⟨rs,c,q⟩:=Od (P:=P) (w:=w) t;obtain⟨b1,b2⟩:=b;exact⟨(p.1,b2)::rs,⟨Mt h.1,rfl,c⟩,.cons ⟨rfl,h.2⟩ q⟩
abbrev xV (dm:List (TE×TE)):TE:=λ σ H Q=>∀p,H p=none->Wa dm σ (upd H p (.dK [])) λ ps H2=>H2 p=some (.dK [])/\∃kvs:List (Key×V),ps=kvs.map (λ kv=>(kV kv.1,kv.2))/\kvs.length<=15/\Q (.ref p) (upd H2 p (.dK (Hu [] kvs)))
def lG (h:PPs X pos keys values dm)(aK:keys.all (·.isSome)=true)(hl:keys.length=values.length)(h0:keys≠[])(w9:keys.length<=15):PE X (.Dict keys values pos) (xV dm):=by
 intro pins s σ H Q I q;have hn:=I.Aw.fresh (zag s.heap.objs.size);have I1:=I.laid (a:=s.heap.objs.size) (o:=.dK []) (h':=s.heap.push {cls:=.type "dict",data:=.dict #[]}) (t':=s.toks) (λ _ _ q=>zac _ q) (zag _) (U5 s.heap I.big);refine wpAny_Dict_walk (knd:=AR X.prog X.w) aK hl h0 w9 (Bi (h pins _ σ _ _ I1 (q _ hn)) λ ws s2 zz=>?_);obtain⟨ps,H2,I2,rel,e,kvs,ep,lk,q2⟩:=zz;subst ep;obtain⟨rs,c,rk⟩:=Od (P:=X.prog) (w:=X.w) rel;obtain⟨z,hd,u6,r0,dd⟩:=pV I2.Aw e;cases r0;refine⟨rs,c,dd,λ h' gl hs=>⟨.ref s.heap.objs.size,_,?_,rfl,q2⟩⟩;have hz:(Hu [] kvs).length<=sizeLine:=by
  have h1:=Jb kvs [];rw[List.length_nil] at h1;rw[sizeLine_eq];omega
 have he:∃q,h'.get? s.heap.objs.size=some q:=let ⟨q,_,_,hq,_⟩:=gl;⟨q,hq⟩;exact Se I2 (by rw[e];exact zcv) hs he (dY hz hd (rk.merge .nil) gl)
structure M1 (X:Cx)(o:Expr)(m:Str)(apos:Pos)(e:Expr)(ad:Pos):Prop where
 base:attributeBase o m X.env (eval o X.env)=eval o X.env
 few:((backTo ad (starEach [e] X.env)).all (λ x => !x.1)&&(backToKw ad (keywordEach [] X.env)).all (λ x=>x.1.isSome)
  && decide (([e]:List Expr).length+([]:List Keyword).length+(if ([]:List Keyword).isEmpty then 0 else 1)<30))=true
 line:(apos.endLine==ad.line)=true
 xW:backTo ad (starEach [e] X.env)=[(false,eval e X.env)]
abbrev IsD (H:Hp)(a:Addr):Prop:=(∃kvs,Rd H a (.dK kvs))\/∃kvs,Rd H a (.dT kvs)
def Wb (I:Inv X pins σ H s)(d:IsD H a):
 s.TypeIs (.ref a) "dict" /\ (∀b,zbo a=.ref b->∃ob,s.heap.get? b=some ob/\ob.dict=none)/\(a==sysModules)=false:=by
 rcases d with ⟨kvs,e⟩|⟨kvs,e⟩
 ·obtain⟨_,hd,vs,_,dd⟩:=K7 I.Aw e;refine⟨dd.typeIs,λ b q=>?_,hd⟩;cases q;obtain⟨ob,_,_,h1,h2,_⟩:=dd;exact⟨ob,h1,h2.2.1⟩
 ·obtain⟨_,hd,xs,_,dd⟩:=Oc I.Aw e;refine⟨dd.typeIs,λ b q=>?_,hd⟩;cases q;obtain⟨ob,_,_,h1,h2,_⟩:=dd;exact⟨ob,h1,h2.2.1⟩
section
variable {a:Addr}{y d:V}{u r:Value}{o:Option V}
def tF (hu:A.units+1<cLine)(I:Inv X pins σ H s)(g:Sd H a y o)(ry:RelV y u)(h:∀w' s',Inv X pins σ H s'->RelV (o.getD .AL) w'->Q w' s'):
 wpAny (model X.prog X.w) A (call (.builtin "dict.get") [.ref a,u]) Q E s:=by
 rcases g with ⟨kvs,k,e,ey,l⟩|⟨kvs,k,b,e,ey,eb,l⟩
 ·subst ey;obtain⟨z,hd,vs,rel,dd⟩:=K7 I.Aw e;refine call_meetsIn PySem.F.slot_dict_get dd.typeIs PySem.F.entry_dict_get (PySem.F.args_dict_get_2 _ _) (meets_dict_get (AR X.prog X.w) a (Mt ry) hd) ⟨_,dd.mapOf,h _ _ (I.tok _) ?_⟩;rw[l];exact (rel.val k).getD rfl
 ·subst ey;cases (show u=zbo b from ry);obtain⟨z,hd,xs,rel,dd⟩:=Oc I.Aw e;refine call_meetsIn PySem.F.slot_dict_get dd.typeIs PySem.F.entry_dict_get (PySem.F.args_dict_get_2 _ _) (meetsH_dict_get (tupleKind (AR X.prog X.w)) a b hd) ⟨tupleKind_room_in1 hu,k,xs,JB I.Aw eb,dd,h _ _ (I.tok _) ?_⟩;rw[l];exact (rel.val k).getD rfl
end
abbrev tG (td ty:TE):TE:=λ σ H Q=>td σ H λ x H1=>∃a,x=.ref a/\IsD H1 a/\ty σ H1 λ y H2=>∃o,Sd H2 a y o/\Q (o.getD .AL) H2
section
variable {o f:Expr}{apos ad:Pos}{tx:TE}
def eE (hu:X.A.units+1<cLine)(ho:PE X o td)(he:PE X e ty)(m:M1 X o "get" apos e ad):PE X (.Call (.Attribute o "get" apos) [e] [] ad) (tG td ty):=by
 intro pins s σ H Q I h;refine wpAny_Call_method m.base m.few m.line PySem.F.plainAttrs_dict PySem.F.slot_dict_get PySem.F.type_dict_get (Bi (ho pins s σ H _ I h) λ u s1 zz=>?_);obtain⟨x,H1,I1,rx,a,ex,d,q1⟩:=zz;subst ex;obtain rfl:u=zbo a:=rx;obtain⟨t1,t2,_⟩:=Wb I1 d;refine⟨t1,t2,?_⟩;rw[m.xW];refine Calls.callWith_builtin rfl (Calls.evalArgs_plain (zc5 (Bi (he pins s1 σ H1 _ I1 q1) λ iv s2 ⟨y,H2,I2,ry,ov,g,q2⟩=>zcb ?_)));exact tF hu I2 g ry λ w' s3 I3 bh=>⟨_,H2,I3,bh,q2⟩
end
abbrev Xw (y:Str×NameKind):Bool:=y.2==.cell
abbrev Gi (sc outer:Scope):Bool:=
 decide (sc.kind=.function)&&(decide ((sc.names.filter Xw).length<=1)&&sc.names.all λ y=>(decide (y.2≠.cell)||decide (sc.names.lookup y.1=some .cell))&&(decide (y.2≠.free)||decide (outer.names.lookup y.1=some .cell)||decide (outer.names.lookup y.1=some .free))&&(decide (y.2≠.local)||decide (sc.names.lookup y.1=some .local)))
abbrev Hv (names:List (Str×NameKind)):Option Str:=(names.find? Xw).map (·.1)
abbrev Xx (C:Addr)(names:List (Str×NameKind))(cs:List (Str×Addr)):List (Str×Addr):=match Hv names with
 |some x=>(x,C+1)::cs
 |none=>cs
def U6 (h:Hv names=some x):(x,.cell)∈names:=by
 unfold Hv at h;obtain⟨y,h1,rfl⟩:=zcl.mp h;have h2:=List.find?_some h1;have e:y.2=.cell:=by unfold Xw at h2;simpa using h2
 have:=List.mem_of_find?_eq_some h1;rw[<-e];exact this
def tH (h:(names.filter Xw).length<=1)(hx:(x,.cell)∈names):Hv names=some x:=by
 induction names with
 |nil=>cases hx
 |cons y r ih =>
  unfold Hv;cases e:Xw y with
  |true =>
   rw[List.filter_cons_of_pos e,za8] at h;rw[List.find?_cons_of_pos e];rcases zab.mp hx with rfl|hx
   ·rfl
   ·have:(x,NameKind.cell)∈r.filter Xw:=zb2.mpr ⟨hx,rfl⟩;rw[List.eq_nil_of_length_eq_zero (l:=r.filter Xw) (by omega)] at this;cases this
  |false =>
   rw[List.filter_cons_of_neg (by rw[e];exact zaw)] at h;rw[List.find?_cons_of_neg (by rw[e];exact zaw)];rcases zab.mp hx with rfl|hx
   ·cases e
   ·exact ih h hx
def Wc:∀ {names:List (Str×NameKind)}{n:Nat}{acc:List (Str×Addr)},(names.filter Xw).length<=1->cellsFrom n names acc=match Hv names with | some x=>(x,n)::acc | none=>acc
 |[],_,_,_=>rfl
 |(x,k)::r,n,acc,h=>by
  unfold cellsFrom Hv;cases e:Xw (x,k) with
  |true =>
   rw[List.filter_cons_of_pos e,za8] at h;rw[List.find?_cons_of_pos e,if_pos (show (k==NameKind.cell)=true from e),Wc (by omega)];cases q:Hv r with
   |none=>rfl
   |some y =>
    have:(y,NameKind.cell)∈r.filter Xw:=zb2.mpr ⟨U6 q,rfl⟩;rw[List.eq_nil_of_length_eq_zero (l:=r.filter Xw) (by omega)] at this;cases this
  |false =>
   have e':¬ Xw (x,k)=true:=by rw[e];exact zaw
   rw[List.filter_cons_of_neg e'] at h;rw[List.find?_cons_of_neg e',if_neg (show ¬ (k==NameKind.cell)=true from e'),Wc h];rfl
abbrev Oe (N NB:List Str)(sc:Scope)(μ:List (Option Nat)):Bool:=
 decide (NB.length=μ.length)&&(NB.zip μ).all λ p=>match p.2 with
  |none=>true
  |some i=>decide (N[i]?=some p.1)&&decide (sc.names.lookup p.1=some .free)
abbrev FA (μ:List (Option Nat))(σ:St):St:=μ.map λ o=>o.bind λ i=>(σ[i]?).join
abbrev Gj (cells:List (Str×Addr)):List (Str×NameKind)->List (Str×Addr)->List (Str×Addr)
 |[],cs=>cs
 |(n,k)::r,cs=>Gj cells r (if (k==.free)=true then (n,(cells.lookup n).getD 0)::cs else cs)
def Jc (h:∀y∈scope.names,y.2=.free->∃c,env.cells.lookup y.1=some c):closureFor scope env=pure (Gj env.cells scope.names []):=by
 unfold closureFor;have key:∀(names:List (Str×NameKind)) (cs:List (Str×Addr)),(∀y∈names,y.2=.free->∃c,env.cells.lookup y.1=some c)->
  (forIn names cs λ(x:Str×NameKind) r=>match x with
   |(name,kind)=>if (kind==zcw)=true then do
    let __do_lift <-cellOf env name
    pure (zdg ((name,__do_lift)::r))
    else pure (zdg r):Sem _)=pure (Gj env.cells names cs):=by
  intro names;induction names with
  |nil=>intro cs _;rfl
  |cons y r ih =>
   intro cs hy;obtain⟨n,k⟩:=y;rw[List.forIn_cons];by_cases hk:k=.free
   ·subst hk;obtain⟨c,hc⟩:=hy (n,.free) za3 rfl;have e:cellOf env n=pure c:=by unfold cellOf;rw[show env.cells.lookup n=some c from hc]
    simp only[e,beq_self_eq_true,if_true,pure_bind];rw[ih _ λ z hz=>hy z (za4 _ hz)];simp only[Gj,beq_self_eq_true,if_true];rw[show env.cells.lookup n=some c from hc];rfl
   ·have hb:(k==zcw)=false:=by simpa using hk
    simp only[hb,zb0,if_false,pure_bind];rw[ih _ λ z hz=>hy z (za4 _ hz)];simp only[Gj,hb,zb0,if_false]
 have q:=key scope.names [] h;simp only[bind_pure];exact q
def U7:∀ {names:List (Str×NameKind)}{cs:List (Str×Addr)}{x:Str}{c:Addr},(x,c)∈Gj cells names cs->(x,c)∈cs\/((x,.free)∈names/\c=(cells.lookup x).getD 0)
 |[],cs,x,c,h=>.inl h
 |(n,k)::r,cs,x,c,h=>by
  rcases U7 (names:=r) h with q|⟨q,e⟩
  ·by_cases hk:k=.free
   ·subst hk;simp only[beq_self_eq_true,if_true] at q;rcases zab.mp q with z|z
    ·cases z;exact .inr ⟨za3,rfl⟩
    ·exact .inl z
   ·have hb:(k==zcw)=false:=by simpa using hk
    simp only[hb,zb0,if_false] at q;exact .inl q
  ·exact .inr ⟨za4 _ q,e⟩
def Of:∀ {names:List (Str×NameKind)}{cs:List (Str×Addr)}{p:Str×Addr},p∈cs->p∈Gj cells names cs
 |[],_,_,h=>h
 |(n,k)::r,cs,p,h=>by
  show p∈Gj cells r _;refine Of ?_;by_cases hk:(k==zcw)=true
  ·rw[if_pos hk];exact za4 _ h
  ·rw[if_neg hk];exact h
def Og:∀ {names:List (Str×NameKind)}{cs:List (Str×Addr)}{x:Str},(x,.free)∈names->∃c,(x,c)∈Gj cells names cs
 |(n,k)::r,cs,x,h=>by
  rcases zab.mp h with z|z
  ·cases z;refine⟨(cells.lookup n).getD 0,?_⟩;show _∈Gj cells r (if (zcw==zcw)=true then _ else _);exact Of (by rw[if_pos (beq_self_eq_true _)];exact za3)
  ·exact Og (names:=r) z
def DL:∀ {l:List (Str×Addr)},(x,c)∈l->∃c',l.lookup x=some c'
 |(y,d)::r,h=>by
  rw[zc8];by_cases e:(x==y)=true
  ·rw[e];exact⟨d,rfl⟩
  ·rw[Bool.eq_false_iff.mpr e];rcases zab.mp h with z|z
   ·cases z;exact absurd (beq_self_eq_true x) e
   ·exact DL z
def K8 (h:(relabel scope env).names.lookup x=some k):∃k',scope.names.lookup x=some k'/\(k=k'\/(k'=.free/\k=.cell)):=by
 unfold relabel at h;dsimp only at h;revert h;induction scope.names with
 |nil=>intro h;cases h
 |cons y r ih =>
  obtain⟨n,k'⟩:=y;intro h;rw[za5,zc8] at h;rw[zc8];by_cases hc:(k'==zcw&&env.scope.kind==.function&&env.kindOf n==some .cell)=true
  ·dsimp only at h;rw[if_pos hc] at h;dsimp only at h;cases e:x==n with
   |true =>
    rw[e] at h;have hf:k'=.free:=by
     have:=hc;simp only[zb9] at this;simpa using this.1.1
    exact⟨k',rfl,.inr ⟨hf,(zas h).symm⟩⟩
   |false=>rw[e] at h;exact ih h
  ·dsimp only at h;rw[if_neg hc] at h;dsimp only at h;cases e:x==n with
   |true=>rw[e] at h;exact⟨k',rfl,.inl (zas h).symm⟩
   |false=>rw[e] at h;exact ih h
def lookup_mem {α:Type}{k}:∀ {l:List (Str×α)},l.lookup x=some k->(x,k)∈l
 |(y,d)::r,h=>by
  rw[zc8] at h;cases e:x==y with
  |true =>
   rw[e] at h;cases h;have:x=y:=by simpa using e
   subst this;exact za3
  |false=>rw[e] at h;exact za4 _ (lookup_mem h)
abbrev blockOf (X:Cx)(s:Shared)(H:Hp)(scope:Scope)(C:Addr)(NB:List Str)(ex:List Addr):Cx:=
 {X with N:=NB,s₀:=s,H₀:=H,env:=compEnvC scope (Xx C scope.names (Gj X.env.cells scope.names [])) C X.env,outer:=X.stack,stack:=X.stack,ex:=ex,fn:=λ y=>Hv scope.names==some y,pn:=[],xe:=λ _ _=>False}
section
variable {s4:Shared}{C:Addr}
def LU (h:Gi scope X.env.scope=true):scope.kind=.function:=by
 unfold Gi at h;simp only[zb9,decide_eq_true_eq] at h;exact h.1
def U8 (h:Gi sc outer=true):(sc.names.filter Xw).length<=1:=by
 unfold Gi at h;rw[zb9,zb9,decide_eq_true_eq,decide_eq_true_eq] at h;exact h.2.1
def K9 (h:Gi sc outer=true)(hy:y∈sc.names):(y.2=.cell->sc.names.lookup y.1=some .cell)/\(y.2=.free->outer.names.lookup y.1=some .cell\/outer.names.lookup y.1=some .free)/\(y.2=.local->sc.names.lookup y.1=some .local):=by
 unfold Gi at h;simp only[zb9,decide_eq_true_eq,zdf,Bool.or_eq_true] at h;obtain⟨⟨h1,h2⟩,h3⟩:=h.2.2 y hy;exact⟨λ e=>h1.elim (λ q=>absurd e q) id,λ e=>by
  rcases h2 with (q|q)|q
  ·exact absurd e q
  ·exact .inl q
  ·exact .inr q,λ e=>h3.elim (λ q=>absurd e q) id⟩
def JC (I:Inv X pins σ H s)(h:Gi scope X.env.scope=true)(hx:(x,.free)∈scope.names):∃c,X.env.cells.lookup x=some c:=I.ok.has x ((K9 h hx).2.1 rfl)
def Oh (I:Inv X pins σ H s)(h:Gi scope X.env.scope=true)(e:(Gj X.env.cells scope.names []).lookup x=some c):X.env.cells.lookup x=some c:=by
 rcases U7 (lookup_mem e) with q|⟨q,r⟩
 ·cases q
 ·obtain⟨c',e'⟩:=JC I h q;rw[e'] at r;rw[e',r];rfl
def Ds (I:Inv X pins σ H s)(h:Gi scope X.env.scope=true)(e:(Xx C scope.names (Gj X.env.cells scope.names [])).lookup x=some c):(Hv scope.names=some x/\c=C+1)\/X.env.cells.lookup x=some c:=by
 unfold Xx at e;cases q:Hv scope.names with
 |none=>rw[q] at e;exact .inr (Oh I h e)
 |some y =>
  rw[q] at e;dsimp only at e;rw[zc8] at e;cases b:x==y with
  |true=>rw[b] at e;cases e;exact .inl ⟨by rw[eq_of_beq b],rfl⟩
  |false=>rw[b] at e;exact .inr (Oh I h e)
def Oi (h:Gi scope env.scope=true)(hk:(relabel scope env).names.lookup x=some k)(hc:k=.cell\/k=.free):(x,.free)∈scope.names\/Hv scope.names=some x:=by
 obtain⟨k',e,q⟩:=K8 hk;have m:=lookup_mem e;rcases q with q|⟨q,_⟩
 ·subst q;rcases hc with z|z
  ·subst z;exact .inr (tH (U8 h) m)
  ·subst z;exact .inl m
 ·subst q;exact .inl m
def lH (h:Oe X.N NB scope μ=true):NB.length=μ.length/\∀(j i:Nat),μ[j]?=some (some i)->∃x,NB[j]?=some x/\X.N[i]?=some x/\scope.names.lookup x=some .free:=by
 unfold Oe at h;simp only[zb9,decide_eq_true_eq,zdf] at h;refine⟨h.1,λ j i e=>?_⟩;have hj:j<NB.length:=by rw[h.1];exact (zah.mp e).1
 have m:(NB[j],some i)∈NB.zip μ:=by
  refine List.mem_iff_getElem?.mpr ⟨j,?_⟩;rw[List.getElem?_zip_eq_some];exact⟨za6 hj,e⟩
 have q:=h.2 _ m;dsimp only at q;simp only[zb9,decide_eq_true_eq] at q;exact⟨NB[j],za6 hj,q.1,q.2⟩
def U9 (I:Inv X pins σ H s)(az:Gi scope X.env.scope=true)(aW:Oe X.N NB scope μ=true)(i5:∀b∈fp,N3 X pins H b)(my:∀b∈fp,∃o,s.heap.get? b=some o)(hC:s.heap.objs.size<=C)(ns:h4.Ns C λ _=>none)(k:∀b o,s.heap.get? b=some o->h4.get? b=some o)(jo:∀x,Hv scope.names=some x->h4.IsCell (C+1) none):
 Inv (blockOf X s H scope C NB fp) [] (FA μ σ) H {s with heap:=h4,toks:=t4}:=by
 obtain⟨hlen,aW⟩:=lH aW;have u7:∀b o,s.heap.get? b=some o->b≠C:=λ b o e=>zat (zap (zaj e) hC);have u8:∀x c,X.env.cells.lookup x=some c->c≠C+1:=λ x c e z=>by
  obtain⟨v,o,ho,_⟩:=I.cell x c e;exact absurd (zap (zaj ho) hC) (by rw[z];exact Nat.not_lt.mpr (Nat.le_succ C))
 have mz:∀x c,X.env.cells.lookup x=some c->c≠C:=λ x c e=>by
  obtain⟨v,o,ho,_⟩:=I.cell x c e;exact u7 c o ho
 refine⟨⟨I.ok.mod,(show scope.kind=_ from LU az),I.ok.glob,I.ok.blt,hC,λ x y c h1 h2=>?_,λ x hx=>?_,λ x c hf e=>?_,I.ok.hd,I.ok.frames,.inl rfl,λ b hb=>?_,I.bs,zbu I.ok.kF I.sz,λ b o e hb=>?_,λ b hb hz=>?_,I.stack,I.Xl⟩,
  rfl,I.bare,Un.kept k,⟨_,ns,λ j x v e1 e2 e3=>?_⟩,λ x c e=>?_,I.Aw.fresh hC,λ x c e=>?_,λ p hp=>(by cases hp),I.Aw.kept k,?_⟩
 ·rcases Ds I az h1 with ⟨a1,a2⟩|a<;>rcases Ds I az h2 with ⟨b1,b2⟩|b
  ·rw[a1] at b1;exact zas b1
  ·exact absurd a2 (u8 y c b)
  ·exact absurd b2 (u8 x c a)
  ·exact I.ok.inj x y c a b
 ·have q:(x,zcw)∈scope.names\/Hv scope.names=some x:=by
   rcases hx with hx|hx
   ·exact Oi az hx (.inl rfl)
   ·exact Oi az hx (.inr rfl)
  rcases q with q|q
  ·obtain⟨c,m⟩:=Og (cells:=X.env.cells) (cs:=[]) q;refine DL (c:=c) ?_;show (x,c)∈Xx C scope.names _;unfold Xx;split
   ·exact za4 _ m
   ·exact m
  ·refine DL (c:=C+1) ?_;show (x,C+1)∈Xx C scope.names _;unfold Xx;rw[q];exact za3
 ·have hq:Hv scope.names=some x:=by simpa [blockOf] using hf
  have e':(Xx C scope.names (Gj X.env.cells scope.names [])).lookup x=some c:=e;unfold Xx at e';rw[hq] at e';dsimp only at e';rw[zc8,beq_self_eq_true] at e';cases e';exact Nat.le_succ_of_le hC
 ·obtain⟨o,ho⟩:=my b hb;refine⟨u7 b o ho,λ x c e z=>?_⟩;rcases Ds I az e with ⟨_,a2⟩|e
  ·exact absurd (zap (zaj ho) hC) (by rw[<-z,a2];exact Nat.not_lt.mpr (Nat.le_succ C))
  ·exact (i5 b hb).2.2.2.2.1 x c e z
 ·rcases (i5 b hb).2.2.2.1 with z|z
  ·exact I.ok.cM b o e z
  ·exact absurd (zap (zaj (I.ok.bs b o e).1) z) (Nat.lt_irrefl _)
 ·rcases zab.mp (I.VN b hz) with e|e
  ·exact (i5 b hb).2.1 e
  ·exact (i5 b hb).2.2.1 e
 ·have jp:(μ[j]?).map (λ o=>o.bind λ i=>(σ[i]?).join)=some (some v):=by
   rw[<-zan];exact e2
  cases q:μ[j]? with
  |none=>rw[q] at jp;cases jp
  |some o =>
   rw[q] at jp;cases o with
   |none=>cases jp
   |some i =>
    have e4:(σ[i]?).join=some v:=by simpa using jp
    have e5:σ[i]?=some (some v):=by
     cases z:σ[i]? with
     |none=>rw[z] at e4;cases e4
     |some w=>rw[z] at e4;simp at e4;rw[e4]
    obtain⟨x',n1,n2,n3⟩:=aW j i q;have ex:x'=x:=zas (n1.symm.trans e1);subst ex;have m:=lookup_mem n3;have ov:=(K9 az m).2.1 rfl;obtain⟨mm,hn,hl⟩:=I.loc;obtain⟨u,r,l⟩:=hl i x' v n2 e5 (ov.elim (λ z=>.inr (.inl z)) λ z=>.inr (.inr z));refine⟨u,r,.inr ⟨?_,?_⟩⟩
    ·rcases e3 with z|z|z
     ·obtain⟨k',z1,z2⟩:=K8 (k:=.local) z;rw[n3] at z1;cases z1;rcases z2 with z2|⟨_,z2⟩<;>cases z2
     ·exact .inl z
     ·exact .inr z
    ·rcases l with ⟨l,_⟩|⟨_,c,l1,l2⟩
     ·rcases ov with z|z<;>(rw[show X.env.kindOf x'=_ from z] at l;cases l)
     ·obtain⟨c',m'⟩:=Og (cells:=X.env.cells) (cs:=[]) m;obtain⟨c'',l3⟩:=DL m';have l4:=Oh I az l3;rw[l1] at l4;cases l4;have l5:(Xx C scope.names (Gj X.env.cells scope.names [])).lookup x'=some c:=by
       unfold Xx;cases q9:Hv scope.names with
       |none=>exact l3
       |some y =>
        have ne:(x'==y)=false:=by
         cases b:x'==y with
         |false=>rfl
         |true =>
          have z:=(K9 az (U6 q9)).1 rfl;rw[<-eq_of_beq b] at z;rw[show scope.names.lookup x'=some .cell from z] at n3;cases n3
        dsimp only;rw[zc8,ne];exact l3
      refine⟨c,l5,?_⟩;obtain⟨o,ho,hd⟩:=l2;exact⟨o,k _ _ ho,hd⟩
 ·rcases Ds I az e with ⟨a1,rfl⟩|e
  ·exact⟨_,jo x a1⟩
  ·obtain⟨v,o,ho,hd⟩:=I.cell x c e;exact⟨v,o,k _ _ ho,hd⟩
 ·rcases Ds I az e with ⟨a1,rfl⟩|e
  ·exact I.Aw.fresh (Nat.le_succ_of_le hC)
  ·exact I.FO x c e
 ·show (FA μ σ).length=NB.length;unfold FA;rw[za2,hlen]
def GR.adopt (x:GR P w H h)(hn:H a=none)(new:Bn P w (upd H a o) h a o):GR P w (upd H a o) h:=λ b u e=>by
 by_cases hb:b=a
 ·subst hb;rw[Am] at e;cases e;exact new
 ·rw[Ag hb] at e;exact (x b u e).Qi (λ c v _ q=>q) (λ c q=>by rw[Ag (AO q hn)];exact q) λ c xs q=>by rw[Ag (AO q hn)];exact q
def Z1 (I:Inv X pins σ H s)(i5:∀b∈fp,N3 X pins H b)(J:Inv (blockOf X s H scope C NB fp) pl σ' H' s')(hC:s.heap.objs.size<=C)(hD:s.heap.objs.size<=D)(dn:D≠C)(eD:s'.heap.get? D=some {cls:=.type "list",data:=.seq aa.toArray n})(nD:H' D=none)(r:Vals ys aa)(hz:ys.length<=sizeLine)(sb:Heap.SameBut C s'.heap h'):Inv X pins σ (upd H' D (.lst ys)) {s' with heap:=h' }:=by
 have gm:∀b o,s.heap.get? b=some o->b≠C:=λ b o e=>zat (zap (zaj e) hC);have p9:∀b o,s.heap.get? b=some o->b≠D:=λ b o e=>zat (zap (zaj e) hD);have freshD:H D=none:=I.Aw.fresh hD;have nC:H' C=none:=J.free;have u:Un (cE X.stack) fp H H' s.heap s'.heap:=J.base;have gj:GR X.prog X.w H' h':=λ b ob e=>(J.Aw b ob e).Qi (λ c v hc q=>(sb.2 c (by
  intro z;subst z;rcases hc with rfl|hc
  ·rw[nC] at e;cases e
  ·rw[nC] at hc;cases hc)).trans q) (λ _ q=>q) λ _ _ q=>q
 refine I.wO (ch:=fp) J.os ⟨λ b o e n hb hx=>?_,λ b o e n hb hx=>?_,λ b o e n hx=>?_,λ b o e hx=>?_,λ b xs e=>?_,λ b o u' e=>?_,λ b ps e=>?_⟩ (gj.adopt nD ⟨hz,aa,n,r,(sb.2 D dn).trans eD⟩) J.bare λ b hb=>?_
 ·exact (sb.2 b (gm b o e)).trans (u.keep b o e n hb hx)
 ·obtain⟨sl,q⟩:=u.slot b o e n hb hx;exact⟨sl,(sb.2 b (gm b o e)).trans q⟩
 ·rw[Ag (p9 b o e)];exact u.free b o e n hx
 ·obtain⟨o',q⟩:=u.there b o e hx;exact⟨o',(sb.2 b (gm b o e)).trans q⟩
 ·rw[Ag (AO e freshD)];exact u.Qj b xs e
 ·rw[Ag (AO e freshD)];exact u.N2 b o u' e
 ·rw[Ag (AO e freshD)];exact u.Qk b ps e
 ·obtain⟨_,f1,_,f3,f4,f5⟩:=i5 b hb;exact⟨f3,f1,f4,f5⟩
end
def eF (h1:(scope.names.filter Xw).length<=1)(hQ:∀h',h'.Ns s.heap.objs.size (λ _=>none)->(∀b o,s.heap.get? b=some o->h'.get? b=some o)->(∀x,Hv scope.names=some x->h'.IsCell (s.heap.objs.size+1) none)->
  Q {scope:=scope,locals:=s.heap.objs.size,globals:=g,cells:=Xx s.heap.objs.size scope.names cl,qual:=qual,func:=none,code:=outer.code,frame:=outer.frame,builtins:=outer.builtins} {s with heap:=h' }):
 wpAny M A (newFunctionEnv scope g cl [] qual none .none (some outer)) Q E s:=by
 unfold newFunctionEnv;simp only[Option.isSome_some,if_true];refine wpAny_bind (wpAny_alloc (wpAny_bind (wpAny_layCells _ (λ x k cs=>by cases e:k==NameKind.cell<;>simp[e]) _ _ _ _ ?_)));have ok:=cellsFrom_ok scope.names (s.heap.push {cls:=.type "dict",data:=.dict #[]}) 0 [] ⟨λ _ _ z=>(by cases z),.nil⟩ (zbb _);rw[Wc h1] at ok ⊢;rw[Heap.size_push] at ok;rw[List.forIn_nil];refine wpAny_bind (wpAny_pure (wpAny_pure ?_));have key:=hQ (pushCells (s.heap.push {cls:=.type "dict",data:=.dict #[]}) scope.names) ((Heap.Ns.new s.heap (.type "dict")).keeps (pushCells_keeps _ _)) (λ b o e=>pushCells_keeps _ _ b o (zac _ e)) (λ x hx=>(ok.empty x (s.heap.objs.size+1) (by rw[hx];exact za3)).1);unfold Xx at key;rw[<-Heap.size_push s.heap {cls:=.type "dict",data:=.dict #[]}] at key;exact key
def Sf (I:Nat->Shared->Prop)(turn:∀n s,I n s->wpAny (model prog w) A (pyNext it) (λ r s₁=>match r with
  |none=>R (.ok .next) s₁
  |some v=>wpAny (model prog w) A (letOwnedTupleGo target it v) (λ _ s₁'=>wpAny (model prog w) A (assign target env v) (λ _ s₂ =>
   wpAny (model prog w) A (forIn ifs true λ c r=>if r=true then do let ok <-isTrue c env (eval c env);pure (zdg ok) else pure (zdg r)) (λ ok s₃ =>
    if ok=true then wpAny (model prog w) A (eval elt env) (λ x s₄ =>
     wpAny (model prog w) A (call (.builtin "list.append") [acc,x]) (λ _ s₅=>∃m,m<n/\I m s₅) (λ _ _=>False) s₄) (λ _ _=>False) s₃
    else ∃m,m<n/\I m s₃) (λ _ _=>False) s₂) (λ _ _=>False) s₁') (λ _ _=>False) s₁) (λ _ _=>False) s)(n:Nat)(h:I n s):
 codeAny (model prog w) A (.compLoop (.ListComp elt [⟨target,iter,ifs,0⟩] scope pos) 0 it acc env) R s:=by
 refine codeAny_loop rfl I (λ n s hI=>?_) n h;show wpAny _ A ((compTurn (.ListComp elt [⟨target,iter,ifs,0⟩] scope pos) 0 it acc env).onRaise (λ x=>do noteFrame x env;theTreesLotGoes x)) _ _ s;refine wpAny_noted ?_;rw[compTurn_list];refine wpAny_bind (wpAny_standAt (wpAny_bind (wpAny_mono (turn n s hI) (λ r s₁ h₁=>?_) λ _ _ h'=>h'.elim)));cases r with
 |none=>exact wpAny_pure h₁
 |some v =>
  refine wpAny_bind (wpAny_mono h₁ (λ _ s₁' h₁'=>?_) λ _ _ h'=>h'.elim);refine wpAny_bind (wpAny_mono h₁' (λ _ s₂ h₂=>wpAny_bind (wpAny_mono h₂ (λ ok s₃ h₃=>?_) λ _ _ h'=>h'.elim)) λ _ _ h'=>h'.elim);cases ok with
  |false=>exact wpAny_pure ⟨rfl,h₃⟩
  |true =>
   exact wpAny_bind (wpAny_bind (wpAny_mono h₃ (λ x s₄ h₄=>wpAny_bind (wpAny_mono h₄ (λ _ s₅ h₅=>wpAny_pure (wpAny_pure ⟨rfl,h₅⟩)) λ _ _ h'=>h'.elim)) λ _ _ h'=>h'.elim))
abbrev vW (X:Cx)(cs:List Expr)(t:TT):Prop:=
 ∀(pins:List (Addr×Obj)) (s:Shared) (σ:St) (H:Hp) (Q:Bool->Hp->Prop),Inv X pins σ H s->t σ H Q->
  wpAny (model X.prog X.w) X.A (forIn cs true λ c r=>if r=true then do let ok <-isTrue c X.env (eval c X.env);pure (zdg ok) else pure (zdg r)) (TP X pins σ Q) X.xe s
abbrev aa0:TT:=λ _ H Q=>Q true H
def lI:vW X [] aa0:=λ _ _ _ H _ I h=>wpAny_tests_nil ⟨H,I,h⟩
def lJ (h:PT X c t):vW X [c] t:=λ pins s σ H Q I q=>wpAny_tests_one (h pins s σ H Q I q)
abbrev LV (μ:List (Option Nat))(g:TG):Prop:=∀σ x H Q,g x (FA μ σ) H Q->g x (FA μ σ) H λ σ' H'=>Q σ' H'/\∀(j:Nat) v,(FA μ σ)[j]?=some (some v)->σ'[j]?=some (some v)
def lK (h:μ[i]?=some none):LV μ (QO i):=λ σ x H Q q=>by
 refine⟨q,λ j v e=>?_⟩;have ae:j≠i:=λ z=>by
  subst z;unfold FA at e;rw[zan,h] at e;cases e
 rw[zbc (zbi ae)];exact e
abbrev cBy (J:It)(H1:Hp)(Q:VK)(st:V->Hp->(St->Hp->Prop)->Prop)(tc:TT)(te:TE):Prop:=
 ∃W:Nat->Nat->List V->Hp->Prop,(∃m,W 0 m [] H1)/\∀i m ys H2,W i m ys H2->
  (J.stop i H2/\∀D,H2 D=none->Q (.ref D) (upd H2 D (.lst ys))) \/
  (J.go i H2/\ys.length<sizeLine/\∃N:List V->Hp->Prop,(∀aI H',N aI H'->∃m',m'<m/\W (i+1) m' aI H')/\∀x H3,J.jZ i H2 x H3->st x H3 λ σ4 H4=>tc σ4 H4 λ b H5=>if b=true then te σ4 H5 λ y H6=>N (ys++[y]) H6 else N ys H5)
abbrev QX (wi:TI)(μ:List (Option Nat))(g:TG)(tc:Shared->Hp->Addr->List Addr->TT)(te:Shared->Hp->Addr->List Addr->TE):TE:=λ σ H Q=>wi σ H λ J H1=>∀s C ex,cBy J H1 Q (λ x H K=>g x (FA μ σ) H K) (tc s H1 C ex) (te s H1 C ex)
section
variable {H2:Hp}{s2:Shared}{elt:Expr}{ifs:List Expr}{g:TG}{tc:Shared->Hp->Addr->List Addr->TT}{te:Shared->Hp->Addr->List Addr->TE}{it:Addr}{tn:Nat->Heap->Prop}{J:It}{Q:VK}
def QY (hc:X.calm=true)(I2:Inv X pins σ H2 s2)(T:Turn X.prog X.w X.K tg J fp it tn)(dh:tn 0 s2.heap)(f2:∀b∈fp,N3 X pins H2 b)(az:Gi scope X.env.scope=true)(aW:Oe X.N NB scope μ=true)(jq:LV μ g)(hb:∀(s:Shared) (H:Hp) (C:Addr) (ex:List Addr),PG (blockOf X s H scope C NB ex) tg g/\vW (blockOf X s H scope C NB ex) ifs (tc s H C ex)/\PE (blockOf X s H scope C NB ex) elt (te s H C ex))(q:∀C,cBy J H2 Q (λ x H K=>g x (FA μ σ) H K) (tc s2 H2 C fp) (te s2 H2 C fp)){RR:Value->Addr->Result->Shared->Prop}(fin:∀(D C:Addr) (s':Shared) (H':Hp) (ys:List V) (m:Str->Option Value),s2.heap.objs.size<=D->s2.heap.objs.size<=C->D≠C->s'.heap.Ns C m->H' C=none->(∀h',Heap.SameBut C s'.heap h'->Inv X pins σ (upd H' D (.lst ys)) {s' with heap:=h' })->Q (.ref D) (upd H' D (.lst ys))->RR (.ref D) C (.ok .next) s'):
 wpAny (model X.prog X.w) X.A (newList []) (λ acc s₃=>wpAny (model X.prog X.w) X.A (newFunctionEnv scope X.env.globals (Gj X.env.cells scope.names []) [] X.env.qual none .none (some X.env)) (λ jr s₄ =>
  codeAny (model X.prog X.w) X.A (.compStart (.ListComp elt [⟨tg,iter,ifs,0⟩] scope pos) 0 (.ref it) acc {jr with scope:=relabel scope X.env}) (RR acc jr.locals) s₄) E s₃) E s2:=by
 refine wpAny_newObj_type (eF (U8 az) λ h₁ hns₁ hk₁ hcl₁=>?_);dsimp only at hns₁ hk₁ hcl₁ ⊢;generalize qd:s2.heap.push {cls:=.type "list",dict:=none,data:=.seq ([]:List Value).toArray}=m6 at hns₁ hk₁ hcl₁ ⊢;have hC:m6.objs.size=s2.heap.objs.size+1:=by rw[<-qd,Heap.size_push]
 have dn:s2.heap.objs.size≠m6.objs.size:=by rw[hC];exact zat (Nat.lt_succ_self _)
 have gn:s2.heap.objs.size<=m6.objs.size:=by rw[hC];exact Nat.le_succ _
 have old:∀b o,s2.heap.get? b=some o->h₁.get? b=some o:=λ b o e=>hk₁ b o (qd▸zac _ e);have eD:h₁.get? s2.heap.objs.size=some {cls:=.type "list",data:=.seq ([]:List Value).toArray}:=hk₁ _ _ (qd▸zar _ rfl);have my:∀b∈fp,∃o,s2.heap.get? b=some o:=λ b hb=>let ⟨o,e,_⟩:=T.obj _ _ dh b hb;⟨o,e⟩;have qe:∀b∈fp,b≠s2.heap.objs.size:=λ b hb=>let ⟨o,e⟩:=my b hb;zat (zaj e);generalize u9:s2.heap.objs.size=D at gn dn eD qe ⊢;generalize hCC:m6.objs.size=C at *;have bF:s2.heap.objs.size<=D:=by rw[u9];exact zag _
 have ci:s2.heap.objs.size<=C:=by rw[u9];exact gn
 have I4:Inv (blockOf X s2 H2 scope C NB fp) [] (FA μ σ) H2 {s2 with heap:=h₁}:=U9 (t4:=s2.toks) I2 az aW f2 my ci hns₁ old hcl₁;have bt:∀ {H':Hp} {pl:List (Addr×Obj)},(∀b∈fp,H' b=none)->(∀p∈pl,p.1=D)->∀b∈fp,N3 (blockOf X s2 H2 scope C NB fp) pl H' b:=fun {H' pl} hn hp b hb=>by
  refine⟨hn b hb,(I4.ok.exf b hb).1,I4.ok.cN b hb,.inl hb,λ x c e z=>(I4.ok.exf b hb).2 x c e z,λ p js z=>?_⟩;have qg:p∈pl:=by simpa [blockOf] using js
  exact qe b hb (z▸hp p qg)
 have wE:D∉(blockOf X s2 H2 scope C NB fp).fs:=λ z=>by
  obtain⟨_,o,ho,_⟩:=I4.ok.LP.mem z;exact absurd (zaj ho) (Nat.not_lt.mpr bF)
 obtain⟨W,⟨m0,w0⟩,turn⟩:=q C;have loop:∀s₃:Shared,s₃={s2 with heap:=h₁} ->
  codeAny (model X.prog X.w) X.A (.compLoop (.ListComp elt [⟨tg,iter,ifs,0⟩] scope pos) 0 (.ref it) (.ref D) (compEnvC scope (Xx C scope.names (Gj X.env.cells scope.names [])) C X.env)) (RR (.ref D) C) s₃:=by
  rintro s₃ rfl;refine Sf (λ n s'=>∃i ys aa k H',Inv (blockOf X s2 H2 scope C NB fp) [(D,{cls:=.type "list",data:=.seq aa k})] (FA μ σ) H' s'/\tn i s'.heap/\(∀b∈fp,H' b=none)/\Vals ys aa.toList/\ys.length<=sizeLine/\W i n ys H') ?_ m0
   ⟨0,[],#[],0,H2,I4.K2 λ p hp=>?_,T.keep _ _ _ dh λ b hb o e=>old b o e,λ b hb=>(f2 b hb).1,.nil,zbb _,w0⟩
  rotate_left
  ·have e:=za9.mp hp;subst e;exact⟨eD,I2.Aw.fresh bF,dn,wE,λ v=>by simp⟩
  rintro n s3 ⟨i,ys,aa,k,H3,I3,jc,jd,rv,hz,w3⟩;rcases turn i n ys H3 w3 with ⟨stop,qn⟩|⟨go,ag,N,hN,step⟩
  ·refine wpAny_mono (T.done (blockOf X s2 H2 scope C NB fp) rfl rfl rfl hc i _ s3 _ H3 (λ _ _=>False) I3 (bt jd (by simp)) jc stop) (λ r s4 zz=>?_) λ _ _ e=>e;obtain⟨hr,m7⟩:=zz;subst hr;obtain⟨p1,p2,p3,p4,p5⟩:=m7.pin _ (zad _ za3);obtain⟨m,hn,_⟩:=id m7.loc;have e1:s4.heap.get? D=some {cls:=.type "list",data:=.seq aa.toList.toArray k}:=by simpa using p1
   exact fin D C s4 H3 ys m bF ci dn hn m7.free (λ h' sb=>Z1 I2 f2 m7 ci bF dn e1 p2 rv hz sb) (qn D p2)
  ·refine wpAny_mono (T.item (blockOf X s2 H2 scope C NB fp) rfl rfl rfl hc i _ s3 _ H3 (λ _ _=>False) I3 (bt jd (by simp)) jc go) (λ r s4 zz=>?_) λ _ _ e=>e;obtain⟨u,hr,h4⟩:=zz;subst hr;refine Bi h4 λ _ s5 zz=>?_;obtain⟨x,H5,I5,r5,y5,gf,oq⟩:=zz;have oy:=I5.pinned (bt oq (by simp)) (T.obj _ _ gf);have bg:=jq σ x H5 _ (step x H5 y5);obtain⟨hg,ht,he⟩:=hb s2 H2 C fp;refine Bi (hg _ s5 _ H5 x u _ oy r5 bg) λ _ s6 zz=>?_;obtain⟨σ6,H6,I6,q6,k6⟩:=zz;refine Bi (ht _ s6 σ6 H6 _ I6 q6) λ ok s7 zz=>?_;obtain⟨H7,I7,q7⟩:=zz;have again:∀ {H8:Hp} {s8:Shared} {its':Array Value} {k':Nat} {aI:List V},Inv (blockOf X s2 H2 scope C NB fp) ([(D,{cls:=.type "list",data:=.seq its' k' })]++Jx fp s5.heap) σ6 H8 s8->Vals aI its'.toList->aI.length<=sizeLine->(∃m,m<n/\W (i+1) m aI H8)->
    ∃m,m<n/\∃i ys aa k H',Inv (blockOf X s2 H2 scope C NB fp) [(D,{cls:=.type "list",data:=.seq aa k})] (FA μ σ) H' s8/\tn i s8.heap/\(∀b∈fp,H' b=none)/\Vals ys aa.toList/\ys.length<=sizeLine/\W i m ys H':=fun {H8 s8 its' k' aI} I8 dq wP n8=>by
    obtain⟨m',hm,w8⟩:=n8;refine⟨m',hm,i+1,aI,its',k',H8,(I8.K3.weak ?_ k6),T.keep _ _ _ gf λ b hb o e=>(I8.pin (b,o) (zad _ (zad _ (Ge hb e)))).1,λ b hb=>?_,dq,wP,w8⟩
    ·rw[I8.len];exact I4.len
    ·obtain⟨o,e,d⟩:=T.obj _ _ gf b hb;exact (I8.pin (b,o) (zad _ (zad _ (Ge hb e)))).2.1
   cases ok with
   |false =>
    simp only[zb0,if_false] at q7 ⊢;exact again I7 rv hz (hN _ _ q7)
   |true =>
    simp only[if_true] at q7 ⊢;refine Bi (he _ s7 σ6 H7 _ I7 q7) λ uy s8 zz=>?_;obtain⟨y,H8,I8,r8,q8⟩:=zz;obtain⟨p1,p2,p3,p4,p5⟩:=I8.pin (D,_) (zad _ (zb8 _ za3));have e1:s8.heap.get? D=some {cls:=.type "list",data:=.seq aa k}:=p1;have hsz:aa.size=ys.length:=by rw[<-zdi];exact rv.length.symm
    refine call_meets F.slot_list_append ⟨_,e1,rfl⟩ F.entry_list_append (F.args_list_append_2 _ _) (PySem.list_append D aa k uy (by rw[hsz];omega)) ⟨e1,?_⟩;have qh:=PySem.IsL.update e1 (·.push uy);have Iu:Inv (blockOf X s2 H2 scope C NB fp) (Jx fp s5.heap) σ6 H8 s8:=I8.K2 λ p hp=>I8.pin p (zad _ (zad _ hp));have It:=Iu.turned (it:=D) (h':=s8.heap.update D (Obj.mapSeq (·.push uy))) (t':=s8.toks) (λ b o hb e=>(Heap.get?_update_other _ _ (zbi hb)).trans e) p2 p3 (.inr bF) (λ x c e z=>?_) (λ p hp z=>?_)
    ·refine again (its':=aa.push uy) (k':=if (aa.push uy).size==aa.size then k else k+1) (It.K2 λ p hp=>?_) (by simpa using rv.append (.cons r8 .nil)) (by rw[zal,zba];omega) (hN _ _ q8);rcases zao.mp hp with hp|hp
     ·have e:=za9.mp hp;subst e;exact⟨qh,p2,p3,p4,λ v=>by simp⟩
     ·exact It.pin p (zad _ hp)
    ·rcases Ds I2 az e with ⟨_,a2⟩|e'
     ·exact absurd (a2.symm.trans z) (Nat.ne_of_gt (Nat.lt_succ_of_le gn))
     ·obtain⟨v,o,ho,_⟩:=I2.cell x c e';exact absurd (zaj ho) (by rw[z];exact Nat.not_lt.mpr bF)
    ·have js:p∈Jx fp s5.heap:=by simpa [blockOf] using hp
     exact qe p.1 (QP js).1 z
 exact codeAny_compStart_list (loop _ rfl) (T.self _ 0 _ _ _ (T.keep _ _ _ dh λ b hb o e=>old b o e) (loop _ rfl))
def Xy (hc:X.calm=true)(hi:PI X tg iter wi)(az:Gi scope X.env.scope=true)(aW:Oe X.N NB scope μ=true)(jq:LV μ g)(hb:∀(s:Shared) (H:Hp) (C:Addr) (ex:List Addr),PG (blockOf X s H scope C NB ex) tg g/\vW (blockOf X s H scope C NB ex) ifs (tc s H C ex)/\PE (blockOf X s H scope C NB ex) elt (te s H C ex))(hs:∀x,foldedSetIterable iter X.env x=pure x:=by intro _;rfl):PE X (.ListComp elt [⟨tg,iter,ifs,0⟩] scope pos) (QX wi μ g tc te):=by
 intro pins s σ H Q I h;have bw:∀y∈scope.names,y.2=.local->scope.names.lookup y.1=some .local:=λ y hy=>(K9 az hy).2.2;have cj:closureFor scope X.env=pure (Gj X.env.cells scope.names []):=Jc λ y hy e=>JC I az (x:=y.1) (by rw[<-e];exact hy);rw[eval_ListComp];refine wpAny_comprehension_free (use:=none) rfl hs cj (LU az) bw (Bi (hi pins s σ H _ I h) λ v s1 h1=>Bi h1 λ mq s2 h2=>?_);obtain⟨it,fp,tn,J,H2,e,I2,T,dh,f2,q⟩:=h2;subst e;refine QY (RR:=λ acc C=>compPost (model X.prog X.w) X.A X.xe none (EP X pins σ Q) acc C) hc I2 T dh f2 az aW jq hb (λ C=>q s2 C fp) ?_;intro D C s' H' ys m hD hC dn hn nC hI hq;exact⟨m,hn,λ h' sb=>⟨.ref D,_,hI h' sb,rfl,hq⟩⟩
abbrev xX (i:Nat)(te:TE):TS:=λ D σ H=>te σ H λ x H1=>D.nx (σ.set i (some x)) H1
def Sg (hN:X.N.Nodup)(gp:X.N[i]?=some y)(hy:Loc X.env.scope y)(hc:X.calm=true)(hi:PI X tg iter wi)(az:Gi scope X.env.scope=true)(aW:Oe X.N NB scope μ=true)(jq:LV μ g)(hb:∀(s:Shared) (H:Hp) (C:Addr) (ex:List Addr),PG (blockOf X s H scope C NB ex) tg g/\vW (blockOf X s H scope C NB ex) ifs (tc s H C ex)/\PE (blockOf X s H scope C NB ex) elt (te s H C ex))(aX: ~~~(swapsWith (.ListComp elt [⟨tg,iter,ifs,0⟩] scope pos) (some (.Name y py)) am.line X.env=pure true))(hs:∀x,foldedSetIterable iter X.env x=pure x:=by intro _;rfl)(hf:X.fn y=true\/X.env.scope.names.lookup y=some .local:=by first|exact .inl rfl|exact .inr rfl|assumption):
 PS X (.Assign [.Name y py] (.ListComp elt [⟨tg,iter,ifs,0⟩] scope pos) am) (xX i (QX wi μ g tc te)):=by
 intro pins s σ H D' I h;have bw:∀y∈scope.names,y.2=.local->scope.names.lookup y.1=some .local:=λ y hy=>(K9 az hy).2.2;have cj:closureFor scope X.env=pure (Gj X.env.cells scope.names []):=Jc λ y hy e=>JC I az (x:=y.1) (by rw[<-e];exact hy);rw[exec_Assign_Name_used _ _ _ _ aX];refine wpAny_bind (wpAny_standAt (wpAny_bind ?_));show wpAny _ X.A (do let _ <-comprehension (.ListComp elt [⟨tg,iter,ifs,0⟩] scope pos) scope X.env _ (newList []) false (eval iter X.env) (some (assign (.Name y py) X.env))) _ _ s;refine wpAny_bind (wpAny_mono (wpAny_comprehension_free (use:=some (assign (.Name y py) X.env)) (Q:=λ _ s'=>SP X pins D' .next s') rfl hs cj (LU az) bw (Bi (hi pins s σ H _ I h) λ v s1 h1=>Bi h1 λ mq s2 h2=>?_)) (λ _ s' hq=>wpAny_pure (wpAny_pure hq)) λ _ _ e=>e);obtain⟨it,fp,tn,J,H2,e,I2,T,dh,f2,q⟩:=h2;subst e;refine QY (RR:=λ acc C=>compPost (model X.prog X.w) X.A X.xe (some (assign (.Name y py) X.env)) (λ _ s'=>SP X pins D' .next s') acc C) hc I2 T dh f2 az aW jq hb (λ C=>q s2 C fp) ?_;intro D C s' H' ys m hD hC dn hn nC hI hq;have I':=hI s'.heap (.refl ..);show wpAny _ X.A (assign (.Name y py) X.env (.ref D)) _ _ _;refine wpAny_assign_Name (QN (i:=i) (v:=.ref D) I' hN gp hy rfl (λ jg wS qi=>?_) hf);obtain⟨a,sb,ha⟩:=qi;have iz:a≠C:=by
  rcases ha with z|z
  ·rw[z];exact zat (zap I2.lt hC)
  ·obtain⟨v,o,ho,_⟩:=I2.cell y a z;exact zat (zap (zaj ho) hC)
 refine⟨m,hn.sameBut sb (zbi iz),λ h' fg=>?_⟩;refine⟨_,_,wS.turned (it:=C) (t':=jg.toks) (λ b o hb e=>(fg.2 b hb).trans e) (by rw[Ag (zbi dn)];exact nC) (Nat.ne_of_gt (zap I2.lt hC)) (.inr (zbu I2.sz hC)) (λ x c e z=>?_) (λ p hp z=>?_),hq⟩
 ·obtain⟨v,o,ho,_⟩:=I2.cell x c e;exact absurd (zaj ho) (by rw[z];exact Nat.not_lt.mpr hC)
 ·exact absurd (zaj (I2.pin p hp).1) (by rw[z];exact Nat.not_lt.mpr hC)
end
abbrev Ite (K:za0)(a:Addr):It:=
 ⟨λ i H=>∃xs x,Dr K H a xs/\xs[i]?=some x,λ i H v H'=>∃p x,H p=none/\v=.ref p/\(∀xs,Dr K H a xs->xs[i]?=some x)/\H'=upd H p (.tup [.int i,x]),λ i H=>∃xs,Dr K H a xs/\xs.length<=i⟩
def Wd {e}(I:Inv X pins σ H s)(he:N3 X pins H e)(hi:N3 X pins H it)(k:∀b o,b≠e->b≠it->s.heap.get? b=some o->h'.get? b=some o):Inv X pins σ H {s with heap:=h',toks:=t' }:=by
 obtain⟨e0,e1,e2,e3,e4,e5⟩:=he;obtain⟨f0,f1,f2,f3,f4,f5⟩:=hi;have ne:∀b u,H b=some u->b≠e/\b≠it:=λ b u q=>⟨λ z=>(by rw[z,e0] at q;cases q),λ z=>(by rw[z,f0] at q;cases q)⟩;refine I.step (g':=s.gens) (d':=s.drawn) (ch:=[e,it]) (λ b hb=>?_) (λ b o _ _ hc q _=>k b o (λ z=>hc (by simp[z])) (λ z=>hc (by simp[z])) q) (λ b o _ _ hc q _=>⟨o.slots,k b o (λ z=>hc (by simp[z])) (λ z=>hc (by simp[z])) q⟩) (λ _ _ _ _ n=>n)
  (λ b o hc q=>⟨o,k b o (λ z=>hc (by simp[z])) (λ z=>hc (by simp[z])) q⟩) (λ _ _ q=>q) (λ _ _ _ q=>q) (λ b ps q=>⟨#[],by rw[q];simp⟩) (λ m hm=>?_) (λ b u q=>?_) I.bare
 ·rcases zab.mp hb with z|z
  ·subst z;exact⟨e3,e1,e4,e5⟩
  ·have z:=za9.mp z;subst z;exact⟨f3,f1,f4,f5⟩
 ·obtain⟨o,es,ep,ho,r⟩:=hm;exact⟨o,es,ep,k _ o (zbi e1) (zbi f1) ho,r⟩
 ·refine (I.Aw b u q).Qi (λ c v hc z=>k c v ?_ ?_ z) (λ _ z=>z) λ _ _ z=>z
  ·rcases hc with z|z
   ·rw[z];exact (ne b u q).1
   ·exact (ne c _ z).1
  ·rcases hc with z|z
   ·rw[z];exact (ne b u q).2
   ·exact (ne c _ z).2
def Z2 {K}{x1}(a e it:Addr)(ae:e≠it):
 Turn P w K (.Tuple ck x1 aT) (Ite K a) [e,it] e (λ i h=>(∃old,IsEnum h e it i old)/\h.IsListIter it a i) where
 mem:=by simp
 obj:=λ i h st b hb=>by
  obtain⟨⟨old,h1⟩,o,h2,c,d⟩:=st;rcases zab.mp hb with z|z
  ·subst z;exact⟨_,h1,λ v z=>by cases z⟩
  ·have z:=za9.mp z;subst z;exact⟨o,h2,λ v z=>by rw[d] at z;cases z⟩
 keep:=λ i h h' st k=>⟨let ⟨old,h1⟩:=st.1;⟨old,k e (by simp) _ h1⟩,st.2.at λ o e=>k it (by simp) o e⟩
 item:=by
  intro X hP hw hK hc i pins s σ H E I hf st hg;subst hP hw hK;obtain⟨xs,x,hq,hx⟩:=hg;obtain⟨⟨old,he⟩,hit⟩:=st;obtain⟨aa,rv,p,hz⟩:=I.list hq;obtain⟨u,hu,ru⟩:=rv.get hx;have fe:=hf e (by simp);have fi:=hf it (by simp);refine wpAny_pyNext_enum_item he hit p.isList (x:=u) (by simpa using hu) ae λ h1 e7 qj ht hsz hk=>?_;refine⟨_,rfl,wpAny_letOwnedTupleGo_enum (s:={s with heap:=h1,toks:=s.toks+1}) e7 λ h2 wT a6=>?_⟩;have bz:Heap.SameBut e h1 h2:=a6;have nt:s.heap.objs.size≠e:=Nat.ne_of_gt (zaj he);have xa:s.heap.objs.size≠it:=by
   obtain⟨o,ho,_⟩:=hit;exact Nat.ne_of_gt (zaj ho)
  have I1:Inv X pins σ H {s with heap:=h2,toks:=s.toks+1}:=Wd I fe fi λ b o hb a9 q=>(bz.2 b hb).trans (hk b o hb a9 q);have tup:h2.get? s.heap.objs.size=some {cls:=.type "tuple",data:=.seq #[.int i s.toks,u]}:=(bz.2 _ nt).trans ht;have nH:H s.heap.objs.size=none:=I.Aw.fresh (zag _);have vv:Vals [.int i,x] [.int i s.toks,u]:=.cons ⟨_,rfl⟩ (.cons ru .nil);have qk:GR X.prog X.w (upd H s.heap.objs.size (.tup [.int i,x])) h2:=I1.Aw.adopt nH ⟨by show 2<=sizeLine;decide,_,vv,⟨_,tup,rfl,_,rfl⟩⟩;have I2:Inv X pins σ (upd H s.heap.objs.size (.tup [.int i,x])) {s with heap:=h2,toks:=s.toks+1}:=by
   refine I.step (g':=s.gens) (d':=s.drawn) (ch:=[e,it]) (λ b hb=>?_) (λ b o _ _ hc q _=>(bz.2 b (λ z=>hc (by simp[z]))).trans (hk b o (λ z=>hc (by simp[z])) (λ z=>hc (by simp[z])) q)) (λ b o _ _ hc q _=>⟨o.slots,(bz.2 b (λ z=>hc (by simp[z]))).trans (hk b o (λ z=>hc (by simp[z])) (λ z=>hc (by simp[z])) q)⟩)
    (λ b o hc q n=>by rw[Ag (zat (zaj q))];exact n) (λ b o hc q=>⟨o,(bz.2 b (λ z=>hc (by simp[z]))).trans (hk b o (λ z=>hc (by simp[z])) (λ z=>hc (by simp[z])) q)⟩)
    (λ b xs q=>by rw[Ag (AO q nH)];exact q) (λ b o u q=>by rw[Ag (AO q nH)];exact q) (λ b ps q=>⟨#[],by rw[Ag (AO q nH),q];simp⟩) (λ m hm=>?_) qk I.bare
   ·rcases zab.mp hb with z|z
    ·subst z;exact⟨fe.2.2.2.1,fe.2.1,fe.2.2.2.2.1,fe.2.2.2.2.2⟩
    ·have z:=za9.mp z;subst z;exact⟨fi.2.2.2.1,fi.2.1,fi.2.2.2.2.1,fi.2.2.2.2.2⟩
   ·obtain⟨o,es,ep,ho,r⟩:=hm;exact⟨o,es,ep,(bz.2 _ (zbi fe.2.1)).trans (hk _ o (zbi fe.2.1) (zbi fi.2.1) ho),r⟩
  refine⟨.ref s.heap.objs.size,_,I2,rfl,⟨_,x,nH,rfl,λ ys hy=>by rw[I.Hr hy hq];exact hx,rfl⟩,⟨⟨u,wT⟩,qj.at λ o q=>(bz.2 it (zbi ae)).trans q⟩,λ b hb=>?_⟩;have a9:b≠s.heap.objs.size:=by
   rcases zab.mp hb with z|z
   ·rw[z];exact zbi nt
   ·rw[za9.mp z];exact zbi xa
  rw[Ag a9];exact (hf b hb).1
 done:=by
  intro X hP hw hK hc i pins s σ H E I hf st hg;subst hP hw hK;obtain⟨xs,hq,hx⟩:=hg;obtain⟨⟨old,he⟩,hit⟩:=st;obtain⟨aa,rv,p,hz⟩:=I.list hq;have hl:=rv.length;obtain⟨f0,f1,f2,f3,f4,f5⟩:=hf it (by simp);exact wpAny_pyNext_enum_end (I.ok.hd hc) he hit p.isList (by simp;omega) λ h' eb=>⟨rfl,I.turned (t':=s.toks) (λ b o hb e=>eb b o hb e) f0 f1 f3 f4 f5⟩
 self:=λ _ _ _ _ _ st h=>let ⟨_,he⟩:=st.1;wpAny_pyIter_enum he h
abbrev xY (K:za0)(ta:TA):TI:=λ σ H R=>ta σ H λ vs H1=>∃a,vs=[.ref a]/\(∃xs,Dr K H1 a xs)/\R (Ite K a) H1
def lL {x1}(hg:Gl X "enumerate")(hm:X.mg "enumerate" = none)(ha:PA X [a] ta)(hb:bootBuiltins "enumerate" = some (.type "enumerate"):=by decide +kernel)(hs: ~~~(starEach [a] X.env=[(false,eval a X.env)])):
 PI X (.Tuple ck x1 aT) (.Call (.Name "enumerate" p) [a] [] pos) (xY X.K ta):=by
 intro pins s σ H R I h;refine Call_ (D5 I hg hm hb (zbe (Bi (ha pos pins s σ H _ I h) λ us s1 zz=>?_) hs rfl));obtain⟨vs,H1,I1,r1,q1⟩:=zz;obtain⟨j,e,⟨xs,hq⟩,q⟩:=q1;subst e;cases r1 with
 |cons r rr =>
  cases rr;cases r;obtain⟨aa,rv,p,hz⟩:=I1.list hq;refine call_enumerate_list p.isList λ h' he hit hsz hk=>?_;refine wpAny_pyIter_enum (s:={s1 with heap:=h' }) he ?_;have I2:Inv X pins σ H1 {s1 with heap:=h' }:=I1.kept (t':=s1.toks) hk;refine⟨_,[s1.heap.objs.size+1,s1.heap.objs.size],_,_,H1,rfl,I2,Z2 j _ _ (Nat.succ_ne_self _),⟨⟨_,he⟩,hit⟩,λ b hb=>?_,q⟩;rcases zab.mp hb with z|z
  ·rw[z];exact I1.VQ (Nat.le_succ _) (I1.Aw.fresh (Nat.le_succ _))
  ·rw[za9.mp z];exact I1.VQ (zag _) (I1.Aw.fresh (zag _))
abbrev C5 {α:Type}(o:Option (α×List Int))(b:α×List Int):Option (α×List Int):=match o with | none=>some b | some c=>if HT.lexLt b.2 c.2=true then some b else some c
abbrev Bj {α:Type}(bs:List (α×List Int)):Option (α×List Int):=bs.foldl C5 none
abbrev Ka (bs:List (Addr×List Int)):Array Value:=match Bj bs with | none=>#[] | some b=>#[.ref b.1,.ref b.1]
def JD {α:Type}(bs:List (α×List Int))(b:α×List Int):Bj (bs++[b])=match Bj bs with | none=>some b | some c=>if HT.lexLt b.2 c.2=true then some b else some c:=by
 unfold Bj;rw[List.foldl_append];rfl
def QZ {α:Type}:∀(bs:List (α×List Int)) (b:α×List Int),Bj bs=some b->b∈bs:=by
 intro bs
 suffices h:∀(bs:List (α×List Int)) (o:Option (α×List Int)) (b:α×List Int),bs.foldl C5 o=some b->b∈bs\/o=some b by
  intro b hb;rcases h bs none b hb with q|q
  ·exact q
  ·cases q
 intro bs;induction bs with
 |nil=>intro o b h;exact .inr h
 |cons x r ih =>
  intro o b h;rw[zav] at h;rcases ih _ _ h with q|q
  ·exact .inl (za4 _ q)
  ·cases o with
   |none=>cases q;exact .inl za3
   |some c =>
    unfold C5 at q;dsimp only at q;split at q
    ·cases q;exact .inl za3
    ·exact .inr q
def JE {α:Type}(o:Option (α×List Int))(b:α×List Int):C5 o b≠none:=by
 unfold C5;split
 ·intro z;cases z
 ·split<;>(intro z;cases z)
def Oj {α:Type}:∀ {bs:List (α×List Int)},bs≠[]->Bj bs≠none:=by
 intro bs h;unfold Bj
 suffices z:∀(bs:List (α×List Int)) (o:Option (α×List Int)),o≠none->bs.foldl C5 o≠none by
  cases bs with
  |nil=>exact (h rfl).elim
  |cons b r=>rw[zav];exact z r _ (JE _ _)
 intro bs;induction bs with
 |nil=>intro o h;exact h
 |cons b r ih=>intro o h;rw[zav];exact ih _ (JE _ _)
abbrev xZ (o:Option Value):List (Str×Value):=o.toList.map λ d=>(Str.ofString "default",d)
def eG (a:Value)(o:Option Value):argsOk "min" ⟨[a],xZ o⟩:=by cases o<;>(unfold argsOk;kernel_rfl)
section
variable {prog:Program}{R:Result->Shared->Prop}
def eI (bs:List (Addr×List Int))(tv:Addr->Array Value)(l I S:Addr)(o:Option Value)(ql:o=none->bs≠[])(hh:A.handled=none)(hu:A.in1.units<cLine)(m8:S≠I)(gq:l≠I)(va:l≠S)(qm:∀b∈bs,b.1≠I/\b.1≠S)
 (hk:∀b∈bs,IntsAre (tv b.1).toList b.2):∀(k j:Nat) (s:Shared) (c:Nat),bs.length-j=k->j<=bs.length->s.heap.IsListIter I l j->s.heap.IsList l (bs.map λ b=>zbo b.1).toArray->(∀b∈bs,IsTup s.heap b.1 (tv b.1))->
  s.heap.get? S=some {cls:=.type "list",dict:=none,data:=.seq (Ka (bs.take j)) c,slots:=#[]} ->
  (∀h' tk,(∀b o,b≠I->b≠S->s.heap.get? b=some o->h'.get? b=some o)->R (.ok (.ret (match Bj bs with|none=>o.getD .none|some b=>.ref b.1))) {s with heap:=h',toks:=tk})->
  codeAny (model prog w) A (.builtin "min.loop" ⟨[.ref I,.none,.ref S],xZ o⟩) R s:=by
 have bi:(toString "min" ++ toString ".loop" : String) = "min.loop" := by decide
 intro k;induction k with
 |zero =>
  intro j s c hr hj hit hl ht hS hR;have b5:j=bs.length:=by omega
  subst b5;rw[zbs] at hS;refine codeAny_builtin PySem.F.entry_min_loop ?_;rw[zcr zck _];show wpAny _ A.in1 (seqItems? (.ref S) >>= _) _ _ s;refine wpAny_bind (wpAny_seqItems hS rfl ?_);show wpAny _ A.in1 (tryCatch (pyNext (.ref I)) _ >>= _) _ _ s;refine wpAny_bind (wpAny_tryCatch (wpAny_pyNext_list_end (A:=A.in1) hh hit hl (by simp) λ h' eb=>?_));have bj:h'.get? S=_:=eb S _ m8 hS;unfold Ka at bj;cases hb:Bj bs with
  |none =>
   unfold Ka;rw[hb];cases o with
   |none=>exact (Oj (ql rfl) hb).elim
   |some d =>
   show wpAny _ A.in1 (rule _ >>= _) _ _ _;refine wpAny_bind (wpAny_rule (wpAny_pure ?_));have q:=hR h' s.toks λ b o h1 h2 e=>eb b o h1 e;rw[hb] at q;exact q
  |some b =>
   rw[hb] at bj;unfold Ka;rw[hb];show wpAny _ A.in1 (updateSeq S (λ _=>#[]) >>= _) _ _ _;refine wpAny_bind ?_;refine wpAny_updateSeq bj rfl (wpAny_bind (wpAny_letGo (wpAny_pure ?_)));have q:=hR (h'.update S (Obj.mapSeq λ _=>#[])) s.toks λ b o h1 h2 e=>(Heap.get?_update_other _ _ (zbi h2)).trans (eb b o h1 e);rw[hb] at q;exact q
 |succ k ih =>
  intro j s c hr hj hit hl ht hS hR;have ag:j<bs.length:=by omega
  have ej:bs.take (j+1)=bs.take j++[bs[j]]:=by rw[zbt,za6 ag];rfl
  have mj:bs[j]∈bs:=List.getElem_mem ag;refine codeAny_builtin PySem.F.entry_min_loop ?_;rw[zcr zck _];show wpAny _ A.in1 (seqItems? (.ref S) >>= _) _ _ s;refine wpAny_bind (wpAny_seqItems hS rfl ?_);show wpAny _ A.in1 (tryCatch (pyNext (.ref I)) _ >>= _) _ _ s;refine wpAny_bind (wpAny_tryCatch (wpAny_pyNext_list_item (A:=A.in1) hit hl (x:=.ref bs[j].1) (by simp[ag]) λ h' b6 sb=>?_));have fg:Heap.SameBut I s.heap h':=sb;have bj:h'.get? S=_:=(fg.2 S m8).trans hS;have jb:h'.IsList l (bs.map λ b=>zbo b.1).toArray:=hl.at λ o e=>(fg.2 l gq).trans e;have jt:∀b∈bs,IsTup h' b.1 (tv b.1):=λ b hb=>by
   obtain⟨o,ho,r⟩:=ht b hb;exact⟨o,(fg.2 b.1 (qm b hb).1).trans ho,r⟩
  cases hb:Bj (bs.take j) with
  |none =>
   unfold Ka at bj ⊢;rw[hb] at bj ⊢;show wpAny _ A.in1 (updateSeq S (λ _=>#[.ref bs[j].1,.ref bs[j].1]) >>= _) _ _ _;refine wpAny_bind ?_;refine wpAny_updateSeq bj rfl ?_;rw[bi];have s1:=Heap.SameBut.update h' S (Obj.mapSeq λ _=>(#[.ref bs[j].1,.ref bs[j].1]:Array Value));refine wpAny_pure ⟨plainId_quiet zck _,ih (j+1) _ (c+1) (by omega) ag (b6.at λ o e=>(s1.2 I (zbi m8)).trans e) (jb.at λ o e=>(s1.2 l va).trans e) (λ b hb=>?_) ?_ λ ju tk cm=>?_⟩
   ·obtain⟨o,ho,r⟩:=jt b hb;exact⟨o,(s1.2 b.1 (qm b hb).2).trans ho,r⟩
   ·refine (Heap.get?_update_self _ bj rfl).trans ?_;unfold Ka;rw[ej,JD,hb];rfl
   ·exact hR ju tk λ b o h1 h2 e=>cm b o h1 h2 ((s1.2 b h2).trans ((fg.2 b h1).trans e))
  |some m =>
   have mm:m∈bs:=zc7 (QZ _ _ hb);unfold Ka at bj ⊢;rw[hb] at bj ⊢;show wpAny _ A.in1 (tryCatch (holding [.ref bs[j].1,.ref bs[j].1] (richCompare .Lt (.ref bs[j].1) (.ref m.1) >>= _)) _ >>= _) _ _ _;refine wpAny_bind (wpAny_tryCatch (wpAny_holding (wpAny_bind (HT.O8 (jt _ mj) (jt _ mm) (hk _ mj) (hk _ mm) hu ?_))));refine wpAny_bind (wpAny_holding (wpAny_truthy_bool ?_));refine wpAny_bind (wpAny_letGo (wpAny_pure ?_));cases hc:HT.lexLt bs[j].2 m.2 with
   |true =>
    simp only[if_true];have s1:=Heap.SameBut.update h' S (Obj.mapSeq λ _=>(#[.ref bs[j].1,.ref bs[j].1]:Array Value));refine wpAny_bind ?_;refine wpAny_updateSeq bj rfl (wpAny_bind (wpAny_letGo ?_));rw[bi];refine wpAny_pure ⟨plainId_quiet zck _,ih (j+1) _ c (by omega) ag (b6.at λ o e=>(s1.2 I (zbi m8)).trans e) (jb.at λ o e=>(s1.2 l va).trans e) (λ b hb=>?_) ?_ λ ju tk cm=>?_⟩
    ·obtain⟨o,ho,r⟩:=jt b hb;exact⟨o,(s1.2 b.1 (qm b hb).2).trans ho,r⟩
    ·refine (Heap.get?_update_self _ bj rfl).trans ?_;unfold Ka;rw[ej,JD,hb];simp only[hc,if_true];rfl
    ·exact hR ju tk λ b o h1 h2 e=>cm b o h1 h2 ((s1.2 b h2).trans ((fg.2 b h1).trans e))
   |false =>
    simp only[zb0,if_false];refine wpAny_bind (wpAny_letGo ?_);rw[bi];refine wpAny_pure ⟨plainId_quiet zck _,ih (j+1) _ c (by omega) ag b6 jb jt ?_ λ ju tk cm=>?_⟩
    ·refine bj.trans ?_;unfold Ka;rw[ej,JD,hb];simp only[hc,zb0,if_false]
    ·exact hR ju tk λ b o h1 h2 e=>cm b o h1 h2 ((fg.2 b h1).trans e)
def Ol (bs:List (Addr×List Int))(tv:Addr->Array Value)(l:Addr)(o:Option Value)(ql:o=none->bs≠[])(hh:A.handled=none)(hu:A.in1.units<cLine)(hl:s.heap.IsList l (bs.map λ b=>zbo b.1).toArray)(ht:∀b∈bs,IsTup s.heap b.1 (tv b.1))(hk:∀b∈bs,IntsAre (tv b.1).toList b.2)(hQ:∀h' tk,(∀b o,s.heap.get? b=some o->h'.get? b=some o)->Q (match Bj bs with|none=>o.getD .none|some b=>.ref b.1) {s with heap:=h',toks:=tk}):
 wpAny (model prog w) A (call (.builtin "min") [.ref l] (xZ o)) Q E s:=by
 have bi:(toString "min" ++ toString ".loop" : String) = "min.loop" := by decide
 obtain⟨ol,qp,_⟩:=id hl;have vb:l<s.heap.objs.size:=zaj qp;refine kmk_tree PySem.F.kind_min PySem.F.plain_min PySem.F.entry_min (eG _ _) ?_;show wpAny _ A.in1 (Builtin.Builtins.bindParams "min" ["key","default"] 0 ⟨[],xZ o⟩ >>= _) _ _ s;refine wpAny_bind (wpAny_of_eq (show Builtin.Builtins.bindParams "min" ["key","default"] 0 ⟨[],xZ o⟩=pure [none,o] by cases o<;>rfl) ?_);refine wpAny_bind (wpAny_pure ?_);refine wpAny_bind (wpAny_pyIter_list hl ?_);refine wpAny_bind (wpAny_newList ?_ (zbb _));rw[bi];have hS:(s.heap.push {cls:=.type "list_iterator",data:=.fields #[.ref l,.int 0 0]}).objs.size=s.heap.objs.size+1:=Heap.size_push ..;have old:∀b o,s.heap.get? b=some o->b≠s.heap.objs.size/\b≠(s.heap.push {cls:=.type "list_iterator",data:=.fields #[.ref l,.int 0 0]}).objs.size:=λ b o e=>⟨zat (zaj e),by rw[hS];exact zat (Nat.lt_succ_of_lt (zaj e))⟩;have grow:∀b o,s.heap.get? b=some o->((s.heap.push {cls:=.type "list_iterator",data:=.fields #[.ref l,.int 0 0]}).push {cls:=.type "list",data:=.seq #[]}).get? b=some o:=λ b o e=>zac _ (zac _ e);refine wpAny_pure ⟨plainId_quiet zck _,?_⟩;refine eI bs tv l s.heap.objs.size (s.heap.push {cls:=.type "list_iterator",data:=.fields #[.ref l,.int 0 0]}).objs.size o ql hh hu (by rw[hS];exact Nat.succ_ne_self _) (old l ol qp).1 (old l ol qp).2 (λ b hb=>?_) hk _ 0 _ 0 rfl (zbb _) ?_ ?_ (λ b hb=>?_) ?_ ?_
 ·obtain⟨o,ho,_⟩:=ht b hb;exact old b.1 o ho
 ·exact⟨_,zac _ (zar _ rfl),rfl,rfl⟩
 ·exact hl.at λ o e=>grow l o e
 ·obtain⟨o,ho,r⟩:=ht b hb;exact⟨o,grow b.1 o ho,r⟩
 ·exact zar _ rfl
 ·intro h' tk jv;exact hQ h' tk λ b o e=>jv b o (old b o e).1 (old b o e).2 (grow b o e)
end
section
variable {e2:Expr}{te:TE}{p kp:Pos}
abbrev yA (K:za0)(te td:TE):TE:=λ σ H Q=>te σ H λ x H1=>td σ H1 λ d H2=>∃(a:Addr) (bs:List (Addr×List Int)),x=.ref a/\Dr K H2 a (bs.map λ b=>V.ref b.1)/\(∀b∈bs,Fj K H2 b.1 (b.2.map V.int))/\Q (match Bj bs with | none=>d | some b=>.ref b.1) H2
def LW:∀ {bs:List (Addr×List Int)}{us:List Value},Vals (bs.map λ b=>V.ref b.1) us->us=bs.map λ b=>zbo b.1
 |[],_,.nil=>rfl
 |b::r,_,.cons h t=>by cases h;rw[LW t];rfl
def lM (hc:X.calm=true)(hu:X.A.units+1<cLine)(hg:Gl X "min")(hm:X.mg "min" = none)(he:PE X e te)(hd:PE X e2 td)(aH: ~~~(starEach [e] X.env=[(false,eval e X.env)]))(aK: ~~~((backToKw pos (keywordEach [⟨some "default",e2,kp⟩] X.env)).all (·.1.isSome)=true))(qr: ~~~((backToKw pos (keywordEach [⟨some "default",e2,kp⟩] X.env)).filterMap (·.1)=([("default" : Str)]:List Str)))(qt: ~~~((backToKw pos (keywordEach [⟨some "default",e2,kp⟩] X.env)).any (·.1.isNone)=false))(bm: ~~~(backTo pos (starEach [e] X.env)=(false,eval e X.env)::backTo pos (starEach [] X.env)))(hpl: ~~~((backTo pos (starEach [e] X.env)).any (·.1)=false)):
 PE X (.Call (.Name "min" p) [e] [⟨some "default",e2,kp⟩] pos) (yA X.K te td):=by
 intro pins s σ H Q I h;refine wpAny_Call_Name_kw (D5 I hg hm boot_min ?_ (by decide) (by decide));refine callWith_kw (Bi ((Bd he Cv (hs:=aH)) pos pins s σ H (λ vs H1=>match vs with|[x]=>td σ H1 λ d H2=>∃(a:Addr) (bs:List (Addr×List Int)),x=.ref a/\Dr X.K H2 a (bs.map λ b=>V.ref b.1)/\(∀b∈bs,Fj X.K H2 b.1 (b.2.map V.int))/\Q (match Bj bs with|none=>d|some b=>.ref b.1) H2|_=>False) I h) λ us s1 zz=>?_) bm hpl aK qt;obtain⟨vs,H1,I1,r1,q1⟩:=zz;obtain⟨x,rfl⟩:∃x,vs=[x]:=by
  match vs,q1 with
  |[x],_=>exact⟨x,rfl⟩
 refine Bi ((kS hd sQ) pos pins s1 σ H1 (λ zs H2=>match zs with|[d]=>∃(a:Addr) (bs:List (Addr×List Int)),x=.ref a/\Dr X.K H2 a (bs.map λ b=>V.ref b.1)/\(∀b∈bs,Fj X.K H2 b.1 (b.2.map V.int))/\Q (match Bj bs with|none=>d|some b=>.ref b.1) H2|_=>False) I1 q1) λ ws s2 zz=>?_;obtain⟨zs,H2,I2,r2,q2⟩:=zz;obtain⟨d,rfl⟩:∃d,zs=[d]:=by
  match zs,q2 with
  |[d],_=>exact⟨d,rfl⟩
 obtain⟨a,bs,rfl,hl,hb,q⟩:=q2;obtain⟨ua,rfl,ra⟩:=r1.one;obtain⟨ud,rfl,rd⟩:=r2.one;cases ra;rw[qr];obtain⟨aa,rv,pl,hz⟩:=I2.list hl;have ei:=LW rv;subst ei;have tv:∀a:Addr,∃t:Array Value,∀b∈bs,b.1=a->IsTup s2.heap a t/\IntsAre t.toList b.2:=λ a=>by
  by_cases cn:∃b∈bs,b.1=a
  ·obtain⟨b,cn,rfl⟩:=cn;obtain⟨ts,rt,pt,_⟩:=I2.tuple (hb b cn);refine⟨ts.toArray,λ b' a9 e=>⟨pt,?_⟩⟩;have q2:=hb b' a9;rw[e] at q2;have e2:=I2.FQ q2 (hb b cn);rw[<-e2] at rt;simpa using intsAre_of rt
  ·exact⟨#[],λ b a9 e=>absurd ⟨b,a9,e⟩ cn⟩
 refine Ol bs (λ b=>za7 (tv b)) a (some ud) (λ h=>by cases h) (I2.ok.hd hc) hu pl.isList (λ b a9=>(za1 (tv b.1) b a9 rfl).1) (λ b a9=>(za1 (tv b.1) b a9 rfl).2) λ h' tk hk=>?_;refine⟨match Bj bs with|none=>d|some b=>.ref b.1,H2,I2.kept (t':=tk) hk,?_,q⟩;cases Bj bs with
 |none=>exact rd
 |some b=>rfl
end
inductive D where
 |AL|bl (b:Bool)|int (i:Int)|str (x:Str)|tup (ds:List D)|lst (ds:List D)|LO (x:Str)|BG (t:Bool) (ks vs:List D)|ins (x:Str) (ns:List Str) (ds:List D)
abbrev CD:Key->D
 | .inl i=>.int i
 | .inr x=>.str x
def Rd.same (r:Rd H a u)(e:Ah H H'):Rd H' a u:=r.elim (λ h=>.inl (e _ _ h)) λ⟨o,h⟩=>.inr ⟨o,e _ _ h⟩
mutual
inductive BV (K:za0) (H:Hp):V->D->Prop
 |AL:BV K H .AL .AL
 |bl (b):BV K H (.bl b) (.bl b)
 |int (i):BV K H (.int i) (.int i)
 |str (x):BV K H (.str x) (.str x)
 |tup {a xs ds}:H a=some (.tup xs)->Ak K H xs ds->BV K H (.ref a) (.tup ds)
 |lst {a xs ds}:Dr K H a xs->Ak K H xs ds->BV K H (.ref a) (.lst ds)
 |Tw {a kvs ds}:Rd H a (.dK kvs)->Ak K H (kvs.map zbw) ds->BV K H (.ref a) (.BG false (kvs.map λ kv=>CD kv.1) ds)
 |Ua {a kvs ds}:Rd H a (.dT kvs)->Ak K H (kvs.map zbw) ds->BV K H (.ref a) (.BG true (kvs.map λ kv=>.tup (kv.1.map CD)) ds)
 |ins {a C dx fs x ds}:zb5 K mainGlobals x=some (some (.ref C))->H a=some (.ins C dx fs)->Ak K H (fs.map zbw) ds->BV K H (.ref a) (.ins x (fs.map zb4) ds)
 |LO {a x}:zb5 K mainGlobals x=some (some (.ref a))->True->BV K H (.ref a) (.LO x)
inductive Ak (K:za0) (H:Hp):List V->List D->Prop
 |nil:Ak K H [] []
 |cons {x d xs ds}:BV K H x d->Ak K H xs ds->Ak K H (x::xs) (d::ds)
end
def Ak.length {K}:∀ {xs:List V}{ds:List D},Ak K H xs ds->xs.length=ds.length
 |_,_,.nil=>rfl
 |_,_,.cons _ t=>by rw[za8,za8,Ak.length t]
def Ak.get {K:za0}{H:Hp}:∀ {xs:List V}{ds:List D}{i:Nat}{d:D},Ak K H xs ds->ds[i]?=some d->∃x,xs[i]?=some x/\BV K H x d
 |_,_,_,_,.nil,e=>by simp at e
 |_,_,0,_,.cons r _,e=>by simp at e;subst e;exact⟨_,rfl,r⟩
 |_,_,i+1,d,.cons _ t,e=>by
  obtain⟨u,h1,h2⟩:=Ak.get (i:=i) (d:=d) t (by simpa using e);exact⟨u,by simpa using h1,h2⟩
def Ak.tI {K:za0}{H:Hp}:∀ {xs:List V}{ds:List D}{i:Nat}{x:V},Ak K H xs ds->xs[i]?=some x->∃d,ds[i]?=some d/\BV K H x d
 |_,_,_,_,.nil,e=>by simp at e
 |_,_,0,_,.cons r _,e=>by simp at e;subst e;exact⟨_,rfl,r⟩
 |_,_,i+1,d,.cons _ t,e=>by
  obtain⟨u,h1,h2⟩:=Ak.tI (i:=i) (x:=d) t (by simpa using e);exact⟨u,by simpa using h1,h2⟩
def Ak.append {K:za0}{H:Hp}:∀ {xs ys:List V}{ds es:List D},Ak K H xs ds->Ak K H ys es->Ak K H (xs++ys) (ds++es):=by
 intro _ _ _ _ x_ h;cases x_ with
 |nil=>exact h
 |cons r t=>exact .cons r (Ak.append t h)
def Ak.snoc {K}(h:Ak K H xs ds)(r:BV K H x d):Ak K H (xs++[x]) (ds++[d]):=h.append (.cons r .nil)
def Ak.take {K}:∀ {xs:List V}{ds:List D}(n:Nat),Ak K H xs ds->Ak K H (xs.take n) (ds.take n)
 |_,_,0,_|_,_,_+1,.nil=>.nil
 |_,_,n+1,.cons r t=>.cons r (Ak.take n t)
def Ak.drop {K}:∀ {xs:List V}{ds:List D}(n:Nat),Ak K H xs ds->Ak K H (xs.drop n) (ds.drop n)
 |_,_,0,r=>r
 |_,_,_+1,.nil=>.nil
 |_,_,n+1,.cons _ t=>Ak.drop n t
def Ak.ints {K}:∀(ns:List Int),Ak K H (ns.map V.int) (ns.map D.int)
 |[]=>.nil
 |n::r=>.cons (.int n) (Ak.ints r)
def Ah.aa1 {K}(e:Ah H H')(h:Fj K H a xs):Fj K H' a xs:=by
 rcases h with (h|⟨o,h⟩)|h
 ·exact .inl (.inl (e _ _ h))
 ·exact .inl (.inr ⟨o,e _ _ h⟩)
 ·exact .inr h
mutual
theorem BV.mono {K:za0}{H H':Hp}(e:Ah H H'):∀ {v:V}{d:D},BV K H v d->BV K H' v d:=by
 intro _ _ x_;cases x_ with
 |AL=>exact .AL
 |bl b=>exact .bl b
 |int i=>exact .int i
 |str x=>exact .str x
 |tup h r=>exact .tup (e _ _ h) (Ak.mono e r)
 |lst h r=>exact .lst (e.seq h) (Ak.mono e r)
 |Tw h r=>exact .Tw (h.same e) (Ak.mono e r)
 |Ua h r=>exact .Ua (h.same e) (Ak.mono e r)
 |ins n h r=>exact .ins n (e _ _ h) (Ak.mono e r)
 |LO h r=>exact .LO h r
theorem Ak.mono {K:za0}{H H':Hp}(e:Ah H H'):∀ {vs:List V}{ds:List D},Ak K H vs ds->Ak K H' vs ds:=by
 intro _ _ x_;cases x_ with
 |nil=>exact .nil
 |cons h t=>exact .cons (BV.mono e h) (Ak.mono e t)
end
def AH (h:H p=none)(o:HO):Ah H (upd H p o):=λ b u q=>by rw[Ag (AO q h)];exact q
mutual
noncomputable def Bv:D->D->Bool
 | .AL,.AL=>true
 | .bl a,.bl b| .int a,.int b| .str a,.str b=>a==b
 | .bl a,.int b=>(if a then 1 else 0)==b
 | .int a,.bl b=>a==(if b then 1 else 0)
 | .tup a,.tup b| .lst a,.lst b=>Cp a b
 | .LO a,.LO b=>a==b
 | .BG s a b,.BG t c d=>(s==t)&&(Cp a c&&Cp b d)
 | .ins x n a,.ins y m b=>(x==y)&&((n==m)&&Cp a b)
 |_,_=>false
noncomputable def Cp:List D->List D->Bool
 |[],[]=>true
 |a::r,b::t=>Bv a b&&Cp r t
 |_,_=>false
end
mutual
theorem Om:∀d:D,Bv d d=true
 | .AL=>by simp[Bv]
 | .bl b| .int b| .str b=>by simp[Bv]
 | .tup b| .lst b=>by simp only[Bv];exact CV b
 | .LO b=>by simp[Bv]
 | .BG s a b=>by simp only[Bv];rw[CV a,CV b];simp
 | .ins x n a=>by simp only[Bv];rw[CV a];simp
theorem CV:∀d:List D,Cp d d=true
 |[]=>by simp[Cp]
 |a::r=>by simp only[Cp,Om a,CV r,Bool.and_true]
end
mutual
noncomputable def CF:D->Bool
 | .tup a| .lst a=>LX a
 | .LO _| .BG _ _ _| .ins _ _ _=>false
 |_=>true
noncomputable def LX:List D->Bool
 |[]=>true
 |a::r=>CF a&&LX r
end
def Sh:∀ {ds:List D}{d:D},d∈ds->LX ds=true->CF d=true
 |a::r,d,h,q=>by
  rw[LX,zb9] at q;rcases zab.mp h with z|z
  ·subst z;exact q.1
  ·exact Sh z q.2
mutual
noncomputable def Si:D->Nat
 | .tup a| .lst a=>Sj a+1
 |_=>0
noncomputable def Sj:List D->Nat
 |[]=>0
 |a::r=>max (Si a) (Sj r)
end
def Xz:∀ {ds:List D}{d:D},d∈ds->Si d<=Sj ds
 |a::r,d,h=>by
  rw[Sj];rcases zab.mp h with z|z
  ·subst z;exact Nat.le_max_left _ _
  ·exact zbu (Xz z) (Nat.le_max_right _ _)
def Ub:∀ {a b:List D},Cp a b=true->a.length=b.length
 |[],[],_=>rfl
 |[],_::_,h|_::_,[],h=>by simp[Cp] at h
 |a::r,b::t,h=>by
  simp only[Cp,zb9] at h;rw[za8,za8,Ub h.2]
def JF:∀(a b:List D),a.length=b.length->(zay a.length).all (λ j=>Bv (a.getD j .AL) (b.getD j .AL))=Cp a b
 |[],[],_=>by simp[Cp]
 |a::r,b::t,h=>by
  have ih:=JF r t (by simpa using h);rw[za8,List.range_succ_eq_map,List.all_cons,List.all_map,Cp,<-ih];simp[Function.comp_def]
 |[],_::_,h|_::_,[],h=>by cases h
def XA (h:a.length≠b.length):Cp a b=false:=by
 cases e:Cp a b with
 |false=>rfl
 |true=>exact absurd (Ub e) h
def eJ (a b:List D):((zay (min a.length b.length)).all (λ j=>Bv (a.getD j .AL) (b.getD j .AL))&&(a.length==b.length))=Cp a b:=by
 by_cases h:a.length=b.length
 ·rw[<-JF a b h,h];simp
 ·rw[XA h,beq_false_of_ne h,Bool.and_false]
def XB (I:Inv X pins σ H s)(h:Dr X.K H a xs)(h':Fj X.K H a ys):False:=by
 obtain⟨aa,_,⟨o,n,e,c,_,_⟩,_⟩:=I.list h;obtain⟨its',_,⟨o',e',c',_⟩,_⟩:=I.tuple h';rw[e] at e';cases e';rw[c] at c';revert c';decide
mutual
theorem lN (I:Inv X pins σ H s){v:V}{d d':D}(n1:CF d=true)(n2:CF d'=true)(h:BV X.K H v d)(h':BV X.K H v d'):d=d':=by
 cases h with
 |tup h r =>
  cases h' with
  |tup h' r' =>
   have e:=I.FQ (.of h) (.of h');subst e;rw[Hw I (by rw[CF] at n1;exact n1) (by rw[CF] at n2;exact n2) r r']
  |lst h' _=>exact (XB I h' (.of h)).elim
  |_=>rw[CF] at n2;cases n2
 |lst h r =>
  cases h' with
  |lst h' r' =>
   have e:=I.Hr h h';subst e;rw[Hw I (by rw[CF] at n1;exact n1) (by rw[CF] at n2;exact n2) r r']
  |tup h' _=>exact (XB I h (.of h')).elim
  |_=>rw[CF] at n2;cases n2
 |AL|bl _|int _|str _=>cases h';rfl
 |_=>rw[CF] at n1;cases n1
theorem Hw (I:Inv X pins σ H s){v:List V}{d d':List D}(n1:LX d=true)(n2:LX d'=true)(h:Ak X.K H v d)(h':Ak X.K H v d'):d=d':=by
 cases h with
 |nil=>cases h';rfl
 |cons h r =>
  cases h' with
  |cons h' r' =>
   rw[LX,zb9] at n1 n2;rw[lN I n1.1 n2.1 h h',Hw I n1.2 n2.2 r r']
end
def vat (r:Vals xs aa)(j:Nat)(h:j<aa.toArray.size):∃x,xs[j]?=some x/\RelV x aa.toArray[j]:=by
 have h':j<aa.length:=by simpa using h
 have hx:j<xs.length:=by rw[r.length];exact h'
 obtain⟨u,hu,ru⟩:=r.get (za6 hx);rw[za6 h'] at hu;refine⟨xs[j],za6 hx,?_⟩;have e:aa.toArray[j]=u:=by simpa using hu
 rw[e];exact ru
def XC {ds:List D}(h:ds[j]?=some d):ds.getD j .AL=d:=by rw[zam,h];rfl
def pW (I:Inv X pins σ H s)(n:Nat):∀(A:Around) (d e:D) (v w:V) (u1 u2:Value),Si d<=n->CF d=true->CF e=true->A.units+n<cLine->BV X.K H v d->BV X.K H w e->RelV v u1->RelV w u2->SeqAt.EqAt A s u1 u2 (Bv d e)/\SeqAt.RcAt A s u1 u2 (Bv d e)/\SeqAt.RcNeAt A s u1 u2 (!Bv d e):=by
 induction n using Nat.strongRecOn with
 |ind n ih =>
  intro A d e v w u1 u2 hd aE a4 hu h1 h2 r1 r2;have aj:A.units<cLine:=by omega
  have el:∀ {xs ys:List V} {ds es:List D} {aa its':List Value},Vals xs aa->Vals ys its'->Ak X.K H xs ds->Ak X.K H ys es->LX ds=true->LX es=true->Sj ds<n->∀(j:Nat) (h1:j<aa.toArray.size) (h2:j<its'.toArray.size),SeqAt.EqAt A.in1 s aa.toArray[j] its'.toArray[j] (Bv (ds.getD j .AL) (es.getD j .AL)):=λ rv dq r r' n1 n2 hn j h1 h2=>by
   obtain⟨x,hx,rx⟩:=vat rv j h1;obtain⟨y,hy,ry⟩:=vat dq j h2;obtain⟨dx,ex,xb⟩:=r.tI hx;obtain⟨dy,ey,xc⟩:=r'.tI hy;rw[XC ex,XC ey];exact (ih _ hn A.in1 dx dy x y _ _ (Xz (zai ex)) (Sh (zai ex) n1) (Sh (zai ey) n2) (by show A.units+1+_<cLine;omega) xb xc rx ry).1
  cases h1 with
  |LO _ _|Tw _ _|Ua _ _|ins _ _ _=>simp[CF] at aE
  |AL =>
   cases r1;cases h2 with
   |LO _ _|Tw _ _|Ua _ _|ins _ _ _=>simp[CF] at a4
   |AL=>cases r2;simp only[Bv];exact⟨.same _,.none_none,.none_none⟩
   |bl b=>cases r2;simp only[Bv];exact⟨.none_bool _,.none_bool _,.none_bool _⟩
   |int b=>obtain⟨t,rfl⟩:=r2;simp only[Bv];exact⟨.none_int _ _,.none_int _ _,.none_int _ _⟩
   |str b=>obtain⟨t,rfl⟩:=r2;simp only[Bv];exact⟨.none_str _ _,.none_str _ _,.none_str _ _⟩
   |tup h r=>cases r2;simp only[Bv];obtain⟨_,_,p,_⟩:=I.tuple (.of h);exact⟨.none_tuple p aj,.none_tuple p aj,.none_tuple p aj⟩
   |lst h r=>cases r2;simp only[Bv];obtain⟨_,_,p,_⟩:=I.list h;exact⟨.none_list p.isList aj,.none_list p.isList aj,.none_list p.isList aj⟩
  |bl a =>
   cases r1;cases h2 with
   |LO _ _|Tw _ _|Ua _ _|ins _ _ _=>simp[CF] at a4
   |AL=>cases r2;simp only[Bv];exact⟨.bool_none _,.bool_none _,.bool_none _⟩
   |bl b=>cases r2;simp only[Bv];exact⟨.bool_bool _ _,.bool_bool _ _,.bool_bool _ _⟩
   |int b=>obtain⟨t,rfl⟩:=r2;simp only[Bv];exact⟨.bool_int _ _ _,.bool_int _ _ _,.bool_int _ _ _⟩
   |str b=>obtain⟨t,rfl⟩:=r2;simp only[Bv];exact⟨.bool_str _ _ _,.bool_str _ _ _,.bool_str _ _ _⟩
   |tup h r=>cases r2;simp only[Bv];obtain⟨_,_,p,_⟩:=I.tuple (.of h);exact⟨.bool_tuple _ p aj,.bool_tuple _ p aj,.bool_tuple _ p aj⟩
   |lst h r=>cases r2;simp only[Bv];obtain⟨_,_,p,_⟩:=I.list h;exact⟨.bool_list _ p.isList aj,.bool_list _ p.isList aj,.bool_list _ p.isList aj⟩
  |int a =>
   obtain⟨t',rfl⟩:=r1;cases h2 with
   |LO _ _|Tw _ _|Ua _ _|ins _ _ _=>simp[CF] at a4
   |AL=>cases r2;simp only[Bv];exact⟨.int_none _ _,.int_none _ _,.int_none _ _⟩
   |bl b=>cases r2;simp only[Bv];exact⟨.int_bool _ _ _,.int_bool _ _ _,.int_bool _ _ _⟩
   |int b=>obtain⟨t,rfl⟩:=r2;simp only[Bv];exact⟨.int_int _ _ _ _,.int_int _ _ _ _,.int_int _ _ _ _⟩
   |str b=>obtain⟨t,rfl⟩:=r2;simp only[Bv];exact⟨.int_str _ _ _ _,.int_str _ _ _ _,.int_str _ _ _ _⟩
   |tup h r=>cases r2;simp only[Bv];obtain⟨_,_,p,_⟩:=I.tuple (.of h);exact⟨.int_tuple _ _ p aj,.int_tuple _ _ p aj,.int_tuple _ _ p aj⟩
   |lst h r=>cases r2;simp only[Bv];obtain⟨_,_,p,_⟩:=I.list h;exact⟨.int_list _ _ p.isList aj,.int_list _ _ p.isList aj,.int_list _ _ p.isList aj⟩
  |str a =>
   obtain⟨t',rfl⟩:=r1;cases h2 with
   |LO _ _|Tw _ _|Ua _ _|ins _ _ _=>simp[CF] at a4
   |AL=>cases r2;simp only[Bv];exact⟨.str_none _ _,.str_none _ _,.str_none _ _⟩
   |bl b=>cases r2;simp only[Bv];exact⟨.str_bool _ _ _,.str_bool _ _ _,.str_bool _ _ _⟩
   |int b=>obtain⟨t,rfl⟩:=r2;simp only[Bv];exact⟨.str_int _ _ _ _,.str_int _ _ _ _,.str_int _ _ _ _⟩
   |str b=>obtain⟨t,rfl⟩:=r2;simp only[Bv];exact⟨.str_str _ _ _ _,.str_str _ _ _ _,.str_str _ _ _ _⟩
   |tup h r=>cases r2;simp only[Bv];obtain⟨_,_,p,_⟩:=I.tuple (.of h);exact⟨.str_tuple _ _ p aj,.str_tuple _ _ p aj,.str_tuple _ _ p aj⟩
   |lst h r=>cases r2;simp only[Bv];obtain⟨_,_,p,_⟩:=I.list h;exact⟨.str_list _ _ p.isList aj,.str_list _ _ p.isList aj,.str_list _ _ p.isList aj⟩
  | @tup a xs ds h r =>
   cases r1;obtain⟨aa,rv,p,_⟩:=I.tuple (.of h);cases h2 with
   |LO _ _|Tw _ _|Ua _ _|ins _ _ _=>simp[CF] at a4
   |AL=>cases r2;simp only[Bv];exact⟨.tuple_none p aj,.tuple_none p aj,.tuple_none p aj⟩
   |bl b=>cases r2;simp only[Bv];exact⟨.tuple_bool _ p aj,.tuple_bool _ p aj,.tuple_bool _ p aj⟩
   |int b=>obtain⟨t,rfl⟩:=r2;simp only[Bv];exact⟨.tuple_int _ _ p aj,.tuple_int _ _ p aj,.tuple_int _ _ p aj⟩
   |str b=>obtain⟨t,rfl⟩:=r2;simp only[Bv];exact⟨.tuple_str _ _ p aj,.tuple_str _ _ p aj,.tuple_str _ _ p aj⟩
   | @lst a2 qu es h' r'=>cases r2;simp only[Bv];obtain⟨_,_,p',_⟩:=I.list h';exact⟨.tuple_list p p'.isList aj,.tuple_list p p'.isList aj,.tuple_list p p'.isList aj⟩
   | @tup a2 qu es h' r' =>
    cases r2;obtain⟨its',dq,p',_⟩:=I.tuple (.of h');have z1:aa.toArray.size=ds.length:=by rw[zaa,<-rv.length,r.length]
    have z2:its'.toArray.size=es.length:=by rw[zaa,<-dq.length,r'.length]
    have hj:=el rv dq r r' (by rw[CF] at aE;exact aE) (by rw[CF] at a4;exact a4) (by rw[Si] at hd;omega);have q:=SeqAt.RcAt.tuples (A:=A) (e:=λ j=>Bv (ds.getD j .AL) (es.getD j .AL)) p p' aj hj;have q':=SeqAt.RcNeAt.tuples (A:=A) (e:=λ j=>Bv (ds.getD j .AL) (es.getD j .AL)) p p' aj hj;rw[z1,z2,eJ] at q q';simp only[Bv];by_cases ha:a=a2
    ·subst ha;have e':=I.FQ (.of h) (.of h');subst e';have e2:=Hw I (by rw[CF] at aE;exact aE) (by rw[CF] at a4;exact a4) r r';subst e2;rw[CV] at q q' ⊢;exact⟨.same _,q,q'⟩
    ·exact⟨.of_refs ha q,q,q'⟩
  | @lst a xs ds h r =>
   cases r1;obtain⟨aa,rv,p,_⟩:=I.list h;cases h2 with
   |LO _ _|Tw _ _|Ua _ _|ins _ _ _=>simp[CF] at a4
   |AL=>cases r2;simp only[Bv];exact⟨.list_none p.isList aj,.list_none p.isList aj,.list_none p.isList aj⟩
   |bl b=>cases r2;simp only[Bv];exact⟨.list_bool _ p.isList aj,.list_bool _ p.isList aj,.list_bool _ p.isList aj⟩
   |int b=>obtain⟨t,rfl⟩:=r2;simp only[Bv];exact⟨.list_int _ _ p.isList aj,.list_int _ _ p.isList aj,.list_int _ _ p.isList aj⟩
   |str b=>obtain⟨t,rfl⟩:=r2;simp only[Bv];exact⟨.list_str _ _ p.isList aj,.list_str _ _ p.isList aj,.list_str _ _ p.isList aj⟩
   | @tup a2 qu es h' r'=>cases r2;simp only[Bv];obtain⟨_,_,p',_⟩:=I.tuple (.of h');exact⟨.list_tuple p.isList p' aj,.list_tuple p.isList p' aj,.list_tuple p.isList p' aj⟩
   | @lst a2 qu es h' r' =>
    cases r2;obtain⟨its',dq,p',_⟩:=I.list h';have z1:aa.toArray.size=ds.length:=by rw[zaa,<-rv.length,r.length]
    have z2:its'.toArray.size=es.length:=by rw[zaa,<-dq.length,r'.length]
    have hj:=el rv dq r r' (by rw[CF] at aE;exact aE) (by rw[CF] at a4;exact a4) (by rw[Si] at hd;omega);have qq:SeqAt.RcAt A s (.ref a) (.ref a2) (Cp ds es)/\SeqAt.RcNeAt A s (.ref a) (.ref a2) (!Cp ds es):=by
     by_cases hz:aa.toArray.size=its'.toArray.size
     ·have q:=SeqAt.RcAt.lists (A:=A) (e:=λ j=>Bv (ds.getD j .AL) (es.getD j .AL)) p.isList p'.isList hz aj hj;have q':=SeqAt.RcNeAt.lists (A:=A) (e:=λ j=>Bv (ds.getD j .AL) (es.getD j .AL)) p.isList p'.isList hz aj hj;rw[z1,JF ds es (by rw[<-z1,<-z2,hz])] at q q';exact⟨q,q'⟩
     ·rw[XA (by rw[<-z1,<-z2];exact hz)];exact⟨.lists_lengths p.isList p'.isList (by simpa using hz) aj,.lists_lengths p.isList p'.isList (by simpa using hz) aj⟩
    obtain⟨q,q'⟩:=qq;simp only[Bv];by_cases ha:a=a2
    ·subst ha;have e':=I.Hr h h';subst e';have e2:=Hw I (by rw[CF] at aE;exact aE) (by rw[CF] at a4;exact a4) r r';subst e2;rw[CV] at q q' ⊢;exact⟨.same _,q,q'⟩
    ·exact⟨.of_refs ha q,q,q'⟩
abbrev lO (K:za0)(A:Around)(neg:Bool):R2:=λ x y H Q=>∃d e,BV K H x d/\BV K H y e/\A.units+Si d<cLine/\CF d=true/\CF e=true/\Q (.bl (if neg=true then !Bv d e else Bv d e)) H
def eK:Gf X (compareOp .Eq) (lO X.K X.A false):=by
 intro pins s σ H x y v u Q I rx ry h;obtain⟨d,e,hd,he,hu,n1,n2,q⟩:=h;exact (pW I (Si d) X.A d e x y v u (zag _) n1 n2 hu hd he rx ry).2.1 X.prog X.w X.xe _ ⟨.bl _,H,I,rfl,q⟩
def tJ:Gf X (compareOp .NotEq) (lO X.K X.A true):=by
 intro pins s σ H x y v u Q I rx ry h;obtain⟨d,e,hd,he,hu,n1,n2,q⟩:=h;exact (pW I (Si d) X.A d e x y v u (zag _) n1 n2 hu hd he rx ry).2.2 X.prog X.w X.xe _ ⟨.bl _,H,I,rfl,q⟩
inductive OT where
 |sh (d:D)|lst (ts:List OT)|tup (ts:List OT)|BG (t:Bool) (ks:List D) (ts:List OT)|ins (x:Str) (ns:List Str) (ts:List OT)
inductive Ow where
 |rows (C3:List (List D))
 |N5 (p:Nat) (ds:List D)
 |tree (p:Option Nat) (t:OT)
inductive Cl where
 |val (d:D)|own (ds:List D)|ow (o:Ow)
noncomputable abbrev Ae:=List (Option Cl)
inductive M (α:Type) where
 |ok (a:α)|ex (c:Str)|bad
variable {ρ:Ae}{g:Ae->M D}{ft gt:Ae->M Bool}{fi:Ae->M (List D)}
abbrev M.bind {α β:Type}(m:M α)(k:α->M β):M β:=match m with
 | .ok a=>k a
 | .ex c=>.ex c
 | .bad=>.bad
@[simp] theorem M.A9 {α β:Type}(a:α) (k:α->M β):(M.ok a).bind k=k a:=rfl
def XD {α β:Type}{m}{k}{G:M β->Prop}{R:M α->Prop}(h:G (m.bind k))(hk:∀a,G (k a)->R (.ok a))(hb:G .bad->R .bad:=by exact λ h=>h)(hx:∀x,G (.ex x)->R (.ex x):=by exact λ _ h=>h):R m:=by
 cases m with
 |ok a=>exact hk a h
 |ex x=>exact hx x h
 |bad=>exact hb h
abbrev del (H:Hp)(P:Addr->Prop):Hp:=λ a=>open Classical in if P a then none else H a
def Ay (h:¬ P a):del H P a=H a:=by unfold del;rw[if_neg h]
def EG (h:P a):del H P a=none:=by unfold del;rw[if_pos h]
def An (h:del H P a=some o):¬ P a/\H a=some o:=by
 by_cases hp:P a
 ·rw[EG hp] at h;cases h
 ·rw[Ay hp] at h;exact⟨hp,h⟩
def Rd.B8 (r:Rd (del H P) a u):Rd H a u:=r.elim (λ h=>.inl (An h).2) λ⟨o,h⟩=>.inr ⟨o,(An h).2⟩
def Ah.del {H H':Hp}{P:Addr->Prop}(e:Ah H H'):Ah (del H P) (del H' P):=λ b o h=>by
 obtain⟨h1,h2⟩:=An h;rw[Ay h1];exact e b o h2
def D6 (h:∀a,P' a->P a):Ah (L2.del H P) (L2.del H P'):=λ b o e=>by
 obtain⟨h1,h2⟩:=An e;rw[Ay λ z=>h1 (h b z)];exact h2
def EH:Ah (L2.del H P) H:=λ b o e=>(An e).2
abbrev EA (H:Hp)(a:Addr):Prop:=∃o,H a=some o/\∀xs,o≠.tup xs/\∀z,o≠.GQ z (.tup xs)
def EA.same (h:EA H a)(e:Ah H H'):EA H' a:=let ⟨o,q,r⟩:=h;⟨o,e a o q,r⟩
def EA.no (h:EA H a)(e:H a=none):False:=by
 obtain⟨o,q,r⟩:=h;rw[e] at q;cases q
def EA.lst (h:H a=some (.lst xs)):EA H a:=⟨_,h,λ _=>⟨λ z=>(by cases z),λ _ z=>by cases z⟩⟩
mutual
inductive C6 (K:za0) (H:Hp) (P:Addr->Prop):V->OT->List Addr->Prop
 |sh {v d}:BV K (del H P) v d->C6 K H P v (.sh d) []
 |lst {p xs ts fp}:H p=some (.lst xs)->Ax K H P xs ts fp->C6 K H P (.ref p) (.lst ts) (p::fp)
 |tup {p xs ts fp}:del H P p=some (.tup xs)->Ax K H P xs ts fp->C6 K H P (.ref p) (.tup ts) fp
 |dK {p kvs ts fp}:H p=some (.dK kvs)->Ax K H P (kvs.map zbw) ts fp->C6 K H P (.ref p) (.BG false (kvs.map λ kv=>CD kv.1) ts) (p::fp)
 |dT {p kvs ts fp}:H p=some (.dT kvs)->Ax K H P (kvs.map zbw) ts fp->C6 K H P (.ref p) (.BG true (kvs.map λ kv=>.tup (kv.1.map CD)) ts) (p::fp)
 |ins {p C dx fs ts fp x}:zb5 K mainGlobals x=some (some (.ref C))->H p=some (.ins C dx fs)->Ax K H P (fs.map zbw) ts fp->C6 K H P (.ref p) (.ins x (fs.map zb4) ts) (p::fp)
inductive Ax (K:za0) (H:Hp) (P:Addr->Prop):List V->List OT->List Addr->Prop
 |nil:Ax K H P [] [] []
 |cons {v t fp vs ts fq}:C6 K H P v t fp->Ax K H P vs ts fq->Ax K H P (v::vs) (t::ts) (fp++fq)
end
mutual
noncomputable def er:OT->D
 | .sh d=>d
 | .lst ts=>.lst (Tx ts)
 | .tup ts=>.tup (Tx ts)
 | .BG t ks ts=>.BG t ks (Tx ts)
 | .ins x ns ts=>.ins x ns (Tx ts)
noncomputable def Tx:List OT->List D
 |[]=>[]
 |t::r=>er t::Tx r
end
def XE:∀ts:List OT,Tx ts=ts.map er
 |[]=>rfl
 |t::r=>by rw[Tx,XE r,za5]
mutual
theorem C6.move {K:za0}{H H':Hp}{P P':Addr->Prop}(sm:Ah (del H P) (del H' P')):∀ {v:V}{t:OT}{fp:List Addr},(∀a∈fp,H' a=H a)->C6 K H P v t fp->C6 K H' P' v t fp:=by
 intro _ _ _ k x_;cases x_ with
 |sh h=>exact .sh (h.mono sm)
 |lst h r=>exact .lst ((k _ za3).trans h) (Ax.move sm (λ a ha=>k a (za4 _ ha)) r)
 |tup h r=>exact .tup (sm _ _ h) (Ax.move sm k r)
 |dK h r=>exact .dK ((k _ za3).trans h) (Ax.move sm (λ a ha=>k a (za4 _ ha)) r)
 |dT h r=>exact .dT ((k _ za3).trans h) (Ax.move sm (λ a ha=>k a (za4 _ ha)) r)
 |ins n h r=>exact .ins n ((k _ za3).trans h) (Ax.move sm (λ a ha=>k a (za4 _ ha)) r)
theorem Ax.move {K:za0}{H H':Hp}{P P':Addr->Prop}(sm:Ah (del H P) (del H' P')):∀ {v:List V}{t:List OT}{fp:List Addr},(∀a∈fp,H' a=H a)->Ax K H P v t fp->Ax K H' P' v t fp:=by
 intro _ _ _ k x_;cases x_ with
 |nil=>exact .nil
 |cons h r=>exact .cons (C6.move sm (λ a ha=>k a (zb8 _ ha)) h) (Ax.move sm (λ a ha=>k a (zad _ ha)) r)
end
mutual
theorem C6.BU {K:za0}{H:Hp}{P:Addr->Prop}:∀ {v:V}{t:OT}{fp:List Addr},C6 K H P v t fp->∀a∈fp,EA H a:=by
 intro _ _ _ x_ a ha;cases x_ with
 |sh h=>cases ha
 |lst h r =>
  rcases zab.mp ha with rfl|ha
  ·exact .lst h
  ·exact Ax.BU r a ha
 |tup h r=>exact Ax.BU r a ha
 |dK h r =>
  rcases zab.mp ha with rfl|ha
  ·exact⟨_,h,λ _=>⟨λ z=>(by cases z),λ _ z=>by cases z⟩⟩
  ·exact Ax.BU r a ha
 |dT h r =>
  rcases zab.mp ha with rfl|ha
  ·exact⟨_,h,λ _=>⟨λ z=>(by cases z),λ _ z=>by cases z⟩⟩
  ·exact Ax.BU r a ha
 |ins n h r =>
  rcases zab.mp ha with rfl|ha
  ·exact⟨_,h,λ _=>⟨λ z=>(by cases z),λ _ z=>by cases z⟩⟩
  ·exact Ax.BU r a ha
theorem Ax.BU {K:za0}{H:Hp}{P:Addr->Prop}:∀ {v:List V}{t:List OT}{fp:List Addr},Ax K H P v t fp->∀a∈fp,EA H a:=by
 intro _ _ _ x_ a ha;cases x_ with
 |nil=>cases ha
 |cons h r =>
  rcases zao.mp ha with ha|ha
  ·exact C6.BU h a ha
  ·exact Ax.BU r a ha
end
mutual
theorem C6.Cj {K:za0}{H:Hp}{P P':Addr->Prop}:∀ {v:V}{t:OT}{fp ah:List Addr},C6 K H P v t fp->C6 K H P' v t ah->fp=ah
 |_,_,_,_,.sh _,.sh _=>rfl
 |_,_,_,_,.lst h r,.lst h' r'=>by
  rw[h] at h';cases h';rw[Ax.Cj r r']
 |_,_,_,_,.tup h r,.tup h' r'=>by
  have e:=(An h).2.symm.trans (An h').2;cases e;exact Ax.Cj r r'
 |_,_,_,_,.dK (kvs:=kvs) (ts:=ts) h r,x=>by
  generalize ht:OT.BG false (kvs.map λ kv=>CD kv.1) ts=t at x;cases x with
  |dK h' r' =>
   rw[h] at h';cases h';injection ht with _ _ e
   subst e;rw[Ax.Cj r r']
  |dT h' r'=>rw[h] at h';cases h'
  |_=>cases ht
 |_,_,_,_,.dT (kvs:=kvs) (ts:=ts) h r,x=>by
  generalize ht:OT.BG true (kvs.map λ kv=>D.tup (kv.1.map CD)) ts=t at x;cases x with
  |dT h' r' =>
   rw[h] at h';cases h';injection ht with _ _ e
   subst e;rw[Ax.Cj r r']
  |dK h' r'=>rw[h] at h';cases h'
  |_=>cases ht
 |_,_,_,_,.ins (fs:=fs) (ts:=ts) (x:=y) n h r,x=>by
  generalize ht:OT.ins y (fs.map zb4) ts=t at x;cases x with
  |ins n' h' r' =>
   rw[h] at h';cases h';injection ht with _ _ e
   subst e;rw[Ax.Cj r r']
  |_=>cases ht
theorem Ax.Cj {K:za0}{H:Hp}{P P':Addr->Prop}:∀ {v:List V}{t:List OT}{fp ah:List Addr},Ax K H P v t fp->Ax K H P' v t ah->fp=ah
 |_,_,_,_,.nil,.nil=>rfl
 |_,_,_,_,.cons h r,.cons h' r'=>by rw[C6.Cj h h',Ax.Cj r r']
end
mutual
theorem C6.has {K:za0}{H:Hp}{P P0:Addr->Prop}(hs:∀a,P0 a->P a):∀ {v:V}{t:OT}{fp:List Addr},(∀a∈fp,¬ P0 a)->C6 K H P v t fp->BV K (del H P0) v (er t):=by
 intro _ _ _ k x_;cases x_ with
 |sh h=>rw[er];exact h.mono (D6 hs)
 |lst h r=>rw[er];exact .lst (.of (show del H P0 _=_ by rw[Ay (k _ za3)];exact h)) (Ax.has hs (λ a ha=>k a (za4 _ ha)) r)
 |tup h r=>rw[er];exact .tup (D6 hs _ _ h) (Ax.has hs k r)
 |dK h r=>rw[er];exact .Tw (.inl (show del H P0 _=_ by rw[Ay (k _ za3)];exact h)) (Ax.has hs (λ a ha=>k a (za4 _ ha)) r)
 |dT h r=>rw[er];exact .Ua (.inl (show del H P0 _=_ by rw[Ay (k _ za3)];exact h)) (Ax.has hs (λ a ha=>k a (za4 _ ha)) r)
 |ins n h r=>rw[er];exact .ins n (show del H P0 _=_ by rw[Ay (k _ za3)];exact h) (Ax.has hs (λ a ha=>k a (za4 _ ha)) r)
theorem Ax.has {K:za0}{H:Hp}{P P0:Addr->Prop}(hs:∀a,P0 a->P a):∀ {v:List V}{t:List OT}{fp:List Addr},(∀a∈fp,¬ P0 a)->Ax K H P v t fp->Ak K (del H P0) v (Tx t):=by
 intro _ _ _ k x_;cases x_ with
 |nil=>rw[Tx];exact .nil
 |cons h r=>rw[Tx];exact .cons (C6.has hs (λ a ha=>k a (zb8 _ ha)) h) (Ax.has hs (λ a ha=>k a (zad _ ha)) r)
end
inductive BL (K:za0) (H:Hp) (P:Addr->Prop):List Addr->List (List D)->Prop
 |nil:BL K H P [] []
 |cons {q:Addr} {xs:List V} {ds:List D} {ps:List Addr} {C3:List (List D)}:H q=some (.lst xs)->Ak K (del H P) xs ds->BL K H P ps C3->BL K H P (q::ps) (ds::C3)
abbrev D7 (K:za0)(H:Hp)(P:Addr->Prop):Cl->V->List Addr->Prop
 | .own ds,v,fp=>∃p xs,v=.ref p/\fp=[p]/\H p=some (.lst xs)/\Ak K (del H P) xs ds
 | .ow (.rows C3),v,fp=>∃p ps,v=.ref p/\fp=p::ps/\H p=some (.lst (ps.map V.ref))/\BL K H P ps C3
 | .ow (.N5 _ ds),v,fp=>∃p xs,v=.ref p/\fp=[p]/\H p=some (.lst xs)/\Ak K (del H P) xs ds
 | .ow (.tree _ t),v,fp=>C6 K H P v t fp
 | .val _,_,_=>False
abbrev Hk:Cl->Bool
 | .val _=>false
 |_=>true
def BL.move {K:za0}{H H':Hp}{P P':Addr->Prop}(sm:Ah (del H P) (del H' P')):∀ {ps:List Addr}{C3:List (List D)},(∀a∈ps,H' a=H a)->BL K H P ps C3->BL K H' P' ps C3:=by
 intro _ _ k x_;cases x_ with
 |nil=>exact .nil
 |cons h r t=>exact .cons ((k _ za3).trans h) (r.mono sm) (BL.move sm (λ a ha=>k a (za4 _ ha)) t)
def BL.at {K:za0}{H:Hp}{P:Addr->Prop}:∀ {ps:List Addr}{C3:List (List D)},BL K H P ps C3->∀a∈ps,∃xs,H a=some (.lst xs)
 |_,_,.nil,a,h=>by cases h
 |_,_,.cons h r t,a,ha=>by
  rcases zab.mp ha with rfl|ha
  ·exact⟨_,h⟩
  ·exact t.at a ha
def BL.length {K}:∀ {ps:List Addr}{C3:List (List D)},BL K H P ps C3->ps.length=C3.length:=by
 intro _ _ x_;cases x_ with
 |nil=>exact rfl
 |cons h r t=>rw[za8,za8,t.length]
def BL.get {K:za0}{H:Hp}{P:Addr->Prop}:∀ {ps:List Addr}{C3:List (List D)}{i:Nat}{ds:List D},BL K H P ps C3->C3[i]?=some ds->∃q xs,ps[i]?=some q/\H q=some (.lst xs)/\Ak K (del H P) xs ds
 |_,_,_,_,.nil,e=>by simp at e
 |_,_,0,_,.cons h r _,e=>by simp at e;subst e;exact⟨_,_,rfl,h,r⟩
 |_,_,i+1,ds,.cons _ _ t,e=>by
  obtain⟨q,xs,h1,h2⟩:=BL.get (i:=i) (ds:=ds) t (by simpa using e);exact⟨q,xs,by simpa using h1,h2⟩
def Uc:∀ {ps qs:List Addr},ps.map V.ref=qs.map V.ref->ps=qs
 |[],[],_=>rfl
 |[],_::_,h|_::_,[],h=>by cases h
 |p::ps,q::qs,h=>by
  rw[za5,za5] at h;injection h with h1 h2
  injection h1 with h1
  rw[h1,Uc h2]
def D7.move {K}(sm:Ah (del H P) (del H' P'))(k:∀a∈fp,H' a=H a)(h:D7 K H P c v fp):D7 K H' P' c v fp:=by
 cases c with
 |val d=>exact h
 |own ds =>
  obtain⟨p,xs,rfl,rfl,h1,h2⟩:=h;exact⟨p,xs,rfl,rfl,(k p za3).trans h1,h2.mono sm⟩
 |ow o =>
  cases o with
  |rows C3 =>
   obtain⟨p,ps,rfl,rfl,h1,h2⟩:=h;exact⟨p,ps,rfl,rfl,(k p za3).trans h1,h2.move sm λ a ha=>k a (za4 _ ha)⟩
  |N5 p ds =>
   obtain⟨p,xs,rfl,rfl,h1,h2⟩:=h;exact⟨p,xs,rfl,rfl,(k p za3).trans h1,h2.mono sm⟩
  |tree p t=>exact C6.move sm k h
def D7.at {K}(h:D7 K H P c v fp):∀a∈fp,∃o,H a=some o:=by
 cases c with
 |val d=>exact h.elim
 |own ds =>
  obtain⟨p,xs,rfl,rfl,h1,h2⟩:=h;exact λ a ha=>⟨.lst xs,by rw[za9.mp ha];exact h1⟩
 |ow o =>
  cases o with
  |rows C3 =>
   obtain⟨p,ps,rfl,rfl,h1,h2⟩:=h;intro a ha;rcases zab.mp ha with rfl|ha
   ·exact⟨_,h1⟩
   ·obtain⟨xs,q⟩:=h2.at a ha;exact⟨_,q⟩
  |N5 p ds =>
   obtain⟨p,xs,rfl,rfl,h1,h2⟩:=h;exact λ a ha=>⟨.lst xs,by rw[za9.mp ha];exact h1⟩
  |tree p t =>
   intro a ha;obtain⟨o,q,_⟩:=C6.BU h a ha;exact⟨o,q⟩
def D7.same {K}(e:Ah H H')(h:D7 K H P c v fp):D7 K H' P c v fp:=
 h.move e.del λ a ha=>by obtain⟨xs,q⟩:=h.at a ha;rw[q];exact e _ _ q
def D7.Cj {K}(h:D7 K H P c v fp)(h':D7 K H P' c v ah):fp=ah:=by
 cases c with
 |val d=>exact h.elim
 |own ds =>
  obtain⟨p,xs,rfl,rfl,h1,h2⟩:=h;obtain⟨p',fj,e,rfl,m9,gu⟩:=h';cases e;rfl
 |ow o =>
  cases o with
  |rows C3 =>
   obtain⟨p,ps,rfl,rfl,h1,h2⟩:=h;obtain⟨p',ps',e,rfl,m9,gu⟩:=h';cases e;rw[h1] at m9;injection m9 with e
   injection e with e
   rw[Uc e]
  |N5 p ds =>
   obtain⟨p,xs,rfl,rfl,h1,h2⟩:=h;obtain⟨p',fj,e,rfl,m9,gu⟩:=h';cases e;rfl
  |tree p t=>exact C6.Cj h h'
structure DV where
 pr:Addr->Prop
 g:Nat->Addr
instance:CoeFun DV (λ _=>Addr->Prop):=⟨DV.pr⟩
instance:Coe DV (Addr->Prop):=⟨DV.pr⟩
abbrev R3:Cl->Option Nat
 | .ow (.N5 n _)=>some n
 | .ow (.tree (some n) _)=>some n
 |_=>none
structure Ao (K:za0)(P0:DV)(P:Addr->Prop)(H:Hp)(σ:St)(ρ:Ae):Prop where
 sub:∀a,P0 a->P a
 BU:∀a,P a->EA H a
 val:∀(i:Nat) d,ρ[i]?=some (some (.val d))->∃v,σ[i]?=some (some v)/\BV K (del H P) v d
 ows:∀(i:Nat) c,ρ[i]?=some (some c)->Hk c=true->∃v fp,σ[i]?=some (some v)/\D7 K H P c v fp/\(∀a∈fp,P a/\¬ P0 a)/\fp.Nodup
 apart:∀(i j:Nat) c c' v v' fp ah,ρ[i]?=some (some c)->ρ[j]?=some (some c')->σ[i]?=some (some v)->σ[j]?=some (some v')->D7 K H P c v fp->D7 K H P c' v' ah->i≠j->∀a∈fp,a∉ah
 len:σ.length=ρ.length
 pin:∀(i:Nat) c n,ρ[i]?=some (some c)->R3 c=some n->σ[i]?=some (some (.ref (P0.g n)))
def Ao.own {K}(E:Ao K P0 P H σ ρ)(i:Nat)(ds:List D)(h:ρ[i]?=some (some (.own ds))):
 ∃p xs,σ[i]?=some (some (.ref p))/\H p=some (.lst xs)/\P p/\¬ P0 p/\Ak K (del H P) xs ds:=by
 obtain⟨v,fp,h1,⟨p,xs,rfl,rfl,h2,h3⟩,h4,_⟩:=E.ows i _ h rfl;exact⟨p,xs,h1,h2,(h4 p za3).1,(h4 p za3).2,h3⟩
def Ao.eL {K}(E:Ao K P0 P H σ ρ)(sm:Ah (del H P) (del H' P')){i:Nat}(ki:∀v fp,σ[i]?=some (some v)->D7 K H P c v fp->∀a∈fp,H' a=H a)(kj:∀v fp,σ[j]?=some (some v)->D7 K H P c' v fp->∀a∈fp,H' a=H a)(hi:ρ[i]?=some (some c))(hj:ρ[j]?=some (some c'))(si:σ[i]?=some (some v))(sj:σ[j]?=some (some v'))(h:D7 K H' P' c v fp)(h':D7 K H' P' c' v' ah)(ae:i≠j):∀a∈fp,a∉ah:=by
 have key:∀(k:Nat) (d:Cl) (w:V) (fq:List Addr),ρ[k]?=some (some d)->σ[k]?=some (some w)->(∀v fp,σ[k]?=some (some v)->D7 K H P d v fp->∀a∈fp,H' a=H a)->D7 K H' P' d w fq->D7 K H P d w fq:=λ k d w fq hk sk kk ho=>by
  have io:Hk d=true:=by cases d<;>first|rfl|exact ho.elim
  obtain⟨w',bG,s2,o2,_⟩:=E.ows k d hk io;rw[sk] at s2;cases s2;have o3:=o2.move sm (kk _ _ sk o2);rw[ho.Cj o3];exact o2
 exact E.apart i j c c' v v' fp ah hi hj si sj (key i c v fp hi si ki h) (key j c' v' ah hj sj kj h') ae
def Ao.same {K}(E:Ao K P0 P H σ ρ)(e:Ah H H'):Ao K P0 P H' σ ρ:=
 ⟨E.sub,λ a h=>(E.BU a h).same e,λ i d h=>let ⟨v,h1,h2⟩:=E.val i d h;⟨v,h1,h2.mono e.del⟩,
  λ i c h io=>let ⟨v,fp,h1,h2,h3,h4⟩:=E.ows i c h io;⟨v,fp,h1,h2.same e,h3,h4⟩,
  λ i j c c' v v' fp ah hi hj si sj h h' ae=>E.eL e.del (λ v fp _ o a ha=>by obtain⟨xs,q⟩:=o.at a ha;rw[q];exact e _ _ q) (λ v fp _ o a ha=>by obtain⟨xs,q⟩:=o.at a ha;rw[q];exact e _ _ q) hi hj si sj h h' ae,E.len,E.pin⟩
abbrev gV (K:za0)(WX:Str->Hp->Prop)(P:Addr->Prop)(H:Hp)(Q:VK):M D->Prop
 | .ok d=>∀v H',Ah H H'->BV K (del H' P) v d->Q v H'
 | .ex x=>∀H',Ah H H'->WX x H'
 | .bad=>False
abbrev gA (K:za0)(WX:Str->Hp->Prop)(P:Addr->Prop)(H:Hp)(Q:List V->Hp->Prop):M (List D)->Prop
 | .ok d=>∀v H',Ah H H'->Ak K (del H' P) v d->Q v H'
 | .ex x=>∀H',Ah H H'->WX x H'
 | .bad=>False
abbrev gT (WX:Str->Hp->Prop)(H:Hp)(Q:Bool->Hp->Prop):M Bool->Prop
 | .ok b=>∀H',Ah H H'->Q b H'
 | .ex x=>∀H',Ah H H'->WX x H'
 | .bad=>False
section
variable {K:za0}{P:Addr->Prop}{H':Hp}
def gV.same (h:gV K WX P H Q m)(e:Ah H H'):gV K WX P H' Q m:=by
 cases m with
 |ok d=>exact λ v H2 q hv=>h v H2 (e.trans q) hv
 |ex x=>exact λ H2 q=>h H2 (e.trans q)
 |bad=>exact h
def gA.same (h:gA K WX P H Q m)(e:Ah H H'):gA K WX P H' Q m:=by
 cases m with
 |ok d=>exact λ v H2 q hv=>h v H2 (e.trans q) hv
 |ex x=>exact λ H2 q=>h H2 (e.trans q)
 |bad=>exact h
def gT.same (h:gT WX H Q m)(e:Ah H H'):gT WX H' Q m:=by
 cases m with
 |ok d|ex x=>exact λ H2 q=>h H2 (e.trans q)
 |bad=>exact h
end
abbrev Lv (c:Bool)(P0:DV)(P:Addr->Prop):Addr->Prop:=if c=true then P else P0.pr
abbrev DE (X:Cx)(WX:Str->Hp->Prop)(c:Bool)(e:Expr)(f:Ae->M D):Prop:=
 ∃t,PE X e t/\∀P0 P σ H Q ρ,Ao X.K P0 P H σ ρ->gV X.K WX (Lv c P0 P) H Q (f ρ)->t σ H Q
abbrev DA (X:Cx)(WX:Str->Hp->Prop)(c:Bool)(es:List Expr)(f:Ae->M (List D)):Prop:=
 ∃t,PA X es t/\(∀P0 P σ H Q ρ,Ao X.K P0 P H σ ρ->gA X.K WX (Lv c P0 P) H Q (f ρ)->t σ H Q)/\∀ρ ds,f ρ=.ok ds->ds.length=es.length
abbrev DT (X:Cx)(WX:Str->Hp->Prop)(e:Expr)(f:Ae->M Bool):Prop:=
 ∃t,PT X e t/\∀P0 P σ H Q ρ,Ao X.K P0 P H σ ρ->gT WX H Q (f ρ)->t σ H Q
abbrev DW (X:Cx)(WX:Str->Hp->Prop)(e:Expr)(f:Ae->M Bool):Prop:=
 ∃t,PW X e t/\∀P0 P σ H Q ρ,Ao X.K P0 P H σ ρ->gT WX H Q (f ρ)->t σ H Q
def DW.dt (h:DW X WX e f):DT X WX e f:=let ⟨t,h1,h2⟩:=h;⟨t,h1.pt,h2⟩
section
variable {c:Bool}{P0:DV}{P:Addr->Prop}
def Ao.lv (E:Ao X.K P0 P H σ ρ)(c:Bool):∀a,Lv c P0 P a->P a:=λ a h=>by
 cases c with
 |true=>exact h
 |false=>exact E.sub a h
def Ao.yB (E:Ao X.K P0 P H σ ρ)(c:Bool):∀a,Lv c P0 P a->EA H a:=λ a h=>E.BU a (E.lv c a h)
def We (h:DE X WX true e f):DE X WX false e f:=by
 obtain⟨t,h1,h2⟩:=h;refine⟨t,h1,λ P0 P σ H Q ρ E g=>h2 P0 P σ H Q ρ E ?_⟩;cases e:f ρ with
 |ok d=>rw[e] at g;exact λ v H' s hv=>g v H' s (hv.mono (D6 E.sub))
 |ex x|bad=>rw[e] at g;exact g
abbrev yC:D->Bool
 | .tup _ | .lst _ | .LO _ | .BG _ _ _ | .ins _ _ _=>false
 |_=>true
abbrev fl (m:M D):M D:=m.bind λ d=>if yC d=true then .ok d else .bad
abbrev rv (i:Nat)(ρ:Ae):M D:=match ρ[i]? with | some (some (.val d))=>.ok d | _=>.bad
abbrev ra (i:Nat)(ρ:Ae):M D:=match ρ[i]? with | some (some (.val d))=>.ok d | some (some (.own ds))=>.ok (.lst ds) | some (some (.ow (.rows C3)))=>.ok (.lst (C3.map D.lst)) | some (some (.ow (.N5 _ ds)))=>.ok (.lst ds) | some (some (.ow (.tree _ t)))=>.ok (er t) | _=>.bad
def tK (i:Nat)(h:PE X (.Name x pos) (O3 i)):DE X WX true (.Name x pos) (rv i):=by
 refine⟨_,h,λ P0 P σ H Q ρ E g=>?_⟩;unfold rv at g;split at g
 ·rename_i d e;obtain⟨v,h1,h2⟩:=E.val i d e;exact⟨v,h1,g v H (Ah.refl H) h2⟩
 ·exact g.elim
def A4 {i j pos}:DE X WX c (.Constant (.int i) j pos) (λ _=>.ok (.int i)):=⟨_,rO,λ P0 P σ H Q ρ E g=>g _ H (Ah.refl H) (.int i)⟩
def CG {b j pos}:DE X WX c (.Constant (.bool b) j pos) (λ _=>.ok (.bl b)):=⟨_,wQ,λ P0 P σ H Q ρ E g=>g _ H (Ah.refl H) (.bl b)⟩
def Cw {j pos}:DE X WX c (.Constant .none j pos) (λ _=>.ok .AL):=⟨_,rQ,λ P0 P σ H Q ρ E g=>g _ H (Ah.refl H) .AL⟩
abbrev XF (K:za0)(WX:Str->Hp->Prop)(r:R2)(aO:D->D->M D):Prop:=
 ∀(P:Addr->Prop) (H:Hp) (x y:D) (v w:V) (Q:VK),(∀a,P a->EA H a)->BV K (del H P) v x->BV K (del H P) w y->gV K WX P H Q (aO x y)->r v w H Q
variable {a b:Expr}{f:Ae->M D}
def Ud (ha:∀P0 P σ H Q ρ,Ao X.K P0 P H σ ρ->gV X.K WX (Lv c P0 P) H Q (f ρ)->ta σ H Q)(hb:∀P0 P σ H Q ρ,Ao X.K P0 P H σ ρ->gV X.K WX (Lv c P0 P) H Q (g ρ)->tb σ H Q)(hr:XF X.K WX r aO)(E:Ao X.K P0 P H σ ρ)(h:gV X.K WX (Lv c P0 P) H Q ((f ρ).bind λ x=>(g ρ).bind λ y=>aO x y)):vU r ta tb σ H Q:=by
 refine ha P0 P σ H _ ρ E ?_;cases e:f ρ with
 |bad|ex x=>rw[e] at h;exact h
 |ok x =>
  rw[e] at h;intro v H1 s1 hv;refine hb P0 P σ H1 _ ρ (E.same s1) ?_;cases e2:g ρ with
  |bad=>rw[e2] at h;exact h
  |ex y=>rw[e2] at h;exact gV.same (m:=.ex y) h s1
  |ok y =>
   rw[e2] at h;intro w H2 s2 hw;exact hr _ H2 x y v w Q (λ a q=>((E.same s1).same s2).yB c a q) (hv.mono s2.del) hw ((gV.same h s1).same s2)
def R4 (ho:Gf X (binaryOp op) r)(hr:XF X.K WX r aO)(ha:DE X WX c a f)(hb:DE X WX c b g):DE X WX c (.BinOp a op b pos) (λ ρ=>(f ρ).bind λ x=>(g ρ).bind λ y=>aO x y):=by
 obtain⟨ta,a1,a2⟩:=ha;obtain⟨tb,b1,b2⟩:=hb;exact⟨_,cW ho a1 b1,λ P0 P σ H Q ρ E h=>Ud a2 b2 hr E h⟩
def eM (ho:Gf X (compareOp op) r)(hr:XF X.K WX r aO)(ha:DE X WX c a f)(hb:DE X WX c b g)(hm:behindInMarks op b=false):DE X WX c (.Compare a [op] [b] pos) (λ ρ=>(f ρ).bind λ x=>(g ρ).bind λ y=>aO x y):=by
 obtain⟨ta,a1,a2⟩:=ha;obtain⟨tb,b1,b2⟩:=hb;exact⟨_,kN ho a1 b1 hm,λ P0 P σ H Q ρ E h=>Ud a2 b2 hr E h⟩
def yD (ho:kX X r)(hr:XF X.K WX r aO)(ha:DE X WX c a f)(hb:DE X WX c b g)(hs:Gh b):DE X WX c (.Subscript a b pos) (λ ρ=>(f ρ).bind λ x=>(g ρ).bind λ y=>aO x y):=by
 obtain⟨ta,a1,a2⟩:=ha;obtain⟨tb,b1,b2⟩:=hb;exact⟨_,TY ho a1 b1 hs,λ P0 P σ H Q ρ E h=>Ud a2 b2 hr E h⟩
abbrev Bl (k:Int->Int->M D)(x y:D):M D:=match x,y with | .int i,.int j=>k i j | _,_=>.bad
def BV.int_inv {K}(h:BV K H v (.int i)):v=.int i:=by cases h;rfl
def BV.Oo {K}(h:BV K H v (.bl i)):v=.bl i:=by cases h;rfl
def Sk {C:Int->Int->Prop}{gv:Int->Int->V}{gd:Int->Int->D}[∀i j,Decidable (C i j)](hg:∀i j K H,BV K H (gv i j) (gd i j)):XF X.K WX (rI C gv) (Bl λ i j=>if C i j then .ok (gd i j) else .bad):=by
 intro P H x y v w Q ht hx hy h;unfold Bl at h;split at h
 ·rename_i i j;rw[hx.int_inv,hy.int_inv];dsimp only at h;by_cases hc:C i j
  ·rw[if_pos hc] at h;exact⟨i,j,rfl,rfl,hc,h _ H (Ah.refl H) (hg i j _ _)⟩
  ·rw[if_neg hc] at h;exact h.elim
 ·exact h.elim
def Np {gd:Int->Int->D}(hg:∀i j K H,BV K H (gv i j) (gd i j)):XF X.K WX (cG gv) (Bl λ i j=>.ok (gd i j)):=by
 intro P H x y v w Q ht hx hy h;unfold Bl at h;split at h
 ·rename_i i j;rw[hx.int_inv,hy.int_inv];exact⟨i,j,rfl,rfl,h _ H (Ah.refl H) (hg i j _ _)⟩
 ·exact h.elim
instance (i j:Int):Decidable (cX i j):=by unfold cX;infer_instance
instance (i j:Int):Decidable (kL i j):=by unfold kL;infer_instance
instance (i j:Int):Decidable (cY i j):=by unfold cY;infer_instance
abbrev tL:=Bl λ i j=>.ok (.int (i+j))
abbrev yE:=Bl λ i j=>.ok (.int (i-j))
abbrev Hl:=Bl λ i j=>if 0<j then .ok (.int (i%j)) else .bad
abbrev GU:=Bl λ i j=>if cX i j then .ok (.int (i / j)) else .bad
abbrev Z3:=Bl λ i j=>if kL i j then .ok (.int (i^j.toNat)) else .bad
abbrev dLt:=Bl λ i j=>.ok (.bl (decide (i<j)))
abbrev dLe:=Bl λ i j=>.ok (.bl (decide (i<=j)))
abbrev dGt:=Bl λ i j=>.ok (.bl (decide (j<i)))
abbrev dGe:=Bl λ i j=>.ok (.bl (decide (j<=i)))
def C7 (ha:DE X WX c a f)(hb:DE X WX c b g):DE X WX c (.BinOp a .Add b pos) (λ ρ=>(f ρ).bind λ x=>(g ρ).bind λ y=>tL x y):=R4 sG (Np λ _ _ _ _=>.int _) ha hb
def Sl (ha:DE X WX c a f)(hb:DE X WX c b g):DE X WX c (.BinOp a .Sub b pos) (λ ρ=>(f ρ).bind λ x=>(g ρ).bind λ y=>yE x y):=R4 sH (Np λ _ _ _ _=>.int _) ha hb
def C8 (ha:DE X WX c a f)(hb:DE X WX c b g):DE X WX c (.BinOp a .Mod b pos) (λ ρ=>(f ρ).bind λ x=>(g ρ).bind λ y=>Hl x y):=R4 sI (Sk λ _ _ _ _=>.int _) ha hb
def D8 (ha:DE X WX c a f)(hb:DE X WX c b g):DE X WX c (.BinOp a .FloorDiv b pos) (λ ρ=>(f ρ).bind λ x=>(g ρ).bind λ y=>GU x y):=R4 kM (Sk λ _ _ _ _=>.int _) ha hb
def eO (ha:DE X WX c a f)(hb:DE X WX c b g):DE X WX c (.BinOp a .Pow b pos) (λ ρ=>(f ρ).bind λ x=>(g ρ).bind λ y=>Z3 x y):=R4 sJ (Sk λ _ _ _ _=>.int _) ha hb
abbrev eQ (n:Nat)(x y:D):M D:=if Si x<=n/\CF x=true/\CF y=true then .ok (.bl (Bv x y)) else .bad
abbrev XG (n:Nat)(x y:D):M D:=if Si x<=n/\CF x=true/\CF y=true then .ok (.bl (!Bv x y)) else .bad
def eR (hu:X.A.units+n<cLine):XF X.K WX (lO X.K X.A false) (eQ n):=by
 intro P H x y v w Q ht hx hy h;unfold eQ at h;by_cases hd:Si x<=n/\CF x=true/\CF y=true
 ·rw[if_pos hd] at h;exact⟨x,y,hx.mono EH,hy.mono EH,by omega,hd.2.1,hd.2.2,h _ H (Ah.refl H) (.bl _)⟩
 ·rw[if_neg hd] at h;exact h.elim
def tM (hu:X.A.units+n<cLine):XF X.K WX (lO X.K X.A true) (XG n):=by
 intro P H x y v w Q ht hx hy h;unfold XG at h;by_cases hd:Si x<=n/\CF x=true/\CF y=true
 ·rw[if_pos hd] at h;exact⟨x,y,hx.mono EH,hy.mono EH,by omega,hd.2.1,hd.2.2,h _ H (Ah.refl H) (.bl _)⟩
 ·rw[if_neg hd] at h;exact h.elim
def Ue (hu:X.A.units+n<cLine)(ha:DE X WX c a f)(hb:DE X WX c b g):DE X WX c (.Compare a [.Eq] [b] pos) (λ ρ=>(f ρ).bind λ x=>(g ρ).bind λ y=>eQ n x y):=eM eK (eR hu) ha hb (Jy _)
abbrev AZ:D->Bool
 | .AL=>true
 |_=>false
def BV.isN {K}(h:BV K H v d):decide (v=.AL)=AZ d:=by
 cases h<;>simp[AZ]
def Wf {j pos'}(ha:DE X WX c a f):DE X WX c (.Compare a [.Is] [.Constant .none j pos'] pos) (λ ρ=>(f ρ).bind λ x=>.ok (.bl (AZ x))):=by
 obtain⟨ta,a1,a2⟩:=ha;refine⟨_,rR (cO a1),λ P0 P σ H Q ρ E h=>?_⟩;dsimp only at h;refine a2 P0 P σ H _ ρ E ?_;cases e:f ρ with
 |bad|ex x=>rw[e] at h;exact h
 |ok x=>rw[e] at h;exact λ v H1 s1 hv=>h _ H1 s1 (by rw[hv.isN];exact .bl _)
abbrev lP (x y:D):M D:=match x,y with
 | .tup ds,.int i| .lst ds,.int i=>(match S7 ds i with|some d=>.ok d|none=>.bad)
 |_,_=>.bad
def Ak.S7 {K}(h:Ak K H xs ds)(e:L2.S7 ds i=some d):∃v,L2.S7 xs i=some v/\BV K H v d:=by
 unfold L2.S7 at e ⊢;rw[<-h.length] at e;cases q:Nn xs.length i with
 |none=>rw[q] at e;cases e
 |some j =>
  rw[q] at e;exact h.get e
def Dr.B8 {K}{a}(h:Dr K (del H P) a xs):Dr K H a xs:=EH.seq h
def Fj.B8 {K}{a}(h:Fj K (del H P) a xs):Fj K H a xs:=EH.aa1 h
def Hx:XF X.K WX (λ x y H Q=>sS X.K x y H Q\/sT X.K x y H Q) lP:=by
 intro P H x y v w Q ht hx hy h;unfold lP at h;split at h
 ·rename_i ds i;split at h
  ·rename_i d e;cases hy;cases hx with
   |tup hs hl =>
    obtain⟨u,h1,h2⟩:=hl.S7 e;exact .inr ⟨_,_,i,u,rfl,rfl,Fj.of (An hs).2,h1,h _ H (Ah.refl H) h2⟩
  ·exact h.elim
 ·rename_i ds i;split at h
  ·rename_i d e;cases hy;cases hx with
   |lst hs hl =>
    obtain⟨u,h1,h2⟩:=hl.S7 e;exact .inl ⟨_,_,i,u,rfl,rfl,hs.B8,h1,h _ H (Ah.refl H) h2⟩
  ·exact h.elim
 ·exact h.elim
def A7:DA X WX c [] (λ _=>.ok []):=⟨_,Cv,λ P0 P σ H Q ρ E h=>h [] H (Ah.refl H) .nil,λ ρ ds h=>by cases h;rfl⟩
def A2 (he:DE X WX c e f)(hr:DA X WX c es fs)(hs: ~~~(starEach (e::es) X.env=(false,eval e X.env)::starEach es X.env)):
 DA X WX c (e::es) (λ ρ=>(f ρ).bind λ d=>(fs ρ).bind λ ds=>.ok (d::ds)):=by
 obtain⟨te,e1,e2⟩:=he;obtain⟨tr,r1,r2,r3⟩:=hr;refine⟨_,Bd e1 r1 hs,λ P0 P σ H Q ρ E h=>?_,λ ρ ds h=>?_⟩
 rotate_left
 ·dsimp only at h;cases q:f ρ with
  |bad|ex x=>rw[q] at h;cases h
  |ok x =>
   rw[q] at h;cases q2:fs ρ with
   |bad|ex x=>rw[q2] at h;cases h
   |ok xs =>
    rw[q2] at h;cases h;rw[za8,za8,r3 ρ xs q2]
 dsimp only at h;refine e2 P0 P σ H _ ρ E ?_;cases q:f ρ with
 |bad|ex x=>rw[q] at h;exact h
 |ok x =>
  rw[q] at h;intro v H1 s1 hv;refine r2 P0 P σ H1 _ ρ (E.same s1) ?_;cases q2:fs ρ with
  |bad=>rw[q2] at h;exact h
  |ex y=>rw[q2] at h;exact gA.same (m:=.ex y) h s1
  |ok ds =>
   rw[q2] at h;exact λ vs H2 s2 aA=>h _ H2 (s1.trans s2) (.cons (hv.mono s2.del) aA)
def Kb (hn:H p=none)(ht:∀a,P a->EA H a):del (upd H p o) P p=some o:=by
 rw[Ay λ z=>(ht p z).no hn];exact Am
def AG {x1}(ha:DA X WX c es fs)(hz:es.length<=1000:=by decide):DE X WX c (.Tuple es x1 pos) (λ ρ=>(fs ρ).bind λ ds=>if ds.length<=1000 then .ok (.tup ds) else .bad):=by
 obtain⟨ta,a1,a2,a3⟩:=ha;refine⟨_,W0 a1,λ P0 P σ H Q ρ E h=>?_⟩;dsimp only at h;refine a2 P0 P σ H _ ρ E ?_;cases q:fs ρ with
 |bad|ex y=>rw[q] at h;exact h
 |ok ds =>
  rw[q] at h;simp only[M.A9] at h;by_cases hd:ds.length<=1000
  ·rw[if_pos hd] at h;intro vs H1 s1 aA;refine⟨zbp (AA (by rw[aA.length];exact hd)),λ p hp=>h _ _ (s1.trans (AH hp _)) (.tup (Kb hp λ a q=>(E.same s1).yB c a q) (aA.mono (AH hp _).del))⟩
  ·rw[if_neg hd] at h;exact h.elim
def Hy (ha:DA X WX c es fs):DE X WX c (.List es pos) (λ ρ=>(fs ρ).bind λ ds=>if ds.length<=1000 then .ok (.lst ds) else .bad):=by
 obtain⟨ta,a1,a2,a3⟩:=ha;refine⟨_,W3 a1,λ P0 P σ H Q ρ E h=>?_⟩;dsimp only at h;refine a2 P0 P σ H _ ρ E ?_;cases q:fs ρ with
 |bad|ex y=>rw[q] at h;exact h
 |ok ds =>
  rw[q] at h;simp only[M.A9] at h;by_cases hd:ds.length<=1000
  ·rw[if_pos hd] at h;intro vs H1 s1 aA;refine⟨zbp (AA (by rw[aA.length];exact hd)),λ p hp=>h _ _ (s1.trans (AH hp _)) (.lst (.of (Kb hp λ a q=>(E.same s1).yB c a q)) (aA.mono (AH hp _).del))⟩
  ·rw[if_neg hd] at h;exact h.elim
end
abbrev Qq (d:D):M Bool:=match d with | .bl b=>.ok b | _=>.bad
section
variable {c:Bool}{P0:DV}{P:Addr->Prop}{a b:Expr}{f:Ae->M D}
def pX {K}(h:gT WX H Q (m.bind Qq)):gV K WX P H (λ x H'=>∃k,x=.bl k/\Q k H') m:=by
 cases m with
 |bad|ex x=>exact h
 |ok d =>
  intro v H' s hv;simp only[M.A9] at h;unfold Qq at h;split at h
  ·rename_i b;exact⟨b,hv.Oo,h H' s⟩
  ·exact h.elim
def Gk (ho:Gf X (compareOp op) r)(hr:XF X.K WX r aO)(ha:DE X WX c a f)(hb:DE X WX c b g)(hm:behindInMarks op b=false):DT X WX (.Compare a [op] [b] pos) (λ ρ=>((f ρ).bind λ x=>(g ρ).bind λ y=>aO x y).bind Qq):=by
 obtain⟨ta,a1,a2⟩:=ha;obtain⟨tb,b1,b2⟩:=hb;exact⟨_,kO ho a1 b1 hm,λ P0 P σ H Q ρ E h=>Ud a2 b2 hr E (pX h)⟩
def yF (ha:DE X WX c a f)(hb:DE X WX c b g):DT X WX (.Compare a [.Lt] [b] pos) (λ ρ=>((f ρ).bind λ x=>(g ρ).bind λ y=>dLt x y).bind Qq):=Gk cZ (Np λ _ _ _ _=>.bl _) ha hb (Jy _)
def yG (ha:DE X WX c a f)(hb:DE X WX c b g):DT X WX (.Compare a [.Gt] [b] pos) (λ ρ=>((f ρ).bind λ x=>(g ρ).bind λ y=>dGt x y).bind Qq):=Gk xH (Np λ _ _ _ _=>.bl _) ha hb (Jy _)
def Jd (hu:X.A.units+n<cLine)(ha:DE X WX c a f)(hb:DE X WX c b g):DT X WX (.Compare a [.Eq] [b] pos) (λ ρ=>((f ρ).bind λ x=>(g ρ).bind λ y=>eQ n x y).bind Qq):=Gk eK (eR hu) ha hb (Jy _)
def Fl (hu:X.A.units+n<cLine)(ha:DE X WX c a f)(hb:DE X WX c b g):DT X WX (.Compare a [.NotEq] [b] pos) (λ ρ=>((f ρ).bind λ x=>(g ρ).bind λ y=>XG n x y).bind Qq):=Gk tJ (tM hu) ha hb (Jy _)
def Eb {j pos'}(ha:DE X WX c a f):DT X WX (.Compare a [.Is] [.Constant .none j pos'] pos) (λ ρ=>(f ρ).bind λ x=>.ok (AZ x)):=by
 obtain⟨ta,a1,a2⟩:=ha;refine⟨_,cP (cO a1),λ P0 P σ H Q ρ E h=>?_⟩;dsimp only at h;refine a2 P0 P σ H _ ρ E ?_;cases e:f ρ with
 |bad|ex x=>rw[e] at h;exact h
 |ok x=>rw[e] at h;exact λ v H1 s1 hv=>⟨_,rfl,by rw[hv.isN];exact h H1 s1⟩
def Gm {j pos'}(ha:DE X WX c a f):DT X WX (.Compare a [.IsNot] [.Constant .none j pos'] pos) (λ ρ=>(f ρ).bind λ x=>.ok (!AZ x)):=by
 obtain⟨ta,a1,a2⟩:=ha;refine⟨_,cP (kH a1),λ P0 P σ H Q ρ E h=>?_⟩;dsimp only at h;refine a2 P0 P σ H _ ρ E ?_;cases e:f ρ with
 |bad|ex x=>rw[e] at h;exact h
 |ok x=>rw[e] at h;exact λ v H1 s1 hv=>⟨_,rfl,by rw[hv.isN];exact h H1 s1⟩
def By (ha:DT X WX a ft):DT X WX (.UnaryOp .Not a pos) (λ ρ=>(ft ρ).bind λ b=>.ok (!b)):=by
 obtain⟨ta,a1,a2⟩:=ha;refine⟨_,rS a1,λ P0 P σ H Q ρ E h=>?_⟩;dsimp only at h;refine a2 P0 P σ H _ ρ E ?_;cases e:ft ρ with
 |bad|ex x=>rw[e] at h;exact h
 |ok x=>rw[e] at h;exact λ H1 s1=>h H1 s1
def IG (ha:DT X WX a ft):DW X WX (.BoolOp .And [a] pos) ft:=let ⟨ta,a1,a2⟩:=ha;⟨_,pw_and1 a1,a2⟩
def Cg (ha:DT X WX a ft):DW X WX (.BoolOp .Or [a] pos) ft:=let ⟨ta,a1,a2⟩:=ha;⟨_,pw_or1 a1,a2⟩
def LY {rest}(ha:DT X WX a ft)(hb:DW X WX (.BoolOp .And (b::rest) pos) gt):DW X WX (.BoolOp .And (a::b::rest) pos) (λ ρ=>(ft ρ).bind λ k=>if k=true then gt ρ else .ok false):=by
 obtain⟨ta,a1,a2⟩:=ha;obtain⟨tb,b1,b2⟩:=hb;refine⟨_,pw_and a1 b1,λ P0 P σ H Q ρ E h=>?_⟩;dsimp only at h;refine a2 P0 P σ H _ ρ E ?_;cases e:ft ρ with
 |bad|ex x=>rw[e] at h;exact h
 |ok k =>
  rw[e] at h;intro H1 s1;cases k with
  |true =>
   simp only[M.A9,if_true] at h ⊢;exact b2 P0 P σ H1 _ ρ (E.same s1) (h.same s1)
  |false =>
   simp only[M.A9,zb0,if_false] at h ⊢;exact h H1 s1
def CH {rest}(ha:DT X WX a ft)(hb:DW X WX (.BoolOp .Or (b::rest) pos) gt):DW X WX (.BoolOp .Or (a::b::rest) pos) (λ ρ=>(ft ρ).bind λ k=>if k=true then .ok true else gt ρ):=by
 obtain⟨ta,a1,a2⟩:=ha;obtain⟨tb,b1,b2⟩:=hb;refine⟨_,pw_or a1 b1,λ P0 P σ H Q ρ E h=>?_⟩;dsimp only at h;refine a2 P0 P σ H _ ρ E ?_;cases e:ft ρ with
 |bad|ex x=>rw[e] at h;exact h
 |ok k =>
  rw[e] at h;intro H1 s1;cases k with
  |true =>
   simp only[M.A9,if_true] at h ⊢;exact h H1 s1
  |false =>
   simp only[M.A9,zb0,if_false] at h ⊢;exact b2 P0 P σ H1 _ ρ (E.same s1) (h.same s1)
def Oq {op}(ha:DE X WX c a f):DE X WX c (.BoolOp op [a] pos) f:=let ⟨ta,a1,a2⟩:=ha;⟨_,rT a1,a2⟩
def Ot {rest}(ha:DE X WX c a f)(hb:DE X WX c (.BoolOp .And (b::rest) pos) g):DE X WX c (.BoolOp .And (a::b::rest) pos) (λ ρ=>((f ρ).bind Qq).bind λ k=>if k=true then g ρ else .ok (.bl false)):=by
 obtain⟨ta,a1,a2⟩:=ha;obtain⟨tb,b1,b2⟩:=hb;refine⟨_,rV a1 b1,λ P0 P σ H Q ρ E h=>?_⟩;dsimp only at h;refine a2 P0 P σ H _ ρ E ?_;cases e:f ρ with
 |bad|ex x=>rw[e] at h;exact h
 |ok d =>
  rw[e] at h;simp only[M.A9] at h;unfold Qq at h;split at h
  ·rename_i k;intro v H1 s1 hv;refine⟨k,hv.Oo,?_⟩;cases k with
   |true =>
    simp only[M.A9,if_true] at h ⊢;exact b2 P0 P σ H1 _ ρ (E.same s1) (h.same s1)
   |false =>
    simp only[M.A9,zb0,if_false] at h ⊢;exact h _ H1 s1 (.bl _)
  ·exact h.elim
def yH {rest}(ha:DE X WX c a f)(hb:DE X WX c (.BoolOp .Or (b::rest) pos) g):DE X WX c (.BoolOp .Or (a::b::rest) pos) (λ ρ=>((f ρ).bind Qq).bind λ k=>if k=true then .ok (.bl true) else g ρ):=by
 obtain⟨ta,a1,a2⟩:=ha;obtain⟨tb,b1,b2⟩:=hb;refine⟨_,wW a1 b1,λ P0 P σ H Q ρ E h=>?_⟩;dsimp only at h;refine a2 P0 P σ H _ ρ E ?_;cases e:f ρ with
 |bad|ex x=>rw[e] at h;exact h
 |ok d =>
  rw[e] at h;simp only[M.A9] at h;unfold Qq at h;split at h
  ·rename_i k;intro v H1 s1 hv;refine⟨k,hv.Oo,?_⟩;cases k with
   |true =>
    simp only[M.A9,if_true] at h ⊢;exact h _ H1 s1 (.bl _)
   |false =>
    simp only[M.A9,zb0,if_false] at h ⊢;exact b2 P0 P σ H1 _ ρ (E.same s1) (h.same s1)
  ·exact h.elim
def tN (ha:DE X WX c a f):DE X WX c (.UnaryOp .Not a pos) (λ ρ=>((f ρ).bind Qq).bind λ k=>.ok (.bl (!k))):=by
 obtain⟨ta,a1,a2⟩:=ha;refine⟨_,rW a1,λ P0 P σ H Q ρ E h=>?_⟩;dsimp only at h;refine a2 P0 P σ H _ ρ E ?_;cases e:f ρ with
 |bad|ex x=>rw[e] at h;exact h
 |ok d =>
  rw[e] at h;simp only[M.A9] at h;unfold Qq at h;split at h
  ·rename_i k;exact λ v H1 s1 hv=>⟨k,hv.Oo,h _ H1 s1 (.bl _)⟩
  ·exact h.elim
def aa3 (ha:DE X WX c a f):DE X WX c (.UnaryOp .USub a pos) (λ ρ=>(f ρ).bind λ d=>match d with | .int i=>.ok (.int (-i)) | _=>.bad):=by
 obtain⟨ta,a1,a2⟩:=ha;refine⟨_,xF sL a1,λ P0 P σ H Q ρ E h=>?_⟩;dsimp only at h;refine a2 P0 P σ H _ ρ E ?_;cases e:f ρ with
 |bad|ex x=>rw[e] at h;exact h
 |ok d =>
  rw[e] at h;simp only[M.A9] at h;split at h
  ·rename_i i;exact λ v H1 s1 hv=>⟨i,hv.int_inv,h _ H1 s1 (.int _)⟩
  ·exact h.elim
def Z4 {p q:Int->Int->Bool}(ho:Gf X (compareOp op) (cG λ i j=>.bl (p i j)))(aM:Gf X (compareOp bu) (cG λ i j=>.bl (q i j)))(ha:DE X WX c a f)(hb:DE X WX c b g)(hd:DE X WX c d h)(hm:lastMarks [op,bu] [b,d]=false:=by with_unfolding_all rfl):DE X WX c (.Compare a [op,bu] [b,d] pos) (λ ρ=>(f ρ).bind λ x=>(g ρ).bind λ y=>Bl (λ i j=>if p i j=true then (h ρ).bind λ z=>Bl (λ _ k=>.ok (.bl (q j k))) (.int 0) z else .ok (.bl false)) x y):=by
 obtain⟨ta,a1,a2⟩:=ha;obtain⟨tb,b1,b2⟩:=hb;obtain⟨td,d1,d2⟩:=hd;refine⟨_,dC ho aM a1 b1 d1 hm,λ P0 P σ H Q ρ E hh=>?_⟩;dsimp only at hh;refine a2 P0 P σ H _ ρ E ?_;cases e:f ρ with
 |bad|ex x=>rw[e] at hh;exact hh
 |ok x =>
  rw[e] at hh;intro v H1 s1 hv;refine b2 P0 P σ H1 _ ρ (E.same s1) ?_;cases e2:g ρ with
  |bad=>rw[e2] at hh;exact hh
  |ex y=>rw[e2] at hh;exact gV.same (m:=.ex y) hh s1
  |ok y =>
   rw[e2] at hh;simp only[M.A9] at hh;unfold Bl at hh;split at hh
   ·rename_i i j;intro w H2 s2 hw;refine⟨i,j,hv.int_inv,hw.int_inv,p i j,rfl,?_⟩;dsimp only at hh;by_cases hp:p i j=true
    ·rw[if_pos hp] at hh ⊢;refine d2 P0 P σ H2 _ ρ ((E.same s1).same s2) ?_;cases e3:h ρ with
     |bad=>rw[e3] at hh;exact hh
     |ex z=>rw[e3] at hh;exact gV.same (gV.same (m:=.ex z) hh s1) s2
     |ok z =>
      rw[e3] at hh;simp only[M.A9] at hh;cases z with
      |int k=>exact λ u H3 s3 hu=>⟨j,k,hw.int_inv,hu.int_inv,hh _ H3 ((s1.trans s2).trans s3) (.bl _)⟩
      |_=>exact hh.elim
    ·rw[if_neg hp] at hh ⊢;exact hh _ H2 (s1.trans s2) (.bl _)
   ·exact hh.elim
abbrev Mu (K:za0)(WX:Str->Hp->Prop)(r:List V->Hp->VK->Prop)(dF:List D->M D):Prop:=
 ∀(P:Addr->Prop) (H:Hp) (ds:List D) (vs:List V) (Q:VK),(∀a,P a->EA H a)->Ak K (del H P) vs ds->gV K WX P H Q (dF ds)->r vs H Q
variable {x:Str}{p:Pos}{es:List Expr}{fs:Ae->M (List D)}{id T:String}{r:List V->Hp->VK->Prop}{dF:List D->M D}
def eS (ha:∀P0 P σ H Q ρ,Ao X.K P0 P H σ ρ->gA X.K WX (Lv c P0 P) H Q (fs ρ)->ta σ H Q)(hr:Mu X.K WX r dF)(E:Ao X.K P0 P H σ ρ)(h:gV X.K WX (Lv c P0 P) H Q ((fs ρ).bind dF)):tCB r ta σ H Q:=by
 refine ha P0 P σ H _ ρ E ?_;cases e:fs ρ with
 |bad|ex x=>rw[e] at h;exact h
 |ok ds =>
  rw[e] at h;exact λ vs H1 s1 aA=>hr _ H1 ds vs Q (λ a q=>(E.same s1).yB c a q) aA (h.same s1)
def Kc (hc:GS X (.builtin id) r)(hr:Mu X.K WX r dF)(hg:Gl X x)(hm:X.mg x=none)(hv:bootBuiltins x=some (.builtin id))(ha:DA X WX c (e::es) fs)(hn:x ≠ "__name__" := by decide)(aU:(x==("__debug__" : Str))=false:=by decide)(he: ~~~(starEach (e::es) X.env=(false,eval e X.env)::starEach es X.env))(hpl: ~~~((backTo pos (starEach es X.env)).any (·.1)=false)):DE X WX c (.Call (.Name x p) (e::es) [] pos) (λ ρ=>(fs ρ).bind dF):=by
 obtain⟨ta,a1,a2,a3⟩:=ha;exact⟨_,TV hc hg hm hv a1 hn aU he hpl,λ P0 P σ H Q ρ E h=>eS a2 hr E h⟩
def Z5 (hc:GS X (.type T) r)(hr:Mu X.K WX r dF)(hg:Gl X x)(hm:X.mg x=none)(hv:bootBuiltins x=some (.type T))(ha:DA X WX c (e::es) fs)(hn:x ≠ "__name__" := by decide)(aU:(x==("__debug__" : Str))=false:=by decide)(he: ~~~(starEach (e::es) X.env=(false,eval e X.env)::starEach es X.env))(hpl: ~~~((backTo pos (starEach es X.env)).any (·.1)=false)):DE X WX c (.Call (.Name x p) (e::es) [] pos) (λ ρ=>(fs ρ).bind dF):=by
 obtain⟨ta,a1,a2,a3⟩:=ha;exact⟨_,LS hc hg hm hv a1 hn aU he hpl,λ P0 P σ H Q ρ E h=>eS a2 hr E h⟩
abbrev Wg (ds:List D):M D:=match ds with
 |[.lst xs]|[.tup xs]=>.ok (.int xs.length)
 |_=>.bad
def Ak.one {K}(h:Ak K H vs [d]):∃v,vs=[v]/\BV K H v d:=by
 cases h with
 |cons h t=>cases t;exact⟨_,rfl,h⟩
def Ak.two {K}{e}(h:Ak K H vs [d,e]):∃v w,vs=[v,w]/\BV K H v d/\BV K H w e:=by
 cases h with
 |cons h t =>
  obtain⟨w,rfl,hw⟩:=t.one;exact⟨_,w,rfl,h,hw⟩
def tO:Mu X.K WX (λ xs H Q=>∃p ys,xs=[.ref p]/\(Dr X.K H p ys\/Fj X.K H p ys)/\Q (.int ys.length) H) Wg:=by
 intro P H ds vs Q ht hl h;unfold Wg at h;split at h
 ·obtain⟨v,rfl,hv⟩:=hl.one;cases hv with
  |lst hs hh=>exact⟨_,_,rfl,.inl hs.B8,by rw[hh.length];exact h _ H (Ah.refl H) (.int _)⟩
 ·obtain⟨v,rfl,hv⟩:=hl.one;cases hv with
  |tup hs hh=>exact⟨_,_,rfl,.inr (Fj.of (An hs).2),by rw[hh.length];exact h _ H (Ah.refl H) (.int _)⟩
 ·exact h.elim
def D9 (hg:Gl X "len")(hm:X.mg "len" = none)(ha:DE X WX c e f)(hs: ~~~(starEach [e] X.env=[(false,eval e X.env)])):DE X WX c (.Call (.Name "len" p) [e] [] pos) (λ ρ=>((f ρ).bind λ d=>(M.ok []).bind λ ds=>.ok (d::ds)).bind Wg):=
 Kc Sa tO hg hm PySem.boot_len (A2 ha A7 hs) (he:=hs)
abbrev Wh (ds:List D):M D:=match ds with
 |[.lst xs]|[.tup xs]=>.ok (.tup xs)
 |_=>.bad
def eT:Mu X.K WX (λ xs H Q=>∃p ys,xs=[.ref p]/\((Dr X.K H p ys/\∀l,H l=none->Q (.ref l) (upd H l (.tup ys)))\/(Fj X.K H p ys/\Q (.ref p) H))) Wh:=by
 intro P H ds vs Q ht hl h;unfold Wh at h;split at h
 ·obtain⟨v,rfl,hv⟩:=hl.one;cases hv with
  |lst hs hh=>exact⟨_,_,rfl,.inl ⟨hs.B8,λ l hn=>h _ _ (AH hn _) (.tup (Kb hn ht) (hh.mono (AH hn _).del))⟩⟩
 ·obtain⟨v,rfl,hv⟩:=hl.one;cases hv with
  |tup hs hh=>exact⟨_,_,rfl,.inr ⟨Fj.of (An hs).2,h _ H (Ah.refl H) (.tup hs hh)⟩⟩
 ·exact h.elim
def eV (hg:Gl X "tuple")(hm:X.mg "tuple" = none)(ha:DE X WX c e f)(hb:bootBuiltins "tuple" = some (.type "tuple"):=by decide +kernel)(hs: ~~~(starEach [e] X.env=[(false,eval e X.env)])):DE X WX c (.Call (.Name "tuple" p) [e] [] pos) (λ ρ=>((f ρ).bind λ d=>(M.ok []).bind λ ds=>.ok (d::ds)).bind Wh):=
 Z5 Qo eT hg hm hb (A2 ha A7 hs) (he:=hs)
abbrev pY:D->String
 | .AL => "NoneType"
 | .bl _ => "bool"
 | .int _ => "int"
 | .str _ => "str"
 | .tup _ => "tuple"
 | .lst _ => "list"
 | .LO _ => "NoneType"
 | .BG _ _ _ => "dict"
 | .ins _ _ _ => "NoneType"
abbrev Fg (T:String)(d:D):Bool:=(pY d==T)||(pY d == "bool" && T == "int")
abbrev Je (T:String)(d:D):M D:=match d with
 | .LO _| .ins _ _ _=>.bad
 |d=>.ok (.bl (Fg T d))
abbrev yI:D->Bool
 | .LO _| .ins _ _ _=>true
 |_=>false
def eW (h:yI d=false):Je T d=.ok (.bl (Fg T d)):=by cases d<;>first | rfl | cases h
abbrev aa4 (K:za0)(T:String):List V->Hp->VK->Prop:=λ xs H Q=>∃x d,xs=[x,.ty T]/\BV K H x d/\yI d=false/\Q (.bl (Fg T d)) H
def eX (hk:∀d:D,PySem.W.kitOne X.K (.type (pY d)) (.type T)=some (Fg T d)):GS X (.builtin "isinstance") (aa4 X.K T):=by
 intro pins s σ H xs us Q I r h;obtain⟨x,d,rfl,hd,hx,q⟩:=h;obtain⟨u,w,rfl,rx,bh⟩:=r.two;cases bh;have fin:∀tk,EP X pins σ Q (.bool (Fg T d)) {s with toks:=tk}:=λ tk=>⟨.bl _,H,I.tok tk,rfl,q⟩;have e:=hk d;cases hd with
 |LO _ _|ins _ _ _=>cases hx
 |Tw hs hl =>
  cases rx;obtain⟨⟨o,h1,h2⟩,_,_⟩:=Wb I (.inl ⟨_,hs⟩);exact zcp PySem.W.kitx_dict I.Qe ⟨o,h1,h2⟩ e (λ z=>nomatch z) fin
 |Ua hs hl =>
  cases rx;obtain⟨⟨o,h1,h2⟩,_,_⟩:=Wb I (.inr ⟨_,hs⟩);exact zcp PySem.W.kitx_dict I.Qe ⟨o,h1,h2⟩ e (λ z=>nomatch z) fin
 |AL=>cases rx;exact zcp PySem.W.kitx_none I.Qe zcv e (λ z=>nomatch z) fin
 |bl b=>cases rx;exact zcp PySem.W.kitx_bool I.Qe zcv e (λ z=>nomatch z) fin
 |int b=>obtain⟨t,rfl⟩:=rx;exact zcp PySem.W.kitx_int I.Qe zcv e (λ z=>nomatch z) fin
 |str b=>obtain⟨t,rfl⟩:=rx;exact zcp PySem.W.kitx_str I.Qe zcv e (λ z=>nomatch z) fin
 |tup hs hl =>
  cases rx;obtain⟨_,_,⟨o,h1,h2,_⟩,_⟩:=I.tuple (.of hs);exact zcp PySem.W.kitx_tuple I.Qe ⟨o,h1,h2⟩ e (λ z=>nomatch z) fin
 |lst hs hl =>
  cases rx;obtain⟨_,_,⟨o,n,h1,h2,_⟩,_⟩:=I.list hs;exact zcp PySem.W.kitx_list I.Qe ⟨o,h1,h2⟩ e (λ z=>nomatch z) fin
def Dc (hk:∀d:D,PySem.W.kitOne X.K (.type (pY d)) (.type T)=some (Fg T d))(hg:Gl X "isinstance")(hm:X.mg "isinstance" = none)(dr:Gl X x2)(bd:X.mg x2=none)(jw:bootBuiltins x2=some (.type T))(ha:DE X WX c e f)(hb:bootBuiltins "isinstance" = some (.builtin "isinstance"):=by decide +kernel)(a5:x2 ≠ "__name__" := by decide)(qv:(x2==("__debug__" : Str))=false:=by decide)(hs: ~~~(starEach [e,.Name x2 p2] X.env=(false,eval e X.env)::starEach [.Name x2 p2] X.env))(a6: ~~~(starEach [.Name x2 p2] X.env=[(false,eval (.Name x2 p2) X.env)]))(hpl: ~~~((backTo pos (starEach [.Name x2 p2] X.env)).any (·.1)=false)):
 DE X WX c (.Call (.Name "isinstance" p) [e,.Name x2 p2] [] pos) (λ ρ=>(f ρ).bind λ d=>Je T d):=by
 obtain⟨ta,a1,a2⟩:=ha;refine⟨_,TV (eX hk) hg hm hb (Bd a1 (Bd (kG (v:=.ty T) dr bd jw rfl a5 qv) Cv a6) hs) (by decide) (by decide) hs hpl,λ P0 P σ H Q ρ E h=>?_⟩;dsimp only at h;refine a2 P0 P σ H _ ρ E ?_;refine XD h λ d h=>?_;cases hx:yI d with
 |true=>cases d<;>first|exact h.elim|cases hx
 |false =>
  rw[eW hx] at h;exact λ v H1 s1 hv=>⟨v,d,rfl,hv.mono EH,hx,h _ H1 s1 (.bl _)⟩
def Gn (K:za0)(d:D):PySem.W.kitOne K (.type (pY d)) (.type "tuple")=some (Fg "tuple" d):=by cases d<;>rfl
def IH (K:za0)(d:D):PySem.W.kitOne K (.type (pY d)) (.type "list")=some (Fg "list" d):=by cases d<;>rfl
def LZ (K:za0)(d:D):PySem.W.kitOne K (.type (pY d)) (.type "bool")=some (Fg "bool" d):=by cases d<;>rfl
def Ou (K:za0)(d:D):PySem.W.kitOne K (.type (pY d)) (.type "int")=some (Fg "int" d):=by cases d<;>rfl
abbrev vX (lo hi:Option Int)(d:D):M D:=match d with
 | .lst ds=>.ok (.lst ((ds.drop (HT.O9 ds.length 0 lo)).take (HT.O9 ds.length ds.length hi-HT.O9 ds.length 0 lo)))
 |_=>.bad
abbrev DO (X:Cx)(WX:Str->Hp->Prop)(c:Bool)(e:Option Expr)(f:Ae->M (Option Int)):Prop:=
 ∃t,PO X e t/\∀P0 P σ H Q ρ,Ao X.K P0 P H σ ρ->(match f ρ with | .ok o=>∀H',Ah H H'->Q o H' | .ex x=>∀H',Ah H H'->WX x H' | .bad=>False)->t σ H Q
def XH:DO X WX c none (λ _=>.ok none):=⟨_,kU,λ P0 P σ H Q ρ E h=>h H (Ah.refl H)⟩
abbrev asI (d:D):M (Option Int):=match d with | .int i=>.ok (some i) | _=>.bad
def Nq (ha:DE X WX c e f):DO X WX c (some e) (λ ρ=>(f ρ).bind asI):=by
 obtain⟨ta,a1,a2⟩:=ha;refine⟨_,kW a1,λ P0 P σ H Q ρ E h=>?_⟩;dsimp only at h;refine a2 P0 P σ H _ ρ E ?_;cases q:f ρ with
 |bad|ex x=>rw[q] at h;exact h
 |ok d =>
  rw[q] at h;cases d with
  |int i=>exact λ v H1 s1 hv=>⟨i,hv.int_inv,h H1 s1⟩
  |_=>exact h.elim
end
inductive Out where
 |ret (d:D)|next (ρ:Ae)|brk (ρ:Ae)|cont (ρ:Ae)|CO (c:Cl)|FU (t:OT) (ρ:Ae)
variable {g1 g2:Ae->M Out}
abbrev Tr (P0 P:Addr->Prop)(H:Hp)(P':Addr->Prop)(H':Hp):Prop:=Ah (del H P) (del H' P')/\∀a,P0 a->H' a=H a
def Tr.refl:Tr P0 P H P H:=⟨Ah.refl _,λ _ _=>rfl⟩
def Tr.trans (a:Tr P0 P H P1 H1)(b:Tr P0 P1 H1 P2 H2):Tr P0 P H P2 H2:=⟨a.1.trans b.1,λ x h=>(b.2 x h).trans (a.2 x h)⟩
def Ao.tr {K}(E:Ao K P0 P H σ ρ)(e:Ah H H'):Tr P0 P H P H':=
 ⟨e.del,λ a h=>by obtain⟨o,q,_⟩:=E.BU a (E.sub a h);rw[e a o q,q]⟩
abbrev gS (K:za0)(WX:Str->Hp->Prop)(P0:DV)(P:Addr->Prop)(H:Hp)(Z:Ends):M Out->Prop
 | .ok (.ret d)=>∀v H' P',Tr P0 P H P' H'->BV K (del H' P0) v d->Z.rt v H'
 | .ok (.next ρ)=>∀σ' H' P',Tr P0 P H P' H'->Ao K P0 P' H' σ' ρ->Z.nx σ' H'
 | .ok (.brk ρ)=>∀σ' H' P',Tr P0 P H P' H'->Ao K P0 P' H' σ' ρ->Z.bk σ' H'
 | .ok (.cont ρ)=>∀σ' H' P',Tr P0 P H P' H'->Ao K P0 P' H' σ' ρ->Z.ct σ' H'
 | .ok (.CO c)=>∀v fp H' P',Tr P0 P H P' H'->(∀a,P0 a->P' a)->(∀a,P' a->EA H' a)->D7 K H' P' c v fp->(∀a∈fp,P' a/\¬ P0 a)->fp.Nodup->Z.rt v H'
 | .ok (.FU t ρ)=>∀v fp σ' H' P',Tr P0 P H P' H'->Ao K P0 P' H' σ' ρ->C6 K H' P' v t fp->fp.Nodup->(∀a∈fp,P' a/\¬ P0 a/\∀(j:Nat) c v' fq,ρ[j]?=some (some c)->σ'[j]?=some (some v')->D7 K H' P' c v' fq->a∉fq)->Z.rt v H'
 | .ex x=>∀H' P',Tr P0 P H P' H'->WX x H'
 | .bad=>False
def gS.tr {K}(h:gS K WX P0 P H Z m)(t:Tr P0 P H P' H'):gS K WX P0 P' H' Z m:=by
 cases m with
 |bad=>exact h
 |ex x=>exact λ H2 P2 t2=>h H2 P2 (t.trans t2)
 |ok o =>
  cases o with
  |ret d=>exact λ v H2 P2 t2 hv=>h v H2 P2 (t.trans t2) hv
  |next ρ|brk ρ|cont ρ=>exact λ σ2 H2 P2 t2 hv=>h σ2 H2 P2 (t.trans t2) hv
  |CO c=>exact λ v fp H2 P2 t2=>h v fp H2 P2 (t.trans t2)
  |FU c ρ=>exact λ v fp σ2 H2 P2 t2=>h v fp σ2 H2 P2 (t.trans t2)
abbrev DS (X:Cx)(WX:Str->Hp->Prop)(st:Stmt)(g:Ae->M Out):Prop:=
 ∃t,PS X st t/\∀P0 P σ H Z ρ,Ao X.K P0 P H σ ρ->gS X.K WX P0 P H Z (g ρ)->t Z σ H
abbrev VI (X:Cx)(WX:Str->Hp->Prop)(st:List Stmt)(g:Ae->M Out):Prop:=
 ∃t,Xm X st t/\∀P0 P σ H Z ρ,Ao X.K P0 P H σ ρ->gS X.K WX P0 P H Z (g ρ)->t Z σ H
abbrev eY (m:M Out)(k:Ae->M Out):M Out:=match m with
 | .ok (.next ρ)=>k ρ
 |m=>m
section
variable {c:Bool}{P0:DV}{P:Addr->Prop}{a b:Expr}{f:Ae->M D}{st:Stmt}{rest:List Stmt}
def As:VI X WX [] (λ ρ=>.ok (.next ρ)):=⟨_,kI,λ P0 P σ H Z ρ E h=>h σ H P Tr.refl E⟩
def A5 (h:DS X WX st g1):VI X WX [st] g1:=let ⟨t,h1,h2⟩:=h;⟨_,kJ h1,h2⟩
def A3 (h:DS X WX st g1)(hr:VI X WX rest g2):VI X WX (st::rest) (λ ρ=>eY (g1 ρ) g2):=by
 obtain⟨t,h1,h2⟩:=h;obtain⟨u,r1,r2⟩:=hr;refine⟨_,cQ h1 r1,λ P0 P σ H Z ρ E h=>?_⟩;dsimp only at h;refine h2 P0 P σ H {Z with nx:=u Z} ρ E ?_;cases q:g1 ρ with
 |bad|ex x=>rw[q] at h;exact h
 |ok o =>
  rw[q] at h;cases o with
  |ret d|brk d|cont d|CO d|FU d ρ2=>exact h
  |next ρ'=>exact λ σ' H' P' t E'=>r2 P0 P' σ' H' Z ρ' E' (gS.tr h t)
def eZ (ha:DE X WX false e f):DS X WX (.Return (some e) pos) (λ ρ=>(f ρ).bind λ d=>.ok (.ret d)):=by
 obtain⟨ta,a1,a2⟩:=ha;refine⟨_,S2 a1,λ P0 P σ H Z ρ E h=>?_⟩;dsimp only at h;refine a2 P0 P σ H _ ρ E ?_;cases q:f ρ with
 |bad=>rw[q] at h;exact h
 |ex x=>rw[q] at h;exact λ H' s=>h H' P (E.tr s)
 |ok d=>rw[q] at h;exact λ v H' s hv=>h v H' P (E.tr s) hv
def AU {c}(hc:DT X WX c ft)(ha:VI X WX sa g1)(hb:VI X WX sb g2):DS X WX (.If c sa sb pos) (λ ρ=>(ft ρ).bind λ k=>if k=true then g1 ρ else g2 ρ):=by
 obtain⟨tc,c1,c2⟩:=hc;obtain⟨ta,a1,a2⟩:=ha;obtain⟨tb,b1,b2⟩:=hb;refine⟨_,xA c1 a1 b1,λ P0 P σ H Z ρ E h=>?_⟩;dsimp only at h;refine c2 P0 P σ H _ ρ E ?_;cases q:ft ρ with
 |bad=>rw[q] at h;exact h
 |ex x=>rw[q] at h;exact λ H' s=>h H' P (E.tr s)
 |ok k =>
  rw[q] at h;intro H1 s1;cases k with
  |true =>
   simp only[M.A9,if_true] at h ⊢;exact a2 P0 P σ H1 Z ρ (E.same s1) (h.tr (E.tr s1))
  |false =>
   simp only[M.A9,zb0,if_false] at h ⊢;exact b2 P0 P σ H1 Z ρ (E.same s1) (h.tr (E.tr s1))
def get_set {α:Type}{l:List α}{x y}(h:(l.set i x)[j]?=some y):(i=j/\i<l.length/\x=y)\/(i≠j/\l[j]?=some y):=by
 by_cases e:i=j
 ·subst e;rw[List.getElem?_set_self'] at h;cases q:l[i]? with
  |none=>rw[q] at h;cases h
  |some z =>
   rw[q] at h;exact .inl ⟨rfl,(zah.mp q).1,by simpa using h⟩
 ·rw[zbc e] at h;exact .inr ⟨e,h⟩
def Ao.Wi {K}(E:Ao K P0 P H σ ρ)(hv:BV K (del H P) v d):Ao K P0 P H (σ.set i (some v)) (ρ.set i (some (.val d))):=by
 have gs:∀ {j:Nat},i≠j->(σ.set i (some v))[j]?=σ[j]? :=λ h=>zbc h;refine⟨E.sub,E.BU,λ j e h=>?_,λ j c h io=>?_,λ j k c c' u u' fp ah h1 h2 h3 h4 h5 h6 ae=>?_,by rw[zbj,zbj];exact E.len,λ j c n h hp=>?_⟩
 rotate_left 3
 ·rcases get_set h with ⟨rfl,hl,e1⟩|⟨ae,h⟩
  ·cases e1;cases hp
  ·rw[gs ae];exact E.pin j c n h hp
 ·rcases get_set h with ⟨rfl,hl,e1⟩|⟨ae,h⟩
  ·cases e1;exact⟨v,zaz (by rw[E.len];exact hl),hv⟩
  ·obtain⟨w,h1,h2⟩:=E.val j e h;exact⟨w,by rw[gs ae];exact h1,h2⟩
 ·rcases get_set h with ⟨rfl,hl,e1⟩|⟨ae,h⟩
  ·cases e1;cases io
  ·obtain⟨w,fp,h1,h2⟩:=E.ows j c h io;exact⟨w,fp,by rw[gs ae];exact h1,h2⟩
 ·rcases get_set h1 with ⟨rfl,hl,e1⟩|⟨bH,h1⟩
  ·cases e1;exact h5.elim
  ·rcases get_set h2 with ⟨rfl,hl,e1⟩|⟨a5,h2⟩
   ·cases e1;exact h6.elim
   ·rw[gs bH] at h3;rw[gs a5] at h4;exact E.apart j k c c' u u' fp ah h1 h2 h3 h4 h5 h6 ae
def Ao.Z6 {K}(E:Ao K P0 P H σ ρ){c}(hs:∀a,P a->P' a)(ht:∀a,P' a->EA H' a)(sm:Ah (del H P) (del H' P'))(keep:∀(j:Nat) c' v' ah,i≠j->ρ[j]?=some (some c')->σ[j]?=some (some v')->D7 K H P c' v' ah->∀a∈ah,H' a=H a/\a∉fp)(new:D7 K H' P' c v fp)(hp:∀a∈fp,P' a/\¬ P0 a)(nd:fp.Nodup)(gw:∀n,R3 c=some n->v=.ref (P0.g n):=by intro n z;cases z):Ao K P0 P' H' (σ.set i (some v)) (ρ.set i (some c)):=by
 have gs:∀ {j:Nat},i≠j->(σ.set i (some v))[j]?=σ[j]? :=λ h=>zbc h;refine⟨λ a h=>hs a (E.sub a h),ht,λ j e h=>?_,λ j c' h io=>?_,λ j k c1 c2 u u' ax bG h1 h2 h3 h4 h5 h6 ae=>?_,by rw[zbj,zbj];exact E.len,λ j c' n h hp=>?_⟩
 rotate_left 3
 ·rcases get_set h with ⟨rfl,hl,e1⟩|⟨ae,h⟩
  ·cases e1;rw[zaz (by rw[E.len];exact hl),gw n hp]
  ·rw[gs ae];exact E.pin j c' n h hp
 ·rcases get_set h with ⟨rfl,hl,e1⟩|⟨ae,h⟩
  ·cases e1;exact new.elim
  ·obtain⟨w,h1,h2⟩:=E.val j e h;exact⟨w,by rw[gs ae];exact h1,h2.mono sm⟩
 ·rcases get_set h with ⟨rfl,hl,e1⟩|⟨ae,h⟩
  ·cases e1;exact⟨v,fp,zaz (by rw[E.len];exact hl),new,hp,nd⟩
  ·obtain⟨w,fq,h1,h2,h3,h4⟩:=E.ows j c' h io;exact⟨w,fq,by rw[gs ae];exact h1,h2.move sm λ a ha=>(keep j c' w fq ae h h1 h2 a ha).1,λ a ha=>⟨hs a (h3 a ha).1,(h3 a ha).2⟩,h4⟩
 ·have back:∀(l:Nat) (d:Cl) (w:V) (fq:List Addr),i≠l->ρ[l]?=some (some d)->σ[l]?=some (some w)->D7 K H' P' d w fq->∃fr,D7 K H P d w fr/\fr=fq:=λ l d w fq hn hk sk ho=>by
   have io:Hk d=true:=by cases d<;>first|rfl|exact ho.elim
   obtain⟨w',bG,s2,o2,_⟩:=E.ows l d hk io;rw[sk] at s2;cases s2;exact⟨bG,o2,(o2.move sm λ a ha=>(keep l d w bG hn hk sk o2 a ha).1).Cj ho⟩
  rcases get_set h1 with ⟨rfl,hl,e1⟩|⟨bH,h1⟩
  ·cases e1;rw[zaz (by rw[E.len];exact hl)] at h3;cases h3;rcases get_set h2 with ⟨e,_⟩|⟨a5,h2⟩
   ·exact (ae e).elim
   ·rw[gs a5] at h4;obtain⟨fr,o,rfl⟩:=back k c2 u' bG a5 h2 h4 h6;intro a ha hb;rw[new.Cj h5] at keep;exact (keep k c2 u' fr a5 h2 h4 o a hb).2 ha
  ·rw[gs bH] at h3;obtain⟨fr,o,rfl⟩:=back j c1 u ax bH h1 h3 h5;rcases get_set h2 with ⟨rfl,hl,e1⟩|⟨a5,h2⟩
   ·cases e1;rw[zaz (by rw[E.len];exact hl)] at h4;cases h4;intro a ha;rw[new.Cj h6] at keep;exact (keep j c1 u fr bH h1 h3 o a ha).2
   ·rw[gs a5] at h4;obtain⟨qw,o2,rfl⟩:=back k c2 u' bG a5 h2 h4 h6;exact E.apart j k c1 c2 u u' fr qw h1 h2 h3 h4 o o2 ae
def Ao.yJ {K}(E:Ao K P0 P H σ ρ){c}(hs:∀a,P0 a->P' a)(ht:∀a,P' a->EA H' a)(sm:Ah (del H P) (del H' P'))(keep:∀(j:Nat) c' v' ah,i≠j->ρ[j]?=some (some c')->σ[j]?=some (some v')->D7 K H P c' v' ah->∀a∈ah,H' a=H a/\a∉fp/\P' a)(new:D7 K H' P' c v fp)(hp:∀a∈fp,P' a/\¬ P0 a)(nd:fp.Nodup)(gw:∀n,R3 c=some n->v=.ref (P0.g n):=by intro n z;cases z):Ao K P0 P' H' (σ.set i (some v)) (ρ.set i (some c)):=by
 have gs:∀ {j:Nat},i≠j->(σ.set i (some v))[j]?=σ[j]? :=λ h=>zbc h;refine⟨hs,ht,λ j e h=>?_,λ j c' h io=>?_,λ j k c1 c2 u u' ax bG h1 h2 h3 h4 h5 h6 ae=>?_,by rw[zbj,zbj];exact E.len,λ j c' n h hp=>?_⟩
 rotate_left 3
 ·rcases get_set h with ⟨rfl,hl,e1⟩|⟨ae,h⟩
  ·cases e1;rw[zaz (by rw[E.len];exact hl),gw n hp]
  ·rw[gs ae];exact E.pin j c' n h hp
 ·rcases get_set h with ⟨rfl,hl,e1⟩|⟨ae,h⟩
  ·cases e1;exact new.elim
  ·obtain⟨w,h1,h2⟩:=E.val j e h;exact⟨w,by rw[gs ae];exact h1,h2.mono sm⟩
 ·rcases get_set h with ⟨rfl,hl,e1⟩|⟨ae,h⟩
  ·cases e1;exact⟨v,fp,zaz (by rw[E.len];exact hl),new,hp,nd⟩
  ·obtain⟨w,fq,h1,h2,h3,h4⟩:=E.ows j c' h io;exact⟨w,fq,by rw[gs ae];exact h1,h2.move sm λ a ha=>(keep j c' w fq ae h h1 h2 a ha).1,λ a ha=>⟨(keep j c' w fq ae h h1 h2 a ha).2.2,(h3 a ha).2⟩,h4⟩
 ·have back:∀(l:Nat) (d:Cl) (w:V) (fq:List Addr),i≠l->ρ[l]?=some (some d)->σ[l]?=some (some w)->D7 K H' P' d w fq->∃fr,D7 K H P d w fr/\fr=fq:=λ l d w fq hn hk sk ho=>by
   have io:Hk d=true:=by cases d<;>first|rfl|exact ho.elim
   obtain⟨w',bG,s2,o2,_⟩:=E.ows l d hk io;rw[sk] at s2;cases s2;exact⟨bG,o2,(o2.move sm λ a ha=>(keep l d w bG hn hk sk o2 a ha).1).Cj ho⟩
  rcases get_set h1 with ⟨rfl,hl,e1⟩|⟨bH,h1⟩
  ·cases e1;rw[zaz (by rw[E.len];exact hl)] at h3;cases h3;rcases get_set h2 with ⟨e,_⟩|⟨a5,h2⟩
   ·exact (ae e).elim
   ·rw[gs a5] at h4;obtain⟨fr,o,rfl⟩:=back k c2 u' bG a5 h2 h4 h6;intro a ha hb;rw[new.Cj h5] at keep;exact (keep k c2 u' fr a5 h2 h4 o a hb).2.1 ha
  ·rw[gs bH] at h3;obtain⟨fr,o,rfl⟩:=back j c1 u ax bH h1 h3 h5;rcases get_set h2 with ⟨rfl,hl,e1⟩|⟨a5,h2⟩
   ·cases e1;rw[zaz (by rw[E.len];exact hl)] at h4;cases h4;intro a ha;rw[new.Cj h6] at keep;exact (keep j c1 u fr bH h1 h3 o a ha).2.1
   ·rw[gs a5] at h4;obtain⟨qw,o2,rfl⟩:=back k c2 u' bG a5 h2 h4 h6;exact E.apart j k c1 c2 u u' fr qw h1 h2 h3 h4 o o2 ae
def Ov {α:Type}:∀ {l:List α}{i:Nat}{x:α},l[i]?=some x->l.set i x=l
 |[],_,_,h=>by cases h
 |y::r,0,x,h=>by cases h;rfl
 |y::r,i+1,x,h=>by rw[zaf,Ov (by simpa using h)]
def Ao.mut {K}(E:Ao K P0 P H σ ρ)(ho:ρ[i]?=some (some (.own ds)))(hs:σ[i]?=some (some (.ref p)))(pP:P p)(na:¬ P0 p)(hx:Ak K (del H P) xs jx):
 Ao K P0 P (upd H p (.lst xs)) σ (ρ.set i (some (.own jx)))/\Tr P0 P H P (upd H p (.lst xs)):=by
 have sd:del (upd H p (.lst xs)) P=del H P:=by
  funext b;by_cases hb:P b
  ·rw[EG hb,EG hb]
  ·rw[Ay hb,Ay hb,Ag (λ z=>hb (by rw[z];exact pP))]
 have sm:Ah (del H P) (del (upd H p (.lst xs)) P):=by rw[sd];exact Ah.refl _
 obtain⟨v,fp,s1,o1,_⟩:=E.ows i _ ho rfl;rw[hs] at s1;cases s1;have key:=E.Z6 (P':=P) (H':=upd H p (.lst xs)) (i:=i) (v:=.ref p) (c:=.own jx) (fp:=[p]) (λ a h=>h) (λ a h=>?_) sm (λ j c' v' ah ae h1 h2 h3 a ha=>?_) ⟨p,xs,rfl,rfl,Am,by rw[sd];exact hx⟩ (λ a ha=>by rw[za9.mp ha];exact⟨pP,na⟩) (by simp)
 ·rw[Ov hs] at key;exact⟨key,sm,λ a h=>by rw[Ag (λ z=>na (by rw[<-z];exact h))]⟩
 ·by_cases ha:a=p
  ·subst ha;exact EA.lst Am
  ·unfold EA;rw[Ag ha];exact E.BU a h
 ·obtain⟨p',fj,e,rfl,_⟩:=o1;cases e;have hn:a≠p:=λ z=>E.apart j i c' _ v' _ ah [p] h1 ho h2 hs h3 ⟨p,fj,rfl,rfl,by assumption⟩ (zbi ae) a ha (by rw[z];exact za9.mpr rfl);exact⟨Ag hn,λ z=>hn (za9.mp z)⟩
def Ao.grow {K}(E:Ao K P0 P H σ ρ)(ho:ρ[i]?=some (some (.own ds)))(hs:σ[i]?=some (some (.ref p)))(hp:H p=some (.lst xs))(pP:P p)(na:¬ P0 p)(hx:Ak K (del H P) xs ds)(hv:BV K (del H P) v d):
 Ao K P0 P (upd H p (.lst (xs++[v]))) σ (ρ.set i (some (.own (ds++[d]))))/\Tr P0 P H P (upd H p (.lst (xs++[v]))):=E.mut ho hs pP na (hx.snoc hv)
def AE (i:Nat)(hN:X.N.Nodup)(hi:X.N[i]?=some x)(hx:Loc X.env.scope x)(ha:DE X WX true e f)(hs: ~~~(swapsWith e (some (.Name x pos')) pos.line X.env=pure false))(hf:X.fn x=true\/X.env.scope.names.lookup x=some .local:=by first | exact .inl rfl | exact .inr rfl | assumption):
 DS X WX (.Assign [.Name x pos'] e pos) (λ ρ=>(f ρ).bind λ d=>.ok (.next (ρ.set i (some (.val d))))):=by
 obtain⟨ta,a1,a2⟩:=ha;refine⟨_,VP hN hi hx a1 hs hf,λ P0 P σ H Z ρ E h=>?_⟩;dsimp only at h;refine a2 P0 P σ H _ ρ E ?_;cases q:f ρ with
 |bad=>rw[q] at h;exact h
 |ex x=>rw[q] at h;exact λ H' s=>h H' P (E.tr s)
 |ok d=>rw[q] at h;exact λ v H' s hv=>h _ H' P (E.tr s) ((E.same s).Wi hv)
def cI {K}{α:Type}{m}{k}{R:M α->Prop}(h:gS K WX P0 P H Z (m.bind k))(E:Ao K P0 P H σ ρ)(hk:∀a,gS K WX P0 P H Z (k a)->R (.ok a))(hb:False->R .bad:=by exact λ h=>h)(hx:∀x,(∀H',Ah H H'->WX x H')->R (.ex x):=by exact λ _ h=>h):R m:=by
 cases m with
 |ok a=>exact hk a h
 |ex x=>exact hx x λ H' s=>h H' P (E.tr s)
 |bad=>exact hb h
abbrev Z7 (i:Nat)(ρ:Ae)(m:M D):M Out:=match ρ[i]? with
 |some (some (.own ds))=>m.bind λ d=>if ds.length<1000 then .ok (.next (ρ.set i (some (.own (ds++[d]))))) else .bad
 |_=>.bad
def II (i:Nat){ad}(hv:PE X (.Name x p1) (O3 i))(ha:DE X WX true e f)(hs: ~~~(starEach [e] X.env=[(false,eval e X.env)]))(aX: ~~~(swapsWith (.Call (.Attribute (.Name x p1) "append" apos) [e] [] ad) none pos.line X.env=pure false))(ak: ~~~(attributeBase (.Name x p1) "append" X.env (eval (.Name x p1) X.env)=eval (.Name x p1) X.env))(aJ: ~~~(((backTo ad (starEach [e] X.env)).all (λ x => !x.1)&&(backToKw ad (keywordEach [] X.env)).all (λ x=>x.1.isSome)&&decide (([e]:List Expr).length+([]:List Keyword).length+(if ([]:List Keyword).isEmpty then 0 else 1)<30))=true))(al: ~~~((apos.endLine==ad.line)=true))(ao: ~~~((backTo ad (starEach [] X.env)).any (·.1)=false)):
 DS X WX (.Expr (.Call (.Attribute (.Name x p1) "append" apos) [e] [] ad) pos) (λ ρ=>Z7 i ρ (f ρ)):=by
 obtain⟨ta,a1,a2⟩:=ha;refine⟨_,Gd (TZ zc3 PySem.F.slot_list_append PySem.F.type_list_append QU hv (Bd a1 Cv hs) ak aJ al hs ao) aX,λ P0 P σ H Z ρ E h=>?_⟩;dsimp only at h;unfold Z7 at h;split at h
 ·rename_i ds e1;obtain⟨p,xs,h1,h2,h3,h4,h5⟩:=E.own i ds e1;refine⟨_,h1,.inl ⟨rfl,xs,.of h2⟩,?_⟩;refine a2 P0 P σ H _ ρ E ?_;refine cI h E λ d h=>?_;by_cases hl:ds.length<1000
  ·rw[if_pos hl] at h;intro v H1 s1 hv;have E1:=E.same s1;have gu:H1 p=some (.lst xs):=s1 _ _ h2;refine⟨p,xs,v,rfl,rfl,gu,AA (by rw[h5.length];omega),?_⟩;obtain⟨E2,t2⟩:=E1.grow e1 h1 gu h3 h4 (h5.mono s1.del) hv;exact h _ _ _ ((E.tr s1).trans t2) E2
  ·rw[if_neg hl] at h;exact h.elim
 ·exact h.elim
end
abbrev gG (K:za0)(P0:DV)(P:Addr->Prop)(H:Hp)(Q:St->Hp->Prop):M Ae->Prop
 | .ok ρ=>∀σ',Ao K P0 P H σ' ρ->Q σ' H
 |_=>False
abbrev DG (X:Cx)(tg:Expr)(gt:D->Ae->M Ae):Prop:=
 ∃g:TG,PG X tg g/\∀P0 P σ H Q ρ v d,Ao X.K P0 P H σ ρ->BV X.K (del H P) v d->gG X.K P0 P H Q (gt d ρ)->g v σ H Q
abbrev DGs (X:Cx)(xf:List Expr)(gt:List D->Ae->M Ae):Prop:=
 ∃g:cF,vT X xf g/\∀P0 P σ H Q ρ v d,Ao X.K P0 P H σ ρ->Ak X.K (del H P) v d->gG X.K P0 P H Q (gt d ρ)->g v σ H Q
structure Ug (K:za0)(J:It)(P:Addr->Prop)(H:Hp)(ds:List D):Prop where
 go:∀(i:Nat) P' H',Ah (del H P) (del H' P')->i<ds.length->J.go i H'
 stop:∀(i:Nat) P' H',Ah (del H P) (del H' P')->ds.length<=i->J.stop i H'
 jZ:∀(i:Nat) P' H' v du d,Ah (del H P) (del H' P')->(∀a,P' a->EA H' a)->ds[i]?=some d->J.jZ i H' v du->Ah H' du/\BV K (del du P') v d
abbrev DI (X:Cx)(WX:Str->Hp->Prop)(tg iter:Expr)(f:Ae->M (List D)):Prop:=
 ∃wi,PI X tg iter wi/\∀P0 P σ H R ρ,Ao X.K P0 P H σ ρ->(match f ρ with | .ok ds=>∀J H',Ah H H'->Ug X.K J P H' ds->R J H' | .ex x=>∀H',Ah H H'->WX x H' | .bad=>False)->wi σ H R
abbrev forM (gt:D->Ae->M Ae)(body:Ae->M Out):List D->Ae->M Out
 |[],ρ=>.ok (.next ρ)
 |d::r,ρ=>match gt d ρ with
  | .ok ρ1=>(match body ρ1 with
   | .ok (.next ρ2)| .ok (.cont ρ2)=>forM gt body r ρ2
   | .ok (.brk ρ2)=>.ok (.next ρ2)
   |m=>m)
  |_=>.bad
section
variable {c:Bool}{P0:DV}{P:Addr->Prop}{a b:Expr}{f:Ae->M D}{gt:D->Ae->M Ae}{dw:List D->Ae->M Ae}{gb:Ae->M Out}
def Av (i:Nat)(hN:X.N.Nodup)(hi:X.N[i]?=some x)(hx:Loc X.env.scope x)(hf:X.fn x=true\/X.env.scope.names.lookup x=some .local:=by first | exact .inl rfl | exact .inr rfl | assumption):DG X (.Name x pos) (λ d ρ=>.ok (ρ.set i (some (.val d)))):=
 ⟨_,S4 hN hi hx hf,λ P0 P σ H Q ρ v d E hv h=>h _ (E.Wi hv)⟩
def Gp:DGs X [] (λ ds ρ=>match ds with | []=>.ok ρ | _=>.bad):=⟨_,Xo,λ P0 P σ H Q ρ v d E hv h=>by
 cases hv with
 |nil=>exact⟨rfl,h σ E⟩
 |cons _ _=>exact h.elim⟩
def B0 (h1:DG X e gt)(h2:DGs X es dw)(hs: ~~~((assignEach (e::es) X.env).map (·.2)=assign e X.env::(assignEach es X.env).map (·.2))):
 DGs X (e::es) (λ ds ρ=>match ds with|d::r=>(gt d ρ).bind (dw r)|[]=>.bad):=by
 obtain⟨t,a1,a2⟩:=h1;obtain⟨u,b1,b2⟩:=h2;refine⟨_,TN a1 b1 hs,λ P0 P σ H Q ρ v d E hv h=>?_⟩;cases hv with
 |nil=>exact h.elim
 | @cons x d xs ds hx da =>
  refine⟨x,xs,rfl,a2 P0 P σ H _ ρ x d E hx ?_⟩;dsimp only at h;cases q:gt d ρ with
  |bad|ex y=>rw[q] at h;exact h
  |ok ρ1=>rw[q] at h;exact λ σ' E'=>b2 P0 P σ' H Q ρ1 xs ds E' da h
def JG (hc:X.calm=true)(h:DGs X es dw)(hn: ~~~((assignEach es X.env).length=n))(aH: ~~~((assignEach es X.env).findIdx? (·.1)=none)):
 DG X (.Tuple es k pos) (λ d ρ=>match d with | .tup ds=>if ds.length=n then dw ds ρ else .bad|_=>.bad):=by
 obtain⟨t,a1,a2⟩:=h;refine⟨_,cS hc a1 hn aH,λ P0 P σ H Q ρ v d E hv h=>?_⟩;cases hv with
 | @tup a xs ds hs hl =>
  dsimp only at h;by_cases hd:ds.length=n
  ·rw[if_pos hd] at h;exact⟨a,xs,rfl,Fj.of (An hs).2,by rw[hl.length];exact hd,a2 P0 P σ H Q ρ xs ds E hl h⟩
  ·rw[if_neg hd] at h;exact h.elim
 |_=>exact h.elim
def Wj (ha:DE X WX true e f)(hg:DG X tg gt)(hs: ~~~(swapsWithSole [tg] e pos.line X.env=pure false))(hw: ~~~(swappedStores [tg] e X.env=pure none))(h1: ~~~((assignEach [tg] X.env).map (·.2)=[assign tg X.env])):
 DS X WX (.Assign [tg] e pos) (λ ρ=>(f ρ).bind λ d=>match gt d ρ with | .ok ρ'=>.ok (.next ρ')|_=>.bad):=by
 obtain⟨ta,a1,a2⟩:=ha;obtain⟨t,b1,b2⟩:=hg;refine⟨_,VO a1 b1 hs hw h1,λ P0 P σ H Z ρ E h=>?_⟩;dsimp only at h;refine a2 P0 P σ H _ ρ E ?_;refine cI h E λ d h=>?_;intro v H' s hv;refine b2 P0 P σ H' _ ρ v d (E.same s) hv ?_;cases q2:gt d ρ with
 |ok ρ'=>rw[q2] at h;exact λ σ' E'=>h σ' H' P (E.tr s) E'
 |_=>rw[q2] at h;exact h.elim
def AY (ha:DE X WX true e f):DI X WX tg e (λ ρ=>(f ρ).bind λ d=>match d with | .lst ds=>.ok ds | _=>.bad):=by
 obtain⟨ta,a1,a2⟩:=ha;refine⟨_,kK a1,λ P0 P σ H R ρ E h=>?_⟩;dsimp only at h;refine a2 P0 P σ H _ ρ E ?_;cases q:f ρ with
 |bad|ex x=>rw[q] at h;exact h
 |ok d =>
  rw[q] at h;cases d with
  |lst ds =>
   intro v H1 s1 hv;cases hv with
   | @lst a xs _ hs hl =>
    refine⟨a,rfl,⟨xs,hs.B8⟩,h _ H1 s1 ⟨λ i P' H' s hi=>?_,λ i P' H' s hi=>?_,λ i P' H' v du d s ht hd y=>?_⟩⟩
    ·obtain⟨x,hx,_⟩:=hl.get (za6 hi);exact⟨xs,x,(s.seq hs).B8,hx⟩
    ·exact⟨xs,(s.seq hs).B8,by rw[hl.length];exact hi⟩
    ·obtain⟨rfl,y⟩:=y;obtain⟨x,hx,ba⟩:=hl.get hd;have e:=y xs (s.seq hs).B8;rw[hx] at e;cases e;exact⟨Ah.refl _,ba.mono s⟩
  |_=>exact h.elim
abbrev Cy (lo:Int):Nat->List D
 |0=>[]
 |n+1=>.int lo::Cy (lo+1) n
def BP (lo:Int):∀n:Nat,(Cy lo n).length=n:=by
 intro n;induction n generalizing lo with
 |zero=>rfl
 |succ n ih=>rw[Cy,za8,ih]
def BQ {lo}{i:Nat}(h:(Cy lo n)[i]?=some d):d=.int (lo+i)/\i<n:=by
 have hi:i<n:=by
  have:=(zah.mp h).1;rw[BP] at this;exact this
 refine⟨?_,hi⟩;induction n generalizing lo i with
 |zero=>omega
 |succ n ih =>
  cases i with
  |zero=>rw[Cy] at h;simp at h;rw[<-h];simp
  |succ i =>
   rw[Cy,zb1] at h;rw[ih h (by omega)];congr 1;omega
def Wl {K}(lo:Int)(n:Nat):Ug K (Itr lo n) P H (Cy lo n):=
 ⟨λ i P' H' _ hi=>by rw[BP] at hi;exact hi,λ i P' H' _ hi=>by rw[BP] at hi;exact hi,λ i P' H' v du d _ _ hd y=>by
  obtain⟨rfl,rfl⟩:=y;obtain⟨rfl,_⟩:=BQ hd;exact⟨Ah.refl _,.int _⟩⟩
abbrev Wm:D->M (List D)
 | .int j=>@ite _ (-(2^62)<=j/\j<2^62) (zdh _) (.ok (Cy 0 j.toNat)) .bad
 |_=>.bad
def Uh (h1 : -(2^62)<=j)(h2:j<2^62):Wm (.int j)=.ok (Cy 0 j.toNat):=if_pos ⟨h1,h2⟩
def Hz {n:Nat}(h:n<=1000):Wm (.int (n:Int))=.ok (Cy 0 n):=by
 rw[Uh (by omega) (by omega),zbh]
def BW (hg:Gl X "range")(hm:X.mg "range" = none)(ha:DE X WX c a f)(hs: ~~~(starEach [a] X.env=[(false,eval a X.env)])):
 DI X WX tg (.Call (.Name "range" p) [a] [] pos) (λ ρ=>(f ρ).bind Wm):=by
 obtain⟨ta,a1,a2⟩:=ha;refine⟨_,YN hg hm (Bd a1 Cv hs) hs,λ P0 P σ H R ρ E h=>?_⟩;dsimp only at h;refine a2 P0 P σ H _ ρ E ?_;cases q:f ρ with
 |bad|ex x=>rw[q] at h;exact h
 |ok d =>
  rw[q] at h;cases d with
  |int j =>
   simp only[M.A9] at h;by_cases hj : -(2^62)<=j/\j<2^62
   ·rw[Uh hj.1 hj.2] at h;exact λ v H1 s1 hv=>⟨j,by rw[hv.int_inv],hj.1,hj.2,h _ H1 s1 (Wl 0 _)⟩
   ·have e:Wm (.int j)=.bad:=if_neg hj;rw[e] at h;exact h.elim
  |_=>exact h.elim
abbrev GV (k:Nat):List D->List D
 |[]=>[]
 |d::r=>.tup [.int k,d]::GV (k+1) r
def CW (k:Nat)(ds:List D):(GV k ds).length=ds.length:=by
 induction ds generalizing k with
 |nil=>rfl
 |cons d r ih=>rw[GV,za8,za8,ih]
def FV {e:D}(h:(GV k ds)[i]?=some e):∃d,ds[i]?=some d/\e=.tup [.int ((k+i:Nat):Int),d]:=by
 induction ds generalizing k i with
 |nil=>rw[GV] at h;simp at h
 |cons d r ih =>
  cases i with
  |zero=>rw[GV] at h;simp at h;exact⟨d,rfl,by rw[<-h];rfl⟩
  |succ i =>
   rw[GV,zb1] at h;obtain⟨d',h1,h2⟩:=ih h;refine⟨d',by simpa using h1,?_⟩;rw[h2];congr 3;omega
def Nr {x1}(hg:Gl X "enumerate")(hm:X.mg "enumerate" = none)(ha:DE X WX true a f)(hb:bootBuiltins "enumerate" = some (.type "enumerate"):=by decide +kernel)(hs: ~~~(starEach [a] X.env=[(false,eval a X.env)])):
 DI X WX (.Tuple ck x1 aT) (.Call (.Name "enumerate" p) [a] [] pos) (λ ρ=>(f ρ).bind λ d=>match d with | .lst ds=>.ok (GV 0 ds)|_=>.bad):=by
 obtain⟨ta,a1,a2⟩:=ha;refine⟨_,lL hg hm (Bd a1 Cv hs) hb hs,λ P0 P σ H R ρ E h=>?_⟩;dsimp only at h;refine a2 P0 P σ H _ ρ E ?_;cases q:f ρ with
 |bad|ex x=>rw[q] at h;exact h
 |ok d =>
  rw[q] at h;cases d with
  |lst ds =>
   intro v H1 s1 hv;cases hv with
   | @lst a xs _ hs hl =>
    refine⟨a,rfl,⟨xs,hs.B8⟩,h _ H1 s1 ⟨λ i P' H' s hi=>?_,λ i P' H' s hi=>?_,λ i P' H' v du d s ht hd y=>?_⟩⟩
    ·rw[CW] at hi;obtain⟨x,hx,_⟩:=hl.get (za6 hi);exact⟨xs,x,(s.seq hs).B8,hx⟩
    ·rw[CW] at hi;exact⟨xs,(s.seq hs).B8,by rw[hl.length];exact hi⟩
    ·obtain⟨p,x,hn,rfl,y,rfl⟩:=y;obtain⟨d',aB,rfl⟩:=FV hd;obtain⟨x',hx,ba⟩:=hl.get aB;have e:=y xs (s.seq hs).B8;rw[hx] at e;cases e;refine⟨AH hn _,.tup (Kb hn ht) (.cons ?_ (.cons ((ba.mono s).mono (AH hn _).del) .nil))⟩;rw[Nat.zero_add];exact .int _
  |_=>exact h.elim
def FX {α:Type}{l:List α}(h:i<l.length):l.drop i=l[i]::l.drop (i+1):=zco h
def Bp (hp:PassesOwn (model X.prog X.w) X.A X.env X.xe)(hc:X.calm=true)(hi:DI X WX tg iter fi)(hg:DG X tg gt)(hb:VI X WX body gb)(hs:∀x,foldedSetIterable iter X.env x=pure x:=by intro _;rfl):
 DS X WX (.For tg iter body [] pos) (λ ρ=>(fi ρ).bind λ ds=>forM gt gb ds ρ):=by
 obtain⟨wi,i1,i2⟩:=hi;obtain⟨t,a1,a2⟩:=hg;obtain⟨tb,b1,b2⟩:=hb;refine⟨_,sD hp hc i1 a1 b1 hs,λ P0 P σ H Z ρ E h=>?_⟩;dsimp only at h;refine i2 P0 P σ H _ ρ E ?_;cases q:fi ρ with
 |bad=>rw[q] at h;exact h
 |ex x=>rw[q] at h;exact λ H' s=>h H' P (E.tr s)
 |ok ds =>
  rw[q] at h;simp only[M.A9] at h;intro J H1 s1 ok;refine⟨λ i m σ' H'=>m=ds.length-i/\i<=ds.length/\∃P' ρ',Tr P0 P H1 P' H'/\Ao X.K P0 P' H' σ' ρ'/\gS X.K WX P0 P' H' Z (forM gt gb (ds.drop i) ρ'),
   ⟨ds.length,by simp,zbb _,P,ρ,Tr.refl,E.same s1,by rw[zdb];exact h.tr (E.tr s1)⟩,?_⟩
  rintro i m σ' H' ⟨rfl,hi,P',ρ',t',E',g'⟩;by_cases ag:i<ds.length
  ·refine .inr ⟨ok.go i P' H' t'.1 ag,λ σ2 H2=>i+1<=ds.length/\∃P2 ρ2,Tr P0 P H1 P2 H2/\Ao X.K P0 P2 H2 σ2 ρ2/\gS X.K WX P0 P2 H2 Z (forM gt gb (ds.drop (i+1)) ρ2),λ σ2 H2 hq=>⟨ds.length-(i+1),by omega,rfl,hq.1,hq.2⟩,λ v H2 y=>?_⟩;obtain⟨s2,hv⟩:=ok.jZ i P' H' v H2 ds[i] t'.1 E'.BU (za6 ag) y;rw[FX ag,forM] at g';have E2:=E'.same s2;refine a2 P0 P' σ' H2 _ ρ' v ds[i] E2 hv ?_;cases q1:gt ds[i] ρ' with
   |bad=>rw[q1] at g';exact g'
   |ex x=>rw[q1] at g';exact g'.elim
   |ok ρ1 =>
    rw[q1] at g';dsimp only at g';intro σ3 E3;refine b2 P0 P' σ3 H2 _ ρ1 E3 ?_;have tt:Tr P0 P H1 P' H2:=t'.trans (E'.tr s2);cases q2:gb ρ1 with
    |bad=>rw[q2] at g';exact g'
    |ex x=>rw[q2] at g';exact gS.tr (m:=.ex x) g' (E'.tr s2)
    |ok o =>
     rw[q2] at g';cases o with
     |ret d=>exact gS.tr (m:=.ok (.ret d)) g' (E'.tr s2)
     |CO d=>exact gS.tr (m:=.ok (.CO d)) g' (E'.tr s2)
     |FU d ρ2=>exact gS.tr (m:=.ok (.FU d ρ2)) g' (E'.tr s2)
     |next ρ2|cont ρ2=>exact λ σ4 H4 P4 t4 E4=>⟨ag,P4,ρ2,tt.trans t4,E4,gS.tr g' ((E'.tr s2).trans t4)⟩
     |brk ρ2=>exact λ σ4 H4 P4 t4 E4=>g' σ4 H4 P4 ((E'.tr s2).trans t4) E4
  ·have e:i=ds.length:=by omega
   subst e;refine .inl ⟨ok.stop _ P' H' t'.1 (zag _),?_⟩;rw[zcm,forM] at g';exact g' σ' H' P' Tr.refl E'
end
abbrev Wn (K:za0)(n:Nat)(F:List D->M D):Sp:=λ vs H Q _=>vs.length=n/\∃P ds,(∀a,P a->EA H a)/\Ak K (del H P) vs ds/\gV K (λ _ _=>False) P H Q (F ds)
abbrev DY (N:List Str)(ds:List D):Ae:=ds.map (λ d=>some (.val d))++zae (N.length-ds.length) none
abbrev clD:Cl->M D
 | .val d=>.ok d
 | .own ds=>.ok (.lst ds)
 | .ow (.rows C3)=>.ok (.lst (C3.map D.lst))
 | .ow (.N5 _ _)=>.bad
 | .ow (.tree _ t)=>.ok (er t)
abbrev fin (m:M Out):M D:=match m with
 | .ok (.ret d)=>.ok d
 | .ok (.CO c)=>clD c
 | .ok (.next _)=>.ok .AL
 |_=>.bad
def R5 {K}(ht:∀a,P a->EA H a)(h:Ak K (del H P) vs ds):Ao K ⟨P,λ _=>0⟩ P H (start N vs) (DY N ds):=by
 have hl:=h.length;have key:∀(i:Nat) (c:Cl),(DY N ds)[i]?=some (some c)->∃d,ds[i]?=some d/\c=.val d:=λ i c e=>by
  unfold DY at e;by_cases hi:i<ds.length
  ·rw[zce (by simpa using hi),zan] at e;cases q:ds[i]? with
   |none=>rw[q] at e;cases e
   |some d=>rw[q] at e;cases e;exact⟨d,rfl,rfl⟩
  ·rw[zd8 (by simpa using hi),zc6] at e;split at e<;>cases e
 refine⟨λ _ h=>h,ht,λ i d e=>?_,λ i es e io=>?_,λ i j c c' v v' fp ah e _ _ _ ho _ _=>?_,?_,λ i c n e hp=>?_⟩
 rotate_left 4
 ·obtain⟨d',q,z⟩:=key i _ e;cases z;cases hp
 ·obtain⟨d',q,z⟩:=key i _ e;cases z;obtain⟨v,hv,hd⟩:=h.get q;refine⟨v,?_,hd⟩;unfold start;rw[zce (by rw[za2];exact (zah.mp hv).1),zan,hv];rfl
 ·obtain⟨d',q,z⟩:=key i _ e;cases z;cases io
 ·obtain⟨d',q,z⟩:=key i _ e;cases z;exact ho.elim
 ·unfold start DY;simp[hl]
def Eo (t:Tr P P H P' H'):Ah H H':=λ b o e=>by
 by_cases hb:P b
 ·rw[t.2 b hb];exact e
 ·exact (An (t.1 b o (by rw[Ay hb];exact e))).2
def BL.tP {K:za0}{H:Hp}{P P0:Addr->Prop}(hs:∀a,P0 a->P a):∀ {ps:List Addr}{C3:List (List D)},(∀a∈ps,¬ P0 a)->BL K H P ps C3->Ak K (del H P0) (ps.map V.ref) (C3.map D.lst)
 |_,_,_,.nil=>.nil
 |_,_,k,.cons h r t=>.cons (.lst (.of (show del H P0 _=_ by rw[Ay (k _ za3)];exact h)) (r.mono (D6 hs))) (BL.tP hs (λ a ha=>k a (za4 _ ha)) t)
def lQ {K}(h:gV K WX P H Q (clD c))(t':Tr P P H P2 H')(hs:∀a,P a->P2 a)(ht:∀a,P2 a->EA H' a)(ho:D7 K H' P2 c v fp)(hp:∀a∈fp,P2 a/\¬ P a):Q v H':=by
 cases c with
 |val d=>exact ho.elim
 |own ds =>
  obtain⟨p,xs,rfl,rfl,h1,h2⟩:=ho;exact h _ H' (Eo t') (.lst (.of (show del H' P p=_ by rw[Ay (hp p za3).2];exact h1)) (h2.mono (D6 hs)))
 |ow o =>
  cases o with
  |rows C3 =>
   obtain⟨p,ps,rfl,rfl,h1,h2⟩:=ho;exact h _ H' (Eo t') (.lst (.of (show del H' P p=_ by rw[Ay (hp p za3).2];exact h1)) (h2.tP hs λ a ha=>(hp a (za4 _ ha)).2))
  |N5 p ds=>exact h.elim
  |tree p t=>exact h _ H' (Eo t') (C6.has hs (λ a ha=>(hp a ha).2) ho)
section
variable {P:Program}{K:za0}
def yK {st}(F:cH K x qual st f fd)(S:Aj N ps (A6 st))(g:Ae->M Out)(hb:∀(B6:Value) (A:Around) (outer:List Env) (s:Shared) (H:Hp) (E:XK),C4 k (A.deeper (envOfC qual (A6 st) s.heap.objs.size f B6))->VI (TR lC P w K mg base N qual (A6 st) f B6 A outer s H E).wX (λ _ _=>False) (AW st) g):
 Ea P w K mg base lC (k+1) f fd ps (Wn K ps.length λ ds=>fin (g (DY N ds))):=by
 refine F.ok S (λ vs H Q E h=>h.1) λ B6 A outer s H vs Q E hr h=>?_;obtain⟨hl,P',ds,ht,hv,hq⟩:=h;obtain⟨t,h1,h2⟩:=hb B6 A outer s H E hr;refine⟨t,h1,h2 ⟨P',λ _=>0⟩ P' _ H _ _ (R5 ht hv) ?_⟩;dsimp only at hq;revert hq;cases g (DY N ds) with
 |bad|ex x=>exact λ h=>h.elim
 |ok o =>
  cases o with
  |ret d=>exact λ h v H' P2 t hv=>h v H' (Eo t) hv
  |next ρ=>exact λ h σ' H' P2 t E=>h .AL H' (Eo t) .AL
  |brk ρ|cont ρ=>exact λ h=>h.elim
  |CO c=>exact λ h v fp H' P2 t hs ht ho hp nd=>lQ h t hs ht ho hp
  |FU d ρ=>exact λ h=>h.elim
end
section
variable {c:Bool}{P0:DV}{P:Addr->Prop}{a b:Expr}{f:Ae->M D}{gt:D->Ae->M Ae}{es:List Expr}{fs:Ae->M (List D)}
abbrev AV (μ:List (Option Nat))(ρ:Ae):Ae:=μ.map λ o=>o.bind λ i=>match ρ[i]? with | some (some (.val d))=>some (.val d) | _=>none
def IJ {j:Nat}(h:(AV μ ρ)[j]?=some (some cl)):∃i d,μ[j]?=some (some i)/\ρ[i]?=some (some (.val d))/\cl=.val d:=by
 unfold AV at h;rw[zan] at h;cases q:μ[j]? with
 |none=>rw[q] at h;cases h
 |some o =>
  rw[q] at h;cases o with
  |none=>cases h
  |some i =>
   simp only[zbr,Option.bind_some,Option.some.injEq] at h;split at h
   ·rename_i d e;cases h;exact⟨i,d,rfl,e,rfl⟩
   ·cases h
def Ao.block {K}(E:Ao K P0 P H σ ρ)(μ:List (Option Nat)):Ao K P0 P H (FA μ σ) (AV μ ρ):=by
 refine⟨E.sub,E.BU,λ j d h=>?_,λ j ds h io=>?_,λ j k c c' v v' fp ah h _ _ _ ho _ _=>?_,by unfold FA AV;simp,λ j c n h hp=>by obtain⟨i,d',h1,h2,h3⟩:=IJ h;subst h3;cases hp⟩
 ·obtain⟨i,d',h1,h2,h3⟩:=IJ h;cases h3;obtain⟨v,h4,h5⟩:=E.val i d h2;refine⟨v,?_,h5⟩;unfold FA;rw[zan,h1];simp[h4]
 ·obtain⟨i,d',h1,h2,h3⟩:=IJ h;cases h3;cases io
 ·obtain⟨i,d',h1,h2,h3⟩:=IJ h;cases h3;exact ho.elim
abbrev B9 (gt:D->Ae->M Ae)(ft:Ae->M Bool)(fe:Ae->M D):List D->Ae->M (List D)
 |[],_=>.ok []
 |d::r,ρ=>match gt d ρ with
  | .ok ρ1=>(match ft ρ1 with
   | .ok k=>if k=true then (match fe ρ1 with
    | .ok y=>(match B9 gt ft fe r ρ with | .ok ys=>.ok (y::ys)|_=>.bad)
    |_=>.bad) else B9 gt ft fe r ρ
   |_=>.bad)
  |_=>.bad
abbrev tQ (X:Cx)(scope:Scope)(NB:List Str)(μ:List (Option Nat))(tg:Expr)(gt:D->Ae->M Ae):Prop:=
 ∃g:TG,(∀s H C ex,PG (blockOf X s H scope C NB ex) tg g)/\LV μ g/\∀P0 P σ H Q ρ v d,Ao X.K P0 P H σ ρ->BV X.K (del H P) v d->gG X.K P0 P H Q (gt d ρ)->g v σ H Q
def Bz (i:Nat)(hN:NB.Nodup)(hi:NB[i]?=some x)(hx:(relabel scope X.env).names.lookup x=some .local)(hm:μ[i]?=some none):tQ X scope NB μ (.Name x pos) (λ d ρ=>.ok (ρ.set i (some (.val d)))):=
 ⟨QO i,λ s H C ex=>S4 (X:=blockOf X s H scope C NB ex) hN hi (.inl hx) (.inr hx),lK hm,λ P0 P σ H Q ρ v d E hv h=>h _ (E.Wi hv)⟩
abbrev tR (X:Cx)(cs:List Expr)(f:Ae->M Bool):Prop:=
 ∃t,vW X cs t/\∀P0 P σ H Q ρ,Ao X.K P0 P H σ ρ->gT (λ _ _=>False) H Q (f ρ)->t σ H Q
def DM:tR X [] (λ _=>.ok true):=⟨_,lI,λ P0 P σ H Q ρ E h=>h H (Ah.refl H)⟩
def Ep (h:DT X (λ _ _=>False) a ft):tR X [a] ft:=let ⟨t,h1,h2⟩:=h;⟨_,lJ h1,h2⟩
abbrev Kd (m:M (List D)):M D:=match m with | .ok ys=>.ok (.lst ys) | _=>.bad
def tS (i2:∀P0 P σ H R ρ,Ao X.K P0 P H σ ρ->(match fi ρ with | .ok ds=>∀J H',Ah H H'->Ug X.K J P H' ds->R J H' | .ex x=>∀H',Ah H H'->WX x H' | .bad=>False)->wi σ H R)(g2:∀P0 P σ H Q ρ v d,Ao X.K P0 P H σ ρ->BV X.K (del H P) v d->gG X.K P0 P H Q (gt d ρ)->gg v σ H Q)(t2:∀s H' C ex P0 P σ H Q ρ,Ao X.K P0 P H σ ρ->gT (λ _ _=>False) H Q (ft ρ)->tc s H' C ex σ H Q)(e2:∀s H' C ex P0 P σ H Q ρ,Ao X.K P0 P H σ ρ->gV X.K (λ _ _=>False) (Lv c P0 P) H Q (fe ρ)->te s H' C ex σ H Q)(E:Ao X.K P0 P H σ ρ)(h:gV X.K WX (Lv c P0 P) H Q ((fi ρ).bind λ ds=>if ds.length<=1000 then Kd (B9 gt ft fe ds (AV μ ρ)) else .bad)):QX wi μ gg tc te σ H Q:=by
 refine i2 P0 P σ H _ ρ E ?_;cases q:fi ρ with
 |bad|ex x=>rw[q] at h;exact h
 |ok ds =>
  rw[q] at h;simp only[M.A9] at h;by_cases hd:¬ ds.length<=1000
  ·rw[if_neg hd] at h;exact h.elim
  have hd:ds.length<=1000:=by omega
  rw[if_pos hd] at h;intro J H1 s1 ok s C ex;cases qc:B9 gt ft fe ds (AV μ ρ) with
  |bad|ex x=>rw[qc] at h;exact h.elim
  |ok total =>
   rw[qc] at h;unfold Kd at h;dsimp only at h;have E1:=E.same s1;refine⟨λ i m ys H2=>m=ds.length-i/\i<=ds.length/\ys.length<=i/\Ah H1 H2/\∃es rest,Ak X.K (del H2 (Lv c P0 P)) ys es/\B9 gt ft fe (ds.drop i) (AV μ ρ)=.ok rest/\es++rest=total,
    ⟨ds.length,by simp,zbb _,zag _,Ah.refl _,[],total,.nil,by rw[zdb];exact qc,rfl⟩,?_⟩
   rintro i m ys H2 ⟨rfl,hi,hy,s2,es,rest,bn,af,au⟩;by_cases ag:i<ds.length
   ·refine .inr ⟨ok.go i P H2 s2.del ag,Nat.lt_of_le_of_lt hy (AA (by omega)),λ aI H'=>i+1<=ds.length/\aI.length<=i+1/\Ah H1 H'/\∃es rest,Ak X.K (del H' (Lv c P0 P)) aI es/\B9 gt ft fe (ds.drop (i+1)) (AV μ ρ)=.ok rest/\es++rest=total,λ aI H' hq=>⟨ds.length-(i+1),by omega,rfl,hq.1,hq.2.1,hq.2.2.1,hq.2.2.2⟩,λ v H3 y=>?_⟩;have E2:=E1.same s2;obtain⟨s3,hv⟩:=ok.jZ i P H2 v H3 ds[i] s2.del E2.BU (za6 ag) y;rw[FX ag,B9] at af;have E3:=(E2.same s3).block μ;refine g2 P0 P _ H3 _ (AV μ ρ) v ds[i] E3 hv ?_;cases q1:gt ds[i] (AV μ ρ) with
    |bad|ex x=>rw[q1] at af;cases af
    |ok ρ1 =>
     rw[q1] at af;dsimp only at af;intro σ4 E4;refine t2 s H1 C ex P0 P σ4 H3 _ ρ1 E4 ?_;cases q2:ft ρ1 with
     |bad|ex x=>rw[q2] at af;cases af
     |ok k =>
      rw[q2] at af;dsimp only at af;intro H5 s5;cases k with
      |false =>
       simp only[zb0,if_false] at af ⊢;exact⟨ag,by omega,(s2.trans s3).trans s5,es,rest,(bn.mono s3.del).mono s5.del,af,au⟩
      |true =>
       simp only[if_true] at af ⊢;refine e2 s H1 C ex P0 P σ4 H5 _ ρ1 (E4.same s5) ?_;cases q3:fe ρ1 with
       |bad|ex x=>rw[q3] at af;cases af
       |ok y' =>
        rw[q3] at af;dsimp only at af;cases q4:B9 gt ft fe (ds.drop (i+1)) (AV μ ρ) with
        |bad|ex x=>rw[q4] at af;cases af
        |ok gx =>
         rw[q4] at af;cases af;intro w H6 s6 hw;refine⟨ag,by rw[zal,zba];omega,((s2.trans s3).trans s5).trans s6,es++[y'],gx,(((bn.mono s3.del).mono s5.del).mono s6.del).snoc hw,rfl,?_⟩;rw[zbg];exact au
   ·have e:i=ds.length:=by omega
    subst e;rw[zcm,B9] at af;cases af;rw[zb7] at au;subst au;refine .inl ⟨ok.stop _ P H2 s2.del (zag _),λ D0 hn=>h _ _ ((s1.trans s2).trans (AH hn _)) (.lst (.of (Kb hn λ a q=>(E1.same s2).yB c a q)) (bn.mono (AH hn _).del))⟩
def Ke (i:Nat)(μ:List (Option Nat))(hN:X.N.Nodup)(gp:X.N[i]?=some x)(hx:Loc X.env.scope x)(hc:X.calm=true)(hi:DI X WX tg iter fi)(az:Gi scope X.env.scope=true)(aW:Oe X.N NB scope μ=true)(hg:tQ X scope NB μ tg gt)(ht:∀s H C ex,tR (blockOf X s H scope C NB ex) ifs ft)(he:∀s H C ex,DE (blockOf X s H scope C NB ex) (λ _ _=>False) true elt fe)(aX: ~~~(swapsWith (.ListComp elt [⟨tg,iter,ifs,0⟩] scope pos) (some (.Name x px)) am.line X.env=pure true))(hs:∀x,foldedSetIterable iter X.env x=pure x:=by intro _;rfl)(hf:X.fn x=true\/X.env.scope.names.lookup x=some .local:=by first|exact .inl rfl|exact .inr rfl|assumption):
 DS X WX (.Assign [.Name x px] (.ListComp elt [⟨tg,iter,ifs,0⟩] scope pos) am) (λ ρ=>((fi ρ).bind λ ds=>if ds.length<=1000 then Kd (B9 gt ft fe ds (AV μ ρ)) else .bad).bind λ d=>.ok (.next (ρ.set i (some (.val d))))):=by
 obtain⟨wi,i1,i2⟩:=hi;obtain⟨gg,g1,gk,g2⟩:=hg;refine⟨_,Sg hN gp hx hc i1 az aW gk (λ s H C ex=>⟨g1 s H C ex,(za1 (ht s H C ex)).1,(za1 (he s H C ex)).1⟩) aX hs hf,λ P0 P σ H Z ρ E h=>?_⟩;refine tS (c:=true) i2 g2 (λ s H' C ex P0 P σ H Q ρ E h=>(za1 (ht s H' C ex)).2 P0 P σ H Q ρ E h) (λ s H' C ex P0 P σ H Q ρ E h=>(za1 (he s H' C ex)).2 P0 P σ H Q ρ E h) E ?_;dsimp only at h;revert h;cases ((fi ρ).bind λ ds=>if ds.length<=1000 then Kd (B9 gt ft fe ds (AV μ ρ)) else .bad) with
 |bad=>exact λ h=>h
 |ex y=>exact λ h H' s=>h H' P (E.tr s)
 |ok d=>exact λ h v H' s hv=>h _ H' P (E.tr s) ((E.same s).Wi hv)
end
section
variable {c:Bool}{P0:DV}{P:Addr->Prop}{a b k:Expr}{f:Ae->M D}{te tk:TE}{p2:Pos}
abbrev ab1 (x y:D):M D:=match x,y with | .lst ds,.int i=>if i = -1 then .ok (.lst ds.reverse) else .bad | _,_=>.bad
abbrev CY:List D->Option (List Int)
 |[]=>some []
 | .int i::r=>(CY r).map (i::·)
 |_=>none
abbrev fA:D->Option (List Int)
 | .tup ds=>CY ds
 |_=>none
abbrev HA:List D->Option (List (D×List Int))
 |[]=>some []
 |d::r=>(fA d).bind λ k=>(HA r).map ((d,k)::·)
abbrev XI (l d:D):M D:=match l with
 | .lst ds=>(match HA ds with|some ks=>.ok (match Bj ks with|none=>d|some b=>b.1)|none=>.bad)
 |_=>.bad
def M2 {K:za0}{H:Hp}:∀ {xs:List V}{ds:List D}{ns:List Int},Ak K H xs ds->CY ds=some ns->xs=ns.map V.int
 |_,_,_,.nil,e=>by simp only[CY] at e;cases e;rfl
 |_,_,_,.cons (d:=d) h t,e=>by
  cases d with
  |int i =>
   simp only[CY] at e;cases q:CY _ with
   |none=>rw[q] at e;cases e
   |some ns =>
    rw[q] at e;cases e;rw[h.int_inv,M2 t q];rfl
  |_=>simp[CY] at e
noncomputable abbrev Alike (K:za0)(H:Hp):List (Addr×List Int)->List (D×List Int)->Prop:=Paired λ p q=>p.2=q.2/\BV K H (.ref p.1) q.1
def JH {K:za0}{H:Hp}:∀ {xs:List V}{ds:List D}{ks:List (D×List Int)},Ak K H xs ds->HA ds=some ks->∃bs:List (Addr×List Int),xs=bs.map (λ b=>V.ref b.1)/\(∀b∈bs,Fj K H b.1 (b.2.map V.int))/\Alike K H bs ks
 |_,_,_,.nil,e=>by simp only[HA] at e;cases e;exact⟨[],rfl,by simp,.nil⟩
 |_,_,_,.cons (d:=d) h t,e=>by
  simp only[HA] at e;cases q:fA d with
  |none=>rw[q] at e;cases e
  |some k =>
   rw[q] at e;simp only[Option.bind_some] at e;cases q2:HA _ with
   |none=>rw[q2] at e;cases e
   |some ks =>
    rw[q2] at e;cases e;obtain⟨bs,h1,h2,h3⟩:=JH t q2;cases d with
    |tup es =>
     have h':=h;cases h with
     | @tup a xs _ hs hl =>
      simp only[fA] at q;have e1:=M2 hl q;subst e1;refine⟨(a,k)::bs,by rw[h1];rfl,λ b hb=>?_,.cons ⟨rfl,h'⟩ h3⟩;rcases zab.mp hb with z|z
      ·subst z;exact Fj.of hs
      ·exact h2 b z
    |_=>simp[fA] at q
def Ox {K}(h:Alike K H bs ks):(Bj bs=none/\Bj ks=none)\/∃b k,Bj bs=some b/\Bj ks=some k/\b.2=k.2/\BV K H (.ref b.1) k.1:=by
 unfold Bj
 suffices z:∀(o:Option (Addr×List Int)) (o':Option (D×List Int)),((o=none/\o'=none)\/∃b k,o=some b/\o'=some k/\b.2=k.2/\BV K H (.ref b.1) k.1)->
  ((bs.foldl C5 o=none/\ks.foldl C5 o'=none) \/
   ∃b k,bs.foldl C5 o=some b/\ks.foldl C5 o'=some k/\b.2=k.2/\BV K H (.ref b.1) k.1) from z none none (.inl ⟨rfl,rfl⟩)
 induction h with
 |nil=>intro o o' h;exact h
 | @cons b k bs ks hh t ih =>
  intro o o' h;rw[zav,zav];refine ih _ _ ?_;rcases h with ⟨rfl,rfl⟩|⟨b',k',rfl,rfl,e1,e2⟩
  ·exact .inr ⟨b,k,rfl,rfl,hh⟩
  ·unfold C5;dsimp only;rw[hh.1,e1];by_cases hl:HT.lexLt k.2 k'.2=true
   ·rw[if_pos hl,if_pos hl];exact .inr ⟨b,k,rfl,rfl,hh⟩
   ·rw[if_neg hl,if_neg hl];exact .inr ⟨b',k',rfl,rfl,e1,e2⟩
def lR (hc:X.calm=true)(hu:X.A.units+1<cLine)(hg:Gl X "min")(hm:X.mg "min" = none)(ha:DE X WX c e f)(hb:DE X WX c e2 g)(aH: ~~~(starEach [e] X.env=[(false,eval e X.env)]))(aK: ~~~((backToKw pos (keywordEach [⟨some "default",e2,kp⟩] X.env)).all (·.1.isSome)=true))(qr: ~~~((backToKw pos (keywordEach [⟨some "default",e2,kp⟩] X.env)).filterMap (·.1)=([("default" : Str)]:List Str)))(qt: ~~~((backToKw pos (keywordEach [⟨some "default",e2,kp⟩] X.env)).any (·.1.isNone)=false))(bm: ~~~(backTo pos (starEach [e] X.env)=(false,eval e X.env)::backTo pos (starEach [] X.env)))(hpl: ~~~((backTo pos (starEach [e] X.env)).any (·.1)=false)):
 DE X WX c (.Call (.Name "min" p) [e] [⟨some "default",e2,kp⟩] pos) (λ ρ=>(f ρ).bind λ x=>(g ρ).bind λ y=>XI x y):=by
 obtain⟨ta,a1,a2⟩:=ha;obtain⟨tb,b1,b2⟩:=hb;refine⟨_,lM hc hu hg hm a1 b1 aH aK qr qt bm hpl,λ P0 P σ H Q ρ E h=>Ud (r:=λ x d H2 Q=>∃(a:Addr) (bs:List (Addr×List Int)),x=.ref a/\Dr X.K H2 a (bs.map λ b=>V.ref b.1)/\(∀b∈bs,Fj X.K H2 b.1 (b.2.map V.int))/\Q (match Bj bs with|none=>d|some b=>.ref b.1) H2) a2 b2 ?_ E h⟩;intro P H x y v w Q ht hx hy h;unfold XI at h;split at h
 ·rename_i ds;split at h
  ·rename_i ks e1;cases hx with
   | @lst a xs _ hs hl =>
    obtain⟨bs,rfl,h2,h3⟩:=JH hl e1;refine⟨a,bs,rfl,hs.B8,λ b hb=>(h2 b hb).B8,?_⟩;rcases Ox h3 with ⟨q1,q2⟩|⟨b,k,q1,q2,_,q3⟩
    ·rw[q1];rw[q2] at h;exact h _ H (Ah.refl H) hy
    ·rw[q1];rw[q2] at h;exact h _ H (Ah.refl H) q3
  ·exact h.elim
 ·exact h.elim
end
def huR (hr:C4 k A)(n:Nat)(hn:n<=64):A.units+n<cLine:=by have:=hr.units;omega
structure AK (K:za0)(mg:Str->Option Value)(x:Str)(st:Stmt)(ps:List Str):Prop where
 ex:∃f fd,cH K x x st f fd/\mg x=some (.ref f)/\Binds K fd ps []
abbrev Z8 (P:Program)(w:World)(base:Heap):Xp:=λ _ _ _ _ _ _=>False
noncomputable abbrev pZ (P:Program)(w:World)(K:za0)(mg:Str->Option Value)(base:Heap)(N:List Str)(qual:Str)(scope:Scope)(f:Addr)(cd:Value)(A:Around)(outer:List Env)(s:Shared)(H:Hp)(E:XK):Cx:=
 TR (Z8 P w base) P w K mg base N qual scope f cd A outer s H E
structure HB (X:Cx)(E:XK):Prop where
 call:JA (Z8 X.prog X.w X.base) X E
 own:PassesOwn (model X.prog X.w) X.A X.env X.xe
def A8 {K}{E}:
 HB (pZ P w K mg base N qual scope f cd A outer s H E) E:=⟨λ _ _ _ _ _ _ _ h=>h.elim,PassesOwn.leaving⟩
def Bq (h:X.xe=λ _ _=>False):HB X E0:=⟨λ _ _ _ _ _ _ _ h=>h.elim,by rw[h];exact PassesOwn.never⟩
def HB.toXCall {E}(h:HB X E):HB X E:=h
abbrev EI (K:za0)(E:XK):Str->Hp->Prop:=λ x H=>∃c,zb5 K mainGlobals x=some (some (.ref c))/\E (.ref c) none H
section
variable {c:Bool}{a b:Expr}{f:Ae->M D}{p:Pos}
abbrev qA (K:za0):R2:=λ x y H Q=>∃l b xs zs,x=.ref l/\y=.ref b/\Dr K H l xs/\Dr K H b zs/\xs.length+zs.length<=sizeLine/\∀p,H p=none->Q (.ref p) (upd H p (.lst (xs++zs)))
def lS:Gf X (binaryOp .Add) (qA X.K):=by
 intro pins s σ H x y v u Q I rx ry h;obtain⟨l,b,xs,zs,rfl,rfl,h1,h2,hz,q⟩:=h;cases rx;cases ry;obtain⟨aa,r,⟨⟨c1,d1,t1,xg⟩,n,e1,q1,q2,q3⟩,cr⟩:=I.list h1;obtain⟨aN,r2,⟨⟨c2,d2,t2,jj⟩,n2,e2,q4,q5,q6⟩,hz2⟩:=I.list h2;dsimp only at q1 q2 q3 q4 q5 q6;subst q1 q2 q3 q4 q5 q6;have l1:=r.length;have l2:=r2.length;refine concat_meets ⟨_,e1,rfl⟩ ⟨_,e2,rfl⟩ noFill_list_add seq_list_add PySem.F.slot_list_add PySem.F.entry_list_add (PySem.F.args_list_add_2 _ _) (list_addW l b aa.toArray aN.toArray n n2 none none xg jj (by rw[zaa,zaa];omega)) ⟨e1,e2,?_⟩;rw[show aa.toArray++aN.toArray=(aa++aN).toArray by simp];exact⟨.ref _,_,I.xR (t':=s.toks) (r.append r2) (by rw[zal];omega),rfl,q _ I.fresh⟩
abbrev abB (x y:D):M D:=match x,y with
 | .int i,.int j=>.ok (.int (i+j))
 | .lst ds,.lst es=>if ds.length+es.length<=1000 then .ok (.lst (ds++es)) else .bad
 |_,_=>.bad
def Ak.yL {K:za0}{H:Hp}:∀ {xs ys:List V}{ds es:List D},Ak K H xs ds->Ak K H ys es->Ak K H (xs++ys) (ds++es)
 |_,_,_,_,.nil,h=>h
 |_,_,_,_,.cons a t,h=>.cons a (t.yL h)
abbrev dIn (neg:Bool)(x y:D):M D:=match x,y with
 | .int i,.lst ds=>(match CY ds with|some ns=>.ok (.bl (if neg then !ns.contains i else ns.contains i))|none=>.bad)
 |_,_=>.bad
def fB (i:Int)(ns:List Int):inV (.int i) (ns.map V.int)=ns.contains i:=by
 unfold inV;induction ns with
 |nil=>rfl
 |cons n r ih =>
  rw[za5,zd7,ih,List.contains_cons];congr 1;show (n==i)=(i==n);rw[zct,beq_iff_eq,beq_iff_eq];exact eq_comm
def Z9 (ns:List Int):(ns.map V.int).all K5=true:=by
 induction ns with
 |nil=>rfl
 |cons n r ih=>rw[za5,List.all_cons,ih];rfl
def HC:XF X.K WX (rIn X.K neg) (dIn neg):=by
 intro P H x y v w Q ht hx hy h;unfold dIn at h;split at h
 ·rename_i i ds;split at h
  ·rename_i ns hn;cases hx;cases hy with
   |lst h1 h2 =>
    have e:=M2 h2 hn;subst e;refine⟨_,_,rfl,.inl h1.B8,rfl,Z9 ns,?_⟩;rw[fB];exact h _ H (Ah.refl H) (.bl _)
  ·exact h.elim
 ·exact h.elim
end
def Wo {st}:DS X WX st (λ _=>.bad):=⟨λ _ _ _=>False,λ _ _ _ _ _ _ h=>h.elim,λ _ _ _ _ _ _ _ h=>h.elim⟩
abbrev Ui (i j:Int):Prop:=(i.natAbs<2^1000/\j.natAbs<2^1000)\/cY i j
instance (i j:Int):Decidable (Ui i j):=by unfold Ui;infer_instance
def R6 (h:i.natAbs<2^1000):zbv i<=2^20:=by
 unfold zbv;split
 ·exact zbb _
 ·rename_i z;have h0:i.natAbs≠0:=λ q=>z (by rw[Int.natAbs_eq_zero.mp q];rfl);have:=(Nat.log2_lt h0).mpr h;have h3:(1000:Nat)<=2^20:=by decide
  exact zbu this h3
def Ui.ok (h:Ui i j):IntMulOk i j:=by
 rcases h with ⟨h1,h2⟩|h
 ·exact IntMulOk.of_bits (R6 h1) (R6 h2)
 ·exact h.ok
def JI (n:Nat):Cy 0 n=(zay n).map λ i:Nat=>D.int (i:Int):=by
 apply zd6;intro i;rw[zan];by_cases h:i<n
 ·have hi:i<(Cy 0 n).length:=by rw[BP];exact h
  have e:=za6 hi;obtain⟨h1,_⟩:=BQ e;rw[e,h1,zc1 h,zd2];rfl
 ·rw[zbk (by rw[BP];omega),zbk (by simp;omega)];rfl
def EB (ns:List Int):CY (ns.map D.int)=some ns:=by
 induction ns with
 |nil=>rfl
 |cons n r ih=>rw[za5,CY,ih];rfl
def fC (ds:List D)(n:Nat):vX (some (n:Int)) none (.lst ds)=.ok (.lst (ds.drop n)):=by
 unfold vX;dsimp only;rw[HT.dN,HT.S6];congr 2;by_cases h:n<=ds.length
 ·rw[Nat.min_eq_left h,List.take_of_length_le (by rw[zdd];exact zag _)]
 ·rw[Nat.min_eq_right (by omega),List.drop_of_length_le (zag _),List.drop_of_length_le (by omega),List.take_nil]
abbrev Pl (n:Nat)(d:D):Prop:=Si d<=n/\CF d=true
def Sn:∀ {ds:List D},(∀d∈ds,Si d<=n)->Sj ds<=n
 |[],_=>by rw[Sj];exact zbb _
 |d::r,h=>by
  rw[Sj];exact Nat.max_le.mpr ⟨h d za3,Sn λ d hd=>h d (za4 _ hd)⟩
def So:∀ {ds:List D},(∀d∈ds,CF d=true)->LX ds=true
 |[],_=>by rw[LX]
 |d::r,h=>by
  rw[LX,h d za3,So λ d hd=>h d (za4 _ hd)];rfl
def Ck (i:Int):Pl n (.int i):=⟨by rw[Si];exact zbb _;all_goals simp,by rw[CF];all_goals simp⟩
def fD:Pl n .AL:=⟨by rw[Si];exact zbb _;all_goals simp,by rw[CF];all_goals simp⟩
def Sq (h:∀d∈ds,Pl n d):Pl (n+1) (.tup ds):=
 ⟨by rw[Si];exact Nat.succ_le_succ (Sn λ d hd=>(h d hd).1),by rw[CF];exact So λ d hd=>(h d hd).2⟩
def Sr (h:∀d∈ds,Pl n d):Pl (n+1) (.lst ds):=
 ⟨by rw[Si];exact Nat.succ_le_succ (Sn λ d hd=>(h d hd).1),by rw[CF];exact So λ d hd=>(h d hd).2⟩
def XJ (ns:List Int):Pl (n+1) (.lst (ns.map D.int)):=Sr λ d hd=>by
 obtain⟨i,_,rfl⟩:=zaq.mp hd;exact Ck i
def Pl.le (h:Pl n d)(k:n<=m):Pl m d:=⟨zbu h.1 k,h.2⟩
def Ss:∀d∈([]:List D),Pl n d:=λ d h=>by cases h
def DQ (h:Pl n d)(t:∀d∈ds,Pl n d):∀e∈d::ds,Pl n e:=λ e he=>by
 rcases zab.mp he with rfl|he
 ·exact h
 ·exact t e he
def Oy (h:Pl n x)(k:Pl n y):eQ n x y=.ok (.bl (Bv x y)):=by
 unfold eQ;rw[if_pos ⟨h.1,h.2,k.2⟩]
def Su (h:Pl n x)(k:Pl n y):XG n x y=.ok (.bl (!Bv x y)):=by
 unfold XG;rw[if_pos ⟨h.1,h.2,k.2⟩]
def Kf (h:Pl n x):XG n x x=.ok (.bl false):=by rw[Su h h,Om];rfl
def lT (ds:List D)(a b:Nat):vX (some (a:Int)) (some (b:Int)) (.lst ds)=.ok (.lst ((ds.drop a).take (b-a))):=by
 unfold vX;dsimp only;rw[HT.S6,HT.S6];congr 2;by_cases h:a<=ds.length
 ·rw[Nat.min_eq_left h];by_cases h2:b<=ds.length
  ·rw[Nat.min_eq_left h2]
  ·rw[Nat.min_eq_right (by omega),List.take_of_length_le (by rw[zdd];exact zag _),List.take_of_length_le (by rw[zdd];omega)]
 ·rw[Nat.min_eq_right (show ds.length<=a by omega),List.drop_of_length_le (zag _),List.drop_of_length_le (show ds.length<=a by omega),List.take_nil,List.take_nil]
section
variable {c:Bool}{P0:DV}{P:Addr->Prop}{a b:Expr}{f:Ae->M D}{st:Stmt}{rest:List Stmt}
def Uj {K}(h:BV K H v d):∀n:Nat,Ak K H (zae n v) (zae n d)
 |0=>.nil
 |n+1=>by rw[zcc,zcc];exact .cons h (Uj h n)
def Oz {K}(h:BV K H v d):∀ {vs:List V}{ds:List D}(n:Nat),Ak K H vs ds->Ak K H (vs.set n v) (ds.set n d)
 |_,_,_,.nil=>.nil
 |_,_,0,.cons _ t=>.cons h t
 |_,_,n+1,.cons a t=>.cons a (Oz h n t)
abbrev ab2 (i:Nat)(ρ:Ae)(d k:D):M Out:=match k with
 | .int j=>if 0<=j/\j.toNat<=1000 then .ok (.next (ρ.set i (some (.own (zae j.toNat d))))) else .bad
 |_=>.bad
def R7 {α:Type}(v:α):∀n:Nat,(zae n [v]).flatten=zae n v
 |0=>rfl
 |n+1=>by rw[zcc,List.flatten_cons,R7 v n];rfl
abbrev tT (i:Nat)(ρ:Ae)(ds:List D)(d k:D):M Out:=match k with
 | .int j=>(match Nn ds.length j with|some n=>.ok (.next (ρ.set i (some (.own (ds.set n d)))))|none=>.bad)
 |_=>.bad
abbrev lU (i:Nat)(ρ:Ae)(m:M D)(d:D):M Out:=match ρ[i]? with
 |some (some (.own ds))=>m.bind (tT i ρ ds d)
 |_=>.bad
def OA (i:Nat)(hv:PE X (.Name x p1) (O3 i))(ha:DE X WX true a f)(hk:DE X WX true b g)(hs: ~~~(swapsWithSole [.Subscript (.Name x p1) b am] a pos.line X.env=pure false))(hw: ~~~(swappedStores [.Subscript (.Name x p1) b am] a X.env=pure none))(h1: ~~~((assignEach [.Subscript (.Name x p1) b am] X.env).map (·.2)=[assign (.Subscript (.Name x p1) b am) X.env]))(gy:∀v,assign (.Subscript (.Name x p1) b am) X.env v=(do
  let ov <-holding [v] (eval (.Name x p1) X.env);let iv <-holding [v,ov] (eval b X.env)
  standAt am
  holding [v,ov,iv] (setItem ov iv v)
  release [v,ov,iv] []):=by intro _;rfl):
 DS X WX (.Assign [.Subscript (.Name x p1) b am] a pos) (λ ρ=>(f ρ).bind (lU i ρ (g ρ))):=by
 obtain⟨ta,a1,a2⟩:=ha;obtain⟨tb,b1,b2⟩:=hk;refine⟨_,VO a1 (cT hv b1 set_list gy) hs hw h1,λ P0 P σ H Z ρ E h=>?_⟩;dsimp only at h;refine a2 P0 P σ H _ ρ E ?_;refine cI h E λ d h=>?_;intro v H1 s1 hv;have E1:=E.same s1;unfold lU at h;split at h
 ·rename_i ds e1;obtain⟨p,xs,h1,h2,h3,h4,h5⟩:=E1.own i ds e1;refine⟨_,h1,b2 P0 P σ H1 _ ρ E1 ?_⟩;cases q2:g ρ with
  |bad=>rw[q2] at h;exact h.elim
  |ex x=>rw[q2] at h;exact λ H' s2=>h H' P ((E.tr s1).trans (E1.tr s2))
  |ok k =>
   rw[q2] at h;simp only[M.A9] at h;unfold tT at h;intro w H2 s2 hw;split at h
   ·rename_i j;cases hw;split at h
    ·rename_i n en;have E2:=E1.same s2;refine⟨p,xs,j,n,rfl,rfl,s2 _ _ h2,by rw[h5.length];exact en,?_⟩;obtain⟨E3,t3⟩:=E2.mut e1 h1 h3 h4 (Oz (hv.mono s2.del) n (h5.mono s2.del));exact h _ _ _ ((E.tr s1).trans ((E1.tr s2).trans t3)) E3
    ·exact h.elim
   ·exact h.elim
 ·exact h.elim
abbrev AB (c:Ae->M Bool)(b:Ae->M Out):Nat->Ae->M Out
 |0,_=>.bad
 |n+1,ρ=>match c ρ with
  | .ok true=>(match b ρ with
   | .ok (.next ρ')| .ok (.cont ρ')=>AB c b n ρ'
   | .ok (.brk ρ')=>.ok (.next ρ')
   |r=>r)
  | .ok false=>.ok (.next ρ)
  | .ex x=>.ex x
  | .bad=>.bad
abbrev Mv (c:Ae->M Bool)(b:Ae->M Out)(ρ:Ae):M Out:=
 @dite _ (∃n,AB c b n ρ≠.bad) (zdh _) (λ h=>AB c b (za7 h) ρ) (λ _=>.bad)
def CZ {c}{b}:∀ {n:Nat}{ρ:Ae},AB c b n ρ≠.bad->∀m,AB c b (n+m) ρ=AB c b n ρ
 |0,ρ,h,m=>(h rfl).elim
 |n+1,ρ,h,m=>by
  rw[show n+1+m=(n+m)+1 by omega];rw[AB] at h;rw[AB,AB];cases q:c ρ with
  |bad|ex x=>rfl
  |ok k =>
   rw[q] at h;cases k with
   |false=>rfl
   |true =>
    dsimp only at h ⊢;cases q2:b ρ with
    |bad|ex x=>rfl
    |ok o =>
     rw[q2] at h;cases o with
     |next ρ'=>dsimp only at h ⊢;exact CZ h m
     |cont ρ'=>dsimp only at h ⊢;exact CZ h m
     |brk ρ'=>rfl
     |ret d|CO d|FU d ρ2=>rfl
def fE {c}{b}(h:AB c b n ρ≠.bad):Mv c b ρ=AB c b n ρ:=by
 unfold Mv;have hx:∃n,AB c b n ρ≠.bad:=⟨n,h⟩;rw[dif_pos hx];have hc:=za1 hx;have e1:=CZ h (za7 hx);have e2:=CZ hc n;rw[Nat.add_comm] at e2;rw[<-e1,e2]
def Za {c}{b}(h:Mv c b ρ≠.bad):∃n,AB c b n ρ≠.bad/\Mv c b ρ=AB c b n ρ:=by
 by_cases hx:∃n,AB c b n ρ≠.bad
 ·obtain⟨n,hn⟩:=hx;exact⟨n,hn,fE hn⟩
 ·exact (h (by unfold Mv;rw[dif_neg hx])).elim
def qB {K}(h:gS K WX P0 P H Z m):m≠.bad:=λ e=>by rw[e] at h;exact h
def Kg (hp:PassesOwn (model X.prog X.w) X.A X.env X.xe)(hc:DT X WX a ft)(hb:VI X WX body g1):DS X WX (.While a body [] pos) (Mv ft g1):=by
 obtain⟨tc,c1,c2⟩:=hc;obtain⟨tb,b1,b2⟩:=hb;refine⟨_,cU hp c1 b1,λ P0 P σ H Z ρ E h=>?_⟩;obtain⟨n,hn,en⟩:=Za (qB h);rw[en] at h;refine⟨λ m σ' H'=>∃ρ' P',Ao X.K P0 P' H' σ' ρ'/\Tr P0 P H P' H'/\gS X.K WX P0 P' H' Z (AB ft g1 m ρ'),⟨n,ρ,P,E,Tr.refl,h⟩,?_⟩;rintro m σ1 H1 ⟨ρ1,P1,E1,t1,h1⟩;cases m with
 |zero=>exact h1.elim
 |succ m =>
  rw[AB] at h1;refine c2 P0 P1 σ1 H1 _ ρ1 E1 ?_;cases q:ft ρ1 with
  |bad=>rw[q] at h1;exact h1
  |ex x=>rw[q] at h1;exact λ H2 s2=>h1 H2 P1 (E1.tr s2)
  |ok k =>
   rw[q] at h1;intro H2 s2;have E2:=E1.same s2;cases k with
   |false =>
    rw[if_neg (by simp)];exact h1 σ1 H2 P1 (E1.tr s2) E2
   |true =>
    rw[if_pos rfl];dsimp only at h1;refine⟨λ σ' H'=>∃ρ' P',Ao X.K P0 P' H' σ' ρ'/\Tr P0 P H P' H'/\gS X.K WX P0 P' H' Z (AB ft g1 m ρ'),λ σ' H' z=>⟨m,Nat.lt_succ_self m,z⟩,?_⟩;refine b2 P0 P1 σ1 H2 _ ρ1 E2 ?_;cases q2:g1 ρ1 with
    |bad=>rw[q2] at h1;exact h1
    |ex x=>rw[q2] at h1;exact λ H3 P3 t3=>h1 H3 P3 ((E1.tr s2).trans t3)
    |ok o =>
     rw[q2] at h1;have t2:=t1.trans (E1.tr s2);cases o with
     |next ρ'=>exact λ σ3 H3 P3 t3 E3=>⟨ρ',P3,E3,t2.trans t3,h1.tr ((E1.tr s2).trans t3)⟩
     |cont ρ'=>exact λ σ3 H3 P3 t3 E3=>⟨ρ',P3,E3,t2.trans t3,h1.tr ((E1.tr s2).trans t3)⟩
     |brk ρ'=>exact λ σ3 H3 P3 t3 E3=>h1 σ3 H3 P3 ((E1.tr s2).trans t3) E3
     |ret d=>exact λ v H3 P3 t3 hv=>h1 v H3 P3 ((E1.tr s2).trans t3) hv
     |CO d=>exact λ v fp H3 P3 t3=>h1 v fp H3 P3 ((E1.tr s2).trans t3)
     |FU d ρ2=>exact λ v fp σ3 H3 P3 t3=>h1 v fp σ3 H3 P3 ((E1.tr s2).trans t3)
abbrev abC (ds:List D):M D:=match ds with
 |[.int i]=>.ok (.int i)
 |[.bl b]=>.ok (.int (if b then 1 else 0))
 |_=>.bad
abbrev HE:List D->Option (List Bool)
 |[]=>some []
 | .bl b::r=>(HE r).map (b::·)
 |_=>none
def OB (bs:List Bool):HE (bs.map D.bl)=some bs:=by
 induction bs with
 |nil=>rfl
 |cons b r ih=>rw[za5,HE,ih];rfl
def OC:∀ {ds:List D}{bs:List Bool},HE ds=some bs->ds=bs.map D.bl
 |[],bs,h=>by cases h;rfl
 | .bl b::r,bs,h=>by
  rw[HE] at h;cases q:HE r with
  |none=>rw[q] at h;cases h
  |some xh=>rw[q] at h;cases h;rw[OC q];rfl
 | .AL::r,bs,h| .int _::r,bs,h| .str _::r,bs,h| .tup _::r,bs,h| .lst _::r,bs,h| .LO _::r,bs,h| .BG _ _ _::r,bs,h| .ins _ _ _::r,bs,h=>by cases h
def OD {K}:∀ {vs:List V}{bs:List Bool},Ak K H vs (bs.map D.bl)->vs=bs.map V.bl
 |_,[],.nil=>rfl
 |_,b::r,.cons h t=>by cases h;rw[OD t];rfl
def OE:∀ {bs:List Bool}{us:List Value},Vals (bs.map V.bl) us->LSm.BoolsAre us bs
 |[],_,.nil=>.nil
 |b::r,_,.cons h t=>by cases h;exact .cons b (OE t)
def OF (hc:X.calm=true):GS X (.builtin "all") (λ xs H Q=>∃p bs,xs=[.ref p]/\Dr X.K H p (List.map V.bl bs)/\Q (.bl (bs.all id)) H):=by
 intro pins s σ H xs us Q I r h;obtain⟨p,bs,rfl,hq,q⟩:=h;obtain⟨u,rfl,rx⟩:=vals1 r;cases rx;obtain⟨aa,r',pl,hz⟩:=I.list hq;have hl:=pl.isList;have hb:=OE r';have ag:p<s.heap.objs.size:=by obtain⟨_,e,_⟩:=hl;exact zaj e
 refine call_all_walk (wpAny_pyIter_list hl ?_);refine⟨s.heap.objs.size,[s.heap.objs.size,p],[s.heap.objs.size],aa.toArray.size,_,_,λ i=>(bs[i]?).getD true,rfl,Walks.list (A:=X.A.in1) (I.ok.hd hc) _ p (zat ag) aa.toArray,
  ⟨⟨_,zar _ rfl,rfl,rfl⟩,hl.push _⟩,λ i v s' Q' E' hP hQ=>?_,λ h' tk hk=>?_⟩
 ·obtain⟨b,e,rfl⟩:=hb.get i v (by simpa using hP);simp only[e,Option.getD_some] at hQ;exact wpAny_truthy_bool hQ
 ·have e:((zay aa.toArray.size).all λ i=>(bs[i]?).getD true)=bs.all id:=by
   rw[zaa,hb.length];exact LSm.range_all bs
  rw[e];exact⟨.bl _,H,I.kept (t':=tk) (LSm.kept_iter hk),rfl,q⟩
abbrev Zb (ds:List D):M D:=match ds with
 |[.lst xs]=>(match HE xs with|some bs=>.ok (.bl (bs.all id))|none=>.bad)
 |_=>.bad
def tU:Mu X.K WX (λ xs H Q=>∃p bs,xs=[.ref p]/\Dr X.K H p (List.map V.bl bs)/\Q (.bl (bs.all id)) H) Zb:=by
 intro P H ds vs Q ht hl h;unfold Zb at h;split at h
 ·rename_i xs;obtain⟨v,rfl,hv⟩:=hl.one;split at h
  ·rename_i bs eb;have:=OC eb;subst this;cases hv with
   |lst hs hh =>
    have:=OD hh;subst this;exact⟨_,bs,rfl,hs.B8,h _ H (Ah.refl H) (.bl _)⟩
  ·exact h.elim
 ·exact h.elim
def fF (hc:X.calm=true)(hg:Gl X "all")(hm:X.mg "all" = none)(ha:DE X WX c e f)(hb:bootBuiltins "all" = some (.builtin "all"):=by decide +kernel)(hs: ~~~(starEach [e] X.env=[(false,eval e X.env)])):DE X WX c (.Call (.Name "all" p) [e] [] pos) (λ ρ=>((f ρ).bind λ d=>(M.ok []).bind λ ds=>.ok (d::ds)).bind Zb):=
 Kc (OF hc) tU hg hm hb (A2 ha A7 hs) (he:=hs)
end
abbrev Sm (n:Int):Prop:=zbv n<=2^20
def fG:∀ {ns:List Int},W.WData.weightAll (ns.map W.WData.int)<=2^20->∀n∈ns,Sm n
 |m::r,h,n,hn=>by
  rw[za5,W.WData.weightAll,W.WData.weight] at h;rcases zab.mp hn with rfl|hn
  ·unfold Sm zbv;omega
  ·exact fG (by omega) n hn
def yM {ns:List Int}(h:W.WData.layableAll [W.WData.list (ns.map W.WData.int)]=true):∀n∈ns,Sm n:=by
 unfold W.WData.layableAll at h;rw[List.all_cons,zb9] at h;have h1:=h.1;unfold W.WData.layable at h1;rw[zb9,decide_eq_true_eq,W.WData.weight] at h1;exact fG h1.2
end L2
namespace HT
open PySem PySem.W PyProof.Rows Spec Calls u4
def R8 {l:OpenLaw}(hn:l.most=some n)(gz:d.params.defaults=[])(run:∀(w:World) (s₀ s₁:Shared) (mg mb:Str->Option Value) (fa:Addr) (o:Obj) (pm cd doc:Value) (a:Addr) (vs:List Value) (ns:List Int),(∀n∈ns,L2.Sm n)->
  Ground q loose [] XP w s₀ mg mb s₁.heap->YP w s₁.heap->s₁.heap.get? fa=some o->o.data=.func (docDef d.name d.params d.body d.scope pm cd doc)->s₁.heap.CodeRec cd d.name->mg d.name=some (.ref fa)->
  s₁.heap.get? a=some {cls:=.type "list",data:=.seq vs.toArray}->IntsAre vs ns->ns.length<=n->s₁.gens=#[]->
  codeAny (model l.prog w) callerA (.call (.ref fa) ⟨[.ref a],[]⟩) (λ r s'=>r=.ok (.ret (.bool true))/\OldK s₁.heap s'.heap/\s'.os=s₁.os/\AllBare s'.gens) s₁):
 WalkO q loose XP YP l.row.toRowW d [] (λ f vs=>PySem.call f vs):=by
 intro w s₀ s₁ mg mb G Y fa o pm cd doc dV kV ho hd bc hD g7 hg args vals as dk qx g8 mw hlo;obtain rfl:dV=.none:=Dflts.none hD gz;obtain rfl:kV=.none:=Dflts.noKw hD;obtain⟨a,vs,ns,rfl,rfl,cu,bo,hlen⟩:=YX hn dk mw;refine enter_call (codeAny_mono (run w s₀ s₁ mg mb fa o pm cd doc a vs ns (L2.yM qx) G Y ho (fd_plain hd) bc g7 cu bo hlen hg) λ r s' hq=>?_);obtain⟨rfl,h2,h3,h4⟩:=hq;exact⟨.inl ⟨.bool true,.bool true,[],rfl,λ _=>rfl,.bool true,YY l _,λ _=>⟨List.Pairwise.nil,λ _ hm=>(nomatch hm)⟩⟩,h2,h3,h4⟩
end HT
namespace L2
open PySem PySem.Spec PyProof.Rows
def aai {l:PySem.W.OpenLaw}{K:Params->za0}{CX:World->Xp}{sp:World->Sp}(hn:l.most=some n)(a5:n<=sizeLine)(gz:d.params.defaults=[])(hr:C4 k callerA)(hY:∀(w:World) (h:Heap),YP w h->(K w.params).In h)(F:∀(w:World) (mg:Str->Option Value) (fa:Addr) (h:Heap),(K w.params).In h->h.Ns mainGlobals mg->mg d.name=some (.ref fa)->∃fd:FuncData,(∀(s:Shared) (u:Value),BindsTo s fd ⟨[u],[]⟩ [(x,u)])/\
  ∀base:Heap,(K w.params).In base->base.Ns mainGlobals mg->Ea l.prog w (K w.params) mg base (CX w) k fa fd [x] (sp w))(bE:∀(w:World) (H:Hp) (a:Addr) (ns:List Int),(∀n∈ns,Sm n)->ns.length<=n->lB H->Dr (K w.params) H a (ns.map V.int)->sp w [.ref a] H (λ v _=>v=.bl true) λ _ _ _=>False)(jn:∀(w:World) (H:Hp) (s:Shared) (e:Value) (s':Shared),CX w [] H s (λ _ _ _=>False) e s'->False):PySem.W.WalkO q loose XP YP l.row.toRowW d [] (λ f vs=>PySem.call f vs):=by
 refine HT.R8 hn gz λ w s₀ s₁ mg mb fa o pm cd doc a vs ns bC G Y ho hd bc g7 cu bo hlen hg=>?_;have KX:=hY w _ Y;obtain⟨fd,hb,hF⟩:=F w mg fa _ KX G.T.g g7;exact U2 KX G.T.g G.T.b G.T.builtins G.T.nolimit hg cu bo (zbu hlen a5) hr hF hb (λ H hO hS=>bE w H a ns bC hlen hO hS) λ H e s'=>jn w H s₁ e s'
variable {X:Cx}{WX:Str->Hp->Prop}{c:Bool}{P0:DV}{P P':Addr->Prop}{H H':Hp}{σ:St}{ρ ρ':Ae}{a b e:Expr}{f g g2:Ae->M D}{pos:Pos}{fn:Ae->M OT}{es:List Expr}{mg:Str->Option Value}{base:Heap}{E:XK}{ft:Ae->M Bool}{gt:D->Ae->M Ae}{fx:Ae->M (Ae×OT)}
def lV (h:∀ns:List Int,ns.length<=63->(∀n∈ns,Sm n)->F [.lst (ns.map D.int)]=.ok (.bl true))(K:za0)(H:Hp)(a:Addr)(ns:List Int)(bC:∀n∈ns,Sm n)(hl:ns.length<=63)(hS:Dr K H a (ns.map V.int)):Wn K 1 F [.ref a] H (λ v _=>v=.bl true) λ _ _ _=>False:=by
 refine⟨rfl,λ _=>False,[.lst (ns.map D.int)],λ _ z=>z.elim,.cons (.lst ?_ (Ak.ints ns)) .nil,?_⟩
 ·have e:del H (λ _=>False)=H:=by funext b;exact Ay (λ z=>z)
  rw[e];exact hS
 ·rw[h ns hl bC];exact λ v H' s hv=>hv.Oo
abbrev R9 (i j:Int):Prop:=(zbv i<=2^20+1/\zbv j<=2^10)\/Ui i j
def Zc {a b}(h:zbv a+zbv b<=2^21):IntMulOk a b:=by
 have e:(2:Nat)^21=2097152:=by decide
 have h2:Builtin.Int.intTooBig (zbv a+zbv b)=false:=by
  unfold Builtin.Int.intTooBig bitsLine;exact decide_eq_false (by omega)
 unfold IntMulOk;rw[h2];simp
def R9.ok (h:R9 i j):IntMulOk i j:=by
 rcases h with ⟨h1,h2⟩|h
 ·exact Zc (by omega)
 ·exact h.ok
def lW:Gf X (binaryOp .Mult) (rI R9 λ i j=>.int (i*j)):=opI λ _ _ _ _ _ _ _ hc q=>mul_int q hc.ok
noncomputable instance (i j:Int):Decidable (R9 i j):=zdh _
abbrev OG:=Bl λ i j=>if R9 i j then .ok (.int (i*j)) else .bad
def Kh (h:R9 i j):OG (.int i) (.int j)=.ok (.int (i*j)):=by
 unfold OG Bl;dsimp only;rw[if_pos h]
def Nt (ha:DE X WX c a f)(hb:DE X WX c b g):DE X WX c (.BinOp a .Mult b pos) (λ ρ=>(f ρ).bind λ x=>(g ρ).bind λ y=>OG x y):=R4 lW (Sk λ _ _ _ _=>.int _) ha hb
mutual
noncomputable def Ki:D->Bool
 | .tup a=>Kj a
 | .lst _| .LO _| .BG _ _ _| .ins _ _ _=>false
 |_=>true
noncomputable def Kj:List D->Bool
 |[]=>true
 |a::r=>Ki a&&Kj r
end
def XM {P0}{a}(ht:∀a,P a->EA H a)(h:del H P0 a=some (.tup xs)):del H P a=some (.tup xs):=by
 obtain⟨h1,h2⟩:=An h;rw[Ay λ z=>by
  obtain⟨o',q,r⟩:=ht a z;rw[h2] at q;cases q;exact (r xs).1 rfl]
 exact h2
mutual
theorem BV.Ki {K:za0}{H:Hp}{P0 P:Addr->Prop}(ht:∀a,P a->EA H a):∀ {v:V}{d:D},Ki d=true->BV K (del H P0) v d->BV K (del H P) v d
 |_,_,_,.AL=>.AL
 |_,_,_,.bl b=>.bl b
 |_,_,_,.int i=>.int i
 |_,_,_,.str x=>.str x
 |_,_,n,.tup h r=>.tup (XM ht h) (Ak.Ki ht (by rw[L2.Ki] at n;exact n) r)
 |_,_,n,.lst h r|_,_,n,.LO h r|_,_,n,.Tw h r|_,_,n,.Ua h r|_,_,n,.ins _ h r=>by rw[L2.Ki] at n;cases n
theorem Ak.Ki {K:za0}{H:Hp}{P0 P:Addr->Prop}(ht:∀a,P a->EA H a):∀ {vs:List V}{ds:List D},Kj ds=true->Ak K (del H P0) vs ds->Ak K (del H P) vs ds:=by
 intro _ _ n x_;cases x_ with
 |nil=>exact .nil
 |cons h t =>
  rw[Kj,zb9] at n;exact .cons (BV.Ki ht n.1 h) (Ak.Ki ht n.2 t)
end
abbrev dp (m:M D):M D:=m.bind λ d=>if Ki d=true then .ok d else .bad
def lX (h:DE X WX false e f):DE X WX true e (λ ρ=>dp (f ρ)):=by
 obtain⟨t,h1,h2⟩:=h;refine⟨t,h1,λ P0 P σ H Q ρ E g=>h2 P0 P σ H Q ρ E ?_⟩;unfold dp at g;dsimp only at g;cases e:f ρ with
 |ok d =>
  rw[e] at g;simp only[M.A9] at g;by_cases hf:Ki d=true
  ·rw[if_pos hf] at g;exact λ v H' s hv=>g v H' s (hv.Ki (E.same s).BU hf)
  ·rw[if_neg hf] at g;exact g.elim
 |ex x|bad=>rw[e] at g;exact g
section
variable {α:Type}(lt:α->α->Prop)
abbrev Qf:List α->List α->Prop
 |y::ys,x::xs=>(lt y x/\ys.length=xs.length)\/(y=x/\Qf ys xs)
 |_,_=>False
def Qf.len:∀ {ys xs:List α},Qf lt ys xs->ys.length=xs.length
 |y::ys,x::xs,h=>by
  rcases h with ⟨_,h⟩|⟨_,h⟩
  ·rw[za8,za8,h]
  ·rw[za8,za8,Qf.len h]
 |[],[],h|[],_::_,h|_::_,[],h=>h.elim
def fH (n:Nat)(ih:∀xs:List α,xs.length=n->Acc (Qf lt) xs){x:α}(hx:Acc lt x):∀ {xs:List α},xs.length=n->Acc (Qf lt) xs->Acc (Qf lt) (x::xs):=by
 induction hx with
 |intro x _ xi =>
  intro xs hl da;induction da with
  |intro xs _ qy =>
   refine .intro _ λ zs h=>?_;cases zs with
   |nil=>exact h.elim
   |cons y ys =>
    rcases h with ⟨h1,h2⟩|⟨h1,h2⟩
    ·exact xi y h1 (h2.trans hl) (ih ys (h2.trans hl))
    ·subst h1;exact qy ys h2 ((Qf.len lt h2).trans hl)
def OH (h:∀x,Acc lt x):∀(n:Nat) (xs:List α),xs.length=n->Acc (Qf lt) xs
 |0,[],_=>.intro _ λ zs h=>by cases zs<;>exact h.elim
 |n+1,x::xs,e=>fH lt n (OH h n) (h x) (by simpa using e) (OH h n xs (by simpa using e))
def XN:∀ {xs:List α}{i:Nat}{y:α}{x:α},xs[i]?=some x->lt y x->Qf lt (xs.set i y) xs
 |[],_,_,_,h,_=>by cases h
 |z::zs,0,y,x,h,hl=>by
  cases h;exact .inl ⟨hl,rfl⟩
 |z::zs,i+1,y,x,h,hl=>.inr ⟨rfl,XN (by simpa using h) hl⟩
def Qf.trans (ht:∀a b c,lt a b->lt b c->lt a c):∀ {xs ys zs:List α},Qf lt xs ys->Qf lt ys zs->Qf lt xs zs
 |x::xs,y::ys,z::zs,h1,h2=>by
  rcases h1 with ⟨a,b⟩|⟨rfl,b⟩
  ·rcases h2 with ⟨c,d⟩|⟨rfl,d⟩
   ·exact .inl ⟨ht _ _ _ a c,b.trans d⟩
   ·exact .inl ⟨a,b.trans (Qf.len lt d)⟩
  ·rcases h2 with ⟨c,d⟩|⟨rfl,d⟩
   ·exact .inl ⟨c,(Qf.len lt b).trans d⟩
   ·exact .inr ⟨rfl,Qf.trans ht b d⟩
 |[],_,_,h,_|_::_,[],_,h,_|_::_,_::_,[],_,h=>by cases h
end
abbrev abD (i k:Nat)(ρ:Ae):M Out:=match ρ[i]?,ρ[k]? with
 |some (some (.ow (.rows C3))),some (some (.own ds))=>if C3.length<1000/\i≠k then .ok (.next ((ρ.set k none).set i (some (.ow (.rows (C3++[ds])))))) else .bad
 |_,_=>.bad
def fI {α:Type}{l:List α}(h:Nn l.length k=some n):S7 l k=l[n]? :=by
 unfold S7;rw[h];rfl
def fJ (h:Nn m k=some n):n<m:=by
 unfold Nn at h;split at h
 ·split at h
  ·cases h;omega
  ·cases h
 ·split at h
  ·cases h;omega
  ·cases h
abbrev rowAt (C3:List (List D))(ka:D):M (List D):=match ka with
 | .int j=>(match Nn C3.length j with|some n=>(match C3[n]? with|some ds=>.ok ds|none=>.bad)|none=>.bad)
 |_=>.bad
def Ra (h:rowAt C3 ka=m)(hb:m≠.bad):∃j n ds,ka=.int j/\Nn C3.length j=some n/\C3[n]?=some ds/\m=.ok ds:=by
 subst h;unfold rowAt at hb ⊢;split at hb
 ·rename_i j;split at hb
  ·rename_i n en;split at hb
   ·rename_i ds ed;exact⟨j,n,ds,rfl,en,ed,by simp only[en,ed]⟩
   ·exact (hb rfl).elim
  ·exact (hb rfl).elim
 ·exact (hb rfl).elim
abbrev lY (i:Nat)(ρ:Ae)(ma mb:M D):M D:=match ρ[i]? with
 |some (some (.ow (.rows C3)))=>ma.bind λ ka=>(rowAt C3 ka).bind λ ds=>mb.bind λ kb=>lP (.lst ds) kb
 |_=>.bad
def yN {K}(h:gV K WX P H Q m):m≠.bad:=λ e=>by rw[e] at h;exact h
def XO {α β:Type}{m:M α}{k:α->M β}(h:m.bind k≠.bad):m≠.bad:=λ e=>by rw[e] at h;exact h rfl
def Sv (i:Nat)(hv:PE X (.Name x p1) (O3 i))(ha:DE X WX true a f)(hb:DE X WX true b g)(hs:Gh a:=by exact λ _ _=>rfl)(a6:Gh b:=by exact λ _ _=>rfl):
 DE X WX true (.Subscript (.Subscript (.Name x p1) a p2) b pos) (λ ρ=>lY i ρ (f ρ) (g ρ)):=by
 obtain⟨ta,a1,a2⟩:=ha;obtain⟨tb,b1,b2⟩:=hb;refine⟨_,TY K4 (TY K4 hv a1 hs) b1 a6,λ P0 P σ H Q ρ E h=>?_⟩;dsimp only at h;unfold lY at h;split at h
 ·rename_i C3 e1;obtain⟨v,fp,h1,⟨p,ps,rfl,rfl,h2,h3⟩,h4,nd⟩:=E.ows i _ e1 rfl;refine⟨_,h1,a2 P0 P σ H _ ρ E ?_⟩;refine XD h λ ka h=>?_;intro w H1 s1 hw;obtain⟨j,n,ds,rfl,en,ed,em⟩:=Ra rfl (XO (yN h));rw[em] at h;simp only[M.A9] at h;cases hw;obtain⟨r,xs,r1,r2,r3⟩:=h3.get ed;have hl:Nn (ps.map V.ref).length j=some n:=by rw[za2,h3.length];exact en
  refine⟨p,_,j,.ref r,rfl,rfl,.of (s1 _ _ h2),by rw[fI hl,zan,r1];rfl,?_⟩;refine b2 P0 P σ H1 _ ρ (E.same s1) ?_;cases q2:g ρ with
  |bad=>rw[q2] at h;exact h.elim
  |ex x=>rw[q2] at h;exact λ H' s'=>h H' (s1.trans s')
  |ok kb =>
   rw[q2] at h;simp only[M.A9] at h;intro u H2 s2 hu;unfold lP at h;split at h
   ·rename_i bm;cases bm
   ·rename_i jx j' bm;cases bm;split at h
    ·rename_i d e;cases hu;obtain⟨z,k1,k2⟩:=(r3.mono (s1.trans s2).del).S7 e;exact⟨r,xs,j',z,rfl,rfl,.of (s2 _ _ (s1 _ _ r2)),k1,h _ H2 (s1.trans s2) k2⟩
    ·exact h.elim
   ·exact h.elim
 ·exact h.elim
def BL.set {K:za0}{H H':Hp}{P:Addr->Prop}(sm:Ah (del H P) (del H' P)){r:Addr}{xs:List V}{ds:List D}(hr:H' r=some (.lst xs))(hx:Ak K (del H' P) xs ds)(k:∀a,a≠r->H' a=H a):∀ {ps:List Addr}{C3:List (List D)}{n:Nat},ps.Nodup->ps[n]?=some r->BL K H P ps C3->BL K H' P ps (C3.set n ds)
 |_,_,_,_,e,.nil=>by simp at e
 |_,_,0,nd,e,.cons h1 h2 t=>by
  simp at e;subst e;rw[zb6] at nd;exact .cons hr hx (t.move sm λ a ha=>k a λ z=>nd.1 (by rw[<-z];exact ha))
 |q::ps,d::C3,n+1,nd,e,.cons h1 h2 t=>by
  rw[zb6] at nd;have e':ps[n]?=some r:=by simpa using e
  refine .cons ((k q λ z=>nd.1 (by rw[z];exact zai e')).trans h1) (h2.mono sm) (t.set sm hr hx k nd.2 e')
abbrev lZ (i:Nat)(ρ:Ae)(C3:List (List D))(d ka:D)(ds:List D)(kb:D):M Out:=match ka,kb with
 | .int j,.int l=>(match Nn C3.length j,Nn ds.length l with|some n,some m=>.ok (.next (ρ.set i (some (.ow (.rows (C3.set n (ds.set m d)))))))|_,_=>.bad)
 |_,_=>.bad
abbrev Uk (i:Nat)(ρ:Ae)(ma mb:M D)(d:D):M Out:=match ρ[i]? with
 |some (some (.ow (.rows C3)))=>ma.bind λ ka=>(rowAt C3 ka).bind λ ds=>mb.bind λ kb=>lZ i ρ C3 d ka ds kb
 |_=>.bad
def Sw (i:Nat)(hv:PE X (.Name x p1) (O3 i))(he:DE X WX true e g2)(ha:DE X WX true a f)(hb:DE X WX true b g)(xj:Gh a:=by exact λ _ _=>rfl)(hs: ~~~(swapsWithSole [.Subscript (.Subscript (.Name x p1) a p2) b am] e pos.line X.env=pure false))(hw: ~~~(swappedStores [.Subscript (.Subscript (.Name x p1) a p2) b am] e X.env=pure none))(h1: ~~~((assignEach [.Subscript (.Subscript (.Name x p1) a p2) b am] X.env).map (·.2)=[assign (.Subscript (.Subscript (.Name x p1) a p2) b am) X.env]))(gy:∀v,assign (.Subscript (.Subscript (.Name x p1) a p2) b am) X.env v=(do
  let ov <-holding [v] (eval (.Subscript (.Name x p1) a p2) X.env);let iv <-holding [v,ov] (eval b X.env)
  standAt am
  holding [v,ov,iv] (setItem ov iv v)
  release [v,ov,iv] []):=by intro _;rfl):
 DS X WX (.Assign [.Subscript (.Subscript (.Name x p1) a p2) b am] e pos) (λ ρ=>(g2 ρ).bind (Uk i ρ (f ρ) (g ρ))):=by
 obtain⟨te,e1,e2⟩:=he;obtain⟨ta,a1,a2⟩:=ha;obtain⟨tb,b1,b2⟩:=hb;refine⟨_,VO e1 (cT (TY K4 hv a1 xj) b1 set_list gy) hs hw h1,λ P0 P σ H Z ρ E h=>?_⟩;dsimp only at h;refine e2 P0 P σ H _ ρ E ?_;refine cI h E λ d h=>?_;intro v H0 s0 qz;have E0:=E.same s0;unfold Uk at h;split at h
 ·rename_i C3 vc;obtain⟨v',fp,h1,o1,h4,nd⟩:=E0.ows i _ vc rfl;have oa:=o1;obtain⟨p,ps,rfl,rfl,h2,h3⟩:=o1;refine⟨_,h1,a2 P0 P σ H0 _ ρ E0 ?_⟩;cases q:f ρ with
  |bad=>rw[q] at h;exact h.elim
  |ex x=>rw[q] at h;exact λ H' s=>h H' P ((E.tr s0).trans (E0.tr s))
  |ok ka =>
   rw[q] at h;simp only[M.A9] at h;intro w H1 s1 hw;obtain⟨j,n,ds,rfl,en,ed,em⟩:=Ra rfl (XO (qB h));rw[em] at h;simp only[M.A9] at h;cases hw;obtain⟨r,xs,r1,r2,r3⟩:=h3.get ed;have hl:Nn (ps.map V.ref).length j=some n:=by rw[za2,h3.length];exact en
   refine⟨p,_,j,.ref r,rfl,rfl,.of (s1 _ _ h2),by rw[fI hl,zan,r1];rfl,?_⟩;have E1:=E0.same s1;refine b2 P0 P σ H1 _ ρ E1 ?_;cases q2:g ρ with
   |bad=>rw[q2] at h;exact h.elim
   |ex x=>rw[q2] at h;exact λ H' s'=>h H' P ((E.tr s0).trans ((E0.tr s1).trans (E1.tr s')))
   |ok kb =>
    rw[q2] at h;simp only[M.A9] at h;intro u H2 s2 hu;unfold lZ at h;split at h
    ·rename_i j' l bm;cases bm;cases hu;split at h
     ·rename_i n' m em xk;rw[en] at em;cases em;have E2:=E1.same s2;have cv:=s1.trans s2;have rm:r∈ps:=zai r1;have rP:=h4 r (za4 _ rm);have fm:=zb6.mp nd;have rp:r≠p:=λ z=>fm.1 (by rw[<-z];exact rm);have sd:del (upd H2 r (.lst (xs.set m v))) P=del H2 P:=by
       funext b;by_cases hb:P b
       ·rw[EG hb,EG hb]
       ·rw[Ay hb,Ay hb,Ag (λ z=>hb (by rw[z];exact rP.1))]
      have sm:Ah (del H2 P) (del (upd H2 r (.lst (xs.set m v))) P):=by rw[sd];exact Ah.refl _
      have ob:=oa.same cv;refine⟨r,xs,l,m,rfl,rfl,cv _ _ r2,by rw[r3.length];exact xk,?_⟩;have key:=E2.Z6 (P':=P) (H':=upd H2 r (.lst (xs.set m v))) (i:=i) (v:=.ref p) (c:=.ow (.rows (C3.set n (ds.set m d)))) (fp:=p::ps) (λ a h=>h) (λ a h=>?_) sm (λ j2 c' v' ah ae g1 g2 g3 a ha=>?_)
       ⟨p,ps,rfl,rfl,by rw[Ag (zbi rp)];exact cv _ _ h2,?_⟩ h4 nd
      ·rw[Ov h1] at key;exact h _ _ _ ((E.tr s0).trans ((E0.tr cv).trans ⟨sm,λ a h=>by rw[Ag (λ z=>rP.2 (by rw[<-z];exact h))]⟩)) key
      ·by_cases ha:a=r
       ·subst ha;exact EA.lst Am
       ·unfold EA;rw[Ag ha];exact E2.BU a h
      ·have n1:=E2.apart j2 i _ _ _ _ _ _ g1 vc g2 h1 g3 ob (zbi ae) a ha;exact⟨Ag λ z=>n1 (by rw[z];exact za4 _ rm),n1⟩
      ·have xl:BL X.K H2 P ps C3:=h3.move cv.del λ a ha=>by obtain⟨ys,z⟩:=h3.at a ha;rw[z];exact cv _ _ z
       refine xl.set sm Am ?_ (λ a ha=>Ag ha) fm.2 r1;rw[sd];exact Oz ((qz.mono s1.del).mono s2.del) m (r3.mono cv.del)
     ·exact h.elim
    ·exact h.elim
 ·exact h.elim
def EC:∀ {ds:List D}{ns:List Int},CY ds=some ns->ds=ns.map D.int
 |[],ns,h=>by cases h;rfl
 | .int b::r,bs,h=>by
  rw[CY] at h;cases q:CY r with
  |none=>rw[q] at h;cases h
  |some xh=>rw[q] at h;cases h;rw[EC q];rfl
 | .AL::r,bs,h| .bl _::r,bs,h| .str _::r,bs,h| .tup _::r,bs,h| .lst _::r,bs,h| .LO _::r,bs,h| .BG _ _ _::r,bs,h| .ins _ _ _::r,bs,h=>by cases h
def Dt {K}:∀ {vs:List V}{bs:List Int},Ak K H vs (bs.map D.int)->vs=bs.map V.int
 |_,[],.nil=>rfl
 |_,b::r,.cons h t=>by cases h;rw[Dt t];rfl
def tV (t:Tr P P H P2 H'){a}(h:P2 a)(hn:¬ P a):H a=none:=by
 cases q:H a with
 |none=>rfl
 |some o =>
  have:=t.1 a o (by rw[Ay hn];exact q);exact ((An this).1 h).elim
abbrev mB:V->List V->Hp->VK->Prop:=λ x vs H Q=>∃(l:Addr) (xs:List V) (k:Nat) (y:V),x=.ref l/\vs=[.int (k:Int),y]/\H l=some (.lst xs)/\k<=xs.length/\xs.length<sizeLine/\Q .AL (upd H l (.lst (xs.take k++y::xs.drop k)))
def Ul:∀ {xs:List V}{us:List Value}{y:V}{w:Value},Vals xs us->∀k:Nat,RelV y w->Vals (xs.take k++y::xs.drop k) (us.take k++w::us.drop k)
 |_,_,_,_,r,0,h=>.cons h r
 |_,_,_,_,.nil,k+1,h=>.cons h .nil
 |_,_,_,_,.cons a t,k+1,h=>.cons a (Ul t k h)
def fK {E}(x:Int)(u:Tok)(y:Value)(hc:¬(!Builtin.List.listFitsIndex x)=true)(hs:items.size<=sizeLine)(e:s.heap.get? l=some {cls:=.type "list",data:=.seq items n})(h:Q .none {s with heap:=s.heap.update l (Obj.mapSeq λ xs=>(xs.extract 0 (if x<0 then (x+(xs.size:Int)).toNat else min x.toNat xs.size)).push y++xs.extract (if x<0 then (x+(xs.size:Int)).toNat else min x.toNat xs.size)),toks:=s.toks}):wpAny (model prog wd) A (call (.builtin "list.insert") [.ref l,.int x u,y]) Q E s:=by
 have hm:=PySem.AutoSeq1.list_insert_list_int_val_1 l items n x u y hc hs;have ha:=PySem.F.args_list_insert_3 (.ref l) (.int x u) y;exact call_meets PySem.F.slot_list_insert ⟨_,e,rfl⟩ PySem.F.entry_list_insert ha hm ⟨e,h⟩
def Zd:vV X "list.insert" mB:=by
 intro pins s σ H x vs v us Q I rx rv h;obtain⟨l,xs,k,y,rfl,rfl,hH,hk,hz,q⟩:=h;cases rx;obtain⟨u,w,rfl,ru,bh⟩:=rv.two;obtain⟨tk,rfl⟩:=ru;obtain⟨z,aa,n,r,hl,e⟩:=I.U0 hH;have hlen:=r.length;have h63:=LQ;have gi:¬ (!Builtin.List.listFitsIndex (k:Int))=true:=by
  unfold Builtin.List.listFitsIndex;simp;omega
 have hsz:aa.toArray.size<=sizeLine:=by rw[zaa,<-hl];exact zbp hz
 refine fK (k:Int) tk w gi hsz e ?_;refine⟨.AL,_,I.YV (its':=aa.take k++w::aa.drop k) hH e ?_ ?_ ?_,rfl,q⟩
 ·have e1:¬ ((k:Int)<0):=by omega
  have e2:min (k:Int).toNat aa.toArray.size=k:=by rw[zbh,zaa];omega
  simp only[e1,if_false,e2];apply Array.toList_inj.mp;simp;rw[List.take_of_length_le (by rw[zdd];exact zag _)]
 ·exact Ul r k bh
 ·rw[zal,za8,zbz,zdd];omega
abbrev Ze (i:Nat)(ρ:Ae)(mk md:M D):M Out:=match ρ[i]? with
 |some (some (.own ds))=>mk.bind λ k=>md.bind λ d=>match k with
  | .int j=>if 0<=j/\j.toNat<=ds.length/\ds.length<1000 then .ok (.next (ρ.set i (some (.own (ds.take j.toNat++d::ds.drop j.toNat))))) else .bad
  |_=>.bad
 |_=>.bad
def M3 {K}:∀ {vs:List V}{ds:List D}(n:Nat),Ak K H vs ds->Ak K H (vs.take n) (ds.take n)
 |_,_,0,_=>by rw[zd9,zd9];exact .nil
 |_,_,_+1,.nil=>.nil
 |_,_,n+1,.cons h t=>by rw[List.take_succ_cons,List.take_succ_cons];exact .cons h (M3 n t)
def Rb {K}:∀ {vs:List V}{ds:List D}(n:Nat),Ak K H vs ds->Ak K H (vs.drop n) (ds.drop n)
 |_,_,0,h=>h
 |_,_,_+1,.nil=>.nil
 |_,_,n+1,.cons h t=>by rw[List.drop_succ_cons,List.drop_succ_cons];exact Rb n t
def Um {K:za0}{H:Hp}:∀ {vs ws:List V}{ds es:List D},Ak K H vs ds->Ak K H ws es->Ak K H (vs++ws) (ds++es)
 |_,_,_,_,.nil,k=>k
 |_,_,_,_,.cons h t,k=>.cons h (Um t k)
def Zf (i:Nat){ad}(hv:PE X (.Name x p1) (O3 i))(hk:DE X WX true a f)(hd:DE X WX true b g)(hs: ~~~(starEach [a,b] X.env=(false,eval a X.env)::starEach [b] X.env))(a6: ~~~(starEach [b] X.env=[(false,eval b X.env)]))(aX: ~~~(swapsWith (.Call (.Attribute (.Name x p1) "insert" apos) [a,b] [] ad) none pos.line X.env=pure false))(ak: ~~~(attributeBase (.Name x p1) "insert" X.env (eval (.Name x p1) X.env)=eval (.Name x p1) X.env))(aJ: ~~~(((backTo ad (starEach [a,b] X.env)).all (λ x => !x.1)&&(backToKw ad (keywordEach [] X.env)).all (λ x=>x.1.isSome)&&decide (([a,b]:List Expr).length+([]:List Keyword).length+(if ([]:List Keyword).isEmpty then 0 else 1)<30))=true))(al: ~~~((apos.endLine==ad.line)=true))(ao: ~~~((backTo ad (starEach [b] X.env)).any (·.1)=false)):
 DS X WX (.Expr (.Call (.Attribute (.Name x p1) "insert" apos) [a,b] [] ad) pos) (λ ρ=>Ze i ρ (f ρ) (g ρ)):=by
 obtain⟨ta,a1,a2⟩:=hk;obtain⟨tb,b1,b2⟩:=hd;refine⟨_,Gd (TZ zc3 PySem.F.slot_list_insert PySem.F.type_list_insert Zd hv (Bd a1 (Bd b1 Cv a6) hs) ak aJ al hs ao) aX,λ P0 P σ H Z ρ E h=>?_⟩;dsimp only at h;unfold Ze at h;split at h
 ·rename_i ds e1;obtain⟨p,xs,h1,h2,h3,h4,h5⟩:=E.own i ds e1;refine⟨_,h1,.inl ⟨rfl,xs,.of h2⟩,a2 P0 P σ H _ ρ E ?_⟩;refine cI h E λ k h=>?_;intro w H1 s1 hw;have E1:=E.same s1;refine b2 P0 P σ H1 _ ρ E1 ?_;cases q2:g ρ with
  |bad=>rw[q2] at h;exact h
  |ex y=>rw[q2] at h;exact λ H' s=>h H' P ((E.tr s1).trans (E1.tr s))
  |ok d =>
   rw[q2] at h;simp only[M.A9] at h;intro v H2 s2 qz;have E2:=E1.same s2;have cv:=s1.trans s2;split at h
   ·rename_i j;cases hw;by_cases hj:0<=j/\j.toNat<=ds.length/\ds.length<1000
    ·rw[if_pos hj] at h;have xm:((j.toNat:Nat):Int)=j:=Int.toNat_of_nonneg hj.1;have vd:=h5.mono cv.del;refine⟨p,xs,j.toNat,v,rfl,by rw[xm],cv _ _ h2,by rw[h5.length];exact hj.2.1,AA (by rw[h5.length];exact zbp hj.2.2),?_⟩;obtain⟨E3,t3⟩:=E2.mut e1 h1 h3 h4 (Um (M3 j.toNat vd) (.cons qz (Rb j.toNat vd)));exact h _ _ _ ((E.tr cv).trans t3) E3
    ·rw[if_neg hj] at h;exact h.elim
   ·exact h.elim
 ·exact h.elim
abbrev yO (ds:List D):M D:=match ds with
 |[.lst xs]=>(match HE xs with|some bs=>.ok (.bl (bs.any id))|none=>.bad)
 |_=>.bad
abbrev kids:OT->List OT
 | .sh _=>[]
 | .lst ts| .tup ts| .BG _ _ ts| .ins _ _ ts=>ts
abbrev Nu:OT->List OT->OT
 | .sh d,_=>.sh d
 | .lst _,ts=>.lst ts
 | .tup _,ts=>.tup ts
 | .BG b ks _,ts=>.BG b ks ts
 | .ins x ns _,ts=>.ins x ns ts
abbrev M4:OT->List Nat->Option OT
 |t,[]=>some t
 |t,j::π=>match (kids t)[j]? with|some s=>M4 s π|none=>none
abbrev EJ:OT->List Nat->OT->OT
 |_,[],u=>u
 |t,j::π,u=>match (kids t)[j]? with|some s=>Nu t ((kids t).set j (EJ s π u))|none=>t
@[simp] theorem fL (t:OT):M4 t []=some t:=by unfold M4;rfl
@[simp] theorem EK (t u:OT):EJ t [] u=u:=by unfold EJ;rfl
def Zg (h:(kids t)[j]?=some s):M4 t (j::π)=M4 s π:=by rw[M4,h]
def Zh (h:(kids t)[j]?=some s):EJ t (j::π) u=Nu t ((kids t).set j (EJ s π u)):=by rw[EJ,h]
section
variable {K:za0}
abbrev CI (K:za0)(H:Hp)(P:Addr->Prop)(v:V)(t:OT)(q:List Addr)(xs:List V):Prop:=match t with
 | .sh _=>False
 | .lst ts=>∃p,v=.ref p/\q=[p]/\H p=some (.lst xs)
 | .tup ts=>∃p,v=.ref p/\q=[]/\del H P p=some (.tup xs)
 | .BG false ks ts=>∃p kvs,v=.ref p/\q=[p]/\H p=some (.dK kvs)/\ks=(kvs.map λ kv=>CD kv.1)/\xs=kvs.map zbw
 | .BG true ks ts=>∃p kvs,v=.ref p/\q=[p]/\H p=some (.dT kvs)/\ks=(kvs.map λ kv=>.tup (kv.1.map CD))/\xs=kvs.map zbw
 | .ins x ns ts=>∃p C dx fs,v=.ref p/\q=[p]/\zb5 K mainGlobals x=some (some (.ref C))/\H p=some (.ins C dx fs)/\ns=fs.map zb4/\xs=fs.map zbw
def CI.own (h:CI K H P v t q xs)(r:Ax K H P xs (kids t) fp):C6 K H P v t (q++fp):=by
 cases t with
 |sh d=>exact h.elim
 |lst ts=>obtain⟨p,rfl,rfl,h⟩:=h;exact .lst h r
 |tup ts=>obtain⟨p,rfl,rfl,h⟩:=h;exact .tup h r
 |BG b ks ts =>
  cases b with
  |false=>obtain⟨p,kvs,rfl,rfl,h,rfl,rfl⟩:=h;exact .dK h r
  |true=>obtain⟨p,kvs,rfl,rfl,h,rfl,rfl⟩:=h;exact .dT h r
 |ins x ns ts=>obtain⟨p,C,dx,fs,rfl,rfl,n,h,rfl,rfl⟩:=h;exact .ins n h r
def C6.node (h:C6 K H P v t fp)(hk:kids t≠[]\/∀d,t≠.sh d):∃q xs fq,fp=q++fq/\CI K H P v t q xs/\Ax K H P xs (kids t) fq:=by
 cases h with
 |sh h=>rcases hk with hk|hk;exact (hk rfl).elim;exact (hk _ rfl).elim
 |lst h r=>exact⟨[_],_,_,rfl,⟨_,rfl,rfl,h⟩,r⟩
 |tup h r=>exact⟨[],_,_,rfl,⟨_,rfl,rfl,h⟩,r⟩
 |dK h r|dT h r=>exact⟨[_],_,_,rfl,⟨_,_,rfl,rfl,h,rfl,rfl⟩,r⟩
 |ins n h r=>exact⟨[_],_,_,rfl,⟨_,_,_,_,rfl,rfl,n,h,rfl,rfl⟩,r⟩
def CI.move (sm:Ah (del H P) (del H' P'))(k:∀a∈q,H' a=H a)(h:CI K H P v t q xs):CI K H' P' v t q xs:=by
 cases t with
 |sh d=>exact h.elim
 |lst ts=>obtain⟨p,rfl,rfl,h⟩:=h;exact⟨p,rfl,rfl,(k p za3).trans h⟩
 |tup ts=>obtain⟨p,rfl,rfl,h⟩:=h;exact⟨p,rfl,rfl,sm _ _ h⟩
 |BG b ks ts =>
  cases b with
  |false|true=>obtain⟨p,kvs,rfl,rfl,h,rfl,rfl⟩:=h;exact⟨p,kvs,rfl,rfl,(k p za3).trans h,rfl,rfl⟩
 |ins x ns ts=>obtain⟨p,C,dx,fs,rfl,rfl,n,h,rfl,rfl⟩:=h;exact⟨p,C,dx,fs,rfl,rfl,n,(k p za3).trans h,rfl,rfl⟩
def CI.kids (h:CI K H P v t q xs)(ts:List OT):CI K H P v (Nu t ts) q xs:=by
 cases t with
 |sh d=>exact h.elim
 |lst us|tup us=>exact h
 |BG b ks us=>cases b<;>exact h
 |ins x ns us=>exact h
def Sx (h:CI K H P v t q xs)(ts:List OT):L2.kids (Nu t ts)=ts:=by
 cases t with
 |sh d=>exact h.elim
 |lst us|tup us|BG b ks us|ins x ns us=>rfl
def CI.inj (h:CI K H P v t q xs)(h':CI K H P v t q' fj):q=q'/\xs=fj:=by
 cases t with
 |sh d=>exact h.elim
 |lst ts|tup ts=>obtain⟨p,rfl,rfl,h⟩:=h;obtain⟨p',e,rfl,h'⟩:=h';cases e;rw[h] at h';cases h';exact⟨rfl,rfl⟩
 |BG b ks ts =>
  cases b with
  |false|true=>obtain⟨p,kvs,rfl,rfl,h,_,rfl⟩:=h;obtain⟨p',q0,e,rfl,h',_,rfl⟩:=h';cases e;rw[h] at h';cases h';exact⟨rfl,rfl⟩
 |ins x ns ts=>obtain⟨p,C,dx,fs,rfl,rfl,n,h,_,rfl⟩:=h;obtain⟨p',C',dx',ce,e,rfl,n',h',_,rfl⟩:=h';cases e;rw[h] at h';cases h';exact⟨rfl,rfl⟩
inductive HF (K:za0) (H:Hp) (P:Addr->Prop):V->OT->List Nat->V->OT->Prop
 |nil {v t}:HF K H P v t [] v t
 |cons {v t q xs j x s π v1 t1}:CI K H P v t q xs->xs[j]?=some x->(kids t)[j]?=some s->HF K H P x s π v1 t1->HF K H P v t (j::π) v1 t1
def HF.sub (h:HF K H P v t π v1 t1):M4 t π=some t1:=by
 induction h with
 |nil=>exact fL _
 |cons _ _ hs _ ih=>rw[Zg hs];exact ih
def HF.snoc (h:HF K H P v t π v1 t1)(n:CI K H P v1 t1 q xs)(hx:xs[j]?=some x)(hs:(kids t1)[j]?=some s):HF K H P v t (π++[j]) x s:=by
 induction h with
 |nil=>exact .cons n hx hs .nil
 |cons n' nc xn _ ih=>exact .cons n' nc xn (ih n hs)
def Ax.get:∀ {xs:List V}{ts:List OT}{fp:List Addr}{j:Nat}{x:V}{s:OT},Ax K H P xs ts fp->xs[j]?=some x->ts[j]?=some s->∃pre fs post,fp=pre++fs++post/\C6 K H P x s fs
 |_,_,_,_,_,_,.nil,e,_=>by simp at e
 |_,_,_,0,_,_,.cons h r,e,e'=>by
  simp at e e';subst e;subst e';exact⟨[],_,_,rfl,h⟩
 |_,_,_,j+1,_,_,.cons (fp:=f1) h r,e,e'=>by
  obtain⟨pre,fs,post,z,q⟩:=Ax.get r (by simpa using e) (by simpa using e');exact⟨f1++pre,fs,post,by rw[z];simp,q⟩
def Ax.len:∀ {xs:List V}{ts:List OT}{fp:List Addr},Ax K H P xs ts fp->xs.length=ts.length
 |_,_,_,.nil=>rfl
 |_,_,_,.cons _ r=>by rw[za8,za8,r.len]
def Ax.exV:∀ {xs:List V}{ts:List OT}{fp:List Addr}{j:Nat}{s:OT},Ax K H P xs ts fp->ts[j]?=some s->∃x,xs[j]?=some x:=fun {xs ts fp j s} h e=>by
 have hl:j<xs.length:=by rw[h.len];exact (zah.mp e).1
 exact⟨_,za6 hl⟩
def C6.part (h:C6 K H P v t fp)(s:HF K H P v t π v1 t1):∃ax,C6 K H P v1 t1 ax/\(∀a∈ax,a∈fp)/\(fp.Nodup->ax.Nodup):=by
 induction s generalizing fp with
 |nil=>exact⟨fp,h,λ _ h=>h,λ h=>h⟩
 |cons n hx hs _ ih =>
  obtain⟨q,xs,fq,rfl,n',r⟩:=h.node (.inl λ z=>by rw[z] at hs;cases hs);obtain⟨rfl,rfl⟩:=n.inj n';obtain⟨pre,fs,post,rfl,o⟩:=r.get hx hs;obtain⟨ax,o1,k,kn⟩:=ih o;exact⟨ax,o1,λ a ha=>zad _ (zb8 _ (zad _ (k a ha))),λ nd=>kn (zau.mp (zau.mp (zau.mp nd).2.1).1).2.1⟩
def Ax.put (sm:Ah (del H P) (del H' P')):∀ {xs:List V}{ts:List OT}{fp:List Addr}{j:Nat}{x:V}{s s':OT}{fs ce:List Addr},Ax K H P xs ts fp->xs[j]?=some x->ts[j]?=some s->C6 K H P x s fs->C6 K H' P' x s' ce->(∀a∈fp,a∉fs->H' a=H a)->fp.Nodup->ce.Nodup->(∀a∈ce,a∈fp->a∈fs)->
 ∃ah,Ax K H' P' xs (ts.set j s') ah/\ah.Nodup/\∀a∈ah,a∈ce\/(a∈fp/\a∉fs)
 |_,_,_,_,_,_,_,_,_,.nil,e,_,_,_,_,_,_,_=>by simp at e
 |_,_,_,0,x,s,s',fs,ce,.cons (fp:=f1) (fq:=f2) h r,e,e',o,o',k,nd,fm,dj=>by
  simp at e e';subst e;subst e';have:=h.Cj o;subst this;have aP:=zau.mp nd;have k2:∀a∈f2,a∉f1:=λ a ha hb=>aP.2.2 a hb a ha rfl;refine⟨ce++f2,.cons o' (r.move sm λ a ha=>k a (zad _ ha) (k2 a ha)),zau.mpr ⟨fm,aP.2.1,λ a ha b hb z=>?_⟩,λ a ha=>?_⟩
  ·subst z;exact k2 a hb (dj a ha (zad _ hb))
  ·rcases zao.mp ha with ha|ha
   ·exact .inl ha
   ·exact .inr ⟨zad _ ha,k2 a ha⟩
 |_,_,_,j+1,x,s,s',fs,ce,.cons (vs:=u6) (ts:=xp) (fp:=f1) (fq:=f2) h r,e,e',o,o',k,nd,fm,dj=>by
  have aP:=zau.mp nd;have e2:u6[j]?=some x:=by simpa using e
  have e3:xp[j]?=some s:=by simpa using e'
  obtain⟨pre,fx,post,hf,ox⟩:=r.get e2 e3;have:=ox.Cj o;subst this;have k1:∀a∈f1,a∉fx:=λ a ha hb=>aP.2.2 a ha a (by rw[hf];exact zb8 _ (zad _ hb)) rfl;obtain⟨ah,q1,q2,q3⟩:=Ax.put sm r e2 e3 o o' (λ a ha hn=>k a (zad _ ha) hn) aP.2.1 fm (λ a ha hb=>dj a ha (zad _ hb));refine⟨f1++ah,.cons (h.move sm λ a ha=>k a (zb8 _ ha) (k1 a ha)) q1,zau.mpr ⟨aP.1,q2,λ a ha b hb z=>?_⟩,λ a ha=>?_⟩
  ·subst z;rcases q3 a hb with z|z
   ·exact k1 a ha (dj a z (zb8 _ ha))
   ·exact aP.2.2 a ha a z.1 rfl
  ·rcases zao.mp ha with ha|ha
   ·exact .inr ⟨zb8 _ ha,k1 a ha⟩
   ·rcases q3 a ha with z|z
    ·exact .inl z
    ·exact .inr ⟨zad _ z.1,z.2⟩
def C6.put (sm:Ah (del H P) (del H' P'))(h:C6 K H P v t fp)(s:HF K H P v t π v1 t1)(o:C6 K H P v1 t1 ax)(o':C6 K H' P' v1 u fu)(k:∀a∈fp,a∉ax->H' a=H a)(nd:fp.Nodup)(fm:fu.Nodup)(dj:∀a∈fu,a∈fp->a∈ax):
 ∃ah,C6 K H' P' v (EJ t π u) ah/\ah.Nodup/\∀a∈ah,a∈fu\/(a∈fp/\a∉ax):=by
 induction s generalizing fp with
 |nil =>
  rw[EK];exact⟨fu,o',fm,λ a ha=>.inl ha⟩
 | @cons v t q xs j x s π v1 t1 n hx hs s1 ih =>
  obtain⟨q',fj,fq,rfl,n',r⟩:=h.node (.inl λ z=>by rw[z] at hs;cases hs);obtain⟨rfl,rfl⟩:=n.inj n';have jy:=zau.mp nd;obtain⟨pre,fs,post,hf,ox⟩:=r.get hx hs;have sub:∀a∈fs,a∈fq:=λ a ha=>by rw[hf];exact zb8 _ (zad _ ha)
  have xq:fs.Nodup:=by
   have:=jy.2.1;rw[hf] at this;exact (zau.mp (zau.mp this).1).2.1
  obtain⟨fz,oz,kz,_⟩:=ox.part s1;have:=oz.Cj o;subst this;obtain⟨ce,q1,q2,q3⟩:=ih ox o o' (λ a ha hn=>k a (zad _ (sub a ha)) hn) xq (λ a ha hb=>dj a ha (zad _ (sub a hb)));have qf:∀a∈q,a∉fs:=λ a ha hb=>jy.2.2 a ha a (sub a hb) rfl;have kq:∀a∈q,H' a=H a:=λ a ha=>k a (zb8 _ ha) λ z=>qf a ha (kz a z);obtain⟨ah,p1,p2,p3⟩:=r.put sm hx hs ox q1 (λ a ha hn=>k a (zad _ ha) λ z=>hn (kz a z)) jy.2.1 q2 (λ a ha hb=>by
   rcases q3 a ha with z|z
   ·exact kz a (dj a z (zad _ hb))
   ·exact z.1)
  rw[Zh hs];have n2:=(n.move sm kq).kids ((kids t).set j (EJ s π u));have o2:=n2.own (fp:=ah) (by rw[Sx n];exact p1);refine⟨q++ah,o2,zau.mpr ⟨jy.1,p2,λ a ha b hb z=>?_⟩,λ a ha=>?_⟩
  ·subst z;rcases p3 a hb with z|z
   ·rcases q3 a z with y|y
    ·exact qf a ha (kz a (dj a y (zb8 _ ha)))
    ·exact qf a ha y.1
   ·exact jy.2.2 a ha a z.1 rfl
  ·rcases zao.mp ha with ha|ha
   ·exact .inr ⟨zb8 _ ha,λ z=>qf a ha (kz a z)⟩
   ·rcases p3 a ha with z|z
    ·rcases q3 a z with y|y
     ·exact .inl y
     ·exact .inr ⟨zad _ (sub a y.1),y.2⟩
    ·exact .inr ⟨zad _ z.1,λ y=>z.2 (kz a y)⟩
end
abbrev PU (P:Addr->Prop)(fp:List Addr):Addr->Prop:=λ a=>P a\/a∈fp
def HG:∀a,P a->PU P fp a:=λ a h=>.inl h
def Bk (s:Ah H H')(hn:∀a∈fp,H a=none):Ah (del H P) (del H' (PU P fp)):=λ b o e=>by
 obtain⟨h1,h2⟩:=An e;rw[Ay λ z=>z.elim h1 λ w=>by rw[hn b w] at h2;cases h2];exact s b o h2
def Wq:del H (PU P [])=del H P:=by
 funext b;by_cases h:P b
 ·rw[EG h,EG (.inl h)]
 ·rw[Ay h,Ay λ z=>z.elim h λ w=>by cases w]
def FC {K}(hP:∀a,P a->EA H' a)(o:C6 K H' Q v t fp):∀a,PU P fp a->EA H' a:=λ a h=>h.elim (hP a) (o.BU a)
def Nv {K}(hP:∀a,P a->EA H' a)(o:Ax K H' Q v t fp):∀a,PU P fp a->EA H' a:=λ a h=>h.elim (hP a) (o.BU a)
def Ao.more {K}(E:Ao K P0 P H σ ρ)(e:Ah H H')(hs:∀a,P a->P' a)(ht:∀a,P' a->EA H' a)(sm:Ah (del H P) (del H' P')):Ao K P0 P' H' σ ρ:=by
 have keep:∀(c:Cl) (v:V) (fp:List Addr),D7 K H P c v fp->∀a∈fp,H' a=H a:=λ c v fp o a ha=>by
  obtain⟨xs,q⟩:=o.at a ha;rw[q];exact e _ _ q
 exact⟨λ a h=>hs a (E.sub a h),ht,λ i d h=>let ⟨v,h1,h2⟩:=E.val i d h;⟨v,h1,h2.mono sm⟩,
  λ i c h io=>let ⟨v,fp,h1,h2,h3,h4⟩:=E.ows i c h io;⟨v,fp,h1,h2.move sm (keep c v fp h2),λ a ha=>⟨hs a (h3 a ha).1,(h3 a ha).2⟩,h4⟩,
  λ i j c c' v v' fp ah hi hj si sj h h' ae=>E.eL sm (λ v fp _ o a ha=>keep _ _ _ o a ha) (λ v fp _ o a ha=>keep _ _ _ o a ha) hi hj si sj h h' ae,E.len,E.pin⟩
abbrev VJ (K:za0)(WX:Str->Hp->Prop)(P:Addr->Prop)(H:Hp)(Q:VK):M OT->Prop
 | .ok t=>∀v fp H',Ah H H'->(∀a∈fp,H a=none)->fp.Nodup->C6 K H' (PU P fp) v t fp->Q v H'
 | .ex x=>∀H',Ah H H'->WX x H'
 | .bad=>False
abbrev gNs (K:za0)(WX:Str->Hp->Prop)(P:Addr->Prop)(H:Hp)(Q:List V->Hp->Prop):M (List OT)->Prop
 | .ok t=>∀v fp H',Ah H H'->(∀a∈fp,H a=none)->fp.Nodup->Ax K H' (PU P fp) v t fp->Q v H'
 | .ex x=>∀H',Ah H H'->WX x H'
 | .bad=>False
def Cd (s:Ah H H'){a}(h:H' a=none):H a=none:=by
 cases q:H a with
 |none=>rfl
 |some o=>rw[s a o q] at h;cases h
section
variable {K:za0}
def VJ.same (h:VJ K WX P H Q m)(e:Ah H H'):VJ K WX P H' Q m:=by
 cases m with
 |ok d=>exact λ v fp H2 q hn nd o=>h v fp H2 (e.trans q) (λ a ha=>Cd e (hn a ha)) nd o
 |ex x=>exact λ H2 q=>h H2 (e.trans q)
 |bad=>exact h
end
abbrev DN (X:Cx)(WX:Str->Hp->Prop)(e:Expr)(f:Ae->M OT):Prop:=
 ∃t,PE X e t/\∀P0 P σ H Q ρ,Ao X.K P0 P H σ ρ->VJ X.K WX P H Q (f ρ)->t σ H Q
abbrev yP (X:Cx)(WX:Str->Hp->Prop)(es:List Expr)(f:Ae->M (List OT)):Prop:=
 ∃t,PA X es t/\(∀P0 P σ H Q ρ,Ao X.K P0 P H σ ρ->gNs X.K WX P H Q (f ρ)->t σ H Q)/\∀ρ ts,f ρ=.ok ts->ts.length=es.length
abbrev vY (d:D):M OT:=.ok (.sh d)
abbrev vZ (t:OT):M D:=.ok (er t)
def AI (h:DE X WX true e f):DN X WX e (λ ρ=>(f ρ).bind vY):=by
 obtain⟨t,h1,h2⟩:=h;refine⟨t,h1,λ P0 P σ H Q ρ E g=>h2 P0 P σ H Q ρ E ?_⟩;dsimp only at g;cases q:f ρ with
 |bad|ex x=>rw[q] at g;exact g
 |ok d=>rw[q] at g;exact λ v H' s hv=>g v [] H' s (λ a ha=>by cases ha) zby (.sh (by rw[Wq];exact hv))
def Al (h:DN X WX e fn):DE X WX c e (λ ρ=>(fn ρ).bind vZ):=by
 suffices z:DE X WX true e (λ ρ=>(fn ρ).bind vZ) by
  cases c with
  |true=>exact z
  |false=>exact We z
 obtain⟨t,h1,h2⟩:=h;refine⟨t,h1,λ P0 P σ H Q ρ E g=>h2 P0 P σ H Q ρ E ?_⟩;dsimp only at g;cases q:fn ρ with
 |bad|ex x=>rw[q] at g;exact g
 |ok d =>
  rw[q] at g;exact λ v fp H' s hn nd o=>g v H' s (o.has HG λ a ha z=>(E.BU a z).no (hn a ha))
def CL:yP X WX [] (λ _=>.ok []):=⟨_,Cv,λ P0 P σ H Q ρ E h=>h [] [] H (Ah.refl H) (λ a ha=>by cases ha) zby .nil,λ ρ ds h=>by cases h;rfl⟩
def EL (he:DN X WX e fn)(hr:yP X WX es fs)(hs: ~~~(starEach (e::es) X.env=(false,eval e X.env)::starEach es X.env)):
 yP X WX (e::es) (λ ρ=>(fn ρ).bind λ d=>(fs ρ).bind λ ds=>.ok (d::ds)):=by
 obtain⟨te,e1,e2⟩:=he;obtain⟨tr,r1,r2,r3⟩:=hr;refine⟨_,Bd e1 r1 hs,λ P0 P σ H Q ρ E h=>?_,λ ρ ds h=>?_⟩
 rotate_left
 ·dsimp only at h;cases q:fn ρ with
  |bad|ex x=>rw[q] at h;cases h
  |ok x =>
   rw[q] at h;cases q2:fs ρ with
   |bad|ex x=>rw[q2] at h;cases h
   |ok xs =>
    rw[q2] at h;cases h;rw[za8,za8,r3 ρ xs q2]
 dsimp only at h;refine e2 P0 P σ H _ ρ E ?_;cases q:fn ρ with
 |bad|ex x=>rw[q] at h;exact h
 |ok x =>
  rw[q] at h;intro v fp H1 s1 n1 g9 o1;have E1:Ao X.K P0 (PU P fp) H1 σ ρ:=E.more s1 HG (FC (E.same s1).BU o1) (Bk s1 n1);refine r2 P0 (PU P fp) σ H1 _ ρ E1 ?_;cases q2:fs ρ with
  |bad=>rw[q2] at h;exact h
  |ex y=>rw[q2] at h;exact λ H' s=>h H' (s1.trans s)
  |ok ds =>
   rw[q2] at h;intro vs fq H2 s2 n2 aP o2;have dj:∀a∈fp,a∉fq:=λ a ha hb=>(o1.BU a ha).no (n2 a hb);have eP:PU (PU P fp) fq=PU P (fp++fq):=by
    funext a;simp only[PU,zao,or_assoc]
   have sm:Ah (del H1 (PU P fp)) (del H2 (PU P (fp++fq))):=by rw[<-eP];exact Bk s2 n2
   refine h _ (fp++fq) H2 (s1.trans s2) (λ a ha=>?_) (zau.mpr ⟨g9,aP,λ a ha b hb z=>dj a ha (by rw[z];exact hb)⟩) (.cons (o1.move sm λ a ha=>?_) (by rw[<-eP];exact o2))
   ·rcases zao.mp ha with ha|ha
    ·exact n1 a ha
    ·exact Cd s1 (n2 a ha)
   ·obtain⟨o,z,_⟩:=o1.BU a ha;rw[z];exact s2 _ _ z
def fM (hn:H p=none)(hP:∀a,PU P fp a->EA H a):Ah (del H (PU P fp)) (del (upd H p o) (PU P (p::fp))):=λ b u e=>by
 obtain⟨h1,h2⟩:=An e;have hb:b≠p:=AO h2 hn;rw[Ay λ z=>z.elim (λ z=>h1 (.inl z)) λ w=>(zab.mp w).elim hb λ w=>h1 (.inr w),Ag hb];exact h2
def Gq (ha:yP X WX es fs)(hz:es.length<=1000:=by decide):DN X WX (.List es pos) (λ ρ=>(fs ρ).bind λ ts=>.ok (.lst ts)):=by
 obtain⟨ta,a1,a2,a3⟩:=ha;refine⟨_,W3 a1,λ P0 P σ H Q ρ E h=>?_⟩;dsimp only at h;refine a2 P0 P σ H _ ρ E ?_;cases q:fs ρ with
 |bad|ex y=>rw[q] at h;exact h
 |ok ts =>
  rw[q] at h;simp only[M.A9] at h;intro vs fp H1 s1 n1 g9 o1;have hP:=Nv (E.same s1).BU o1;refine⟨zbp (AA (by rw[o1.len,a3 ρ ts q];exact hz)),λ p hp=>?_⟩;have ae:∀a∈fp,a≠p:=λ a ha z=>(o1.BU a ha).no (by rw[z];exact hp);exact h _ (p::fp) _ (s1.trans (AH hp _)) (λ a ha=>(zab.mp ha).elim (λ z=>by rw[z];exact Cd s1 hp) (n1 a)) (zb6.mpr ⟨λ z=>ae p z rfl,g9⟩) (.lst Am (o1.move (fM hp hP) λ a ha=>Ag (ae a ha)))
def XQ (hn:H p=none)(hP:∀a,PU P fp a->EA H a):Ah (del H (PU P fp)) (del (upd H p o) (PU P fp)):=λ b u e=>by
 obtain⟨h1,h2⟩:=An e;have hb:b≠p:=AO h2 hn;rw[Ay h1,Ag hb];exact h2
def Wr {x1}(ha:yP X WX es fs)(hz:es.length<=1000:=by decide):DN X WX (.Tuple es x1 pos) (λ ρ=>(fs ρ).bind λ ts=>.ok (.tup ts)):=by
 obtain⟨ta,a1,a2,a3⟩:=ha;refine⟨_,W0 a1,λ P0 P σ H Q ρ E h=>?_⟩;dsimp only at h;refine a2 P0 P σ H _ ρ E ?_;cases q:fs ρ with
 |bad|ex y=>rw[q] at h;exact h
 |ok ts =>
  rw[q] at h;simp only[M.A9] at h;intro vs fp H1 s1 n1 g9 o1;have hP:=Nv (E.same s1).BU o1;refine⟨zbp (AA (by rw[o1.len,a3 ρ ts q];exact hz)),λ p hp=>?_⟩;have ae:∀a∈fp,a≠p:=λ a ha z=>(o1.BU a ha).no (by rw[z];exact hp);refine h _ fp _ (s1.trans (AH hp _)) n1 g9 (.tup ?_ (o1.move (XQ hp hP) λ a ha=>Ag (ae a ha)));rw[Ay λ z=>(hP p z).no hp];exact Am
def Ak.ows {K}:∀ {xs:List V}{ds:List D},Ak K (del H P) xs ds->Ax K H P xs (ds.map .sh) []:=by
 intro _ _ x_;cases x_ with
 |nil=>exact .nil
 |cons h t=>exact .cons (.sh h) t.ows
def VJ.J8 {K}(h:VJ K WX P H Q (.ok (.lst (ds.map .sh))))(s1:Ah H H1)(hx:Ak K (del H1 P) xs ds):∀p,H1 p=none->Q (.ref p) (upd H1 p (.lst xs)):=λ p hp=>by
 have hn:∀a∈[p],H1 a=none:=λ a ha=>by rw[za9.mp ha];exact hp
 exact h _ [p] _ (s1.trans (AH hp _)) (λ a ha=>Cd s1 (hn a ha)) (by simp) (.lst Am (hx.mono (Bk (AH hp _) hn)).ows)
def Ax.qC {K}:∀ {xs:List V}{ds:List D}{fp:List Addr},Ax K H P xs (ds.map .sh) fp->fp=[]/\Ak K (del H P) xs ds
 |_,[],_,.nil=>⟨rfl,.nil⟩
 |_,d::ds,_,.cons (.sh h) r=>by
  obtain⟨rfl,q⟩:=Ax.qC r;exact⟨rfl,.cons h q⟩
abbrev N6:Cl->Cl
 | .val d=>.val d
 | .own ds=>.val (.lst ds)
 | .ow (.rows C3)=>.val (.lst (C3.map D.lst))
 | .ow (.N5 _ ds)=>.val (.lst ds)
 | .ow (.tree _ t)=>.val (er t)
abbrev Fh (ρ:Ae):Ae:=ρ.map λ o=>o.map N6
@[simp] theorem Kk:Fh []=[]:=rfl
@[simp] theorem IK (ρ:Ae):Fh (none::ρ)=none::Fh ρ:=rfl
@[simp] theorem IL (c:Cl) (ρ:Ae):Fh (some c::ρ)=some (N6 c)::Fh ρ:=rfl
def Ao.low {K}(E:Ao K P0 P H σ ρ):Ao K P0 P0 H σ (Fh ρ):=by
 have key:∀(i:Nat) (c:Cl),(Fh ρ)[i]?=some (some c)->∃c',ρ[i]?=some (some c')/\c=N6 c':=λ i c h=>by
  unfold Fh at h;rw[zan] at h;cases q:ρ[i]? with
  |none=>rw[q] at h;cases h
  |some o =>
   rw[q] at h;cases o with
   |none=>cases h
   |some c'=>cases h;exact⟨c',rfl,rfl⟩
 have rb:∀c,Hk (N6 c)=false:=λ c=>by
  cases c with
  |val d|own ds=>rfl
  |ow o=>cases o<;>rfl
 have jz:∀c,R3 (N6 c)=none:=λ c=>by
  cases c with
  |val d|own ds=>rfl
  |ow o=>cases o<;>rfl
 have xr:∀c v fp,¬ D7 K H P0 (N6 c) v fp:=λ c v fp h=>by
  cases c with
  |val d|own ds=>exact h
  |ow o=>cases o<;>exact h
 refine⟨λ _ h=>h,λ a h=>E.BU a (E.sub a h),λ i d h=>?_,λ i c h io=>?_,λ i j c c' v v' fp ah hi hj si sj h h' ae=>?_,by unfold Fh;rw[za2];exact E.len,λ i c n h hp=>by obtain⟨c',h1,rfl⟩:=key i _ h;rw[jz] at hp;cases hp⟩
 ·obtain⟨c,h1,h2⟩:=key i _ h;cases c with
  |val d' =>
   cases h2;obtain⟨v,q1,q2⟩:=E.val i d h1;exact⟨v,q1,q2.mono (D6 E.sub)⟩
  |own ds =>
   cases h2;obtain⟨p,xs,q1,q2,q3,q4,q5⟩:=E.own i ds h1;exact⟨_,q1,.lst (.of (show del H P0 p=_ by rw[Ay q4];exact q2)) (q5.mono (D6 E.sub))⟩
  |ow o =>
   obtain⟨v,fp,q1,q2,q3,q4⟩:=E.ows i _ h1 rfl;cases o with
   |rows C3 =>
    cases h2;obtain⟨p,ps,rfl,rfl,q5,q6⟩:=q2;exact⟨_,q1,.lst (.of (show del H P0 p=_ by rw[Ay (q3 p za3).2];exact q5)) (q6.tP E.sub λ a ha=>(q3 a (za4 _ ha)).2)⟩
   |N5 p ds =>
    cases h2;obtain⟨p,xs,rfl,rfl,q5,q6⟩:=q2;exact⟨_,q1,.lst (.of (show del H P0 p=_ by rw[Ay (q3 p za3).2];exact q5)) (q6.mono (D6 E.sub))⟩
   |tree p t =>
    cases h2;exact⟨_,q1,C6.has E.sub (λ a ha=>(q3 a ha).2) q2⟩
 ·obtain⟨c',h1,rfl⟩:=key i _ h;rw[rb] at io;cases io
 ·obtain⟨c1,h1,rfl⟩:=key i _ hi;exact (xr _ _ _ h).elim
def tW (h:DE X WX c e f):DE X WX false e (λ ρ=>f (Fh ρ)):=by
 obtain⟨t,h1,h2⟩:=h;refine⟨t,h1,λ P0 P σ H Q ρ E g=>h2 P0 P0 σ H Q (Fh ρ) E.low ?_⟩;have e:Lv c P0 P0=P0:=by cases c<;>rfl
 rw[e];exact g
def HH (h:DT X WX e ft):DT X WX e (λ ρ=>ft (Fh ρ)):=by
 obtain⟨t,h1,h2⟩:=h;exact⟨t,h1,λ P0 P σ H Q ρ E g=>h2 P0 P0 σ H Q (Fh ρ) E.low g⟩
mutual
noncomputable def HI:OT->Bool
 | .sh d=>Ki d
 | .lst ts| .tup ts| .BG _ _ ts| .ins _ _ ts=>GW ts
noncomputable def GW:List OT->Bool
 |[]=>true
 |t::r=>HI t&&GW r
end
mutual
theorem C6.clean {K:za0}{H:Hp}{P P':Addr->Prop}(ht:∀a,P' a->EA H a):∀ {v:V}{t:OT}{fp:List Addr},HI t=true->C6 K H P v t fp->C6 K H P' v t fp:=by
 intro _ _ _ n x_;cases x_ with
 |sh h=>exact .sh (h.Ki ht (by rw[HI] at n;exact n))
 |lst h r=>exact .lst h (Ax.clean ht (by rw[HI] at n;exact n) r)
 |tup h r=>exact .tup (XM ht h) (Ax.clean ht (by rw[HI] at n;exact n) r)
 |dK h r=>exact .dK h (Ax.clean ht (by rw[HI] at n;exact n) r)
 |dT h r=>exact .dT h (Ax.clean ht (by rw[HI] at n;exact n) r)
 |ins x h r=>exact .ins x h (Ax.clean ht (by rw[HI] at n;exact n) r)
theorem Ax.clean {K:za0}{H:Hp}{P P':Addr->Prop}(ht:∀a,P' a->EA H a):∀ {v:List V}{t:List OT}{fp:List Addr},GW t=true->Ax K H P v t fp->Ax K H P' v t fp:=by
 intro _ _ _ n x_;cases x_ with
 |nil=>exact .nil
 |cons h r =>
  rw[GW,zb9] at n;exact .cons (C6.clean ht n.1 h) (Ax.clean ht n.2 r)
end
abbrev VL (m:M OT):M OT:=m.bind λ t=>if HI t=true then .ok t else .bad
def Ec (h:DN X WX e fn):DN X WX e (λ ρ=>VL (fn (Fh ρ))):=by
 obtain⟨t,h1,h2⟩:=h;refine⟨t,h1,λ P0 P σ H Q ρ E g=>h2 P0 P0 σ H Q (Fh ρ) E.low ?_⟩;unfold VL at g;dsimp only at g;cases q:fn (Fh ρ) with
 |bad|ex x=>rw[q] at g;exact g
 |ok t =>
  rw[q] at g;simp only[M.A9] at g;by_cases hf:HI t=true
  ·rw[if_pos hf] at g;exact λ v fp H' s hn nd o=>g v fp H' s hn nd (o.clean (FC (E.same s).BU o) hf)
  ·rw[if_neg hf] at g;exact g.elim
abbrev J8 (d:D):M OT:=match d with
 | .lst ds| .tup ds=>.ok (.lst (ds.map .sh))
 |_=>.bad
def Nw (hg:Gl X "list")(hm:X.mg "list" = none)(ha:DE X WX true e f)(hb:bootBuiltins "list" = some (.type "list"):=by decide +kernel)(aH: ~~~(starEach [e] X.env=[(false,eval e X.env)])):
 DN X WX (.Call (.Name "list" p) [e] [] pos) (λ ρ=>(f ρ).bind J8):=by
 obtain⟨ta,a1,a2⟩:=ha;refine⟨_,LS Sb hg hm hb (Bd a1 Cv aH) (he:=aH),λ P0 P σ H Q ρ E h=>?_⟩;dsimp only at h;refine a2 P0 P σ H _ ρ E ?_;refine XD h λ d h=>?_;intro v H1 s1 hv;unfold J8 at h;split at h
 ·cases hv with
  |lst hs hh=>exact⟨_,_,rfl,.inl hs.B8,h.J8 s1 hh⟩
 ·cases hv with
  |tup hs hh=>exact⟨_,_,rfl,.inr (Fj.of (An hs).2),h.J8 s1 hh⟩
 ·exact h.elim
abbrev OpN (K:za0)(WX:Str->Hp->Prop)(r:R2)(aO:D->D->M OT):Prop:=
 ∀(P:Addr->Prop) (H:Hp) (x y:D) (v w:V) (Q:VK),(∀a,P a->EA H a)->BV K (del H P) v x->BV K (del H P) w y->VJ K WX P H Q (aO x y)->r v w H Q
def yQ (ha:∀P0 P σ H Q ρ,Ao X.K P0 P H σ ρ->gV X.K WX (Lv true P0 P) H Q (f ρ)->ta σ H Q)(hb:∀P0 P σ H Q ρ,Ao X.K P0 P H σ ρ->gV X.K WX (Lv true P0 P) H Q (g ρ)->tb σ H Q)(hr:OpN X.K WX r aO)(E:Ao X.K P0 P H σ ρ)(h:VJ X.K WX P H Q ((f ρ).bind λ x=>(g ρ).bind λ y=>aO x y)):vU r ta tb σ H Q:=by
 refine ha P0 P σ H _ ρ E ?_;cases e:f ρ with
 |bad|ex x=>rw[e] at h;exact h
 |ok x =>
  rw[e] at h;intro v H1 s1 hv;refine hb P0 P σ H1 _ ρ (E.same s1) ?_;cases e2:g ρ with
  |bad=>rw[e2] at h;exact h
  |ex y=>rw[e2] at h;exact λ H' s=>h H' (s1.trans s)
  |ok y =>
   rw[e2] at h;intro w H2 s2 hw;exact hr _ H2 x y v w Q ((E.same s1).same s2).BU (hv.mono s2.del) hw ((h.same s1).same s2)
abbrev OI (x y:D):M OT:=match x,y with
 | .lst a,.lst b=>if a.length+b.length<=1000 then .ok (.lst ((a++b).map .sh)) else .bad
 |_,_=>.bad
abbrev spT (K:za0)(n:Nat)(F:List D->M OT):Sp:=λ vs H Q E=>vs.length=n/\∃P ds,(∀a,P a->EA H a)/\Ak K (del H P) vs ds/\VJ K (EI K E) P H Q (F ds)
abbrev yR:Cl->M OT
 | .val d=>.ok (.sh d)
 | .own ds=>.ok (.lst (ds.map .sh))
 | .ow (.rows C3)=>.ok (.lst (C3.map λ ds=>.lst (ds.map .sh)))
 | .ow (.N5 _ _)=>.bad
 | .ow (.tree none t)=>.ok t
 | .ow (.tree (some _) _)=>.bad
abbrev Zi (m:M Out):M OT:=match m with
 | .ok (.ret d)=>.ok (.sh d)
 | .ok (.CO c)=>yR c
 | .ok (.next _)=>.ok (.sh .AL)
 | .ex x=>.ex x
 |_=>.bad
def BL.ows {K}:∀ {ps:List Addr}{C3:List (List D)},BL K H P ps C3->Ax K H P (ps.map V.ref) (C3.map λ ds=>.lst (ds.map .sh)) ps:=by
 intro _ _ x_;cases x_ with
 |nil=>exact .nil
 |cons h r t=>exact .cons (.lst h r.ows) t.ows
def D7.tree {K}{c}(h:D7 K H P c v fp)(e:yR c=.ok t):C6 K H P v t fp:=by
 cases c with
 |val d=>exact h.elim
 |own ds =>
  cases e;obtain⟨p,xs,rfl,rfl,h1,h2⟩:=h;exact .lst h1 h2.ows
 |ow o =>
  cases o with
  |rows C3 =>
   cases e;obtain⟨p,ps,rfl,rfl,h1,h2⟩:=h;exact .lst h1 h2.ows
  |N5 p ds=>cases e
  |tree p t' =>
   cases p with
   |none=>cases e;exact h
   |some q=>cases e
section
variable {P:Program}{w:World}{K:za0}
def mC {P}{c}(h:VJ K WX P H Q (yR c))(t:Tr P P H P2 H')(hs:∀a,P a->P2 a)(ho:D7 K H' P2 c v fp)(hp:∀a∈fp,P2 a/\¬ P a)(nd:fp.Nodup):Q v H':=by
 cases q:yR c with
 |bad=>rw[q] at h;exact h.elim
 |ex x=>cases c with
  |val d|own ds=>cases q
  |ow o =>
   cases o with
   |rows C3|N5 p ds=>cases q
   |tree p t'=>cases p<;>cases q
 |ok u =>
  rw[q] at h;have o:=ho.tree q;refine h v fp H' (Eo t) (λ a ha=>tV t (hp a ha).1 (hp a ha).2) nd (o.move (D6 λ a ha=>ha.elim (hs a) λ z=>(hp a z).1) λ _ _=>rfl)
def yS {st}{f}(F:cH K x qual st f fd)(S:Aj N ps (A6 st))(g:Ae->M Out)(hb:∀(B6:Value) (A:Around) (outer:List Env) (s:Shared) (H:Hp) (E:XK),C4 k (A.deeper (envOfC qual (A6 st) s.heap.objs.size f B6))->VI (pZ P w K mg base N qual (A6 st) f B6 A outer s H E) (EI K E) (AW st) g):
 Ea P w K mg base (Z8 P w base) (k+1) f fd ps (spT K ps.length λ ds=>Zi (g (DY N ds))):=by
 obtain⟨oc,od,kV,doc,pm,an,B6,ct,VH,rfl,lk,bc⟩:=F.ex;refine Xs lk bc S (λ vs H Q E h=>h.1) λ A outer s H vs Q E hr h=>?_;obtain⟨hl,P',ds,ht,hv,hq⟩:=h;obtain⟨t,h1,h2⟩:=hb B6 A outer s H E hr;refine⟨t,h1,h2 ⟨P',λ _=>0⟩ P' _ H _ _ (R5 ht hv) ?_⟩;dsimp only at hq;revert hq;cases g (DY N ds) with
 |bad=>exact λ h=>h.elim
 |ex x=>exact λ h H' P2 t=>h H' (Eo t)
 |ok o =>
  cases o with
  |ret d=>exact λ h v H' P2 t hv=>h v [] H' (Eo t) (λ a ha=>by cases ha) zby (.sh (by rw[Wq];exact hv))
  |next ρ=>exact λ h σ' H' P2 t E=>h .AL [] H' (Eo t) (λ a ha=>by cases ha) zby (.sh .AL)
  |brk ρ|cont ρ=>exact λ h=>h.elim
  |CO c=>exact λ h v fp H' P2 t hs ht ho hp nd=>mC h t hs ho hp nd
  |FU d ρ=>exact λ h=>h.elim
end
structure FnT (P:Program)(w:World)(K:za0)(mg:Str->Option Value)(base:Heap)(x:Str)(k n:Nat)(F:List D->M OT):Prop where
 ex:∃fa fd ps,Ea P w K mg base (Z8 P w base) k fa fd ps (spT K n F)/\mg x=some (.ref fa)/\zbn K (.ref fa)=true/\Binds K fd ps []
def Az {P}{K}{st}(T:AK K mg x st ps)(S:Aj N ps (A6 st))(g:Ae->M Out)(hb:∀(f:Addr) (B6:Value) (A:Around) (outer:List Env) (s:Shared) (H:Hp) (E:XK),C4 k (A.deeper (envOfC x (A6 st) s.heap.objs.size f B6))->VI (pZ P w K mg base N x (A6 st) f B6 A outer s H E) (EI K E) (AW st) g)(hn: ~~~(ps.length=n)):
 FnT P w K mg base x (k+1) n (λ ds=>Zi (g (DY N ds))):=by
 obtain⟨f,fd,F,hm,hB⟩:=T.ex;subst hn;exact⟨⟨f,fd,ps,yS F S g (hb f),hm,F.kp,hB⟩⟩
section
variable {fs:Ae->M (List D)}
def Ab (xo:HB X E)(G:FnT X.prog X.w X.K X.mg X.base x k n F)(hr:C4 k X.A)(hg:Gl X x)(ha:DA X (EI X.K E) true (e::es) fs)(hn:(e::es).length=n)(aU:(x==("__debug__" : Str))=false:=by decide)(he: ~~~(starEach (e::es) X.env=(false,eval e X.env)::starEach es X.env))(hpl: ~~~((backTo pos (starEach es X.env)).any (·.1)=false)):
 DN X (EI X.K E) (.Call (.Name x p) (e::es) [] pos) (λ ρ=>(fs ρ).bind F):=by
 obtain⟨fa,fd,ps,hF,hm,hk,hb⟩:=G.ex;obtain⟨ta,a1,a2,a3⟩:=ha;refine⟨_,Xq hF hr hg hm hk hb .nil xo.call a1 aU he hpl,λ P0 P σ H Q ρ E h=>?_⟩;dsimp only at h;refine a2 P0 P σ H _ ρ E ?_;cases q:fs ρ with
 |bad|ex x=>rw[q] at h;exact h
 |ok ds =>
  rw[q] at h;simp only[M.A9] at h;intro vs H1 s1 aA;rw[zb7];exact⟨by rw[aA.length,a3 ρ ds q];exact hn,P,ds,(E.same s1).BU,aA,h.same s1⟩
def BX (h:DN X WX e fn):DN X (λ _ _=>False) e fn:=by
 obtain⟨t,h1,h2⟩:=h;refine⟨t,h1,λ P0 P σ H Q ρ E g=>h2 P0 P σ H Q ρ E ?_⟩;cases q:fn ρ with
 |bad=>rw[q] at g;exact g
 |ex x=>rw[q] at g;exact (g H (Ah.refl H)).elim
 |ok t=>rw[q] at g;exact g
abbrev Zj (t:OT):M Out:=match t with
 | .sh d=>.ok (.ret d)
 |t=>.ok (.CO (.ow (.tree none t)))
end
def Ao.wA {K}(E:Ao K P0 P H σ ρ)(s:Ah H H')(hn:∀a∈fp,H a=none):Tr P0 P H (PU P fp) H':=
 ⟨Bk s hn,λ a ha=>by obtain⟨o,q,_⟩:=E.BU a (E.sub a ha);rw[q];exact s _ _ q⟩
def Ai (ha:DN X WX e fn):DS X WX (.Return (some e) pos) (λ ρ=>(fn ρ).bind Zj):=by
 obtain⟨ta,a1,a2⟩:=ha;refine⟨_,S2 a1,λ P0 P σ H Z ρ E h=>?_⟩;dsimp only at h;refine a2 P0 P σ H _ ρ E ?_;refine cI h E λ t h=>?_;intro v fp H' s hn nd o;have key:gS X.K WX P0 P H Z (.ok (.CO (.ow (.tree none t))))->Z.rt v H':=λ h =>
  h v fp H' (PU P fp) (E.wA s hn) (λ a ha=>.inl (E.sub a ha)) (FC (E.same s).BU o) o (λ a ha=>⟨.inr ha,λ z=>(E.BU a (E.sub a z)).no (hn a ha)⟩) nd
 cases t with
 |sh d =>
  cases o with
  |sh hv=>exact h v H' P (E.tr s) (hv.mono (D6 λ a ha=>.inl (E.sub a ha)))
 |lst ts|tup ts|BG b ks ts|ins x ns ts=>exact key h
abbrev EM:List OT->Option (List D)
 |[]=>some []
 | .sh d::r=>(EM r).map (d::·)
 |_::_=>none
def D1:∀ds:List D,EM (ds.map .sh)=some ds
 |[]=>rfl
 |d::r=>by rw[za5,EM,D1 r];rfl
def Du:∀ {ts:List OT}{ds:List D},EM ts=some ds->ts=ds.map .sh
 |[],ds,h=>by cases h;rfl
 | .sh d::r,ds,h=>by
  rw[EM] at h;cases q:EM r with
  |none=>rw[q] at h;cases h
  |some es=>rw[q] at h;cases h;rw[za5,<-Du q]
 | .lst _::r,ds,h| .tup _::r,ds,h| .BG _ _ _::r,ds,h| .ins _ _ _::r,ds,h=>by cases h
abbrev toCl (p:Option Nat)(t:OT):Cl:=match t with
 | .lst ts=>(match EM ts with
  |some ds=>(match p with|none=>.own ds|some q=>.ow (.N5 q ds))
  |none=>.ow (.tree p (.lst ts)))
 |t=>.ow (.tree p t)
@[simp] theorem toCl_list (ds:List D):toCl none (.lst (ds.map .sh))=.own ds:=by unfold toCl;simp only[D1]
@[simp] theorem toCl_listP (q:Nat) (ds:List D):toCl (some q) (.lst (ds.map .sh))=.ow (.N5 q ds):=by unfold toCl;simp only[D1]
@[simp] theorem toCl_dct (p:Option Nat) (b:Bool) (ks:List D) (ts:List OT):toCl p (.BG b ks ts)=.ow (.tree p (.BG b ks ts)):=rfl
abbrev treeOf:Cl->Option (Option Nat×OT)
 | .own ds=>some (none,.lst (ds.map .sh))
 | .ow (.N5 p ds)=>some (some p,.lst (ds.map .sh))
 | .ow (.rows C3)=>some (none,.lst (C3.map λ ds=>.lst (ds.map .sh)))
 | .ow (.tree p t)=>some (p,t)
 | .val _=>none
def D7.toT {K}{c}(h:D7 K H P c v fp)(e:treeOf c=some (p,t)):C6 K H P v t fp:=by
 cases c with
 |val d=>exact h.elim
 |own ds =>
  cases e;obtain⟨p,xs,rfl,rfl,h1,h2⟩:=h;exact .lst h1 h2.ows
 |ow o =>
  cases o with
  |rows C3 =>
   cases e;obtain⟨p,ps,rfl,rfl,h1,h2⟩:=h;exact .lst h1 h2.ows
  |N5 p ds =>
   cases e;obtain⟨p,xs,rfl,rfl,h1,h2⟩:=h;exact .lst h1 h2.ows
  |tree p t'=>cases e;exact h
def D7.toCl {K:za0}{H:Hp}{P:Addr->Prop}{v:V}{fp:List Addr}{p:Option Nat}{t:OT}(h:C6 K H P v t fp):D7 K H P (toCl p t) v fp:=by
 unfold L2.toCl;split
 ·rename_i ts;cases q:EM ts with
  |none=>exact h
  |some ds =>
   have e:=Du q;subst e;cases h with
   |lst h1 h2 =>
    obtain⟨rfl,h3⟩:=h2.qC;cases p with
    |none|some q=>exact⟨_,_,rfl,rfl,h1,h3⟩
 ·exact h
def Gr (p:Option Nat)(t:OT):R3 (toCl p t)=p:=by
 unfold toCl;split
 ·rename_i ts;cases q:EM ts with
  |none|some ds=>cases p<;>rfl
 ·cases p<;>rfl
def JJ {c}(h:treeOf c=some (p,t)):R3 c=p:=by
 cases c with
 |val d=>cases h
 |own ds=>cases h;rfl
 |ow o =>
  cases o with
  |rows C3|N5 p ds=>cases h;rfl
  |tree p t=>cases h;cases p<;>rfl
abbrev Sy (i:Nat)(ρ:Ae)(t:OT):M Out:=match t with
 | .sh d=>.ok (.next (ρ.set i (some (.val d))))
 |t=>.ok (.next (ρ.set i (some (toCl none t))))
def qD {K}(E:Ao K P0 P H σ ρ)(s:Ah H H')(hn:∀a∈fp,H a=none)(nd:fp.Nodup)(o:C6 K H' (PU P fp) v t fp)(h:gS K WX P0 P H Z (Sy i ρ t)):Z.nx (σ.set i (some v)) H':=by
 have key:gS K WX P0 P H Z (.ok (.next (ρ.set i (some (toCl none t)))))->Z.nx (σ.set i (some v)) H':=λ h=>by
  refine h _ H' (PU P fp) (E.wA s hn) (E.Z6 HG (FC (E.same s).BU o) (Bk s hn) (λ j c' v' ah ae g1 g2 g3 a ha=>?_) (D7.toCl o) (λ a ha=>⟨.inr ha,λ z=>(E.BU a (E.sub a z)).no (hn a ha)⟩) nd (λ n z=>by rw[Gr] at z;cases z));obtain⟨xs,z⟩:=g3.at a ha;exact⟨by rw[z];exact s _ _ z,λ w=>by rw[hn a w] at z;cases z⟩
 cases t with
 |sh d =>
  cases o with
  |sh hv=>exact h _ H' P (E.tr s) ((E.same s).Wi (by rw[Wq] at hv;exact hv))
 |lst ts|tup ts|BG b ks ts|ins x ns ts=>exact key h
def BF (i:Nat)(hN:X.N.Nodup)(hi:X.N[i]?=some x)(hx:Loc X.env.scope x)(ha:DN X WX e fn)(hs: ~~~(swapsWith e (some (.Name x pos')) pos.line X.env=pure false))(hf:X.fn x=true\/X.env.scope.names.lookup x=some .local:=by first | exact .inl rfl | exact .inr rfl | assumption):
 DS X WX (.Assign [.Name x pos'] e pos) (λ ρ=>(fn ρ).bind (Sy i ρ)):=by
 obtain⟨ta,a1,a2⟩:=ha;refine⟨_,VP hN hi hx a1 hs hf,λ P0 P σ H Z ρ E h=>?_⟩;dsimp only at h;refine a2 P0 P σ H _ ρ E ?_;cases q:fn ρ with
 |bad=>rw[q] at h;exact h
 |ex x=>rw[q] at h;exact λ H' s=>h H' P (E.tr s)
 |ok t =>
  rw[q] at h;exact λ v fp H' s hn nd o=>qD E s hn nd o h
abbrev Ws (i:Nat)(ρ:Ae):M Out:=match ρ[i]? with
 |some (some (.val d))=>.ok (.ret d)
 |some (some c)=>.ok (.CO c)
 |_=>.bad
def CM (i:Nat)(hv:PE X (.Name x p1) (O3 i)):DS X WX (.Return (some (.Name x p1)) pos) (Ws i):=by
 refine⟨_,S2 hv,λ P0 P σ H Z ρ E h=>?_⟩;unfold Ws at h;split at h
 ·rename_i d e1;obtain⟨v,h1,h2⟩:=E.val i d e1;exact⟨v,h1,h v H P Tr.refl (h2.mono (D6 E.sub))⟩
 ·rename_i c hc e1;have io:Hk c=true:=by
   cases c with
   |val d=>exact (hc d rfl).elim
   |own ds|ow o=>rfl
  obtain⟨v,fp,h1,h2,h3,h4⟩:=E.ows i _ e1 io;exact⟨v,h1,h v fp H P Tr.refl E.sub E.BU h2 h3 h4⟩
 ·exact h.elim
def OJ:∀ds:List D,Tx (ds.map .sh)=ds
 |[]=>rfl
 |d::r=>by rw[za5,Tx,er,OJ r]
abbrev fN (i:Nat)(ρ:Ae):Ae:=match ρ[i]? with
 |some (some c)=>ρ.set i (some (N6 c))
 |_=>ρ
section
variable {K:za0}
def CI.same (e:Ah H H')(h:CI K H P v t q xs):CI K H' P v t q xs:=by
 cases t with
 |sh d=>exact h.elim
 |lst ts=>obtain⟨p,rfl,rfl,h⟩:=h;exact⟨p,rfl,rfl,e _ _ h⟩
 |tup ts=>obtain⟨p,rfl,rfl,h⟩:=h;exact⟨p,rfl,rfl,e.del _ _ h⟩
 |BG b ks ts =>
  cases b with
  |false|true=>obtain⟨p,kvs,rfl,rfl,h,rfl,rfl⟩:=h;exact⟨p,kvs,rfl,rfl,e _ _ h,rfl,rfl⟩
 |ins x ns ts=>obtain⟨p,C,dx,fs,rfl,rfl,n,h,rfl,rfl⟩:=h;exact⟨p,C,dx,fs,rfl,rfl,n,e _ _ h,rfl,rfl⟩
def HF.same (e:Ah H H')(h:HF K H P v t π v1 t1):HF K H' P v t π v1 t1:=by
 induction h with
 |nil=>exact .nil
 |cons n hx hs _ ih=>exact .cons (n.same e) hx hs ih
def CI.more (sm:Ah (del H P) (del H' P'))(e:Ah H H')(h:CI K H P v t q xs):CI K H' P' v t q xs:=by
 cases t with
 |sh d=>exact h.elim
 |lst ts=>obtain⟨p,rfl,rfl,h⟩:=h;exact⟨p,rfl,rfl,e _ _ h⟩
 |tup ts=>obtain⟨p,rfl,rfl,h⟩:=h;exact⟨p,rfl,rfl,sm _ _ h⟩
 |BG b ks ts =>
  cases b with
  |false|true=>obtain⟨p,kvs,rfl,rfl,h,rfl,rfl⟩:=h;exact⟨p,kvs,rfl,rfl,e _ _ h,rfl,rfl⟩
 |ins x ns ts=>obtain⟨p,C,dx,fs,rfl,rfl,n,h,rfl,rfl⟩:=h;exact⟨p,C,dx,fs,rfl,rfl,n,e _ _ h,rfl,rfl⟩
def HF.more (sm:Ah (del H P) (del H' P'))(e:Ah H H')(h:HF K H P v t π v1 t1):HF K H' P' v t π v1 t1:=by
 induction h with
 |nil=>exact .nil
 |cons n hx hs _ ih=>exact .cons (n.more sm e) hx hs ih
end
abbrev Wt (i:Nat)(ρ:Ae)(π:List Nat):Option OT:=match ρ[i]? with
 |some (some c)=>(match treeOf c with|some (_,t)=>M4 t π|none=>none)
 |_=>none
structure Br (K:za0)(P:Addr->Prop)(H:Hp)(σ:St)(ρ:Ae)(i:Nat)(π:List Nat)(v:V)(t1:OT):Prop where
 ex:∃v0 c p t,ρ[i]?=some (some c)/\treeOf c=some (p,t)/\σ[i]?=some (some v0)/\HF K H P v0 t π v t1
def Br.at {K}(h:Br K P H σ ρ i π v t1):Wt i ρ π=some t1:=by
 obtain⟨v0,c,p,t,h1,h2,h3,h4⟩:=h.ex;unfold Wt;simp only[h1,h2];exact h4.sub
def Br.same {K}(e:Ah H H')(h:Br K P H σ ρ i π v t1):Br K P H' σ ρ i π v t1:=by
 obtain⟨v0,c,p,t,h1,h2,h3,h4⟩:=h.ex;exact⟨v0,c,p,t,h1,h2,h3,h4.same e⟩
def Br.more {K}(sm:Ah (del H P) (del H' P'))(e:Ah H H')(h:Br K P H σ ρ i π v t1):Br K P' H' σ ρ i π v t1:=by
 obtain⟨v0,c,p,t,h1,h2,h3,h4⟩:=h.ex;exact⟨v0,c,p,t,h1,h2,h3,h4.more sm e⟩
def Br.own {K}(h:Br K P H σ ρ i π v t1)(E:Ao K P0 P H σ ρ):∃ax,C6 K H P v t1 ax/\(∀a∈ax,P a/\¬ P0 a)/\ax.Nodup:=by
 obtain⟨v0,c,p,t,h1,h2,h3,h4⟩:=h.ex;have io:Hk c=true:=by cases c<;>first|rfl|cases h2
 obtain⟨w,fp,k1,k2,k3,k4⟩:=E.ows i c h1 io;rw[h3] at k1;cases k1;obtain⟨ax,o1,hk,kn⟩:=(k2.toT h2).part h4;exact⟨ax,o1,λ a ha=>k3 a (hk a ha),kn k4⟩
abbrev gP (K:za0)(WX:Str->Hp->Prop)(P:Addr->Prop)(H:Hp)(σ:St)(ρ:Ae)(i:Nat)(Q:VK):M (List Nat)->Prop
 | .ok π=>∀v t1 H',Ah H H'->Br K P H' σ ρ i π v t1->Q v H'
 | .ex x=>∀H',Ah H H'->WX x H'
 | .bad=>False
abbrev DP (X:Cx)(WX:Str->Hp->Prop)(e:Expr)(i:Nat)(f:Ae->M (List Nat)):Prop:=
 ∃t,PE X e t/\∀P0 P σ H Q ρ,Ao X.K P0 P H σ ρ->gP X.K WX P H σ ρ i Q (f ρ)->t σ H Q
section
variable {fp:Ae->M (List Nat)}{i:Nat}
abbrev Uo (i:Nat)(ρ:Ae):M (List Nat):=match Wt i ρ [] with | some _=>.ok [] | none=>.bad
def Bs (i:Nat)(hv:PE X (.Name x p1) (O3 i)):DP X WX (.Name x p1) i (Uo i):=by
 refine⟨_,hv,λ P0 P σ H Q ρ E h=>?_⟩;unfold Uo at h;split at h
 ·rename_i t e;unfold Wt at e;split at e
  ·rename_i cl e1;split at e
   ·rename_i p t0 e2;have io:Hk cl=true:=by cases cl<;>first|rfl|cases e2
    obtain⟨v,fp,h1,h2,h3,h4⟩:=E.ows i cl e1 io;exact⟨v,h1,h v t0 H (Ah.refl H) ⟨v,cl,p,t0,e1,e2,h1,.nil⟩⟩
   ·cases e
  ·cases e
 ·exact h.elim
abbrev mD (i:Nat)(ρ:Ae)(π:List Nat)(d:D):M (List Nat):=match Wt i ρ π,d with
 |some (.lst ts),.int j|some (.tup ts),.int j=>(match Nn ts.length j with|some k=>.ok (π++[k])|none=>.bad)
 |_,_=>.bad
def XR (ha:DP X WX a i fp)(hb:DE X WX true b g)(hs:Gh b:=by exact λ _ _=>rfl):DP X WX (.Subscript a b pos) i (λ ρ=>(fp ρ).bind λ π=>(g ρ).bind (mD i ρ π)):=by
 obtain⟨ta,a1,a2⟩:=ha;obtain⟨tb,b1,b2⟩:=hb;refine⟨_,TY (K4.or dR) a1 b1 hs,λ P0 P σ H Q ρ E h=>?_⟩;dsimp only at h;refine a2 P0 P σ H _ ρ E ?_;cases q:fp ρ with
 |bad|ex x=>rw[q] at h;exact h
 |ok π =>
  rw[q] at h;simp only[M.A9] at h;intro v t1 H1 s1 pl;refine b2 P0 P σ H1 _ ρ (E.same s1) ?_;cases q2:g ρ with
  |bad=>rw[q2] at h;exact h
  |ex y=>rw[q2] at h;exact λ H' s=>h H' (s1.trans s)
  |ok d =>
   rw[q2] at h;simp only[M.A9] at h;intro w H2 s2 hw;have E2:=(E.same s1).same s2;have bI:=pl.same s2;obtain⟨ax,o1,_⟩:=bI.own E2;unfold mD at h;rw[bI.at] at h;obtain⟨v0,c,p,t,k1,k2,k3,k4⟩:=bI.ex;split at h
   ·rename_i ts j e;cases e;split at h
    ·rename_i k hk;cases o1 with
     |lst hh hr =>
      have hx:∃s,ts[k]?=some s:=⟨_,za6 (fJ hk)⟩;obtain⟨s,hs⟩:=hx;obtain⟨x,hx⟩:=hr.exV hs;refine .inl ⟨_,_,j,x,rfl,hw.int_inv,.of hh,?_,h x s H2 (s1.trans s2) ⟨v0,c,p,t,k1,k2,k3,k4.snoc (q:=[_]) (xs:=_) ⟨_,rfl,rfl,hh⟩ hx hs⟩⟩;unfold S7;rw[hr.len,hk];exact hx
    ·exact h.elim
   ·rename_i ts j e;cases e;split at h
    ·rename_i k hk;cases o1 with
     |tup hh hr =>
      have hx:∃s,ts[k]?=some s:=⟨_,za6 (fJ hk)⟩;obtain⟨s,hs⟩:=hx;obtain⟨x,hx⟩:=hr.exV hs;refine .inr ⟨_,_,j,x,rfl,hw.int_inv,.of (An hh).2,?_,h x s H2 (s1.trans s2) ⟨v0,c,p,t,k1,k2,k3,k4.snoc (q:=[]) (xs:=_) ⟨_,rfl,rfl,hh⟩ hx hs⟩⟩;unfold S7;rw[hr.len,hk];exact hx
    ·exact h.elim
   ·exact h.elim
abbrev aa7 (i:Nat)(ρ:Ae)(π:List Nat):M D:=match Wt i ρ π with
 |some (.sh d)=>.ok d
 |_=>.bad
def Ao.yT {K}(E:Ao K P0 P H σ ρ)(pl:Br K P H σ ρ i π v1 t1)(o:C6 K H P v1 t1 ax)(hs:∀a,P a->P' a)(ht:∀a,P' a->EA H' a)(sm:Ah (del H P) (del H' P'))(keep:∀a,P a->a∉ax->H' a=H a)(o':C6 K H' P' v1 u fu)(nd:fu.Nodup)(hf:∀a∈fu,a∈ax\/(P' a/\¬ P0 a/\∀(j:Nat) c v fp,ρ[j]?=some (some c)->σ[j]?=some (some v)->D7 K H P c v fp->a∉fp)):
 ∃c p t,ρ[i]?=some (some c)/\treeOf c=some (p,t)/\Ao K P0 P' H' σ (ρ.set i (some (toCl p (EJ t π u))))/\Tr P0 P H P' H':=by
 obtain⟨v0,c,p,t,h1,h2,h3,h4⟩:=pl.ex;have io:Hk c=true:=by cases c<;>first|rfl|cases h2
 obtain⟨w,fp,k1,k2,k3,k4⟩:=E.ows i c h1 io;rw[h3] at k1;cases k1;have ot:=k2.toT h2;obtain⟨fz,oz,kz,_⟩:=ot.part h4;have:=oz.Cj o;subst this;obtain⟨ah,q1,q2,q3⟩:=ot.put sm h4 o o' (λ a ha hn=>keep a (k3 a ha).1 hn) k4 nd (λ a ha hb=>(hf a ha).elim id λ z=>(z.2.2 i c v0 fp h1 h3 k2 hb).elim);refine⟨c,p,t,h1,h2,?_,sm,λ a ha=>keep a (E.sub a ha) λ z=>(k3 a (kz a z)).2 ha⟩;have key:=E.Z6 (P':=P') (H':=H') (i:=i) (v:=v0) (c:=toCl p (EJ t π u)) (fp:=ah) hs ht sm (λ j c' v' fq ae g1 g2 g3 a ha=>?_) (D7.toCl q1) (λ a ha=>?_) q2 (λ n z=>by rw[Gr] at z;subst z;have:=E.pin i c n h1 (JJ h2);rw[h3] at this;cases this;rfl)
 ·rw[Ov h3] at key;exact key
 ·have rc:a∉fp:=E.apart j i c' c v' v0 fq fp g1 h1 g2 h3 g3 k2 (zbi ae) a ha;have j0:Hk c'=true:=by cases c'<;>first|rfl|exact g3.elim
  obtain⟨w',fr,m1,m2,m3,m4⟩:=E.ows j c' g1 j0;rw[g2] at m1;cases m1;have:=m2.Cj g3;subst this;refine⟨keep a (m3 a ha).1 λ z=>rc (kz a z),λ z=>?_⟩;rcases q3 a z with y|y
  ·rcases hf a y with x|x
   ·exact rc (kz a x)
   ·exact x.2.2 j c' v' fr g1 g2 g3 ha
  ·exact rc y.1
 ·rcases q3 a ha with y|y
  ·rcases hf a y with x|x
   ·exact⟨hs a (k3 a (kz a x)).1,(k3 a (kz a x)).2⟩
   ·exact⟨x.1,x.2.1⟩
  ·exact⟨hs a (k3 a y.1).1,(k3 a y.1).2⟩
def Ao.mE {K}(E:Ao K P0 P H σ ρ)(pl:Br K P H σ ρ i π (.ref l) (.lst ts))(hH:H l=some (.lst xs))(o:Ax K H P xs ts fq)(o':Ax K H P ys us fu)(nd:fu.Nodup)(hl:l∉fu)(hf:∀a∈fu,a∈fq\/(P a/\¬ P0 a/\∀(j:Nat) c v fp,ρ[j]?=some (some c)->σ[j]?=some (some v)->D7 K H P c v fp->a∉fp)):
 ∃c p t,ρ[i]?=some (some c)/\treeOf c=some (p,t)/\Ao K P0 P (upd H l (.lst ys)) σ (ρ.set i (some (toCl p (EJ t π (.lst us)))))/\Tr P0 P H P (upd H l (.lst ys)):=by
 have ot:C6 K H P (.ref l) (.lst ts) (l::fq):=.lst hH o;obtain⟨ax,o1,hp,_⟩:=pl.own E;have:=o1.Cj ot;subst this;have pP:P l:=(hp l za3).1;have sd:del (upd H l (.lst ys)) P=del H P:=by
  funext b;by_cases hb:P b
  ·rw[EG hb,EG hb]
  ·rw[Ay hb,Ay hb,Ag (λ z=>hb (by rw[z];exact pP))]
 have sm:Ah (del H P) (del (upd H l (.lst ys)) P):=by rw[sd];exact Ah.refl _
 refine E.yT pl ot (λ _ h=>h) (λ a h=>?_) sm (λ a ha hn=>Ag λ z=>hn (by rw[z];exact za3)) (.lst Am (o'.move sm λ a ha=>Ag λ z=>hl (by rw[<-z];exact ha))) (zb6.mpr ⟨hl,nd⟩) (λ a ha=>?_)
 ·by_cases ha:a=l
  ·subst ha;exact EA.lst Am
  ·unfold EA;rw[Ag ha];exact E.BU a h
 ·rcases zab.mp ha with z|z
  ·exact .inl (by rw[z];exact za3)
  ·rcases hf a z with y|y
   ·exact .inl (za4 _ y)
   ·exact .inr y
end
abbrev kd:D->Option Key
 | .int i=>some (.inl i)
 | .str x=>some (.inr x)
 |_=>none
abbrev wB:List D->Option (List Key)
 |[]=>some []
 |d::r=>match kd d,wB r with|some k,some ks=>some (k::ks)|_,_=>none
def qE (h:kd d=some k):d=CD k:=by
 cases d<;>simp[kd] at h<;>subst h<;>rfl
def fO:∀ {ds:List D}{ks:List Key},wB ds=some ks->ds=ks.map CD
 |[],ks,h=>by cases h;rfl
 |d::r,ks,h=>by
  rw[wB] at h;cases q:kd d with
  |none=>rw[q] at h;cases h
  |some k =>
   cases q2:wB r with
   |none=>rw[q,q2] at h;cases h
   |some xt =>
    rw[q,q2] at h;cases h;rw[za5,<-qE q,<-fO q2]
inductive mF:Bool->D->Prop
 |k (κ:Key):mF false (CD κ)
 |t (κ:List Key):mF true (.tup (κ.map CD))
abbrev keyOk (b:Bool)(d:D):Bool:=match b,d with
 |false,d=>(kd d).isSome
 |true,.tup ds=>(wB ds).isSome
 |_,_=>false
def EN {b}(h:keyOk b d=true):mF b d:=by
 cases b with
 |false =>
  obtain⟨k,hk⟩:=zbx.mp (show (kd d).isSome=true from h);rw[qE hk];exact .k k
 |true =>
  cases d with
  |tup ds =>
   obtain⟨k,hk⟩:=zbx.mp (show (wB ds).isSome=true from h);rw[fO hk];exact .t k
  |_=>cases h
def HJ (a b:Key):Bv (CD a) (CD b)=decide (a=b):=by
 cases a with
 |inl i =>
  cases b with
  |inl j=>simp only[CD,Bv];rw[zct];simp
  |inr y=>simp[CD,Bv]
 |inr x =>
  cases b with
  |inl j=>simp[CD,Bv]
  |inr y=>simp only[CD,Bv];rw[zct];simp
def Nx:∀a b:List Key,Cp (a.map CD) (b.map CD)=decide (a=b)
 |[],[]|[],_::_|_::_,[]=>by simp[Cp]
 |a::r,b::t=>by
  rw[za5,za5,Cp,HJ,Nx r t,zct];simp
abbrev Hm {α:Type}:List D->List α->D->Option α
 |k::ks,v::vs,y=>if Bv k y=true then some v else Hm ks vs y
 |_,_,_=>none
abbrev JK {α:Type}:List D->List α->D->α->List α
 |k::ks,v::vs,y,z=>(if Bv k y=true then z else v)::JK ks vs y z
 |_,vs,_,_=>vs
abbrev N7 (ks:List D)(y:D):Bool:=ks.any λ k=>Bv k y
section
variable {κ:Type} [DecidableEq κ] {fk:κ->D}(hf:∀a b,Bv (fk a) (fk b)=decide (a=b))
include hf
def OK {α:Type}:∀(kvs:List (κ×α)) (k:κ),Hm (kvs.map λ kv=>fk kv.1) (kvs.map zbw) (fk k)=(kvs.find? λ kv=>decide (kv.1=k)).map (·.2)
 |[],k=>rfl
 |p::r,k=>by
  rw[za5,za5,Hm,hf,zd1];by_cases e:p.1=k
  ·rw[decide_eq_true e];rfl
  ·rw[decide_eq_false e];simp only[zb0,if_false];exact OK r k
def Kl {α:Type}(kvs:List (κ×α))(k:κ):N7 (kvs.map λ kv=>fk kv.1) (fk k)=kvs.any λ kv=>decide (kv.1=k):=by
 unfold N7;rw[List.any_map];congr 1;funext kv;exact hf _ _
def HK (k:κ)(v:V):∀(kvs:List (κ×V)),JK (kvs.map λ kv=>fk kv.1) (kvs.map zbw) (fk k) v=(kvs.map λ kv=>if kv.1=k then (kv.1,v) else kv).map zbw
 |[]=>rfl
 |p::r=>by
  rw[za5,za5,JK,hf,za5,za5,HK k v r];by_cases e:p.1=k
  ·rw[decide_eq_true e,if_pos e];rfl
  ·rw[decide_eq_false e,if_neg e];rfl
def HL (k:κ)(v:V):∀(kvs:List (κ×V)),(kvs.map λ kv=>if kv.1=k then (kv.1,v) else kv).map (λ kv=>fk kv.1)=kvs.map λ kv=>fk kv.1
 |[]=>rfl
 |p::r=>by
  rw[za5,za5,za5,HL k v r];by_cases e:p.1=k
  ·rw[if_pos e]
  ·rw[if_neg e]
end
def OL {K:za0}{H:Hp}:∀ {ks:List D}{xs:List V}{ds:List D}{y d:D},Ak K H xs ds->Hm ks ds y=some d->∃x,Hm ks xs y=some x/\BV K H x d
 |[],_,_,_,_,_,e|_::_,_,_,_,_,.nil,e=>by simp[Hm] at e
 |k::ks,_,_,y,d,.cons h t,e=>by
  rw[Hm] at e ⊢;by_cases q:Bv k y=true
  ·rw[if_pos q] at e ⊢;cases e;exact⟨_,rfl,h⟩
  ·rw[if_neg q] at e ⊢;exact OL t e
def IM {α:Type}:∀ {ks:List D}{xs:List α}{y:D},xs.length=ks.length->N7 ks y=(Hm ks xs y).isSome
 |[],[],y,_=>rfl
 |k::ks,x::xs,y,h=>by
  unfold N7;rw[zd7,Hm];cases q:Bv k y with
  |true=>rfl
  |false =>
   simp only[Bool.false_or,zb0,if_false];exact IM (by simpa using h)
 |[],_::_,_,h|_::_,[],_,h=>by cases h
def HM {K}(hv:BV K (del H P) v d):∀ {ks:List D}{xs:List V}{ds:List D},Ak K (del H P) xs ds->Ak K (del H P) (JK ks xs y v) (JK ks ds y d)
 |[],_,_,h=>by simp only[JK];exact h
 |_::_,_,_,.nil=>by simp only[JK];exact .nil
 |k::ks,_,_,.cons h t=>by
  rw[JK,JK];refine .cons ?_ (HM hv t);by_cases q:Bv k y=true
  ·rw[if_pos q,if_pos q];exact hv
  ·rw[if_neg q,if_neg q];exact h
section
variable {K:za0}
def Ak.keys:∀ {xs:List V}(κ:List Key),Ak K H xs (κ.map CD)->xs=κ.map kV
 |_,[],.nil=>rfl
 |_,k::r,.cons h t=>by
  rw[za5,<-Ak.keys r t];congr 1;cases k with
  |inl i=>exact h.int_inv
  |inr x=>cases h;rfl
def BV.mG (h:BV K H y (CD κ)):y=kV κ:=by
 cases κ with
 |inl i=>exact h.int_inv
 |inr x=>cases h;rfl
def Sz {b}(hv:BV K (del H P) v (.BG b ks vs))(hy:BV K (del H P) y k)(hk:mF b k):∃a xs,v=.ref a/\Sd H a y (Hm ks xs k)/\Ak K (del H P) xs vs/\xs.length=ks.length:=by
 cases hv with
 |Tw hh hl =>
  cases hk with
  |k κ =>
   refine⟨_,_,rfl,?_,hl,by simp⟩;rw[hy.mG,OK HJ];exact .inl ⟨_,κ,hh.B8,rfl,rfl⟩
 |Ua hh hl =>
  cases hk with
  |t κ =>
   cases hy with
   |tup ht ar =>
    have e:=Ak.keys κ ar;subst e;refine⟨_,_,rfl,?_,hl,by simp⟩;rw[OK (fk:=λ κ:List Key=>D.tup (κ.map CD)) (λ a b=>by simp only[Bv];exact Nx a b)];exact .inr ⟨_,κ,_,hh.B8,rfl,(An ht).2,rfl⟩
end
section
variable {fp:Ae->M (List Nat)}{i:Nat}
abbrev yU:R2:=λ x y H Q=>∃a v,x=.ref a/\Sd H a y (some v)/\Q v H
def mH (hu:X.A.units+1<cLine):kX X yU:=by
 intro value slice pins s σ H x y v u Q I rx ry h hs;obtain⟨a,z,rfl,g,q⟩:=h;cases rx;have hT:=U4 I g;have h₂:wpAny (model X.prog X.w) X.A (getItem (.ref a) u) (EP X pins σ Q) X.xe s:=YZ hu I g ry λ w' s3 I3 bh=>⟨z,H,I3,bh,q⟩;unfold subscriptTail;refine wpAny_bind ?_;rw[getitemInPython_of_ne hT.not_modules];refine wpAny_bind (wpAny_specialOf hT PySem.F.slot_dict_getitem.lookup ?_);have fin:wpAny (model X.prog X.w) X.A (subscripted slice false (.ref a) u) (λ r s₃=>wpAny (model X.prog X.w) X.A (letTemporaryGo value (.ref a) r >>= λ _=>pure r) (EP X pins σ Q) X.xe s₃) X.xe s:=by
  rw[hs];exact wpAny_operating (wpAny_mono h₂ (λ r s₃ h₃=>wpAny_bind (wpAny_letTemporaryGo (wpAny_pure h₃))) λ _ _ x=>x)
 first
  |exact wpAny_pure (wpAny_bind fin)
  |exact wpAny_bind (wpAny_pure (wpAny_bind fin))
  |exact wpAny_bind fin
abbrev AJ (x y:D):M D:=match x with
 | .BG b ks vs=>if keyOk b y=true then (match Hm ks vs y with|some d=>.ok d|none=>.bad) else .bad
 |x=>lP x y
def mI:XF X.K WX (λ x y H Q=>(sS X.K x y H Q\/sT X.K x y H Q)\/yU x y H Q) AJ:=by
 intro P H x y v w Q ht hx hy h;cases x with
 |BG b ks vs =>
  simp only[AJ] at h;by_cases hk:keyOk b y=true
  ·rw[if_pos hk] at h;obtain⟨a,xs,rfl,g,hl,_⟩:=Sz hx hy (EN hk);split at h
   ·rename_i d e;obtain⟨u,e1,e2⟩:=OL hl e;rw[e1] at g;exact .inr ⟨a,u,rfl,g,h _ H (Ah.refl H) e2⟩
   ·exact h.elim
  ·rw[if_neg hk] at h;exact h.elim
 |AL|bl b|int b|str b|tup b|lst b|LO b|ins b _ _=>exact .inl (Hx P H _ y v w Q ht hx hy h)
def Aa (hu:X.A.units+n<cLine)(ha:DE X WX c a f)(hb:DE X WX c b g)(hs:Gh b:=by exact λ _ _=>rfl)(hn:1<=n:=by decide):DE X WX c (.Subscript a b pos) (λ ρ=>(f ρ).bind λ x=>(g ρ).bind λ y=>AJ x y):=yD ((K4.or dR).or (mH (by omega))) mI ha hb hs
abbrev tX (neg:Bool):R2:=λ y x H Q=>∃a o,x=.ref a/\Sd H a y o/\Q (.bl (if neg=true then !o.isSome else o.isSome)) H
def Wu (hu:X.A.units+1<cLine):Gf X (compareOp .In) (tX false):=by
 intro pins s σ H x y v u Q I rx ry h;obtain⟨a,o,rfl,g,q⟩:=h;cases ry;exact aaY hu I g rx λ s3 I3=>⟨.bl o.isSome,H,I3,rfl,q⟩
def Qr (hu:X.A.units+1<cLine):Gf X (compareOp .NotIn) (tX true):=by
 intro pins s σ H x y v u Q I rx ry h;obtain⟨a,o,rfl,g,q⟩:=h;cases ry;exact lD hu I g rx λ s3 I3=>⟨.bl (!o.isSome),H,I3,rfl,q⟩
abbrev Km (neg:Bool)(y x:D):M D:=match x with
 | .BG b ks vs=>if keyOk b y=true then .ok (.bl (if neg=true then !N7 ks y else N7 ks y)) else .bad
 |x=>dIn neg y x
def XS:XF X.K WX (λ x y H Q=>rIn X.K neg x y H Q\/tX neg x y H Q) (Km neg):=by
 intro P H x y v w Q ht hx hy h;cases y with
 |BG b ks vs =>
  simp only[Km] at h;by_cases hk:keyOk b x=true
  ·rw[if_pos hk] at h;obtain⟨a,xs,rfl,g,hl,hn⟩:=Sz hy hx (EN hk);rw[IM (xs:=xs) hn] at h;exact .inr ⟨a,_,rfl,g,h _ H (Ah.refl H) (.bl _)⟩
  ·rw[if_neg hk] at h;exact h.elim
 |AL|bl b|int b|str b|tup b|lst b|LO b|ins b _ _=>exact .inl (HC P H x _ v w Q ht hx hy h)
def M5 (hu:X.A.units+n<cLine)(ha:DE X WX c a f)(hb:DE X WX c b g)(hm: ~~~(behindInMarks .In b=false))(hn:1<=n:=by decide):DT X WX (.Compare a [.In] [b] pos) (λ ρ=>((f ρ).bind λ x=>(g ρ).bind λ y=>Km false x y).bind Qq):=Gk (YU.or (Wu (by omega))) XS ha hb hm
def Ny (hu:X.A.units+n<cLine)(ha:DE X WX c a f)(hb:DE X WX c b g)(hm: ~~~(behindInMarks .NotIn b=false))(hn:1<=n:=by decide):DT X WX (.Compare a [.NotIn] [b] pos) (λ ρ=>((f ρ).bind λ x=>(g ρ).bind λ y=>Km true x y).bind Qq):=Gk (S9.or (Qr (by omega))) XS ha hb hm
abbrev Fi:D->M Bool
 | .AL=>.ok false
 | .bl b=>.ok b
 | .int i=>.ok (i != 0)
 | .tup ds| .lst ds=>.ok (!ds.isEmpty)
 |_=>.bad
def Kn {K}(h:Ak K H xs ds):(!ds.isEmpty) = !xs.isEmpty:=by cases h<;>rfl
def Bb (h:DE X WX c e f)(he:∀whole,isTrue e X.env whole=(do let v <-whole;standAt e.pos;holding [v] (truthy v)):=by intro _;rfl):DT X WX e (λ ρ=>(f ρ).bind Fi):=by
 obtain⟨t,h1,h2⟩:=h;refine⟨_,dE h1 he,λ P0 P σ H Q ρ E h=>h2 P0 P σ H _ ρ E ?_⟩;dsimp only at h;refine XD h λ d h=>?_;intro v H' s hv;cases hv with
 |AL=>exact⟨false,rfl,h H' s⟩
 |bl b=>exact⟨b,rfl,h H' s⟩
 |int i=>exact⟨_,rfl,h H' s⟩
 |tup hs hl=>exact⟨_,.inr (.inl ⟨_,Fj.of (An hs).2,rfl⟩),by rw[<-Kn hl];exact h H' s⟩
 |lst hs hl=>exact⟨_,.inl ⟨_,hs.B8,rfl⟩,by rw[<-Kn hl];exact h H' s⟩
 |_=>exact h.elim
end
abbrev GX (m:M (List D)):M OT:=match m with | .ok ys=>.ok (.lst (ys.map .sh)) | _=>.bad
section
variable {tg iter:Expr}{fi:Ae->M (List D)}{fs:Ae->M (List D)}
def fP (i2:∀P0 P σ H R ρ,Ao X.K P0 P H σ ρ->(match fi ρ with | .ok ds=>∀J H',Ah H H'->Ug X.K J P H' ds->R J H' | .ex x=>∀H',Ah H H'->WX x H' | .bad=>False)->wi σ H R)(g2:∀P0 P σ H Q ρ v d,Ao X.K P0 P H σ ρ->BV X.K (del H P) v d->gG X.K P0 P H Q (gt d ρ)->gg v σ H Q)(t2:∀s H' C ex P0 P σ H Q ρ,Ao X.K P0 P H σ ρ->gT (λ _ _=>False) H Q (ft ρ)->tc s H' C ex σ H Q)(e2:∀s H' C ex P0 P σ H Q ρ,Ao X.K P0 P H σ ρ->gV X.K (λ _ _=>False) (Lv true P0 P) H Q (fe ρ)->te s H' C ex σ H Q)(E:Ao X.K P0 P H σ ρ)(h:VJ X.K WX P H Q ((fi ρ).bind λ ds=>if ds.length<=1000 then GX (B9 gt ft fe ds (AV μ ρ)) else .bad)):QX wi μ gg tc te σ H Q:=by
 refine i2 P0 P σ H _ ρ E ?_;cases q:fi ρ with
 |bad|ex x=>rw[q] at h;exact h
 |ok ds =>
  rw[q] at h;simp only[M.A9] at h;by_cases hd:¬ ds.length<=1000
  ·rw[if_neg hd] at h;exact h.elim
  have hd:ds.length<=1000:=by omega
  rw[if_pos hd] at h;intro J H1 s1 ok s C ex;cases qc:B9 gt ft fe ds (AV μ ρ) with
  |bad|ex x=>rw[qc] at h;exact h.elim
  |ok total =>
   rw[qc] at h;unfold GX at h;dsimp only at h;have E1:=E.same s1;refine⟨λ i m ys H2=>m=ds.length-i/\i<=ds.length/\ys.length<=i/\Ah H1 H2/\∃es rest,Ak X.K (del H2 P) ys es/\B9 gt ft fe (ds.drop i) (AV μ ρ)=.ok rest/\es++rest=total,
    ⟨ds.length,by simp,zbb _,zag _,Ah.refl _,[],total,.nil,by rw[zdb];exact qc,rfl⟩,?_⟩
   rintro i m ys H2 ⟨rfl,hi,hy,s2,es,rest,bn,af,au⟩;by_cases ag:i<ds.length
   ·refine .inr ⟨ok.go i P H2 s2.del ag,Nat.lt_of_le_of_lt hy (AA (by omega)),λ aI H'=>i+1<=ds.length/\aI.length<=i+1/\Ah H1 H'/\∃es rest,Ak X.K (del H' P) aI es/\B9 gt ft fe (ds.drop (i+1)) (AV μ ρ)=.ok rest/\es++rest=total,λ aI H' hq=>⟨ds.length-(i+1),by omega,rfl,hq.1,hq.2.1,hq.2.2.1,hq.2.2.2⟩,λ v H3 y=>?_⟩;have E2:=E1.same s2;obtain⟨s3,hv⟩:=ok.jZ i P H2 v H3 ds[i] s2.del E2.BU (za6 ag) y;rw[FX ag,B9] at af;have E3:=(E2.same s3).block μ;refine g2 P0 P _ H3 _ (AV μ ρ) v ds[i] E3 hv ?_;cases q1:gt ds[i] (AV μ ρ) with
    |bad|ex x=>rw[q1] at af;cases af
    |ok ρ1 =>
     rw[q1] at af;dsimp only at af;intro σ4 E4;refine t2 s H1 C ex P0 P σ4 H3 _ ρ1 E4 ?_;cases q2:ft ρ1 with
     |bad|ex x=>rw[q2] at af;cases af
     |ok k =>
      rw[q2] at af;dsimp only at af;intro H5 s5;cases k with
      |false =>
       simp only[zb0,if_false] at af ⊢;exact⟨ag,by omega,(s2.trans s3).trans s5,es,rest,(bn.mono s3.del).mono s5.del,af,au⟩
      |true =>
       simp only[if_true] at af ⊢;refine e2 s H1 C ex P0 P σ4 H5 _ ρ1 (E4.same s5) ?_;cases q3:fe ρ1 with
       |bad|ex x=>rw[q3] at af;cases af
       |ok y' =>
        rw[q3] at af;dsimp only at af;cases q4:B9 gt ft fe (ds.drop (i+1)) (AV μ ρ) with
        |bad|ex x=>rw[q4] at af;cases af
        |ok gx =>
         rw[q4] at af;cases af;intro w H6 s6 hw;refine⟨ag,by rw[zal,zba];omega,((s2.trans s3).trans s5).trans s6,es++[y'],gx,(((bn.mono s3.del).mono s5.del).mono s6.del).snoc hw,rfl,?_⟩;rw[zbg];exact au
   ·have e:i=ds.length:=by omega
    subst e;rw[zcm,B9] at af;cases af;rw[zb7] at au;subst au;exact .inl ⟨ok.stop _ P H2 s2.del (zag _),λ D0 hn=>h.J8 (s1.trans s2) bn D0 hn⟩
def Dd (μ:List (Option Nat))(hc:X.calm=true)(hi:DI X WX tg iter fi)(az:Gi scope X.env.scope=true)(aW:Oe X.N NB scope μ=true)(hg:tQ X scope NB μ tg gt)(ht:∀s H C ex,tR (blockOf X s H scope C NB ex) ifs ft)(he:∀s H C ex,DE (blockOf X s H scope C NB ex) (λ _ _=>False) true elt fe)(hs:∀x,foldedSetIterable iter X.env x=pure x:=by intro _;rfl):
 DN X WX (.ListComp elt [⟨tg,iter,ifs,0⟩] scope pos) (λ ρ=>(fi ρ).bind λ ds=>if ds.length<=1000 then GX (B9 gt ft fe ds (AV μ ρ)) else .bad):=by
 obtain⟨wi,i1,i2⟩:=hi;obtain⟨gg,g1,gk,g2⟩:=hg;refine⟨_,Xy hc i1 az aW gk (λ s H C ex=>⟨g1 s H C ex,(za1 (ht s H C ex)).1,(za1 (he s H C ex)).1⟩) hs,λ P0 P σ H Q ρ E h=>?_⟩;exact fP i2 g2 (λ s H' C ex P0 P σ H Q ρ E h=>(za1 (ht s H' C ex)).2 P0 P σ H Q ρ E h) (λ s H' C ex P0 P σ H Q ρ E h=>(za1 (he s H' C ex)).2 P0 P σ H Q ρ E h) E h
def fQ (i:Nat)(μ:List (Option Nat))(hN:X.N.Nodup)(gp:X.N[i]?=some x)(hx:Loc X.env.scope x)(hc:X.calm=true)(hi:DI X WX tg iter fi)(az:Gi scope X.env.scope=true)(aW:Oe X.N NB scope μ=true)(hg:tQ X scope NB μ tg gt)(ht:∀s H C ex,tR (blockOf X s H scope C NB ex) ifs ft)(he:∀s H C ex,DE (blockOf X s H scope C NB ex) (λ _ _=>False) true elt fe)(aX: ~~~(swapsWith (.ListComp elt [⟨tg,iter,ifs,0⟩] scope pos) (some (.Name x px)) am.line X.env=pure true))(hs:∀x,foldedSetIterable iter X.env x=pure x:=by intro _;rfl)(hf:X.fn x=true\/X.env.scope.names.lookup x=some .local:=by first|exact .inl rfl|exact .inr rfl|assumption):
 DS X WX (.Assign [.Name x px] (.ListComp elt [⟨tg,iter,ifs,0⟩] scope pos) am) (λ ρ=>(VL ((fi (Fh ρ)).bind λ ds=>if ds.length<=1000 then GX (B9 gt ft fe ds (AV μ (Fh ρ))) else .bad)).bind (Sy i ρ)):=by
 obtain⟨wi,i1,i2⟩:=hi;obtain⟨gg,g1,gk,g2⟩:=hg;refine⟨_,Sg hN gp hx hc i1 az aW gk (λ s H C ex=>⟨g1 s H C ex,(za1 (ht s H C ex)).1,(za1 (he s H C ex)).1⟩) aX hs hf,λ P0 P σ H Z ρ E h=>?_⟩;refine fP (P0:=P0) (P:=P0) i2 g2 (λ s H' C ex P0 P σ H Q ρ E h=>(za1 (ht s H' C ex)).2 P0 P σ H Q ρ E h) (λ s H' C ex P0 P σ H Q ρ E h=>(za1 (he s H' C ex)).2 P0 P σ H Q ρ E h) E.low ?_;dsimp only at h;revert h;cases ((fi (Fh ρ)).bind λ ds=>if ds.length<=1000 then GX (B9 gt ft fe ds (AV μ (Fh ρ))) else .bad) with
 |bad=>exact λ h=>h
 |ex y=>exact λ h H' s=>h H' P (E.tr s)
 |ok t =>
  unfold VL;simp only[M.A9];by_cases hf:HI t=true
  ·rw[if_pos hf];exact λ h v fp H' s hn nd o=>qD E s hn nd (o.clean (FC (E.same s).BU o) hf) h
  ·rw[if_neg hf];exact λ h=>h.elim
end
abbrev aa8 (K:za0)(WX:Str->Hp->Prop)(P:Addr->Prop)(p:Addr)(fp:List Addr)(H:Hp)(Q:VK):M (OT×OT)->Prop
 | .ok (t,r)=>∀v H' P' ah fr,(∀a,P a->a∉fp->P' a/\H' a=H a)->(∀a,P' a->EA H' a)->Ah (del H P) (del H' P')->C6 K H' P' (.ref p) t ah->ah.Nodup->C6 K H' P' v r fr->fr.Nodup->(∀a∈fr,a∉ah)->
  (∀a∈ah,P' a/\(P a->a∈fp))->(∀a∈fr,P' a/\(P a->a∈fp))->Q v H'
 | .ex _| .bad=>False
abbrev Rc (K:za0)(n:Nat)(F:OT->List D->M (OT×OT)):Sp:=λ vs H Q E=>vs.length=n/\∃P p t fp rest av,vs=.ref p::rest/\(∀a,P a->EA H a)/\(∀a∈fp,P a)/\fp.Nodup/\C6 K H P (.ref p) t fp/\Ak K (del H P) rest av/\aa8 K (EI K E) P p fp H Q (F t av)
abbrev Dl (N:List Str)(t:OT)(av:List D):Ae:=some (toCl (some 0) t)::(av.map (λ d=>some (.val d))++zae (N.length-(av.length+1)) none)
abbrev HN (ρ:Ae):Option OT:=match ρ[0]? with
 |some (some c)=>(match treeOf c with|some (some 0,t)=>some t|_=>none)
 |_=>none
abbrev EO (m:M Out):M (OT×OT):=match m with
 | .ok (.next ρ)=>(match HN ρ with|some t=>.ok (t,.sh .AL)|none=>.bad)
 | .ok (.FU r ρ)=>(match HN ρ with|some t=>.ok (t,r)|none=>.bad)
 |_=>.bad
def Zk (p:Option Nat)(t:OT):Hk (toCl p t)=true:=by
 unfold toCl;split
 ·rename_i ts;cases q:EM ts with
  |none=>rfl
  |some ds=>cases p<;>rfl
 ·rfl
def Ko {K}{rest}(ht:∀a,P a->EA H a)(hp:∀a∈fp,P a)(nd:fp.Nodup)(o:C6 K H P (.ref p) t fp)(h:Ak K (del H P) rest av):
 Ao K ⟨λ a=>P a/\a∉fp,λ _=>p⟩ P H (start N (.ref p::rest)) (Dl N t av):=by
 have hl:=h.length;have key:∀(i:Nat) (c:Cl),(av.map (λ d=>some (Cl.val d))++zae (N.length-(av.length+1)) none)[i]?=some (some c)->∃d,av[i]?=some d/\c=.val d:=λ i c e=>by
  by_cases hi:i<av.length
  ·rw[zce (by simpa using hi),zan] at e;cases q:av[i]? with
   |none=>rw[q] at e;cases e
   |some d=>rw[q] at e;cases e;exact⟨d,rfl,rfl⟩
  ·rw[zd8 (by simpa using hi),zc6] at e;split at e<;>cases e
 have ve:(start N (.ref p::rest))[0]?=some (some (.ref p)):=by unfold start;rfl
 refine⟨λ a h=>h.1,ht,λ i d e=>?_,λ i c e io=>?_,λ i j c c' v v' fp ah e1 e2 _ _ o1 o2 ae=>?_,?_,λ i c n e xu=>?_⟩
 rotate_left 4
 ·cases i with
  |zero=>exact ve
  |succ i =>
   obtain⟨d',q,z⟩:=key i _ (by unfold Dl at e;simpa using e);cases z;cases xu
 ·cases i with
  |zero =>
   have e':some (toCl (some 0) t)=some (.val d):=by simpa [Dl] using e
   have:=Zk (some 0) t;rw[zas e'] at this;cases this
  |succ i =>
   obtain⟨d',q,z⟩:=key i _ (by unfold Dl at e;simpa using e);cases z;obtain⟨v,hv,hd⟩:=h.get q;refine⟨v,?_,hd⟩;unfold start;rw[za5,zde,zb1,zce (by rw[za2];exact (zah.mp hv).1),zan,hv];rfl
 ·cases i with
  |zero =>
   have e':toCl (some 0) t=c:=by simpa [Dl] using e
   subst e';exact⟨_,fp,ve,D7.toCl o,λ a ha=>⟨hp a ha,λ z=>z.2 ha⟩,nd⟩
  |succ i =>
   obtain⟨d',q,z⟩:=key i _ (by unfold Dl at e;simpa using e);cases z;cases io
 ·cases i with
  |zero =>
   cases j with
   |zero=>exact (ae rfl).elim
   |succ j =>
    obtain⟨d',q,z⟩:=key j _ (by unfold Dl at e2;simpa using e2);cases z;exact o2.elim
  |succ i =>
   obtain⟨d',q,z⟩:=key i _ (by unfold Dl at e1;simpa using e1);cases z;exact o1.elim
 ·unfold start Dl;simp[hl]
section
variable {P:Program}{w:World}{K:za0}
def Nz (E:Ao K P0 P' H' σ' ρ)(h:HN ρ=some t):∃c ah,ρ[0]?=some (some c)/\σ'[0]?=some (some (.ref (P0.g 0)))/\D7 K H' P' c (.ref (P0.g 0)) ah/\C6 K H' P' (.ref (P0.g 0)) t ah/\ah.Nodup/\∀a∈ah,P' a/\¬ P0 a:=by
 unfold HN at h;split at h
 ·rename_i c e;split at h
  ·rename_i t' e2;cases h;have io:Hk c=true:=by cases c<;>first|rfl|cases e2
   obtain⟨v,fp,k1,k2,k3,k4⟩:=E.ows 0 c e io;have:=E.pin 0 c 0 e (JJ e2);rw[k1] at this;cases this;exact⟨c,fp,e,k1,k2,k2.toT e2,k4,k3⟩
  ·cases h
 ·cases h
def tY {st}{f}(F:cH K x qual st f fd)(S:Aj N ps (A6 st))(g:Ae->M Out)(hb:∀(B6:Value) (A:Around) (outer:List Env) (s:Shared) (H:Hp) (E:XK),C4 k (A.deeper (envOfC qual (A6 st) s.heap.objs.size f B6))->VI (pZ P w K mg base N qual (A6 st) f B6 A outer s H E) (EI K E) (AW st) g):
 Ea P w K mg base (Z8 P w base) (k+1) f fd ps (Rc K ps.length λ t av=>EO (g (Dl N t av))):=by
 obtain⟨oc,od,kV,doc,pm,an,B6,ct,VH,rfl,lk,bc⟩:=F.ex;refine Xs lk bc S (λ vs H Q E h=>h.1) λ A outer s H vs Q E hr h=>?_;obtain⟨hl,P',p,t,fp,rest,av,rfl,ht,hp,nd,ho,hv,hq⟩:=h;obtain⟨tt,h1,h2⟩:=hb B6 A outer s H E hr;refine⟨tt,h1,h2 ⟨λ a=>P' a/\a∉fp,λ _=>p⟩ P' _ H _ _ (Ko ht hp nd ho hv) ?_⟩;dsimp only at hq;revert hq;cases g (Dl N t av) with
 |bad|ex x=>exact λ h=>h.elim
 |ok o =>
  have sub:∀ {P2:Addr->Prop} {H2:Hp} {σ2:St} {ρ:Ae},Ao K ⟨λ a=>P' a/\a∉fp,λ _=>p⟩ P2 H2 σ2 ρ->∀a,P2 a/\¬ (P' a/\a∉fp)->P2 a/\(P' a->a∈fp):=λ E a ha=>⟨ha.1,λ z=>zd4 λ w=>ha.2 ⟨z,w⟩⟩;cases o with
  |ret d|CO d=>exact λ h=>h.elim
  |next ρ =>
   intro hq σ' H' P2 t2 E2;unfold EO at hq;dsimp only at hq;split at hq
   ·rename_i t' e;obtain⟨c,ah,k1,k2,k3,k4,k5,k6⟩:=Nz E2 e;exact hq .AL H' P2 ah [] (λ a ha hn=>⟨E2.sub a ⟨ha,hn⟩,t2.2 a ⟨ha,hn⟩⟩) E2.BU t2.1 k4 k5 (.sh .AL) zby (λ a ha=>by cases ha) (λ a ha=>sub E2 a (k6 a ha)) (λ a ha=>by cases ha)
   ·exact hq.elim
  |FU r ρ =>
   intro hq v fr σ' H' P2 t2 E2 o2 aP hf;unfold EO at hq;dsimp only at hq;split at hq
   ·rename_i t' e;obtain⟨c,ah,k1,k2,k3,k4,k5,k6⟩:=Nz E2 e;exact hq v H' P2 ah fr (λ a ha hn=>⟨E2.sub a ⟨ha,hn⟩,t2.2 a ⟨ha,hn⟩⟩) E2.BU t2.1 k4 k5 o2 aP (λ a ha=>(hf a ha).2.2 0 c _ ah k1 k2 k3) (λ a ha=>sub E2 a (k6 a ha)) (λ a ha=>sub E2 a ⟨(hf a ha).1,(hf a ha).2.1⟩)
   ·exact hq.elim
  |brk ρ|cont ρ=>exact λ h=>h.elim
end
structure Rf (P:Program)(w:World)(K:za0)(mg:Str->Option Value)(base:Heap)(x:Str)(k n:Nat)(F:OT->List D->M (OT×OT)):Prop where
 ex:∃fa fd ps,Ea P w K mg base (Z8 P w base) k fa fd ps (Rc K n F)/\mg x=some (.ref fa)/\zbn K (.ref fa)=true/\Binds K fd ps []
def Up {P}{K}{st}(T:AK K mg x st ps)(S:Aj N ps (A6 st))(g:Ae->M Out)(hb:∀(f:Addr) (B6:Value) (A:Around) (outer:List Env) (s:Shared) (H:Hp) (E:XK),C4 k (A.deeper (envOfC x (A6 st) s.heap.objs.size f B6))->VI (pZ P w K mg base N x (A6 st) f B6 A outer s H E) (EI K E) (AW st) g)(hn: ~~~(ps.length=n)):
 Rf P w K mg base x (k+1) n (λ t av=>EO (g (Dl N t av))):=by
 obtain⟨f,fd,F,hm,hB⟩:=T.ex;subst hn;exact⟨⟨f,fd,ps,tY F S g (hb f),hm,F.kp,hB⟩⟩
section
variable {fp:Ae->M (List Nat)}{i:Nat}{fs:Ae->M (List D)}
def Ao.new {K:za0}{P':Addr->Prop}{H':Hp}(E:Ao K P0 P H σ ρ)(s:Ah H H')(sm:Ah (del H P) (del H' P')){a:Addr}(hn:H a=none):∀(j:Nat) c v fq,ρ[j]?=some (some c)->σ[j]?=some (some v)->D7 K H' P' c v fq->a∉fq:=λ j c v fq h1 h2 h3 ha=>by
 have io:Hk c=true:=by cases c<;>first|rfl|exact h3.elim
 obtain⟨w,fr,k1,k2,k3,k4⟩:=E.ows j c h1 io;rw[h2] at k1;cases k1;have m:=k2.move sm λ b hb=>by obtain⟨o,q⟩:=k2.at b hb;rw[q];exact s _ _ q
 rw[h3.Cj m] at ha;obtain⟨o,q⟩:=k2.at a ha;rw[hn] at q;cases q
def Ao.yV {K}(E:Ao K P0 P H σ ρ)(pl:Br K P H σ ρ i π v1 t1)(o:C6 K H P v1 t1 ax)(hs:∀a,P a->a∉ax->P' a/\H' a=H a)(ht:∀a,P' a->EA H' a)(sm:Ah (del H P) (del H' P'))(o':C6 K H' P' v1 u fu)(nd:fu.Nodup)(hf:∀a∈fu,P' a/\(P a->a∈ax))(or:C6 K H' P' v2 r fr)(ndr:fr.Nodup)(hr:∀a∈fr,P' a/\(P a->a∈ax))(dj:∀a∈fr,a∉fu):
 ∃c p t,ρ[i]?=some (some c)/\treeOf c=some (p,t)/\Ao K P0 P' H' σ (ρ.set i (some (toCl p (EJ t π u))))/\Tr P0 P H P' H'/\
  ∀a∈fr,P' a/\¬ P0 a/\∀(j:Nat) c' v fq,(ρ.set i (some (toCl p (EJ t π u))))[j]?=some (some c')->σ[j]?=some (some v)->D7 K H' P' c' v fq->a∉fq:=by
 obtain⟨v0,c,p,t,h1,h2,h3,h4⟩:=pl.ex;have io:Hk c=true:=by cases c<;>first|rfl|cases h2
 obtain⟨w,fp,k1,k2,k3,k4⟩:=E.ows i c h1 io;rw[h3] at k1;cases k1;have ot:=k2.toT h2;obtain⟨fz,oz,kz,_⟩:=ot.part h4;have:=oz.Cj o;subst this;obtain⟨ah,q1,q2,q3⟩:=ot.put sm h4 o o' (λ a ha hn=>(hs a (k3 a ha).1 hn).2) k4 nd (λ a ha hb=>(hf a ha).2 (k3 a hb).1);have vg:∀(j:Nat) c' v' fq,i≠j->ρ[j]?=some (some c')->σ[j]?=some (some v')->D7 K H P c' v' fq->∀a∈fq,P a/\a∉fp:=λ j c' v' fq ae g1 g2 g3 a ha=>by
  have j0:Hk c'=true:=by cases c'<;>first|rfl|exact g3.elim
  obtain⟨w',re,m1,m2,m3,m4⟩:=E.ows j c' g1 j0;rw[g2] at m1;cases m1;have:=m2.Cj g3;subst this;exact⟨(m3 a ha).1,E.apart j i c' c v' v0 re fp g1 h1 g2 h3 g3 k2 (zbi ae) a ha⟩
 have key:=E.yJ (P':=P') (H':=H') (i:=i) (v:=v0) (c:=toCl p (EJ t π u)) (fp:=ah) (λ a ha=>(hs a (E.sub a ha) λ z=>(k3 a (kz a z)).2 ha).1) ht sm (λ j c' v' fq ae g1 g2 g3 a ha=>?_) (D7.toCl q1) (λ a ha=>?_) q2 (λ n z=>by rw[Gr] at z;subst z;have:=E.pin i c n h1 (JJ h2);rw[h3] at this;cases this;rfl)
 ·rw[Ov h3] at key;refine⟨c,p,t,h1,h2,key,⟨sm,λ a ha=>(hs a (E.sub a ha) λ z=>(k3 a (kz a z)).2 ha).2⟩,λ a ha=>⟨(hr a ha).1,λ z=>(k3 a (kz a ((hr a ha).2 (E.sub a z)))).2 z,λ j c' v fq g1 g2 g3 hb=>?_⟩⟩;rcases get_set g1 with ⟨rfl,hl,z⟩|⟨ae,g1⟩
  ·cases z;rw[h3] at g2;cases g2;rw[g3.Cj (D7.toCl q1)] at hb;rcases q3 a hb with y|y
   ·exact dj a ha y
   ·exact y.2 ((hr a ha).2 (k3 a y.1).1)
  ·have j0:Hk c'=true:=by cases c'<;>first|rfl|exact g3.elim
   obtain⟨w',re,m1,m2,m3,m4⟩:=E.ows j c' g1 j0;rw[g2] at m1;cases m1;have o2:=vg j c' v re ae g1 g2 m2;have mv:=m2.move sm λ b a9=>(hs b (o2 b a9).1 λ z=>(o2 b a9).2 (kz b z)).2;rw[g3.Cj mv] at hb;exact (o2 a hb).2 (kz a ((hr a ha).2 (o2 a hb).1))
 ·have o2:=vg j c' v' fq ae g1 g2 g3 a ha;have hk:=hs a o2.1 λ z=>o2.2 (kz a z);refine⟨hk.2,λ z=>?_,hk.1⟩;rcases q3 a z with y|y
  ·exact o2.2 (kz a ((hf a y).2 o2.1))
  ·exact o2.2 y.1
 ·rcases q3 a ha with y|y
  ·exact⟨(hf a y).1,λ z=>(k3 a (kz a ((hf a y).2 (E.sub a z)))).2 z⟩
  ·exact⟨(hs a (k3 a y.1).1 y.2).1,(k3 a y.1).2⟩
end
abbrev HP (i:Nat)(ρ:Ae)(π:List Nat)(u:OT):M Out:=match ρ[i]? with
 |some (some c)=>(match treeOf c with|some (p,t)=>.ok (.next (ρ.set i (some (toCl p (EJ t π u)))))|none=>.bad)
 |_=>.bad
abbrev Dm (i:Nat)(ρ:Ae)(π:List Nat):M (List OT):=match Wt i ρ π with | some (.lst ts)=>.ok ts | _=>.bad
def Gs {c}(h:ρ[i]?=some (some c))(ht:treeOf c=some (p,t)):HP i ρ π u=.ok (.next (ρ.set i (some (toCl p (EJ t π u))))):=by
 unfold HP;simp only[h,ht]
def Ax.append {K:za0}{H:Hp}{P:Addr->Prop}:∀ {xs ys:List V}{ts us:List OT}{fp fq:List Addr},Ax K H P xs ts fp->Ax K H P ys us fq->Ax K H P (xs++ys) (ts++us) (fp++fq)
 |_,_,_,_,_,_,.nil,h=>h
 |_,_,_,_,_,_,.cons a t,h=>by rw[zbg];exact .cons a (t.append h)
section
variable {fp:Ae->M (List Nat)}{i:Nat}{fs:Ae->M (List D)}
def Br.lst {K}(pl:Br K P H σ ρ i π v t1)(E:Ao K P0 P H σ ρ)(h:Dm i ρ π=.ok ts):t1=.lst ts/\∃l xs fq,v=.ref l/\H l=some (.lst xs)/\Ax K H P xs ts fq/\l∉fq/\fq.Nodup:=by
 unfold Dm at h;rw[pl.at] at h;split at h
 ·rename_i rf e;cases e;cases h;obtain⟨ax,o1,hp,nd⟩:=pl.own E;cases o1 with
  |lst hh hr=>exact⟨rfl,_,_,_,rfl,hh,hr,(zb6.mp nd).1,(zb6.mp nd).2⟩
 ·cases h
def fR (ha:DP X WX a i fp)(he:DN X WX e fn){ad}(hs: ~~~(starEach [e] X.env=[(false,eval e X.env)]))(aX: ~~~(swapsWith (.Call (.Attribute a "append" apos) [e] [] ad) none pos.line X.env=pure false))(ak: ~~~(attributeBase a "append" X.env (eval a X.env)=eval a X.env))(aJ: ~~~(((backTo ad (starEach [e] X.env)).all (λ x => !x.1)&&(backToKw ad (keywordEach [] X.env)).all (λ x=>x.1.isSome)&&decide (([e]:List Expr).length+([]:List Keyword).length+(if ([]:List Keyword).isEmpty then 0 else 1)<30))=true))(al: ~~~((apos.endLine==ad.line)=true))(ao: ~~~((backTo ad (starEach [] X.env)).any (·.1)=false)):
 DS X WX (.Expr (.Call (.Attribute a "append" apos) [e] [] ad) pos) (λ ρ=>(fp ρ).bind λ π=>(Dm i ρ π).bind λ ts=>(fn ρ).bind λ t=>if ts.length<1000 then HP i ρ π (.lst (ts++[t])) else .bad):=by
 obtain⟨ta,a1,a2⟩:=ha;obtain⟨te,e1,e2⟩:=he;refine⟨_,Gd (TZ zc3 PySem.F.slot_list_append PySem.F.type_list_append QU a1 (Bd e1 Cv hs) ak aJ al hs ao) aX,λ P0 P σ H Z ρ E h=>?_⟩;dsimp only at h;refine a2 P0 P σ H _ ρ E ?_;refine cI h E λ π h=>?_;intro v t1 H1 s1 pl;have E1:=E.same s1;cases q1:Dm i ρ π with
 |bad=>rw[q1] at h;exact h.elim
 |ex x=>unfold Dm at q1;split at q1<;>cases q1
 |ok ts =>
  rw[q1] at h;simp only[M.A9] at h;obtain⟨rfl,l,xs,fq,rfl,hl,ol,nl,vh⟩:=pl.lst E1 q1;refine⟨.inl ⟨rfl,xs,.of hl⟩,e2 P0 P σ H1 _ ρ E1 ?_⟩;cases q2:fn ρ with
  |bad=>rw[q2] at h;exact h
  |ex y=>rw[q2] at h;exact λ H' s=>h H' P ((E.tr s1).trans (E1.tr s))
  |ok t =>
   rw[q2] at h;simp only[M.A9] at h;by_cases hz:ts.length<1000
   ·rw[if_pos hz] at h;intro w fw H2 s2 n2 aP o2;have sm:=Bk (P:=P) s2 n2;have E2:Ao X.K P0 (PU P fw) H2 σ ρ:=E1.more s2 HG (FC (E1.same s2).BU o2) sm;have keep:∀b∈fq,H2 b=H1 b:=λ b hb=>by obtain⟨o,z,_⟩:=ol.BU b hb;rw[z];exact s2 _ _ z
    have fv:=ol.move sm keep;have ar:=s2 _ _ hl;have dj:∀b∈fq,b∉fw:=λ b hb hc=>(ol.BU b hb).no (n2 b hc);obtain⟨c,p,t0,g1,g2,E3,t3⟩:=E2.mE (pl.more sm s2) ar fv (us:=ts++[t]) (ys:=xs++[w]) (fv.append (.cons o2 .nil)) (by rw[zb7];exact zau.mpr ⟨vh,aP,λ b hb d hd z=>dj b hb (by rw[z];exact hd)⟩) (by
     rw[zb7];intro z;rcases zao.mp z with z|z
     ·exact nl z
     ·rw[n2 l z] at hl;cases hl) (by
     intro b hb;rw[zb7] at hb;rcases zao.mp hb with z|z
     ·exact .inl z
     ·exact .inr ⟨.inr z,λ y=>(E1.BU b (E1.sub b y)).no (n2 b z),E1.new s2 sm (n2 b z)⟩)
    rw[Gs g1 g2] at h;exact⟨l,xs,w,rfl,rfl,ar,AA (by rw[ol.len];exact zbp hz),h _ _ _ (((E.tr s1).trans (E1.wA s2 n2)).trans t3) E3⟩
   ·rw[if_neg hz] at h;exact h.elim
abbrev mJ {α:Type}(o:Option α):M α:=match o with | some x=>.ok x | none=>.bad
abbrev Tz (i:Nat)(ρ:Ae)(π:List Nat):M (List D):=match Wt i ρ π with | some (.lst ts)=>(match EM ts with | some ds=>.ok ds | none=>.bad) | _=>.bad
def Br.shl {K}(pl:Br K P H σ ρ i π v t1)(E:Ao K P0 P H σ ρ)(h:Tz i ρ π=.ok ds):t1=.lst (ds.map .sh)/\∃l xs,v=.ref l/\H l=some (.lst xs)/\Ak K (del H P) xs ds:=by
 unfold Tz at h;rw[pl.at] at h;split at h
 ·rename_i rf e;split at h
  ·rename_i jx e';cases e;cases h;have z:=Du e';subst z;obtain⟨ax,o1,hp,nd⟩:=pl.own E;cases o1 with
   |lst hh hr=>exact⟨rfl,_,_,rfl,hh,hr.qC.2⟩
  ·cases h
 ·cases h
def Wv (h:Tz i ρ π=.ex x):False:=by
 unfold Tz at h;split at h
 ·split at h<;>cases h
 ·cases h
def Ao.yW {K}{es}(E:Ao K P0 P H σ ρ)(pl:Br K P H σ ρ i π (.ref l) (.lst (ds.map .sh)))(hH:H l=some (.lst xs))(o:Ak K (del H P) xs ds)(o':Ak K (del H P) ys es):
 ∃c p t,ρ[i]?=some (some c)/\treeOf c=some (p,t)/\Ao K P0 P (upd H l (.lst ys)) σ (ρ.set i (some (toCl p (EJ t π (.lst (es.map .sh))))))/\Tr P0 P H P (upd H l (.lst ys)):=
 E.mE pl hH o.ows o'.ows zby (λ z=>by cases z) (λ a ha=>by cases ha)
abbrev mK (t:OT):M (List D):=match t with | .lst us=>mJ (EM us) | _=>.bad
def Ww (ha:DP X WX a i fp)(he:DN X WX e fn){ad}(hs: ~~~(starEach [e] X.env=[(false,eval e X.env)]))(aX: ~~~(swapsWith (.Call (.Attribute a "extend" apos) [e] [] ad) none pos.line X.env=pure false))(ak: ~~~(attributeBase a "extend" X.env (eval a X.env)=eval a X.env))(aJ: ~~~(((backTo ad (starEach [e] X.env)).all (λ x => !x.1)&&(backToKw ad (keywordEach [] X.env)).all (λ x=>x.1.isSome)&&decide (([e]:List Expr).length+([]:List Keyword).length+(if ([]:List Keyword).isEmpty then 0 else 1)<30))=true))(al: ~~~((apos.endLine==ad.line)=true))(ao: ~~~((backTo ad (starEach [] X.env)).any (·.1)=false)):
 DS X WX (.Expr (.Call (.Attribute a "extend" apos) [e] [] ad) pos) (λ ρ=>(fp ρ).bind λ π=>(Tz i ρ π).bind λ ds=>((fn ρ).bind mK).bind λ es=>if ds.length+es.length<=1000 then HP i ρ π (.lst ((ds++es).map .sh)) else .bad):=by
 obtain⟨ta,a1,a2⟩:=ha;obtain⟨te,e1,e2⟩:=he;refine⟨_,Gd (TZ zc3 PySem.F.slot_list_extend PySem.F.type_list_extend YW a1 (Bd e1 Cv hs) ak aJ al hs ao) aX,λ P0 P σ H Z ρ E h=>?_⟩;dsimp only at h;refine a2 P0 P σ H _ ρ E ?_;refine cI h E λ π h=>?_;intro v t1 H1 s1 pl;have E1:=E.same s1;cases q1:Tz i ρ π with
 |bad=>rw[q1] at h;exact h.elim
 |ex x=>exact (Wv q1).elim
 |ok ds =>
  rw[q1] at h;simp only[M.A9] at h;obtain⟨rfl,l,xs,rfl,hl,ol⟩:=pl.shl E1 q1;refine⟨.inl ⟨rfl,xs,.of hl⟩,e2 P0 P σ H1 _ ρ E1 ?_⟩;cases q2:fn ρ with
  |bad=>rw[q2] at h;exact h
  |ex y=>rw[q2] at h;exact λ H' s=>h H' P ((E.tr s1).trans (E1.tr s))
  |ok t =>
   rw[q2] at h;simp only[M.A9] at h;intro w fw H2 s2 n2 aP o2;have sm:=Bk (P:=P) s2 n2;have E2:Ao X.K P0 (PU P fw) H2 σ ρ:=E1.more s2 HG (FC (E1.same s2).BU o2) sm;cases t with
   |lst us =>
    simp only[mK] at h;cases q3:EM us with
    |none=>rw[q3] at h;exact h.elim
    |some es =>
     rw[q3] at h;simp only[mJ,M.A9] at h;have z:=Du q3;subst z;cases o2 with
     |lst hb hr =>
      by_cases hz:ds.length+es.length<=1000
      ·rw[if_pos hz] at h;have he:=hr.qC.2;have fv:=ol.mono sm;have ar:=s2 _ _ hl;obtain⟨c,p,t0,g1,g2,E3,t3⟩:=E2.yW (pl.more sm s2) ar fv (fv.append he);rw[Gs g1 g2] at h;exact⟨l,_,xs,_,rfl,rfl,ar,hb,zbp (AA (by rw[ol.length,he.length];exact hz)),h _ _ _ (((E.tr s1).trans (E1.wA s2 n2)).trans t3) E3⟩
      ·rw[if_neg hz] at h;exact h.elim
   |_=>exact h.elim
end
abbrev gX (K:za0)(WX:Str->Hp->Prop)(P0:DV)(P:Addr->Prop)(H:Hp)(σ:St)(Q:VK):M (Ae×OT)->Prop
 | .ok (ρ,t)=>∀v fp H' P',Tr P0 P H P' H'->Ao K P0 P' H' σ ρ->C6 K H' P' v t fp->fp.Nodup->(∀a∈fp,P' a/\¬ P0 a/\∀(j:Nat) c v' fq,ρ[j]?=some (some c)->σ[j]?=some (some v')->D7 K H' P' c v' fq->a∉fq)->Q v H'
 | .ex x=>∀H' P',Tr P0 P H P' H'->WX x H'
 | .bad=>False
abbrev DX (X:Cx)(WX:Str->Hp->Prop)(e:Expr)(f:Ae->M (Ae×OT)):Prop:=
 ∃t,PE X e t/\∀P0 P σ H Q ρ,Ao X.K P0 P H σ ρ->gX X.K WX P0 P H σ Q (f ρ)->t σ H Q
abbrev fS:OT->Bool
 | .sh _=>false
 |_=>true
abbrev Uq (i:Nat)(F:OT->List D->M (OT×OT))(ρ:Ae)(π:List Nat)(av:List D):M (Ae×OT):=match ρ[i]? with
 |some (some c)=>(match treeOf c with
  |some (p,t)=>(match M4 t π with
   |some t1=>if fS t1=true then (match F t1 av with | .ok (t2,r)=>.ok (ρ.set i (some (toCl p (EJ t π t2))),r)|_=>.bad) else .bad
   |none=>.bad)
  |none=>.bad)
 |_=>.bad
section
variable {fp:Ae->M (List Nat)}{i:Nat}{fs:Ae->M (List D)}
def fT {c}(h:ρ[i]?=some (some c))(ht:treeOf c=some (p,t))(hs:M4 t π=some t1)(hN:fS t1=true)(hF:F t1 av=.ok (t2,r)):Uq i F ρ π av=.ok (ρ.set i (some (toCl p (EJ t π t2))),r):=by
 unfold Uq;simp only[h,ht,hs,hN,if_true,hF]
def fU (xo:HB X E)(G:Rf X.prog X.w X.K X.mg X.base x k n F)(hr:C4 k X.A)(hg:Gl X x)(hp:DP X (EI X.K E) a i fp)(ha:DA X (EI X.K E) true es fs)(hn:es.length+1=n)(aU:(x==("__debug__" : Str))=false:=by decide)(he: ~~~(starEach (a::es) X.env=(false,eval a X.env)::starEach es X.env))(hpl: ~~~((backTo pos (starEach es X.env)).any (·.1)=false)):
 DX X (EI X.K E) (.Call (.Name x p) (a::es) [] pos) (λ ρ=>(fp ρ).bind λ π=>(fs ρ).bind λ av=>Uq i F ρ π av):=by
 obtain⟨fa,fd,ps,hF,hm,hk,hb⟩:=G.ex;obtain⟨tp,p1,p2⟩:=hp;obtain⟨ta,a1,a2,a3⟩:=ha;refine⟨_,Xq hF hr hg hm hk hb .nil xo.call (Bd p1 a1 he) aU he hpl,λ P0 P σ H Q ρ Ev h=>?_⟩;dsimp only at h;refine p2 P0 P σ H _ ρ Ev ?_;cases q:fp ρ with
 |bad=>rw[q] at h;exact h
 |ex x=>rw[q] at h;exact λ H' s=>h H' P (Ev.tr s)
 |ok π =>
  rw[q] at h;simp only[M.A9] at h;intro v t1 H1 s1 pl;have E1:=Ev.same s1;refine a2 P0 P σ H1 _ ρ E1 ?_;cases q2:fs ρ with
  |bad=>rw[q2] at h;exact h
  |ex y=>rw[q2] at h;exact λ H' s=>h H' P ((Ev.tr s1).trans (E1.tr s))
  |ok av =>
   rw[q2] at h;simp only[M.A9] at h;intro vs H2 s2 aA;have E2:=E1.same s2;have bI:=pl.same s2;show Rc X.K n F ((v::vs)++[]) H2 Q E;rw[zb7];obtain⟨v0,c,pp,t,g1,g2,g3,g4⟩:=bI.ex;unfold Uq at h;simp only[g1,g2,g4.sub] at h;by_cases hx:fS t1=true
   ·rw[if_pos hx] at h;obtain⟨ax,o1,xv,g9⟩:=bI.own E2;have dz:∃l,v=.ref l:=by
     cases o1 with
     |sh hv=>exact absurd hx (by simp[fS])
     |lst _ _|tup _ _|dK _ _|dT _ _|ins _ _ _=>exact⟨_,rfl⟩
    obtain⟨l,rfl⟩:=dz;refine⟨by rw[za8,aA.length,a3 ρ av q2];exact hn,P,l,t1,ax,vs,av,rfl,E2.BU,λ b hb=>(xv b hb).1,g9,o1,aA,?_⟩;cases qF:F t1 av with
    |bad|ex x=>rw[qF] at h;exact h.elim
    |ok z =>
    obtain⟨t2,r⟩:=z;rw[qF] at h;intro w H' P' fu fr k1 k2 k3 k4 k5 k6 k7 k8 k9 rh;obtain⟨c',p',t',m1,m2,m3,m4,m5⟩:=E2.yV bI o1 k1 k2 k3 k4 k5 k9 k6 k7 rh k8;rw[g1] at m1;cases m1;rw[g2] at m2;cases m2;exact h w fr H' P' (((Ev.tr s1).trans (E1.tr s2)).trans m4) m3 k6 k7 m5
   ·rw[if_neg hx] at h;exact h.elim
def OM (he:DX X WX e fx)(hs: ~~~(swapsWith e none pos.line X.env=pure false)):DS X WX (.Expr e pos) (λ ρ=>(fx ρ).bind λ z=>.ok (.next z.1)):=by
 obtain⟨te,e1,e2⟩:=he;refine⟨_,Gd e1 hs,λ P0 P σ H Z ρ E h=>?_⟩;dsimp only at h;refine e2 P0 P σ H _ ρ E ?_;cases q:fx ρ with
 |bad|ex x=>rw[q] at h;exact h
 |ok z=>rw[q] at h;exact λ v fp H' P' t E' o nd hf=>h σ H' P' t E'
def mL (j:Nat)(hN:X.N.Nodup)(hi:X.N[j]?=some x)(hx:Loc X.env.scope x)(he:DX X WX e fx)(hs: ~~~(swapsWith e (some (.Name x pos')) pos.line X.env=pure false))(hf:X.fn x=true\/X.env.scope.names.lookup x=some .local:=by first | exact .inl rfl | exact .inr rfl | assumption):
 DS X WX (.Assign [.Name x pos'] e pos) (λ ρ=>(fx ρ).bind λ z=>Sy j z.1 z.2):=by
 obtain⟨te,e1,e2⟩:=he;refine⟨_,VP hN hi hx e1 hs hf,λ P0 P σ H Z ρ E h=>?_⟩;dsimp only at h;refine e2 P0 P σ H _ ρ E ?_;refine XD h λ z h=>?_;intro v fp H' P' tr E' o nd hf;have h':=h.tr tr;have key:gS X.K WX P0 P' H' Z (.ok (.next (z.1.set j (some (toCl none z.2)))))->Z.nx (σ.set j (some v)) H':=λ h=>by
  refine h _ H' P' Tr.refl (E'.Z6 (λ _ h=>h) E'.BU (Ah.refl _) (λ k c' v' ah ae g1 g2 g3 b hb=>⟨rfl,λ w=>(hf b w).2.2 k c' v' ah g1 g2 g3 hb⟩) (D7.toCl o) (λ b hb=>⟨(hf b hb).1,(hf b hb).2.1⟩) nd (λ n z=>by rw[Gr] at z;cases z))
 obtain⟨ρ1,u⟩:=z;cases u with
 |sh d =>
  cases o with
  |sh hv=>exact h' _ H' P' Tr.refl (E'.Wi hv)
 |lst ts|tup ts|BG b ks ts|ins x ns ts=>exact key h'
end
abbrev GY (i:Nat)(ρ:Ae)(π:List Nat):M (Bool×List D×List D):=match Wt i ρ π with
 |some (.BG b ks ts)=>(match EM ts with|some vs=>.ok (b,ks,vs)|none=>.bad)
 |_=>.bad
abbrev putD (ks vs:List D)(k v:D):List D×List D:=if N7 ks k=true then (ks,JK ks vs k v) else (ks++[k],vs++[v])
section
variable {fp:Ae->M (List Nat)}{i:Nat}{fs:Ae->M (List D)}
def Br.BG {K}(pl:Br K P H σ ρ i π v t1)(E:Ao K P0 P H σ ρ)(h:GY i ρ π=.ok (bl,ks,vs)):t1=.BG bl ks (vs.map .sh)/\∃l xs,v=.ref l/\P l/\Ak K (del H P) xs vs/\C6 K H P (.ref l) (.BG bl ks (vs.map .sh)) [l]/\
 ((bl=false/\∃kvs,H l=some (.dK kvs)/\ks=(kvs.map λ kv=>CD kv.1)/\xs=kvs.map zbw)\/(bl=true/\∃kvs,H l=some (.dT kvs)/\ks=(kvs.map λ kv=>.tup (kv.1.map CD))/\xs=kvs.map zbw)):=by
 unfold GY at h;rw[pl.at] at h;split at h
 ·rename_i b' xt rf e;split at h
  ·rename_i aF e';cases e;cases h;have z:=Du e';subst z;obtain⟨ax,o1,hp,nd⟩:=pl.own E;generalize ht:OT.BG bl ks (vs.map .sh)=t at o1;cases o1 with
   |dK hh hr =>
    injection ht with h1 h2 h3
    subst h1 h2 h3;obtain⟨rfl,hs⟩:=hr.qC;exact⟨rfl,_,_,rfl,(hp _ za3).1,hs,.dK hh hr,.inl ⟨rfl,_,hh,rfl,rfl⟩⟩
   |dT hh hr =>
    injection ht with h1 h2 h3
    subst h1 h2 h3;obtain⟨rfl,hs⟩:=hr.qC;exact⟨rfl,_,_,rfl,(hp _ za3).1,hs,.dT hh hr,.inr ⟨rfl,_,hh,rfl,rfl⟩⟩
   |_=>cases ht
  ·cases h
 ·cases h
def fV (h:GY i ρ π=.ex x):False:=by
 unfold GY at h;split at h
 ·split at h<;>cases h
 ·cases h
def Ao.tZ {K}(E:Ao K P0 P H σ ρ)(pl:Br K P H σ ρ i π (.ref l) t1)(ot:C6 K H P (.ref l) t1 [l])(hn:∀xs,o'≠.tup xs/\∀z,o'≠.GQ z (.tup xs))(new:Ah (del H P) (del (upd H l o') P)->C6 K (upd H l o') P (.ref l) u [l]):
 ∃c p t,ρ[i]?=some (some c)/\treeOf c=some (p,t)/\Ao K P0 P (upd H l o') σ (ρ.set i (some (toCl p (EJ t π u))))/\Tr P0 P H P (upd H l o'):=by
 obtain⟨ax,o1,hp,_⟩:=pl.own E;have:=o1.Cj ot;subst this;have pP:P l:=(hp l za3).1;have sd:del (upd H l o') P=del H P:=by
  funext b;by_cases hb:P b
  ·rw[EG hb,EG hb]
  ·rw[Ay hb,Ay hb,Ag (λ z=>hb (by rw[z];exact pP))]
 have sm:Ah (del H P) (del (upd H l o') P):=by rw[sd];exact Ah.refl _
 refine E.yT pl ot (λ _ h=>h) (λ a h=>?_) sm (λ a ha hn=>Ag λ z=>hn (by rw[z];exact za3)) (new sm) (by simp) (λ a ha=>.inl ha);by_cases ha:a=l
 ·subst ha;exact⟨_,Am,hn⟩
 ·unfold EA;rw[Ag ha];exact E.BU a h
def NA (hu:X.A.units+n<cLine)(ha:DP X WX a i fp)(hk:DE X WX true b g)(hv:DE X WX true e f)(hs: ~~~(swapsWith e (some (.Subscript a b pos')) pos.line X.env=pure false))(hn:1<=n:=by decide):
 DS X WX (.Assign [.Subscript a b pos'] e pos) (λ ρ=>(f ρ).bind λ v=>(fp ρ).bind λ π=>(g ρ).bind λ k=>(GY i ρ π).bind λ z=>if keyOk z.1 k=true/\z.2.1.length<1000 then HP i ρ π (.BG z.1 (putD z.2.1 z.2.2 k v).1 ((putD z.2.1 z.2.2 k v).2.map .sh)) else .bad):=by
 obtain⟨ta,a1,a2⟩:=ha;obtain⟨tk,k1,k2⟩:=hk;obtain⟨tv,v1,v2⟩:=hv;refine⟨_,lE (by omega) a1 k1 v1 hs,λ P0 P σ H Z ρ E h=>?_⟩;dsimp only at h;refine v2 P0 P σ H _ ρ E ?_;refine cI h E λ d h=>?_;intro w H0 s0 hw;have E0:=E.same s0;refine a2 P0 P σ H0 _ ρ E0 ?_;cases q:fp ρ with
 |bad=>rw[q] at h;exact h
 |ex x=>rw[q] at h;exact λ H' s=>h H' P ((E.tr s0).trans (E0.tr s))
 |ok π =>
  rw[q] at h;simp only[M.A9] at h;intro v t1 H1 s1 pl;have E1:=E0.same s1;refine k2 P0 P σ H1 _ ρ E1 ?_;cases q2:g ρ with
  |bad=>rw[q2] at h;exact h
  |ex y=>rw[q2] at h;exact λ H' s=>h H' P (((E.tr s0).trans (E0.tr s1)).trans (E1.tr s))
  |ok k =>
   rw[q2] at h;simp only[M.A9] at h;intro y H2 s2 hy;have E2:=E1.same s2;have bI:=pl.same s2;have ng:=(hw.mono s1.del).mono s2.del;have vj:=((E.tr s0).trans (E0.tr s1)).trans (E1.tr s2);cases q3:GY i ρ π with
   |bad=>rw[q3] at h;exact h.elim
   |ex x=>exact (fV q3).elim
   |ok z =>
    obtain⟨bb,ks,vs⟩:=z;rw[q3] at h;simp only[M.A9] at h;by_cases hc:keyOk bb k=true/\ks.length<1000
    ·rw[if_pos hc] at h;obtain⟨rfl,l,xs,rfl,hP,da,ot,j1⟩:=bI.BG E2 q3;have hK:=EN hc.1;rcases j1 with ⟨rfl,kvs,hH,rfl,rfl⟩|⟨rfl,kvs,hH,rfl,rfl⟩
     ·cases hK with
      |k κ =>
       have ey:=hy.mG;refine⟨l,_,rfl,.inl ⟨kvs,κ,hH,ey,AA (by have:=hc.2;rw[za2] at this;omega),rfl⟩,?_⟩;have aV:∃aF,(putD (kvs.map λ kv=>CD kv.1) vs (CD κ) d)=((putK kvs κ w).map (λ kv=>CD kv.1),aF)/\Ak X.K (del H2 P) ((putK kvs κ w).map zbw) aF:=by
        unfold putD putK;rw[Kl HJ];by_cases hh:(kvs.any λ kv=>decide (kv.1=κ))=true
        ·rw[if_pos hh,if_pos hh];refine⟨_,by rw[HL (fk:=CD) HJ],?_⟩;rw[<-HK (fk:=CD) HJ];exact HM ng da
        ·rw[if_neg hh,if_neg hh];refine⟨_,by rw[zb3];rfl,?_⟩;rw[zb3];exact da.snoc ng
       obtain⟨aF,e1,e2⟩:=aV;obtain⟨c,p,t0,g1,g2,E3,t3⟩:=E2.tZ (o':=.dK (putK kvs κ w)) (u:=.BG false ((putK kvs κ w).map λ kv=>CD kv.1) (aF.map .sh)) bI ot (λ _=>⟨λ z=>(by cases z),λ _ z=>by cases z⟩) (λ mv=>.dK Am (e2.mono mv).ows);rw[e1,Gs g1 g2] at h;exact h _ _ _ (vj.trans t3) E3
     ·cases hK with
      |t κ =>
       cases hy with
       |tup ht ar =>
        have ey:=Ak.keys κ ar;subst ey;refine⟨l,_,rfl,.inr ⟨kvs,κ,_,hH,rfl,(An ht).2,AA (by have:=hc.2;rw[za2] at this;omega),rfl⟩,?_⟩;have hf:∀a b:List Key,Bv (.tup (a.map CD)) (.tup (b.map CD))=decide (a=b):=λ a b=>by simp only[Bv];exact Nx a b
        have aV:∃aF,(putD (kvs.map λ kv=>.tup (kv.1.map CD)) vs (.tup (κ.map CD)) d)=((putK kvs κ w).map (λ kv=>.tup (kv.1.map CD)),aF)/\Ak X.K (del H2 P) ((putK kvs κ w).map zbw) aF:=by
         unfold putD putK;rw[Kl (fk:=λ κ:List Key=>D.tup (κ.map CD)) hf];by_cases hh:(kvs.any λ kv=>decide (kv.1=κ))=true
         ·rw[if_pos hh,if_pos hh];refine⟨_,by rw[HL (fk:=λ κ:List Key=>D.tup (κ.map CD)) hf],?_⟩;rw[<-HK (fk:=λ κ:List Key=>D.tup (κ.map CD)) hf];exact HM ng da
         ·rw[if_neg hh,if_neg hh];refine⟨_,by rw[zb3];rfl,?_⟩;rw[zb3];exact da.snoc ng
        obtain⟨aF,e1,e2⟩:=aV;obtain⟨c,p,t0,g1,g2,E3,t3⟩:=E2.tZ (o':=.dT (putK kvs κ w)) (u:=.BG true ((putK kvs κ w).map λ kv=>.tup (kv.1.map CD)) (aF.map .sh)) bI ot (λ _=>⟨λ z=>(by cases z),λ _ z=>by cases z⟩) (λ mv=>.dT Am (e2.mono mv).ows);rw[e1,Gs g1 g2] at h;exact h _ _ _ (vj.trans t3) E3
    ·rw[if_neg hc] at h;exact h.elim
def Ur (tk:Bool):DN X WX (.Dict [] [] pos) (λ _=>.ok (.BG tk [] [])):=by
 cases tk with
 |false =>
  refine⟨_,eA,λ P0 P σ H Q ρ E h p hp=>?_⟩;exact h _ [p] _ (AH hp _) (λ a ha=>by rw[za9.mp ha];exact hp) (by simp) (.dK (kvs:=[]) Am .nil)
 |true =>
  refine⟨_,eB,λ P0 P σ H Q ρ E h p hp=>?_⟩;exact h _ [p] _ (AH hp _) (λ a ha=>by rw[za9.mp ha];exact hp) (by simp) (.dT (kvs:=[]) Am .nil)
end
abbrev qG (K:za0):List V->Hp->VK->Prop:=λ xs H Q=>∃(a:Addr) (bs:List (Addr×List Int)) (b:Addr×List Int),xs=[.ref a]/\Dr K H a (bs.map λ b=>V.ref b.1)/\(∀b∈bs,Fj K H b.1 (b.2.map V.int))/\Bj bs=some b/\Q (.ref b.1) H
def Zl (hc:X.calm=true)(hu:X.A.units+1<cLine):GS X (.builtin "min") (qG X.K):=by
 intro pins s σ H xs us Q I r h;obtain⟨a,bs,b0,rfl,hl,hb,he,q⟩:=h;obtain⟨ua,rfl,ra⟩:=r.one;cases ra;obtain⟨aa,rv,pl,hz⟩:=I.list hl;have ei:=LW rv;subst ei;have tv:∀a:Addr,∃t:Array Value,∀b∈bs,b.1=a->IsTup s.heap a t/\IntsAre t.toList b.2:=λ a=>by
  by_cases cn:∃b∈bs,b.1=a
  ·obtain⟨b,cn,rfl⟩:=cn;obtain⟨ts,rt,pt,_⟩:=I.tuple (hb b cn);refine⟨ts.toArray,λ b' a9 e=>⟨pt,?_⟩⟩;have q2:=hb b' a9;rw[e] at q2;have e2:=I.FQ q2 (hb b cn);rw[<-e2] at rt;simpa using intsAre_of rt
  ·exact⟨#[],λ b a9 e=>absurd ⟨b,a9,e⟩ cn⟩
 have ae:bs≠[]:=λ z=>by subst z;cases he
 refine Ol bs (λ b=>za7 (tv b)) a none (λ _=>ae) (I.ok.hd hc) hu pl.isList (λ b a9=>(za1 (tv b.1) b a9 rfl).1) (λ b a9=>(za1 (tv b.1) b a9 rfl).2) λ h' tk hk=>?_;rw[he];exact⟨.ref b0.1,H,I.kept (t':=tk) hk,rfl,q⟩
abbrev XT (ds:List D):M D:=match ds with
 |[.lst xs]=>(match HA xs with|some ks=>(match Bj ks with|some k=>.ok k.1|none=>.bad)|none=>.bad)
 |_=>.bad
def mM:Mu X.K WX (qG X.K) XT:=by
 intro P H ds vs Q ht hl h;unfold XT at h;split at h
 ·rename_i xs;obtain⟨v,rfl,hv⟩:=hl.one;split at h
  ·rename_i ks e1;cases hv with
   |lst hs hh =>
    obtain⟨bs,rfl,h2,h3⟩:=JH hh e1;split at h
    ·rename_i k e2;rcases Ox h3 with ⟨q1,q2⟩|⟨b,k',q1,q2,_,q3⟩
     ·rw[q2] at e2;cases e2
     ·rw[q2] at e2;cases e2;exact⟨_,bs,b,rfl,hs.B8,λ b hb=>(h2 b hb).B8,q1,h _ H (Ah.refl H) q3⟩
    ·exact h.elim
  ·exact h.elim
 ·exact h.elim
def mN (hc:X.calm=true)(hu:X.A.units+n<cLine)(hg:Gl X "min")(hm:X.mg "min" = none)(ha:DE X WX c e f)(hb:bootBuiltins "min" = some (.builtin "min"):=by decide +kernel)(hs: ~~~(starEach [e] X.env=[(false,eval e X.env)]))(hn:1<=n:=by decide):DE X WX c (.Call (.Name "min" p) [e] [] pos) (λ ρ=>((f ρ).bind λ d=>(M.ok []).bind λ ds=>.ok (d::ds)).bind XT):=
 Kc (Zl hc (by omega)) mM hg hm hb (A2 ha A7 hs) (he:=hs)
section
variable {fp:Ae->M (List Nat)}{i:Nat}
abbrev mO:V->List V->Hp->VK->Prop:=λ x vs H Q=>∃(l:Addr) (ns:List Int) (k:Int),x=.ref l/\vs=[.int k]/\H l=some (.lst (ns.map V.int))/\k∈ns/\Q .AL (upd H l (.lst ((ns.erase k).map V.int)))
def Rg {α β:Type}(f:α->β):∀(l:List α) (k:Nat),(l.eraseIdx k).map f=(l.map f).eraseIdx k
 |[],_|_::_,0=>rfl
 |x::r,k+1=>by rw[List.eraseIdx_cons_succ,za5,za5,List.eraseIdx_cons_succ,Rg f r k]
abbrev Wx (k:Int):Value->Bool
 | .int i _=>i==k
 |_=>false
def Zm:vV X "list.remove" mO:=by
 intro pins s σ H x vs v us Q I rx rv h;obtain⟨l,ns,k,rfl,rfl,hH,hk,q⟩:=h;cases rx;obtain⟨u,rfl,ru⟩:=rv.one;obtain⟨tk,rfl⟩:=ru;obtain⟨z,aa,n,r,hl,e⟩:=I.U0 hH;have hlen:=r.length;have h7:ns.idxOf k<ns.length:=List.idxOf_lt_length_iff.mpr hk;have h8:∀m (hm:m<aa.toArray.size) (vn:m<ns.length),∃t,aa.toArray[m]=Value.int ns[m] t:=λ m hm vn=>by
  have hx:(ns.map V.int)[m]?=some (V.int ns[m]):=by rw[zan,za6 vn];rfl
  obtain⟨w,hw,bh⟩:=r.get hx;obtain⟨t,rfl⟩:=bh;refine⟨t,?_⟩;have:aa[m]?=some aa[m]:=za6 (by simpa using hm);rw[hw] at this;simpa using (zas this).symm
 have hsz:aa.toArray.size=ns.length:=by rw[zaa,<-hlen,za2]
 have hm:=MeetsSeq.list_remove l aa.toArray n (.int k tk) (Wx k) (λ y hy=>by
  obtain⟨m,hm,rfl⟩:=Array.mem_iff_getElem.mp hy;obtain⟨t,ht⟩:=h8 m hm (by rw[<-hsz];exact hm);rw[ht];exact MeetsSeq.EqGives.int _ _ _ _) (ns.idxOf k) (by rw[hsz];exact h7) (by
  obtain⟨t,ht⟩:=h8 (ns.idxOf k) (by rw[hsz];exact h7) h7;rw[ht];simp[Wx]) (λ m hm ag=>by
  obtain⟨t,ht⟩:=h8 m hm (by omega);rw[ht];have:=List.not_of_lt_findIdx (p:=(· == k)) (xs:=ns) (i:=m) ag;simpa [Wx] using this) (by rw[zaa];omega)
 refine call_meets F.slot_list_remove ⟨_,e,rfl⟩ F.entry_list_remove (F.args_list_remove_2 _ _) hm ⟨e,?_⟩;refine⟨.AL,_,I.YV (its':=aa.eraseIdx (ns.idxOf k)) hH e ?_ ?_ ?_,rfl,q⟩
 ·show aa.toArray.eraseIdxIfInBounds _=_;rw[List.eraseIdxIfInBounds_toArray]
 ·rw[show ns.erase k=ns.eraseIdx (ns.idxOf k) from List.erase_eq_eraseIdx_of_idxOf rfl,Rg];exact r.eraseIdx _
 ·rw[za2];have:=List.length_erase_le (a:=k) (l:=ns);rw[za2] at z;omega
def Zn (ha:DP X WX a i fp)(he:DE X WX true e f){ad}(hs: ~~~(starEach [e] X.env=[(false,eval e X.env)]))(aX: ~~~(swapsWith (.Call (.Attribute a "remove" apos) [e] [] ad) none pos.line X.env=pure false))(ak: ~~~(attributeBase a "remove" X.env (eval a X.env)=eval a X.env))(aJ: ~~~(((backTo ad (starEach [e] X.env)).all (λ x => !x.1)&&(backToKw ad (keywordEach [] X.env)).all (λ x=>x.1.isSome)&&decide (([e]:List Expr).length+([]:List Keyword).length+(if ([]:List Keyword).isEmpty then 0 else 1)<30))=true))(al: ~~~((apos.endLine==ad.line)=true))(ao: ~~~((backTo ad (starEach [] X.env)).any (·.1)=false)):
 DS X WX (.Expr (.Call (.Attribute a "remove" apos) [e] [] ad) pos) (λ ρ=>(fp ρ).bind λ π=>(Tz i ρ π).bind λ ds=>(f ρ).bind λ d=>match d,CY ds with
  | .int k,some ns=>if k∈ns then HP i ρ π (.lst (((ns.erase k).map D.int).map .sh)) else .bad
  |_,_=>.bad):=by
 obtain⟨ta,a1,a2⟩:=ha;obtain⟨te,e1,e2⟩:=he;refine⟨_,Gd (TZ zc3 PySem.F.slot_list_remove PySem.F.type_list_remove Zm a1 (Bd e1 Cv hs) ak aJ al hs ao) aX,λ P0 P σ H Z ρ E h=>?_⟩;dsimp only at h;refine a2 P0 P σ H _ ρ E ?_;refine cI h E λ π h=>?_;intro v t1 H1 s1 pl;have E1:=E.same s1;cases q1:Tz i ρ π with
 |bad=>rw[q1] at h;exact h.elim
 |ex x=>exact (Wv q1).elim
 |ok ds =>
  rw[q1] at h;simp only[M.A9] at h;obtain⟨rfl,l,xs,rfl,hl,ol⟩:=pl.shl E1 q1;refine⟨.inl ⟨rfl,xs,.of hl⟩,e2 P0 P σ H1 _ ρ E1 ?_⟩;cases q2:f ρ with
  |bad=>rw[q2] at h;exact h
  |ex y=>rw[q2] at h;exact λ H' s=>h H' P ((E.tr s1).trans (E1.tr s))
  |ok d =>
   rw[q2] at h;simp only[M.A9] at h;intro w H2 s2 hw;have E2:=E1.same s2;have bI:=pl.same s2;cases d with
   |int k =>
    cases q3:CY ds with
    |none=>rw[q3] at h;exact h.elim
    |some ns =>
     rw[q3] at h;dsimp only at h;by_cases hk:k∈ns
     ·rw[if_pos hk] at h;have:=EC q3;subst this;have fv:=ol.mono s2.del;have ex:=Dt fv;subst ex;have ar:=s2 _ _ hl;obtain⟨c,p,t0,g1,g2,E3,t3⟩:=E2.yW (ys:=(ns.erase k).map V.int) (es:=(ns.erase k).map D.int) bI ar fv (Ak.ints _);rw[Gs g1 g2] at h;exact⟨l,ns,k,rfl,by rw[hw.int_inv],ar,hk,h _ _ _ (((E.tr s1).trans (E1.tr s2)).trans t3) E3⟩
     ·rw[if_neg hk] at h;exact h.elim
   |_=>exact h.elim
end
section
variable {te:TE}
abbrev yX (ds:List D):M D:=match ds with
 |[.lst xs]=>(match CY xs with|some ns=>.ok (.int ns.sum)|none=>.bad)
 |_=>.bad
abbrev aa9 (te:TE):TE:=λ σ H Q=>te σ H λ x H1=>∃n:Nat,x=.int (n:Int)/\n<=1000/\∀r,H1 r=none->Q (.ref r) (upd H1 r (.lst ((zay n).map λ i:Nat=>V.int (i:Int))))
def Zo (h:ItemsOf (λ i v=>∃t,v=Value.int (0+(i:Int)*1) t) acc n):Vals ((zay n).map λ i:Nat=>V.int (i:Int)) acc.toList:=by
 obtain⟨h1,h2⟩:=h;have key:∀(l:List Value) (k:Nat),(∀i v,l[i]?=some v->∃t,v=Value.int ((k+i:Nat):Int) t)->Vals ((List.range' k l.length).map λ i:Nat=>V.int (i:Int)) l:=by
  intro l;induction l with
  |nil=>intro k _;exact .nil
  |cons v r ih =>
   intro k hk;rw[za8,List.range'_succ,za5];refine .cons (by obtain⟨t,e⟩:=hk 0 v rfl;exact⟨t,by simpa using e⟩) (ih (k+1) λ i w hw=>?_);obtain⟨t,e⟩:=hk (i+1) w (by simpa using hw);exact⟨t,by rw[e];congr 1;omega⟩
 have:=key acc.toList 0 (λ i v hv=>by
  obtain⟨t,e⟩:=h2 i v (by rw[<-Array.getElem?_toList];exact hv);exact⟨t,by rw[e];congr 1;omega⟩)
 rw[zdi,h1] at this;rw[List.range_eq_range'];exact this
def SA (hc:X.calm=true)(hg:Gl X "list")(hm:X.mg "list" = none)(dr:Gl X "range")(bd:X.mg "range" = none)(he:PE X e te)(hv:bootBuiltins "list" = some (.type "list"):=by decide +kernel)(hs: ~~~(starEach [.Call (.Name "range" p2) [e] [] aD] X.env=[(false,eval (.Call (.Name "range" p2) [e] [] aD) X.env)]))(a6: ~~~(starEach [e] X.env=[(false,eval e X.env)])):
 PE X (.Call (.Name "list" p) [.Call (.Name "range" p2) [e] [] aD] [] pos) (aa9 te):=by
 intro pins s σ H Q I h;refine wpAny_Call_Name_kw (D5 I hg hm hv ?_);refine zbe ?_ hs;rw[hs];refine zc5 ?_;refine wpAny_Call_Name_kw (D5 I dr bd boot_range ?_);refine zbe ?_ a6;rw[a6];refine zc5 (Bi (he pins s σ H _ I h) λ u s1 zz=>?_);obtain⟨x,H1,I1,r1,q1⟩:=zz;obtain⟨n,rfl,hn,q⟩:=q1;obtain⟨t,rfl⟩:=r1;refine zcb ?_;refine call_range_1 ?_;refine zcb ?_;have h4:((n:Nat):Int)<2^62:=by omega
 refine call_list_range (n:=n) (I1.ok.hd hc) (IsRange.new ..) (small_one (by omega) (by omega) (by omega) h4) (by rw[rangeSize_one];split<;>omega) (by omega) λ h' tk rj c' hk bj d0=>?_;have kp:∀b o,s1.heap.get? b=some o->h'.get? b=some o:=λ b o e=>hk b o (zac _ e);have rv:=Zo d0;have br:∀o:Obj,s1.heap.objs.size<=(s1.heap.push o).objs.size:=λ o=>by simp[Heap.push]
 refine⟨.ref _,_,I1.laid (t':=tk) (o:=.lst ((zay n).map λ i:Nat=>V.int (i:Int))) kp (br _) ⟨?_,rj.toList,c',rv,by simpa using bj⟩,rfl,q _ (I1.Aw.fresh (br _))⟩;rw[za2,zc2];exact zbp (AA hn)
abbrev lrM (d:D):M OT:=match d with
 | .int j=>@ite _ (0<=j/\j<=1000) (zdh _) (.ok (.lst ((Cy 0 j.toNat).map .sh))) .bad
 |_=>.bad
def SD {n:Nat}(h:n<=1000):lrM (.int (n:Int))=.ok (.lst (((zay n).map λ i:Nat=>D.int (i:Int)).map .sh)):=by
 unfold lrM;dsimp only;rw[if_pos ⟨by omega,by omega⟩,zbh,JI]
def Kq (hc:X.calm=true)(hg:Gl X "list")(hm:X.mg "list" = none)(dr:Gl X "range")(bd:X.mg "range" = none)(he:DE X WX true e f)(hv:bootBuiltins "list" = some (.type "list"):=by decide +kernel)(hs: ~~~(starEach [.Call (.Name "range" p2) [e] [] aD] X.env=[(false,eval (.Call (.Name "range" p2) [e] [] aD) X.env)]))(a6: ~~~(starEach [e] X.env=[(false,eval e X.env)])):
 DN X WX (.Call (.Name "list" p) [.Call (.Name "range" p2) [e] [] aD] [] pos) (λ ρ=>(f ρ).bind lrM):=by
 obtain⟨te,e1,e2⟩:=he;refine⟨_,SA hc hg hm dr bd e1 hv hs a6,λ P0 P σ H Q ρ E h=>?_⟩;refine e2 P0 P σ H _ ρ E ?_;dsimp only at h;refine XD h λ d h=>?_;intro v H1 s1 hv;cases d with
 |int j =>
  by_cases hj:0<=j/\j<=1000
  ·obtain⟨n,rfl⟩:∃n:Nat,j=n:=⟨j.toNat,by omega⟩;rw[SD (by omega)] at h;refine⟨n,hv.int_inv,by omega,λ r hr=>h.J8 s1 (xs:=(zay n).map λ i:Nat=>V.int (i:Int)) ?_ r hr⟩;have:∀l:List Nat,Ak X.K (del H1 P) (l.map λ i:Nat=>V.int (i:Int)) (l.map λ i:Nat=>D.int (i:Int)):=λ l=>by
    induction l with
    |nil=>exact .nil
    |cons x r ih=>exact .cons (.int _) ih
   exact this _
  ·have e:lrM (.int j)=.bad:=if_neg hj;rw[e] at h;exact h.elim
 |_=>exact h.elim
abbrev mP (lo hi:Option Int)(d:D):M OT:=match d with
 | .lst ds=>.ok (.lst (((ds.drop (HT.O9 ds.length 0 lo)).take (HT.O9 ds.length ds.length hi-HT.O9 ds.length 0 lo)).map .sh))
 |_=>.bad
def ON {lo}(ha:DE X WX true e f)(hl:DO X WX true lo rn)(hh:DO X WX true hi fh):DN X WX (.Subscript e (.Slice lo hi none p2) pos) (λ ρ=>(f ρ).bind λ d=>(rn ρ).bind λ l=>(fh ρ).bind λ u=>mP l u d):=by
 obtain⟨ta,a1,a2⟩:=ha;obtain⟨tl,l1,l2⟩:=hl;obtain⟨th,h1,h2⟩:=hh;refine⟨_,dO kY a1 l1 h1,λ P0 P σ H Q ρ E h=>?_⟩;dsimp only at h;refine a2 P0 P σ H _ ρ E ?_;cases q:f ρ with
 |bad|ex x=>rw[q] at h;exact h
 |ok d =>
  rw[q] at h;intro v H1 s1 hv;refine l2 P0 P σ H1 _ ρ (E.same s1) ?_;cases q2:rn ρ with
  |bad=>rw[q2] at h;exact h
  |ex y=>rw[q2] at h;exact λ H' s=>h H' (s1.trans s)
  |ok l =>
   rw[q2] at h;intro H2 s2;refine h2 P0 P σ H2 _ ρ ((E.same s1).same s2) ?_;cases q3:fh ρ with
   |bad=>rw[q3] at h;exact h
   |ex y=>rw[q3] at h;exact λ H' s=>h H' ((s1.trans s2).trans s)
   |ok u =>
    rw[q3] at h;simp only[M.A9] at h;intro H3 s3;unfold mP at h;split at h
    ·cases hv with
     |lst hs hl =>
      refine⟨_,_,rfl,(s3.seq (s2.seq hs.B8)),λ p hp=>h.J8 ((s1.trans s2).trans s3) ?_ p hp⟩;unfold dP;rw[hl.length];exact ((((hl.drop _).take _).mono s2.del).mono s3.del)
    ·exact h.elim
def fW:OpN X.K WX (qA X.K) OI:=by
 intro P H x y v w Q ht hx hy h;unfold OI at h;split at h
 ·rename_i ds es;by_cases hl:ds.length+es.length<=1000
  ·rw[if_pos hl] at h;cases hx with
   |lst h1 h2 =>
    cases hy with
    |lst h3 h4=>exact⟨_,_,_,_,rfl,rfl,h1.B8,h3.B8,zbp (AA (by rw[h2.length,h4.length];exact hl)),h.J8 (Ah.refl _) (h2.yL h4)⟩
  ·rw[if_neg hl] at h;exact h.elim
 ·exact h.elim
def SE (ha:DE X WX true a f)(hb:DE X WX true b g):DN X WX (.BinOp a .Add b pos) (λ ρ=>(f ρ).bind λ x=>(g ρ).bind λ y=>OI x y):=by
 obtain⟨ta,a1,a2⟩:=ha;obtain⟨tb,b1,b2⟩:=hb;exact⟨_,cW lS a1 b1,λ P0 P σ H Q ρ E h=>yQ a2 b2 fW E h⟩
abbrev GK (μ:List (Option Nat))(g:TG):Prop:=∀σ0 σ x H Q,(∀(j:Nat) v,(FA μ σ0)[j]?=some (some v)->σ[j]?=some (some v))->g x σ H Q->g x σ H λ σ' H'=>Q σ' H'/\∀(j:Nat) v,(FA μ σ0)[j]?=some (some v)->σ'[j]?=some (some v)
abbrev yY (μ:List (Option Nat))(g:cF):Prop:=∀σ0 σ x H Q,(∀(j:Nat) v,(FA μ σ0)[j]?=some (some v)->σ[j]?=some (some v))->g x σ H Q->g x σ H λ σ' H'=>Q σ' H'/\∀(j:Nat) v,(FA μ σ0)[j]?=some (some v)->σ'[j]?=some (some v)
def GK.keeps {g}(h:GK μ g):LV μ g:=λ σ x H Q q=>h σ (FA μ σ) x H Q (λ _ _ z=>z) q
def mQ (h:μ[i]?=some none):GK μ (QO i):=λ σ0 σ x H Q hk q=>by
 refine⟨q,λ j v hj=>?_⟩;have ae:i≠j:=λ z=>by
  subst z;unfold FA at hj;rw[zan,h] at hj;cases hj
 rw[zbc ae];exact hk j v hj
def mR:yY μ rY:=λ σ0 σ x H Q hk q=>⟨q.1,q.2,hk⟩
def fX (mono:∀v σ H Q Q',(∀σ' H',Q σ' H'->Q' σ' H')->t v σ H Q->t v σ H Q')(ht:GK μ t)(hu:yY μ u):yY μ (cR t u):=λ σ0 σ x H Q hk q=>by
 obtain⟨v,r,rfl,q⟩:=q;exact⟨v,r,rfl,mono _ _ _ _ _ (λ σ' H' z=>hu σ0 σ' r H' Q z.2 z.1) (ht σ0 σ v H _ hk q)⟩
def uA {K}(h:yY μ t):GK μ (rZ K n t):=λ σ0 σ x H Q hk q=>by
 obtain⟨a,xs,rfl,h1,h2,q⟩:=q;exact⟨a,xs,rfl,h1,h2,h σ0 σ xs H Q hk q⟩
variable {dw:List D->Ae->M Ae}
abbrev mS (X:Cx)(scope:Scope)(NB:List Str)(μ:List (Option Nat))(es:List Expr)(gt:List D->Ae->M Ae):Prop:=
 ∃g:cF,(∀s H C ex,vT (blockOf X s H scope C NB ex) es g)/\yY μ g/\∀P0 P σ H Q ρ vs ds,Ao X.K P0 P H σ ρ->Ak X.K (del H P) vs ds->gG X.K P0 P H Q (gt ds ρ)->g vs σ H Q
def Kr:mS X scope NB μ [] (λ ds ρ=>match ds with | []=>.ok ρ | _=>.bad):=
 ⟨rY,λ s H C ex=>Xo,mR,λ P0 P σ H Q ρ vs ds E hv h=>by
  cases hv with
  |nil=>exact⟨rfl,h σ E⟩
  |cons _ _=>exact h.elim⟩
def D2 (i:Nat)(hN:NB.Nodup)(hi:NB[i]?=some x)(hx:(relabel scope X.env).names.lookup x=some .local)(hm:μ[i]?=some none)(hr:mS X scope NB μ es dw)(hs:∀s H C ex,(assignEach (.Name x px::es) (blockOf X s H scope C NB ex).env).map (·.2)=assign (.Name x px) (blockOf X s H scope C NB ex).env::(assignEach es (blockOf X s H scope C NB ex).env).map (·.2):=by intro _ _ _ _;rfl):
 mS X scope NB μ (.Name x px::es) (λ ds ρ=>match ds with|d::r=>dw r (ρ.set i (some (.val d)))|[]=>.bad):=by
 obtain⟨gr,r1,r2,r3⟩:=hr;refine⟨cR (QO i) gr,λ s H C ex=>TN (S4 (X:=blockOf X s H scope C NB ex) hN hi (.inl hx) (.inr hx)) (r1 s H C ex) (hs s H C ex),fX (λ v σ H Q Q' hq h=>hq _ _ h) (mQ hm) r2,λ P0 P σ H Q ρ vs ds E hv h=>?_⟩;cases hv with
 |nil=>exact h.elim
 |cons h1 h2=>exact⟨_,_,rfl,r3 P0 P _ H Q _ _ _ (E.Wi h1) h2 h⟩
def NC (hc:X.calm=true)(h:mS X scope NB μ es dw)(hn:∀s H C ex,(assignEach es (blockOf X s H scope C NB ex).env).length=n:=by intro _ _ _ _;rfl)(aH:∀s H C ex,(assignEach es (blockOf X s H scope C NB ex).env).findIdx? (·.1)=none:=by intro _ _ _ _;rfl):
 tQ X scope NB μ (.Tuple es k pt) (λ d ρ=>match d with | .tup ds=>if ds.length=n then dw ds ρ else .bad|_=>.bad):=by
 obtain⟨t,a1,a2,a3⟩:=h;refine⟨rZ X.K n t,λ s H C ex=>cS (X:=blockOf X s H scope C NB ex) hc (a1 s H C ex) (hn s H C ex) (aH s H C ex),(uA a2).keeps,λ P0 P σ H Q ρ v d E hv h=>?_⟩;cases hv with
 | @tup a xs ds hs hl =>
  dsimp only at h;by_cases hd:ds.length=n
  ·rw[if_pos hd] at h;exact⟨a,xs,rfl,Fj.of (An hs).2,by rw[hl.length];exact hd,a3 P0 P σ H Q ρ xs ds E hl h⟩
  ·rw[if_neg hd] at h;exact h.elim
 |_=>exact h.elim
end
section
variable {fp:Ae->M (List Nat)}{i:Nat}{te:TE}
def mT:Mu X.K WX (λ xs H Q=>∃i j,xs=[.int i,.int j]/\Q (.int (if j<i then j else i)) H) (λ ds=>match ds with | [.int i,.int j]=>.ok (.int (if j<i then j else i)) | _=>.bad):=by
 intro P H ds vs Q ht hl h;dsimp only at h;split at h
 ·obtain⟨v,w,rfl,h1,h2⟩:=hl.two;exact⟨_,_,by rw[h1.int_inv,h2.int_inv],h _ H (Ah.refl H) (.int _)⟩
 ·exact h.elim
def mU (hc:X.calm=true)(hg:Gl X "min")(hm:X.mg "min" = none)(ha:DE X WX c a f)(xw:DE X WX c b g)(hb:bootBuiltins "min" = some (.builtin "min"):=by decide +kernel)(hs: ~~~(starEach [a,b] X.env=(false,eval a X.env)::starEach [b] X.env))(a6: ~~~(starEach [b] X.env=[(false,eval b X.env)]))(hpl: ~~~((backTo pos (starEach [b] X.env)).any (·.1)=false)):
 DE X WX c (.Call (.Name "min" p) [a,b] [] pos) (λ ρ=>((f ρ).bind λ d=>((g ρ).bind λ d2=>(M.ok []).bind λ ds=>.ok (d2::ds)).bind λ ds=>.ok (d::ds)).bind (λ ds=>match ds with|[.int i,.int j]=>.ok (.int (if j<i then j else i))|_=>.bad)):=
 Kc (YO hc) mT hg hm hb (A2 ha (A2 xw A7 a6) hs) (he:=hs) (hpl:=hpl)
end
abbrev WP (m:M Out)(nx:Ae->Prop)(rt:Out->Prop)(ex:Str->Prop):Prop:=match m with
 | .ok (.next ρ)=>nx ρ
 | .ok o=>rt o
 | .ex x=>ex x
 | .bad=>False
section
variable {nx:Ae->Prop}{rt:Out->Prop}{ex:Str->Prop}{m:M Out}{k:Ae->M Out}
def B7 (h:m=.ok (.next ρ'))(hn:nx ρ'):WP m nx rt ex:=by rw[h];exact hn
def WP.mono (h:WP m nx rt ex)(h1:∀ρ,nx ρ->vo ρ)(h2:∀o,rt o->vp o)(h3:∀x,ex x->oe x):WP m vo vp oe:=by
 cases m with
 |bad=>exact h
 |ex x=>exact h3 x h
 |ok o =>
  cases o with
  |next ρ=>exact h1 ρ h
  |ret d|brk d|cont d|CO d|FU d ρ=>exact h2 _ h
def wp_seq (h:WP m (λ ρ=>WP (k ρ) nx rt ex) rt ex):WP (eY m k) nx rt ex:=by
 cases m with
 |bad|ex x=>exact h
 |ok o =>
  cases o with
  |next ρ|ret d|brk d|cont d|CO d|FU d ρ=>exact h
def wp_step (h:m=.ok (.next ρ'))(hk:WP (k ρ') nx rt ex):WP (eY m k) nx rt ex:=by rw[h];exact hk
def BA (h:WP m I rt ex)(hk:∀ρ,I ρ->WP (k ρ) nx rt ex):WP (eY m k) nx rt ex:=wp_seq (h.mono hk (λ _ h=>h) λ _ h=>h)
abbrev inLoop (I:Ae->Prop)(nx:Ae->Prop)(rt:Out->Prop)(o:Out):Prop:=match o with
 | .cont ρ=>I ρ
 | .brk ρ=>nx ρ
 |o=>rt o
def Bt (I:Nat->Ae->Prop)(h0:I 0 ρ)(step:∀i d ρ,ds[i]?=some d->I i ρ->∃ρ1,gt d ρ=.ok ρ1/\WP (gb ρ1) (I (i+1)) (inLoop (I (i+1)) nx rt) ex)(done:∀ρ,I ds.length ρ->nx ρ):WP (forM gt gb ds ρ) nx rt ex:=by
 have key:∀(n i:Nat) (ρ:Ae),i+n=ds.length->I i ρ->WP (forM gt gb (ds.drop i) ρ) nx rt ex:=by
  intro n;induction n with
  |zero =>
   intro i ρ hi h;have e:i=ds.length:=by omega
   subst e;rw[zcm,forM];exact done ρ h
  |succ n ih =>
   intro i ρ hi h;have ag:i<ds.length:=by omega
   obtain⟨ρ1,h1,h2⟩:=step i ds[i] ρ (za6 ag) h;rw[FX ag,forM,h1];dsimp only;cases q:gb ρ1 with
   |bad|ex x=>rw[q] at h2;exact h2
   |ok o =>
    rw[q] at h2;cases o with
    |next ρ2=>exact ih (i+1) ρ2 (by omega) h2
    |ret d|CO d|FU d ρ2=>exact h2
    |cont ρ2=>exact ih (i+1) ρ2 (by omega) h2
    |brk ρ2=>exact h2
 have:=key ds.length 0 ρ (by omega) h0;rw[zdb] at this;exact this
def Ks {α:Type}{c}{b}{lt}(J:α->Ae->Prop){x}(hx:Acc lt x)(h0:J x ρ)(step:∀x ρ,J x ρ->(c ρ=.ok false/\nx ρ)\/(c ρ=.ok true/\WP (b ρ) (λ ρ2=>∃y,lt y x/\J y ρ2) (inLoop (λ ρ2=>∃y,lt y x/\J y ρ2) nx rt) ex)):WP (Mv c b ρ) nx rt ex:=by
 have key:∀x,Acc lt x->∀ρ,J x ρ->∃n,AB c b n ρ≠.bad/\WP (AB c b n ρ) nx rt ex:=by
  intro x hx;induction hx with
  |intro x _ ih =>
   intro ρ h;rcases step x ρ h with ⟨h1,h2⟩|⟨h1,h2⟩
   ·refine⟨1,?_,?_⟩
    ·rw[AB,h1];intro z;cases z
    ·rw[AB,h1];exact h2
   ·cases q:b ρ with
    |bad=>rw[q] at h2;exact h2.elim
    |ex y =>
     rw[q] at h2;refine⟨1,?_,?_⟩
     ·rw[AB,h1];dsimp only;rw[q];intro z;cases z
     ·rw[AB,h1];dsimp only;rw[q];exact h2
    |ok o =>
     rw[q] at h2;have go:∀ρ2,(∃y,lt y x/\J y ρ2)->(∀n,AB c b (n+1) ρ=AB c b n ρ2)->∃n,AB c b n ρ≠.bad/\WP (AB c b n ρ) nx rt ex:=by
      rintro ρ2 ⟨y,hy,hJ⟩ e;obtain⟨n,h3,h4⟩:=ih y hy ρ2 hJ;exact⟨n+1,by rw[e];exact h3,by rw[e];exact h4⟩
     cases o with
     |next ρ2|cont ρ2=>exact go ρ2 h2 λ n=>by rw[AB,h1];dsimp only;rw[q]
     |brk ρ2 =>
      refine⟨1,?_,?_⟩
      ·rw[AB,h1];dsimp only;rw[q];intro z;cases z
      ·rw[AB,h1];dsimp only;rw[q];exact h2
     |ret d =>
      refine⟨1,?_,?_⟩
      ·rw[AB,h1];dsimp only;rw[q];intro z;cases z
      ·rw[AB,h1];dsimp only;rw[q];exact h2
     |CO d =>
      refine⟨1,?_,?_⟩
      ·rw[AB,h1];dsimp only;rw[q];intro z;cases z
      ·rw[AB,h1];dsimp only;rw[q];exact h2
     |FU d ρ2 =>
      refine⟨1,?_,?_⟩
      ·rw[AB,h1];dsimp only;rw[q];intro z;cases z
      ·rw[AB,h1];dsimp only;rw[q];exact h2
 obtain⟨n,h1,h2⟩:=key x hx ρ h0;unfold Mv;have hx:∃n,AB c b n ρ≠.bad:=⟨n,h1⟩;rw[dif_pos hx];have e:AB c b (za7 hx) ρ=AB c b n ρ:=by
  have a:=CZ (za1 hx) n;have b':=CZ h1 (za7 hx);rw[Nat.add_comm] at b';rw[<-a,<-b']
 rw[e];exact h2
abbrev rtT (Q:OT->Prop)(o:Out):Prop:=match o with
 | .ret d=>Q (.sh d)
 | .CO c=>∃t,yR c=.ok t/\Q t
 |_=>False
def Kt (h:WP m (λ _=>Q (.sh .AL)) (rtT Q) (λ _=>False)):∃t,Zi m=.ok t/\Q t:=by
 cases m with
 |bad|ex x=>exact h.elim
 |ok o =>
  cases o with
  |next ρ|ret d=>exact⟨_,rfl,h⟩
  |CO c=>exact h
  |FU c ρ|brk ρ|cont ρ=>exact h.elim
def B1 (h:WP m (λ _=>OT.sh .AL=t) (rtT (·=t)) (λ _=>False)):Zi m=.ok t:=by
 obtain⟨u,h1,h2⟩:=Kt (Q:=(·=t)) h;rw[h1,h2]
abbrev rtD (Q:D->Prop)(o:Out):Prop:=match o with
 | .ret d=>Q d
 | .CO c=>∃t,clD c=.ok t/\Q t
 |_=>False
def yZ (h:WP m (λ _=>Q .AL) (rtD Q) (λ _=>False)):∃t,fin m=.ok t/\Q t:=by
 cases m with
 |bad|ex x=>exact h.elim
 |ok o =>
  cases o with
  |next ρ|ret d=>exact⟨_,rfl,h⟩
  |CO c=>exact h
  |FU c ρ|brk ρ|cont ρ=>exact h.elim
def zA (h:WP m (λ _=>D.AL=d) (rtD (·=d)) (λ _=>False)):fin m=.ok d:=by
 obtain⟨u,h1,h2⟩:=yZ (Q:=(·=d)) h;rw[h1,h2]
end
section
variable {d:D}{ds es:List D}{o:Option Cl}{i n:Nat}{p:Option Nat}{t u:OT}{π:List Nat}{b:Bool}{ks vs:List D}{ts:List OT}{m:M D}
def zB:rv 0 (some (.val d)::ρ)=.ok d:=rfl
def zC:rv (i+1) (o::ρ)=rv i ρ:=rfl
abbrev Us (f:Ae->Ae)(m:M Out):M Out:=match m with
 | .ok (.next ρ)=>.ok (.next (f ρ))
 |m=>m
def Ku {f}:Us f (.ok (.next ρ))=.ok (.next (f ρ)):=rfl
def Kv:Uo 0 (some (.own ds)::ρ)=.ok []:=rfl
def Kw:Uo 0 (some (.ow (.N5 n ds))::ρ)=.ok []:=rfl
def IQ:Uo 0 (some (.ow (.tree p t))::ρ)=.ok []:=by unfold Uo Wt;simp[treeOf]
def XU:Uo (i+1) (o::ρ)=Uo i ρ:=rfl
def XW:Wt 0 (some (.own ds)::ρ) π=M4 (.lst (ds.map .sh)) π:=rfl
def XX:Wt 0 (some (.ow (.N5 n ds))::ρ) π=M4 (.lst (ds.map .sh)) π:=rfl
def OO:Wt 0 (some (.ow (.tree p t))::ρ) π=M4 t π:=rfl
def ND:Tz 0 (some (.own ds)::ρ) []=.ok ds:=by unfold Tz;simp[XW,D1]
def NE:Tz 0 (some (.ow (.N5 n ds))::ρ) []=.ok ds:=by unfold Tz;simp[XX,D1]
def Kx:Tz 0 (some (.ow (.tree p (.lst (ds.map .sh))))::ρ) []=.ok ds:=by unfold Tz;simp[OO,D1]
def mV:Tz (i+1) (o::ρ) π=Tz i ρ π:=rfl
def IR:Dm 0 (some (.own ds)::ρ) []=.ok (ds.map .sh):=by unfold Dm;simp[XW]
def IS:Dm 0 (some (.ow (.N5 n ds))::ρ) []=.ok (ds.map .sh):=by unfold Dm;simp[XX]
def Gu:Dm 0 (some (.ow (.tree p (.lst ts)))::ρ) []=.ok ts:=by unfold Dm;simp[OO]
def SF:Dm (i+1) (o::ρ) π=Dm i ρ π:=rfl
def Dv:GY 0 (some (.ow (.tree p (.BG b ks (vs.map .sh))))::ρ) []=.ok (b,ks,vs):=by unfold GY;simp[OO,D1]
def SG:GY (i+1) (o::ρ) π=GY i ρ π:=rfl
def Ky:HP 0 (some (.own ds)::ρ) [] u=.ok (.next (some (toCl none u)::ρ)):=by unfold HP;simp[treeOf]
def Kz:HP 0 (some (.ow (.N5 n ds))::ρ) [] u=.ok (.next (some (toCl (some n) u)::ρ)):=by unfold HP;simp[treeOf]
def IT:HP 0 (some (.ow (.tree p t))::ρ) π u=.ok (.next (some (toCl p (EJ t π u))::ρ)):=by unfold HP;simp[treeOf]
def XY:HP (i+1) (o::ρ) π u=Us (o::·) (HP i ρ π u):=by
 unfold HP Us;simp only[zb1,zaf];split
 ·rename_i c e;split<;>simp_all
 ·simp_all
def KA:Z7 0 (some (.own ds)::ρ) (.ok d)=if ds.length<1000 then .ok (.next (some (.own (ds++[d]))::ρ)) else .bad:=rfl
def XZ:Z7 (i+1) (o::ρ) m=Us (o::·) (Z7 i ρ m):=by
 unfold Z7;rw[zb1];cases q:ρ[i]? with
 |none=>rfl
 |some oo =>
  cases oo with
  |none=>rfl
  |some c =>
   cases c with
   |own ds =>
    cases m with
    |ok d =>
     simp only[M.A9,zaf];by_cases h:ds.length<1000
     ·rw[if_pos h,if_pos h];rfl
     ·rw[if_neg h,if_neg h];rfl
    |ex x|bad=>rfl
   |val d|ow w=>rfl
def KC:Ze 0 (some (.own ds)::ρ) (.ok (.int j)) (.ok d)=if 0<=j/\j.toNat<=ds.length/\ds.length<1000 then .ok (.next (some (.own (ds.take j.toNat++d::ds.drop j.toNat))::ρ)) else .bad:=rfl
def Y0:Ze (i+1) (o::ρ) m m2=Us (o::·) (Ze i ρ m m2):=by
 unfold Ze;rw[zb1];cases q:ρ[i]? with
 |none=>rfl
 |some oo =>
  cases oo with
  |none=>rfl
  |some c =>
   cases c with
   |own ds =>
    cases m with
    |ok d =>
     cases m2 with
     |ok d2 =>
      simp only[M.A9,zaf];cases d with
      |int j =>
       dsimp only;by_cases h:0<=j/\j.toNat<=ds.length/\ds.length<1000
       ·rw[if_pos h,if_pos h];rfl
       ·rw[if_neg h,if_neg h];rfl
      |_=>rfl
     |ex x|bad=>rfl
    |ex x|bad=>rfl
   |val d|ow w=>rfl
def KD:Ws 0 (some (.val d)::ρ)=.ok (.ret d):=rfl
def KG:Ws 0 (some (.own ds)::ρ)=.ok (.CO (.own ds)):=rfl
def NF:Ws 0 (some (.ow w)::ρ)=.ok (.CO (.ow w)):=rfl
def Y1:Ws (i+1) (o::ρ)=Ws i ρ:=rfl
def abI:aa7 i ρ π=match Wt i ρ π with | some (.sh d)=>.ok d | _=>.bad:=rfl
def mW:fN (i+1) (o::ρ)=o::fN i ρ:=by
 unfold fN;simp only[zb1,zaf];split<;>simp_all
def mX {c}:fN 0 (some c::ρ)=some (N6 c)::ρ:=rfl
def KH:N6 (.val d)=.val d:=rfl
def KI:N6 (.own ds)=.val (.lst ds):=rfl
def KJ:N6 (.ow (.N5 n ds))=.val (.lst ds):=rfl
def NG:N6 (.ow (.tree p t))=.val (er t):=rfl
def JL:er (.BG b ks (vs.map .sh))=.BG b ks vs:=by rw[er,OJ]
def JM:er (.lst (ds.map .sh))=.lst ds:=by rw[er,OJ]
def Rh:er (.sh d)=d:=rfl
def muC:AV (none::l) ρ=none::AV l ρ:=rfl
def muN:AV [] ρ=[]:=rfl
def mY:AV (some i::l) ρ=(match ρ[i]? with | some (some (.val d))=>some (.val d) | _=>none)::AV l ρ:=rfl
def mZ {α:Type}{x:α}{y}:(if ([]:List D).length<=1000 then x else y)=x:=if_pos (by show 0<=1000;decide)
def nA {α:Type}{x:α}{y}{a:D}:(if [a].length<=1000 then x else y)=x:=if_pos (by show 1<=1000;decide)
def nB {α:Type}{x y:α}{a b:D}:(if [a,b].length<=1000 then x else y)=x:=if_pos (by show 2<=1000;decide)
def nE {α:Type}{x y:α}{a b c:D}:(if [a,b,c].length<=1000 then x else y)=x:=if_pos (by show 3<=1000;decide)
def nF {α:Type}{x:α}{y}{a b c}:(if [a,b,c,d].length<=1000 then x else y)=x:=if_pos (by show 4<=1000;decide)
def toCl_nil:toCl none (.lst [])=.own []:=rfl
def BR {α:Type}{gt:D->Ae->M Ae}{ft:Ae->M Bool}{fe:Ae->M D}{g:α->D}(p:α->Bool)(f:α->D):∀ {l:List α},(∀x∈l,∃ρ1,gt (g x) ρ=.ok ρ1/\ft ρ1=.ok (p x)/\(p x=true->fe ρ1=.ok (f x)))->B9 gt ft fe (l.map g) ρ=.ok ((l.filter p).map f)
 |[],_=>rfl
 |x::r,h=>by
  obtain⟨ρ1,h1,h2,h3⟩:=h x za3;have ih:=BR (gt:=gt) (ft:=ft) (fe:=fe) (g:=g) p f (l:=r) λ y hy=>h y (za4 _ hy);rw[za5,B9,h1];dsimp only;rw[h2];dsimp only;rw[List.filter_cons];cases hp:p x with
  |true =>
   rw[if_pos rfl,h3 hp];dsimp only;rw[ih];simp
  |false=>simp[ih]
def C9 {α:Type}{g}(f:α->D){l:List α}(h:∀x∈l,∃ρ1,gt (g x) ρ=.ok ρ1/\ft ρ1=.ok true/\fe ρ1=.ok (f x)):B9 gt ft fe (l.map g) ρ=.ok (l.map f):=by
 have:=BR (gt:=gt) (ft:=ft) (fe:=fe) (ρ:=ρ) (g:=g) (λ _=>true) f (l:=l) λ x hx=>by
  obtain⟨ρ1,h1,h2,h3⟩:=h x hx;exact⟨ρ1,h1,h2,λ _=>h3⟩
 rw[this,List.filter_eq_self.mpr (λ _ _=>rfl)]
def BB {α:Type}{g}{l:List α}(h:(l.map g)[i]?=some d):∃x,l[i]?=some x/\d=g x:=by
 rw[zan] at h;cases q:l[i]? with
 |none=>rw[q] at h;cases h
 |some x=>rw[q] at h;cases h;exact⟨x,rfl,rfl⟩
def SH:mK (.lst (ds.map .sh))=.ok ds:=by unfold mK;simp[D1,mJ]
def IU {α:Type}{x:α}:mJ (some x)=.ok x:=rfl
def NH:Sy i ρ (.sh d)=.ok (.next (ρ.set i (some (.val d)))):=rfl
def KL:Sy i ρ (.lst ts)=.ok (.next (ρ.set i (some (toCl none (.lst ts))))):=rfl
def KN:Sy i ρ (.tup ts)=.ok (.next (ρ.set i (some (.ow (.tree none (.tup ts)))))):=rfl
def KO:Sy i ρ (.BG b ks ts)=.ok (.next (ρ.set i (some (.ow (.tree none (.BG b ks ts)))))):=rfl
def KQ:Sy i ρ (.ins x ns ts)=.ok (.next (ρ.set i (some (.ow (.tree none (.ins x ns ts)))))):=rfl
def NI:Zj (.sh d)=.ok (.ret d):=rfl
def KR:Zj (.lst ts)=.ok (.CO (.ow (.tree none (.lst ts)))):=rfl
def KS:Zj (.tup ts)=.ok (.CO (.ow (.tree none (.tup ts)))):=rfl
def KU:Zj (.BG b ks ts)=.ok (.CO (.ow (.tree none (.BG b ks ts)))):=rfl
def Ut {α:Type}{f}(h:∀x,Ki (f x)=true):∀l:List α,Kj (l.map f)=true
 |[]=>by simp[Kj]
 |x::r=>by rw[za5,Kj,h x,Ut h r];rfl
def Uu:∀ds:List D,GW (ds.map .sh)=Kj ds
 |[]=>by simp[Kj,GW]
 |d::r=>by rw[za5,GW,HI,Uu r,Kj]
def uB (h:Ki d=true):VL (.ok (.sh d))=.ok (.sh d):=by unfold VL;simp[HI,h]
def nG (h:Kj ds=true):VL (.ok (.lst (ds.map .sh)))=.ok (.lst (ds.map .sh)):=by unfold VL;simp[HI,Uu,h]
def nI {i}:Ki (.int i)=true:=by simp[Ki]
def Uv:Fi (.lst ds)=.ok (!ds.isEmpty):=rfl
def uC {a:Int}{m}(h0:0<=a)(h1:a<m)(s0:1<=s)(s1:s<m):(a+s)%m≠a:=by
 by_cases h:a+s<m
 ·rw[Int.emod_eq_of_lt (by omega) h];omega
 ·have e:(a+s)%m=(a+s-m)%m:=by rw[Int.sub_emod_right]
  rw[e,Int.emod_eq_of_lt (by omega) (by omega)];omega
def NJ (i j:Int):eQ k (.int i) (.int j)=.ok (.bl (decide (i=j))):=by
 rw[Oy (Ck _) (Ck _)];simp only[Bv,Bool.beq_eq_decide_eq]
def NK (i j:Int):XG k (.int i) (.int j)=.ok (.bl (!decide (i=j))):=by
 rw[Su (Ck _) (Ck _)];simp only[Bv,Bool.beq_eq_decide_eq]
def KW {i}:tL (.int i) (.int j)=.ok (.int (i+j)):=rfl
def KY {i}:yE (.int i) (.int j)=.ok (.int (i-j)):=rfl
def NM {i}:dLt (.int i) (.int j)=.ok (.bl (decide (i<j))):=rfl
def NO {i}:dLe (.int i) (.int j)=.ok (.bl (decide (i<=j))):=rfl
def NP {i}:dGt (.int i) (.int j)=.ok (.bl (decide (j<i))):=rfl
def NQ {i}:dGe (.int i) (.int j)=.ok (.bl (decide (j<=i))):=rfl
def NR {i}:asI (.int i)=.ok (some i):=rfl
def KZ:Wg [.lst ds]=.ok (.int ds.length):=rfl
def L0:Wg [.tup ds]=.ok (.int ds.length):=rfl
def ite_tt {α:Type}{x:α}{y}:(if true=true then x else y)=x:=rfl
def ite_ff {α:Type}{x:α}{y}:(if false=true then x else y)=y:=rfl
def fY {lo}(h:vX lo hi x=.ok (.lst ds)):mP lo hi x=.ok (.lst (ds.map .sh)):=by
 unfold vX at h;unfold mP;cases x with
 |lst xs=>dsimp only at h ⊢;injection h with h;injection h with h;rw[h]
 |_=>cases h
def Uw (xs:List D)(k:Nat):mP (some (k:Int)) none (.lst xs)=.ok (.lst ((xs.drop k).map .sh)):=fY (fC xs k)
def nJ (xs:List D)(a b:Nat):mP (some (a:Int)) (some (b:Int)) (.lst xs)=.ok (.lst (((xs.drop a).take (b-a)).map .sh)):=fY (lT xs a b)
def L3:J8 (.lst ds)=.ok (.lst (ds.map .sh)):=rfl
def L4:J8 (.tup ds)=.ok (.lst (ds.map .sh)):=rfl
def IV {ns:List Int}:yX [.lst (ns.map D.int)]=.ok (.int ns.sum):=by unfold yX;dsimp only;rw[EB]
def IW:Je T (.lst ds)=.ok (.bl (Fg T (.lst ds))):=rfl
def IX:Je T (.tup ds)=.ok (.bl (Fg T (.tup ds))):=rfl
def IY:Je T (.int k)=.ok (.bl (Fg T (.int k))):=rfl
def IZ:Je T .AL=.ok (.bl (Fg T .AL)):=rfl
def L5:Je T (.bl k)=.ok (.bl (Fg T (.bl k))):=rfl
def J0:Je T (.str k)=.ok (.bl (Fg T (.str k))):=rfl
def J1:Je T (.BG b ks vs)=.ok (.bl (Fg T (.BG b ks vs))):=rfl
def Y2:Fg "list" (.lst ds)=true:=rfl
def Y3:Fg "tuple" (.tup ds)=true:=rfl
def Y4:Fg "int" (.int k)=true:=rfl
def Y5:Fg "bool" (.int k)=false:=rfl
def Y6:Fg "dict" (.BG b ks vs)=true:=rfl
def J2 {ns:List Int}:Km neg (.int k) (.lst (ns.map D.int))=.ok (.bl (if neg then !ns.contains k else ns.contains k)):=by
 unfold Km dIn;dsimp only;rw[EB]
abbrev vO (s:Option D):Option Cl:=s.map .val
def NS:Fh (vO s::ρ)=vO s::Fh ρ:=by cases s<;>rfl
end
abbrev Wy (x:Int):List Int->List Int
 |[]=>[x]
 |y::r=>if x<=y then x::y::r else y::Wy x r
abbrev HQ:List Int->List Int
 |[]=>[]
 |x::r=>Wy x (HQ r)
def M6 (x:Int):∀l:List Int,(Wy x l).Perm (x::l)
 |[]=>.refl _
 |y::r=>by
  unfold Wy;split
  ·exact .refl _
  ·exact ((M6 x r).cons y).trans (.swap x y r)
def EQ:∀l:List Int,(HQ l).Perm l
 |[]=>.refl _
 |x::r=>(M6 x (HQ r)).trans ((EQ r).cons x)
def Mw (x:Int):∀l:List Int,l.Pairwise (·<=·)->(Wy x l).Pairwise (·<=·)
 |[],_=>by simp[Wy]
 |y::r,h=>by
  unfold Wy;have hy:=List.pairwise_cons.mp h;split
  ·rename_i cz;exact List.pairwise_cons.mpr ⟨λ z hz=>by
    rcases zab.mp hz with rfl|hz
    ·exact cz
    ·exact Int.le_trans cz (hy.1 z hz),h⟩
  ·rename_i cz;exact List.pairwise_cons.mpr ⟨λ z hz=>by
    rcases zab.mp ((M6 x r).mem_iff.mp hz) with rfl|hz
    ·omega
    ·exact hy.1 z hz,Mw x r hy.2⟩
def Gv:∀l:List Int,(HQ l).Pairwise (·<=·)
 |[]=>.nil
 |x::r=>Mw x _ (Gv r)
def HR:∀ {a b:List Int},a.Perm b->a.Pairwise (·<=·)->b.Pairwise (·<=·)->a=b
 |[],b,hp,_,_=>(List.nil_perm.mp hp).symm
 |x::r,[],hp,_,_=>by have:=hp.length_eq;simp at this
 |x::r,y::t,hp,ha,hb=>by
  have bJ:=List.pairwise_cons.mp ha;have a9:=List.pairwise_cons.mp hb;have e:x=y:=by
   have h1:x∈y::t:=hp.mem_iff.mp (za3 ..);have h2:y∈x::r:=hp.mem_iff.mpr (za3 ..);rcases zab.mp h1 with e|h1
   ·exact e
   rcases zab.mp h2 with e|h2
   ·exact e.symm
   have:=bJ.1 _ h2;have:=a9.1 _ h1;omega
  subst e;rw[HR (List.Perm.cons_inv hp) bJ.2 a9.2]
def L6:∀ {us:List Value}{ns:List Int},IntsAre us ns->Vals (ns.map V.int) us
 |_,_,.nil=>.nil
 |_,_,.cons n t h=>.cons ⟨t,rfl⟩ (L6 h)
def OP {K}:∀l:List Int,Ak K H (l.map V.int) (l.map D.int)
 |[]=>.nil
 |x::r=>.cons (.int _) (OP r)
section
variable {te:TE}
abbrev aba (X:Cx)(te:TE):TE:=λ σ H Q=>te σ H λ x H1=>∃p ns,x=.ref p/\Dr X.K H1 p (List.map V.int ns)/\ns.length<64/\∀r,H1 r=none->Q (.ref r) (upd H1 r (.lst ((HQ ns).map V.int)))
def Zp (hc:X.calm=true)(hg:Gl X "sorted")(hm:X.mg "sorted" = none)(he:PE X e te)(hv:bootBuiltins "sorted" = some (.builtin "sorted"):=by decide +kernel)(hs: ~~~(starEach [e] X.env=[(false,eval e X.env)])):
 PE X (.Call (.Name "sorted" p) [e] [] pos) (aba X te):=by
 intro pins s σ H Q I h;refine wpAny_Call_Name_kw (D5 I hg hm hv ?_);refine PyProof.Rows.callWith_builtin1 ?_ hs;rw[hs];refine zc5 (Bi (he pins s σ H _ I h) λ u s1 zz=>?_);obtain⟨x,H1,I1,r1,q1⟩:=zz;obtain⟨q,ns,rfl,hq,xx,h⟩:=q1;cases r1;refine zcb ?_;obtain⟨aa,r',pl,hz⟩:=I1.list hq;have hi:=intsAre_of r';have bK:=r'.length;rw[za2] at bK;refine sorted_ints pl.isList hi (by omega) λ out di b1 b2 b3=>?_;obtain⟨c',bj⟩:=sortedAll_at s1.heap aa out;have e:di=HQ ns:=HR (b2.trans (EQ ns).symm) b3 (Gv ns);subst e;refine⟨.ref _,_,I1.laid (t':=s1.toks) (o:=.lst ((HQ ns).map V.int)) (λ b o e=>sortedAll_old e) (Nat.le_succ _) ⟨?_,out.toList,c',L6 b1,by simpa using bj⟩,rfl,h _ (I1.Aw.fresh (Nat.le_succ _))⟩;rw[za2,(EQ ns).length_eq];exact zbp (AA (by omega))
abbrev nK (d:D):M OT:=match d with
 | .lst xs=>(match CY xs with|some ns=>if ns.length<64 then .ok (.lst (((HQ ns).map .int).map .sh)) else .bad|none=>.bad)
 |_=>.bad
def Zq (h:ns.length<64):nK (.lst (ns.map .int))=.ok (.lst (((HQ ns).map .int).map .sh)):=by
 unfold nK;dsimp only;rw[EB];dsimp only;rw[if_pos h]
def Zr (hc:X.calm=true)(hg:Gl X "sorted")(hm:X.mg "sorted" = none)(he:DE X WX true e f)(hv:bootBuiltins "sorted" = some (.builtin "sorted"):=by decide +kernel)(hs: ~~~(starEach [e] X.env=[(false,eval e X.env)])):
 DN X WX (.Call (.Name "sorted" p) [e] [] pos) (λ ρ=>(f ρ).bind nK):=by
 obtain⟨te,e1,e2⟩:=he;refine⟨_,Zp hc hg hm e1 hv hs,λ P0 P σ H Q ρ E h=>?_⟩;refine e2 P0 P σ H _ ρ E ?_;dsimp only at h;refine XD h λ d h=>?_;intro v H1 s1 hv;unfold nK at h;split at h
 ·rename_i xs;split at h
  ·rename_i ns eb;have:=EC eb;subst this;split at h
   ·rename_i hl;cases hv with
    |lst hs hh =>
     have:=Dt hh;subst this;exact⟨_,ns,rfl,hs.B8,hl,h.J8 s1 (OP _)⟩
   ·exact h.elim
  ·exact h.elim
 ·exact h.elim
abbrev nL (d k:D):M OT:=match k with
 | .int j=>if 0<=j/\j.toNat<=1000 then .ok (.lst ((zae j.toNat d).map .sh)) else .bad
 |_=>.bad
def L7 {n:Nat}(h:n<=1000):nL d (.int (n:Int))=.ok (.lst ((zae n d).map .sh)):=by
 unfold nL;dsimp only;rw[if_pos ⟨by omega,by omega⟩,zbh]
def SI (ha:DE X WX true a f)(hb:DE X WX true b g)(aH: ~~~(starEach [a] X.env=[(false,eval a X.env)])):
 DN X WX (.BinOp (.List [a] rq) .Mult b pos) (λ ρ=>(f ρ).bind λ d=>(g ρ).bind λ k=>nL d k):=by
 obtain⟨ta,a1,a2⟩:=ha;obtain⟨tb,b1,b2⟩:=hb;refine⟨_,cW sY (W3 (Bd a1 Cv aH)) b1,λ P0 P σ H Q ρ E h=>?_⟩;dsimp only at h;refine a2 P0 P σ H _ ρ E ?_;refine XD h λ d h=>?_;intro v H1 s1 hv;have E1:=E.same s1;refine⟨zbp (AA (by simp)),λ p hp=>?_⟩;have s2:Ah H1 (upd H1 p (.lst [v])):=AH hp _;have E2:=E1.same s2;refine b2 P0 P σ _ _ ρ E2 ?_;cases q2:g ρ with
 |bad=>rw[q2] at h;exact h
 |ex x=>rw[q2] at h;exact λ H' s3=>h H' ((s1.trans s2).trans s3)
 |ok k =>
  rw[q2] at h;simp only[M.A9] at h;unfold nL at h;intro w H3 s3 hw;cases k with
  |int j =>
   dsimp only at h;by_cases hj:0<=j/\j.toNat<=1000
   ·rw[if_pos hj] at h;cases hw;refine⟨p,j,[v],rfl,rfl,s3 _ _ Am,by omega,by omega,zbp (AA (by simp;omega)),?_⟩;rw[R7];exact h.J8 ((s1.trans s2).trans s3) (Uj ((hv.mono s2.del).mono s3.del) j.toNat)
   ·rw[if_neg hj] at h;exact h.elim
  |_=>exact h.elim
end
abbrev nM (f:Str):List Str->List D->Option D
 |n::ns,d::ds=>if f==n then some d else nM f ns ds
 |_,_=>none
def Ux {K:za0}{H:Hp}{f:Str}:∀ {fs:List (Str×V)}{ds:List D}{d:D},Ak K H (fs.map zbw) ds->nM f (fs.map zb4) ds=some d->∃v,fs.lookup f=some v/\BV K H v d
 |[],ds,d,_,h=>by simp[nM] at h
 |(n,v)::fs,_,d,.cons hv ht,h=>by
  rw[za5,nM] at h;rw[zc8];cases q:f==n with
  |true=>rw[q,if_pos rfl] at h;cases h;exact⟨v,rfl,hv⟩
  |false=>rw[q,if_neg (by simp)] at h;exact Ux ht h
def OQ {K:za0}{H:Hp}{f:Str}:∀ {fs:List (Str×V)}{ds:List D},Ak K H (fs.map zbw) ds->nM f (fs.map zb4) ds=none->fs.lookup f=none
 |[],ds,_,h=>rfl
 |(n,v)::fs,_,.cons hv ht,h=>by
  rw[za5,nM] at h;rw[zc8];cases q:f==n with
  |true=>rw[q,if_pos rfl] at h;cases h
  |false=>rw[q,if_neg (by simp)] at h;exact OQ ht h
structure Jf (K:za0)(x f:Str):Prop where
 ex:∃C,zb5 K mainGlobals x=some (some (.ref C))/\YS K C/\Jz K C f
abbrev N8 (cs:List Str)(f:Str)(d:D):M D:=match d with
 | .ins x ns ds=>if x∈cs then (match nM f ns ds with|some e=>.ok e|none=>.bad) else .bad
 |_=>.bad
section
variable {fs:Ae->M (List D)}{te:TE}
def Dw (cs:List Str){fl}(i6:∀x∈cs,Jf X.K x fl)(ha:DE X WX c a f)(hb: ~~~(attributeBase a fl X.env (eval a X.env)=eval a X.env)):DE X WX c (.Attribute a fl pos) (λ ρ=>(f ρ).bind (N8 cs fl)):=by
 obtain⟨ta,a1,a2⟩:=ha;refine⟨_,sN a1 hb,λ P0 P σ H Q ρ E h=>?_⟩;dsimp only at h;refine a2 P0 P σ H _ ρ E ?_;cases e:f ρ with
 |bad|ex x=>rw[e] at h;exact h
 |ok d =>
  rw[e] at h;simp only[M.A9] at h;intro v H1 s1 hv;unfold N8 at h;split at h
  ·rename_i x ns ds;split at h
   ·rename_i hx;split at h
    ·rename_i d' el;cases hv with
     |ins hn ha hl =>
      obtain⟨C,bq,hc,b7⟩:=(i6 x hx).ex;rw[hn] at bq;cases bq;obtain⟨v',l1,l2⟩:=Ux hl el;exact⟨_,_,_,_,v',rfl,(An ha).2,hc,b7,l1,h v' H1 s1 l2⟩
    ·exact h.elim
   ·exact h.elim
  ·exact h.elim
structure OR (K:za0)(x m qual:Str)(st:Stmt)(ps:List Str):Prop where
 ex:∃C f fd,zb5 K mainGlobals x=some (some (.ref C))/\YS K C/\Meth K C m f/\cH K m qual st f fd/\Binds K fd ps []
structure HS (P:Program)(w:World)(K:za0)(mg:Str->Option Value)(base:Heap)(x m:Str)(k n:Nat)(F:List D->M OT):Prop where
 ex:∃C fa fd ps,zb5 K mainGlobals x=some (some (.ref C))/\YS K C/\Meth K C m fa/\Ea P w K mg base (Z8 P w base) k fa fd ps (spT K n F)/\Binds K fd ps []
def L8 {P}{K}{st}(T:OR K x m qual st ps)(S:Aj N ps (A6 st))(g:Ae->M Out)(hb:∀(f:Addr) (B6:Value) (A:Around) (outer:List Env) (s:Shared) (H:Hp) (E:XK),C4 k (A.deeper (envOfC qual (A6 st) s.heap.objs.size f B6))->VI (pZ P w K mg base N qual (A6 st) f B6 A outer s H E) (EI K E) (AW st) g)(hn: ~~~(ps.length=n)):
 HS P w K mg base x m (k+1) n (λ ds=>Zi (g (DY N ds))):=by
 obtain⟨C,f,fd,h1,h2,h3,F,hB⟩:=T.ex;subst hn;exact⟨⟨C,f,fd,ps,h1,h2,h3,yS F S g (hb f),hB⟩⟩
abbrev lkF (x:Str):List (Str×(List D->M OT))->Option (List D->M OT)
 |[]=>none
 |(y,F)::r=>if x=y then some F else lkF x r
def Y7:∀ {ms:List (Str×(List D->M OT))},lkF x ms=some F->(x,F)∈ms
 |[],h=>by cases h
 |(y,G)::r,h=>by
  unfold lkF at h;split at h
  ·rename_i e;cases h;subst e;exact za3
  ·exact za4 _ (Y7 h)
abbrev FY (ms:List (Str×(List D->M OT)))(m:Str)(d:D):M (List D->M OT):=match d with
 | .ins x ns es=>(match lkF x ms with
  |some F=>(match nM m ns es with|none=>.ok F|some _=>.bad)
  |none=>.bad)
 |_=>.bad
def Uy (h:FY ms m d=.ok F):∃x ns es,d=.ins x ns es/\(x,F)∈ms/\nM m ns es=none:=by
 unfold FY at h;split at h
 ·rename_i x ns es;split at h
  ·rename_i G e;split at h
   ·rename_i e2;cases h;exact⟨x,ns,es,rfl,Y7 e,e2⟩
   ·cases h
  ·cases h
 ·cases h
def Ri:FY ms m d≠.ex x:=λ h=>by
 unfold FY at h;split at h
 ·split at h
  ·split at h<;>cases h
  ·cases h
 ·cases h
abbrev fZ (X:Cx)(m:Str)(k:Nat)(E:XK)(ta:TE)(t:TA):TE:=λ σ H Q=>ta σ H λ x H1=>∃a C dx fs f fd ps n F,x=.ref a/\H1 a=some (.ins C dx fs)/\fs.lookup m=none/\YS X.K C/\Meth X.K C m f/\Ea X.prog X.w X.K X.mg X.base (Z8 X.prog X.w X.base) k f fd ps (spT X.K n F)/\Binds X.K fd ps []/\
 t σ H1 λ vs H2=>spT X.K n F (x::vs) H2 Q E
def gB (he:PE X o ta)(hr:C4 k X.A)(hx:JA (Z8 X.prog X.w X.base) X E)(ha:PA X (e::es) t)(aH: ~~~(starEach (e::es) X.env=(false,eval e X.env)::starEach es X.env))(hpl: ~~~((backTo pos (starEach es X.env)).any (·.1)=false))(ht: ~~~(eval (.Call (.Attribute o m apos) (e::es) [] pos) X.env=(do
  let ov <-eval o X.env
  standAt apos.atName
  let (f,first) <-holding [ov] (getMethod ov m pl)
  callWith pos f first (backTo pos (starEach (e::es) X.env)) (backToKw pos (keywordEach [] X.env))))):
 PE X (.Call (.Attribute o m apos) (e::es) [] pos) (fZ X m k E ta t):=by
 intro pins s σ H Q I h;refine PySem.W.methodCall_KW (pl:=pl) (Bi (he pins s σ H _ I h) λ u s1 zz=>?_) ht;obtain⟨x,H1,I1,rx,a,C,dx,fs,f,fd,ps,n,F,ex,ea,l,c,hm,hF,hb,q⟩:=zz;subst ex;obtain rfl:u=zbo a:=rx;refine O5 I1 ea c hm l ?_;refine PySem.W.callWith_K (first:=[.ref a]) (h₀:=X.base) I.ok.mod.YL hm.kp (Bi (ha pos pins s1 σ H1 _ I1 q) λ us s2 ⟨vs,H2,I2,r,q2⟩=>⟨I2.Qe,?_⟩) aH hpl;exact W5 (us:=.ref a::us) (vs:=.ref a::vs) hF hr hb .nil hx I2 (.cons rfl r) (by rw[zb7];exact q2)
def Zs (he:PE X o ta)(hr:C4 k X.A)(hx:JA (Z8 X.prog X.w X.base) X E)(ht: ~~~(eval (.Call (.Attribute o m apos) [] [] pos) X.env=(do
  let ov <-eval o X.env
  standAt apos.atName
  let (f,first) <-holding [ov] (getMethod ov m pl)
  callWith pos f first (backTo pos (starEach [] X.env)) (backToKw pos (keywordEach [] X.env))))):
 PE X (.Call (.Attribute o m apos) [] [] pos) (fZ X m k E ta sP):=by
 intro pins s σ H Q I h;refine PySem.W.methodCall_KW (pl:=pl) (Bi (he pins s σ H _ I h) λ u s1 zz=>?_) ht;obtain⟨x,H1,I1,rx,a,C,dx,fs,f,fd,ps,n,F,ex,ea,l,c,hm,hF,hb,q⟩:=zz;subst ex;obtain rfl:u=zbo a:=rx;refine O5 I1 ea c hm l ?_;exact PySem.W.callWith_K0 (first:=[.ref a]) I1.Qe hm.kp (W5 (us:=[.ref a]) (vs:=[.ref a]) hF hr hb .nil hx I1 (.cons rfl .nil) q)
def Y8 {P}{K}{f}(h:k<=k')(F:Ea P w K mg base CX k f fd ps sp):Ea P w K mg base CX k' f fd ps sp:=
 ⟨F.len,λ A stack s H args us vs Q E hr=>F.run A stack s H args us vs Q E (hr.mono h)⟩
def J3 (ms:List (Str×(List D->M OT)))(xo:HB X E)(r6:∀p∈ms,∃k',k'<=k/\HS X.prog X.w X.K X.mg X.base p.1 m k' n p.2)(hr:C4 k X.A)(ho:DE X (EI X.K E) true o fo)(ha:DA X (EI X.K E) true (e::es) fs)(aG:(e::es).length+1=n)(aH: ~~~(starEach (e::es) X.env=(false,eval e X.env)::starEach es X.env))(hpl: ~~~((backTo pos (starEach es X.env)).any (·.1)=false))(ht: ~~~(eval (.Call (.Attribute o m apos) (e::es) [] pos) X.env=(do
  let ov <-eval o X.env
  standAt apos.atName
  let (f,first) <-holding [ov] (getMethod ov m pl)
  callWith pos f first (backTo pos (starEach (e::es) X.env)) (backToKw pos (keywordEach [] X.env))))):
 DN X (EI X.K E) (.Call (.Attribute o m apos) (e::es) [] pos) (λ ρ=>(fo ρ).bind λ d=>(FY ms m d).bind λ F=>(fs ρ).bind λ ds=>F (d::ds)):=by
 obtain⟨ta,a1,a2⟩:=ho;obtain⟨tb,b1,b2,b3⟩:=ha;refine⟨_,gB (pl:=pl) a1 hr xo.call b1 aH hpl ht,λ P0 P σ H Q ρ Ev h=>?_⟩;dsimp only at h;refine a2 P0 P σ H _ ρ Ev ?_;refine XD h λ d h=>?_;intro v H1 s1 hv;cases q2:FY ms m d with
 |bad=>rw[q2] at h;exact h.elim
 |ex y=>exact (Ri q2).elim
 |ok F =>
  rw[q2] at h;simp only[M.A9] at h;obtain⟨x,ns,xy,rfl,aQ,r9⟩:=Uy q2;obtain⟨k',jv,M0⟩:=r6 _ aQ;obtain⟨C,fa,fd,ps,h1,h2,h3,h4,h5⟩:=M0.ex;cases hv with
  |ins hn hH hl =>
   rw[hn] at h1;cases h1;refine⟨_,_,_,_,fa,fd,ps,n,F,rfl,(An hH).2,OQ hl r9,h2,h3,Y8 jv h4,h5,?_⟩;refine b2 P0 P σ H1 _ ρ (Ev.same s1) ?_;cases q3:fs ρ with
   |bad=>rw[q3] at h;exact h
   |ex y=>rw[q3] at h;exact λ H' s=>h H' (s1.trans s)
   |ok ds =>
    rw[q3] at h;simp only[M.A9] at h;intro vs H2 s2 aA;have j3:=(BV.ins hn hH hl).mono s2.del;exact⟨by rw[za8,aA.length,b3 ρ ds q3];exact aG,P,_,((Ev.same s1).same s2).BU,.cons j3 aA,h.same (s1.trans s2)⟩
def FZ (ms:List (Str×(List D->M OT)))(xo:HB X E)(r6:∀p∈ms,∃k',k'<=k/\HS X.prog X.w X.K X.mg X.base p.1 m k' 1 p.2)(hr:C4 k X.A)(ho:DE X (EI X.K E) true o fo)(ht: ~~~(eval (.Call (.Attribute o m apos) [] [] pos) X.env=(do
  let ov <-eval o X.env
  standAt apos.atName
  let (f,first) <-holding [ov] (getMethod ov m pl)
  callWith pos f first (backTo pos (starEach [] X.env)) (backToKw pos (keywordEach [] X.env))))):
 DN X (EI X.K E) (.Call (.Attribute o m apos) [] [] pos) (λ ρ=>(fo ρ).bind λ d=>(FY ms m d).bind λ F=>F [d]):=by
 obtain⟨ta,a1,a2⟩:=ho;refine⟨_,Zs (pl:=pl) a1 hr xo.call ht,λ P0 P σ H Q ρ Ev h=>?_⟩;dsimp only at h;refine a2 P0 P σ H _ ρ Ev ?_;refine XD h λ d h=>?_;intro v H1 s1 hv;cases q2:FY ms m d with
 |bad=>rw[q2] at h;exact h.elim
 |ex y=>exact (Ri q2).elim
 |ok F =>
  rw[q2] at h;simp only[M.A9] at h;obtain⟨x,ns,xy,rfl,aQ,r9⟩:=Uy q2;obtain⟨k',jv,M0⟩:=r6 _ aQ;obtain⟨C,fa,fd,ps,h1,h2,h3,h4,h5⟩:=M0.ex;cases hv with
  |ins hn hH hl =>
   rw[hn] at h1;cases h1;refine⟨_,_,_,_,fa,fd,ps,1,F,rfl,(An hH).2,OQ hl r9,h2,h3,Y8 jv h4,h5,?_⟩;exact⟨rfl,P,_,(Ev.same s1).BU,.cons (BV.ins hn hH hl) .nil,h.same s1⟩
end
section
variable {fs:Ae->M (List D)}{te:TE}
structure uD (K:za0)(mg:Str->Option Value)(x:Str)(C:Addr):Prop where
 ns:zb5 K mainGlobals x=some (some (.ref C))
 mg':mg x=some (.ref C)
def Rj (hp:H p=none)(hd:H dx=none):Ah H (upd (upd H dx (.own p)) p (.ins C dx [])):=λ b u q=>by
 rw[Ag (AO q hp),Ag (AO q hd)];exact q
structure zD (P:Program)(w:World)(K:za0)(mg:Str->Option Value)(base:Heap)(x:Str)(k n:Nat)(F:OT->List D->M (OT×OT)):Prop where
 ex:∃C fa fd ps,uD K mg x C/\Mk K C fa/\Ea P w K mg base (Z8 P w base) k fa fd ps (Rc K n F)/\Binds K fd ps []
abbrev Rk (m:M (OT×OT)):M OT:=match m with
 | .ok (t,.sh .AL)=>.ok t
 |_=>.bad
def nN (xo:HB X E)(G:zD X.prog X.w X.K X.mg X.base x k n F)(hr:C4 (k+1) X.A)(hg:Gl X x)(ha:DA X (EI X.K E) true (e::es) fs)(aG:(e::es).length+1=n)(aU:(x==("__debug__" : Str))=false:=by decide)(he: ~~~(starEach (e::es) X.env=(false,eval e X.env)::starEach es X.env))(hpl: ~~~((backTo pos (starEach es X.env)).any (·.1)=false)):
 DN X (EI X.K E) (.Call (.Name x p) (e::es) [] pos) (λ ρ=>(fs ρ).bind λ ds=>Rk (F (.ins x [] []) ds)):=by
 obtain⟨C,fa,fd,ps,hT,hM,hF,hb⟩:=G.ex;obtain⟨ta,a1,a2,a3⟩:=ha;refine⟨_,Xr hM hF hr hg hT.mg' hb .nil xo.call a1 aU he hpl,λ P0 P σ H Q ρ Ev h=>?_⟩;dsimp only at h;refine a2 P0 P σ H _ ρ Ev ?_;cases q:fs ρ with
 |bad|ex x=>rw[q] at h;exact h
 |ok ds =>
  rw[q] at h;simp only[M.A9] at h;intro vs H1 s1 aA y dx hy hd ae;rw[zb7];have E1:=Ev.same s1;have sm:=Rj (C:=C) hy hd;have bH:∀a∈[y],H1 a=none:=λ a ha=>by rw[za9.mp ha];exact hy
  refine⟨by rw[za8,aA.length,a3 ρ ds q];exact aG,PU P [y],y,.ins x [] [],[y],vs,ds,rfl,λ a ha=>?_,λ a ha=>.inr ha,by simp,C6.ins (fs:=[]) hT.ns Am .nil,aA.mono (Bk sm bH),?_⟩
  ·rcases ha with ha|ha
   ·exact (E1.BU a ha).same sm
   ·rw[za9.mp ha];exact⟨_,Am,λ xs=>⟨(λ z=>by cases z),(λ z w=>by cases w)⟩⟩
  ·cases q2:F (.ins x [] []) ds with
   |bad|ex z=>rw[q2] at h;exact h
   |ok tr =>
    obtain⟨t,r⟩:=tr;rw[q2] at h;simp only[Rk] at h;intro v H' P' ah fr k1 k2 k3 k4 k5 k6 k7 k8 k9 rh;cases r with
    |sh d =>
     cases d with
     |AL =>
      cases k6 with
      |sh hv =>
       cases hv;refine⟨rfl,h _ ah H' ?_ ?_ k5 ?_⟩
       ·intro b u eb;have e1:=s1 b u eb;have bL:b≠y:=λ z=>by rw[z,hy] at e1;cases e1
        have e2:=sm b u e1;by_cases hP:P b
        ·exact (k1 b (.inl hP) (by simp[bL])).2.trans e2
        ·exact (An (k3 b u (by rw[Ay λ z=>z.elim hP λ w=>bL (za9.mp w)];exact e2))).2
       ·intro b j4;cases eb:H b with
        |none=>rfl
        |some u =>
         exfalso;have e1:=s1 b u eb;have bL:b≠y:=λ z=>by rw[z,hy] at e1;cases e1
         have e2:=sm b u e1;have hn:=λ z=>bL (za9.mp ((k9 b j4).2 z));exact (An (k3 b u (by rw[Ay hn];exact e2))).1 (k9 b j4).1
       ·refine k4.move (λ b u eb=>?_) λ _ _=>rfl;obtain⟨g1,g2⟩:=An eb;rw[Ay]
        ·exact g2
        ·rintro (z|z)
         ·have bL:b≠y:=λ w=>by
           obtain⟨o,e1,_⟩:=E1.BU b z;rw[w,hy] at e1;cases e1
          exact g1 (k1 b (.inl z) (by simp[bL])).1
         ·exact g1 (k9 b z).1
     |_=>exact h.elim
    |_=>exact h.elim
end
abbrev Rl (i:Nat)(ρ:Ae)(π:List Nat):M (Str×List Str×List D):=match Wt i ρ π with
 |some (.ins x ns ts)=>(match EM ts with|some vs=>.ok (x,ns,vs)|none=>.bad)
 |_=>.bad
def gC (h:Rl i ρ π=.ex x):False:=by
 unfold Rl at h;split at h
 ·split at h<;>cases h
 ·cases h
abbrev gD (f:Str):List Str->List Str
 |[]=>[f]
 |g::r=>if g=f then g::r else g::gD f r
abbrev gE (f:Str)(d:D):List Str->List D->List D
 |[],_=>[d]
 |g::r,e::t=>if g=f then d::t else e::gE f d r t
 |_::_,[]=>[]
def UA (f:Str)(v:V):∀fs:List (Str×V),(EF f v fs).map zb4=gD f (fs.map zb4)
 |[]=>rfl
 |(g,x)::r=>by
  rw[za5,gD,EF];split
  ·rfl
  ·rw[za5,UA f v r]
def UB {K}{f}(hv:BV K H v d):∀ {fs:List (Str×V)}{ds:List D},Ak K H (fs.map zbw) ds->Ak K H ((EF f v fs).map zbw) (gE f d (fs.map zb4) ds)
 |[],_,.nil=>.cons hv .nil
 |(g,x)::r,_,.cons hx ht=>by
  rw[za5,gE,EF];split
  ·exact .cons hv ht
  ·exact .cons hx (UB hv ht)
section
variable {fp:Ae->M (List Nat)}{i:Nat}{fs:Ae->M (List D)}
def Br.ins {K}(pl:Br K P H σ ρ i π v t1)(E:Ao K P0 P H σ ρ)(h:Rl i ρ π=.ok (x,ns,vs)):
 t1=.ins x ns (vs.map .sh)/\∃l C dx fs,v=.ref l/\Ak K (del H P) (fs.map zbw) vs/\C6 K H P (.ref l) (.ins x ns (vs.map .sh)) [l]/\zb5 K mainGlobals x=some (some (.ref C))/\H l=some (.ins C dx fs)/\ns=fs.map zb4:=by
 unfold Rl at h;rw[pl.at] at h;split at h
 ·rename_i x' di rf e;split at h
  ·rename_i aF e';cases e;cases h;have z:=Du e';subst z;obtain⟨ax,o1,hp,nd⟩:=pl.own E;generalize ht:OT.ins x ns (vs.map .sh)=t at o1;cases o1 with
   |ins hn hh hr =>
    injection ht with h1 h2 h3
    subst h1 h2 h3;obtain⟨rfl,hs⟩:=hr.qC;exact⟨rfl,_,_,_,_,rfl,hs,.ins hn hh hr,hn,hh,rfl⟩
   |_=>cases ht
  ·cases h
 ·cases h
def NT (cs:List Str){fl}(i6:∀x∈cs,Jf X.K x fl)(ha:DP X WX a i fp)(hv:DE X WX true e f)(hs: ~~~(swapsWith e (some (.Attribute a fl pos')) pos.line X.env=pure false)):
 DS X WX (.Assign [.Attribute a fl pos'] e pos) (λ ρ=>(f ρ).bind λ v=>(fp ρ).bind λ π=>(Rl i ρ π).bind λ z=>if z.1∈cs/\z.2.1.length<1000 then HP i ρ π (.ins z.1 (gD fl z.2.1) ((gE fl v z.2.1 z.2.2).map .sh)) else .bad):=by
 obtain⟨ta,a1,a2⟩:=ha;obtain⟨tv,v1,v2⟩:=hv;refine⟨_,sO a1 v1 hs,λ P0 P σ H Z ρ E h=>?_⟩;dsimp only at h;refine v2 P0 P σ H _ ρ E ?_;refine cI h E λ d h=>?_;intro w H0 s0 hw;have E0:=E.same s0;refine a2 P0 P σ H0 _ ρ E0 ?_;cases q:fp ρ with
 |bad=>rw[q] at h;exact h
 |ex x=>rw[q] at h;exact λ H' s=>h H' P ((E.tr s0).trans (E0.tr s))
 |ok π =>
  rw[q] at h;simp only[M.A9] at h;intro v t1 H1 s1 pl;have E1:=E0.same s1;have xz:=(E.tr s0).trans (E0.tr s1);cases q3:Rl i ρ π with
  |bad=>rw[q3] at h;exact h.elim
  |ex x=>exact (gC q3).elim
  |ok z =>
   obtain⟨x,ns,vs⟩:=z;rw[q3] at h;simp only[M.A9] at h;by_cases hc:x∈cs/\ns.length<1000
   ·rw[if_pos hc] at h;obtain⟨rfl,l,C,dx,fs,rfl,da,ot,hn,hH,rfl⟩:=pl.ins E1 q3;obtain⟨C',bq,jo,b7⟩:=(i6 x hc.1).ex;rw[hn] at bq;cases bq;have x3:=hw.mono s1.del;obtain⟨c,p,t0,g1,g2,E3,t3⟩:=E1.tZ (o':=.ins C dx (EF fl w fs)) (u:=.ins x (gD fl (fs.map zb4)) ((gE fl d (fs.map zb4) vs).map .sh)) pl ot (λ _=>⟨λ z=>(by cases z),λ _ z=>by cases z⟩) (λ mv=>by
     have:=C6.ins (K:=X.K) (H:=upd H1 l (.ins C dx (EF fl w fs))) (P:=P) (p:=l) (fs:=EF fl w fs) (x:=x) hn Am (((UB x3 da).mono mv).ows);rw[UA] at this;exact this)
    rw[Gs g1 g2] at h;exact⟨l,C,dx,fs,rfl,hH,jo,b7,by have:=hc.2;rw[za2] at this;exact this,h _ _ _ (xz.trans t3) E3⟩
   ·rw[if_neg hc] at h;exact h.elim
end
section
variable {fp:Ae->M (List Nat)}{i:Nat}{fs:Ae->M (List D)}
abbrev gF (i:Nat)(ρ:Ae)(π:List Nat)(ds:List D):M (Ae×OT):=match ds[ds.length-1]? with
 |some d=>(match ρ[i]? with
  |some (some c)=>(match treeOf c with|some (p,t)=>.ok (ρ.set i (some (toCl p (EJ t π (.lst (ds.dropLast.map .sh))))),.sh d)|none=>.bad)
  |_=>.bad)
 |none=>.bad
def Y9 {c}(h:ρ[i]?=some (some c))(ht:treeOf c=some (p,t))(hd:ds[ds.length-1]?=some d):gF i ρ π ds=.ok (ρ.set i (some (toCl p (EJ t π (.lst (ds.dropLast.map .sh))))),.sh d):=by
 unfold gF;simp only[h,ht,hd]
def Qs {K}(h:Ak K H vs ds):Ak K H vs.dropLast ds.dropLast:=by
 rw[List.dropLast_eq_take,List.dropLast_eq_take,h.length];exact M3 _ h
def uE (ha:DP X WX a i fp){ad}(ak: ~~~(attributeBase a "pop" X.env (eval a X.env)=eval a X.env))(al: ~~~((apos.endLine==ad.line)=true)):
 DX X WX (.Call (.Attribute a "pop" apos) [] [] ad) (λ ρ=>(fp ρ).bind λ π=>(Tz i ρ π).bind λ ds=>gF i ρ π ds):=by
 obtain⟨ta,a1,a2⟩:=ha;refine⟨_,dW zc3 PySem.F.slot_list_pop PySem.F.type_list_pop sW a1 ak al,λ P0 P σ H Q ρ E h=>?_⟩;dsimp only at h;refine a2 P0 P σ H _ ρ E ?_;cases q:fp ρ with
 |bad=>rw[q] at h;exact h
 |ex x=>rw[q] at h;exact λ H' s=>h H' P (E.tr s)
 |ok π =>
  rw[q] at h;simp only[M.A9] at h;intro v t1 H1 s1 pl;have E1:=E.same s1;cases q1:Tz i ρ π with
  |bad=>rw[q1] at h;exact h.elim
  |ex x=>exact (Wv q1).elim
  |ok ds =>
   rw[q1] at h;simp only[M.A9] at h;obtain⟨rfl,l,xs,rfl,hl,ol⟩:=pl.shl E1 q1;refine⟨.inl ⟨rfl,xs,.of hl⟩,?_⟩;cases hd:ds[ds.length-1]? with
   |none=>unfold gF at h;rw[hd] at h;exact h.elim
   |some d =>
    obtain⟨y,hy,nh⟩:=ol.get hd;obtain⟨c,p,t0,g1,g2,E3,t3⟩:=E1.mE pl hl ol.ows (us:=ds.dropLast.map .sh) (ys:=xs.dropLast) (Qs ol).ows (by simp) (by simp) (by simp);rw[Y9 g1 g2 hd] at h;refine⟨l,xs,y,rfl,rfl,hl,by rw[ol.length];exact hy,?_⟩;have sd:Ah (del H1 P) (del (upd H1 l (.lst xs.dropLast)) P):=t3.1;exact h y [] _ _ ((E.tr s1).trans t3) E3 (.sh (nh.mono sd)) (by simp) (by simp)
end
def BM {K}{f}:∀y∈([]:List Str),Jf K y f:=λ y h=>by cases h
def Bf {K}{f}(h:Jf K x f)(t:∀y∈xs,Jf K y f):∀y∈x::xs,Jf K y f:=λ y hy=>by
 rcases zab.mp hy with rfl|hy
 ·exact h
 ·exact t y hy
def CN {P}{K}:∀p∈([]:List (Str×(List D->M OT))),∃k',k'<=k/\HS P w K mg base p.1 m k' n p.2:=λ p h=>by cases h
def Cb {P}{K}(hk:k'<=k)(h:HS P w K mg base x m k' n F)(t:∀p∈ms,∃k',k'<=k/\HS P w K mg base p.1 m k' n p.2):
 ∀p∈(x,F)::ms,∃k',k'<=k/\HS P w K mg base p.1 m k' n p.2:=λ p hp=>by
 rcases zab.mp hp with rfl|hp
 ·exact⟨k',hk,h⟩
 ·exact t p hp
end L2
set_option maxRecDepth 1000000
set_option autoImplicit true
set_option relaxedAutoImplicit true
set_option maxHeartbeats 0
namespace L2
open PySem
def J4:entryFor table "dict.update.loop" = some Builtin.«dict.update.loop»:=by unfold entryFor;rfl
open PySem PySem.Spec PySem.Calls PyProof.Rows PySem.W PySem.Builtin PySem.Builtin.ObjectAttr
variable {prog:Program}{E:Value->Shared->Prop}{X:Cx}{WX:Str->Hp->Prop}{P0:DV}{σ:St}{ρ:Ae}{e tg iter:Expr}{fn:Ae->M OT}{pos:Pos}{es:List Expr}{rk:Int->Nat}{L:List Int}{ft:Ae->M Bool}{gt:D->Ae->M Ae}{fi:Ae->M (List D)}
section
variable {w:World}{A:Around}{s:Shared}
def call_meets {id}{rest}{Sp}(SL:Slot T nm id)(hB:entryFor table id=some B)(ht:s.TypeIs self T)(ha:argsOk id ⟨self::rest,[]⟩)(m:Meets (B ⟨self::rest,[]⟩) Sp)(h:Sp A (λ r s'=>match r with | .ok (.ret v)=>Q v s' | .ok _=>False | .error e=>E e s') s):wpAny (model prog w) A (call (.builtin id) (self::rest)) Q E s:=
 wpAny_call (codeAny_call_builtin SL.plain hB (SL.check _ _ _ _ _ _ _ _ ht ha (m prog w A _ s h)))
def Mx (hh:A.handled=none)(hl:s.heap.get? l=some {cls:=.type "list",data:=.seq xs k,slots:=sl})(h:∀h' tk,(∀b o,s.heap.get? b=some o->h'.get? b=some o)->Q none {s with heap:=h',toks:=tk}):wpAny (model prog w) A (getAttr? (.ref l) "keys") Q E s:=by
 have miss:typeLookup (.type "list") "keys" = pure none:=am_miss_of_fast (by decide +kernel);have T0:∀hp:Heap,hp.get? l=some {cls:=.type "list",data:=.seq xs k,slots:=sl}->Looks (model prog w) hp (typeOf (.ref l)) (.type "list"):=λ hp e=>(Looks.ld e).andThen .now;have SL:=PySem.F.slot_list_getattribute;have aE:(onTheHeap (Value.type "list")&&Value.builtin "list.__getattribute__" == Value.builtin "object.__getattribute__")=false:=rfl;have se:(false&&onTheHeap (Value.builtin "list.__getattribute__"))=false:=rfl;unfold getAttr? getAttrBy?;refine wpAny_bind (wpAny_mkText (wpAny_bind (wpAny_attempt ?_)));unfold getAttrBy;refine wpAny_holding (wpAny_bind ((T0 _ hl).at (wpAny_bind ?_)));rw[SL.lookup];refine wpAny_pure ?_;dsimp only;rw[aE,if_neg zaw];unfold getAttrByItsOwn hookBefore;rw[if_neg (show ¬ onTheHeap (Value.type "list")=true from zaw)];refine wpAny_bind (wpAny_pure (wpAny_bind (wpAny_attempt (wpAny_holding ?_))));unfold callGetattribute;rw[se,if_neg zaw];unfold boundAndCalled;rw[SL.bind];refine wpAny_bind (wpAny_pure ?_);dsimp only;refine call_meets SL am_entry_list_getattribute ⟨_,hl,rfl⟩ (PySem.F.args_list_getattribute_2 _ _) (meets_getattribute_miss_list l xs k sl "keys" s.toks miss rfl (by decide)) ⟨hl,hh,λ h' tk e ne=>?_⟩;dsimp only;obtain⟨kp,nw,t,u,he⟩:=ne;have T1:Looks (model prog w) h' (typeOf (.ref e)) (.type "AttributeError"):=(Looks.ld he).andThen .now;unfold getattributeRaised isInstance;refine wpAny_bind (wpAny_bind (T1.at ?_));rw[sub_AttributeError];refine wpAny_pure ?_;rw[if_pos rfl];unfold hookBehind;rw[if_neg (show ¬ onTheHeap (Value.type "list")=true from zaw),am_list_getattr_none];refine wpAny_bind (wpAny_pure ?_);unfold hookOrError attributeErrorLeaves;dsimp only;rw[if_pos (show (!false)=true from rfl)];refine wpAny_bind (wpAny_throw ?_);refine wpAny_bind (wpAny_bind (T1.at ?_));rw[sub_AttributeError];refine wpAny_pure ?_;rw[if_pos rfl];exact wpAny_pure (h h' tk kp)
def Rm (ht:IsTup s.heap t aa)(h:Q aa.toList s):wpAny (model prog w) A (Dict.pairItems (.ref t)) Q E s:=by
 obtain⟨o,h1,h2,n,h3⟩:=ht;have T0:Looks (model prog w) s.heap (typeOf (.ref t)) (.type "tuple"):=h2▸(Looks.ld h1).andThen .now;unfold Dict.pairItems;refine wpAny_bind (T0.at ?_);have hx:(Value.type "tuple" == Value.type "list" || Value.type "tuple" == Value.type "tuple")=true:=by decide
 rw[if_pos hx];exact wpAny_bind (wpAny_seqItems h1 h3 (wpAny_pure h))
def D3:plainId "dict.update.loop" = true:=by decide +kernel
def OS {K:Type}[DecidableEq K]{knd:KeyKind prog w K}{h h':Heap}{d I l:Addr}{i:Nat}{xs:List (List K×Addr×Value)}(hd:h.DictOfH (tupleKind knd) d xs)(hit:h.IsListIter I l i)(sb:∀b o,b≠I->h.get? b=some o->h'.get? b=some o):
 h'.DictOfH (tupleKind knd) d xs:=by
 obtain⟨o,es,ep,h1,h2,h3,h4,h5,h6⟩:=hd;obtain⟨oi,i1,i2,i3⟩:=hit;refine⟨o,es,ep,sb d o (λ z=>?_) h1,h2,h3,h4,λ x hx=>?_,h6⟩
 ·subst z;rw[i1] at h1;cases h1;rw[i3] at h3;cases h3
 ·obtain⟨ok,aa,n,k1,k2,k3,k4⟩:=h5 x hx;refine⟨ok,aa,n,sb _ _ (λ z=>?_) k1,k2,k3,k4⟩;rw[z,i1] at k1;cases k1;rw[i3] at k3;cases k3
def Wz {K:Type}[DecidableEq K]{knd:KeyKind prog w K}{R:Result->Shared->Prop}{d I l:Addr}{items:Array Value}{h0:Heap}(ps:List (List K×Addr×Value))(hh:A.handled=none)(b8:A.in1.units<cLine)(gq:l≠I)(sf:d≠I)(f6:l≠d)
 (j5:ps.length=items.size) (hsz:items.size+1<=sizeLine) (hl:h0.IsList l items)
 (hp:∀(j:Nat) p,ps[j]?=some p->(p.2.1≠d/\p.2.1≠I/\(tupleKind knd).is h0 p.1 p.2.1)/\∃t,items[j]?=some (.ref t)/\t≠d/\t≠I/\IsTup h0 t #[.ref p.2.1,p.2.2]):
 ∀(m i:Nat) (xs:List (List K×Addr×Value)) (s:Shared),items.size-i=m->i<=items.size->xs.length<=i->s.heap.IsListIter I l i->s.heap.DictOfH (tupleKind knd) d xs->(∀b o,b≠d->b≠I->h0.get? b=some o->s.heap.get? b=some o)->
  (∀h' tk,h'.DictOfH (tupleKind knd) d ((ps.drop i).foldl (λ acc p=>storedH acc p.1 p.2.1 p.2.2) xs)->(∀b o,b≠d->b≠I->h0.get? b=some o->h'.get? b=some o)->R (.ok (.ret .none)) {s with heap:=h',toks:=tk})->
  codeAny (model prog w) A (.builtin "dict.update.loop" ⟨[.ref d,.ref I,rawInt i,.none],[]⟩) R s:=by
 intro m;induction m with
 |zero =>
  intro i xs s hm hi sg hit hd hf h;have b5:i=items.size:=by omega
  refine codeAny_builtin J4 ?_;rw[zcr D3 _];show wpAny _ A.in1 (pyNext (.ref I) >>= _) _ _ s;refine wpAny_bind (wpAny_pyNext_list_end (A:=A.in1) hh hit (hl.at λ o e=>hf l o f6 gq e) (by simp[b5]) λ h' eb=>?_);have hd2:=OS hd hit λ b o hb e=>eb b o hb e;show wpAny _ A.in1 (Dict.addKeywords d [] >>= _) _ _ _;unfold Dict.addKeywords;refine wpAny_bind (wpAny_bind ?_);refine wpAny_pure (wpAny_pure (wpAny_pure ?_));have ed:ps.drop i=[]:=by rw[List.drop_eq_nil_iff];omega
  rw[ed] at h;exact h h' s.toks hd2 λ b o h1 h2 e=>eb b o h2 (hf b o h1 h2 e)
 |succ m ih =>
  intro i xs s hm hi sg hit hd hf h;have ag:i<items.size:=by omega
  obtain⟨p,h9⟩:∃p,ps[i]?=some p:=⟨ps[i]'(by omega),za6 _⟩;obtain⟨⟨p1,p2,p3⟩,t,ht,t1,t2,t3⟩:=hp i p h9;refine codeAny_builtin J4 ?_;rw[zcr D3 _];show wpAny _ A.in1 (pyNext (.ref I) >>= _) _ _ s;refine wpAny_bind (wpAny_pyNext_list_item (A:=A.in1) hit (hl.at λ o e=>hf l o f6 gq e) ht λ h' b6 sb=>?_);have hd2:h'.DictOfH (tupleKind knd) d xs:=OS hd hit λ b o hb e=>(sb.2 b hb).trans e;have i7:∀b o,b≠d->b≠I->h0.get? b=some o->h'.get? b=some o:=λ b o h1 h2 e=>(sb.2 b h2).trans (hf b o h1 h2 e);have t4:IsTup h' t #[.ref p.2.1,p.2.2]:=by
   obtain⟨o,e1,e2⟩:=t3;exact⟨o,i7 t o t1 t2 e1,e2⟩
  have p4:(tupleKind knd).is h' p.1 p.2.1:=by
   obtain⟨o,aa,n,e1,e2⟩:=p3;exact⟨o,aa,n,i7 _ o p1 p2 e1,e2⟩
  dsimp only;refine wpAny_bind (wpAny_holding (wpAny_bind (wpAny_tryCatch (Rm t4 ?_))));show wpAny _ A.in1 (holding [.ref p.2.1,p.2.2] (dictSet d (.ref p.2.1) p.2.2)) _ _ _;refine wpAny_holding (wpAny_dictSet_heap (knd:=tupleKind knd) (hsz:=by omega) b8 p4 hd2 λ h3 ia j6=>?_);refine wpAny_pure ⟨plainId_quiet D3 _,?_⟩;have ib:h3.IsListIter I l (i+1):=by
   obtain⟨o,e1,e2⟩:=b6;exact⟨o,(j6.2 I (zbi sf)).trans e1,e2⟩
  have ed:ps.drop i=p::ps.drop (i+1):=by
   rw[zco (by omega:i<ps.length)];rw[za6 (by omega:i<ps.length)] at h9;rw[zas h9]
  rw[ed,zav] at h;have bK:(storedH xs p.1 p.2.1 p.2.2).length<=i+1:=by
   unfold storedH;split
   ·rw[za2];omega
   ·rw[zal,zba];omega
  have q:=ih (i+1) (storedH xs p.1 p.2.1 p.2.2) {s with heap:=h3,toks:=s.toks+(tupleKind knd).draws p.1} (by omega) (by omega) bK ib ia (λ b o h1 h2 e=>(j6.2 b h1).trans (i7 b o h1 h2 e)) h;exact q
def N9 {K:Type}[DecidableEq K]{knd:KeyKind prog w K}{Q:Value->Shared->Prop}{l:Addr}{items:Array Value}{n:Nat}{sl:Array (Option Value)}(ps:List (List K×Addr×Value))(hh:A.handled=none)(b8:A.units+2<cLine)
 (j5:ps.length=items.size) (hsz:items.size+1<=sizeLine) (hl:s.heap.get? l=some {cls:=.type "list",data:=.seq items n,slots:=sl})
 (hp:∀(j:Nat) p,ps[j]?=some p->(tupleKind knd).is s.heap p.1 p.2.1/\∃t,items[j]?=some (.ref t)/\IsTup s.heap t #[.ref p.2.1,p.2.2])
 (h:∀h' tk,h'.DictOfH (tupleKind knd) s.heap.objs.size (ps.foldl (λ acc p=>storedH acc p.1 p.2.1 p.2.2) [])->(∀b o,s.heap.get? b=some o->h'.get? b=some o)->Q (.ref s.heap.objs.size) {s with heap:=h',toks:=tk}):
 wpAny (model prog w) A (call (.type "dict") [.ref l]) Q E s:=by
 refine callType_codes (Q₁:=λ obj s₁=>obj=.ref s.heap.objs.size/\s₁={s with heap:=s.heap.push {cls:=.type "dict",data:=.dict #[]} }) PySem.F.kt_called_dict (PySem.F.kt_typeCall_dict_1 _) PySem.F.entry_dict_init
  (kt_code_dict_new _ ⟨rfl,rfl⟩) λ obj s₁ h₁=>?_
 obtain⟨rfl,rfl⟩:=h₁;have hS:(s.heap.push {cls:=.type "dict",data:=.dict #[]}).get? s.heap.objs.size=some {cls:=.type "dict",data:=.dict #[]}:=zar _ rfl;have ll:l<s.heap.objs.size:=zaj hl;have b9:(s.heap.push {cls:=.type "dict",data:=.dict #[]}).get? l=some {cls:=.type "list",data:=.seq items n,slots:=sl}:=zac _ hl;refine⟨⟨_,hS,rfl⟩,PySem.F.args_dict_init_2 _ _,?_⟩;have TD:Looks (model prog w) (s.heap.push {cls:=.type "dict",data:=.dict #[]}) (typeOf (.ref s.heap.objs.size)) (.type "dict"):=(Looks.ld hS).andThen .now;have TL:Looks (model prog w) (s.heap.push {cls:=.type "dict",data:=.dict #[]}) (typeOf (.ref l)) (.type "list"):=(Looks.ld b9).andThen .now;unfold Builtin.«dict.__init__» Dict.selfAndRest Dict.notOrdered;dsimp only;rw[if_pos (by decide)];refine wpAny_bind (wpAny_bind (wpAny_bind (TD.at ?_)));rw[if_neg (by decide)];refine wpAny_pure ?_;unfold Dict.addrOf;refine wpAny_bind (wpAny_pure (wpAny_pure ?_));unfold Dict.updateCommon Dict.updateFrom;dsimp only;refine wpAny_bind (TL.at ?_);rw[if_pos (by decide)];refine wpAny_bind (Mx (A:=A.in1.in1) hh b9 λ h2 x4 ic=>?_);rw[if_pos (show (none:Option Value).isNone=true from rfl)];refine wpAny_bind (wpAny_rule ?_);have ar:h2.IsList l items:=⟨_,ic _ _ b9,rfl,n,rfl⟩;have j7:=ic _ _ hS;refine wpAny_bind (wpAny_pyIter_list ar ?_);refine wpAny_pure ⟨plainId_quiet D3 _,?_⟩;have lz:s.heap.objs.size<h2.objs.size:=zaj j7;have sn:∀b o,s.heap.get? b=some o->(h2.push {cls:=.type "list_iterator",data:=.fields #[.ref l,.int 0 0]}).get? b=some o:=λ b o e=>zac _ (ic _ _ (zac _ e));have ia:(h2.push {cls:=.type "list_iterator",data:=.fields #[.ref l,.int 0 0]}).DictOfH (tupleKind knd) s.heap.objs.size []:=
  ⟨_,#[],0,zac _ j7,⟨rfl,rfl,rfl⟩,rfl,rfl,λ x hx=>absurd hx List.not_mem_nil,zby⟩
 have ag:∀b o,s.heap.get? b=some o->b≠s.heap.objs.size/\b≠h2.objs.size:=λ b o e=>by
  have:=zaj e;exact⟨zat this,zat (Nat.lt_trans this lz)⟩
 refine Wz (A:=A.in1) (knd:=knd) (l:=l) (h0:=s.heap) ps hh b8 (zat (Nat.lt_trans ll lz)) (zat lz) (zat ll) j5 hsz ⟨_,hl,rfl,n,rfl⟩ (λ j p hj=>?_) items.size 0 [] _ (by omega) (by omega) (by simp) ⟨_,zar _ rfl,rfl,rfl⟩ ia (λ b o h1 gu e=>sn b o e) λ h' tk ba so=>?_
 ·obtain⟨q1,t,q2,q3⟩:=hp j p hj;obtain⟨o1,_,_,e1,_⟩:=id q1;obtain⟨o2,e2,_⟩:=id q3;exact⟨⟨(ag _ _ e1).1,(ag _ _ e1).2,q1⟩,t,q2,(ag _ _ e2).1,(ag _ _ e2).2,q3⟩
 ·exact⟨rfl,h h' tk ba λ b o e=>so b o (ag _ _ e).1 (ag _ _ e).2 e⟩
end
structure Zt where
 (t:Addr) (κ:List Key) (b:Addr) (v:V)
abbrev nO (H:Hp)(p:Zt):Prop:=H p.t=some (.tup [.ref p.b,p.v])/\H p.b=some (.tup (p.κ.map kV))
abbrev mkK (ps:List Zt):List (List Key×V):=ps.foldl (λ acc p=>putK acc p.κ p.v) []
abbrev tDP (X:Cx)(te:TE):TE:=λ σ H Q=>te σ H λ x H1=>∃(l:Addr) (ps:List Zt),x=.ref l/\Dr X.K H1 l (ps.map λ p=>V.ref p.t)/\(∀p∈ps,nO H1 p)/\ps.length<=1000/\∀r,H1 r=none->Q (.ref r) (upd H1 r (.dT (mkK ps)))
def UC:∀ {ps:List Zt}{us:List Value},Vals (ps.map λ p=>V.ref p.t) us->us=ps.map λ p=>zbo p.t
 |[],_,.nil=>rfl
 |p::ps,_,.cons h t=>by
  cases h;rw[za5,<-UC t]
def qH {H:Hp}:∀ {ps:List Zt}{qs:List (List Key×Addr×Value)}{kvs:List (List Key×V)}{xs:List (List Key×Addr×Value)},(∀p∈ps,nO H p)->Paired (λ(p:Zt) (q:List Key×Addr×Value)=>p.κ=q.1/\p.b=q.2.1/\RelV p.v q.2.2) ps qs->KT H kvs xs->KT H (ps.foldl (λ acc p=>putK acc p.κ p.v) kvs) (qs.foldl (λ acc p=>storedH acc p.1 p.2.1 p.2.2) xs)
 |[],_,_,_,_,.nil,h=>h
 |p::ps,_,_,_,ho,.cons (b:=q) hq t,h=>by
  obtain⟨q1,q2,q3⟩:=q;obtain⟨e1,e2,e3⟩:=hq;dsimp only at e1 e2 e3;subst e1 e2;have r:=qH (ps:=ps) (λ p' hp=>ho p' (za4 _ hp)) t (h.put p.κ (ho p za3).2 e3);exact r
def gH:∀(ps:List Zt) (kvs:List (List Key×V)),(ps.foldl (λ acc p=>putK acc p.κ p.v) kvs).length<=kvs.length+ps.length
 |[],kvs=>zag _
 |p::ps,kvs=>by
  have h1:=gH ps (putK kvs p.κ p.v);have h2:=DU kvs p.κ p.v;rw[zav,za8];omega
def Yb (ok:GR P w H h):∀ {ps:List Zt},(∀p∈ps,nO H p)->∃qs:List (List Key×Addr×Value),Paired (λ(p:Zt) (q:List Key×Addr×Value)=>p.κ=q.1/\p.b=q.2.1/\RelV p.v q.2.2) ps qs/\
 ∀(j:Nat) q,qs[j]?=some q->(tupleKind (AR P w)).is h q.1 q.2.1/\∃t,(ps.map λ p=>zbo p.t)[j]?=some (.ref t)/\IsTup h t #[.ref q.2.1,q.2.2]
 |[],_=>⟨[],.nil,λ j q e=>by simp at e⟩
 |p::ps,ho=>by
  obtain⟨qs,h1,h2⟩:=Yb ok λ p hp=>ho p (za4 _ hp);obtain⟨o1,o2⟩:=ho p za3;obtain⟨_,aa,r,it⟩:=(show Bn P w H h p.t (.tup [.ref p.b,p.v]) from ok p.t _ o1);obtain⟨u,v,rfl,ru,rv⟩:=r.two;cases ru;refine⟨(p.κ,p.b,v)::qs,.cons ⟨rfl,rfl,rv⟩ h1,λ j q e=>?_⟩;cases j with
  |zero =>
   rw[zc0] at e;cases e;exact⟨JB ok o2,p.t,by simp,it⟩
  |succ j =>
   rw[zb1] at e;obtain⟨a1,t,a2,a3⟩:=h2 j q e;exact⟨a1,t,by simpa using a2,a3⟩
section
variable {c:Bool}{P:Addr->Prop}{H:Hp}{a b:Expr}{f g:Ae->M D}{te:TE}
def gI (hc:X.calm=true)(hu:X.A.units+n<cLine)(hg:Gl X "dict")(hm:X.mg "dict" = none)(he:PE X e te)(hv:bootBuiltins "dict" = some (.type "dict"):=by decide +kernel)(hs: ~~~(starEach [e] X.env=[(false,eval e X.env)]))(hn:2<=n:=by decide):
 PE X (.Call (.Name "dict" p) [e] [] pos) (tDP X te):=by
 intro pins s σ H Q I h;refine wpAny_Call_Name_kw (D5 I hg hm hv ?_);refine zbe ?_ hs;rw[hs];refine zc5 (Bi (he pins s σ H _ I h) λ u s1 zz=>?_);obtain⟨x,H1,I1,r1,q1⟩:=zz;obtain⟨l,ps,rfl,hq,ho,hlen,q⟩:=q1;cases r1;refine zcb ?_;obtain⟨aa,r',pl,hz⟩:=I1.list hq;have hits:=UC r';subst hits;obtain⟨⟨sq,j8,j9,ie⟩,n0,o1,o2,o3,o4⟩:=pl;dsimp only at o2 o3 o4;subst o2 o3 o4;obtain⟨qs,h1,h2⟩:=Yb I1.Aw ho;refine N9 (knd:=AR X.prog X.w) qs (I1.ok.hd hc) (by omega) (by rw[zaa,za2,<-h1.length]) (AA (by rw[zaa,za2];omega)) o1 (λ j p hj=>?_) λ h' tk hd kp=>?_
 ·obtain⟨a1,t,a2,a3⟩:=h2 j p hj;exact⟨a1,t,by rw[List.getElem?_toArray];exact a2,a3⟩
 ·have sr:=qH ho h1 (show KT H1 [] [] from .nil);have br:s1.heap.objs.size<=s1.heap.objs.size:=zag _;have bD:=I1.Aw.fresh br;have ni:=gH ps [];obtain⟨o,es,ep,g1,g2,g3,g4,g5,g6⟩:=hd;refine⟨.ref _,_,I1.laid (t':=tk) (o:=.dT (mkK ps)) kp br ⟨zbp (AA (by unfold mkK;simp at ni;omega)),beq_eq_false_iff_ne.mpr (zbi (zat I1.big)),_,sr.keeps (λ b ys eb=>by rw[Ag (λ z=>by rw[z,bD] at eb;cases eb)];exact eb),o,es,ep,g1,g2,g3,g4,g6⟩,rfl,q _ bD⟩
abbrev SJ:List D->Option (List (D×D))
 |[]=>some []
 | .tup [k,v]::r=>(SJ r).map ((k,v)::·)
 |_=>none
abbrev qI (l:List (D×D)):List D×List D:=l.foldl (λ z kv=>putD z.1 z.2 kv.1 kv.2) ([],[])
abbrev nQ (d:D):M OT:=match d with
 | .lst xs=>(match SJ xs with|some l=>if l.length<=1000/\(l.all λ kv=>keyOk true kv.1)=true then .ok (.BG true (qI l).1 ((qI l).2.map .sh)) else .bad|none=>.bad)
 |_=>.bad
def Yc {K:za0}{H:Hp}{P:Addr->Prop}:∀ {xs:List V}{ds:List D}{l:List (D×D)},Ak K (del H P) xs ds->SJ ds=some l->(l.all λ kv=>keyOk true kv.1)=true->
 ∃ps:List Zt,xs=ps.map (λ p=>V.ref p.t)/\(∀p∈ps,nO H p)/\Paired (λ(p:Zt) (kv:D×D)=>kv.1=.tup (p.κ.map CD)/\BV K (del H P) p.v kv.2) ps l
 |_,[],l,.nil,e,_=>by cases e;exact⟨[],rfl,λ p hp=>(by cases hp),.nil⟩
 |_,d::ds,l,.cons hd ht,e,hk=>by
  unfold SJ at e;split at e
  ·rename_i bm;cases bm
  ·rename_i k v r bm;cases bm;obtain⟨l',e1,e2⟩:=zcl.mp e;subst e2;rw[List.all_cons,zb9] at hk;obtain⟨ps,q1,q2,q3⟩:=Yc ht e1 hk.2;have hK:=EN hk.1;cases hK with
   |t κ =>
    cases hd with
    |tup h1 h2 =>
     obtain⟨x,y,rfl,hx,hy⟩:=h2.two;cases hx with
     |tup g1 g2 =>
      rename_i tt bb fj;have ey:=Ak.keys κ g2;subst ey;refine⟨⟨tt,κ,bb,y⟩::ps,by rw[za5,q1],λ p hp=>?_,.cons ⟨rfl,hy⟩ q3⟩;rcases zab.mp hp with rfl|hp
      ·exact⟨(An h1).2,(An g1).2⟩
      ·exact q2 p hp
  ·cases e
def gJ {K:za0}{H:Hp}{P:Addr->Prop}:∀ {ps:List Zt}{l:List (D×D)}{kvs:List (List Key×V)}{vs:List D},Paired (λ(p:Zt) (kv:D×D)=>kv.1=.tup (p.κ.map CD)/\BV K (del H P) p.v kv.2) ps l->Ak K (del H P) (kvs.map zbw) vs->
 ∃aF,l.foldl (λ z kv=>putD z.1 z.2 kv.1 kv.2) (kvs.map (λ kv=>D.tup (kv.1.map CD)),vs)=((ps.foldl (λ acc p=>putK acc p.κ p.v) kvs).map (λ kv=>D.tup (kv.1.map CD)),aF)/\Ak K (del H P) ((ps.foldl (λ acc p=>putK acc p.κ p.v) kvs).map zbw) aF
 |[],_,kvs,vs,.nil,h=>⟨vs,rfl,h⟩
 |p::ps,_,kvs,vs,.cons (b:=kv) hq t,h=>by
  obtain⟨k,d⟩:=kv;obtain⟨e1,e2⟩:=hq;dsimp only at e1 e2;subst e1;have hf:∀a b:List Key,Bv (.tup (a.map CD)) (.tup (b.map CD))=decide (a=b):=λ a b=>by simp only[Bv];exact Nx a b
  have aV:∃aF,(putD (kvs.map λ kv=>.tup (kv.1.map CD)) vs (.tup (p.κ.map CD)) d)=((putK kvs p.κ p.v).map (λ kv=>.tup (kv.1.map CD)),aF)/\Ak K (del H P) ((putK kvs p.κ p.v).map zbw) aF:=by
   unfold putD putK;rw[Kl (fk:=λ κ:List Key=>D.tup (κ.map CD)) hf];by_cases hh:(kvs.any λ kv=>decide (kv.1=p.κ))=true
   ·rw[if_pos hh,if_pos hh];refine⟨_,by rw[HL (fk:=λ κ:List Key=>D.tup (κ.map CD)) hf],?_⟩;rw[<-HK (fk:=λ κ:List Key=>D.tup (κ.map CD)) hf];exact HM e2 h
   ·rw[if_neg hh,if_neg hh];refine⟨_,by rw[zb3];rfl,?_⟩;rw[zb3];exact h.snoc e2
  obtain⟨x5,g1,g2⟩:=aV;obtain⟨ss,g3,g4⟩:=gJ t g2;refine⟨ss,?_,g4⟩;rw[zav];dsimp only;rw[g1];exact g3
def UE (hc:X.calm=true)(hu:X.A.units+n<cLine)(hg:Gl X "dict")(hm:X.mg "dict" = none)(he:DE X WX true e f)(hv:bootBuiltins "dict" = some (.type "dict"):=by decide +kernel)(hs: ~~~(starEach [e] X.env=[(false,eval e X.env)]))(hn:2<=n:=by decide):
 DN X WX (.Call (.Name "dict" p) [e] [] pos) (λ ρ=>(f ρ).bind nQ):=by
 obtain⟨te,e1,e2⟩:=he;refine⟨_,gI hc hu hg hm e1 hv hs hn,λ P0 P σ H Q ρ E h=>?_⟩;refine e2 P0 P σ H _ ρ E ?_;dsimp only at h;refine XD h λ d h=>?_;intro v H1 s1 hv;unfold nQ at h;split at h
 ·rename_i xs;split at h
  ·rename_i l eb;split at h
   ·rename_i hl;cases hv with
    |lst hs hh =>
     obtain⟨ps,q1,q2,q3⟩:=Yc hh eb hl.2;subst q1;obtain⟨aF,g1,g2⟩:=gJ (kvs:=[]) q3 .nil;refine⟨_,ps,rfl,hs.B8,q2,by rw[q3.length];exact hl.1,λ r hr=>?_⟩;have e3:qI l=((mkK ps).map (λ kv=>D.tup (kv.1.map CD)),aF):=g1;rw[e3] at h;have bq:∀a∈[r],H1 a=none:=λ a ha=>by rw[za9.mp ha];exact hr
     exact h _ [r] _ (s1.trans (AH hr _)) (λ a ha=>Cd s1 (bq a ha)) (by simp) (.dT Am (g2.mono (Bk (AH hr _) bq)).ows)
   ·exact h.elim
  ·exact h.elim
 ·exact h.elim
end
open PySem PySem.Spec PyProof.Rows
section
variable {c:Bool}{P:Addr->Prop}{H:Hp}{a b:Expr}{f g:Ae->M D}{te:TE}
abbrev gK (x y:D):M D:=match x,y with
 | .tup xs,.tup ys=>(match CY xs,CY ys with|some ns,some ms=>.ok (.bl (HT.lexLt ns ms))|_,_=>.bad)
 |_,_=>.bad
def Yd:XF X.K WX (xP X.K) gK:=by
 intro P H x y v w Q ht hx hy h;unfold gK at h;split at h
 ·rename_i xs ys;split at h
  ·rename_i ns ms e1 e2;have:=EC e1;subst this;have:=EC e2;subst this;cases hx with
   |tup h1 h2 =>
    cases hy with
    |tup h3 h4 =>
     have:=Dt h2;subst this;have:=Dt h4;subst this;exact⟨_,_,ns,ms,rfl,rfl,Fj.of (An h1).2,Fj.of (An h3).2,h _ H (Ah.refl H) (.bl _)⟩
  ·exact h.elim
 ·exact h.elim
def abb (hu:X.A.units+n<cLine)(ha:DE X WX c a f)(hb:DE X WX c b g):DE X WX c (.Compare a [.Lt] [b] pos) (λ ρ=>(f ρ).bind λ x=>(g ρ).bind λ y=>gK x y):=eM (dQ (by omega)) Yd ha hb (Jy _)
def gL (hu:X.A.units+n<cLine)(ha:DE X WX c a f)(hb:DE X WX c b g):DT X WX (.Compare a [.Lt] [b] pos) (λ ρ=>((f ρ).bind λ x=>(g ρ).bind λ y=>gK x y).bind Qq):=Gk (dQ (by omega)) Yd ha hb (Jy _)
def gM (hk:DE X WX true a f)(hv:DE X WX true b g):DN X WX (.Dict [some a] [b] pos) (λ ρ=>(f ρ).bind λ k=>(g ρ).bind λ v=>if keyOk false k=true then .ok (.BG false [k] [.sh v]) else .bad):=by
 obtain⟨tk,k1,k2⟩:=hk;obtain⟨tv,v1,v2⟩:=hv;refine⟨_,lG (eC k1 v1 lF) rfl rfl (by simp) (by simp),λ P0 P σ H Q ρ E h p hp=>?_⟩;dsimp only at h;have hn:∀a∈[p],H a=none:=λ a ha=>by rw[za9.mp ha];exact hp
 have s0:Ah H (upd H p (.dK [])):=AH hp _;have E1:Ao X.K P0 (PU P [p]) (upd H p (.dK [])) σ ρ:=E.more s0 HG (λ a ha=>ha.elim (λ z=>(E.BU a z).same s0) λ z=>by
  rw[za9.mp z];exact⟨_,Am,λ _=>⟨λ z=>(by cases z),λ _ z=>by cases z⟩⟩) (Bk s0 hn)
 refine k2 P0 (PU P [p]) σ _ _ ρ E1 ?_;cases q:f ρ with
 |bad=>rw[q] at h;exact h
 |ex x=>rw[q] at h;exact λ H' s=>h H' (s0.trans s)
 |ok k =>
  rw[q] at h;simp only[M.A9] at h;intro y H2 s2 hy;have E2:=E1.same s2;refine v2 P0 (PU P [p]) σ H2 _ ρ E2 ?_;cases q2:g ρ with
  |bad=>rw[q2] at h;exact h
  |ex x=>rw[q2] at h;exact λ H' s=>h H' ((s0.trans s2).trans s)
  |ok d =>
   rw[q2] at h;simp only[M.A9] at h;intro w H3 s3 hw;by_cases hc:keyOk false k=true
   ·rw[if_pos hc] at h;have hK:=EN hc;cases hK with
    |k κ =>
     have ey:=hy.mG;subst ey;refine⟨s3 _ _ (s2 _ _ Am),[(κ,w)],rfl,by simp,?_⟩;have s4:Ah H (upd H3 p (.dK (Hu [] [(κ,w)]))):=λ a o ha=>by
      rw[Ag (λ z=>by rw[z,hp] at ha;cases ha)];exact s3 _ _ (s2 _ _ (s0 _ _ ha))
     have s5:Ah (del H3 (PU P [p])) (del (upd H3 p (.dK (Hu [] [(κ,w)]))) (PU P [p])):=λ a o ha=>by
      obtain⟨n1,n2⟩:=An ha;rw[Ay n1,Ag (λ z=>n1 (.inr (by rw[z];exact za9.mpr rfl)))];exact n2
     refine h _ [p] _ s4 hn (by simp) ?_;have e1:Hu [] [(κ,w)]=[(κ,w)]:=rfl;rw[e1] at s5 ⊢;exact .dK (kvs:=[(κ,w)]) Am (.cons (.sh (hw.mono s5)) .nil)
   ·rw[if_neg hc] at h;exact h.elim
abbrev Ro (x:D)(m:M D):M D:=match x with
 | .BG b ks vs=>m.bind λ y=>if keyOk b y=true then .ok ((Hm ks vs y).getD .AL) else .bad
 |_=>.bad
def nR {K}(h:BV K (del H P) v (.BG bb ks vs)):∃a,v=.ref a/\IsD H a:=by
 cases h with
 |Tw h1 h2=>exact⟨_,rfl,.inl ⟨_,h1.B8⟩⟩
 |Ua h1 h2=>exact⟨_,rfl,.inr ⟨_,h1.B8⟩⟩
def OU {ad}(hu:X.A.units+n<cLine)(ha:DE X WX c o f)(hb:DE X WX c k g)(m:M1 X o "get" apos k ad:=by exact⟨rfl,rfl,rfl,rfl⟩)(hn:1<=n:=by decide):
 DE X WX c (.Call (.Attribute o "get" apos) [k] [] ad) (λ ρ=>(f ρ).bind λ x=>Ro x (g ρ)):=by
 obtain⟨ta,a1,a2⟩:=ha;obtain⟨tb,b1,b2⟩:=hb;refine⟨_,eE (by omega) a1 b1 m,λ P0 P σ H Q ρ E h=>?_⟩;dsimp only at h;refine a2 P0 P σ H _ ρ E ?_;refine XD h λ x h=>?_;intro v H1 s1 hv;unfold Ro at h;split at h
 ·rename_i bb ks vs;obtain⟨a,rfl,hD⟩:=nR hv;refine⟨a,rfl,hD,b2 P0 P σ H1 _ ρ (E.same s1) ?_⟩;cases e2:g ρ with
  |bad=>rw[e2] at h;exact h
  |ex y=>rw[e2] at h;exact gV.same (m:=.ex y) h s1
  |ok y =>
   rw[e2] at h;simp only[M.A9] at h;intro w H2 s2 hw;by_cases hk:keyOk bb y=true
   ·rw[if_pos hk] at h;obtain⟨a',xs,ea,g',hl,bq⟩:=Sz (hv.mono s2.del) hw (EN hk);cases ea;refine⟨_,g',?_⟩;refine gV.same (gV.same h s1) s2 _ H2 (Ah.refl _) ?_;cases eg:Hm ks vs y with
    |none =>
     have:Hm ks xs y=none:=by
      cases x6:Hm ks xs y with
      |none=>rfl
      |some z =>
       have h1:=IM (xs:=xs) (y:=y) bq;have h2:=IM (ks:=ks) (xs:=vs) (y:=y) (by rw[<-hl.length,bq]);rw[h1,x6,eg] at h2;cases h2
     rw[this];exact .AL
    |some d =>
     obtain⟨x,e3,e4⟩:=OL hl eg;rw[e3];exact e4
   ·rw[if_neg hk] at h;exact h.elim
 ·exact h.elim
end
abbrev Itv (K:za0)(a:Addr)(n:Nat):It:=
 ⟨λ i H=>∃xs x,Dr K H a xs/\xs.length=n/\i<n/\xs[n-1-i]?=some x,λ i H x H'=>H'=H/\∀xs,Dr K H a xs->xs[n-1-i]?=some x,λ i H=>∃xs,Dr K H a xs/\xs.length=n/\n<=i⟩
def gN {h:Heap}(h1:h.IsRevIter it a i)(h2:h.IsList a xs):a≠it:=λ z=>by
 subst z;obtain⟨o,e1,e2,_⟩:=h1;obtain⟨o2,e3,e4,_⟩:=h2;rw[e1] at e3;cases e3;rw[e2] at e4;exact absurd (Value.type.inj e4) (by decide)
def gO {K}(a it:Addr)(n:Nat):Turn P w K tg (Itv K a n) [it] it (λ i h=>i<=n/\h.IsRevIter it a ((n:Int)-1-i)) where
 mem:=by simp
 obj:=λ i h st b hb=>by
  have e:b=it:=by simpa using hb
  subst e;obtain⟨_,o,e,c,d⟩:=st;exact⟨o,e,λ v z=>by rw[d] at z;cases z⟩
 keep:=λ i h h' st k=>⟨st.1,st.2.at λ o e=>k it (by simp) o e⟩
 item:=by
  intro X hP hw hK hc i pins s σ H E I hf st hg;subst hP hw hK;obtain⟨xs,x,hq,sv,b5,hx⟩:=hg;obtain⟨aa,rv,p,hz⟩:=I.list hq;obtain⟨u,hu,ru⟩:=rv.get hx;obtain⟨f0,f1,f2,f3,f4,f5⟩:=hf it (by simp);have hl:=rv.length;have sw:aa.toArray.size=n:=by rw[zaa,<-hl,sv]
  have W:=Walks.listRev (prog:=X.prog) (w:=X.w) (A:=X.A) (I.ok.hd hc) it a (gN st.2 p.isList) aa.toArray;rw[sw] at W;refine W.item i s _ _ b5 ⟨st.1,st.2,p.isList⟩ λ v h' tk hv bg kp=>?_;have ev:v=u:=by
   rw[List.getElem?_toArray,hu] at hv;exact (zas hv).symm
  subst ev;have I1:Inv X pins σ H {s with heap:=h',toks:=tk}:=I.turned (t':=tk) (λ b o hb e=>kp b o (by simpa using hb) e) f0 f1 f3 f4 f5;obtain⟨o,e,c,d⟩:=id bg.2.1;exact⟨v,rfl,TQ (s:={s with heap:=h',toks:=tk}) e c d (by decide) ⟨x,H,I1,ru,⟨rfl,λ ys hy=>by rw[I.Hr hy hq];exact hx⟩,⟨bg.1,bg.2.1⟩,λ b hb=>(hf b hb).1⟩⟩
 done:=by
  intro X hP hw hK hc i pins s σ H E I hf st hg;subst hP hw hK;obtain⟨xs,hq,sv,b5⟩:=hg;obtain⟨aa,rv,p,hz⟩:=I.list hq;obtain⟨f0,f1,f2,f3,f4,f5⟩:=hf it (by simp);have hl:=rv.length;have sw:aa.toArray.size=n:=by rw[zaa,<-hl,sv]
  have W:=Walks.listRev (prog:=X.prog) (w:=X.w) (A:=X.A) (I.ok.hd hc) it a (gN st.2 p.isList) aa.toArray;rw[sw] at W;have sx:i=n:=Nat.le_antisymm st.1 b5;subst sx;exact W.done s _ _ ⟨st.1,st.2,p.isList⟩ λ h' tk kp=>⟨rfl,I.turned (t':=tk) (λ b o hb e=>kp b o (by simpa using hb) e) f0 f1 f3 f4 f5⟩
 self:=λ _ _ _ _ _ st h=>wpAny_pyIter_revIter st.2 h
section
variable {a:Expr}{f:Ae->M D}{p:Pos}{te:TE}
abbrev abc (K:za0)(ta:TA):TI:=λ σ H R=>ta σ H λ vs H1=>∃a xs,vs=[.ref a]/\Dr K H1 a xs/\R (Itv K a xs.length) H1
def uF (hg:Gl X "reversed")(hm:X.mg "reversed" = none)(ha:PA X [a] ta)(hb:bootBuiltins "reversed" = some (.type "reversed"):=by decide +kernel)(hs: ~~~(starEach [a] X.env=[(false,eval a X.env)])):
 PI X tg (.Call (.Name "reversed" p) [a] [] pos) (abc X.K ta):=by
 intro pins s σ H R I h;refine Call_ (D5 I hg hm hb (zbe (Bi (ha pos pins s σ H _ I h) λ us s1 zz=>?_) hs rfl));obtain⟨vs,H1,I1,r1,q1⟩:=zz;obtain⟨j,xs,e,hq,q⟩:=q1;subst e;cases r1 with
 |cons r rr =>
  cases rr;cases r;obtain⟨aa,rv,p,hz⟩:=I1.list hq;have hl:=rv.length;refine call_reversed_list p.isList ?_;have hit:(s1.heap.push (revObj j ((aa.toArray.size:Int)-1))).IsRevIter s1.heap.objs.size j ((xs.length:Int)-1-(0:Nat)):=by
   rw[zaa,<-hl];exact⟨_,zar _ rfl,rfl,by simp[revObj]⟩
  refine wpAny_pyIter_revIter (s:={s1 with heap:=s1.heap.push (revObj j ((aa.toArray.size:Int)-1))}) hit ?_;refine⟨s1.heap.objs.size,[s1.heap.objs.size],_,_,H1,rfl,I1.kept (t':=s1.toks) λ b o e=>zac _ e,gO j _ xs.length,⟨zbb _,hit⟩,λ b hb=>?_,q⟩;have e:b=s1.heap.objs.size:=by simpa using hb
  subst e;exact I1.VQ (zag _) (I1.Aw.fresh (zag _))
def uG (hg:Gl X "reversed")(hm:X.mg "reversed" = none)(ha:DE X WX true a f)(hb:bootBuiltins "reversed" = some (.type "reversed"):=by decide +kernel)(hs: ~~~(starEach [a] X.env=[(false,eval a X.env)])):
 DI X WX tg (.Call (.Name "reversed" p) [a] [] pos) (λ ρ=>(f ρ).bind λ d=>match d with | .lst ds=>.ok ds.reverse|_=>.bad):=by
 obtain⟨ta,a1,a2⟩:=ha;refine⟨_,uF hg hm (Bd a1 Cv hs) hb hs,λ P0 P σ H R ρ E h=>?_⟩;dsimp only at h;refine a2 P0 P σ H _ ρ E ?_;cases q:f ρ with
 |bad|ex x=>rw[q] at h;exact h
 |ok d =>
  rw[q] at h;cases d with
  |lst ds =>
   intro v H1 s1 hv;cases hv with
   | @lst a xs _ hs hl =>
    have hlen:=hl.length;refine⟨a,xs,rfl,hs.B8,h _ H1 s1 ⟨λ i P' H' s hi=>?_,λ i P' H' s hi=>?_,λ i P' H' v du d s ht hd y=>?_⟩⟩
    ·rw[zbq] at hi;obtain⟨x,hx,_⟩:=hl.get (za6 (show xs.length-1-i<ds.length by omega));exact⟨xs,x,(s.seq hs).B8,rfl,by omega,hx⟩
    ·rw[zbq] at hi;exact⟨xs,(s.seq hs).B8,rfl,by omega⟩
    ·obtain⟨rfl,y⟩:=y;have ag:=(zah.mp hd).1;rw[zbq] at ag;rw[List.getElem?_reverse ag] at hd;obtain⟨x,hx,ba⟩:=hl.get hd;have e:=y xs (s.seq hs).B8;rw[hlen,hx] at e;cases e;exact⟨Ah.refl _,ba.mono s⟩
  |_=>exact h.elim
end
structure uH (K:za0)(x qual:Str)(st:Stmt)(f:Addr)(fd:FuncData):Prop where
 ex:∃(oc:Value) (od:Option Addr) (dV kV doc pm:Value) (an:Option Addr) (B6 ct:Value) (VH:Array (Option Value)),
  fd=zbl x qual (BE st) (AW st) (A6 st) dV kV doc pm an B6 ct/\K.lookup f=some ⟨oc,od,.func fd,VH⟩/\zca K B6 qual=true
 kp:zbn K (.ref f)=true
section
variable {P:Program}{w:World}{K:za0}{mg:Str->Option Value}{base:Heap}
def nS {st}(F:uH K x qual st f fd)(S:Aj N ps (A6 st))(g:Ae->M Out)(hb:∀(B6:Value) (A:Around) (outer:List Env) (s:Shared) (H:Hp) (E:XK),C4 k (A.deeper (envOfC qual (A6 st) s.heap.objs.size f B6))->VI (pZ P w K mg base N qual (A6 st) f B6 A outer s H E) (EI K E) (AW st) g):
 Ea P w K mg base (Z8 P w base) (k+1) f fd ps (Rc K ps.length λ t av=>EO (g (Dl N t av))):=by
 obtain⟨oc,od,dV,kV,doc,pm,an,B6,ct,VH,rfl,lk,bc⟩:=F.ex;refine Xs lk bc S (λ vs H Q E h=>h.1) λ A outer s H vs Q E hr h=>?_;obtain⟨hl,P',p,t,fp,rest,av,rfl,ht,hp,nd,ho,hv,hq⟩:=h;obtain⟨tt,h1,h2⟩:=hb B6 A outer s H E hr;refine⟨tt,h1,h2 ⟨λ a=>P' a/\a∉fp,λ _=>p⟩ P' _ H _ _ (Ko ht hp nd ho hv) ?_⟩;dsimp only at hq;revert hq;cases g (Dl N t av) with
 |bad|ex x=>exact λ h=>h.elim
 |ok o =>
  have sub:∀ {P2:Addr->Prop} {H2:Hp} {σ2:St} {ρ:Ae},Ao K ⟨λ a=>P' a/\a∉fp,λ _=>p⟩ P2 H2 σ2 ρ->∀a,P2 a/\¬ (P' a/\a∉fp)->P2 a/\(P' a->a∈fp):=λ E a ha=>⟨ha.1,λ z=>zd4 λ w=>ha.2 ⟨z,w⟩⟩;cases o with
  |ret d|CO d=>exact λ h=>h.elim
  |next ρ =>
   intro hq σ' H' P2 t2 E2;unfold EO at hq;dsimp only at hq;split at hq
   ·rename_i t' e;obtain⟨c,ah,k1,k2,k3,k4,k5,k6⟩:=Nz E2 e;exact hq .AL H' P2 ah [] (λ a ha hn=>⟨E2.sub a ⟨ha,hn⟩,t2.2 a ⟨ha,hn⟩⟩) E2.BU t2.1 k4 k5 (.sh .AL) zby (λ a ha=>by cases ha) (λ a ha=>sub E2 a (k6 a ha)) (λ a ha=>by cases ha)
   ·exact hq.elim
  |FU r ρ =>
   intro hq v fr σ' H' P2 t2 E2 o2 aP hf;unfold EO at hq;dsimp only at hq;split at hq
   ·rename_i t' e;obtain⟨c,ah,k1,k2,k3,k4,k5,k6⟩:=Nz E2 e;exact hq v H' P2 ah fr (λ a ha hn=>⟨E2.sub a ⟨ha,hn⟩,t2.2 a ⟨ha,hn⟩⟩) E2.BU t2.1 k4 k5 o2 aP (λ a ha=>(hf a ha).2.2 0 c _ ah k1 k2 k3) (λ a ha=>sub E2 a (k6 a ha)) (λ a ha=>sub E2 a ⟨(hf a ha).1,(hf a ha).2.1⟩)
   ·exact hq.elim
  |brk ρ|cont ρ=>exact λ h=>h.elim
end
def nT {K}{st}{kV}(l:K.lookup f=some ⟨oc,od,.func (zbl x qual (BE st) (AW st) (A6 st) dV kV doc pm an B6 ct),VH⟩)(c:zca K B6 qual=true)(k:zbn K (.ref f)=true):uH K x qual st f (zbl x qual (BE st) (AW st) (A6 st) dV kV doc pm an B6 ct):=⟨⟨oc,od,dV,kV,doc,pm,an,B6,ct,VH,rfl,l,c⟩,k⟩
structure Rp (P:Program)(w:World)(K:za0)(mg:Str->Option Value)(base:Heap)(x:Str)(k n:Nat)(F:OT->List D->M (OT×OT)):Prop where
 ex:∃C fa fd ps,uD K mg x C/\Mk K C fa/\Ea P w K mg base (Z8 P w base) k fa fd ps (Rc K n F)/\Binds K fd ps []/\Binds K fd ps [.none]
def Rp.ini {K}(G:Rp P w K mg base x k n F):zD P w K mg base x k n F:=by
 obtain⟨C,fa,fd,ps,h1,h2,h3,h4,_⟩:=G.ex;exact⟨⟨C,fa,fd,ps,h1,h2,h3,h4⟩⟩
structure WA (K:za0)(mg:Str->Option Value)(x qual:Str)(st:Stmt)(ps:List Str):Prop where
 ex:∃C f fd,uD K mg x C/\Mk K C f/\uH K "__init__" qual st f fd/\Binds K fd ps []/\Binds K fd ps [.none]
def gQ {K}{st}(T:WA K mg x qual st ps)(S:Aj N ps (A6 st))(g:Ae->M Out)(hb:∀(f:Addr) (B6:Value) (A:Around) (outer:List Env) (s:Shared) (H:Hp) (E:XK),C4 k (A.deeper (envOfC qual (A6 st) s.heap.objs.size f B6))->VI (pZ P w K mg base N qual (A6 st) f B6 A outer s H E) (EI K E) (AW st) g)(hn: ~~~(ps.length=n)):
 Rp P w K mg base x (k+1) n (λ t av=>EO (g (Dl N t av))):=by
 obtain⟨C,f,fd,h1,h2,F,hB⟩:=T.ex;subst hn;exact⟨⟨C,f,fd,ps,h1,h2,nS F S g (hb f),hB⟩⟩
section
variable {E:XK}{c:Bool}{fs:Ae->M (List D)}{H:Hp}
def gR (xo:HB X E)(G:Rp X.prog X.w X.K X.mg X.base x k n F)(hr:C4 (k+1) X.A)(hg:Gl X x)(ha:DA X (EI X.K E) true (e::es) fs)(aG:(e::es).length+2=n)(aU:(x==("__debug__" : Str))=false:=by decide)(he: ~~~(starEach (e::es) X.env=(false,eval e X.env)::starEach es X.env))(hpl: ~~~((backTo pos (starEach es X.env)).any (·.1)=false)):
 DN X (EI X.K E) (.Call (.Name x p) (e::es) [] pos) (λ ρ=>(fs ρ).bind λ ds=>Rk (F (.ins x [] []) (ds++[.AL]))):=by
 obtain⟨C,fa,fd,ps,hT,hM,hF,_,hb⟩:=G.ex;obtain⟨ta,a1,a2,a3⟩:=ha;refine⟨_,Xr hM hF hr hg hT.mg' hb (show Vals [.AL] [.none] from .cons (show RelV .AL .none from rfl) .nil) xo.call a1 aU he hpl,λ P0 P σ H Q ρ Ev h=>?_⟩;dsimp only at h;refine a2 P0 P σ H _ ρ Ev ?_;cases q:fs ρ with
 |bad|ex x=>rw[q] at h;exact h
 |ok ds =>
  rw[q] at h;simp only[M.A9] at h;intro vs H1 s1 aA y dx hy hd ae;have E1:=Ev.same s1;have sm:=Rj (C:=C) hy hd;have bH:∀a∈[y],H1 a=none:=λ a ha=>by rw[za9.mp ha];exact hy
  refine⟨by rw[za8,zal,aA.length,a3 ρ ds q];exact aG,PU P [y],y,.ins x [] [],[y],vs++[.AL],ds++[.AL],rfl,λ a ha=>?_,λ a ha=>.inr ha,by simp,C6.ins (fs:=[]) hT.ns Am .nil,(aA.mono (Bk sm bH)).append (.cons .AL .nil),?_⟩
  ·rcases ha with ha|ha
   ·exact (E1.BU a ha).same sm
   ·rw[za9.mp ha];exact⟨_,Am,λ xs=>⟨(λ z=>by cases z),(λ z w=>by cases w)⟩⟩
  ·cases q2:F (.ins x [] []) (ds++[.AL]) with
   |bad|ex z=>rw[q2] at h;exact h
   |ok tr =>
    obtain⟨t,r⟩:=tr;rw[q2] at h;simp only[Rk] at h;intro v H' P' ah fr k1 k2 k3 k4 k5 k6 k7 k8 k9 rh;cases r with
    |sh d =>
     cases d with
     |AL =>
      cases k6 with
      |sh hv =>
       cases hv;refine⟨rfl,h _ ah H' ?_ ?_ k5 ?_⟩
       ·intro b u eb;have e1:=s1 b u eb;have bL:b≠y:=λ z=>by rw[z,hy] at e1;cases e1
        have e2:=sm b u e1;by_cases hP:P b
        ·exact (k1 b (.inl hP) (by simp[bL])).2.trans e2
        ·exact (An (k3 b u (by rw[Ay λ z=>z.elim hP λ w=>bL (za9.mp w)];exact e2))).2
       ·intro b j4;cases eb:H b with
        |none=>rfl
        |some u =>
         exfalso;have e1:=s1 b u eb;have bL:b≠y:=λ z=>by rw[z,hy] at e1;cases e1
         have e2:=sm b u e1;have hn:=λ z=>bL (za9.mp ((k9 b j4).2 z));exact (An (k3 b u (by rw[Ay hn];exact e2))).1 (k9 b j4).1
       ·refine k4.move (λ b u eb=>?_) λ _ _=>rfl;obtain⟨g1,g2⟩:=An eb;rw[Ay]
        ·exact g2
        ·rintro (z|z)
         ·have bL:b≠y:=λ w=>by
           obtain⟨o,e1,_⟩:=E1.BU b z;rw[w,hy] at e1;cases e1
          exact g1 (k1 b (.inl z) (by simp[bL])).1
         ·exact g1 (k9 b z).1
     |_=>exact h.elim
    |_=>exact h.elim
end
def ln0 {P:List Value->Prop}(h:P [])(us:List Value)(hl:us.length=0):P us:=by
 cases us with
 |nil=>exact h
 |cons _ _=>cases hl
def ln1 {P:List Value->Prop}(h:∀a,P [a])(us:List Value)(hl:us.length=1):P us:=by
 cases us with
 |nil=>cases hl
 |cons a us=>exact ln0 (P:=λ l=>P (a::l)) (h a) us (Nat.succ.inj hl)
def ln2 {P:List Value->Prop}(h:∀a b,P [a,b])(us:List Value)(hl:us.length=2):P us:=by
 cases us with
 |nil=>cases hl
 |cons a us=>exact ln1 (P:=λ l=>P (a::l)) (λ b=>h a b) us (Nat.succ.inj hl)
def ln3 {P:List Value->Prop}(h:∀a b c,P [a,b,c])(us:List Value)(hl:us.length=3):P us:=by
 cases us with
 |nil=>cases hl
 |cons a us=>exact ln2 (P:=λ l=>P (a::l)) (λ b c=>h a b c) us (Nat.succ.inj hl)
def ln4 {P:List Value->Prop}(h:∀a b c d,P [a,b,c,d])(us:List Value)(hl:us.length=4):P us:=by
 cases us with
 |nil=>cases hl
 |cons a us=>exact ln3 (P:=λ l=>P (a::l)) (λ b c d=>h a b c d) us (Nat.succ.inj hl)
def ln5 {P:List Value->Prop}(h:∀a b c d e,P [a,b,c,d,e])(us:List Value)(hl:us.length=5):P us:=by
 cases us with
 |nil=>cases hl
 |cons a us=>exact ln4 (P:=λ l=>P (a::l)) (λ b c d e=>h a b c d e) us (Nat.succ.inj hl)
def AS {K}{st}(X:K.In h)(G:h.Ns mainGlobals mg)(p:FP K x st)(hb:∀(kV dc pm:Value) (an:Option Addr) (cd ct:Value) (us:List Value),us.length=ps.length->bindArgs (zbl x x (BE st) (AW st) (A6 st) .none kV dc pm an cd ct) ⟨us,[]⟩=pure (ps.zip us):=by first | exact (λ _ _ _ _ _ _=>ln1 λ _=>rfl) | exact (λ _ _ _ _ _ _=>ln2 λ _ _=>rfl) | exact (λ _ _ _ _ _ _=>ln3 λ _ _ _=>rfl) | exact (λ _ _ _ _ _ _=>ln4 λ _ _ _ _=>rfl)):AK K mg x st ps:=by
 obtain⟨f,oc,od,an,sl,kV,dc,pm,cd,ct,a,l,c,k⟩:=p.ex;have F:=W9 (st:=st) l c k;exact⟨⟨_,_,F,PySem.W.mg_of X G a,F.binds hb⟩⟩
def UG {K}{st}(aC:zb5 K mainGlobals x=some (some (.ref C)))(cl:YS K C)(p:MP K C m qual st)(hb:∀(kV dc pm:Value) (an:Option Addr) (cd ct:Value) (us:List Value),us.length=ps.length->bindArgs (zbl m qual (BE st) (AW st) (A6 st) .none kV dc pm an cd ct) ⟨us,[]⟩=pure (ps.zip us):=by first | exact (λ _ _ _ _ _ _=>ln1 λ _=>rfl) | exact (λ _ _ _ _ _ _=>ln2 λ _ _=>rfl) | exact (λ _ _ _ _ _ _=>ln3 λ _ _ _=>rfl) | exact (λ _ _ _ _ _ _=>ln4 λ _ _ _ _=>rfl)):OR K x m qual st ps:=by
 obtain⟨f,oc,od,an,sl,kV,dc,pm,cd,ct,a,i,l,c,k⟩:=p.ex;have F:=W9 (st:=st) l c k;exact⟨⟨_,_,_,aC,cl,⟨a,i,k⟩,F,F.binds hb⟩⟩
open PySem PySem.W PySem.Calls PyProof.Rows
abbrev R0:Rn:=⟨topRun,Heap.nsMap,importEnds,fenceModules?,PySem.start,treeTable⟩
def uI:R0=R1:=by
 unfold R0 R1;rw[PySem.W.Fast.te14082659384304107361,PySem.W.Fast.te8920871248978507458,PySem.W.Fast.te10274390034422433532,PySem.W.Fast.te14289696077712309145,PySem.W.Fast.te1435165496053646825,PySem.W.Fast.te14364793385576792824]
def Ye (p:Program)(w:World)(N:Nat):openEnds treeTable p w N=O1 R0 p w N:=by
 unfold openEnds fencedOpening O1;rfl
def OV:∀ {as:List Addr},(zY h as).lookup a=some o->h.get? a=some o
 |[],e=>by cases e
 |b::r,e=>by
  unfold zY at e;rw[zcd] at e;cases q:h.get? b with
  |none=>rw[q] at e;exact OV (as:=r) e
  |some u =>
   rw[q] at e;dsimp only [zbr] at e;rw[zc8] at e;cases c:a==b with
   |true=>rw[c] at e;cases e;rw[eq_of_beq c];exact q
   |false=>rw[c] at e;exact OV (as:=r) e
abbrev zE (h h':Heap):Prop:=∀(b:Addr) (o:Obj),h.get? b=some o->h'.get? b=some o
def uJ (s:zE h h'):(zY h as).In h':=λ a o e=>s a o (OV e)
def nU (h:∀w:World,(openEnds treeTable p w N).map (λ s=>openSeen q [] (importedModules p.main.body) Xt true s)=some (openGood q [])):LeftO p q [] Xt (λ s=>s.heap) (λ w=>cK R0 p w N) N:=λ w=>by
 have e:=h w;unfold cK;dsimp only;rw[<-Ye];cases q':openEnds treeTable p w N with
 |none=>rw[q'] at e;cases e
 |some s =>
  rw[q'] at e;rw[zbr] at e ⊢;dsimp only;rw[zas e]
def SK {α β γ:Type}{o:Option γ}{f}{a:α×β}(h:o.map (λ s=>(f s).1)=some a.1)(k:o.map (λ s=>(f s).2)=some a.2):o.map f=some a:=by
 cases o with
 |none=>cases h
 |some s =>
  rw[zbr] at h k ⊢;exact congrArg some (Prod.ext (zas h) (zas k))
def zF {l:PySem.W.OpenLaw}{K:World->za0}{CX:World->Xp}{sp:World->Sp}(hn:l.most=some n)(a5:n<=sizeLine)(gz:d.params.defaults=[])(hr:C4 k callerA)(hY:∀(w:World) (h:Heap),YP w h->(K w).In h)(F:∀(w:World) (mg:Str->Option Value) (fa:Addr) (h:Heap),(K w).In h->h.Ns mainGlobals mg->mg d.name=some (.ref fa)->∃fd:FuncData,(∀(s:Shared) (u:Value),BindsTo s fd ⟨[u],[]⟩ [(x,u)])/\
  ∀base:Heap,(K w).In base->base.Ns mainGlobals mg->Ea l.prog w (K w) mg base (CX w) k fa fd [x] (sp w))(bE:∀(w:World) (H:Hp) (a:Addr) (ns:List Int),(∀n∈ns,Sm n)->ns.length<=n->lB H->Dr (K w) H a (ns.map V.int)->sp w [.ref a] H (λ v _=>v=.bl true) λ _ _ _=>False)(jn:∀(w:World) (H:Hp) (s:Shared) (e:Value) (s':Shared),CX w [] H s (λ _ _ _=>False) e s'->False):PySem.W.WalkO q loose XP YP l.row.toRowW d [] (λ f vs=>PySem.call f vs):=by
 refine HT.R8 hn gz λ w s₀ s₁ mg mb fa o pm cd doc a vs ns bC G Y ho hd bc g7 cu bo hlen hg=>?_;have KX:=hY w _ Y;obtain⟨fd,hb,hF⟩:=F w mg fa _ KX G.T.g g7;exact U2 KX G.T.g G.T.b G.T.builtins G.T.nolimit hg cu bo (zbu hlen a5) hr hF hb (λ H hO hS=>bE w H a ns bC hlen hO hS) λ H e s'=>jn w H s₁ e s'
abbrev cst:Option (Int×Int)->D
 |none=>.AL
 |some p=>.tup [.int p.1,.int p.2]
abbrev Ap:Option (Int×Int)->Option (Int×Int)->Option (Int×Int)
 |some p,some q=>some (p.1+q.1,p.2+q.2)
 |_,_=>none
abbrev gU (p q:Int×Int):Int×Int:=if p.1<q.1\/(p.1=q.1/\p.2<=q.2) then p else q
abbrev De:Option (Int×Int)->Option (Int×Int)->Option (Int×Int)
 |none,b=>b
 |some p,none=>some p
 |some p,some q=>some (gU p q)
abbrev Er (cs:List (Option (Int×Int))):Option (Int×Int):=cs.foldl De none
def My (cs:List (Option (Int×Int))):B9 (λ d ρ=>.ok (ρ.set 0 (some (.val d)))) (λ ρ=>(rv 0 ρ).bind λ x=>.ok (!AZ x)) (rv 0) (cs.map cst) [none]=.ok ((cs.filterMap id).map λ p=>cst (some p)):=by
 induction cs with
 |nil=>rfl
 |cons c r ih =>
  rw[za5,B9];cases c with
  |none =>
   show B9 _ _ _ (r.map cst) [none]=_;rw[ih];rfl
  |some p =>
   show (match B9 _ _ _ (r.map cst) [none] with | .ok ys=>M.ok (cst (some p)::ys)|_=>.bad)=_;rw[ih];rfl
def Zu (ps:List (Int×Int)):HA (ps.map λ p=>cst (some p))=some (ps.map λ p=>(cst (some p),[p.1,p.2])):=by
 induction ps with
 |nil=>rfl
 |cons p r ih=>rw[za5,HA,ih];rfl
def gW (cs:List (Option (Int×Int))):Bj ((cs.filterMap id).map λ p=>(cst (some p),[p.1,p.2]))=(Er cs).map λ p=>(cst (some p),[p.1,p.2]):=by
 have key:∀(cs:List (Option (Int×Int))) (z:Option (Int×Int)),((cs.filterMap id).map λ p=>(cst (some p),[p.1,p.2])).foldl C5 (z.map λ p=>(cst (some p),[p.1,p.2]))=(cs.foldl De z).map λ p=>(cst (some p),[p.1,p.2]):=by
  intro cs;induction cs with
  |nil=>intro z;rfl
  |cons c r ih =>
   intro z;cases c with
   |none =>
    rw[show List.filterMap id (none::r)=List.filterMap id r from rfl,zav,ih z];cases z<;>rfl
   |some q =>
    rw[show List.filterMap id (some q::r)=q::List.filterMap id r from rfl,za5,zav,zav,<-ih (De z (some q))];congr 1;cases z with
    |none=>rfl
    |some p =>
     simp only[zbr,C5,HT.Gg,HT.Fy,De,gU];by_cases h1:q.1=p.1
     ·by_cases h2:q.2=p.2
      ·rw[if_pos (show p.1<q.1\/(p.1=q.1/\p.2<=q.2) by omega)];simp[h1,h2]
      ·by_cases h3:q.2<p.2
       ·rw[if_neg (show ¬ (p.1<q.1\/(p.1=q.1/\p.2<=q.2)) by omega)];simp[h1,h2,h3]
       ·rw[if_pos (show p.1<q.1\/(p.1=q.1/\p.2<=q.2) by omega)];simp[h1,h2,h3]
     ·by_cases h3:q.1<p.1
      ·rw[if_neg (show ¬ (p.1<q.1\/(p.1=q.1/\p.2<=q.2)) by omega)];simp[h1,h3]
      ·rw[if_pos (show p.1<q.1\/(p.1=q.1/\p.2<=q.2) by omega)];simp[h1,h3]
 exact key cs none
def nV (cs:List (Option (Int×Int))):XI (.lst ((cs.filterMap id).map λ p=>cst (some p))) .AL=.ok (cst (Er cs)):=by
 simp only[XI,Zu,gW];cases Er cs<;>rfl
def gY (cs:List (Option (Int×Int))):Kd (B9 (λ d ρ=>.ok (ρ.set 0 (some (.val d)))) (λ ρ=>(rv 0 ρ).bind λ x=>.ok (!AZ x)) (rv 0) (cs.map cst) [none])=.ok (.lst ((cs.filterMap id).map λ p=>cst (some p))):=by
 rw[My];rfl
noncomputable abbrev Co:=Option (Int×Int)
variable {Cf:Int->Int->Co}
abbrev BI:Co->Co->Prop
 |_,none=>True
 |none,some _=>False
 |some p,some q=>p.1<q.1\/(p.1=q.1/\p.2<=q.2)
def BY:∀a:Co,BI a a
 |none=>trivial
 |some p=>.inr ⟨rfl,zd3 _⟩
def Aq:∀ {a b c:Co},BI a b->BI b c->BI a c
 |_,_,none,_,_=>trivial
 |none,none,some _,_,h|some _,none,some _,_,h|none,some _,some _,h,_=>h.elim
 |some p,some q,some r,h1,h2=>by simp only[BI] at *;omega
def L9:∀ {a b:Co},BI a b->BI b a->a=b
 |none,none,_,_=>rfl
 |none,some _,h,_|some _,none,_,h=>h.elim
 |some p,some q,h1,h2=>by
  obtain⟨p1,p2⟩:=p;obtain⟨q1,q2⟩:=q;simp only[BI] at h1 h2;have e1:p1=q1:=by omega
  have e2:p2=q2:=by omega
  rw[e1,e2]
def BJ:∀a b:Co,(De a b=a/\BI a b)\/(De a b=b/\BI b a/\a≠b)
 |none,none=>.inl ⟨rfl,trivial⟩
 |none,some q=>.inr ⟨rfl,trivial,λ h=>by cases h⟩
 |some p,none=>.inl ⟨rfl,trivial⟩
 |some p,some q=>by
  unfold De gU;by_cases h:p.1<q.1\/(p.1=q.1/\p.2<=q.2)
  ·dsimp only;rw[if_pos h];exact .inl ⟨rfl,h⟩
  ·dsimp only;rw[if_neg h];refine .inr ⟨rfl,?_,λ e=>?_⟩
   ·simp only[BI];omega
   ·cases e;exact h (.inr ⟨rfl,zd3 _⟩)
def DR (a b:Co):BI (De a b) a:=by
 rcases BJ a b with ⟨e,h⟩|⟨e,h,_⟩
 ·rw[e];exact BY a
 ·rw[e];exact h
def Es (a b:Co):BI (De a b) b:=by
 rcases BJ a b with ⟨e,h⟩|⟨e,h,_⟩
 ·rw[e];exact h
 ·rw[e];exact BY b
def UH (cs:List Co):∀z:Co,BI (cs.foldl De z) z/\(∀x∈cs,BI (cs.foldl De z) x)/\(cs.foldl De z=z\/cs.foldl De z∈cs):=by
 induction cs with
 |nil=>intro z;exact⟨BY z,(λ x h=>by cases h),.inl rfl⟩
 |cons c r ih =>
  intro z;obtain⟨h1,h2,h3⟩:=ih (De z c);rw[zav];refine⟨Aq h1 (DR z c),λ x hx=>?_,?_⟩
  ·rcases zab.mp hx with rfl|hx
   ·exact Aq h1 (Es z x)
   ·exact h2 x hx
  ·rcases h3 with h3|h3
   ·rw[h3];rcases BJ z c with ⟨e,_⟩|⟨e,_⟩
    ·exact .inl e
    ·rw[e];exact .inr za3
   ·exact .inr (za4 _ h3)
def NU (h:x∈cs):BI (Er cs) x:=(UH cs none).2.1 x h
def La (cs:List Co):Er cs=none\/Er cs∈cs:=(UH cs none).2.2
def SM (h1:∀x∈cs,BI v x)(h2:v≠none->∃x∈cs,BI x v):Er cs=v:=by
 refine L9 ?_ ?_
 ·cases v with
  |none=>cases Er cs<;>exact trivial
  |some p =>
   obtain⟨x,hx,hl⟩:=h2 (by intro z;cases z);exact Aq (NU hx) hl
 ·rcases La cs with h|h
  ·rw[h];cases v<;>exact trivial
  ·exact h1 _ h
def Cq:∀a b:Co,Ap a b=Ap b a
 |none,none=>rfl
 |none,some _|some _,none=>rfl
 |some p,some q=>by simp only[Ap];rw[Int.add_comm,Int.add_comm p.2]
def Cr:∀ {a b:Co}(c:Co),BI a b->BI (Ap a c) (Ap b c)
 |_,none,c,_=>by cases c<;>exact trivial
 |none,some _,c,h=>h.elim
 |some p,some q,none,h=>trivial
 |some p,some q,some r,h=>by simp only[Ap,BI] at *;omega
abbrev NN:Co->Prop
 |none=>True
 |some p=>0<=p.1/\0<=p.2
def OW:∀ {a b:Co},NN a->NN b->NN (Ap a b)
 |none,none,_,_=>trivial
 |none,some _,_,_|some _,none,_,_=>trivial
 |some p,some q,h1,h2=>by simp only[Ap,NN] at *;omega
def gZ (h1:NN a)(h2:NN b):NN (De a b):=by
 rcases BJ a b with ⟨e,_⟩|⟨e,_⟩
 ·rw[e];exact h1
 ·rw[e];exact h2
abbrev ltN (a b:Co):Prop:=NN a/\BI a b/\a≠b
def Zv (a b c:Co)(h1:ltN a b)(h2:ltN b c):ltN a c:=
 ⟨h1.1,Aq h1.2.1 h2.2.1,λ e=>by subst e;exact h1.2.2 (L9 h1.2.1 h2.2.1)⟩
abbrev rank:Co->Nat×Nat×Nat
 |none=>(1,0,0)
 |some p=>(0,p.1.toNat,p.2.toNat)
def uK:∀a:Co,NN a->Acc ltN a:=by
 have wf:WellFounded (InvImage (Prod.Lex (· < ·) (Prod.Lex (· < ·) (· < ·))) rank):=InvImage.wf rank (Prod.lex Nat.lt_wfRel (Prod.lex Nat.lt_wfRel Nat.lt_wfRel)).wf;intro a;induction a using wf.induction with
 |h a ih =>
  intro ha;refine .intro _ λ b ⟨hb,hl,ae⟩=>ih b ?_ hb;cases b with
  |none=>cases a with
   |none=>exact (ae rfl).elim
   |some p=>exact hl.elim
  |some q=>cases a with
   |none=>exact Prod.Lex.left _ _ (by decide)
   |some p =>
    obtain⟨p1,p2⟩:=p;obtain⟨q1,q2⟩:=q;simp only[BI,NN] at hl ha hb;show Prod.Lex _ _ (0,q1.toNat,q2.toNat) (0,p1.toNat,p2.toNat);refine Prod.Lex.right _ ?_;by_cases h:q1<p1
    ·exact Prod.Lex.left _ _ (by omega)
    ·have e:q1=p1:=by omega
     subst e;have h2:q2≠p2:=λ e=>ae (by rw[e]);exact Prod.Lex.right _ (by omega)
def nW (a:Co):Acc ltN a:=.intro _ λ b h=>uK b h.1
def Zw (cs:List Co):Acc (Qf ltN) cs:=OH ltN nW cs.length cs rfl
structure Road where
 a:Int
 b:Int
 l:Option Int
 w:Int
variable {rs:List Road}
abbrev CJ:Option Int->D
 |none=>.AL
 |some i=>.int i
abbrev Bo (r:Road):D:=.tup [.int r.a,.int r.b,CJ r.l,.int r.w]
abbrev Ad (m:Int)(rs:List Road):D:=.tup [.int m,.lst (rs.map Bo)]
abbrev BH (r:Road):Co:=match r.l with | none=>none | some l=>some (l,1)
structure GZ (m:Nat)(r:Road):Prop where
 a0:0<=r.a
 a1:r.a<m
 b0:0<=r.b
 b1:r.b<m
 l0:∀l,r.l=some l->0<=l
abbrev Lb (r:Road):Road:=⟨r.b,r.a,r.l,r.w⟩
def Yg (h:GZ m r):NN (BH r):=by
 unfold BH;split
 ·trivial
 ·rename_i l e;exact⟨h.l0 l e,by show (0:Int)<=1;decide⟩
abbrev atC (cs:List Co)(i:Int):Co:=cs.getD i.toNat none
def Df (h0:0<=i)(h1:i<cs.length):cs[i.toNat]?=some (atC cs i):=by
 unfold atC;rw[zam,za6 (show i.toNat<cs.length by omega)];rfl
def set_same {α:Type}:∀ {l:List α}{i:Nat}{x:α},l[i]?=some x->l.set i x=l
 |[],_,_,h=>by cases h
 |y::r,0,x,h=>by cases h;rfl
 |y::r,i+1,x,h=>by rw[zaf,set_same (by simpa using h)]
abbrev Dx (r:Road)(cs:List Co):List Co:=cs.set r.b.toNat (De (atC cs r.b) (Ap (atC cs r.a) (BH r)))
def Gw (hi:0<=i)(hj:0<=j)(h1:i<cs.length):atC (cs.set i.toNat v) j=if j=i then v else atC cs j:=by
 unfold atC;rw[zam,zam];by_cases h:j=i
 ·subst h;rw[if_pos rfl,zaz (by omega)];rfl
 ·rw[if_neg h,zbc (by omega)]
structure Good (m s:Nat)(rs:List Road)(cs:List Co):Prop where
 len:cs.length=m
 st:atC cs s=some (0,0)
 nn:∀c∈cs,NN c
 sup:∀p:Int,0<=p->p<m->p≠s->atC cs p≠none->∃r∈rs,r.b=p/\BI (Ap (atC cs r.a) (BH r)) (atC cs p)
def Good.qJ (g:Good m s rs cs){i:Int}(h0:0<=i)(h1:i<m):NN (atC cs i):=
 g.nn _ (zai (Df h0 (by rw[g.len];exact h1)))
def Zx (g:Good m s rs cs)(hr:r∈rs)(Aw:∀r∈rs,GZ m r):
 Good m s rs (Dx r cs)/\(∀i:Int,0<=i->BI (atC (Dx r cs) i) (atC cs i))/\(De (atC cs r.b) (Ap (atC cs r.a) (BH r))=atC cs r.b->Dx r cs=cs)/\
 (De (atC cs r.b) (Ap (atC cs r.a) (BH r))≠atC cs r.b->Qf ltN (Dx r cs) cs):=by
 have ok:=Aw r hr;have d4:r.b<cs.length:=by rw[g.len];exact ok.b1
 have hx:NN (Ap (atC cs r.a) (BH r)):=OW (g.qJ ok.a0 ok.a1) (Yg ok);have hv:NN (De (atC cs r.b) (Ap (atC cs r.a) (BH r))):=gZ (g.qJ ok.b0 ok.b1) hx;have aY:∀i:Int,0<=i->atC (Dx r cs) i=if i=r.b then De (atC cs r.b) (Ap (atC cs r.a) (BH r)) else atC cs i:=λ i hi=>Gw ok.b0 hi d4
 have le:∀i:Int,0<=i->BI (atC (Dx r cs) i) (atC cs i):=λ i hi=>by
  rw[aY i hi];by_cases h:i=r.b
  ·rw[if_pos h,h];exact DR _ _
  ·rw[if_neg h];exact BY _
 refine⟨⟨by unfold Dx;rw[zbj];exact g.len,?_,λ c hc=>?_,λ p h0 h1 hp hn=>?_⟩,le,λ h=>?_,λ h=>?_⟩
 ·rw[aY s (by omega)];by_cases h:(s:Int)=r.b
  ·rw[if_pos h,<-h,g.st];cases q:Ap (atC cs r.a) (BH r) with
   |none=>rfl
   |some x =>
    rw[q] at hx;unfold De gU;dsimp only;rw[if_pos (by simp only[NN] at hx;omega)]
  ·rw[if_neg h];exact g.st
 ·unfold Dx at hc;rcases zda hc with h|h
  ·exact g.nn c h
  ·rw[h];exact hv
 ·rw[aY p h0] at hn ⊢;by_cases h:p=r.b
  ·rw[if_pos h] at hn ⊢;rcases BJ (atC cs r.b) (Ap (atC cs r.a) (BH r)) with ⟨e,_⟩|⟨e,_⟩
   ·rw[e] at hn ⊢;subst h;obtain⟨r',h2,h3,h4⟩:=g.sup r.b h0 h1 hp hn;exact⟨r',h2,h3,Aq (Cr _ (le r'.a (Aw r' h2).a0)) h4⟩
   ·rw[e];exact⟨r,hr,h.symm,Cr _ (le r.a ok.a0)⟩
  ·rw[if_neg h] at hn ⊢;obtain⟨r',h2,h3,h4⟩:=g.sup p h0 h1 hp hn;exact⟨r',h2,h3,Aq (Cr _ (le r'.a (Aw r' h2).a0)) h4⟩
 ·unfold Dx;rw[h];exact set_same (Df ok.b0 d4)
 ·unfold Dx;exact XN ltN (Df ok.b0 d4) ⟨hv,DR _ _,h⟩
abbrev Right (m s:Nat)(rs:List Road)(cs:List Co):Prop:=
 cs.length=m/\atC cs s=some (0,0)/\(∀c∈cs,NN c)/\∀p:Int,0<=p->p<m->p≠s->atC cs p=Er ((rs.filter λ r=>decide (r.b=p)).map λ r=>Ap (BH r) (atC cs r.a))
def right_of (g:Good m s rs cs)(h:∀r∈rs,De (atC cs r.b) (Ap (atC cs r.a) (BH r))=atC cs r.b):Right m s rs cs:=by
 refine⟨g.len,g.st,g.nn,λ p h0 h1 hp=>?_⟩;symm;refine SM (λ x hx=>?_) λ hn=>?_
 ·obtain⟨r,hr,rfl⟩:=zaq.mp hx;obtain⟨h2,h3⟩:=zb2.mp hr;have e:r.b=p:=by simpa using h3
  have:=Es (atC cs r.b) (Ap (atC cs r.a) (BH r));rw[h r h2,e] at this;rw[Cq];exact this
 ·obtain⟨r,h2,h3,h4⟩:=g.sup p h0 h1 hp hn;refine⟨_,zaq.mpr ⟨r,zb2.mpr ⟨h2,by simpa using h3⟩,rfl⟩,?_⟩;rw[Cq];exact h4
def OX (rs:List Road)(h:s<m):Good m s rs ((zae m none).set s (some (0,0))):=by
 have hl:(zae m (none:Co)).length=m:=zcz;have aY:∀i:Int,0<=i->atC ((zae m none).set s (some (0,0))) i=if i=s then some (0,0) else none:=λ i hi=>by
  have:=Gw (cs:=zae m none) (i:=(s:Int)) (j:=i) (v:=some (0,0)) (by omega) hi (by rw[hl];omega);rw[zbh] at this;rw[this];by_cases h:i=s
  ·rw[if_pos h,if_pos h]
  ·rw[if_neg h,if_neg h];unfold atC;rw[zam,zc6];split<;>rfl
 refine⟨by rw[zbj,hl],?_,λ c hc=>?_,λ p h0 h1 hp hn=>?_⟩
 ·rw[aY s (by omega),if_pos rfl]
 ·rcases zda hc with h|h
  ·rw[List.eq_of_mem_replicate h];trivial
  ·rw[h];exact⟨zd3 _,zd3 _⟩
 ·rw[aY p h0,if_neg hp] at hn;exact (hn rfl).elim
def uL {α:Type}{l:List α}{n:Int}(h:0<=n/\n<l.length):S7 l n=l[n.toNat]? :=by
 unfold S7 Nn;obtain⟨h1,h2⟩:=h;simp[h1,h2]
def NV {n:Nat}{j:Int}(h:0<=j/\j<n):Nn n j=some j.toNat:=by
 unfold Nn;obtain⟨h1,h2⟩:=h;simp[h1,h2]
def Fm {α:Type}{f}{l:List α}{x}(h0:0<=n)(h:l[n.toNat]?=some x):lP (.lst (l.map f)) (.int n)=.ok (f x):=by
 have h1:=(zah.mp h).1;unfold lP;dsimp only;rw[uL (by rw[za2];omega),zan,h];rfl
def BZ (h0:0<=i)(h1:i<cs.length):lP (.lst (cs.map cst)) (.int i)=.ok (cst (atC cs i)):=Fm h0 (Df h0 h1)
def OY (c:Co):Pl (n+1) (cst c):=by
 cases c with
 |none=>exact fD
 |some p=>exact Sq (DQ (Ck _) (DQ (Ck _) Ss))
def Yh (a b:Co):Bv (cst a) (cst b)=decide (a=b):=by
 rcases a with _|⟨a1,a2⟩<;>rcases b with _|⟨b1,b2⟩
 ·simp[cst,Bv]
 ·simp[cst,Bv]
 ·simp[cst,Bv]
 ·rw[zct];simp[cst,Bv,Cp]
def nX (a b:Co):XG 16 (cst a) (cst b)=.ok (.bl (!decide (a=b))):=by rw[Su (OY (n:=15) a) (OY (n:=15) b),Yh]
def Lc (a b:Co):eQ 16 (cst a) (cst b)=.ok (.bl (decide (a=b))):=by rw[Oy (OY (n:=15) a) (OY (n:=15) b),Yh]
def Yi (c:Co):Ki (cst c)=true:=by
 cases c<;>simp[cst,Ki,Kj]
def OZ (c:Co):dp (.ok (cst c))=.ok (cst c):=by
 unfold dp;rw[M.A9,if_pos (Yi c)]
def uM (l:Option Int):Pl n (CJ l):=by
 cases l with
 |none=>exact fD
 |some i=>exact Ck i
def qK (r:Road):Pl 1 (Bo r):=Sq (DQ (Ck _) (DQ (Ck _) (DQ (uM r.l) (DQ (Ck _) Ss))))
def hV (m:Int)(rs:List Road):Pl 3 (Ad m rs):=Sq (DQ (Ck _) (DQ (Sr λ d hd=>by
 obtain⟨r,_,rfl⟩:=zaq.mp hd;exact qK r) Ss))
def BN (h:0<b):Hl (.int a) (.int b)=.ok (.int (a%b)):=by
 unfold Hl Bl;dsimp only;rw[if_pos h]
def Cs (h:cX a b):GU (.int a) (.int b)=.ok (.int (a / b)):=by
 unfold GU Bl;dsimp only;rw[if_pos h]
inductive Wk (rs:List Road):Int->Int->Int×Int->Prop
 |nil (u:Int):Wk rs u u (0,0)
 |cons {r:Road} {l:Int} {w:Int} {c:Int×Int}:r∈rs->r.l=some l->Wk rs r.b w c->Wk rs r.a w (l+c.1,1+c.2)
def Wk.trans (h:Wk rs u v c)(k:Wk rs v w d):Wk rs u w (c.1+d.1,c.2+d.2):=by
 induction h with
 |nil u=>simpa using k
 |cons hr hl _ ih =>
  have:=Wk.cons hr hl (ih k);simpa [zcn] using this
def Wk.one (hr:r∈rs)(hl:r.l=some l):Wk rs r.a r.b (l,1):=by
 have:=Wk.cons hr hl (Wk.nil (rs:=rs) r.b);simpa using this
abbrev Bg (rs:List Road)(u w:Int)(x:Co):Prop:=(∀c,Wk rs u w c->BI x (some c))/\∀p,x=some p->Wk rs u w p
def Bg.Cj (h:Bg rs u w x)(k:Bg rs u w y):x=y:=by
 refine L9 ?_ ?_
 ·cases y with
  |none=>cases x<;>exact trivial
  |some q=>exact h.1 q (k.2 q rfl)
 ·cases x with
  |none=>cases y<;>exact trivial
  |some q=>exact k.1 q (h.2 q rfl)
def G0 (h:BH r=some c):∃l,r.l=some l/\c=(l,1):=by
 unfold BH at h;split at h
 ·cases h
 ·rename_i l e;cases h;exact⟨l,e,rfl⟩
def Dy (h:Ap a b=some c):∃p q,a=some p/\b=some q/\c=(p.1+q.1,p.2+q.2):=by
 cases a with
 |none=>cases h
 |some p=>cases b with
  |none=>cases h
  |some q=>cases h;exact⟨p,q,rfl,rfl,rfl⟩
def Right.min_le (h:Right m s rs cs)(hr:r∈rs)(Aw:GZ m r):BI (atC cs r.b) (Ap (BH r) (atC cs r.a)):=by
 obtain⟨h1,h2,h3,h4⟩:=h;by_cases hs:r.b=s
 ·rw[hs,h2];have hn:NN (Ap (BH r) (atC cs r.a)):=OW (Yg Aw) (h3 _ (zai (Df Aw.a0 (by rw[h1];exact Aw.a1))));cases q:Ap (BH r) (atC cs r.a) with
  |none=>exact trivial
  |some p=>rw[q] at hn;simp only[NN] at hn;simp only[BI];omega
 ·rw[h4 r.b Aw.b0 Aw.b1 hs];exact NU (zaq.mpr ⟨r,zb2.mpr ⟨hr,by simp⟩,rfl⟩)
def Zy (h:Right m s rs cs)(Aw:∀r∈rs,GZ m r)(k:Wk rs u w c):BI (atC cs w) (Ap (atC cs u) (some c)):=by
 induction k with
 |nil u =>
  cases atC cs u with
  |none=>exact trivial
  |some p=>simp only[Ap,BI];omega
 | @cons r l w c hr hl _ ih =>
  refine Aq ih ?_;have h1:=h.min_le hr (Aw r hr);have e:BH r=some (l,1):=by unfold BH;rw[hl]
  rw[e] at h1;cases q:atC cs r.a with
  |none=>exact trivial
  |some p =>
   rw[q] at h1;cases q2:atC cs r.b with
   |none=>rw[q2] at h1;exact h1.elim
   |some p2=>rw[q2] at h1;simp only[Ap,BI] at *;omega
def Zz {m s:Nat}{rs:List Road}{cs:List Co}(h:Right m s rs cs)(Aw:∀r∈rs,GZ m r):∀(n:Nat) (w:Int) (p:Int×Int),0<=w->w<m->atC cs w=some p->p.2.toNat=n->Wk rs s w p:=by
 obtain⟨h1,h2,h3,h4⟩:=h;intro n;induction n with
 |zero =>
  intro w p h0 hw hp hn;by_cases hs:w=s
  ·rw[hs,h2] at hp;cases hp;rw[hs];exact .nil _
  ·exfalso;have e:=h4 w h0 hw hs;rw[hp] at e;rcases La ((rs.filter λ r=>decide (r.b=w)).map λ r=>Ap (BH r) (atC cs r.a)) with z|z
   ·rw[z] at e;cases e
   ·rw[<-e] at z;obtain⟨r,hr,e2⟩:=zaq.mp z;have b8:=(zb2.mp hr).1;obtain⟨p1,p2,e3,e4,e5⟩:=Dy e2;obtain⟨l,hl,rfl⟩:=G0 e3;have ok:=Aw r b8;have nn:=h3 _ (zai (Df ok.a0 (by rw[h1];exact ok.a1)));rw[e4] at nn;simp only[NN] at nn;rw[e5] at hn;simp only at hn;omega
 |succ n ih =>
  intro w p h0 hw hp hn;by_cases hs:w=s
  ·rw[hs,h2] at hp;cases hp;rw[hs];exact .nil _
  ·have e:=h4 w h0 hw hs;rw[hp] at e;rcases La ((rs.filter λ r=>decide (r.b=w)).map λ r=>Ap (BH r) (atC cs r.a)) with z|z
   ·rw[z] at e;cases e
   ·rw[<-e] at z;obtain⟨r,hr,e2⟩:=zaq.mp z;obtain⟨b8,sy⟩:=zb2.mp hr;have sy:r.b=w:=by simpa using sy
    obtain⟨p1,p2,e3,e4,e5⟩:=Dy e2;obtain⟨l,hl,rfl⟩:=G0 e3;have ok:=Aw r b8;have nn:=h3 _ (zai (Df ok.a0 (by rw[h1];exact ok.a1)));rw[e4] at nn;simp only[NN] at nn;subst e5;simp only at hn;have w1:=ih r.a p2 ok.a0 ok.a1 e4 (by omega);have w2:=w1.trans (Wk.one b8 hl);rw[sy] at w2;have e6:((l+p2.1,1+p2.2):Int×Int)=(p2.1+l,p2.2+1):=by rw[Int.add_comm l,Int.add_comm 1]
    show Wk rs s w (l+p2.1,1+p2.2);rw[e6];exact w2
def Right.qL (h:Right m s rs cs)(Aw:∀r∈rs,GZ m r){w:Int}(h0:0<=w)(hw:w<m):Bg rs s w (atC cs w):=by
 refine⟨λ c k=>?_,λ p hp=>Zz h Aw _ w p h0 hw hp rfl⟩;have:=Zy h Aw k;rw[h.2.1] at this;have e:Ap (some (0,0)) (some c)=some c:=by simp[Ap]
 rw[e] at this;exact this
def P5 (h:BI a b)(k:BI c d):BI (Ap a c) (Ap b d):=by
 refine Aq (Cr c h) ?_;rw[Cq b c,Cq b d];exact Cr b k
def ER:∀a b c:Co,Ap (Ap a b) c=Ap a (Ap b c)
 |none,b,c=>by cases b<;>cases c<;>rfl
 |some p,none,c=>by cases c<;>rfl
 |some p,some q,none=>rfl
 |some p,some q,some r=>by simp only[Ap];rw[zcn,zcn]
def Rq:∀a:Co,Ap a (some (0,0))=a
 |none=>rfl
 |some p=>by simp[Ap]
def ZA (a:Co):Ap (some (0,0)) a=a:=by rw[Cq];exact Rq a
def UI (a:Co):De a a=a:=by rcases BJ a a with ⟨e,_⟩ | ⟨e,_⟩<;>exact e
def hX (h:NN b):BI a (Ap a b):=by
 cases a with
 |none=>exact trivial
 |some p=>cases b with
  |none=>exact trivial
  |some q=>simp only[NN] at h;simp only[Ap,BI];omega
structure FW (m k:Nat)(rs:List Road)(A:Int->Int->Co):Prop where
 dg:∀x:Int,0<=x->x<m->A x x=some (0,0)
 nn:∀x y:Int,0<=x->x<m->0<=y->y<m->NN (A x y)
 sd:∀x y:Int,0<=x->x<m->0<=y->y<m->∀p,A x y=some p->Wk rs x y p
 ed:∀r∈rs,BI (A r.a r.b) (BH r)
 tr:∀v x y:Int,0<=v->v<k->0<=x->x<m->0<=y->y<m->BI (A x y) (Ap (A x v) (A v y))
abbrev over (k:Int)(A:Int->Int->Co):Int->Int->Co:=λ x y=>De (A x y) (Ap (A x k) (A k y))
def UJ (F:FW m k rs A)(hk:k<m)(x:Int):over k A x k=A x k:=by
 unfold over;rw[F.dg k (by omega) (by omega),Rq,UI]
def UK (F:FW m k rs A)(hk:k<m)(y:Int):over k A k y=A k y:=by
 unfold over;rw[F.dg k (by omega) (by omega),ZA,UI]
def hZ (F:FW m k rs A)(hk:k<m):FW m (k+1) rs (over k A):=by
 have k0:(0:Int)<=k:=by omega
 have k1:(k:Int)<m:=by omega
 refine⟨λ x h0 h1=>?_,λ x y h0 h1 h2 h3=>gZ (F.nn x y h0 h1 h2 h3) (OW (F.nn x k h0 h1 k0 k1) (F.nn k y k0 k1 h2 h3)),λ x y h0 h1 h2 h3 p hp=>?_,λ r hr=>Aq (DR _ _) (F.ed r hr),λ v x y v0 v1 h0 h1 h2 h3=>?_⟩
 ·unfold over;rw[F.dg x h0 h1];have hn:NN (Ap (A x k) (A k x)):=OW (F.nn x k h0 h1 k0 k1) (F.nn k x k0 k1 h0 h1);cases q:Ap (A x k) (A k x) with
  |none=>rfl
  |some z =>
   rw[q] at hn;simp only[NN] at hn;unfold De gU;dsimp only;rw[if_pos (by omega)]
 ·unfold over at hp;rcases BJ (A x y) (Ap (A x k) (A k y)) with ⟨e,_⟩|⟨e,_⟩
  ·rw[e] at hp;exact F.sd x y h0 h1 h2 h3 p hp
  ·rw[e] at hp;obtain⟨p1,p2,e1,e2,rfl⟩:=Dy hp;exact (F.sd x k h0 h1 k0 k1 p1 e1).trans (F.sd k y k0 k1 h2 h3 p2 e2)
 ·by_cases hv:v=k
  ·subst hv;rw[UJ F hk,UK F hk];exact Es _ _
  ·have vk:v<k:=by omega
   have vm:v<m:=by omega
   have x8:=F.tr v x y v0 vk h0 h1 h2 h3;have x9:=F.tr v k y v0 vk k0 k1 h2 h3;have xL:=F.tr v x k v0 vk h0 h1 k0 k1;have g1:BI (over k A x y) (A x y):=DR _ _;have g2:BI (over k A x y) (Ap (A x k) (A k y)):=Es _ _;have ya:=F.nn k v k0 k1 v0 vm;have yb:=F.nn v k v0 vm k0 k1;have e1:over k A x v=De (A x v) (Ap (A x k) (A k v)):=rfl;have e2:over k A v y=De (A v y) (Ap (A v k) (A k y)):=rfl;rw[e1,e2];rcases BJ (A x v) (Ap (A x k) (A k v)) with ⟨e,_⟩|⟨e,_⟩<;>rcases BJ (A v y) (Ap (A v k) (A k y)) with ⟨e',_⟩|⟨e',_⟩<;>rw[e,e']
   ·exact Aq g1 x8
   ·refine Aq g2 ?_;rw[<-ER];exact Cr _ xL
   ·refine Aq g2 ?_;rw[ER,Cq (A x k),Cq (A x k)];exact Cr _ x9
   ·refine Aq g2 ?_;have e3:Ap (Ap (A x k) (A k v)) (Ap (A v k) (A k y))=Ap (Ap (A x k) (A k y)) (Ap (A k v) (A v k)):=by
     rw[ER,ER,<-ER (A k v),Cq (Ap (A k v) (A v k))]
    rw[e3];exact hX (OW ya yb)
def uN (F:FW m m rs A)(Aw:∀r∈rs,GZ m r){x y:Int}(h0:0<=x)(h1:x<m)(h2:0<=y)(h3:y<m):Bg rs x y (A x y):=by
 refine⟨λ c k=>?_,F.sd x y h0 h1 h2 h3⟩;induction k with
 |nil u=>rw[F.dg u h0 h1];exact BY _
 | @cons r l w c hr hl k' ih =>
  have ok:=Aw r hr;have i1:=ih ok.b0 ok.b1 h2 h3;have t:=F.tr r.b r.a w ok.b0 (by have:=ok.b1;omega) h0 h1 h2 h3;have e:=F.ed r hr;have e':BH r=some (l,1):=by unfold BH;rw[hl]
  rw[e'] at e;refine Aq t (Aq (P5 e i1) ?_);exact BY _
structure Qt (m:Nat)(rs:List Road)(u:Int)(n:Nat)(R:List Co):Prop where
 len:R.length=m
 st:atC R u=some (0,0)
 nn:∀c∈R,NN c
 sd:∀y:Int,0<=y->y<m->∀p,atC R y=some p->Wk rs u y p
 ed:∀r∈rs.take n,r.a=u->BI (atC R r.b) (BH r)
def ZC (rs:List Road)(h:u<m):Qt m rs u 0 ((zae m none).set u (some (0,0))):=by
 have g:=OX (m:=m) (s:=u) rs h;refine⟨g.len,g.st,g.nn,λ y h0 h1 p hp=>?_,λ r hr=>by rw[zd9] at hr;cases hr⟩;by_cases hy:y=u
 ·rw[hy,g.st] at hp;cases hp;rw[hy];exact .nil _
 ·have:=Gw (cs:=zae m none) (i:=(u:Int)) (j:=y) (v:=some (0,0)) (by omega) h0 (by rw[zcz];omega);rw[zbh,if_neg hy] at this;rw[this] at hp;unfold atC at hp;rw[zam,zc6] at hp;split at hp<;>cases hp
def UL (g:Qt m rs u n R)(hr:rs[n]?=some r)(hu:r.a≠u):Qt m rs u (n+1) R:=
 ⟨g.len,g.st,g.nn,g.sd,λ r' aL aj=>by
  rw[zbt,hr] at aL;rcases zao.mp aL with h|h
  ·exact g.ed r' h aj
  ·have:r'=r:=by simpa using h
   rw[this] at aj;exact (hu aj).elim⟩
def UM (g:Qt m rs u n R)(hr:rs[n]?=some r)(hu:r.a=u)(Aw:∀r∈rs,GZ m r):Qt m rs u (n+1) (R.set r.b.toNat (De (atC R r.b) (BH r))):=by
 have hm:=zai hr;have ok:=Aw r hm;have d4:r.b<R.length:=by rw[g.len];exact ok.b1
 have aY:∀i:Int,0<=i->atC (R.set r.b.toNat (De (atC R r.b) (BH r))) i=if i=r.b then De (atC R r.b) (BH r) else atC R i:=λ i hi=>Gw ok.b0 hi d4
 have nb:NN (atC R r.b):=g.nn _ (zai (Df ok.b0 d4));refine⟨by rw[zbj];exact g.len,?_,λ c hc=>?_,λ y h0 h1 p hp=>?_,λ r' aL aj=>?_⟩
 ·rw[aY u (by rw[<-hu];exact ok.a0)];by_cases h:u=r.b
  ·rw[if_pos h,<-h,g.st];have hx:=Yg ok;cases q:BH r with
   |none=>rfl
   |some z =>
    rw[q] at hx;simp only[NN] at hx;unfold De gU;dsimp only;rw[if_pos (by omega)]
  ·rw[if_neg h];exact g.st
 ·rcases zda hc with h|h
  ·exact g.nn c h
  ·rw[h];exact gZ nb (Yg ok)
 ·rw[aY y h0] at hp;by_cases h:y=r.b
  ·rw[if_pos h] at hp;rcases BJ (atC R r.b) (BH r) with ⟨e,_⟩|⟨e,_⟩
   ·rw[e] at hp;rw[h];exact g.sd r.b ok.b0 ok.b1 p hp
   ·rw[e] at hp;obtain⟨l,hl,rfl⟩:=G0 hp;rw[h,<-hu];exact Wk.one hm hl
  ·rw[if_neg h] at hp;exact g.sd y h0 h1 p hp
 ·have sB:r'∈rs:=zc7 aL;rw[aY r'.b (Aw r' sB).b0];rw[zbt,hr] at aL;rcases zao.mp aL with h|h
  ·by_cases hb:r'.b=r.b
   ·rw[if_pos hb];have:=g.ed r' h aj;rw[hb] at this;exact Aq (DR _ _) this
   ·rw[if_neg hb];exact g.ed r' h aj
  ·have e:r'=r:=by simpa using h
   rw[e,if_pos rfl];exact Es _ _
abbrev at2 (ac:List (List Co))(x y:Int):Co:=atC (ac.getD x.toNat []) y
abbrev AD (ac:List (List Co)):List (List D):=ac.map λ R=>R.map cst
structure P6 (m:Nat)(ac:List (List Co)):Prop where
 len:ac.length=m
 row:∀R∈ac,R.length=m
def P6.get (h:P6 m ac){x:Int}(h0:0<=x)(h1:x<m):ac[x.toNat]?=some (ac.getD x.toNat [])/\(ac.getD x.toNat []).length=m:=by
 have hl:x.toNat<ac.length:=by rw[h.len];omega
 have e:ac[x.toNat]?=some (ac.getD x.toNat []):=by rw[zam,za6 hl];rfl
 exact⟨e,h.row _ (zai e)⟩
abbrev put2 (ac:List (List Co))(x y:Int)(v:Co):List (List Co):=ac.set x.toNat ((ac.getD x.toNat []).set y.toNat v)
def P6.put (h:P6 m ac){x y:Int}(h0:0<=x)(h1:x<m)(h2:0<=y)(h3:y<m)(v:Co):P6 m (put2 ac x y v)/\∀x' y':Int,0<=x'->0<=y'->at2 (put2 ac x y v) x' y'=if x'=x/\y'=y then v else at2 ac x' y':=by
 obtain⟨e,hl⟩:=h.get h0 h1;refine⟨⟨by unfold put2;rw[zbj];exact h.len,λ R hR=>?_⟩,λ x' y' hx hy=>?_⟩
 ·unfold put2 at hR;rcases zda hR with z|z
  ·exact h.row R z
  ·rw[z,zbj];exact hl
 ·unfold at2 put2;by_cases vq:x'=x
  ·subst vq;have e2:(ac.set x'.toNat ((ac.getD x'.toNat []).set y.toNat v)).getD x'.toNat []=(ac.getD x'.toNat []).set y.toNat v:=by
    rw[zam (l:=ac.set _ _),zaz (by rw[h.len];omega)];rfl
   rw[e2,Gw h2 hy (by rw[hl];exact h3)];by_cases nj:y'=y
   ·rw[if_pos nj,if_pos ⟨rfl,nj⟩]
   ·rw[if_neg nj,if_neg (λ z=>nj z.2)]
  ·have e2:(ac.set x.toNat ((ac.getD x.toNat []).set y.toNat v)).getD x'.toNat []=ac.getD x'.toNat []:=by
    rw[zam,zbc (by omega),zam]
   rw[e2,if_neg (λ z=>vq z.1)]
def UN (h:P6 m ac){x:Int}(h0:0<=x)(h1:x<m):rowAt (AD ac) (.int x)=.ok ((ac.getD x.toNat []).map cst):=by
 obtain⟨e,hl⟩:=h.get h0 h1;have e1:Nn (AD ac).length x=some x.toNat:=NV ⟨h0,by unfold AD;rw[za2,h.len];exact h1⟩;have e2:(AD ac)[x.toNat]?=some ((ac.getD x.toNat []).map cst):=by unfold AD;rw[zan,e];rfl
 unfold rowAt;simp only[e1,e2]
def nY (h:P6 m ac){x y:Int}(h0:0<=x)(h1:x<m)(h2:0<=y)(h3:y<m):lP (.lst ((ac.getD x.toNat []).map cst)) (.int y)=.ok (cst (at2 ac x y)):=
 BZ h2 (by rw[(h.get h0 h1).2];exact h3)
def nZ (h:P6 m ac){x y:Int}(h0:0<=x)(h1:x<m)(h2:0<=y)(h3:y<m)(i:Nat)(ρ:Ae)(v:Co):lZ i ρ (AD ac) (cst v) (.int x) ((ac.getD x.toNat []).map cst) (.int y)=.ok (.next (ρ.set i (some (.ow (.rows (AD (put2 ac x y v))))))):=by
 have e1:Nn (AD ac).length x=some x.toNat:=NV ⟨h0,by unfold AD;rw[za2,h.len];exact h1⟩;have e2:Nn ((ac.getD x.toNat []).map cst).length y=some y.toNat:=NV ⟨h2,by rw[za2,(h.get h0 h1).2];exact h3⟩;unfold lZ;simp only[e1,e2];unfold AD put2;rw[List.map_set,List.map_set]
def FW.congr (F:FW m k rs A)(hk:k<=m)(Aw:∀r∈rs,GZ m r)(h:∀x y:Int,0<=x->x<m->0<=y->y<m->B x y=A x y):FW m k rs B:=by
 refine⟨λ x h0 h1=>?_,λ x y h0 h1 h2 h3=>?_,λ x y h0 h1 h2 h3 p hp=>?_,λ r hr=>?_,λ v x y v0 v1 h0 h1 h2 h3=>?_⟩
 ·rw[h x x h0 h1 h0 h1];exact F.dg x h0 h1
 ·rw[h x y h0 h1 h2 h3];exact F.nn x y h0 h1 h2 h3
 ·rw[h x y h0 h1 h2 h3] at hp;exact F.sd x y h0 h1 h2 h3 p hp
 ·have ok:=Aw r hr;rw[h r.a r.b ok.a0 ok.a1 ok.b0 ok.b1];exact F.ed r hr
 ·rw[h x y h0 h1 h2 h3,h x v h0 h1 v0 (by omega),h v y v0 (by omega) h2 h3];exact F.tr v x y v0 v1 h0 h1 h2 h3
def iA (hM:P6 m ac)(Aw:∀r∈rs,GZ m r)(h:∀u:Nat,u<m->Qt m rs u rs.length (ac.getD u [])):FW m 0 rs (at2 ac):=by
 have key:∀x:Int,0<=x->x<m->Qt m rs x rs.length (ac.getD x.toNat []):=λ x h0 h1=>by
  have:=h x.toNat (by omega);rw[Int.toNat_of_nonneg h0] at this;exact this
 refine⟨λ x h0 h1=>(key x h0 h1).st,λ x y h0 h1 h2 h3=>(key x h0 h1).nn _ (zai (Df h2 (by rw[(key x h0 h1).len];exact h3))),λ x y h0 h1 h2 h3 p hp=>(key x h0 h1).sd y h2 h3 p hp,λ r hr=>?_,λ v x y v0 v1=>by omega⟩;have ok:=Aw r hr;exact (key r.a ok.a0 ok.a1).ed r (by rw[zbs];exact hr) rfl
abbrev hit (rs:List Road)(cs:List Co)(p:Nat)(k:Nat):Bool:=match rs[k]? with
 |some r=>decide (r.b=(p:Int))&&decide (Ap (atC cs r.a) (BH r)≠none)&&decide (Ap (atC cs r.a) (BH r)=atC cs (p:Int))
 |none=>false
abbrev pbr (rs:List Road)(cs:List Co)(p:Int):Co:=Er ((rs.filter λ r=>decide (r.a=p)).map λ r=>Ap (BH r) (atC cs r.b))
abbrev WB (m:Nat)(rs:List Road)(g:Nat)(cs:List Co):Bool:=(zay m).all λ p=>decide (atC cs (p:Int)=if p=g then some (0,0) else pbr rs cs (p:Int))
def Wk.nn (Aw:∀r∈rs,GZ m r)(h:Wk rs u w c):0<=c.1/\0<=c.2:=by
 induction h with
 |nil=>exact⟨zd3 _,zd3 _⟩
 |cons hr hl _ ih =>
  have:=(Aw _ hr).l0 _ hl;simp only;omega
def SN (hg:g<m)(Aw:∀r∈rs,GZ m r)(h:∀u:Int,0<=u->u<m->Bg rs u g (atC cs u)):WB m rs g cs=true:=by
 unfold WB;rw[zdf];intro p hp;have hp:=zc4.mp hp;rw[decide_eq_true_eq];have hm:=h p (by omega) (by omega);by_cases e:p=g
 ·rw[if_pos e];subst e;refine L9 (hm.1 _ (.nil _)) ?_;cases q:atC cs (p:Int) with
  |none=>exact trivial
  |some c =>
   have:=(hm.2 c q).nn Aw;simp only[BI];omega
 ·rw[if_neg e];symm;refine SM (λ x hx=>?_) λ hn=>?_
  ·obtain⟨r,hr,rfl⟩:=zaq.mp hx;obtain⟨h1,h2⟩:=zb2.mp hr;have yc:r.a=(p:Int):=by simpa using h2
   have ok:=Aw r h1;have hb:=h r.b ok.b0 ok.b1;cases q1:BH r with
   |none =>
    have:Ap none (atC cs r.b)=none:=by cases atC cs r.b<;>rfl
    rw[this];cases atC cs (p:Int)<;>exact trivial
   |some z =>
    obtain⟨l,hl,rfl⟩:=G0 q1;cases q2:atC cs r.b with
    |none =>
     have:Ap (some (l,1)) none=none:=rfl;rw[this];cases atC cs (p:Int)<;>exact trivial
    |some c =>
     have w:=Wk.cons h1 hl (hb.2 c q2);rw[yc] at w;exact hm.1 _ w
  ·obtain⟨c,hc⟩:=Option.ne_none_iff_exists'.mp hn;have w:=hm.2 c hc;rw[hc];generalize hpi:(p:Int)=pi at w;cases w with
   |nil=>exact (e (by omega)).elim
   | @cons r l w c' hr hl w' =>
    have ok:=Aw r hr;have hb:=(h r.b ok.b0 ok.b1).1 c' w';refine⟨_,zaq.mpr ⟨r,zb2.mpr ⟨hr,by simpa using rfl⟩,rfl⟩,?_⟩;have e1:BH r=some (l,1):=by unfold BH;rw[hl]
    rw[e1];have:=P5 (BY (some (l,1))) hb;exact this
abbrev pD (p:Int×Int):D:=.tup [.int p.1,.int p.2]
def Gx (p q:Int×Int):Bv (pD p) (pD q)=decide (p=q):=by
 obtain⟨a,b⟩:=p;obtain⟨c,d⟩:=q;unfold pD;simp only[Bv,Cp,Bool.and_true];rw[zct];simp
def HU (p:Int×Int):keyOk true (pD p)=true:=rfl
def Yj (B:List (Int×Int))(p:Int×Int):N7 (B.map pD) (pD p)=decide (p∈B):=by
 unfold N7;rw[List.any_map,zct];simp only[List.any_eq_true,Function.comp,Gx,decide_eq_true_eq];constructor
 ·rintro ⟨x,hx,rfl⟩;exact hx
 ·intro h;exact⟨p,h,rfl⟩
def SO (B:List (Int×Int))(vs:List D)(neg:Bool)(a b:Int):Km neg (.tup [.int a,.int b]) (.BG true (B.map pD) vs)=.ok (.bl (if neg=true then !decide ((a,b)∈B) else decide ((a,b)∈B))):=by
 unfold Km;dsimp only;have h1:keyOk true (D.tup [D.int a,D.int b])=true:=rfl;have h2:N7 (B.map pD) (D.tup [D.int a,D.int b])=decide ((a,b)∈B):=Yj B (a,b);rw[if_pos h1,h2]
abbrev M7 (B:List (Int×Int))(p:Int×Int):List (Int×Int):=if p∈B then B else B++[p]
abbrev DZ {α:Type}(B:List α):List D:=B.map λ _=>.bl true
def Rr {α:Type}(f:α->D)(y:D):∀B:List α,JK (B.map f) (DZ B) y (.bl true)=DZ B
 |[]=>rfl
 |b::r=>by
  show JK (f b::r.map f) (.bl true::DZ r) y (.bl true)=.bl true::DZ r;rw[JK,Rr f y r];split<;>rfl
def Yk (B:List (Int×Int))(p:Int×Int):putD (B.map pD) (DZ B) (pD p) (.bl true)=((M7 B p).map pD,DZ (M7 B p)):=by
 unfold putD M7;rw[Yj];by_cases h:p∈B
 ·rw[decide_eq_true h,if_pos rfl,if_pos h,Rr]
 ·rw[decide_eq_false h,if_neg (by simp),if_neg h];unfold DZ;simp
def UO:q∈M7 B p↔q∈B\/q=p:=by
 unfold M7;split
 ·constructor
  ·exact .inl
  ·rintro (h|rfl)
   ·exact h
   ·assumption
 ·simp
def WC (h:B.Nodup):(M7 B p).Nodup:=by
 unfold M7;split
 ·exact h
 ·rename_i hn;exact zau.mpr ⟨h,by simp,λ a ha b hb z=>by simp at hb;subst hb;subst z;exact hn ha⟩
def G1 {α:Type}[DecidableEq α]:∀ {l u:List α},l.Nodup->(∀x∈l,x∈u)->l.length<=u.length
 |[],_,_,_=>zbb _
 |x::r,u,nd,h=>by
  have aP:=zb6.mp nd;have hx:=h x za3;have ih:=G1 (l:=r) (u:=u.erase x) aP.2 λ y hy=>(List.mem_erase_of_ne (λ z=>aP.1 (by rw[<-z];exact hy))).mpr (h y (za4 _ hy));have e:=List.length_erase_of_mem hx;have:0<u.length:=List.length_pos_of_mem hx;rw[za8];omega
def iB (p:Int×Int):Ki (pD p)=true:=by simp[pD,Ki,Kj]
abbrev Bw (m:Nat):List Int:=(zay m).map λ i:Nat=>(i:Int)
def P7 (m:Nat):((zay m).map λ i:Nat=>D.int (i:Int))=(Bw m).map D.int:=by unfold Bw;rw[zbm];rfl
def ES (m:Nat):(Bw m).length=m:=by unfold Bw;simp
def HV:p∈Bw m↔0<=p/\p<m:=by
 unfold Bw;constructor
 ·intro h;obtain⟨i,hi,rfl⟩:=zaq.mp h;have:=zc4.mp hi;omega
 ·rintro ⟨h0,h1⟩;exact zaq.mpr ⟨p.toNat,zc4.mpr (by omega),by omega⟩
abbrev Bh (B:List (Int×Int))(L:List Int)(v:Int):List (Int×Int):=(L.filter λ u=>decide ((u,v)∈B)).flatMap λ u=>((L.filter λ w=>decide ((v,w)∈B)).filter λ w=>decide (u≠w) && !decide ((u,w)∈B)).map λ w=>(u,w)
abbrev uO (B:List (Int×Int)):Prop:=∀x,(x,x)∉B
def ZD (B:List (Int×Int))(L:List Int)(v:Int):(Bh B L v).length<=L.length*L.length:=by
 unfold Bh;rw[List.length_flatMap];have key:∀l:List Int,(l.map λ u=>(((L.filter λ w=>decide ((v,w)∈B)).filter λ w=>decide (u≠w) && !decide ((u,w)∈B)).map λ w=>(u,w)).length).sum<=l.length*L.length:=by
  intro l;induction l with
  |nil=>simp
  |cons u r ih =>
   rw[za5,List.sum_cons,za8,Nat.succ_mul];have:(((L.filter λ w=>decide ((v,w)∈B)).filter λ w=>decide (u≠w) && !decide ((u,w)∈B)).map λ w=>(u,w)).length<=L.length:=by
    rw[za2];exact zbu (zd0 _ _) (zd0 _ _)
   omega
 exact zbu (key _) (Nat.mul_le_mul_right _ (zd0 _ _))
def Rt {α:Type}(f:α->List Int):∀l:List α,HA (l.map λ x=>D.tup ((f x).map D.int))=some (l.map λ x=>(D.tup ((f x).map D.int),f x))
 |[]=>rfl
 |x::r=>by
  rw[za5,HA,Rt f r];simp[fA,EB]
def Ru (h:p∈Bh B L v):p.1∈L/\p.2∈L/\p.1≠p.2:=by
 unfold Bh at h;obtain⟨u,hu,h⟩:=List.mem_flatMap.mp h;obtain⟨w,hw,rfl⟩:=zaq.mp h;have h1:=zb2.mp hw;have h2:=zb2.mp h1.1;have h3:=zb2.mp hu;simp at h1;exact⟨h3.1,h2.1,h1.2.1⟩
abbrev Cz (B ps:List (Int×Int)):List (Int×Int):=ps.foldl M7 B
structure CB (m:Nat)(B:List (Int×Int)):Prop where
 nd:B.Nodup
 no:uO B
 inn:∀p∈B,(0<=p.1/\p.1<m)/\(0<=p.2/\p.2<m)
def CB.add {m:Nat}{B:List (Int×Int)}(h:CB m B){p:Int×Int}(hp:p.1≠p.2)(h1:0<=p.1/\p.1<m)(h2:0<=p.2/\p.2<m):CB m (M7 B p):=by
 refine⟨WC h.nd,λ x hx=>?_,λ q hq=>?_⟩
 ·rcases UO.mp hx with z|z
  ·exact h.no x z
  ·subst z;exact hp rfl
 ·rcases UO.mp hq with z|z
  ·exact h.inn q z
  ·subst z;exact⟨h1,h2⟩
def CB.Cz (h:CB m B):∀ {ps:List (Int×Int)},(∀p∈ps,p.1≠p.2/\(0<=p.1/\p.1<m)/\(0<=p.2/\p.2<m))->CB m (L2.Cz B ps):=by
 intro ps;induction ps generalizing B with
 |nil=>intro _;exact h
 |cons p r ih =>
  intro hp;have:=hp p za3;exact ih (h.add this.1 this.2.1 this.2.2) λ q hq=>hp q (za4 _ hq)
def CB.len (h:CB m B)(hm:m<=20):B.length<1000:=by
 have key:=G1 (l:=B) (u:=(zay m).flatMap λ i:Nat=>(zay m).map λ j:Nat=>((i:Int),(j:Int))) h.nd λ p hp=>by
  obtain⟨h1,h2⟩:=h.inn p hp;refine List.mem_flatMap.mpr ⟨p.1.toNat,zc4.mpr (by omega),zaq.mpr ⟨p.2.toNat,zc4.mpr (by omega),?_⟩⟩;rw[Int.toNat_of_nonneg h1.1,Int.toNat_of_nonneg h2.1]
 have e:((zay m).flatMap λ i:Nat=>(zay m).map λ j:Nat=>((i:Int),(j:Int))).length=m*m:=by
  rw[List.length_flatMap];simp[List.map_const',List.sum_replicate_nat]
 rw[e] at key;have:m*m<=20*20:=Nat.mul_le_mul hm hm;omega
def FD (a b c d:Int):HT.lexLt [a,b] [c,d]=decide (a<c\/(a=c/\b<d)):=by
 rw[HT.Gg,HT.Gg,HT.Fy,zct];by_cases h1:a=c
 ·subst h1;by_cases h2:b=d
  ·subst h2;simp
  ·simp[h2]
 ·simp[h1]
def ZE {α β:Type}(f:α->β):∀bs:List (α×List Int),Bj (bs.map λ b=>(f b.1,b.2))=(Bj bs).map λ b=>(f b.1,b.2):=by
 intro bs;unfold Bj
 suffices z:∀o:Option (α×List Int),(bs.map λ b=>(f b.1,b.2)).foldl C5 (o.map λ b=>(f b.1,b.2))=(bs.foldl C5 o).map λ b=>(f b.1,b.2) from z none
 induction bs with
 |nil=>intro o;rfl
 |cons b r ih =>
  intro o;rw[za5,zav,zav,<-ih];congr 1;cases o with
  |none=>rfl
  |some c =>
   unfold C5;dsimp only [zbr];split<;>rfl
def iC {α:Type}:∀(bs:List (α×List Int)) (o:Option (α×List Int)) (b:α×List Int),bs.foldl C5 o=some b->b∈bs\/o=some b:=by
 intro bs;induction bs with
 |nil=>intro o b h;exact .inr h
 |cons x r ih =>
  intro o b h;rw[zav] at h;rcases ih _ _ h with q|q
  ·exact .inl (za4 _ q)
  ·cases o with
   |none=>cases q;exact .inl za3
   |some c =>
    unfold C5 at q;dsimp only at q;split at q
    ·cases q;exact .inl za3
    ·exact .inr q
def ZF {α:Type}{bs}(h2:∀b∈bs,∃x y:Int,b.2=[x,y]){b:α×List Int}(hb:Bj bs=some b):∀c∈bs,HT.lexLt c.2 b.2=false:=by
 unfold Bj at hb
 suffices z:∀(bs:List (α×List Int)) (o:Option (α×List Int)),(∀b∈bs,∃x y:Int,b.2=[x,y])->(∀b,o=some b->∃x y:Int,b.2=[x,y])->∀b,bs.foldl C5 o=some b->(∀c∈bs,HT.lexLt c.2 b.2=false)/\(∀c,o=some c->HT.lexLt c.2 b.2=false) from (z bs none h2 (λ b h=>by cases h) b hb).1
 intro bs;induction bs with
 |nil =>
  intro o _ ho b h;refine⟨λ c hc=>(by cases hc),λ c hc=>?_⟩;have e:o=some b:=h;rw[hc] at e;cases e;obtain⟨x,y,e⟩:=ho _ hc;rw[e,FD];simp
 |cons d r ih =>
  intro o h2 ho b h;rw[zav] at h;have hd:=h2 d za3;have aH:∀b,C5 o d=some b->∃x y:Int,b.2=[x,y]:=λ b hb=>by
   unfold C5 at hb;cases o with
   |none=>cases hb;exact hd
   |some c =>
    dsimp only at hb;split at hb
    ·cases hb;exact hd
    ·cases hb;exact ho _ rfl
  obtain⟨i1,i2⟩:=ih (C5 o d) (λ c hc=>h2 c (za4 _ hc)) aH b h;have yd:=JE o d;obtain⟨k,hk⟩:∃k,C5 o d=some k:=by
   cases q:C5 o d with
   |none=>exact (yd q).elim
   |some k=>exact⟨k,rfl⟩
  have ye:=i2 k hk;obtain⟨kx,ky,ek⟩:=aH k hk;have fb:∃x y:Int,b.2=[x,y]:=by
   have:=iC r (C5 o d) b h;rcases this with z|z
   ·exact h2 b (za4 _ z)
   ·exact aH b z
  obtain⟨bx,by',eb⟩:=fb;obtain⟨dx,dy,ed⟩:=hd;rw[ek,eb,FD,decide_eq_false_iff_not] at ye;have c4:HT.lexLt d.2 b.2=false/\∀c,o=some c->HT.lexLt c.2 b.2=false:=by
   unfold C5 at hk;cases o with
   |none =>
    cases hk;rw[ed] at ek;injection ek with e1 e2
    injection e2 with e2 _
    refine⟨?_,λ c hc=>by cases hc⟩;rw[ed,eb,FD,decide_eq_false_iff_not];omega
   |some c =>
    obtain⟨cx,cy,ec⟩:=ho c rfl;dsimp only at hk;rw[ed,ec,FD] at hk;by_cases hl:dx<cx\/(dx=cx/\dy<cy)
    ·rw[if_pos (decide_eq_true hl)] at hk;cases hk;rw[ed] at ek;injection ek with e1 e2
     injection e2 with e2 _
     refine⟨?_,λ c' bf=>?_⟩
     ·rw[ed,eb,FD,decide_eq_false_iff_not];omega
     ·cases bf;rw[ec,eb,FD,decide_eq_false_iff_not];omega
    ·rw[if_neg (by simpa using hl)] at hk;cases hk;rw[ec] at ek;injection ek with e1 e2
     injection e2 with e2 _
     refine⟨?_,λ c' bf=>?_⟩
     ·rw[ed,eb,FD,decide_eq_false_iff_not];omega
     ·cases bf;rw[ec,eb,FD,decide_eq_false_iff_not];omega
  refine⟨λ c hc=>?_,c4.2⟩;rcases zab.mp hc with z|z
  ·rw[z];exact c4.1
  ·exact i1 c z
abbrev BO (B:List (Int×Int))(L:List Int):Int:=match Bj (L.map λ p=>(p,[((Bh B L p).length:Int),p])) with
 |some k=>k.1
 |none=>0
def Rv (h:L≠[]):BO B L∈L/\∀p∈L,¬ (((Bh B L p).length:Int)<(Bh B L (BO B L)).length\/(((Bh B L p).length:Int)=(Bh B L (BO B L)).length/\p<BO B L)):=by
 unfold BO;cases q:Bj (L.map λ p=>(p,[((Bh B L p).length:Int),p])) with
 |none=>exact (Oj (λ z=>h (List.map_eq_nil_iff.mp z)) q).elim
 |some k =>
  obtain⟨p,hp,rfl⟩:=zaq.mp (QZ _ _ q);refine⟨hp,λ p' js=>?_⟩;have:=ZF (λ b hb=>by obtain⟨x,_,rfl⟩:=zaq.mp hb;exact⟨_,_,rfl⟩) q _ (zaq.mpr ⟨p',js,rfl⟩);rw[FD,decide_eq_false_iff_not] at this;exact this
abbrev ZG:Nat->List (Int×Int)->List Int->List Int
 |0,_,_=>[]
 |n+1,B,L=>if L=[] then [] else BO B L::ZG n (Cz B (Bh B L (BO B L))) (L.erase (BO B L))
abbrev Cm (rs:List Road):List (Int×Int):=rs.foldl (λ B r=>match r.l with | none=>B | some _=>M7 B (r.a,r.b)) []
def UP:∀ {rs:List Road},(∀r∈rs,GZ m r/\r.a≠r.b)->CB m (Cm rs):=by
 intro rs
 suffices z:∀(rs:List Road) (B:List (Int×Int)),CB m B->(∀r∈rs,GZ m r/\r.a≠r.b)->CB m (rs.foldl (λ B r=>match r.l with|none=>B|some _=>M7 B (r.a,r.b)) B) from λ h=>z rs [] ⟨zby,λ x h=>(by cases h),λ p h=>(by cases h)⟩ h
 intro rs;induction rs with
 |nil=>intro B h _;exact h
 |cons r t ih =>
  intro B h hr;rw[zav];refine ih _ ?_ λ r' h'=>hr r' (za4 _ h');have:=hr r za3;cases r.l with
  |none=>exact h
  |some l=>exact h.add this.2 ⟨this.1.a0,this.1.a1⟩ ⟨this.1.b0,this.1.b1⟩
def G2:Bl f (.int a) (.int b)=f a b:=rfl
def HW {bs:List Bool}:Zb [.lst (bs.map D.bl)]=.ok (.bl (bs.all id)):=by unfold Zb;dsimp only;rw[OB]
def Ld {bs:List Bool}:yO [.lst (bs.map D.bl)]=.ok (.bl (bs.any id)):=by unfold yO;dsimp only;rw[OB]
def SQ (h:a.length+b.length<=1000):OI (.lst a) (.lst b)=.ok (.lst ((a++b).map .sh)):=if_pos h
def UQ (m:Nat):(Bw m).Pairwise (·<=·):=by
 unfold Bw;rw[List.pairwise_map];exact (List.pairwise_lt_range (n:=m)).imp λ h=>by omega
def P8 (m:Nat):(Bw m).Nodup:=by
 unfold Bw List.Nodup;rw[List.pairwise_map];exact (List.pairwise_lt_range (n:=m)).imp λ h=>by omega
def ZH:HQ L=Bw m↔L.Perm (Bw m):=
 ⟨λ h=>by rw[<-h];exact (EQ L).symm,λ h=>HR ((EQ L).trans h) (Gv L) (UQ m)⟩
def HX (h:L.Perm (Bw m)):L.length=m:=by rw[h.length_eq,ES]
def Ba (h:L.Perm (Bw m)):p∈L↔0<=p/\p<m:=by rw[h.mem_iff,HV]
def Gy (h:L.Perm (Bw m)):L.Nodup:=h.nodup_iff.mpr (P8 m)
def Rw:∀ {a b:List Int},Cp (a.map D.int) (b.map D.int)=decide (a=b)
 |[],[]=>by simp[Cp]
 |[],y::t=>by simp[Cp]
 |x::r,[]=>by simp[Cp]
 |x::r,y::t=>by
  rw[za5,za5,Cp,Rw,Bv];by_cases h:x=y<;>by_cases k:r=t<;>simp[h,k]
def iD {a:List Int}:Bv (.lst (a.map D.int)) (.lst (b.map D.int))=decide (a=b):=by rw[Bv];exact Rw
def iE {a:List Int}:eQ 16 (.lst (a.map D.int)) (.lst (b.map D.int))=.ok (.bl (decide (a=b))):=by rw[Oy (XJ (n:=15) a) (XJ (n:=15) b),iD]
def ZI (h:L.Perm (Bw i))(n:Nat):(L.take n++(i:Int)::L.drop n).Perm (Bw (i+1)):=by
 have e:Bw (i+1)=Bw i++[(i:Int)]:=by unfold Bw;rw[List.range_succ,zb3];rfl
 rw[e];refine List.perm_middle.trans ?_;rw[zcf];exact ((h.cons _).trans (List.perm_append_singleton _ _).symm)
def Le (hi:ρ[i]?=some (some (.own ds)))(h0:0<=p)(h1:p<ds.length):lU i ρ (.ok (.int p)) d=.ok (.next (ρ.set i (some (.own (ds.set p.toNat d))))):=by
 unfold lU;rw[hi];dsimp only;rw[M.A9];unfold tT;dsimp only;rw[NV ⟨h0,h1⟩]
def oA:fN 0 (none::ρ)=none::ρ:=rfl
def iF:∃T Q:Int,Z3 (.int 10) (.int 60)=.ok (.int T)/\Z3 (.int 982451653) (.int 7)=.ok (.int Q)/\1000000<T/\T.natAbs<2^200/\0<Q/\Q.natAbs<2^250:=⟨10^60,982451653^7,rfl,rfl,by decide,by decide,by decide,by decide⟩
abbrev Rx:Int:=za7 iF
def qM:∃Q:Int,Z3 (.int 10) (.int 60)=.ok (.int Rx)/\Z3 (.int 982451653) (.int 7)=.ok (.int Q)/\1000000<Rx/\Rx.natAbs<2^200/\0<Q/\Q.natAbs<2^250:=za1 iF
def qN:Z3 (.int 10) (.int 60)=.ok (.int Rx):=(za1 qM).1
def WD:1000000<Rx:=(za1 qM).2.2.1
def oB:Hl (.int i) (.int Rx)=.ok (.int (i%Rx)):=BN (by have:=WD;omega)
abbrev cl:Nat->D->Prop
 |0,d=>yI d=false
 |n+1,d=>yI d=false/\∀ds,(d=.tup ds\/d=.lst ds)->∀e∈ds,cl n e
structure M8 (m:Nat)(r:Road):Prop where
 a0:0<=r.a
 a1:r.a<m
 b0:0<=r.b
 b1:r.b<m
 ab:r.a≠r.b
 l0:∀l,r.l=some l->0<=l/\l<Rx
 w0:0<=r.w
 w1:r.w<Rx
def iG (h:0<S.length)(h0:0<=q):Hl (.int q) (.int (S.length:Int))=.ok (.int (q%S.length))/\∃y,y∈S/\AJ (.lst S) (.int (q%(S.length:Int)))=.ok y:=by
 have bE:(0:Int)<(S.length:Int):=by omega
 have b0:0<=q%(S.length:Int):=zcg _ (by omega);have b1:q%(S.length:Int)<S.length:=zch _ bE;refine⟨BN bE,S[(q%(S.length:Int)).toNat]'(by omega),List.getElem_mem _,?_⟩;have:=Fm (f:=λ d:D=>d) (l:=S) b0 (za6 (by omega));rw[List.map_id'] at this;exact this
def oC:er (.tup [a,b])=.tup [er a,er b]:=by simp[er,Tx]
section
variable {α β:Type}{a b c d e f g:α}{x y:β}
def oE:(if [a,b,c,d,e].length<=1000 then x else y)=x:=rfl
def oF:(if [a,b,c,d,e,f].length<=1000 then x else y)=x:=rfl
def oG:(if [a,b,c,d,e,f,g].length<=1000 then x else y)=x:=rfl
def NW:er (.BG t [] [])=.BG t [] []:=by simp[er,Tx]
end
structure VM (m:Nat)(rs:List Road)(rk:Int->Nat)(Af:Int->Int->Co):Prop where
 snd:∀x y c,Af x y=some c->Wk rs x y c/\x≠y/\(0<=x/\x<m)/\0<=y/\y<m
 road:∀r∈rs,BI (Af r.a r.b) (BH r)
 tri:∀p x y,x≠y->rk p<rk x->rk p<rk y->BI (Af x y) (Ap (Af x p) (Af p y))
 inj:∀x y:Int,0<=x->x<m->0<=y->y<m->rk x=rk y->x=y
 nn:∀x y c,Wk rs x y c->0<=c.1/\0<=c.2
inductive Lf (Af:Int->Int->Co) (rk:Int->Nat) (s:Int):Int->Int×Int->Prop
 |nil:Lf Af rk s s (0,0)
 |snoc {x y:Int} {c d:Int×Int}:Lf Af rk s x c->rk x<rk y->Af x y=some d->Lf Af rk s y (c.1+d.1,c.2+d.2)
inductive SR (Af:Int->Int->Co) (rk:Int->Nat) (t:Int):Nat->Int->Int×Int->Prop
 |nil:SR Af rk t 0 t (0,0)
 |snoc {n:Nat} {x y:Int} {c d:Int×Int}:SR Af rk t n x c->rk y<rk x->Af x y=some d->SR Af rk t (n+1) y (c.1+d.1,c.2+d.2)
abbrev NX (p q:Int×Int):Prop:=p.1<q.1\/(p.1=q.1/\p.2<=q.2)
def P9 (h:BI a (some q)):∃p,a=some p/\NX p q:=by
 cases a with
 |none=>exact h.elim
 |some p=>exact⟨p,rfl,h⟩
abbrev UD (Af:Int->Int->Co)(rk:Int->Nat)(s w:Int)(c:Int×Int):Prop:=∃t n c1 c2,Lf Af rk s t c1/\SR Af rk t n w c2/\NX (c1.1+c2.1,c1.2+c2.2) c
section
variable {m:Nat}{Af:Int->Int->Co}{s w:Int}
def Lf.walk (L:VM m rs rk Af)(h:Lf Af rk s t c):Wk rs s t c:=by
 induction h with
 |nil=>exact .nil s
 |snoc _ _ ha ih=>exact ih.trans (L.snd _ _ _ ha).1
def SR.walk (L:VM m rs rk Af)(h:SR Af rk t n x c):Wk rs t x c:=by
 induction h with
 |nil=>exact .nil t
 |snoc _ _ ha ih=>exact ih.trans (L.snd _ _ _ ha).1
def uP (L:VM m rs rk Af):∀(n:Nat){t x y:Int}{c1 c2 d:Int×Int},Lf Af rk s t c1->SR Af rk t n x c2->Af x y=some d->UD Af rk s y (c1.1+c2.1+d.1,c1.2+c2.2+d.2):=by
 intro n;induction n with
 |zero =>
  intro t x y c1 c2 d hu hd ha;obtain⟨_,ae,hx,hy⟩:=L.snd _ _ _ ha;cases hd with
  |nil =>
   by_cases h:rk y<rk t
   ·exact⟨t,1,c1,_,hu,.snoc .nil h ha,by simp only[NX];omega⟩
   ·have h2:rk t<rk y:=by
     have hq:rk t≠rk y:=λ e=>ae (L.inj t y hx.1 hx.2 hy.1 hy.2 e);omega
    exact⟨y,0,_,_,.snoc hu h2 ha,.nil,by simp only[NX];omega⟩
 |succ n ih =>
  intro t x y c1 c2 d hu hd ha;obtain⟨hw,ae,hx,hy⟩:=L.snd _ _ _ ha;by_cases h:rk y<rk x
  ·exact⟨t,n+2,c1,_,hu,.snoc hd h ha,by simp only[NX];omega⟩
  ·have h2:rk x<rk y:=by
    have hq:rk x≠rk y:=λ e=>ae (L.inj x y hx.1 hx.2 hy.1 hy.2 e);omega
   cases hd with
   | @snoc _ z _ c e ba hr bJ =>
    have n1:=L.nn _ _ _ hw;have n2:=L.nn _ _ _ (L.snd _ _ _ bJ).1;by_cases hz:z=y
    ·subst hz;exact⟨t,n,c1,c,hu,ba,by simp only[NX];omega⟩
    ·have q:=L.tri x z y hz hr h2;rw[bJ,ha] at q;obtain⟨f,hf,hle⟩:=P9 q;obtain⟨t',n',sK,tf,g1,g2,g3⟩:=ih hu ba hf;refine⟨t',n',sK,tf,g1,g2,?_⟩;simp only[NX] at *;omega
def oH (L:VM m rs rk Af)(h:Wk rs u w c):∀ {c0:Int×Int},UD Af rk s u c0->UD Af rk s w (c0.1+c.1,c0.2+c.2):=by
 induction h with
 |nil u =>
  intro c0 h;simpa using h
 | @cons r l w c hr hl _ ih =>
  intro c0 h0;obtain⟨t,n,c1,c2,g1,g2,g3⟩:=h0;have q:=L.road r hr;unfold BH at q;rw[hl] at q;obtain⟨d,hd,hle⟩:=P9 q;obtain⟨t',n',sK,tf,k1,k2,k3⟩:=uP L n g1 g2 hd;have r1:=@ih (c0.1+l,c0.2+1) ⟨t',n',sK,tf,k1,k2,by simp only[NX] at *;omega⟩;simpa [zcn] using r1
abbrev Kept (rs:List Road)(Af Cf:Int->Int->Co):Prop:=∀x y c,Cf x y=some c↔(Af x y=some c/\Bg rs x y (some c))
def oI (L:VM m rs rk Af)(K:Kept rs Af Cf){t:Int}{c1:Int×Int}(h:Lf Af rk s t c1):∀ {c2:Int×Int},Wk rs t w c2->(∀c,Wk rs s w c->NX (c1.1+c2.1,c1.2+c2.2) c)->Lf Cf rk s t c1:=by
 induction h with
 |nil=>exact λ _ _=>.nil
 | @snoc x y c d hu hr ha ih =>
  intro c2 hw hm;have bJ:=(L.snd _ _ _ ha).1;refine .snoc (ih (c2:=(d.1+c2.1,d.2+c2.2)) (bJ.trans hw) λ c' bf=>?_) hr ((K x y d).mpr ⟨ha,λ e he=>?_,λ p hp=>by cases hp;exact bJ⟩)
  ·have:=hm c' bf;simp only[NX] at *;omega
  ·have:=hm _ (((hu.walk L).trans he).trans hw);simp only[NX,BI] at *;omega
def oJ (L:VM m rs rk Af)(K:Kept rs Af Cf)(hs:Wk rs s t c1)(h:SR Af rk t n x c2):(∀c,Wk rs s x c->NX (c1.1+c2.1,c1.2+c2.2) c)->SR Cf rk t n x c2:=by
 induction h with
 |nil=>exact λ _=>.nil
 | @snoc n x y c d hd hr ha ih =>
  intro hm;have bJ:=(L.snd _ _ _ ha).1;refine .snoc (ih λ c' bf=>?_) hr ((K x y d).mpr ⟨ha,λ e he=>?_,λ p hp=>by cases hp;exact bJ⟩)
  ·have:=hm _ (bf.trans bJ);simp only[NX] at *;omega
  ·have:=hm _ ((hs.trans (hd.walk L)).trans he);simp only[NX,BI] at *;omega
def UR (L:VM m rs rk Af)(K:Kept rs Af Cf)(h:Bg rs s w (some c)):∃t n c1 c2,Lf Cf rk s t c1/\SR Cf rk t n w c2/\c=(c1.1+c2.1,c1.2+c2.2):=by
 obtain⟨t,n,c1,c2,g1,g2,g3⟩:=oH L (h.2 c rfl) (c0:=(0,0)) ⟨s,0,_,_,.nil,.nil,by simp[NX]⟩;have hw:=(g1.walk L).trans (g2.walk L);have q:=h.1 _ hw;have e:c=(c1.1+c2.1,c1.2+c2.2):=by
  obtain⟨a,b⟩:=c;simp only[NX,BI] at *;refine Prod.ext ?_ ?_<;>dsimp only<;>omega
 refine⟨t,n,c1,c2,oI L K g1 (g2.walk L) λ c' bf=>?_,oJ L K (g1.walk L) g2 λ c' bf=>?_,e⟩
 ·have:=h.1 _ bf;rw[e] at this;exact this
 ·have:=h.1 _ bf;rw[e] at this;exact this
structure UpC (rk:Int->Nat)(Cf:Int->Int->Co)(s:Int)(R:Int->Co):Prop where
 st:BI (R s) (some (0,0))
 cl:∀x y,rk x<rk y->BI (R y) (Ap (R x) (Cf x y))
 sd:∀x c,R x=some c->Lf Cf rk s x c
def UpC.le (h:UpC rk Cf s R)(u:Lf Cf rk s t c):BI (R t) (some c):=by
 induction u with
 |nil=>exact h.st
 | @snoc x y c d hu hr ha ih =>
  refine Aq (h.cl x y hr) ?_;rw[ha];exact Cr (some d) ih
structure SwC (rk:Int->Nat)(Cf:Int->Int->Co)(s:Int)(R T:Int->Co)(m:Nat):Prop where
 top:∀x:Int,0<=x->x<m->BI (T x) (R x)
 cl:∀x y:Int,0<=x->x<m->0<=y->y<m->rk y<rk x->BI (T y) (Ap (T x) (Cf x y))
 sd:∀x c,T x=some c->∃t n c1 c2,Lf Cf rk s t c1/\SR Cf rk t n x c2/\c=(c1.1+c2.1,c1.2+c2.2)
def Kept.cJ (K:Kept rs Af Cf)(h:Cf x y=some c):Af x y=some c:=((K x y c).mp h).1
def Lf.of_kept (K:Kept rs Af Cf)(h:Lf Cf rk s t c):Lf Af rk s t c:=by
 induction h with
 |nil=>exact .nil
 |snoc _ hr ha ih=>exact .snoc ih hr (K.cJ ha)
def SR.of_kept (K:Kept rs Af Cf)(h:SR Cf rk t n x c):SR Af rk t n x c:=by
 induction h with
 |nil=>exact .nil
 |snoc _ hr ha ih=>exact .snoc ih hr (K.cJ ha)
def zG (L:VM m rs rk Af)(K:Kept rs Af Cf)(h:SR Cf rk t n x c)(ht:0<=t/\t<m):0<=x/\x<m:=by
 cases h with
 |nil=>exact ht
 |snoc _ hr ha=>exact (L.snd _ _ _ (K.cJ ha)).2.2.2
def zH (L:VM m rs rk Af)(K:Kept rs Af Cf)(h:Lf Cf rk s t c)(ht:0<=s/\s<m):0<=t/\t<m:=by
 cases h with
 |nil=>exact ht
 |snoc _ hr ha=>exact (L.snd _ _ _ (K.cJ ha)).2.2.2
def SwC.le (L:VM m rs rk Af)(K:Kept rs Af Cf)(h:SwC rk Cf s R T m){t:Int}(ht:0<=t/\t<m)(hT:BI (T t) (some c1))(u:SR Cf rk t n x c2):BI (T x) (some (c1.1+c2.1,c1.2+c2.2)):=by
 induction u with
 |nil=>simpa using hT
 | @snoc n x y c d hd hr ha ih =>
  have hx:=zG L K hd ht;have hy:=(L.snd _ _ _ (K.cJ ha)).2.2.2;refine Aq (h.cl x y hx.1 hx.2 hy.1 hy.2 hr) ?_;rw[ha];have:=Cr (some d) ih;simp only[Ap,zcn] at this;exact this
def ZJ (L:VM m rs rk Af)(K:Kept rs Af Cf)(hs:0<=s/\s<m)(hR:UpC rk Cf s R)(hT:SwC rk Cf s R T m)(hx:Bg rs s w x):Bg rs s w (T w):=by
 have key:BI (T w) x:=by
  cases x with
  |none=>cases T w<;>exact trivial
  |some c =>
   obtain⟨t,n,c1,c2,g1,g2,e⟩:=UR L K hx;have ht:=zH L K g1 hs;rw[e];exact hT.le L K ht (Aq (hT.top t ht.1 ht.2) (hR.le g1)) g2
 refine⟨λ c hc=>Aq key (hx.1 c hc),λ p hp=>?_⟩;obtain⟨t,n,c1,c2,g1,g2,rfl⟩:=hT.sd w p hp;exact ((g1.of_kept K).walk L).trans ((g2.of_kept K).walk L)
end
def Wk.turn (h:Wk rs u w c):Wk (rs.map Lb) w u c:=by
 induction h with
 |nil u=>exact .nil u
 | @cons r l w c hr hl _ ih =>
  have h1:Wk (rs.map Lb) (Lb r).a (Lb r).b (l,1):=Wk.one (zaq.mpr ⟨r,hr,rfl⟩) hl;have:=ih.trans h1;have e:(c.1+l,c.2+1)=(l+c.1,1+c.2):=by rw[Int.add_comm,Int.add_comm c.2]
  rw[<-e];exact this
def G3 (rs:List Road):(rs.map Lb).map Lb=rs:=by
 rw[zbm];exact (zcu λ r _=>rfl).trans (List.map_id rs)
def Bg.turn (h:Bg rs u w x):Bg (rs.map Lb) w u x:=by
 refine⟨λ c hc=>h.1 c ?_,λ p hp=>(h.2 p hp).turn⟩;have:=hc.turn;rw[G3] at this;exact this
def VM.turn (L:VM m rs rk Af):VM m (rs.map Lb) rk (λ x y=>Af y x):=by
 refine⟨λ x y c h=>?_,λ r hr=>?_,λ p x y ae h1 h2=>?_,L.inj,λ x y c h=>?_⟩
 ·obtain⟨a,b,c,d⟩:=L.snd _ _ _ h;exact⟨a.turn,zbi b,d,c⟩
 ·obtain⟨r',aL,rfl⟩:=zaq.mp hr;exact L.road r' aL
 ·rw[Cq];exact L.tri p y x (zbi ae) h2 h1
 ·have:=h.turn;rw[G3] at this;exact L.nn _ _ _ this
def Kept.turn (K:Kept rs Af Cf):Kept (rs.map Lb) (λ x y=>Af y x) (λ x y=>Cf y x):=λ x y c=>by
 refine (K y x c).trans ⟨λ h=>⟨h.1,h.2.turn⟩,λ h=>⟨h.1,?_⟩⟩;have:=h.2.turn;rw[G3] at this;exact this
section
variable {κ β:Type} [DecidableEq κ]
abbrev Au:List (κ×β)->κ->Option β
 |[],_=>none
 |(k,v)::r,x=>if k=x then some v else Au r x
abbrev Dz (A:List (κ×β))(k:κ)(v:β):List (κ×β):=if (Au A k).isSome=true then A.map λ kv=>if kv.1=k then (kv.1,v) else kv else A++[(k,v)]
def SS (k j:κ)(v:β):∀A:List (κ×β),Au (A.map λ kv=>if kv.1=k then (kv.1,v) else kv) j=if j=k then (Au A j).map λ _=>v else Au A j
 |[]=>by simp[Au]
 |(k',v')::r=>by
  rw[za5];by_cases h1:k'=k
  ·rw[if_pos h1];subst h1;simp only[Au];by_cases h2:k'=j
   ·subst h2;simp
   ·rw[if_neg h2,if_neg h2,SS k' j v r]
  ·rw[if_neg h1];simp only[Au];by_cases h2:k'=j
   ·subst h2;rw[if_pos rfl,if_pos rfl,if_neg h1]
   ·rw[if_neg h2,if_neg h2,SS k j v r]
def US (k j:κ)(v:β):∀A:List (κ×β),Au A k=none->Au (A++[(k,v)]) j=if j=k then some v else Au A j
 |[],_=>by
  simp only[List.nil_append,Au];by_cases h:k=j
  ·subst h;simp
  ·rw[if_neg h,if_neg (zbi h)]
 |(k',v')::r,h=>by
  simp only[Au] at h;by_cases h1:k'=k
  ·rw[if_pos h1] at h;cases h
  ·rw[if_neg h1] at h;rw[zde];simp only[Au];rw[US k j v r h];by_cases h2:k'=j
   ·subst h2;rw[if_pos rfl,if_pos rfl,if_neg h1]
   ·rw[if_neg h2,if_neg h2]
def Fn (A:List (κ×β))(k j:κ)(v:β):Au (Dz A k v) j=if j=k then some v else Au A j:=by
 unfold Dz;by_cases h:(Au A k).isSome=true
 ·rw[if_pos h,SS];by_cases hj:j=k
  ·subst hj;rw[if_pos rfl,if_pos rfl];obtain⟨x,hx⟩:=zbx.mp h;rw[hx];rfl
  ·rw[if_neg hj,if_neg hj]
 ·rw[if_neg h];exact US k j v A (by cases e:Au A k with|none=>rfl|some x=>rw[e] at h;exact (h rfl).elim)
def Gz:∀ {A:List (κ×β)}{k:κ},(Au A k).isSome=true↔k∈A.map zb4
 |[],k=>by simp[Au]
 |(k',v')::r,k=>by
  simp only[Au,za5,zab];by_cases h:k'=k
  ·rw[if_pos h];simp[h]
  ·rw[if_neg h,Gz];simp[zbi h]
def UT {A:List (κ×β)}{k:κ}:Au A k=none↔k∉A.map zb4:=by
 rw[<-Gz];cases Au A k<;>simp
def UU (A:List (κ×β))(k:κ)(v:β):(Dz A k v).map zb4=if (Au A k).isSome=true then A.map zb4 else A.map zb4++[k]:=by
 unfold Dz;split
 ·rw[zbm];refine zcu λ kv _=>?_;dsimp only [Function.comp];split<;>rfl
 ·rw[zb3];rfl
def M9 {A:List (κ×β)}{k:κ}{v:β}(h:(A.map zb4).Nodup):((Dz A k v).map zb4).Nodup:=by
 rw[UU];split
 ·exact h
 ·rename_i hn;rw[Gz] at hn;rw[zau];exact⟨h,by simp,λ x hx y hy=>by rw[za9.mp hy];exact λ e=>hn (e▸hx)⟩
def Pa {A:List (κ×β)}{k x:κ}{v:β}(h:x∈(Dz A k v).map zb4):x∈A.map zb4\/x=k:=by
 rw[UU] at h;split at h
 ·exact .inl h
 ·rcases zao.mp h with h|h
  ·exact .inl h
  ·exact .inr (za9.mp h)
def Pb:∀ {A:List (κ×β)}{k:κ}{v:β},Au A k=some v->(k,v)∈A
 |(k',v')::r,k,v,h=>by
  simp only[Au] at h;split at h
  ·rename_i e;cases h;subst e;exact za3
  ·exact za4 _ (Pb h)
def SU:∀ {A:List (κ×β)}{k:κ}{v:β},(A.map zb4).Nodup->(k,v)∈A->Au A k=some v
 |(k',v')::r,k,v,hn,h=>by
  rw[za5,zb6] at hn;simp only[Au];rcases zab.mp h with e|h
  ·cases e;rw[if_pos rfl]
  ·have:k'≠k:=λ e=>hn.1 (e▸zaq.mpr ⟨_,h,rfl⟩);rw[if_neg this];exact SU hn.2 h
variable {kf:κ->D}{vf:β->D}(he:∀a b,Bv (kf a) (kf b)=decide (a=b))
include he
def Lg (A:List (κ×β))(k:κ):N7 (A.map λ kv=>kf kv.1) (kf k)=(Au A k).isSome:=by
 induction A with
 |nil=>rfl
 |cons kv r ih =>
  obtain⟨k',v'⟩:=kv;unfold N7 at ih ⊢;rw[za5,zd7,ih,he];simp only[Au];by_cases h:k'=k
  ·rw[if_pos h,decide_eq_true h];rfl
  ·rw[if_neg h,decide_eq_false h];rfl
def HY (A:List (κ×β))(k:κ):Hm (A.map λ kv=>kf kv.1) (A.map λ kv=>vf kv.2) (kf k)=(Au A k).map vf:=by
 induction A with
 |nil=>rfl
 |cons kv r ih =>
  obtain⟨k',v'⟩:=kv;rw[za5,za5,Hm,he,ih];simp only[Au];by_cases h:k'=k
  ·rw[decide_eq_true h,if_pos rfl,if_pos h];rfl
  ·rw[decide_eq_false h,if_neg zaw,if_neg h]
def iH (k:κ)(v:β)(A:List (κ×β)):JK (A.map λ kv=>kf kv.1) (A.map λ kv=>vf kv.2) (kf k) (vf v)=(A.map λ kv=>if kv.1=k then (kv.1,v) else kv).map λ kv=>vf kv.2:=by
 induction A with
 |nil=>rfl
 |cons kv r ih =>
  obtain⟨k',v'⟩:=kv;rw[za5,za5,JK,he,ih,za5,za5];by_cases h:k'=k
  ·rw[decide_eq_true h,if_pos rfl,if_pos h]
  ·rw[decide_eq_false h,if_neg zaw,if_neg h]
def Lh (A:List (κ×β))(k:κ)(v:β):putD (A.map λ kv=>kf kv.1) (A.map λ kv=>vf kv.2) (kf k) (vf v)=((Dz A k v).map (λ kv=>kf kv.1),(Dz A k v).map λ kv=>vf kv.2):=by
 unfold putD Dz;rw[Lg he];by_cases h:(Au A k).isSome=true
 ·rw[if_pos h,if_pos h,iH he];refine Prod.ext ?_ rfl;dsimp only;rw[zbm];refine zcu λ kv _=>?_;dsimp only [Function.comp];split<;>rfl
 ·rw[if_neg h,if_neg h,zb3,zb3];rfl
end
def HZ (a b:Int):Bv (.int a) (.int b)=decide (a=b):=by
 simp only[Bv];by_cases h:a=b
 ·subst h;simp
 ·simp[h]
noncomputable abbrev LA:=List ((Int×Int)×((Int×Int)×Option Int))
abbrev WE (v:(Int×Int)×Option Int):D:=.tup [cst (some v.1),CJ v.2]
abbrev Qu (A:LA):D:=.BG true (A.map λ kv=>pD kv.1) (A.map λ kv=>WE kv.2)
abbrev Na (A:LA):OT:=.BG true (A.map λ kv=>pD kv.1) ((A.map λ kv=>WE kv.2).map .sh)
abbrev Ac (A:LA)(p:Int×Int):Co:=(Au A p).map zb4
abbrev layA (A:LA)(p:Int×Int)(c:Co)(mid:Option Int):LA:=match c with
 |none=>A
 |some c=>(match Au A p with
  |none=>Dz A p (c,mid)
  |some z=>if c.1<z.1.1\/(c.1=z.1.1/\c.2<z.1.2) then Dz A p (c,mid) else A)
def I9 (A:LA)(p q:Int×Int)(c:Co)(mid:Option Int):Ac (layA A p c mid) q=if q=p then De (Ac A p) c else Ac A q:=by
 unfold layA Ac;cases c with
 |none =>
  by_cases h:q=p
  ·subst h;rw[if_pos rfl];cases Au A q<;>rfl
  ·rw[if_neg h]
 |some c =>
  cases e:Au A p with
  |none =>
   dsimp only;rw[Fn];by_cases h:q=p
   ·rw[if_pos h,if_pos h];rfl
   ·rw[if_neg h,if_neg h]
  |some z =>
   dsimp only;by_cases hc:c.1<z.1.1\/(c.1=z.1.1/\c.2<z.1.2)
   ·rw[if_pos hc,Fn];by_cases h:q=p
    ·rw[if_pos h,if_pos h];simp only[zbr,De,gU];rw[if_neg (by omega)]
    ·rw[if_neg h,if_neg h]
   ·rw[if_neg hc];by_cases h:q=p
    ·subst h;rw[if_pos rfl,e];simp only[zbr,De,gU];rw[if_pos (by omega)]
    ·rw[if_neg h]
def WG (A:LA)(p q:Int×Int)(c:Co)(mid:Option Int):BI (Ac (layA A p c mid) q) (Ac A q):=by
 rw[I9];split
 ·rename_i h;subst h;exact DR _ _
 ·exact BY _
def iI (h:x∈(layA A p c mid).map zb4):x∈A.map zb4\/x=p:=by
 unfold layA at h;split at h
 ·exact .inl h
 ·split at h
  ·exact Pa h
  ·split at h
   ·exact Pa h
   ·exact .inl h
def ZK (h:(A.map zb4).Nodup):((layA A p c mid).map zb4).Nodup:=by
 unfold layA;split
 ·exact h
 ·split
  ·exact M9 h
  ·split
   ·exact M9 h
   ·exact h
abbrev NY (p u:Int)(A:LA)(w:Int):LA:=if u=w then A else layA A (u,w) (Ap (Ac A (u,p)) (Ac A (p,w))) (some p)
abbrev ZL (p:Int)(H:List Int)(A:LA)(u:Int):LA:=H.foldl (NY p u) A
abbrev oK (A:LA)(p:Int)(H:List Int):LA:=H.foldl (ZL p H) A
abbrev Qg:LA->List Int->LA
 |A,[]=>A
 |A,p::r=>Qg (oK A p r) r
abbrev lay0 (rs:List Road):LA:=rs.foldl (λ A r=>layA A (r.a,r.b) (BH r) none) []
abbrev BC (rs:List Road)(L:List Int):LA:=Qg (lay0 rs) L
structure Hn (m:Nat)(A:LA):Prop where
 nd:(A.map zb4).Nodup
 rg:∀p∈A.map zb4,p.1≠p.2/\(0<=p.1/\p.1<m)/\0<=p.2/\p.2<m
def Hn.lay {m:Nat}{A:LA}(h:Hn m A){p:Int×Int}{c:Co}{mid:Option Int}(hp:p.1≠p.2/\(0<=p.1/\p.1<m)/\0<=p.2/\p.2<m):Hn m (layA A p c mid):=
 ⟨ZK h.nd,λ q hq=>(iI hq).elim (h.rg q) λ e=>e▸hp⟩
def Hn.len (h:Hn m A)(hm:m<=20):A.length<1000:=by
 have:=CB.len (B:=A.map zb4) (m:=m) ⟨h.nd,λ x hx=>(h.rg _ hx).1 rfl,λ q hq=>⟨(h.rg q hq).2.1,(h.rg q hq).2.2⟩⟩ hm;rwa[za2] at this
def G4 {α β:Type}{f:β->α->β}(P:List α->β->Prop):∀ {L pre:List α}{b:β},P pre b->(∀a∈L,∀pre b,P pre b->P (pre++[a]) (f b a))->P (pre++L) (L.foldl f b)
 |[],pre,b,h,_=>by rw[zb7];exact h
 |a::L,pre,b,h,hs=>by
  have:=G4 P (L:=L) (hs a za3 pre b h) λ x hx=>hs x (za4 _ hx);rw[zbg] at this;exact this
abbrev oM (rs:List Road)(A:LA):Prop:=∀x y c,Ac A (x,y)=some c->Wk rs x y c
def oM.lay (h:oM rs A)(hc:∀p,c=some p->Wk rs x y p):oM rs (layA A (x,y) c mid):=λ u w d hd=>by
 rw[I9] at hd;split at hd
 ·rename_i e;cases e;rcases BJ (Ac A (x,y)) c with ⟨e,_⟩|⟨e,_⟩
  ·rw[e] at hd;exact h _ _ _ hd
  ·rw[e] at hd;exact hc d hd
 ·exact h _ _ _ hd
structure Over (m:Nat)(rs:List Road)(p:Int)(H:List Int)(A0 A:LA):Prop where
 ok:Hn m A
 sd:oM rs A
 le:∀q,BI (Ac A q) (Ac A0 q)
 sm:∀x y,(x∉H\/y∉H)->Ac A (x,y)=Ac A0 (x,y)
def ZM {m:Nat}{H:List Int}(hp:p∉H)(hH:∀x∈H,0<=x/\x<m)(h:Over m rs p H A0 A)(hu:u∈H)(hw:w∈H):Over m rs p H A0 (NY p u A w)/\(u≠w->BI (Ac (NY p u A w) (u,w)) (Ap (Ac A0 (u,p)) (Ac A0 (p,w)))):=by
 unfold NY;by_cases e:u=w
 ·rw[if_pos e];exact⟨h,λ z=>(z e).elim⟩
 ·rw[if_neg e];have e1:=h.sm u p (.inr hp);have e2:=h.sm p w (.inl hp);refine⟨⟨h.ok.lay ⟨e,hH u hu,hH w hw⟩,h.sd.lay λ c hc=>?_,λ q=>Aq (WG _ _ _ _ _) (h.le q),λ x y cz=>?_⟩,λ _=>?_⟩
  ·obtain⟨a,b,ha,hb,rfl⟩:=Dy hc;exact (h.sd _ _ _ ha).trans (h.sd _ _ _ hb)
  ·rw[I9,if_neg (λ z=>by cases z;exact cz.elim (λ q=>q hu) λ q=>q hw)];exact h.sm x y cz
  ·rw[I9,if_pos rfl,e1,e2];exact Es _ _
def qO (q:Int×Int):BI (Ac (NY p u A w) q) (Ac A q):=by
 unfold NY;split
 ·exact BY _
 ·exact WG _ _ _ _ _
def qP (q:Int×Int):∀(H:List Int) (A:LA),BI (Ac (H.foldl (NY p u) A) q) (Ac A q)
 |[],A=>BY _
 |w::H,A=>Aq (qP q H (NY p u A w)) (qO q)
def uQ {m:Nat}{H:List Int}(hp:p∉H)(hH:∀x∈H,0<=x/\x<m)(h:Over m rs p H A0 A)(hu:u∈H):Over m rs p H A0 (ZL p H A u)/\∀w∈H,u≠w->BI (Ac (ZL p H A u) (u,w)) (Ap (Ac A0 (u,p)) (Ac A0 (p,w))):=by
 unfold ZL;have:=G4 (L:=H) (pre:=[]) (f:=NY p u) (b:=A) (λ W A=>Over m rs p H A0 A/\∀w∈W,u≠w->BI (Ac A (u,w)) (Ap (Ac A0 (u,p)) (Ac A0 (p,w)))) ⟨h,λ w hw=>by cases hw⟩ λ w hw W B hB=>by
  obtain⟨b1,b2⟩:=hB;obtain⟨c1,c2⟩:=ZM hp hH b1 hu hw;refine⟨c1,λ x hx ae=>?_⟩;rcases zao.mp hx with hx|hx
  ·exact Aq (qO _) (b2 x hx ae)
  ·rw[za9.mp hx] at ae ⊢;exact c2 ae
 exact this
def iJ {m:Nat}{H:List Int}(hp:p∉H)(hH:∀x∈H,0<=x/\x<m)(h1:Hn m A)(h2:oM rs A):Over m rs p H A (oK A p H)/\∀u∈H,∀w∈H,u≠w->BI (Ac (oK A p H) (u,w)) (Ap (Ac A (u,p)) (Ac A (p,w))):=by
 unfold oK;have:=G4 (L:=H) (pre:=[]) (f:=ZL p H) (b:=A) (λ U B=>Over m rs p H A B/\∀u∈U,∀w∈H,u≠w->BI (Ac B (u,w)) (Ap (Ac A (u,p)) (Ac A (p,w)))) ⟨⟨h1,h2,λ q=>BY _,λ x y _=>rfl⟩,λ u hu=>by cases hu⟩ λ u hu U B hB=>by
  obtain⟨b1,b2⟩:=hB;obtain⟨c1,c2⟩:=uQ hp hH b1 hu;refine⟨c1,λ x hx w hw ae=>?_⟩;rcases zao.mp hx with hx|hx
  ·exact Aq (qP _ H B) (b2 x hx w hw ae)
  ·rw[za9.mp hx] at ae ⊢;exact c2 w hw ae
 exact this
def SV (Aw:∀r∈rs,GZ m r/\r.a≠r.b):Hn m (lay0 rs)/\oM rs (lay0 rs)/\∀r∈rs,BI (Ac (lay0 rs) (r.a,r.b)) (BH r):=by
 unfold lay0;have:=G4 (L:=rs) (pre:=[]) (f:=λ A r=>layA A (r.a,r.b) (BH r) none) (b:=[]) (λ W A=>Hn m A/\oM rs A/\∀r∈W,BI (Ac A (r.a,r.b)) (BH r)) ⟨⟨by simp,λ p hp=>by cases hp⟩,⟨(λ _ _ _ h=>by cases h),λ r hr=>by cases hr⟩⟩ λ r hr W B hB=>by
  obtain⟨b1,b2,b3⟩:=hB;obtain⟨o1,o2⟩:=Aw r hr;refine⟨b1.lay ⟨o2,⟨o1.a0,o1.a1⟩,o1.b0,o1.b1⟩,b2.lay λ c hc=>?_,λ x hx=>?_⟩
  ·obtain⟨l,hl,rfl⟩:=G0 hc;exact Wk.one hr hl
  ·rcases zao.mp hx with hx|hx
   ·exact Aq (WG _ _ _ _ _) (b3 x hx)
   ·rw[za9.mp hx,I9,if_pos rfl];exact Es _ _
 exact this
abbrev Ca:List Int->Int->Nat
 |[],_=>0
 |a::l,x=>if a=x then 0 else Ca l x+1
def Yl:∀ {pre post:List Int}{p:Int},p∉pre->Ca (pre++p::post) p=pre.length
 |[],post,p,_=>by simp[Ca]
 |a::pre,post,p,h=>by
  rw[zab,not_or] at h;rw[zde,Ca,if_neg (zbi h.1),Yl h.2];rfl
def WH:∀ {pre post:List Int}{x:Int},x∈pre->Ca (pre++post) x<pre.length
 |a::pre,post,x,h=>by
  rw[zde,Ca];by_cases e:a=x
  ·rw[if_pos e];simp
  ·rw[if_neg e,za8];have:=WH (post:=post) ((zab.mp h).resolve_left (zbi e));omega
def SW:∀ {pre post:List Int}{x:Int},x∉pre->pre.length<=Ca (pre++post) x
 |[],post,x,_=>zbb _
 |a::pre,post,x,h=>by
  rw[zab,not_or] at h;rw[zde,Ca,if_neg (zbi h.1),za8];have:=SW (post:=post) h.2;omega
def SX:∀ {L:List Int}{x y:Int},x∈L->y∈L->Ca L x=Ca L y->x=y
 |a::l,x,y,hx,hy,e=>by
  rw[Ca,Ca] at e;by_cases h1:a=x
  ·by_cases h2:a=y
   ·rw[<-h1,<-h2]
   ·rw[if_pos h1,if_neg h2] at e;omega
  ·by_cases h2:a=y
   ·rw[if_neg h1,if_pos h2] at e;omega
   ·rw[if_neg h1,if_neg h2] at e;exact SX ((zab.mp hx).resolve_left (zbi h1)) ((zab.mp hy).resolve_left (zbi h2)) (by omega)
def WI (h:Ca L x<L.length):x∈L:=by
 refine zd4 λ hn=>?_;have:=SW (pre:=L) (post:=[]) hn;rw[zb7] at this;omega
def iK:∀(L:List Int) (x:Int),Ca L x<=L.length
 |[],_=>zag _
 |a::l,x=>by
  rw[Ca,za8];split
  ·omega
  ·have:=iK l x;omega
def Mz:∀ {L:List Int}{p:Int},p∈L->∃pre post,L=pre++p::post/\p∉pre
 |a::l,p,h=>by
  by_cases ha:a=p
  ·subst ha;exact⟨[],l,rfl,by simp⟩
  ·obtain⟨pre,post,e2,hn⟩:=Mz ((zab.mp h).resolve_left (zbi ha));exact⟨a::pre,post,by rw[zde,<-e2],by simp[zbi ha,hn]⟩
def iL (h:Ca L p<L.length):∃pre post,L=pre++p::post/\p∉pre/\∀x,Ca L p<Ca L x->x∈L->x∈post:=by
 obtain⟨pre,post,e,hn⟩:=Mz (WI h);refine⟨pre,post,e,hn,λ x hr hx=>?_⟩;subst e;rw[Yl hn] at hr;rcases zao.mp hx with hx|hx
 ·have:=WH (post:=p::post) hx;omega
 ·rcases zab.mp hx with rfl|hx
  ·rw[Yl hn] at hr;omega
  ·exact hx
def uR {m:Nat}{rs:List Road}{L:List Int}(hL:L.Nodup)(hr:∀x∈L,0<=x/\x<m):∀(post pre:List Int) (A:LA),L=pre++post->Hn m A->oM rs A->(∀r∈rs,BI (Ac A (r.a,r.b)) (BH r))->
 (∀pa p pb,L=pa++p::pb->pa.length<pre.length->∀x∈pb,∀y∈pb,x≠y->BI (Ac A (x,y)) (Ap (Ac A (x,p)) (Ac A (p,y))))->
 Hn m (Qg A post)/\oM rs (Qg A post)/\(∀r∈rs,BI (Ac (Qg A post) (r.a,r.b)) (BH r))/\∀pa p pb,L=pa++p::pb->∀x∈pb,∀y∈pb,x≠y->BI (Ac (Qg A post) (x,y)) (Ap (Ac (Qg A post) (x,p)) (Ac (Qg A post) (p,y))):=by
 intro post;induction post with
 |nil =>
  intro pre A e h1 h2 h3 h4;rw[zb7] at e;refine⟨h1,h2,h3,λ pa p pb e2=>h4 pa p pb e2 ?_⟩;rw[<-e,e2,zal,za8];omega
 |cons p post ih =>
  intro pre A e h1 h2 h3 h4;rw[Qg];have hn:(pre++p::post).Nodup:=e▸hL;rw[zau,zb6] at hn;have b5:∀x∈post,0<=x/\x<m:=λ x hx=>hr x (by rw[e];simp[hx]);obtain⟨o,ov⟩:=iJ (p:=p) hn.2.1.1 b5 h1 h2;refine ih (pre++[p]) (oK A p post) (by rw[e];simp) o.ok o.sd (λ r aL=>Aq (o.le _) (h3 r aL)) λ pa q pb e2 ag x hx y hy ae=>?_;rw[zal,zba] at ag;by_cases hq:pa.length<pre.length
  ·-- an nk one
   have vt:q∉post:=λ gh=>by
    have e3:pre++p::post=pa++q::pb:=by rw[<-e,e2]
    have q1:q∈pre:=by
     have:=congrArg (λ l=>l[pa.length]?) e3;rw[zce hq,zd8 (zag _),Nat.sub_self] at this;exact zai this
    exact hn.2.2 q q1 q (za4 _ gh) rfl
   rw[o.sm x q (.inr vt),o.sm q y (.inl vt)];exact Aq (o.le _) (h4 pa q pb e2 hq x hx y hy ae)
  ·have hpl:pa.length=pre.length:=by omega
   have e3:pa++q::pb=pre++p::post:=by rw[<-e2,e]
   obtain⟨rfl,e4⟩:=List.append_inj e3 hpl;cases e4;rw[o.sm x p (.inr hn.2.1.1),o.sm p y (.inl hn.2.1.1)];exact ov x hx y hy ae
def Li (hL:L.Perm (Bw m))(Aw:∀r∈rs,GZ m r/\r.a≠r.b):Hn m (BC rs L)/\VM m rs (Ca L) (λ x y=>Ac (BC rs L) (x,y)):=by
 have dz:L.Nodup:=Gy hL;obtain⟨a1,a2,a3⟩:=SV Aw;obtain⟨b1,b2,b3,b4⟩:=uR dz (λ x hx=>(Ba hL).mp hx) L [] (lay0 rs) rfl a1 a2 a3 (λ pa p pb _ h=>by simp at h);refine⟨b1,λ x y c h=>?_,b3,λ p x y ae h1 h2=>?_,λ x y x0 x1 y0 y1 e=>SX ((Ba hL).mpr ⟨x0,x1⟩) ((Ba hL).mpr ⟨y0,y1⟩) e,λ x y c h=>Wk.nn (λ r hr=>(Aw r hr).1) h⟩
 ·have hm:(x,y)∈(Qg (lay0 rs) L).map zb4:=by
   rw[<-Gz];unfold Ac at h;cases q:Au (BC rs L) (x,y) with
   |none=>rw[q] at h;cases h
   |some z=>unfold BC at q;rw[q];rfl
  have:=b1.rg _ hm;exact⟨b2 _ _ _ h,this.1,this.2.1,this.2.2⟩
 ·have aQ:∀ {x y:Int} {c:Int×Int},Ac (BC rs L) (x,y)=some c->x∈L/\y∈L:=fun {x y c} h=>by
   have hm:(x,y)∈(Qg (lay0 rs) L).map zb4:=by
    rw[<-Gz];unfold Ac at h;cases q:Au (BC rs L) (x,y) with
    |none=>rw[q] at h;cases h
    |some z=>unfold BC at q;rw[q];rfl
   have:=b1.rg _ hm;exact⟨(Ba hL).mpr this.2.1,(Ba hL).mpr this.2.2⟩
  have hpl:Ca L p<L.length:=zap h1 (iK L x);obtain⟨pre,post,e,hn,f7⟩:=iL hpl;cases q1:Ac (BC rs L) (x,p) with
  |none=>cases Ac (BC rs L) (x,y)<;>exact trivial
  |some c1 =>
   cases q2:Ac (BC rs L) (p,y) with
   |none=>cases Ac (BC rs L) (x,y)<;>exact trivial
   |some c2 =>
    have r:=b4 pre p post e x (f7 x h1 (aQ q1).1) y (f7 y h2 (aQ q2).2) ae;rw[<-q1,<-q2];exact r
noncomputable abbrev CA:=List ((Int×Int)×(Int×Int))
abbrev TB (C:CA):D:=.BG true (C.map λ kv=>pD kv.1) (C.map λ kv=>cst (some kv.2))
abbrev ccT (C:CA):OT:=.BG true (C.map λ kv=>pD kv.1) ((C.map λ kv=>cst (some kv.2)).map .sh)
noncomputable abbrev RA:=List (Int×(Int×Int))
abbrev ZN (R:RA):D:=.BG false (R.map λ kv=>D.int kv.1) (R.map λ kv=>cst (some kv.2))
abbrev WJ (R:RA):OT:=.BG false (R.map λ kv=>D.int kv.1) ((R.map λ kv=>cst (some kv.2)).map .sh)
def SY (A:LA):er (Na A)=Qu A:=JL
def T4 (C:CA):er (ccT C)=TB C:=JL
def T5 (R:RA):er (WJ R)=ZN R:=JL
def Ma (i:Int):keyOk false (.int i)=true:=rfl
def T6 (A:LA)(p:Int×Int)(neg:Bool):Km neg (pD p) (Qu A)=.ok (.bl (if neg=true then !(Au A p).isSome else (Au A p).isSome)):=by
 unfold Qu Km;dsimp only;rw[if_pos (HU p),Lg Gx]
def Pc (h:Au A p=some v):AJ (Qu A) (pD p)=.ok (WE v):=by
 unfold Qu AJ;dsimp only;rw[if_pos (HU p),HY Gx,h];rfl
def uS (C:CA)(p:Int×Int)(neg:Bool):Km neg (pD p) (TB C)=.ok (.bl (if neg=true then !(Au C p).isSome else (Au C p).isSome)):=by
 unfold TB Km;dsimp only;rw[if_pos (HU p),Lg Gx]
def uT (h:Au C p=some c):AJ (TB C) (pD p)=.ok (cst (some c)):=by
 unfold TB AJ;dsimp only;rw[if_pos (HU p),HY (vf:=λ c=>cst (some c)) Gx,h];rfl
def uU (C:CA)(p:Int×Int):Ro (TB C) (.ok (pD p))=.ok (cst (Au C p)):=by
 unfold TB Ro;simp only[M.A9];rw[if_pos (HU p),HY (vf:=λ c=>cst (some c)) Gx];cases Au C p<;>rfl
def iM (R:RA)(p:Int)(neg:Bool):Km neg (.int p) (ZN R)=.ok (.bl (if neg=true then !(Au R p).isSome else (Au R p).isSome)):=by
 unfold ZN Km;dsimp only;rw[if_pos (Ma p),Lg (kf:=D.int) HZ]
def WK (h:Au R p=some c):AJ (ZN R) (.int p)=.ok (cst (some c)):=by
 unfold ZN AJ;dsimp only;rw[if_pos (Ma p),HY (kf:=D.int) (vf:=λ c=>cst (some c)) HZ,h];rfl
def iN (R:RA)(p:Int):Ro (ZN R) (.ok (.int p))=.ok (cst (Au R p)):=by
 unfold ZN Ro;simp only[M.A9];rw[if_pos (Ma p),HY (kf:=D.int) (vf:=λ c=>cst (some c)) HZ];cases Au R p<;>rfl
def iO (A:LA)(p:Int×Int)(v:(Int×Int)×Option Int):putD (A.map λ kv=>pD kv.1) (A.map λ kv=>WE kv.2) (pD p) (WE v)=((Dz A p v).map (λ kv=>pD kv.1),(Dz A p v).map λ kv=>WE kv.2):=Lh Gx A p v
def uV (R:RA)(p:Int)(c:Int×Int):putD (R.map λ kv=>D.int kv.1) (R.map λ kv=>cst (some kv.2)) (.int p) (cst (some c))=((Dz R p c).map (λ kv=>D.int kv.1),(Dz R p c).map λ kv=>cst (some kv.2)):=Lh (kf:=D.int) (vf:=λ c=>cst (some c)) HZ R p c
def T7 {α:Type}(k v:α->D):∀l:List α,SJ (l.map λ x=>.tup [k x,v x])=some (l.map λ x=>(k x,v x))
 |[]=>rfl
 |x::l=>by rw[za5,SJ,T7 k v l];rfl
def qQ:∀(C C0:CA),((C0++C).map zb4).Nodup->(C.map λ kv=>(pD kv.1,cst (some kv.2))).foldl (λ z kv=>putD z.1 z.2 kv.1 kv.2) (C0.map (λ kv=>pD kv.1),C0.map λ kv=>cst (some kv.2))=((C0++C).map (λ kv=>pD kv.1),(C0++C).map λ kv=>cst (some kv.2))
 |[],C0,_=>by simp
 |kv::C,C0,hn=>by
  obtain⟨p,c⟩:=kv;rw[za5,zav];dsimp only;have h0:Au C0 p=none:=by
   rw[UT];intro hm;rw[zb3,zau] at hn;exact hn.2.2 p hm p (by simp) rfl
  have e:Dz C0 p c=C0++[(p,c)]:=by unfold Dz;rw[h0];rfl
  rw[Lh (vf:=λ c=>cst (some c)) Gx,e,qQ C (C0++[(p,c)]) (by rw[zbg];exact hn),zbg];rfl
def iP (hn:(C.map zb4).Nodup)(hl:C.length<=1000):nQ (.lst (C.map λ kv=>.tup [pD kv.1,cst (some kv.2)]))=.ok (ccT C):=by
 unfold nQ;dsimp only;rw[T7 (λ kv:(Int×Int)×(Int×Int)=>pD kv.1) (λ kv=>cst (some kv.2))];dsimp only;have e:=qQ C [] hn;rw[if_pos ⟨by rw[za2];exact hl,by rw[List.all_map];exact zdf.mpr λ x _=>rfl⟩];have e2:qI (C.map λ kv=>(pD kv.1,cst (some kv.2)))=(C.map (λ kv=>pD kv.1),C.map λ kv=>cst (some kv.2)):=e;rw[e2];rfl
abbrev AM (m:Nat)(rs:List Road)(L:List Int)(A:LA)(K:List (Int×Int)):D:=.ins "Ladder" ["own_map","own_order","laid","kept_ones"] [Ad m rs,.lst (L.map D.int),Qu A,.lst (K.map pD)]
structure Bc (m:Nat)(rs:List Road)(L:List Int)(A:LA)(K:List (Int×Int)):Prop where
 m1:1<=m
 m2:m<=16
 rl:rs.length<=60
 ok:∀r∈rs,GZ m r/\r.a≠r.b
 pm:L.Perm (Bw m)
 la:A=BC rs L
 kn:K.Nodup
 km:∀p,p∈K↔∃c,Ac A p=some c/\Bg rs p.1 p.2 (some c)
def Bc.zI {K}(h:Bc m rs L A K):Hn m A:=by
 rw[h.la];exact (Li h.pm h.ok).1
def Bc.cJ {K}(h:Bc m rs L A K):VM m rs (Ca L) (λ x y=>Ac A (x,y)):=by
 rw[h.la];exact (Li h.pm h.ok).2
def ET (h:Ac A p=some c):p∈A.map zb4:=by
 rw[<-Gz];unfold Ac at h;cases q:Au A p with
 |none=>rw[q] at h;cases h
 |some z=>rfl
def Bc.YL {K}(h:Bc m rs L A K)(hp:p∈K):p.1≠p.2/\(0<=p.1/\p.1<m)/\0<=p.2/\p.2<m:=by
 obtain⟨c,hc,_⟩:=(h.km p).mp hp;exact h.zI.rg p (ET hc)
def Bc.kl {K}(h:Bc m rs L A K):K.length<1000:=
 CB.len (m:=m) ⟨h.kn,λ x hx=>(h.YL hx).1 rfl,λ q hq=>⟨(h.YL hq).2.1,(h.YL hq).2.2⟩⟩ (by have:=h.m2;omega)
abbrev Ho (A:LA)(K:List (Int×Int)):CA:=K.map λ p=>(p,(Ac A p).getD (0,0))
def Pd (A:LA)(K:List (Int×Int)):(Ho A K).map zb4=K:=by
 unfold Ho;rw[zbm];exact (zcu λ p _=>rfl).trans (List.map_id K)
def Bc.kept {K}(h:Bc m rs L A K):Kept rs (λ x y=>Ac A (x,y)) (λ x y=>Au (Ho A K) (x,y)):=λ x y c=>by
 have hn:((Ho A K).map zb4).Nodup:=by rw[Pd];exact h.kn
 constructor
 ·intro hf;have hm:=Pb hf;unfold Ho at hm;obtain⟨p,hp,e⟩:=zaq.mp hm;obtain⟨c',hc,a7⟩:=(h.km p).mp hp;rw[hc] at e;cases e;exact⟨hc,a7⟩
 ·rintro ⟨h1,h2⟩;refine SU hn ?_;unfold Ho;exact zaq.mpr ⟨(x,y),(h.km (x,y)).mpr ⟨c,h1,h2⟩,by rw[show Ac A (x,y)=some c from h1];rfl⟩
abbrev Qv (C:CA):CA:=C.map λ kv=>((kv.1.2,kv.1.1),kv.2)
def ZO (h:(C.map zb4).Nodup):((Qv C).map zb4).Nodup:=by
 have e:(Qv C).map zb4=(C.map zb4).map λ p=>(p.2,p.1):=by
  unfold Qv;rw[zbm,zbm];rfl
 rw[e];exact (List.pairwise_map.mpr (h.imp fun {a b} kc e=>kc (by cases a;cases b;cases e;rfl)))
def Lj (x y:Int):∀C:CA,Au (Qv C) (x,y)=Au C (y,x)
 |[]=>rfl
 |((a,b),c)::C=>by
  unfold Qv;rw[za5,Au,Au];have:=Lj x y C;unfold Qv at this;rw[this];by_cases h:a=y/\b=x
  ·rw[if_pos (by rw[h.1,h.2]),if_pos (by rw[h.1,h.2])]
  ·rw[if_neg (λ e=>h (by cases e;exact⟨rfl,rfl⟩)),if_neg (λ e=>h (by cases e;exact⟨rfl,rfl⟩))]
def zJ (p q:Int×Int):gK (cst (some p)) (cst (some q))=.ok (.bl (decide (p.1<q.1\/(p.1=q.1/\p.2<q.2)))):=by
 rw[<-FD];rfl
def WL (h:WP m (λ ρ=>HN ρ=some t/\OT.sh .AL=r) (λ o=>match o with | .FU r' ρ=>HN ρ=some t/\r'=r | _=>False) (λ _=>False)):EO m=.ok (t,r):=by
 cases m with
 |bad|ex x=>exact h.elim
 |ok o =>
  cases o with
  |next ρ=>obtain⟨h1,h2⟩:=(show HN ρ=some t/\OT.sh .AL=r from h);unfold EO;dsimp only;rw[h1,<-h2]
  |FU r' ρ=>obtain⟨h1,h2⟩:=(show HN ρ=some t/\r'=r from h);unfold EO;dsimp only;rw[h1,<-h2]
  |ret d|CO d|brk d|cont d=>exact h.elim
def Mb (h:ρ[i]?=some (some (.ow (.tree p t))))(hN:fS t=true)(hF:F t av=.ok (t2,r)):Uq i F ρ [] av=.ok (ρ.set i (some (toCl p t2)),r):=by
 rw[fT h rfl rfl hN hF,EK]
def ED:GY 0 (some (.ow (.tree p (Na A)))::ρ) []=.ok (true,A.map (λ kv=>pD kv.1),A.map λ kv=>WE kv.2):=Dv
def J5:GY 0 (some (.ow (.tree p (WJ R)))::ρ) []=.ok (false,R.map (λ kv=>D.int kv.1),R.map λ kv=>cst (some kv.2)):=Dv
def Hn.ov (h:Hn m A){u w:Int}(hu:0<=u/\u<m)(hw:0<=w/\w<m):Hn m (NY p u A w):=by
 unfold NY;split
 ·exact h
 ·rename_i e;exact h.lay ⟨e,hu,hw⟩
def Hn.ou {m:Nat}{p u:Int}(hu:0<=u/\u<m):∀ {H:List Int}{A:LA},Hn m A->(∀x∈H,0<=x/\x<m)->Hn m (H.foldl (NY p u) A)
 |[],A,h,_=>h
 |w::H,A,h,hH=>by
  have r:=Hn.ou (A:=NY p u A w) (H:=H) (p:=p) hu (h.ov hu (hH w za3)) λ x hx=>hH x (za4 _ hx);exact r
def EU {α β:Type}{f}{l:List α}{x}{b:β}(h:l[i]?=some x):(l.take (i+1)).foldl f b=f ((l.take i).foldl f b) x:=by
 rw[zbt,h,Option.toList_some,List.foldl_append];rfl
def Hn.lo {m:Nat}{p:Int}{H0:List Int}(h0:∀x∈H0,0<=x/\x<m):∀ {H:List Int}{A:LA},Hn m A->(∀x∈H,0<=x/\x<m)->Hn m (H.foldl (ZL p H0) A)
 |[],A,h,_=>h
 |w::H,A,h,hH=>by
  have r:=Hn.lo (p:=p) (A:=ZL p H0 A w) (H:=H) h0 (Hn.ou (hH w za3) h h0) λ x hx=>hH x (za4 _ hx);exact r
def NZ (c:Co):VL (.ok (.sh (cst c)))=.ok (.sh (cst c)):=by
 cases c<;>rfl
abbrev Rcb (a b:List Co×Bool):Prop:=b.2=true/\(a.2=false\/(a.2=true/\Qf ltN a.1 b.1))
def uW (x:List Co):Acc Rcb (x,false):=.intro _ λ y h=>by cases h.1
def uX (x:List Co):Acc Rcb (x,true):=by
 have:=Zw x;induction this with
 |intro x _ ih =>
  refine .intro _ λ y h=>?_;obtain⟨y,b⟩:=y;rcases h.2 with e|⟨e,h2⟩
  ·dsimp only at e;subst e;exact uW y
  ·dsimp only at e;subst e;exact ih y h2
def WM (n:Nat):Cy 0 n=(Bw n).map D.int:=by rw[JI,P7]
def M8.okR (h:M8 m r):GZ m r/\r.a≠r.b:=⟨⟨h.a0,h.a1,h.b0,h.b1,λ l hl=>(h.l0 l hl).1⟩,h.ab⟩
abbrev KP (rs:List Road)(A:LA)(p:Int×Int):Prop:=∃c,Ac A p=some c/\Bg rs p.1 p.2 (some c)
abbrev zK (A:LA)(cs:List Co)(u w:Int):Bool:=match Ac A (u,w) with
 |none=>false
 |some c=>decide (some c=atC cs w)
def iQ (hR:Right m s rs cs)(Aw:∀r∈rs,GZ m r){w:Int}(h0:0<=w)(h1:w<m):zK A cs s w=true↔KP rs A (s,w):=by
 have hm:=hR.qL Aw h0 h1;unfold zK KP;cases q:Ac A ((s:Int),w) with
 |none=>simp
 |some c =>
  dsimp only;constructor
  ·intro h;have e:=of_decide_eq_true h;exact⟨c,rfl,e▸hm⟩
  ·rintro ⟨c',e,h⟩;cases e;exact decide_eq_true (h.Cj hm)
def uY {K:List (Int×Int)}(hA:Hn m A)(hm:m<=20)(hn:K.Nodup)(hK:∀p∈K,KP rs A p):K.length<1000:=by
 have hr:∀p∈K,p.1≠p.2/\(0<=p.1/\p.1<m)/\0<=p.2/\p.2<m:=λ p hp=>by
  obtain⟨c,hc,_⟩:=hK p hp;exact hA.rg p (ET hc)
 exact CB.len (m:=m) ⟨hn,λ x hx=>(hr _ hx).1 rfl,λ q hq=>⟨(hr q hq).2.1,(hr q hq).2.2⟩⟩ hm
def Mc:∀ds:List D,(∀d∈ds,Ki d=true)->GW (ds.map .sh)=true
 |[],_=>rfl
 |d::ds,h=>by
  rw[za5,GW,HI,h d za3,Mc ds λ x hx=>h x (za4 _ hx)];rfl
def Lk {ds:List D}(h:∀d∈ds,Ki d=true):VL (.ok (.lst (ds.map .sh)))=.ok (.lst (ds.map .sh)):=by
 unfold VL;simp only[M.A9];rw[HI,Mc ds h];rfl
def iR (L:List Int):VL (.ok (.lst ((L.map D.int).map .sh)))=.ok (.lst ((L.map D.int).map .sh)):=Lk λ d hd=>by
 obtain⟨x,_,rfl⟩:=zaq.mp hd;rfl
def oN (K:List (Int×Int)):VL (.ok (.lst ((K.map pD).map .sh)))=.ok (.lst ((K.map pD).map .sh)):=Lk λ d hd=>by
 obtain⟨x,_,rfl⟩:=zaq.mp hd;exact iB x
def iS (cs:List Co):VL (.ok (.lst ((cs.map cst).map .sh)))=.ok (.lst ((cs.map cst).map .sh)):=Lk λ d hd=>by
 obtain⟨x,_,rfl⟩:=zaq.mp hd;exact Yi x
def uZ (v:(Int×Int)×Option Int):Ki (WE v)=true:=by
 obtain⟨c,l⟩:=v;cases l<;>rfl
def oO (A:LA):VL (.ok (Na A))=.ok (Na A):=by
 unfold VL Na;simp only[M.A9];rw[HI,Mc _ λ d hd=>by
  obtain⟨x,_,rfl⟩:=zaq.mp hd;exact uZ x.2]
 rfl
def Pe (hn:L.Nodup)(h:L[i]?=some x):Ca L x=i:=by
 have ag:=(zah.mp h).1;have e:L=L.take i++x::L.drop (i+1):=by
  have h2:L.drop i=x::L.drop (i+1):=by
   rw[zco ag];rw[za6 ag] at h;rw[zas h]
  rw[<-h2,zcf]
 have hx:x∉L.take i:=λ hm=>by
  rw[e,zau] at hn;exact hn.2.2 x hm x za3 rfl
 rw[e,Yl hx,zbz];omega
def Ym (hn:L.Nodup)(h:y∈L.drop i):i<=Ca L y:=by
 have hy:y∉L.take i:=λ hm=>by
  rw[<-zcf i L,zau] at hn;exact hn.2.2 y hm y h rfl
 have h1:=SW (pre:=L.take i) (post:=L.drop i) hy;rw[zcf,zbz] at h1;have h2:L.drop i≠[]:=λ e=>by rw[e] at h;cases h
 have h3:i<L.length:=by
  rw[Ne,List.drop_eq_nil_iff] at h2;omega
 omega
def oP (h:y∈L)(hr:i<=Ca L y):y∈L.drop i:=by
 rw[<-zcf i L] at h;rcases zao.mp h with h|h
 ·have h1:=WH (post:=L.drop i) h;rw[zcf,zbz] at h1;omega
 ·exact h
structure Qh (L:List Int)(C:CA)(s:Int)(i:Nat)(R:RA):Prop where
 nd:(R.map zb4).Nodup
 rg:∀k∈R.map zb4,k∈L
 st:BI (Au R s) (some (0,0))
 sd:∀y c,Au R y=some c->Lf (λ x y=>Au C (x,y)) (Ca L) s y c
 cl:∀x y,Ca L x<i->Ca L x<Ca L y->BI (Au R y) (Ap (Au R x) (Au C (x,y)))
def Qh.len (h:Qh L C s i R):R.length<=L.length:=by
 have:=G1 h.nd h.rg;rwa[za2] at this
structure qR (L:List Int)(C:CA)(s:Int)(i:Nat)(x:Int)(c0:Int×Int)(W:List Int)(R0 R:RA):Prop where
 nd:(R.map zb4).Nodup
 rg:∀k∈R.map zb4,k∈L
 sd:∀y c,Au R y=some c->Lf (λ x y=>Au C (x,y)) (Ca L) s y c
 le:∀y,BI (Au R y) (Au R0 y)
 sm:∀y,Ca L y<=i->Au R y=Au R0 y
 cw:∀y∈W,BI (Au R y) (Ap (some c0) (Au C (x,y)))
def qR.put {R0}(h:qR L C s i x c0 W R0 R)(hy:y∈L)(hr:i<Ca L y)(hx:Ca L x=i)(se:Au R0 x=some c0)(hd:Au C (x,y)=some d)(hv:De (Au R y) (some (c0.1+d.1,c0.2+d.2))=some v):qR L C s i x c0 (W++[y]) R0 (Dz R y v):=by
 have hle:BI (some v) (Au R y):=hv▸DR _ _;refine⟨M9 h.nd,λ k hk=>(Pa hk).elim (h.rg k) λ e=>e▸hy,λ z c hz=>?_,λ z=>?_,λ z hz=>?_,λ z hz=>?_⟩
 ·rw[Fn] at hz;split at hz
  ·rename_i e;subst e;cases hz;rcases BJ (Au R z) (some (c0.1+d.1,c0.2+d.2)) with ⟨e,_⟩|⟨e,_⟩
   ·rw[hv] at e;exact h.sd z _ e.symm
   ·rw[hv] at e;cases e;have aE:=h.sd x c0 (by rw[h.sm x (by omega)];exact se);exact .snoc aE (by omega) hd
  ·exact h.sd z c hz
 ·rw[Fn];split
  ·rename_i e;subst e;exact Aq hle (h.le z)
  ·exact h.le z
 ·rw[Fn,if_neg (λ e=>by subst e;omega)];exact h.sm z hz
 ·rw[Fn];split
  ·rename_i e;subst e;rw[hd];exact hv▸Es _ _
  ·rename_i e;rcases zao.mp hz with hz|hz
   ·exact h.cw z hz
   ·exact (e (za9.mp hz)).elim
def qR.skip {R0}(h:qR L C s i x c0 W R0 R)(hd:Au C (x,y)=none):qR L C s i x c0 (W++[y]) R0 R:=
 ⟨h.nd,h.rg,h.sd,h.le,h.sm,λ z hz=>by
  rcases zao.mp hz with hz|hz
  ·exact h.cw z hz
  ·rw[za9.mp hz,hd];cases Au R y<;>exact trivial⟩
def Qh.go {R0}(hC:∀p c,Au C p=some c->p.2∈L)(h0:Qh L C s i R0)(hx:L[i]?=some x)(hn:L.Nodup)(hc:Au R0 x=some c0)(h:qR L C s i x c0 (L.drop (i+1)) R0 R):Qh L C s (i+1) R:=by
 have tj:=Pe hn hx;refine⟨h.nd,h.rg,Aq (h.le s) h0.st,h.sd,λ u y hu hy=>?_⟩;by_cases e:Ca L u<i
 ·rw[h.sm u (by omega)];exact Aq (h.le y) (h0.cl u y e hy)
 ·have e2:Ca L u=i:=by omega
  have hi:=(zah.mp hx).1;have tu:u∈L:=WI (by omega);have eu:u=x:=SX tu (zai hx) (by omega);subst eu;rw[h.sm u (by omega),hc];cases q:Au C (u,y) with
  |none=>cases Au R y<;>exact trivial
  |some d =>
   have:=h.cw y (oP (hC _ _ q) (by omega));rw[q] at this;exact this
def Qh.skip (h0:Qh L C s i R)(hx:L[i]?=some x)(hn:L.Nodup)(hc:Au R x=none):Qh L C s (i+1) R:=by
 have tj:=Pe hn hx;refine⟨h0.nd,h0.rg,h0.st,h0.sd,λ u y hu hy=>?_⟩;by_cases e:Ca L u<i
 ·exact h0.cl u y e hy
 ·have hi:=(zah.mp hx).1;have eu:u=x:=SX (WI (by omega)) (zai hx) (by omega);subst eu;rw[hc];cases Au C (u,y)<;>cases Au R y<;>exact trivial
def Qh.start (hs:s∈L):Qh L C s 0 [(s,(0,0))]:=by
 refine⟨by simp,λ k hk=>by simp at hk;rw[hk];exact hs,by simp[Au,BI],λ y c h=>?_,λ x y h=>by omega⟩;simp only[Au] at h;split at h
 ·rename_i e;subst e;cases h;exact .nil
 ·cases h
def Qh.upC {m:Nat}(h:Qh L C s L.length R)(hC:∀p c,Au C p=some c->p.1∈L/\p.2∈L):UpC (Ca L) (λ x y=>Au C (x,y)) s (Au R):=by
 refine⟨h.st,λ x y hr=>?_,h.sd⟩;cases q:Au C (x,y) with
 |none=>cases Au R x<;>cases Au R y<;>exact trivial
 |some d =>
  have hx:Ca L x<L.length:=zap hr (iK L y);have:=h.cl x y hx hr;rw[q] at this;exact this
structure kA (m:Nat)(L:List Int)(C:CA)(s:Int)(R:RA)(W:List Int)(T:List Co):Prop where
 len:T.length=m
 no:∀x:Int,0<=x->x<m->x∉W->atC T x=none
 top:∀x∈W,BI (atC T x) (Au R x)
 cl:∀x∈W,∀y∈W,Ca L y<Ca L x->BI (atC T y) (Ap (atC T x) (Au C (x,y)))
 sd:∀(x:Int) c,0<=x->x<m->atC T x=some c->∃t n c1 c2,Lf (λ x y=>Au C (x,y)) (Ca L) s t c1/\SR (λ x y=>Au C (x,y)) (Ca L) t n x c2/\c=(c1.1+c2.1,c1.2+c2.2)
def kA.step (hR:∀y c,Au R y=some c->Lf (λ x y=>Au C (x,y)) (Ca L) s y c)(h:kA m L C s R W T){y:Int}(tw:0<=y)(yf:y<m)(tz:y∉W)(hW:∀x∈W,(0<=x/\x<m)/\Ca L y<Ca L x):
 kA m L C s R (W++[y]) (T.set y.toNat (Er (Au R y::W.map λ x=>Ap (atC T x) (Au C (x,y))))):=by
 obtain⟨v,hv⟩:∃v,v=Er (Au R y::W.map λ x=>Ap (atC T x) (Au C (x,y))):=⟨_,rfl⟩;rw[<-hv];have aY:∀i:Int,0<=i->atC (T.set y.toNat v) i=if i=y then v else atC T i:=λ i hi=>Gw tw hi (by rw[h.len];exact yf)
 have cz:∀x∈W,x≠y:=λ x hx e=>tz (e▸hx);refine⟨by rw[zbj];exact h.len,λ x h0 h1 hx=>?_,λ x hx=>?_,λ x hx z hz hr=>?_,λ x c h0 h1 hx=>?_⟩
 ·rw[zao,not_or] at hx;rw[aY x h0,if_neg (λ e=>hx.2 (za9.mpr e))];exact h.no x h0 h1 hx.1
 ·rcases zao.mp hx with hx|hx
  ·rw[aY x (hW x hx).1.1,if_neg (cz x hx)];exact h.top x hx
  ·have e:=za9.mp hx;subst e;rw[aY x tw,if_pos rfl,hv];exact NU za3
 ·rcases zao.mp hx with aE|aE
  ·rcases zao.mp hz with cr|cr
   ·rw[aY x (hW x aE).1.1,if_neg (cz x aE),aY z (hW z cr).1.1,if_neg (cz z cr)];exact h.cl x aE z cr hr
   ·have e:=za9.mp cr;rw[e] at hr ⊢;rw[aY x (hW x aE).1.1,if_neg (cz x aE),aY y tw,if_pos rfl,hv];exact NU (za4 _ (zaq.mpr ⟨x,aE,rfl⟩))
  ·have e:=za9.mp aE;rw[e] at hr;rcases zao.mp hz with cr|cr
   ·have:=(hW z cr).2;omega
   ·rw[za9.mp cr] at hr;omega
 ·rw[aY x h0] at hx;split at hx
  ·rename_i e;subst e;rw[hv] at hx;rcases La (Au R x::W.map λ z=>Ap (atC T z) (Au C (z,x))) with e|e
   ·rw[e] at hx;cases hx
   ·rw[hx] at e;rcases zab.mp e with e|e
    ·exact⟨x,0,c,(0,0),hR x c e.symm,.nil,by simp⟩
    ·obtain⟨z,hz,e⟩:=zaq.mp e;obtain⟨p,q,e1,e2,rfl⟩:=Dy e;obtain⟨t,n,c1,c2,g1,g2,rfl⟩:=h.sd z p (hW z hz).1.1 (hW z hz).1.2 e1;exact⟨t,n+1,c1,_,g1,.snoc g2 (hW z hz).2 e2,by simp only[zcn]⟩
  ·exact h.sd x c h0 h1 hx
def kA.start:kA m L C s R [] (zae m none):=by
 have b7:∀x:Int,atC (zae m none) x=none:=λ x=>by
  unfold atC;rw[zam,zc6];split<;>rfl
 exact⟨by simp,λ x _ _ _=>b7 x,(λ x hx=>by cases hx),(λ x hx=>by cases hx),λ x c _ _ h=>by rw[b7] at h;cases h⟩
noncomputable abbrev Ar:=Option ((Int×Int)×Option Int)
abbrev JN (v:Ar)(c:Co)(mid:Option Int):Ar:=match c with
 |none=>v
 |some c=>(match v with
  |none=>some (c,mid)
  |some z=>if c.1<z.1.1\/(c.1=z.1.1/\c.2<z.1.2) then some (c,mid) else v)
def Yn (A:LA)(p q:Int×Int)(c:Co)(mid:Option Int):Au (layA A p c mid) q=if q=p then JN (Au A p) c mid else Au A q:=by
 unfold layA JN;cases c with
 |none =>
  dsimp only;by_cases h:q=p
  ·rw[if_pos h,h]
  ·rw[if_neg h]
 |some c =>
  cases e:Au A p with
  |none=>dsimp only;rw[Fn]
  |some z =>
   dsimp only;by_cases hc:c.1<z.1.1\/(c.1=z.1.1/\c.2<z.1.2)
   ·rw[if_pos hc,if_pos hc,Fn]
   ·rw[if_neg hc,if_neg hc];by_cases h:q=p
    ·rw[if_pos h,h,e]
    ·rw[if_neg h]
def WN (p u w:Int)(A:LA)(x y:Int):Au (NY p u A w) (x,y)=if x=u/\y=w/\x≠y then JN (Au A (x,y)) (Ap (Ac A (x,p)) (Ac A (p,y))) (some p) else Au A (x,y):=by
 unfold NY;by_cases e:u=w
 ·rw[if_pos e,if_neg (λ h=>h.2.2 (h.1.trans (e.trans h.2.1.symm)))]
 ·rw[if_neg e,Yn];by_cases h:(x,y)=(u,w)
  ·cases h;rw[if_pos rfl,if_pos ⟨rfl,rfl,e⟩]
  ·rw[if_neg h,if_neg (λ z=>h (by rw[z.1,z.2.1]))]
def iT {p u:Int}(hu:u≠p)(x y:Int):∀ {H:List Int}{A:LA},H.Nodup->p∉H->Au (H.foldl (NY p u) A) (x,y)=if x=u/\y∈H/\x≠y then JN (Au A (x,y)) (Ap (Ac A (x,p)) (Ac A (p,y))) (some p) else Au A (x,y)
 |[],A,_,_=>by rw[List.foldl_nil,if_neg (λ h=>by cases h.2.1)]
 |w::H,A,hn,hp=>by
  rw[zb6] at hn;have t5:p≠w:=λ e=>hp (by rw[e];exact za3);have yg:p∉H:=λ e=>hp (za4 _ e);have c1:Ac (NY p u A w) (x,p)=Ac A (x,p):=by unfold Ac;rw[WN,if_neg (λ h=>t5 h.2.1)]
  have c2:Ac (NY p u A w) (p,y)=Ac A (p,y):=by unfold Ac;rw[WN,if_neg (λ h=>hu h.1.symm)]
  rw[zav,iT hu x y hn.2 yg,c1,c2,WN];by_cases h1:x=u
  ·by_cases h2:x=y
   ·rw[if_neg (λ h=>h.2.2 h2),if_neg (λ h=>h.2.2 h2),if_neg (λ h=>h.2.2 h2)]
   ·by_cases h3:y=w
    ·have h4:y∉H:=by rw[h3];exact hn.1
     rw[if_neg (λ h=>h4 h.2.1),if_pos ⟨h1,h3,h2⟩,if_pos ⟨h1,by rw[h3];exact za3,h2⟩]
    ·by_cases h4:y∈H
     ·rw[if_pos ⟨h1,h4,h2⟩,if_neg (λ h=>h3 h.2.1),if_pos ⟨h1,za4 _ h4,h2⟩]
     ·rw[if_neg (λ h=>h4 h.2.1),if_neg (λ h=>h3 h.2.1),if_neg (λ h=>by rcases zab.mp h.2.1 with z|z;exact h3 z;exact h4 z)]
  ·rw[if_neg (λ h=>h1 h.1),if_neg (λ h=>h1 h.1),if_neg (λ h=>h1 h.1)]
def UW {p:Int}{H:List Int}(hn:H.Nodup)(hp:p∉H)(x y:Int):∀ {U:List Int}{A:LA},U.Nodup->p∉U->Au (U.foldl (ZL p H) A) (x,y)=if x∈U/\y∈H/\x≠y then JN (Au A (x,y)) (Ap (Ac A (x,p)) (Ac A (p,y))) (some p) else Au A (x,y)
 |[],A,_,_=>by rw[List.foldl_nil,if_neg (λ h=>by cases h.1)]
 |u::U,A,hU,vw=>by
  rw[zb6] at hU;have vx:u≠p:=λ e=>vw (by rw[e];exact za3);have yh:p∉U:=λ e=>vw (za4 _ e);have at':∀x y,Au (ZL p H A u) (x,y)=if x=u/\y∈H/\x≠y then JN (Au A (x,y)) (Ap (Ac A (x,p)) (Ac A (p,y))) (some p) else Au A (x,y):=λ x y=>iT vx x y hn hp
  have c1:Ac (ZL p H A u) (x,p)=Ac A (x,p):=by unfold Ac;rw[at',if_neg (λ h=>hp h.2.1)]
  have c2:Ac (ZL p H A u) (p,y)=Ac A (p,y):=by unfold Ac;rw[at',if_neg (λ h=>vx h.1.symm)]
  rw[zav,UW hn hp x y hU.2 yh,c1,c2,at'];by_cases h2:y∈H/\x≠y
  ·by_cases h1:x=u
   ·have h3:x∉U:=by rw[h1];exact hU.1
    rw[if_neg (λ h=>h3 h.1),if_pos ⟨h1,h2⟩,if_pos ⟨by rw[h1];exact za3,h2⟩]
   ·by_cases h3:x∈U
    ·rw[if_pos ⟨h3,h2⟩,if_neg (λ h=>h1 h.1),if_pos ⟨za4 _ h3,h2⟩]
    ·rw[if_neg (λ h=>h3 h.1),if_neg (λ h=>h1 h.1),if_neg (λ h=>by rcases zab.mp h.1 with z|z;exact h1 z;exact h3 z)]
  ·rw[if_neg (λ h=>h2 h.2),if_neg (λ h=>h2 h.2),if_neg (λ h=>h2 h.2)]
def Md (hn:H.Nodup)(hp:p∉H)(A:LA)(x y:Int):Au (oK A p H) (x,y)=if x∈H/\y∈H/\x≠y then JN (Au A (x,y)) (Ap (Ac A (x,p)) (Ac A (p,y))) (some p) else Au A (x,y):=UW hn hp x y hn hp
abbrev oQ (A:LA)(x y:Int)(W:List Int)(v:Ar):Ar:=W.foldl (λ v p=>JN v (Ap (Ac A (x,p)) (Ac A (p,y))) (some p)) v
def Pf {x y:Int}:∀ {L:List Int}{A:LA},L.Nodup->(x∉L\/y∉L)->Au (Qg A L) (x,y)=Au A (x,y)
 |[],A,_,_=>rfl
 |p::r,A,hn,h=>by
  rw[zb6] at hn;have h':x∉r\/y∉r:=h.imp (λ z w=>z (za4 _ w)) λ z w=>z (za4 _ w);rw[Qg,Pf hn.2 h',Md hn.2 hn.1,if_neg (λ z=>h'.elim (λ w=>w z.1) λ w=>w z.2.1)]
def Yo {x y:Int}(ae:x≠y):∀ {L:List Int}{A:LA},L.Nodup->x∈L->y∈L->Au (Qg A L) (x,y)=oQ (Qg A L) x y (L.take (min (Ca L x) (Ca L y))) (Au A (x,y))
 |[],A,_,h,_=>by cases h
 |p::r,A,hn,hx,hy=>by
  rw[zb6] at hn;have vy:∀z,z≠p->Ca (p::r) z=Ca r z+1:=λ z hz=>by show (if p=z then 0 else Ca r z+1)=_;rw[if_neg (zbi hz)]
  have vz:Ca (p::r) p=0:=by show (if p=p then 0 else Ca r p+1)=_;rw[if_pos rfl]
  rw[Qg];by_cases h1:x=p
  ·rw[Pf hn.2 (.inl (by rw[h1];exact hn.1)),Md hn.2 hn.1,if_neg (λ z=>hn.1 (by rw[<-h1];exact z.1)),h1,vz,Nat.zero_min];rfl
  by_cases h2:y=p
  ·rw[Pf hn.2 (.inr (by rw[h2];exact hn.1)),Md hn.2 hn.1,if_neg (λ z=>hn.1 (by rw[<-h2];exact z.2.1)),h2,vz,Nat.min_zero];rfl
  have nc:x∈r:=(zab.mp hx).resolve_left h1;have mt:y∈r:=(zab.mp hy).resolve_left h2;have e1:Ac (Qg (oK A p r) r) (x,p)=Ac A (x,p):=by unfold Ac;rw[Pf hn.2 (.inr hn.1),Md hn.2 hn.1,if_neg (λ z=>hn.1 z.2.1)]
  have e2:Ac (Qg (oK A p r) r) (p,y)=Ac A (p,y):=by unfold Ac;rw[Pf hn.2 (.inl hn.1),Md hn.2 hn.1,if_neg (λ z=>hn.1 z.1)]
  have et:(p::r).take (min (Ca (p::r) x) (Ca (p::r) y))=p::r.take (min (Ca r x) (Ca r y)):=by
   rw[vy x h1,vy y h2,Nat.add_min_add_right,List.take_succ_cons]
  rw[et,Yo ae hn.2 nc mt,Md hn.2 hn.1,if_pos ⟨nc,mt,ae⟩];unfold oQ;rw[zav,e1,e2]
def ZP (hn:L.Nodup)(hx:x∈L)(hy:y∈L)(ae:x≠y):Au (BC rs L) (x,y)=oQ (BC rs L) x y (L.take (min (Ca L x) (Ca L y))) (Au (lay0 rs) (x,y)):=Yo ae hn hx hy
def Yp (rs:List Road):∀x y c mid,Au (lay0 rs) (x,y)=some (c,mid)->mid=none/\∃r∈rs,r.a=x/\r.b=y/\BH r=some c:=by
 unfold lay0;have:=G4 (L:=rs) (pre:=[]) (f:=λ A r=>layA A (r.a,r.b) (BH r) none) (b:=[]) (λ _ A=>∀x y c mid,Au A (x,y)=some (c,mid)->mid=none/\∃r∈rs,r.a=x/\r.b=y/\BH r=some c) (λ _ _ _ _ h=>by cases h) λ r hr W B hB x y c mid h=>by
  rw[Yn] at h;by_cases e:(x,y)=(r.a,r.b)
  ·cases e;rw[if_pos rfl] at h;unfold JN at h;cases q:BH r with
   |none=>rw[q] at h;exact hB _ _ _ _ h
   |some d =>
    rw[q] at h;dsimp only at h;split at h
    ·cases h;exact⟨rfl,r,hr,rfl,rfl,q⟩
    ·rename_i z hz;split at h
     ·cases h;exact⟨rfl,r,hr,rfl,rfl,q⟩
     ·exact hB _ _ _ _ h
  ·rw[if_neg e] at h;exact hB _ _ _ _ h
 exact this
abbrev iU (v:Ar):Co:=v.map zb4
def oR (v:Ar)(c:Co)(mid:Option Int):iU (JN v c mid)=De (iU v) c:=by
 unfold JN iU;cases c with
 |none=>cases v<;>rfl
 |some c =>
  cases v with
  |none=>rfl
  |some z =>
   dsimp only;simp only[zbr,De,gU];by_cases hc:c.1<z.1.1\/(c.1=z.1.1/\c.2<z.1.2)
   ·rw[if_pos hc,if_neg (by omega)];rfl
   ·rw[if_neg hc,if_pos (by omega)];rfl
structure Fd (cd:Int->Co)(v0:Ar)(W:List Int)(v:Ar):Prop where
 le0:BI (iU v) (iU v0)
 lec:∀p∈W,BI (iU v) (cd p)
 AL:∀c,v=some (c,none)->v0=some (c,none)
 mid:∀c p,v=some (c,some p)->(∃W1 W2,W=W1++p::W2/\cd p=some c/\∀q∈W1,cd q≠some c)/\iU v0≠some c
def vA (h0:∀c p,v0≠some (c,some p))(W:List Int):Fd cd v0 W (W.foldl (λ v p=>JN v (cd p) (some p)) v0):=by
 have:=G4 (L:=W) (pre:=[]) (f:=λ v p=>JN v (cd p) (some p)) (b:=v0) (λ W v=>Fd cd v0 W v) ⟨BY _,(λ p hp=>by cases hp),λ c h=>h,λ c p h=>absurd h (h0 c p)⟩ λ p hp W v hv=>by
  have d5:=oR v (cd p) (some p);refine⟨?_,λ q hq=>?_,λ c h=>?_,λ c q h=>?_⟩
  ·rw[d5];exact Aq (DR _ _) hv.le0
  ·rw[d5];rcases zao.mp hq with hq|hq
   ·exact Aq (DR _ _) (hv.lec q hq)
   ·rw[za9.mp hq];exact Es _ _
  ·unfold JN at h;split at h
   ·exact hv.AL c h
   ·split at h
    ·cases h
    ·rename_i z;split at h
     ·cases h
     ·exact hv.AL c h
  ·have keep:v=some (c,some q)->(∃W1 W2,W++[p]=W1++q::W2/\cd q=some c/\∀q∈W1,cd q≠some c)/\iU v0≠some c:=λ h=>by
    obtain⟨⟨W1,W2,e1,e2,e3⟩,e4⟩:=hv.mid c q h;exact⟨⟨W1,W2++[p],by rw[e1];simp,e2,e3⟩,e4⟩
   have new:∀d:Int×Int,cd p=some d->(∀z,iU v=some z->d.1<z.1\/(d.1=z.1/\d.2<z.2))->(∃W1 W2,W++[p]=W1++p::W2/\cd p=some d/\∀q∈W1,cd q≠some d)/\iU v0≠some d:=λ d hd ag=>by
    have no:∀o:Co,BI (iU v) o->o≠some d:=λ o ho e=>by
     subst e;obtain⟨z,hz,hle⟩:=P9 ho;have:=ag z hz;simp only[NX] at hle;omega
    exact⟨⟨W,[],rfl,hd,λ q hq=>no _ (hv.lec q hq)⟩,no _ hv.le0⟩
   unfold JN at h;split at h
   ·exact keep h
   ·rename_i c' hd;split at h
    ·cases h;exact new _ hd λ z hz=>by cases hz
    ·rename_i z;split at h
     ·rename_i hc;cases h;exact new _ hd λ z' hz=>by cases hz;exact hc
     ·exact keep h
 exact this
section
variable {m:Nat}
def UX (hn:L.Nodup)(h:x∈L.take k):x∈L/\Ca L x<k:=by
 obtain⟨i,hi⟩:=List.mem_iff_getElem?.mp h;rw[List.getElem?_take] at hi;split at hi
 ·rename_i hk;exact⟨zai hi,by rw[Pe hn hi];exact hk⟩
 ·cases hi
end
def vB (ha:0<=a/\a<Rx)(hb:0<=b/\b<Rx)(h0:0<=i)(h1:i<2):∃w:Int,AJ (.lst [.int a,.int b]) (.int i)=.ok (.int w)/\0<=w/\w<Rx:=by
 have hi:i=0\/i=1:=by omega
 rcases hi with rfl|rfl
 ·exact⟨a,rfl,ha⟩
 ·exact⟨b,rfl,hb⟩
def oS {α:Type}{a b c d e f g h:D}{x y:α}:(if [a,b,c,d,e,f,g,h].length<=1000 then x else y)=x:=if_pos (by simp)
def Yq (r:Road):dp (.ok (Bo r))=.ok (Bo r):=by
 obtain⟨a,b,l,w⟩:=r;cases l<;>rfl
def T8 (i:Int):dp (.ok (.int i))=.ok (.int i):=rfl
def T9 {x y:Int}(h:ρ[i]?=some (some (.ow (.rows (AD ac)))))(hM:P6 m ac)(h0:0<=x)(h1:x<m)(h2:0<=y)(h3:y<m):lY i ρ (.ok (.int x)) (.ok (.int y))=.ok (cst (at2 ac x y)):=by
 unfold lY;rw[h];simp only[M.A9];rw[UN hM h0 h1];exact nY hM h0 h1 h2 h3
def Ta {x y:Int}(h:ρ[i]?=some (some (.ow (.rows (AD ac)))))(hM:P6 m ac)(h0:0<=x)(h1:x<m)(h2:0<=y)(h3:y<m):Uk i ρ (.ok (.int x)) (.ok (.int y)) (cst v)=.ok (.next (ρ.set i (some (.ow (.rows (AD (put2 ac x y v))))))):=by
 unfold Uk;rw[h];simp only[M.A9];rw[UN hM h0 h1];exact nZ hM h0 h1 h2 h3 i ρ v
def UY:∀(n:Nat) (B:List (Int×Int)) (L:List Int),L.length=n->(ZG n B L).Perm L
 |0,B,L,h=>by rw[List.length_eq_zero_iff.mp h];exact .refl _
 |n+1,B,L,h=>by
  have ae:L≠[]:=λ e=>by rw[e] at h;cases h
  have hm:=(Rv (B:=B) ae).1;rw[ZG,if_neg ae];refine List.Perm.trans ?_ (List.perm_cons_erase hm).symm;exact (UY n _ _ (by rw[List.length_erase_of_mem hm,h];rfl)).cons _
abbrev DB (gt:D->Ae->M Ae)(ft:Ae->M Bool)(fn:Ae->M OT):List D->Ae->M (List OT)
 |[],_=>.ok []
 |d::r,ρ=>match gt d ρ with
  | .ok ρ1=>(match ft ρ1 with
   | .ok true=>(match fn ρ1 with
    | .ok t=>(match DB gt ft fn r ρ with
     | .ok ts=>.ok (t::ts)
     |_=>.bad)
    |_=>.bad)
   | .ok false=>DB gt ft fn r ρ
   |_=>.bad)
  |_=>.bad
abbrev Pg (m:M (List OT)):M OT:=match m with | .ok ts=>.ok (.lst ts) | _=>.bad
def Ax.snoc {K:za0}{H:Hp}{P:Addr->Prop}:∀ {xs:List V}{ts:List OT}{fp fq:List Addr}{v:V}{t:OT},Ax K H P xs ts fp->C6 K H P v t fq->Ax K H P (xs++[v]) (ts++[t]) (fp++fq)
 |_,_,_,fq,v,t,.nil,o=>by
  have z:Ax K H P [v] [t] (fq++[]):=.cons o .nil;rw[zb7] at z;exact z
 |_,_,_,fq,v,t,.cons a r,o=>by
  rw[zbg];exact .cons a (Ax.snoc r o)
def VJ.abh {K}(h:VJ K WX P H Q (.ok (.lst ts)))(s1:Ah H H1)(n1:∀a∈fp,H a=none)(nd:fp.Nodup)(hP:∀a,P a->EA H1 a)(o1:Ax K H1 (PU P fp) xs ts fp):∀p,H1 p=none->Q (.ref p) (upd H1 p (.lst xs)):=λ p hp=>by
 have ae:∀a∈fp,a≠p:=λ a ha z=>(o1.BU a ha).no (by rw[z];exact hp);exact h _ (p::fp) _ (s1.trans (AH hp _)) (λ a ha=>(zab.mp ha).elim (λ z=>by rw[z];exact Cd s1 hp) (n1 a)) (zb6.mpr ⟨λ z=>ae p z rfl,nd⟩) (.lst Am (o1.move (fM hp (Nv hP o1)) λ a ha=>Ag (ae a ha)))
def MA {α:Type}{g}(f:α->OT):∀ {l:List α},(∀x∈l,∃ρ1,gt (g x) ρ=.ok ρ1/\ft ρ1=.ok true/\fn ρ1=.ok (f x))->DB gt ft fn (l.map g) ρ=.ok (l.map f)
 |[],_=>rfl
 |x::r,h=>by
  obtain⟨ρ1,h1,h2,h3⟩:=h x (.head _);rw[za5,DB,h1];dsimp only;rw[h2];dsimp only;rw[h3];dsimp only;rw[MA f λ y hy=>h y (.tail _ hy)];rfl
section
variable {c:Bool}{P:Addr->Prop}{H:Hp}{a b:Expr}{f g:Ae->M D}
def oT (i2:∀P0 P σ H R ρ,Ao X.K P0 P H σ ρ->(match fi ρ with | .ok ds=>∀J H',Ah H H'->Ug X.K J P H' ds->R J H' | .ex x=>∀H',Ah H H'->WX x H' | .bad=>False)->wi σ H R)(g2:∀P0 P σ H Q ρ v d,Ao X.K P0 P H σ ρ->BV X.K (del H P) v d->gG X.K P0 P H Q (gt d ρ)->gg v σ H Q)(t2:∀s H' C ex P0 P σ H Q ρ,Ao X.K P0 P H σ ρ->gT (λ _ _=>False) H Q (ft ρ)->tc s H' C ex σ H Q)(e2:∀s H' C ex P0 P σ H Q ρ,Ao X.K P0 P H σ ρ->VJ X.K (λ _ _=>False) P H Q (fn ρ)->te s H' C ex σ H Q)(E:Ao X.K P0 P H σ ρ)(h:VJ X.K WX P H Q ((fi ρ).bind λ ds=>if ds.length<=1000 then Pg (DB gt ft fn ds (AV μ ρ)) else .bad)):QX wi μ gg tc te σ H Q:=by
 refine i2 P0 P σ H _ ρ E ?_;cases q:fi ρ with
 |bad|ex x=>rw[q] at h;exact h
 |ok ds =>
  rw[q] at h;simp only[M.A9] at h;by_cases hd:¬ ds.length<=1000
  ·rw[if_neg hd] at h;exact h.elim
  have hd:ds.length<=1000:=by omega
  rw[if_pos hd] at h;intro J H1 s1 ok s C ex;cases qc:DB gt ft fn ds (AV μ ρ) with
  |bad|ex x=>rw[qc] at h;exact h.elim
  |ok total =>
   rw[qc] at h;unfold Pg at h;dsimp only at h;have E1:=E.same s1;refine⟨λ i m ys H2=>m=ds.length-i/\i<=ds.length/\ys.length<=i/\Ah H1 H2/\∃ts fp rest,Ax X.K H2 (PU P fp) ys ts fp/\(∀a∈fp,H1 a=none)/\fp.Nodup/\DB gt ft fn (ds.drop i) (AV μ ρ)=.ok rest/\ts++rest=total,
    ⟨ds.length,by simp,zbb _,zag _,Ah.refl _,[],[],total,.nil,(λ a ha=>by cases ha),zby,by rw[zdb];exact qc,rfl⟩,?_⟩
   rintro i m ys H2 ⟨rfl,hi,hy,s2,ts,fp,rest,bn,br,dz,af,au⟩;have v3:Ao X.K P0 (PU P fp) H2 σ ρ:=E1.more s2 HG (Nv (E1.same s2).BU bn) (Bk s2 br);by_cases ag:i<ds.length
   ·refine .inr ⟨ok.go i (PU P fp) H2 (Bk s2 br) ag,Nat.lt_of_le_of_lt hy (AA (by omega)),λ aI H'=>i+1<=ds.length/\aI.length<=i+1/\Ah H1 H'/\∃ts fp rest,Ax X.K H' (PU P fp) aI ts fp/\(∀a∈fp,H1 a=none)/\fp.Nodup/\DB gt ft fn (ds.drop (i+1)) (AV μ ρ)=.ok rest/\ts++rest=total,λ aI H' hq=>⟨ds.length-(i+1),by omega,rfl,hq.1,hq.2.1,hq.2.2.1,hq.2.2.2⟩,λ v H3 y=>?_⟩;obtain⟨s3,hv⟩:=ok.jZ i (PU P fp) H2 v H3 ds[i] (Bk s2 br) v3.BU (za6 ag) y;rw[FX ag,DB] at af;have E3:=(v3.same s3).block μ;have mv:∀ {Ha Hb:Hp},Ah Ha Hb->Ax X.K Ha (PU P fp) ys ts fp->Ax X.K Hb (PU P fp) ys ts fp:=fun {Ha Hb} v4 o=>o.move v4.del λ a ha=>by
     obtain⟨o',z,_⟩:=o.BU a ha;rw[z];exact v4 _ _ z
    refine g2 P0 (PU P fp) _ H3 _ (AV μ ρ) v ds[i] E3 hv ?_;cases q1:gt ds[i] (AV μ ρ) with
    |bad|ex x=>rw[q1] at af;cases af
    |ok ρ1 =>
     rw[q1] at af;dsimp only at af;intro σ4 E4;refine t2 s H1 C ex P0 (PU P fp) σ4 H3 _ ρ1 E4 ?_;cases q2:ft ρ1 with
     |bad|ex x=>rw[q2] at af;cases af
     |ok k =>
      rw[q2] at af;intro H5 s5;cases k with
      |false =>
       dsimp only at af;simp only[zb0,if_false];exact⟨ag,by omega,(s2.trans s3).trans s5,ts,fp,rest,mv s5 (mv s3 bn),br,dz,af,au⟩
      |true =>
       dsimp only at af;simp only[if_true];refine e2 s H1 C ex P0 (PU P fp) σ4 H5 _ ρ1 (E4.same s5) ?_;cases q3:fn ρ1 with
       |bad|ex x=>rw[q3] at af;cases af
       |ok y' =>
        rw[q3] at af;dsimp only at af;cases q4:DB gt ft fn (ds.drop (i+1)) (AV μ ρ) with
        |bad|ex x=>rw[q4] at af;cases af
        |ok gx =>
         rw[q4] at af;cases af;intro w fq H6 s6 n6 yi o6;have hs:=mv s5 (mv s3 bn);have dj:∀a∈fp,a∉fq:=λ a ha hb=>(hs.BU a ha).no (n6 a hb);have eP:PU (PU P fp) fq=PU P (fp++fq):=by
          funext a;simp only[PU,zao,or_assoc]
         have sm:Ah (del H5 (PU P fp)) (del H6 (PU P (fp++fq))):=by rw[<-eP];exact Bk s6 n6
         refine⟨ag,by rw[zal,zba];omega,((s2.trans s3).trans s5).trans s6,ts++[y'],fp++fq,gx,(hs.move sm λ a ha=>?_).snoc (by rw[<-eP];exact o6),λ a ha=>?_,zau.mpr ⟨dz,yi,λ a ha b hb z=>dj a ha (by rw[z];exact hb)⟩,rfl,?_⟩
         ·obtain⟨o',z,_⟩:=hs.BU a ha;rw[z];exact s6 _ _ z
         ·rcases zao.mp ha with ha|ha
          ·exact br a ha
          ·exact Cd ((s2.trans s3).trans s5) (n6 a ha)
         ·rw[zbg];exact au
   ·have e:i=ds.length:=by omega
    subst e;rw[zcm,DB] at af;cases af;rw[zb7] at au;subst au;exact .inl ⟨ok.stop _ (PU P fp) H2 (Bk s2 br) (zag _),λ D0 hn=>h.abh (s1.trans s2) (λ a ha=>Cd s1 (br a ha)) dz (E1.same s2).BU bn D0 hn⟩
end
def Inv.freeze (I:Inv X pins σ H s)(e:H a=some (.dK kvs)):
 ∃o,s.heap.get? a=some o/\Inv X pins σ (upd H a (.GQ o (.dK kvs))) s:=by
 obtain⟨z,y,vs,r,o,es,ep,ho,c⟩:=(show Bn X.prog X.w H s.heap a (.dK kvs) from I.Aw a _ e);have ne:∀b u,H b=some u->u≠.dK kvs->b≠a:=λ b u q n hb=>n (by rw[hb,e] at q;exact (zas q).symm);have Aw:GR X.prog X.w (upd H a (.GQ o (.dK kvs))) s.heap:=λ b u q=>by
  by_cases hb:b=a
  ·subst hb;rw[Am] at q;cases q;exact⟨ho,⟨z,y,vs,r,o,es,ep,ho,c⟩⟩
  ·rw[Ag hb] at q;exact (I.Aw b u q).Qi (λ _ _ _ w=>w) (λ d w=>by rw[Ag (ne d _ w (λ z=>by cases z))];exact w) λ d xs w=>by rw[Ag (ne d _ w (λ z=>by cases z))];exact w
 refine⟨o,ho,?_⟩;have:=I.step (g':=s.gens) (d':=s.drawn) (t':=s.toks) (ch:=[]) (h':=s.heap) (H':=upd H a (.GQ o (.dK kvs))) (λ b hb=>by cases hb) (λ _ _ _ _ _ q _=>q) (λ b o _ _ _ q _=>⟨o.slots,q⟩) (λ b o _ _ n=>by rw[Ag (λ z=>by rw[z,e] at n;cases n)];exact n)
  (λ b o _ q=>⟨o,q⟩) (λ b xs q=>by rw[Ag (ne b _ q (λ z=>by cases z))];exact q) (λ b o u q=>by rw[Ag (ne b _ q (λ z=>by cases z))];exact q) (λ b ps q=>⟨#[],by rw[Ag (ne b _ q (λ z=>by cases z)),q];simp⟩) (λ _ q=>q) Aw I.bare
 exact this
def Inv.zL (I:Inv X pins σ H s)(e:H a=some (.dK kvs)):∀o u,X.H₀ a≠some (.GQ o u):=λ o u q=>by
 rw[I.base.N2 a o u q] at e;cases e
def Inv.iV (I:Inv X pins σ H s)(e:H a=some (.GQ o (.dK kvs)))(n0:∀o u,X.H₀ a≠some (.GQ o u)):Inv X pins σ (upd H a (.dK kvs)) s:=by
 have ne:∀b u,H b=some u->u≠.GQ o (.dK kvs)->b≠a:=λ b u q n hb=>n (by rw[hb,e] at q;exact (zas q).symm);have nn:∀b,H b=none->b≠a:=λ b q hb=>by rw[hb,e] at q;cases q
 refine⟨I.ok,I.os,I.bare,⟨I.base.keep,I.base.slot,λ b ob q n hx=>?_,I.base.there,λ b xs q=>?_,λ b ob u q=>?_,λ b ps q=>?_⟩,I.loc,I.cell,?_,λ x c h=>?_,λ p hp=>?_,λ b u q=>?_,I.len⟩
 ·have:=I.base.free b ob q n hx;rw[Ag (nn b this)];exact this
 ·have:=I.base.Qj b xs q;rw[Ag (ne b _ this (λ z=>by cases z))];exact this
 ·by_cases hb:b=a
  ·subst hb;exact absurd q (n0 ob u)
  ·rw[Ag hb];exact I.base.N2 b ob u q
 ·obtain⟨m,h⟩:=I.base.Qk b ps q;exact⟨m,by rw[Ag (ne b _ h (λ z=>by cases z))];exact h⟩
 ·rw[Ag (nn _ I.free)];exact I.free
 ·rw[Ag (nn _ (I.FO x c h))];exact I.FO x c h
 ·obtain⟨h1,h2,h3⟩:=I.pin p hp;exact⟨h1,by rw[Ag (nn _ h2)];exact h2,h3⟩
 ·by_cases hb:b=a
  ·subst hb;rw[Am] at q;cases q;obtain⟨h1,z,y,vs,r,ob,es,ep,ho,c⟩:=(show Bn X.prog X.w H s.heap b (.GQ o (.dK kvs)) from I.Aw b _ e);exact⟨z,y,vs,r,ob,es,ep,ho,c⟩
  ·rw[Ag hb] at q;exact (I.Aw b u q).Qi (λ _ _ _ w=>w) (λ d w=>by rw[Ag (ne d _ w (λ z=>by cases z))];exact w) λ d xs w=>by rw[Ag (ne d _ w (λ z=>by cases z))];exact w
def ZQ:∀ {k:Key}{u:Value},O2 k u=true->RelV (kV k) u
 | .inl i,u,h=>by
  obtain⟨t,e⟩:=Value.isInt_shape (k:=i) (v:=u) h;exact⟨t,e⟩
 | .inr x,u,h=>by
  obtain⟨t,e⟩:=Value.isStrOf_shape (x:=x) (v:=u) h;exact⟨t,e⟩
def KV.get (r:KV kvs vs){i:Nat}{k:Key}(h:vs[i]?=some (k,x)):∃v,kvs[i]?=some (k,v):=by
 induction r generalizing i with
 |nil=>cases h
 | @cons p q ps qs hd tl ih =>
  cases i with
  |zero =>
   rw[zc0] at h;cases h;have ep:p=(k,p.2):=Prod.ext hd.1 rfl;exact⟨p.2,by rw[zc0,<-ep]⟩
  |succ i=>rw[zb1] at h ⊢;exact ih h
abbrev zM (a:Addr)(o:Obj)(kvs:List (Key×V)):It:=
 ⟨λ i H=>H a=some (.GQ o (.dK kvs))/\i<kvs.length,λ i H v H'=>H'=H/\∃kv,kvs[i]?=some kv/\v=kV kv.1,λ i H=>H a=some (.GQ o (.dK kvs))/\kvs.length<=i⟩
def ZR {K}(a it:Addr)(o:Obj)(kvs:List (Key×V))(vs:List (Key×Value))(ep:Nat)(hD:∀h:Heap,h.get? a=some o->h.DictAt (AR P w) a vs ep)(ke:KV kvs vs)(ae:a≠it):
 Turn P w K tg (zM a o kvs) [it] it (λ i h=>i<=kvs.length/\h.IsKeyIter it a i kvs.length ep) where
 mem:=by simp
 obj:=λ i h st b hb=>by
  have e:b=it:=by simpa using hb
  subst e;obtain⟨_,o,e,c,d⟩:=st;exact⟨o,e,λ v z=>by rw[d] at z;cases z⟩
 keep:=λ i h h' st k=>⟨st.1,st.2.at λ o e=>k it (by simp) o e⟩
 item:=by
  intro X hP hw hK hc i pins s σ H E I hf st hg;subst hP hw hK;obtain⟨he,hi⟩:=hg;have hlen:kvs.length=vs.length:=zcx ke;have ig:s.heap.get? a=some o:=(show Bn X.prog X.w H s.heap a (.GQ o (.dK kvs)) from I.Aw a _ he).1;obtain⟨f0,f1,f2,f3,f4,f5⟩:=hf it (by simp);have W:=Walks.dictKeys (prog:=X.prog) (w:=X.w) (knd:=AR X.prog X.w) (A:=X.A) (I.ok.hd hc) it a ae vs ep;refine W.item i s _ _ (by omega) ⟨by rw[<-hlen];exact st.2,hD _ ig⟩ λ v h' tk hv bg kp=>?_;obtain⟨k,x,hk,yj⟩:=hv;obtain⟨v',je⟩:=ke.get hk;have I1:Inv X pins σ H {s with heap:=h',toks:=tk}:=I.turned (t':=tk) (λ b o hb e=>kp b o (by simpa using hb) e) f0 f1 f3 f4 f5;obtain⟨ob,e,c,d⟩:=id bg.1;exact⟨v,rfl,TQ (s:={s with heap:=h',toks:=tk}) e c d (by decide) ⟨kV k,H,I1,ZQ yj,⟨rfl,_,je,rfl⟩,⟨hi,by rw[hlen];exact bg.1⟩,λ b hb=>(hf b hb).1⟩⟩
 done:=by
  intro X hP hw hK hc i pins s σ H E I hf st hg;subst hP hw hK;obtain⟨he,hi⟩:=hg;have hlen:kvs.length=vs.length:=zcx ke;have ig:s.heap.get? a=some o:=(show Bn X.prog X.w H s.heap a (.GQ o (.dK kvs)) from I.Aw a _ he).1;obtain⟨f0,f1,f2,f3,f4,f5⟩:=hf it (by simp);have W:=Walks.dictKeys (prog:=X.prog) (w:=X.w) (knd:=AR X.prog X.w) (A:=X.A) (I.ok.hd hc) it a ae vs ep;have sx:i=vs.length:=by have:=st.1;omega
  subst sx;exact W.done s _ _ ⟨by rw[<-hlen];rw[<-hlen] at st;exact st.2,hD _ ig⟩ λ h' tk kp=>⟨rfl,I.turned (t':=tk) (λ b o hb e=>kp b o (by simpa using hb) e) f0 f1 f3 f4 f5⟩
 self:=λ _ _ _ _ _ st h=>wpAny_pyIter_keyiter st.2 h
section
variable {f g:Ae->M D}{p:Pos}{te:TE}
abbrev zN (H0:Hp)(te:TE):TI:=λ σ H R=>te σ H λ v H1=>∃a kvs,v=.ref a/\((H1 a=some (.dK kvs)/\∀o,(∀o u,H0 a≠some (.GQ o u))->R (zM a o kvs) (upd H1 a (.GQ o (.dK kvs))))\/∃o,H1 a=some (.GQ o (.dK kvs))/\R (zM a o kvs) H1)
def oU (ha:PE X e te):PI X tg e (zN X.H₀ te):=by
 intro pins s σ H R I h;refine Bi (ha pins s σ H _ I h) λ v s1 zz=>?_;obtain⟨x,H1,I1,r1,q1⟩:=zz;obtain⟨a,kvs,rfl,q⟩:=q1;cases r1;have fin:∀(H2:Hp) (o:Obj),Inv X pins σ H2 s1->H2 a=some (.GQ o (.dK kvs))->R (zM a o kvs) H2->wpAny (model X.prog X.w) X.A (pyIter (.ref a)) (PIE X pins σ tg R) X.xe s1:=λ H2 o I2 e2 q2=>by
  obtain⟨ig,z,y,vs,r,ob,es,ep,ho,c⟩:=(show Bn X.prog X.w H2 s1.heap a (.GQ o (.dK kvs)) from I2.Aw a _ e2);have eo:o=ob:=zas (ig.symm.trans ho);subst eo;have hD:∀h:Heap,h.get? a=some o->h.DictAt (AR X.prog X.w) a vs ep:=λ h q=>⟨o,es,q,c⟩;have hlen:kvs.length=vs.length:=zcx r;refine wpAny_pyIter_dict y (hD _ ig) ?_;refine⟨s1.heap.objs.size,[s1.heap.objs.size],_,_,H2,rfl,I2.kept (t':=s1.toks) λ b o e=>zac _ e,ZR a _ o kvs vs ep hD r (zat (zaj ig)),⟨zbb _,_,zar _ rfl,rfl,by rw[hlen];rfl⟩,λ b hb=>?_,q2⟩;have e:b=s1.heap.objs.size:=by simpa using hb
  subst e;exact I2.VQ (zag _) (I2.Aw.fresh (zag _))
 rcases q with ⟨e1,q⟩|⟨o,e1,q⟩
 ·obtain⟨o,ho,I2⟩:=I1.freeze e1;exact fin _ o I2 Am (q o (I1.zL e1))
 ·exact fin H1 o I1 e1 q
end
abbrev Rz (H H':Hp):Prop:=∀b u,H b=some u->H' b=some u\/(∃o kvs,u=.GQ o (.dK kvs)/\H' b=some (.dK kvs))\/∃o kvs,u=.dK kvs/\H' b=some (.GQ o (.dK kvs))
def Rz.tup (e:Rz H H')(h:H a=some (.tup xs)):H' a=some (.tup xs):=by
 rcases e _ _ h with q|⟨o,k,q,_⟩|⟨o,k,q,_⟩
 ·exact q
 ·cases q
 ·cases q
def Rz.dT (e:Rz H H')(h:Rd H a (.dT kvs)):Rd H' a (.dT kvs):=by
 rcases h with h|⟨o,h⟩
 ·rcases e _ _ h with q|⟨o,k,q,_⟩|⟨o,k,q,_⟩
  ·exact .inl q
  ·cases q
  ·cases q
 ·rcases e _ _ h with q|⟨o,k,q,_⟩|⟨o,k,q,_⟩
  ·exact .inr ⟨_,q⟩
  ·cases q
  ·cases q
def Rz.dK (e:Rz H H')(h:Rd H a (.dK kvs)):Rd H' a (.dK kvs):=by
 rcases h with h|⟨o,h⟩
 ·rcases e _ _ h with q|⟨o,k,q,_⟩|⟨o,k,q,r⟩
  ·exact .inl q
  ·cases q
  ·cases q;exact .inr ⟨_,r⟩
 ·rcases e _ _ h with q|⟨o,k,q,r⟩|⟨o,k,q,_⟩
  ·exact .inr ⟨_,q⟩
  ·cases q;exact .inl r
  ·cases q
def Rz.ins (e:Rz H H')(h:H a=some (.ins C dx fs)):H' a=some (.ins C dx fs):=by
 rcases e _ _ h with q|⟨o,k,q,_⟩|⟨o,k,q,_⟩
 ·exact q
 ·cases q
 ·cases q
def Rz.ext (e:Rz H H')(h:H a=some (.ext φ)):H' a=some (.ext φ):=by
 rcases e _ _ h with q|⟨o,k,q,_⟩|⟨o,k,q,_⟩
 ·exact q
 ·cases q
 ·cases q
def Rz.seq {K}(e:Rz H H')(h:Dr K H a xs):Dr K H' a xs:=by
 rcases h with (h|⟨o,h⟩)|h
 ·rcases e _ _ h with q|⟨o,k,q,_⟩|⟨o,k,q,_⟩
  ·exact .inl (.inl q)
  ·cases q
  ·cases q
 ·rcases e _ _ h with q|⟨o,k,q,_⟩|⟨o,k,q,_⟩
  ·exact .inl (.inr ⟨_,q⟩)
  ·cases q
  ·cases q
 ·exact .inr h
mutual
theorem BV.rz {K:za0}{H H':Hp}(e:Rz H H'):∀ {v:V}{d:D},BV K H v d->BV K H' v d:=by
 intro _ _ x_;cases x_ with
 |AL=>exact .AL
 |bl b=>exact .bl b
 |int i=>exact .int i
 |str x=>exact .str x
 |tup h r=>exact .tup (e.tup h) (Ak.rz e r)
 |lst h r=>exact .lst (e.seq h) (Ak.rz e r)
 |Tw h r=>exact .Tw (e.dK h) (Ak.rz e r)
 |Ua h r=>exact .Ua (e.dT h) (Ak.rz e r)
 |ins n h r=>exact .ins n (e.ins h) (Ak.rz e r)
 |LO h r=>exact .LO h r
theorem Ak.rz {K:za0}{H H':Hp}(e:Rz H H'):∀ {vs:List V}{ds:List D},Ak K H vs ds->Ak K H' vs ds:=by
 intro _ _ x_;cases x_ with
 |nil=>exact .nil
 |cons h t=>exact .cons (BV.rz e h) (Ak.rz e t)
end
mutual
theorem C6.rz {K:za0}{H H':Hp}{P P':Addr->Prop}(sm:Rz (del H P) (del H' P')):∀ {v:V}{t:OT}{fp:List Addr},(∀a∈fp,H' a=H a)->C6 K H P v t fp->C6 K H' P' v t fp:=by
 intro _ _ _ k x_;cases x_ with
 |sh h=>exact .sh (h.rz sm)
 |lst h r=>exact .lst ((k _ za3).trans h) (Ax.rz sm (λ a ha=>k a (za4 _ ha)) r)
 |tup h r=>exact .tup (sm.tup h) (Ax.rz sm k r)
 |dK h r=>exact .dK ((k _ za3).trans h) (Ax.rz sm (λ a ha=>k a (za4 _ ha)) r)
 |dT h r=>exact .dT ((k _ za3).trans h) (Ax.rz sm (λ a ha=>k a (za4 _ ha)) r)
 |ins n h r=>exact .ins n ((k _ za3).trans h) (Ax.rz sm (λ a ha=>k a (za4 _ ha)) r)
theorem Ax.rz {K:za0}{H H':Hp}{P P':Addr->Prop}(sm:Rz (del H P) (del H' P')):∀ {v:List V}{t:List OT}{fp:List Addr},(∀a∈fp,H' a=H a)->Ax K H P v t fp->Ax K H' P' v t fp:=by
 intro _ _ _ k x_;cases x_ with
 |nil=>exact .nil
 |cons h r=>exact .cons (C6.rz sm (λ a ha=>k a (zb8 _ ha)) h) (Ax.rz sm (λ a ha=>k a (zad _ ha)) r)
end
def BL.rz {K:za0}{H H':Hp}{P P':Addr->Prop}(sm:Rz (del H P) (del H' P')):∀ {ps:List Addr}{C3:List (List D)},(∀a∈ps,H' a=H a)->BL K H P ps C3->BL K H' P' ps C3:=by
 intro _ _ k x_;cases x_ with
 |nil=>exact .nil
 |cons h r t=>exact .cons ((k _ za3).trans h) (r.rz sm) (BL.rz sm (λ a ha=>k a (za4 _ ha)) t)
def D7.rz {K}(sm:Rz (del H P) (del H' P'))(k:∀a∈fp,H' a=H a)(h:D7 K H P c v fp):D7 K H' P' c v fp:=by
 cases c with
 |val d=>exact h
 |own ds =>
  obtain⟨p,xs,rfl,rfl,h1,h2⟩:=h;exact⟨p,xs,rfl,rfl,(k p za3).trans h1,h2.rz sm⟩
 |ow o =>
  cases o with
  |rows C3 =>
   obtain⟨p,ps,rfl,rfl,h1,h2⟩:=h;exact⟨p,ps,rfl,rfl,(k p za3).trans h1,h2.rz sm λ a ha=>k a (za4 _ ha)⟩
  |N5 p ds =>
   obtain⟨p,xs,rfl,rfl,h1,h2⟩:=h;exact⟨p,xs,rfl,rfl,(k p za3).trans h1,h2.rz sm⟩
  |tree p t=>exact C6.rz sm k h
def Ao.rz {K}(E:Ao K P0 P H σ ρ)(k:∀a,P a->H' a=H a)(sm:Rz (del H P) (del H' P)):Ao K P0 P H' σ ρ:=by
 have key:∀(j:Nat) (d:Cl) (w:V) (fq:List Addr),ρ[j]?=some (some d)->σ[j]?=some (some w)->D7 K H' P d w fq->D7 K H P d w fq:=λ j d w fq hk sk ho=>by
  have io:Hk d=true:=by cases d<;>first|rfl|exact ho.elim
  obtain⟨w',bG,s2,o2,h3,_⟩:=E.ows j d hk io;rw[sk] at s2;cases s2;have o3:=o2.rz sm λ a ha=>k a (h3 a ha).1;rw[ho.Cj o3];exact o2
 exact⟨E.sub,λ a h=>by obtain⟨o,z,y⟩:=E.BU a h;exact⟨o,(k a h).trans z,y⟩,λ i d h=>let ⟨v,h1,h2⟩:=E.val i d h;⟨v,h1,h2.rz sm⟩,
  λ i c h io=>let ⟨v,fp,h1,h2,h3,h4⟩:=E.ows i c h io;⟨v,fp,h1,h2.rz sm λ a ha=>k a (h3 a ha).1,h3,h4⟩,
  λ i j c c' v v' fp ah hi hj si sj h h' ae=>E.apart i j c c' v v' fp ah hi hj si sj (key i c v fp hi si h) (key j c' v' ah hj sj h') ae,E.len,E.pin⟩
abbrev Fz (H0:Hp)(H H':Hp):Prop:=H'=H\/∃a o kvs,H a=some (.dK kvs)/\H'=upd H a (.GQ o (.dK kvs))/\∀o u,H0 a≠some (.GQ o u)
abbrev Uz (H0:Hp)(H H':Hp):Prop:=H'=H\/∃a o kvs,H a=some (.GQ o (.dK kvs))/\H'=upd H a (.dK kvs)/\∀o u,H0 a≠some (.GQ o u)
def Inv.uz (I:Inv X pins σ H s)(u:Uz X.H₀ H H'):Inv X pins σ H' s:=by
 rcases u with rfl|⟨a,o,kvs,e,rfl,n0⟩
 ·exact I
 ·exact I.iV e n0
abbrev tUz (H0:Hp)(t:TE):TE:=λ σ H Q=>t σ H λ v H2=>∃H3,Uz H0 H2 H3/\Q v H3
def zO (h:PE X e t):PE X e (tUz X.H₀ t):=by
 intro pins s σ H Q I q;refine Bi (h pins s σ H _ I q) λ v s1 zz=>?_;obtain⟨x,H1,I1,r1,q1⟩:=zz;obtain⟨H3,u,q⟩:=q1;exact⟨x,H3,I1.uz u,r1,q⟩
abbrev DIK (X:Cx)(WX:Str->Hp->Prop)(tg iter:Expr)(f:Ae->M (List D)):Prop:=
 ∃wi,PI X tg iter wi/\∀P0 P σ H R ρ,Ao X.K P0 P H σ ρ->(match f ρ with | .ok ds=>∀J H1 H',Ah H H1->Fz X.H₀ H1 H'->(∀b,P b->H' b=H1 b)->Rz (del H1 P) (del H' P)->Ug X.K J P H' ds->R J H' | .ex x=>∀H',Ah H H'->WX x H' | .bad=>False)->wi σ H R
abbrev vC (d:D):M (List D):=match d with | .BG false ks _=>.ok ks | _=>.bad
def oV {K}:∀k:Key,BV K H (kV k) (CD k)
 | .inl i=>.int i
 | .inr x=>.str x
def iW {K}(nP:¬ P a)(e:H a=some (.GQ o (.dK kvs))):Ug K (zM a o kvs) P H (kvs.map λ kv=>CD kv.1):=by
 have at':∀ {P':Addr->Prop} {H':Hp},Ah (del H P) (del H' P')->H' a=some (.GQ o (.dK kvs)):=λ s=>(An (s a _ (by rw[Ay nP];exact e))).2;refine⟨λ i P' H' s hi=>⟨at' s,by rw[za2] at hi;exact hi⟩,λ i P' H' s hi=>⟨at' s,by rw[za2] at hi;exact hi⟩,λ i P' H' v du d s ht hd y=>?_⟩;obtain⟨rfl,kv,hk,rfl⟩:=y;rw[zan,hk] at hd;cases hd;exact⟨Ah.refl _,oV _⟩
section
variable {c:Bool}{P:Addr->Prop}{H:Hp}{a b:Expr}{f g:Ae->M D}{fs:Ae->M (List D)}
def oW (ha:DE X WX true e f):DIK X WX tg e (λ ρ=>(f ρ).bind vC):=by
 obtain⟨ta,a1,a2⟩:=ha;refine⟨_,oU a1,λ P0 P σ H R ρ E h=>?_⟩;dsimp only at h;refine a2 P0 P σ H _ ρ E ?_;cases q:f ρ with
 |bad|ex x=>rw[q] at h;exact h
 |ok d =>
  rw[q] at h;simp only[M.A9] at h;unfold vC at h;cases d with
  |BG t ks vs =>
   intro v H1 s1 hv;cases hv with
   | @Tw a kvs _ hh hl =>
    rcases hh with hh|⟨o,hh⟩
    ·obtain⟨nP,ea⟩:=An hh;refine⟨a,kvs,rfl,.inl ⟨ea,λ o n0=>h _ H1 _ s1 (.inr ⟨a,o,kvs,ea,rfl,n0⟩) (λ b hb=>Ag λ z=>nP (by rw[<-z];exact hb)) (λ b u q=>?_) (iW nP Am)⟩⟩;obtain⟨n,q'⟩:=An q;by_cases hb:b=a
     ·subst hb;rw[ea] at q';cases q';exact .inr (.inr ⟨o,kvs,rfl,by rw[Ay n];exact Am⟩)
     ·exact .inl (by rw[Ay n,Ag hb];exact q')
    ·obtain⟨nP,ea⟩:=An hh;exact⟨a,kvs,rfl,.inr ⟨o,ea,h _ H1 H1 s1 (.inl rfl) (λ _ _=>rfl) (λ _ _ q=>.inl q) (iW nP ea)⟩⟩
   |Ua _ _=>exact h.elim
  |_=>exact h.elim
def oX (i2:∀P0 P σ H R ρ,Ao X.K P0 P H σ ρ->(match fi ρ with | .ok ds=>∀J H1 H',Ah H H1->Fz X.H₀ H1 H'->(∀b,P b->H' b=H1 b)->Rz (del H1 P) (del H' P)->Ug X.K J P H' ds->R J H' | .ex x=>∀H',Ah H H'->WX x H' | .bad=>False)->wi σ H R)(g2:∀P0 P σ H Q ρ v d,Ao X.K P0 P H σ ρ->BV X.K (del H P) v d->gG X.K P0 P H Q (gt d ρ)->gg v σ H Q)(t2:∀s H' C ex P0 P σ H Q ρ,Ao X.K P0 P H σ ρ->gT (λ _ _=>False) H Q (ft ρ)->tc s H' C ex σ H Q)(e2:∀s H' C ex P0 P σ H Q ρ,Ao X.K P0 P H σ ρ->gV X.K (λ _ _=>False) (Lv true P0 P) H Q (fe ρ)->te s H' C ex σ H Q)(E:Ao X.K P0 P H σ ρ)(h:VJ X.K WX P H Q ((fi ρ).bind λ ds=>if ds.length<=1000 then GX (B9 gt ft fe ds (AV μ ρ)) else .bad)):tUz X.H₀ (QX wi μ gg tc te) σ H Q:=by
 unfold tUz;refine i2 P0 P σ H _ ρ E ?_;cases q:fi ρ with
 |bad|ex x=>rw[q] at h;exact h
 |ok ds =>
  rw[q] at h;simp only[M.A9] at h;by_cases hd:¬ ds.length<=1000
  ·rw[if_neg hd] at h;exact h.elim
  have hd:ds.length<=1000:=by omega
  rw[if_pos hd] at h;intro J H0 H1 s0 fz kP rz ok s C ex;cases qc:B9 gt ft fe ds (AV μ ρ) with
  |bad|ex x=>rw[qc] at h;exact h.elim
  |ok total =>
   rw[qc] at h;unfold GX at h;dsimp only at h;have E1:Ao X.K P0 P H1 σ ρ:=(E.same s0).rz kP rz;refine⟨λ i m ys H2=>m=ds.length-i/\i<=ds.length/\ys.length<=i/\Ah H1 H2/\∃es rest,Ak X.K (del H2 P) ys es/\B9 gt ft fe (ds.drop i) (AV μ ρ)=.ok rest/\es++rest=total,
    ⟨ds.length,by simp,zbb _,zag _,Ah.refl _,[],total,.nil,by rw[zdb];exact qc,rfl⟩,?_⟩
   rintro i m ys H2 ⟨rfl,hi,hy,s2,es,rest,bn,af,au⟩;by_cases ag:i<ds.length
   ·refine .inr ⟨ok.go i P H2 s2.del ag,Nat.lt_of_le_of_lt hy (AA (by omega)),λ aI H'=>i+1<=ds.length/\aI.length<=i+1/\Ah H1 H'/\∃es rest,Ak X.K (del H' P) aI es/\B9 gt ft fe (ds.drop (i+1)) (AV μ ρ)=.ok rest/\es++rest=total,λ aI H' hq=>⟨ds.length-(i+1),by omega,rfl,hq.1,hq.2.1,hq.2.2.1,hq.2.2.2⟩,λ v H3 y=>?_⟩;have E2:=E1.same s2;obtain⟨s3,hv⟩:=ok.jZ i P H2 v H3 ds[i] s2.del E2.BU (za6 ag) y;rw[FX ag,B9] at af;have E3:=(E2.same s3).block μ;refine g2 P0 P _ H3 _ (AV μ ρ) v ds[i] E3 hv ?_;cases q1:gt ds[i] (AV μ ρ) with
    |bad|ex x=>rw[q1] at af;cases af
    |ok ρ1 =>
     rw[q1] at af;dsimp only at af;intro σ4 E4;refine t2 s H1 C ex P0 P σ4 H3 _ ρ1 E4 ?_;cases q2:ft ρ1 with
     |bad|ex x=>rw[q2] at af;cases af
     |ok k =>
      rw[q2] at af;dsimp only at af;intro H5 s5;cases k with
      |false =>
       simp only[zb0,if_false] at af ⊢;exact⟨ag,by omega,(s2.trans s3).trans s5,es,rest,(bn.mono s3.del).mono s5.del,af,au⟩
      |true =>
       simp only[if_true] at af ⊢;refine e2 s H1 C ex P0 P σ4 H5 _ ρ1 (E4.same s5) ?_;cases q3:fe ρ1 with
       |bad|ex x=>rw[q3] at af;cases af
       |ok y' =>
        rw[q3] at af;dsimp only at af;cases q4:B9 gt ft fe (ds.drop (i+1)) (AV μ ρ) with
        |bad|ex x=>rw[q4] at af;cases af
        |ok gx =>
         rw[q4] at af;cases af;intro w H6 s6 hw;refine⟨ag,by rw[zal,zba];omega,((s2.trans s3).trans s5).trans s6,es++[y'],gx,(((bn.mono s3.del).mono s5.del).mono s6.del).snoc hw,rfl,?_⟩;rw[zbg];exact au
   ·have e:i=ds.length:=by omega
    subst e;rw[zcm,B9] at af;cases af;rw[zb7] at au;subst au;refine .inl ⟨ok.stop _ P H2 s2.del (zag _),λ D0 hn=>?_⟩;rcases fz with rfl|⟨a,o,kvs,ea,rfl,n0⟩
    ·exact⟨_,.inl rfl,h.J8 (s0.trans s2) bn D0 hn⟩
    ·have e2:H2 a=some (.GQ o (.dK kvs)):=s2 a _ Am;have nP:¬ P a:=λ z=>by
      have:=kP a z;rw[Am,ea] at this;cases this
     have ae:a≠D0:=λ z=>by rw[<-z,e2] at hn;cases hn
     have ec:upd (upd H2 D0 (.lst ys)) a (.dK kvs)=upd (upd H2 a (.dK kvs)) D0 (.lst ys):=by
      funext b;by_cases hb:b=a
      ·subst hb;rw[Am,Ag ae,Am]
      ·rw[Ag hb];by_cases hd:b=D0
       ·subst hd;rw[Am,Am]
       ·rw[Ag hd,Ag hd,Ag hb]
     refine⟨upd (upd H2 D0 (.lst ys)) a (.dK kvs),.inr ⟨a,o,kvs,by rw[Ag ae];exact e2,rfl,n0⟩,?_⟩;rw[ec];have su:Ah H (upd H2 a (.dK kvs)):=s0.trans λ b u q=>by
      by_cases hb:b=a
      ·subst hb;rw[ea] at q;cases q;exact Am
      ·rw[Ag hb];exact s2 b u (by rw[Ag hb];exact q)
     refine h.J8 su (bn.rz λ b u q=>?_) D0 (by rw[Ag (zbi ae)];exact hn);by_cases hb:b=a
     ·subst hb;rw[Ay nP,e2] at q;cases q;exact .inr (.inl ⟨o,kvs,rfl,by rw[Ay nP];exact Am⟩)
     ·refine .inl ?_;obtain⟨n,q'⟩:=An q;rw[Ay n,Ag hb];exact q'
def iX (μ:List (Option Nat))(hc:X.calm=true)(hi:DIK X WX tg iter fi)(az:Gi scope X.env.scope=true)(aW:Oe X.N NB scope μ=true)(hg:tQ X scope NB μ tg gt)(ht:∀s H C ex,tR (blockOf X s H scope C NB ex) ifs ft)(he:∀s H C ex,DE (blockOf X s H scope C NB ex) (λ _ _=>False) true elt fe)(hs:∀x,foldedSetIterable iter X.env x=pure x:=by intro _;rfl):
 DN X WX (.ListComp elt [⟨tg,iter,ifs,0⟩] scope pos) (λ ρ=>(fi ρ).bind λ ds=>if ds.length<=1000 then GX (B9 gt ft fe ds (AV μ ρ)) else .bad):=by
 obtain⟨wi,i1,i2⟩:=hi;obtain⟨gg,g1,gk,g2⟩:=hg;refine⟨_,zO (Xy hc i1 az aW gk (λ s H C ex=>⟨g1 s H C ex,(za1 (ht s H C ex)).1,(za1 (he s H C ex)).1⟩) hs),λ P0 P σ H Q ρ E h=>?_⟩;exact oX i2 g2 (λ s H' C ex P0 P σ H Q ρ E h=>(za1 (ht s H' C ex)).2 P0 P σ H Q ρ E h) (λ s H' C ex P0 P σ H Q ρ E h=>(za1 (he s H' C ex)).2 P0 P σ H Q ρ E h) E h
end
def Yr:∀ {kvs:List (Key×V)}{vs:List (Key×Value)},KV kvs vs->∀us:List Value,us.length=vs.length->(∀(j:Nat) (v:Value),us[j]?=some v->∃k,vs[j]?=some (k,v))->Vals (kvs.map zbw) us
 |_,_,.nil,[],_,_=>.nil
 |_,_,.nil,_::_,h,_|_,_,.cons _ _,[],h,_=>by cases h
 |_,_,.cons hd tl,u::us,h,g=>by
  obtain⟨k,e⟩:=g 0 u rfl;rw[zc0] at e;cases e;exact .cons hd.2 (Yr tl us (by simpa using h) λ j v e=>by
   obtain⟨k,q⟩:=g (j+1) v (by rw[zb1];exact e);rw[zb1] at q;exact⟨k,q⟩)
section
variable {c:Bool}{o:Expr}{f:Ae->M D}{p apos ad:Pos}{to:TE}
abbrev zP (to:TE):TE:=λ σ H Q=>to σ H λ x H1=>∃a kvs,x=.ref a/\Rd H1 a (.dK kvs)/\∀p,H1 p=none->Q (.ref p) (upd H1 p (.ext λ h=>h.IsValuesView p a))
def ZS (ho:PE X o to)(ak: ~~~(attributeBase o "values" X.env (eval o X.env)=eval o X.env))(al: ~~~((apos.endLine==ad.line)=true)):PE X (.Call (.Attribute o "values" apos) [] [] ad) (zP to):=by
 intro pins s0 σ H Q I0 h;refine wpAny_Call_method0_late ak al (Bi (ho pins s0 σ H _ I0 h) λ v s zz=>?_);obtain⟨x,H1,I,r,q⟩:=zz;obtain⟨a,kvs,rfl,ha,q⟩:=q;cases r;obtain⟨z,hd,vs,rel,dd⟩:=K7 I.Aw ha;obtain⟨ob,es,ep,aM,hx,ff⟩:=id dd;refine⟨"dict","dict.values",PySem.F.plainAttrs_dict,PySem.F.slot_dict_values,PySem.F.type_dict_values,dd.typeIs,λ b e=>?_,Calls.callWith_builtin rfl (PySem.evalArgs_none ?_)⟩
 ·cases e;exact⟨ob,aM,hx.2.1⟩
 refine call_meetsIn PySem.F.slot_dict_values dd.typeIs PySem.F.entry_dict_values (PySem.F.args_dict_values_1 _) (meets_dict_values (AR X.prog X.w) a hd) ⟨⟨vs,dd⟩,?_⟩;refine⟨.ref s.heap.objs.size,_,I.laid (a:=s.heap.objs.size) (o:=.ext λ h=>h.IsValuesView s.heap.objs.size a) (t':=s.toks) (λ b ob e=>zac _ e) (zag _) ⟨⟨_,zar _ rfl,rfl,rfl⟩,⟨_,zar _ rfl⟩,λ h1 h2 ⟨ob,e,cc⟩ k=>⟨ob,k ob e,cc⟩⟩,rfl,q _ (I.Aw.fresh (zag _))⟩
def WO:GS X (.type "list") (λ xs H Q=>∃p a kvs,xs=[.ref p]/\H p=some (.ext λ h=>h.IsValuesView p a)/\Rd H a (.dK kvs)/\X.calm=true/\∀l,H l=none->Q (.ref l) (upd H l (.lst (kvs.map zbw)))):=by
 intro pins s σ H xs us Q I r h;obtain⟨p,a,kvs,rfl,hp,ha,hc,q⟩:=h;obtain⟨u,rfl,rx⟩:=vals1 r;cases rx;obtain⟨z,hd,vs,rel,dd⟩:=K7 I.Aw ha;obtain⟨ep,dat⟩:=dd.dictAt;have hv:s.heap.IsValuesView p a:=(show Bn X.prog X.w H s.heap p (.ext λ h=>h.IsValuesView p a) from I.Aw p _ hp).1;have hlen:kvs.length=vs.length:=zcx rel;refine PySem.W.kdl_call (PySem.W.kdl_values (knd:=AR X.prog X.w) (kvs:=vs) (ep:=ep)) (I.ok.hd hc) ⟨hv,dat⟩ (by rw[<-hlen];exact z) λ h' tk acc c' hk hS d0=>?_;have kg:Vals (kvs.map zbw) acc.toList:=Yr rel acc.toList (by rw[zdi];exact d0.1) λ j v e=>d0.2 j v (by rw[<-Array.getElem?_toList];exact e);exact⟨.ref s.heap.objs.size,_,I.laid (t':=tk) hk (zag _) (show Bn X.prog X.w _ h' _ (.lst (kvs.map zbw)) from ⟨by rw[za2];exact z,acc.toList,c',kg,by rw[Array.toArray_toList];exact hS⟩),rfl,q _ (I.Aw.fresh (zag _))⟩
abbrev iY (d:D):M OT:=match d with | .BG false _ vs=>.ok (.lst (vs.map .sh)) | _=>.bad
def UZ (hc:X.calm=true)(hg:Gl X "list")(hm:X.mg "list" = none)(ha:DE X WX true o f)(hb:bootBuiltins "list" = some (.type "list"):=by decide +kernel)(ak: ~~~(attributeBase o "values" X.env (eval o X.env)=eval o X.env))(al: ~~~((apos.endLine==ad.line)=true))(aH: ~~~(starEach [.Call (.Attribute o "values" apos) [] [] ad] X.env=[(false,eval (.Call (.Attribute o "values" apos) [] [] ad) X.env)])):
 DN X WX (.Call (.Name "list" p) [.Call (.Attribute o "values" apos) [] [] ad] [] pos) (λ ρ=>(f ρ).bind iY):=by
 obtain⟨ta,a1,a2⟩:=ha;refine⟨_,LS WO hg hm hb (Bd (ZS a1 ak al) Cv aH) (he:=aH),λ P0 P σ H Q ρ E h=>?_⟩;dsimp only at h;refine a2 P0 P σ H _ ρ E ?_;refine XD h λ d h=>?_;intro v H1 s1 hv;unfold iY at h;split at h
 ·cases hv with
  | @Tw a kvs _ hh hl =>
   have hr:=hh.B8;refine⟨a,kvs,rfl,hr,λ p hp=>?_⟩;have sp:Ah H1 (upd H1 p (.ext λ h=>h.IsValuesView p a)):=AH hp _;exact⟨p,a,kvs,rfl,Am,hr.same sp,hc,h.J8 (s1.trans sp) (hl.mono sp.del)⟩
 ·exact h.elim
end
abbrev ZT:List OT->Option (List D)
 |[]=>some []
 | .sh d::r=>(ZT r).map (d::·)
 |_::_=>none
def Ys:∀ {ts:List OT}{ds:List D},ZT ts=some ds->ts=ds.map .sh
 |[],ds,h=>by cases h;rfl
 | .sh d::r,ds,h=>by
  unfold ZT at h;obtain⟨es,h1,rfl⟩:=zcl.mp h;rw[Ys h1];rfl
 | .lst _::_,ds,h| .tup _::_,ds,h| .BG _ _ _::_,ds,h| .ins _ _ _::_,ds,h=>by cases h
def V0:∀ds:List D,ZT (ds.map .sh)=some ds
 |[]=>rfl
 |d::r=>by rw[za5,ZT,V0 r];rfl
abbrev Ry:List OT->Option (List (List D))
 |[]=>some []
 | .lst ts::r=>(ZT ts).bind λ ds=>(Ry r).map (ds::·)
 |_::_=>none
def RB:∀C3:List (List D),Ry (C3.map λ ds=>.lst (ds.map .sh))=some C3
 |[]=>rfl
 |ds::r=>by rw[za5,Ry,V0,Option.bind_some,RB r];rfl
abbrev iZ:OT->Option (List (List D))
 | .lst ts=>Ry ts
 |_=>none
def oY {K:za0}{H:Hp}{P:Addr->Prop}{ts:List OT}:∀ {C3:List (List D)}{xs:List V}{fp:List Addr},Ry ts=some C3->Ax K H P xs ts fp->xs=fp.map V.ref/\BL K H P fp C3:=by
 induction ts with
 |nil=>intro C3 xs fp h o;cases h;cases o;exact⟨rfl,.nil⟩
 |cons t r ih =>
  intro C3 xs fp h o;cases t with
  |lst rs =>
   cases o with
   |cons o t =>
    cases o with
    |lst ha hr =>
     unfold Ry at h;obtain⟨ds,h1,h2⟩:=Option.bind_eq_some_iff.mp h;obtain⟨es,h3,rfl⟩:=zcl.mp h2;rw[Ys h1] at hr;obtain⟨rfl,hl⟩:=Ax.qC hr;obtain⟨rfl,ht⟩:=ih h3 t;exact⟨rfl,.cons ha hl ht⟩
  |_=>cases h
abbrev oZ (i:Nat)(ρ:Ae)(t:OT):M Out:=match iZ t with
 |some C3=>.ok (.next (ρ.set i (some (.ow (.rows C3)))))
 |none=>.bad
section
variable {c:Bool}{P:Addr->Prop}{H:Hp}{a b:Expr}{f g:Ae->M D}
def zQ {K}(E:Ao K P0 P H σ ρ)(s:Ah H H')(hn:∀a∈fp,H a=none)(nd:fp.Nodup)(o:C6 K H' (PU P fp) v t fp)(h:gS K WX P0 P H Z (oZ i ρ t)):Z.nx (σ.set i (some v)) H':=by
 unfold oZ at h;cases q:iZ t with
 |none=>rw[q] at h;exact h.elim
 |some C3 =>
  rw[q] at h;have BU:=FC (E.same s).BU o;cases t with
  |lst ts =>
   cases o with
   | @lst a xs _ fq ha hr =>
    obtain⟨rfl,aq⟩:=oY q hr;refine h _ H' (PU P (a::fq)) (E.wA s hn) (E.Z6 HG BU (Bk s hn) (λ j c' v' ah ae g1 g2 g3 b hb=>?_) ⟨a,fq,rfl,rfl,ha,aq⟩ (λ b hb=>⟨.inr hb,λ z=>(E.BU b (E.sub b z)).no (hn b hb)⟩) nd (λ n z=>by cases z));obtain⟨ys,z⟩:=g3.at b hb;exact⟨by rw[z];exact s _ _ z,λ w=>by rw[hn b w] at z;cases z⟩
  |_=>cases q
def jA (i:Nat)(μ:List (Option Nat))(hN:X.N.Nodup)(gp:X.N[i]?=some x)(hx:Loc X.env.scope x)(hc:X.calm=true)(hi:DI X WX tg iter fi)(az:Gi scope X.env.scope=true)(aW:Oe X.N NB scope μ=true)(hg:tQ X scope NB μ tg gt)(ht:∀s H C ex,tR (blockOf X s H scope C NB ex) ifs ft)(he:∀s H C ex,DN (blockOf X s H scope C NB ex) (λ _ _=>False) elt fn)(aX: ~~~(swapsWith (.ListComp elt [⟨tg,iter,ifs,0⟩] scope pos) (some (.Name x px)) am.line X.env=pure true))(hs:∀x,foldedSetIterable iter X.env x=pure x:=by intro _;rfl)(hf:X.fn x=true\/X.env.scope.names.lookup x=some .local:=by first|exact .inl rfl|exact .inr rfl|assumption):
 DS X WX (.Assign [.Name x px] (.ListComp elt [⟨tg,iter,ifs,0⟩] scope pos) am) (λ ρ=>((fi ρ).bind λ ds=>if ds.length<=1000 then Pg (DB gt ft fn ds (AV μ ρ)) else .bad).bind (oZ i ρ)):=by
 obtain⟨wi,i1,i2⟩:=hi;obtain⟨gg,g1,gk,g2⟩:=hg;refine⟨_,Sg hN gp hx hc i1 az aW gk (λ s H C ex=>⟨g1 s H C ex,(za1 (ht s H C ex)).1,(za1 (he s H C ex)).1⟩) aX hs hf,λ P0 P σ H Z ρ E h=>?_⟩;refine oT i2 g2 (λ s H' C ex P0 P σ H Q ρ E h=>(za1 (ht s H' C ex)).2 P0 P σ H Q ρ E h) (λ s H' C ex P0 P σ H Q ρ E h=>(za1 (he s H' C ex)).2 P0 P σ H Q ρ E h) E ?_;dsimp only at h;revert h;cases ((fi ρ).bind λ ds=>if ds.length<=1000 then Pg (DB gt ft fn ds (AV μ ρ)) else .bad) with
 |bad=>exact λ h=>h
 |ex y=>exact λ h H' s=>h H' P (E.tr s)
 |ok t=>exact λ h v fp H' s hn nd o=>zQ E s hn nd o h
def vD (ha:DE X WX true e f):DI X WX tg e (λ ρ=>(f ρ).bind λ d=>match d with | .tup ds=>.ok ds | _=>.bad):=by
 obtain⟨ta,a1,a2⟩:=ha;refine⟨_,sC a1,λ P0 P σ H R ρ E h=>?_⟩;dsimp only at h;refine a2 P0 P σ H _ ρ E ?_;cases q:f ρ with
 |bad|ex x=>rw[q] at h;exact h
 |ok d =>
  rw[q] at h;cases d with
  |tup ds =>
   intro v H1 s1 hv;cases hv with
   | @tup a xs _ hh hl =>
    have at':∀ {P':Addr->Prop} {H':Hp},Ah (del H1 P) (del H' P')->Fj X.K H' a xs:=λ s=>.inl (.inl (An (s a _ hh)).2);refine⟨a,rfl,⟨xs,.inl (.inl (An hh).2)⟩,h _ H1 s1 ⟨λ i P' H' s hi=>?_,λ i P' H' s hi=>?_,λ i P' H' v du d s ht hd y=>?_⟩⟩
    ·obtain⟨x,hx,_⟩:=hl.get (za6 hi);exact⟨xs,x,at' s,hx⟩
    ·exact⟨xs,at' s,by rw[hl.length];exact hi⟩
    ·obtain⟨rfl,y⟩:=y;obtain⟨x,hx,ba⟩:=hl.get hd;have e:=y xs (at' s);rw[hx] at e;cases e;exact⟨Ah.refl _,ba.mono s⟩
  |_=>exact h.elim
end
section
variable {w:World}{A:Around}{s:Shared}
def RC {K:Type}[DecidableEq K]{knd:KeyKind prog w K}{h h':Heap}{d I l:Addr}{i:Nat}{xs:List (K×Value)}(hd:h.DictOf knd d xs)(hit:h.IsListIter I l i)(sb:∀b o,b≠I->h.get? b=some o->h'.get? b=some o):h'.DictOf knd d xs:=by
 obtain⟨o,es,ep,h1,h2,h3,h4⟩:=hd;obtain⟨oi,i1,i2,i3⟩:=hit;refine⟨o,es,ep,sb d o (λ z=>?_) h1,h2,h3,h4⟩;subst z;rw[i1] at h1;cases h1;rw[i3] at h3;cases h3
def WQ {K:Type}[DecidableEq K]{knd:KeyKind prog w K}{R:Result->Shared->Prop}{d I l:Addr}{items:Array Value}{h0:Heap}(ps:List (K×Value×Value))(hh:A.handled=none)(gq:l≠I)(sf:d≠I)(f6:l≠d)
 (j5:ps.length=items.size) (hsz:items.size+1<=sizeLine) (hl:h0.IsList l items)
 (hp:∀(j:Nat) p,ps[j]?=some p->knd.is p.1 p.2.1=true/\∃t,items[j]?=some (.ref t)/\t≠d/\t≠I/\IsTup h0 t #[p.2.1,p.2.2]):
 ∀(m i:Nat) (xs:List (K×Value)) (s:Shared),items.size-i=m->i<=items.size->xs.length<=i->s.heap.IsListIter I l i->s.heap.DictOf knd d xs->(∀b o,b≠d->b≠I->h0.get? b=some o->s.heap.get? b=some o)->
  (∀h' tk,h'.DictOf knd d ((ps.drop i).foldl (λ acc p=>stored acc p.1 p.2.2) xs)->(∀b o,b≠d->b≠I->h0.get? b=some o->h'.get? b=some o)->R (.ok (.ret .none)) {s with heap:=h',toks:=tk})->
  codeAny (model prog w) A (.builtin "dict.update.loop" ⟨[.ref d,.ref I,rawInt i,.none],[]⟩) R s:=by
 intro m;induction m with
 |zero =>
  intro i xs s hm hi sg hit hd hf h;have b5:i=items.size:=by omega
  refine codeAny_builtin J4 ?_;rw[zcr D3 _];show wpAny _ A.in1 (pyNext (.ref I) >>= _) _ _ s;refine wpAny_bind (wpAny_pyNext_list_end (A:=A.in1) hh hit (hl.at λ o e=>hf l o f6 gq e) (by simp[b5]) λ h' eb=>?_);have hd2:=RC hd hit λ b o hb e=>eb b o hb e;show wpAny _ A.in1 (Dict.addKeywords d [] >>= _) _ _ _;unfold Dict.addKeywords;refine wpAny_bind (wpAny_bind ?_);refine wpAny_pure (wpAny_pure (wpAny_pure ?_));have ed:ps.drop i=[]:=by rw[List.drop_eq_nil_iff];omega
  rw[ed] at h;exact h h' s.toks hd2 λ b o h1 h2 e=>eb b o h2 (hf b o h1 h2 e)
 |succ m ih =>
  intro i xs s hm hi sg hit hd hf h;have ag:i<items.size:=by omega
  obtain⟨p,h9⟩:∃p,ps[i]?=some p:=⟨ps[i]'(by omega),za6 _⟩;obtain⟨p3,t,ht,t1,t2,t3⟩:=hp i p h9;refine codeAny_builtin J4 ?_;rw[zcr D3 _];show wpAny _ A.in1 (pyNext (.ref I) >>= _) _ _ s;refine wpAny_bind (wpAny_pyNext_list_item (A:=A.in1) hit (hl.at λ o e=>hf l o f6 gq e) ht λ h' b6 sb=>?_);have hd2:h'.DictOf knd d xs:=RC hd hit λ b o hb e=>(sb.2 b hb).trans e;have i7:∀b o,b≠d->b≠I->h0.get? b=some o->h'.get? b=some o:=λ b o h1 h2 e=>(sb.2 b h2).trans (hf b o h1 h2 e);have t4:IsTup h' t #[p.2.1,p.2.2]:=by
   obtain⟨o,e1,e2⟩:=t3;exact⟨o,i7 t o t1 t2 e1,e2⟩
  dsimp only;refine wpAny_bind (wpAny_holding (wpAny_bind (wpAny_tryCatch (Rm t4 ?_))));show wpAny _ A.in1 (holding [p.2.1,p.2.2] (dictSet d p.2.1 p.2.2)) _ _ _;refine wpAny_holding (wpAny_dictSet_pairs (knd:=knd) (hsz:=by omega) p3 hd2 λ h3 ia j6=>?_);refine wpAny_pure ⟨plainId_quiet D3 _,?_⟩;have ib:h3.IsListIter I l (i+1):=by
   obtain⟨o,e1,e2⟩:=b6;exact⟨o,(j6.2 I (zbi sf)).trans e1,e2⟩
  have ed:ps.drop i=p::ps.drop (i+1):=by
   rw[zco (by omega:i<ps.length)];rw[za6 (by omega:i<ps.length)] at h9;rw[zas h9]
  rw[ed,zav] at h;have bK:(stored xs p.1 p.2.2).length<=i+1:=by
   unfold stored;split
   ·rw[za2];omega
   ·rw[zal,zba];omega
  exact ih (i+1) (stored xs p.1 p.2.2) {s with heap:=h3,toks:=s.toks+1} (by omega) (by omega) bK ib ia (λ b o h1 h2 e=>(j6.2 b h1).trans (i7 b o h1 h2 e)) h
def Qw {K:Type}[DecidableEq K]{knd:KeyKind prog w K}{Q:Value->Shared->Prop}{l:Addr}{items:Array Value}{n:Nat}{sl:Array (Option Value)}(ps:List (K×Value×Value))(hh:A.handled=none)
 (j5:ps.length=items.size) (hsz:items.size+1<=sizeLine) (hl:s.heap.get? l=some {cls:=.type "list",data:=.seq items n,slots:=sl})
 (hp:∀(j:Nat) p,ps[j]?=some p->knd.is p.1 p.2.1=true/\∃t,items[j]?=some (.ref t)/\IsTup s.heap t #[p.2.1,p.2.2])
 (h:∀h' tk,h'.DictOf knd s.heap.objs.size (ps.foldl (λ acc p=>stored acc p.1 p.2.2) [])->(∀b o,s.heap.get? b=some o->h'.get? b=some o)->Q (.ref s.heap.objs.size) {s with heap:=h',toks:=tk}):
 wpAny (model prog w) A (call (.type "dict") [.ref l]) Q E s:=by
 refine callType_codes (Q₁:=λ obj s₁=>obj=.ref s.heap.objs.size/\s₁={s with heap:=s.heap.push {cls:=.type "dict",data:=.dict #[]} }) PySem.F.kt_called_dict (PySem.F.kt_typeCall_dict_1 _) PySem.F.entry_dict_init
  (kt_code_dict_new _ ⟨rfl,rfl⟩) λ obj s₁ h₁=>?_
 obtain⟨rfl,rfl⟩:=h₁;have hS:(s.heap.push {cls:=.type "dict",data:=.dict #[]}).get? s.heap.objs.size=some {cls:=.type "dict",data:=.dict #[]}:=zar _ rfl;have ll:l<s.heap.objs.size:=zaj hl;have b9:(s.heap.push {cls:=.type "dict",data:=.dict #[]}).get? l=some {cls:=.type "list",data:=.seq items n,slots:=sl}:=zac _ hl;refine⟨⟨_,hS,rfl⟩,PySem.F.args_dict_init_2 _ _,?_⟩;have TD:Looks (model prog w) (s.heap.push {cls:=.type "dict",data:=.dict #[]}) (typeOf (.ref s.heap.objs.size)) (.type "dict"):=(Looks.ld hS).andThen .now;have TL:Looks (model prog w) (s.heap.push {cls:=.type "dict",data:=.dict #[]}) (typeOf (.ref l)) (.type "list"):=(Looks.ld b9).andThen .now;unfold Builtin.«dict.__init__» Dict.selfAndRest Dict.notOrdered;dsimp only;rw[if_pos (by decide)];refine wpAny_bind (wpAny_bind (wpAny_bind (TD.at ?_)));rw[if_neg (by decide)];refine wpAny_pure ?_;unfold Dict.addrOf;refine wpAny_bind (wpAny_pure (wpAny_pure ?_));unfold Dict.updateCommon Dict.updateFrom;dsimp only;refine wpAny_bind (TL.at ?_);rw[if_pos (by decide)];refine wpAny_bind (Mx (A:=A.in1.in1) hh b9 λ h2 x4 ic=>?_);rw[if_pos (show (none:Option Value).isNone=true from rfl)];refine wpAny_bind (wpAny_rule ?_);have ar:h2.IsList l items:=⟨_,ic _ _ b9,rfl,n,rfl⟩;have j7:=ic _ _ hS;refine wpAny_bind (wpAny_pyIter_list ar ?_);refine wpAny_pure ⟨plainId_quiet D3 _,?_⟩;have lz:s.heap.objs.size<h2.objs.size:=zaj j7;have sn:∀b o,s.heap.get? b=some o->(h2.push {cls:=.type "list_iterator",data:=.fields #[.ref l,.int 0 0]}).get? b=some o:=λ b o e=>zac _ (ic _ _ (zac _ e));have ia:(h2.push {cls:=.type "list_iterator",data:=.fields #[.ref l,.int 0 0]}).DictOf knd s.heap.objs.size []:=
  ⟨_,#[],0,zac _ j7,⟨rfl,rfl,rfl⟩,rfl,(by intro e he;simp at he),.nil,zby⟩
 have ag:∀b o,s.heap.get? b=some o->b≠s.heap.objs.size/\b≠h2.objs.size:=λ b o e=>by
  have:=zaj e;exact⟨zat this,zat (Nat.lt_trans this lz)⟩
 refine WQ (A:=A.in1) (knd:=knd) (l:=l) (h0:=s.heap) ps hh (zat (Nat.lt_trans ll lz)) (zat lz) (zat ll) j5 hsz ⟨_,hl,rfl,n,rfl⟩ (λ j p hj=>?_) items.size 0 [] _ (by omega) (by omega) (by simp) ⟨_,zar _ rfl,rfl,rfl⟩ ia (λ b o h1 gu e=>sn b o e) λ h' tk ba so=>?_
 ·obtain⟨q1,t,q2,q3⟩:=hp j p hj;obtain⟨o2,e2,_⟩:=id q3;exact⟨q1,t,q2,(ag _ _ e2).1,(ag _ _ e2).2,q3⟩
 ·exact⟨rfl,h h' tk ba λ b o e=>so b o (ag _ _ e).1 (ag _ _ e).2 e⟩
end
structure ZU where
 (t:Addr) (κ:Key) (v:V)
abbrev vE (H:Hp)(p:ZU):Prop:=H p.t=some (.tup [kV p.κ,p.v])
abbrev pA (ps:List ZU):List (Key×V):=ps.foldl (λ acc p=>putK acc p.κ p.v) []
abbrev tDK (X:Cx)(te:TE):TE:=λ σ H Q=>te σ H λ x H1=>∃(l:Addr) (ps:List ZU),x=.ref l/\Dr X.K H1 l (ps.map λ p=>V.ref p.t)/\(∀p∈ps,vE H1 p)/\ps.length<=1000/\∀r,H1 r=none->Q (.ref r) (upd H1 r (.dK (pA ps)))
def V1:∀ {ps:List ZU}{us:List Value},Vals (ps.map λ p=>V.ref p.t) us->us=ps.map λ p=>zbo p.t
 |[],_,.nil=>rfl
 |p::ps,_,.cons h t=>by
  cases h;rw[za5,<-V1 t]
def qS:∀ {ps:List ZU}{qs:List (Key×Value×Value)}{kvs:List (Key×V)}{xs:List (Key×Value)},Paired (λ(p:ZU) (q:Key×Value×Value)=>p.κ=q.1/\RelV p.v q.2.2) ps qs->KV kvs xs->KV (ps.foldl (λ acc p=>putK acc p.κ p.v) kvs) (qs.foldl (λ acc p=>stored acc p.1 p.2.2) xs)
 |[],_,_,_,.nil,h=>h
 |p::ps,_,_,_,.cons (b:=q) hq t,h=>by
  obtain⟨q1,q2,q3⟩:=q;obtain⟨e1,e3⟩:=hq;dsimp only at e1 e3;subst e1;have r:=qS (ps:=ps) t (h.put p.κ e3);exact r
def Yt:∀(ps:List ZU) (kvs:List (Key×V)),(ps.foldl (λ acc p=>putK acc p.κ p.v) kvs).length<=kvs.length+ps.length
 |[],kvs=>zag _
 |p::ps,kvs=>by
  have h1:=Yt ps (putK kvs p.κ p.v);have h2:=DU kvs p.κ p.v;rw[zav,za8];omega
def Yu (ok:GR P w H h):∀ {ps:List ZU},(∀p∈ps,vE H p)->∃qs:List (Key×Value×Value),Paired (λ(p:ZU) (q:Key×Value×Value)=>p.κ=q.1/\RelV p.v q.2.2) ps qs/\
 ∀(j:Nat) q,qs[j]?=some q->(AR P w).is q.1 q.2.1=true/\∃t,(ps.map λ p=>zbo p.t)[j]?=some (.ref t)/\IsTup h t #[q.2.1,q.2.2]
 |[],_=>⟨[],.nil,λ j q e=>by simp at e⟩
 |p::ps,ho=>by
  obtain⟨qs,h1,h2⟩:=Yu ok λ p hp=>ho p (za4 _ hp);have o1:=ho p za3;obtain⟨_,aa,r,it⟩:=(show Bn P w H h p.t (.tup [kV p.κ,p.v]) from ok p.t _ o1);obtain⟨u,v,rfl,ru,rv⟩:=r.two;refine⟨(p.κ,u,v)::qs,.cons ⟨rfl,rv⟩ h1,λ j q e=>?_⟩;cases j with
  |zero =>
   rw[zc0] at e;cases e;exact⟨Mt ru,p.t,by simp,it⟩
  |succ j =>
   rw[zb1] at e;obtain⟨a1,t,a2,a3⟩:=h2 j q e;exact⟨a1,t,by simpa using a2,a3⟩
section
variable {c:Bool}{P:Addr->Prop}{H:Hp}{a b:Expr}{f g:Ae->M D}{te:TE}
def jB (hc:X.calm=true)(hg:Gl X "dict")(hm:X.mg "dict" = none)(he:PE X e te)(hv:bootBuiltins "dict" = some (.type "dict"):=by decide +kernel)(hs: ~~~(starEach [e] X.env=[(false,eval e X.env)])):
 PE X (.Call (.Name "dict" p) [e] [] pos) (tDK X te):=by
 intro pins s σ H Q I h;refine wpAny_Call_Name_kw (D5 I hg hm hv ?_);refine zbe ?_ hs;rw[hs];refine zc5 (Bi (he pins s σ H _ I h) λ u s1 zz=>?_);obtain⟨x,H1,I1,r1,q1⟩:=zz;obtain⟨l,ps,rfl,hq,ho,hlen,q⟩:=q1;cases r1;refine zcb ?_;obtain⟨aa,r',pl,hz⟩:=I1.list hq;have hits:=V1 r';subst hits;obtain⟨⟨sq,j8,j9,ie⟩,n0,o1,o2,o3,o4⟩:=pl;dsimp only at o2 o3 o4;subst o2 o3 o4;obtain⟨qs,h1,h2⟩:=Yu I1.Aw ho;refine Qw (knd:=AR X.prog X.w) qs (I1.ok.hd hc) (by rw[zaa,za2,<-h1.length]) (AA (by rw[zaa,za2];omega)) o1 (λ j p hj=>?_) λ h' tk hd kp=>?_
 ·obtain⟨a1,t,a2,a3⟩:=h2 j p hj;exact⟨a1,t,by rw[List.getElem?_toArray];exact a2,a3⟩
 ·have sr:=qS h1 (show KV [] [] from .nil);have br:s1.heap.objs.size<=s1.heap.objs.size:=zag _;have bD:=I1.Aw.fresh br;have ni:=Yt ps [];exact⟨.ref _,_,I1.laid (t':=tk) (o:=.dK (pA ps)) kp br ⟨zbp (AA (by unfold pA;simp at ni;omega)),beq_eq_false_iff_ne.mpr (zbi (zat I1.big)),_,sr,hd⟩,rfl,q _ bD⟩
abbrev pB (d:D):M OT:=match d with
 | .lst xs=>(match SJ xs with|some l=>if l.length<=1000/\(l.all λ kv=>keyOk false kv.1)=true then .ok (.BG false (qI l).1 ((qI l).2.map .sh)) else .bad|none=>.bad)
 |_=>.bad
def Yv {K:za0}{H:Hp}{P:Addr->Prop}:∀ {xs:List V}{ds:List D}{l:List (D×D)},Ak K (del H P) xs ds->SJ ds=some l->(l.all λ kv=>keyOk false kv.1)=true->
 ∃ps:List ZU,xs=ps.map (λ p=>V.ref p.t)/\(∀p∈ps,vE H p)/\Paired (λ(p:ZU) (kv:D×D)=>kv.1=CD p.κ/\BV K (del H P) p.v kv.2) ps l
 |_,[],l,.nil,e,_=>by cases e;exact⟨[],rfl,λ p hp=>(by cases hp),.nil⟩
 |_,d::ds,l,.cons hd ht,e,hk=>by
  unfold SJ at e;split at e
  ·rename_i bm;cases bm
  ·rename_i k v r bm;cases bm;obtain⟨l',e1,e2⟩:=zcl.mp e;subst e2;rw[List.all_cons,zb9] at hk;obtain⟨ps,q1,q2,q3⟩:=Yv ht e1 hk.2;have hK:=EN hk.1;cases hK with
   |k κ =>
    cases hd with
    | @tup tt _ _ h1 h2 =>
     obtain⟨x,y,rfl,hx,hy⟩:=h2.two;have ex:=hx.mG;subst ex;refine⟨⟨tt,κ,y⟩::ps,by rw[za5,q1],λ p hp=>?_,.cons ⟨rfl,hy⟩ q3⟩;rcases zab.mp hp with rfl|hp
     ·exact (An h1).2
     ·exact q2 p hp
  ·cases e
def Yw {K:za0}{H:Hp}{P:Addr->Prop}:∀ {ps:List ZU}{l:List (D×D)}{kvs:List (Key×V)}{vs:List D},Paired (λ(p:ZU) (kv:D×D)=>kv.1=CD p.κ/\BV K (del H P) p.v kv.2) ps l->Ak K (del H P) (kvs.map zbw) vs->
 ∃aF,l.foldl (λ z kv=>putD z.1 z.2 kv.1 kv.2) (kvs.map (λ kv=>CD kv.1),vs)=((ps.foldl (λ acc p=>putK acc p.κ p.v) kvs).map (λ kv=>CD kv.1),aF)/\Ak K (del H P) ((ps.foldl (λ acc p=>putK acc p.κ p.v) kvs).map zbw) aF
 |[],_,kvs,vs,.nil,h=>⟨vs,rfl,h⟩
 |p::ps,_,kvs,vs,.cons (b:=kv) hq t,h=>by
  obtain⟨k,d⟩:=kv;obtain⟨e1,e2⟩:=hq;dsimp only at e1 e2;subst e1;have aV:∃aF,(putD (kvs.map λ kv=>CD kv.1) vs (CD p.κ) d)=((putK kvs p.κ p.v).map (λ kv=>CD kv.1),aF)/\Ak K (del H P) ((putK kvs p.κ p.v).map zbw) aF:=by
   unfold putD putK;rw[Kl (fk:=CD) HJ];by_cases hh:(kvs.any λ kv=>decide (kv.1=p.κ))=true
   ·rw[if_pos hh,if_pos hh];refine⟨_,by rw[HL (fk:=CD) HJ],?_⟩;rw[<-HK (fk:=CD) HJ];exact HM e2 h
   ·rw[if_neg hh,if_neg hh];refine⟨_,by rw[zb3];rfl,?_⟩;rw[zb3];exact h.snoc e2
  obtain⟨x5,g1,g2⟩:=aV;obtain⟨ss,g3,g4⟩:=Yw t g2;refine⟨ss,?_,g4⟩;rw[zav];dsimp only;rw[g1];exact g3
def jC (hc:X.calm=true)(hg:Gl X "dict")(hm:X.mg "dict" = none)(he:DE X WX true e f)(hv:bootBuiltins "dict" = some (.type "dict"):=by decide +kernel)(hs: ~~~(starEach [e] X.env=[(false,eval e X.env)])):
 DN X WX (.Call (.Name "dict" p) [e] [] pos) (λ ρ=>(f ρ).bind pB):=by
 obtain⟨te,e1,e2⟩:=he;refine⟨_,jB hc hg hm e1 hv hs,λ P0 P σ H Q ρ E h=>?_⟩;refine e2 P0 P σ H _ ρ E ?_;dsimp only at h;refine XD h λ d h=>?_;intro v H1 s1 hv;unfold pB at h;split at h
 ·rename_i xs;split at h
  ·rename_i l eb;split at h
   ·rename_i hl;cases hv with
    |lst hs hh =>
     obtain⟨ps,q1,q2,q3⟩:=Yv hh eb hl.2;subst q1;obtain⟨aF,g1,g2⟩:=Yw (kvs:=[]) q3 .nil;refine⟨_,ps,rfl,hs.B8,q2,by rw[q3.length];exact hl.1,λ r hr=>?_⟩;have e3:qI l=((pA ps).map (λ kv=>CD kv.1),aF):=g1;rw[e3] at h;have bq:∀a∈[r],H1 a=none:=λ a ha=>by rw[za9.mp ha];exact hr
     exact h _ [r] _ (s1.trans (AH hr _)) (λ a ha=>Cd s1 (bq a ha)) (by simp) (.dK Am (g2.mono (Bk (AH hr _) bq)).ows)
   ·exact h.elim
  ·exact h.elim
 ·exact h.elim
end
def Bc.vF {K}(ok:Bc m rs L A K):∀p c,Au (Ho A K) p=some c->p.1∈L/\p.2∈L:=λ p c h=>by
 have hm:=Pb h;unfold Ho at hm;obtain⟨q,hq,e⟩:=zaq.mp hm;cases e;have:=ok.YL hq;exact⟨(Ba ok.pm).mpr this.2.1,(Ba ok.pm).mpr this.2.2⟩
def Bc.zR {K}(ok:Bc m rs L A K):∀p c,Au (Qv (Ho A K)) p=some c->p.1∈L/\p.2∈L:=λ p c h=>by
 rw[show p=(p.1,p.2) from rfl,Lj] at h;have:=ok.vF _ _ h;exact⟨this.2,this.1⟩
def pC (R:RA):vC (ZN R)=.ok (R.map λ kv=>D.int kv.1):=rfl
def pE (R:RA):iY (ZN R)=.ok (.lst ((R.map λ kv=>cst (some kv.2)).map .sh)):=rfl
def vG (ha:0<=a/\a<Rx)(hb:0<=b/\b<Rx)(hg:0<=g/\g<Rx)(h0:0<=i)(h1:i<8):∃l:Option Int,AJ (.lst [.AL,.int 0,.int 0,.int 1,.int a,.int a,.int b,.int g]) (.int i)=.ok (CJ l)/\∀z,l=some z->0<=z/\z<Rx:=by
 have ht:=WD;have hi:i=0\/i=1\/i=2\/i=3\/i=4\/i=5\/i=6\/i=7:=by omega
 rcases hi with rfl|rfl|rfl|rfl|rfl|rfl|rfl|rfl
 ·exact⟨none,rfl,λ z e=>by cases e⟩
 ·exact⟨some 0,rfl,λ z e=>by cases e;omega⟩
 ·exact⟨some 0,rfl,λ z e=>by cases e;omega⟩
 ·exact⟨some 1,rfl,λ z e=>by cases e;omega⟩
 ·exact⟨some a,rfl,λ z e=>by cases e;exact ha⟩
 ·exact⟨some a,rfl,λ z e=>by cases e;exact ha⟩
 ·exact⟨some b,rfl,λ z e=>by cases e;exact hb⟩
 ·exact⟨some g,rfl,λ z e=>by cases e;exact hg⟩
def WR (cs:List Int):GV 0 (cs.map D.int)=(zay cs.length).map λ i:Nat=>D.tup [.int (i:Int),.int (cs.getD i 0)]:=by
 apply zd6;intro i;rw[zan];by_cases hi:i<cs.length
 ·obtain⟨e,he⟩:∃e,(GV 0 (cs.map D.int))[i]?=some e:=⟨_,za6 (by rw[CW,za2];exact hi)⟩;obtain⟨d,hd,rfl⟩:=FV he;rw[he,zc1 hi];rw[zan,za6 hi] at hd;cases hd;rw[zbr,zam,Nat.zero_add,za6 hi];rfl
 ·rw[zbk (by rw[CW,za2];omega),zbk (by rw[zc2];omega)];rfl
def V2 (rs:List Road):XG 16 (.lst (rs.map Bo)) (.lst [])=.ok (.bl (decide (rs≠[]))):=by
 have h1:Pl 16 (.lst (rs.map Bo)):=(Sr (n:=1) λ d hd=>by
  obtain⟨r,_,rfl⟩:=zaq.mp hd;exact qK r).le (by decide)
 have h2:Pl 16 (.lst ([]:List D)):=(Sr (n:=1) λ d hd=>by cases hd).le (by decide);rw[Su h1 h2];cases rs with
 |nil=>rfl
 |cons r q=>simp[Bv,Cp]
def V3 (h:P6 m ac){x:Int}(h0:0<=x)(h1:x<m)(v:Co)(u:Nat):(put2 ac x y v).getD u []=if (u:Int)=x then (ac.getD x.toNat []).set y.toNat v else ac.getD u []:=by
 unfold put2;have hl:x.toNat<ac.length:=by rw[h.len];omega
 by_cases hu:(u:Int)=x
 ·have e:u=x.toNat:=by omega
  rw[if_pos hu,e,zam,zaz hl];rfl
 ·rw[if_neg hu,zam,zbc (by omega),zam]
def pF {R:List Co}(h0:0<=y):R.set y.toNat (atC R y)=R:=by
 apply zd6;intro i;by_cases hi:i=y.toNat
 ·subst hi;by_cases hl:y.toNat<R.length
  ·rw[zaz hl,Df h0 (by omega)]
  ·rw[zbk (by rw[zbj];omega),zbk (by omega)]
 ·rw[zbc (zbi hi)]
def jD (a:Co):De a none=a:=by cases a<;>rfl
def jE (m:Nat):iZ (.lst ((zay m).map λ _=>OT.lst ((zae m D.AL).map .sh)))=some (AD ((zay m).map λ _=>zae m none)):=by
 have e:((zay m).map λ _=>OT.lst ((zae m D.AL).map .sh))=((zay m).map λ _=>zae m D.AL).map λ ds=>OT.lst (ds.map .sh):=by rw[zbm];rfl
 have e2:AD ((zay m).map λ _=>zae m none)=(zay m).map λ _=>zae m D.AL:=by
  unfold AD;rw[zbm];refine zcu λ _ _=>?_;dsimp only [Function.comp];rw[List.map_replicate];rfl
 rw[e,e2];exact RB _
def pG (m:Nat):P6 m ((zay m).map λ _=>zae m (none:Co)):=⟨by rw[za2,zc2],λ R hR=>by
 obtain⟨_,_,rfl⟩:=zaq.mp hR;rw[zcz]⟩
def pH (h:u<m):((zay m).map λ _=>zae m (none:Co)).getD u []=zae m none:=by
 rw[zam,zan,zc1 h];rfl
abbrev CK (R1 R2:RA):RA:=R1.filterMap λ kv=>(Au R2 kv.1).map λ c=>(kv.1,(kv.2.1+c.1,kv.2.2+c.2))
def DC (R2:RA):∀R1:RA,((CK R1 R2).map zb4).Sublist (R1.map zb4)
 |[]=>.slnil
 |kv::r=>by
  unfold CK;rw[zcd];cases Au R2 kv.1 with
  |none=>exact (DC R2 r).cons _
  |some c=>exact (DC R2 r).cons₂ _
def Ph {R2:RA}{p:Int}:∀ {R1:RA},(R1.map zb4).Nodup->Au (CK R1 R2) p=Ap (Au R1 p) (Au R2 p)
 |[],_=>by simp only[CK,List.filterMap_nil,Au];rfl
 |(k,v)::r,hn=>by
  rw[za5,zb6] at hn;have ih:=Ph (R2:=R2) (p:=p) hn.2;by_cases hk:k=p
  ·subst hk;have n1:Au (CK r R2) k=none:=by
    cases q:Au (CK r R2) k with
    |none=>rfl
    |some c=>exact absurd ((DC R2 r).subset (Gz.mp (by rw[q];rfl))) hn.1
   have e2:Au ((k,v)::r) k=some v:=by simp[Au]
   rw[e2];unfold CK;rw[zcd];cases q:Au R2 k with
   |none=>exact n1
   |some c=>simp[Au,Ap]
  ·have e2:Au ((k,v)::r) p=Au r p:=by simp[Au,hk]
   rw[e2,<-ih];unfold CK;rw[zcd];cases q:Au R2 k with
   |none=>rfl
   |some c=>simp[Au,hk]
def RD (R2:RA):∀R1:RA,((R1.filter λ kv=>(Au R2 kv.1).isSome).map λ kv=>D.tup [.int kv.1,cst (Ap (some kv.2) (Au R2 kv.1))])=(CK R1 R2).map λ kv=>D.tup [.int kv.1,cst (some kv.2)]
 |[]=>rfl
 |kv::r=>by
  have ih:=RD R2 r;unfold CK at ih ⊢;rw[zcd];cases q:Au R2 kv.1 with
  |none=>rw[List.filter_cons_of_neg (by rw[q];simp)];exact ih
  |some c=>rw[List.filter_cons_of_pos (by rw[q];rfl),za5,ih,q];rfl
def qT:∀(C C0:RA),((C0++C).map zb4).Nodup->(C.map λ kv=>(D.int kv.1,cst (some kv.2))).foldl (λ z kv=>putD z.1 z.2 kv.1 kv.2) (C0.map (λ kv=>D.int kv.1),C0.map λ kv=>cst (some kv.2))=((C0++C).map (λ kv=>D.int kv.1),(C0++C).map λ kv=>cst (some kv.2))
 |[],C0,_=>by simp
 |kv::C,C0,hn=>by
  obtain⟨p,c⟩:=kv;rw[za5,zav];dsimp only;have h0:Au C0 p=none:=by
   rw[UT];intro hm;rw[zb3,zau] at hn;exact hn.2.2 p hm p (by simp) rfl
  have e:Dz C0 p c=C0++[(p,c)]:=by unfold Dz;rw[h0];rfl
  rw[Lh (vf:=λ c=>cst (some c)) HZ,e,qT C (C0++[(p,c)]) (by rw[zbg];exact hn),zbg];rfl
def vH (hn:(C.map zb4).Nodup)(hl:C.length<=1000):pB (.lst (C.map λ kv=>.tup [.int kv.1,cst (some kv.2)]))=.ok (WJ C):=by
 unfold pB;dsimp only;rw[T7 (λ kv:Int×(Int×Int)=>D.int kv.1) (λ kv=>cst (some kv.2))];dsimp only;have e:=qT C [] hn;rw[if_pos ⟨by rw[za2];exact hl,by rw[List.all_map];exact zdf.mpr λ x _=>rfl⟩];have e2:qI (C.map λ kv=>(D.int kv.1,cst (some kv.2)))=(C.map (λ kv=>D.int kv.1),C.map λ kv=>cst (some kv.2)):=e;rw[e2];rfl
def Lf.front (hr:rk s<rk y)(ha:Cf s y=some d)(u:Lf Cf rk y t c):Lf Cf rk s t (d.1+c.1,d.2+c.2):=by
 induction u with
 |nil =>
  have:=Lf.snoc (Lf.nil (Af:=Cf) (rk:=rk) (s:=s)) hr ha;simpa using this
 | @snoc x z c e hu aL bJ ih =>
  have:=Lf.snoc ih aL bJ;rwa[zcn,zcn] at this
def SR.up (h:SR Cf rk t n x c):Lf (λ a b=>Cf b a) rk x t c:=by
 induction h with
 |nil=>exact .nil
 | @snoc n x y c d hd hr ha ih =>
  have:=Lf.front (Cf:=λ a b=>Cf b a) hr ha ih;rwa[Int.add_comm d.1,Int.add_comm d.2] at this
def pI (h:NX a c)(k:NX b d):NX (a.1+b.1,a.2+b.2) (c.1+d.1,c.2+d.2):=by
 unfold NX at *;simp only;omega
def Pj:BI a (some q)↔∃p,a=some p/\NX p q:=by
 constructor
 ·exact P9
 ·rintro ⟨p,rfl,h⟩;unfold NX at h;unfold BI;simp only;omega
def jF {K}{s g:Int}{R1 R2}(ok:Bc m rs L A K)(hs:0<=s/\s<m)(hg:0<=g/\g<m)(h1:Qh L (Ho A K) s L.length R1)(h2:Qh L (Qv (Ho A K)) g L.length R2)(hx:Bg rs s g x):
 Er ((CK R1 R2).map λ kv=>some kv.2)=x:=by
 have u1:=h1.upC (m:=m) ok.vF;have u2:=h2.upC (m:=m) ok.zR;have ef:(λ x y=>Au (Qv (Ho A K)) (x,y))=λ x y=>Au (Ho A K) (y,x):=by funext x y;exact Lj x y _
 rw[ef] at u2;have mem:∀p c,Au (CK R1 R2) p=some c->some c∈(CK R1 R2).map λ kv=>some kv.2:=λ p c h=>zaq.mpr ⟨_,Pb h,rfl⟩;have walk:∀p c,Au (CK R1 R2) p=some c->Wk rs s g c:=λ p c h=>by
  rw[Ph h1.nd] at h;cases q1:Au R1 p with
  |none=>rw[q1] at h;cases h
  |some a =>
   cases q2:Au R2 p with
   |none=>rw[q1,q2] at h;cases h
   |some b =>
    rw[q1,q2] at h;cases h;have w1:=((u1.sd p a q1).of_kept ok.kept).walk ok.cJ;have w2:=(((u2.sd p b q2).of_kept ok.kept.turn).walk ok.cJ.turn).turn;rw[G3] at w2;exact w1.trans w2
 have dz:((CK R1 R2).map zb4).Nodup:=(DC R2 R1).nodup h1.nd;have walk2:∀v∈(CK R1 R2).map (λ kv=>some kv.2),BI x v:=λ v hv=>by
  obtain⟨kv,hk,rfl⟩:=zaq.mp hv;exact hx.1 _ (walk kv.1 kv.2 (SU dz hk))
 refine SM walk2 λ ae=>?_;cases x with
 |none=>exact absurd rfl ae
 |some c =>
  obtain⟨t,n,c1,c2,g1,g2,e⟩:=UR ok.cJ ok.kept hx;obtain⟨p1,q1,l1⟩:=Pj.mp (u1.le g1);obtain⟨p2,q2,l2⟩:=Pj.mp (u2.le g2.up);have hf:Au (CK R1 R2) t=some (p1.1+p2.1,p1.2+p2.2):=by rw[Ph h1.nd,q1,q2];rfl
  exact⟨_,mem t _ hf,Pj.mpr ⟨_,rfl,by rw[e];exact pI l1 l2⟩⟩
def pJ (m:Nat)(rs:List Road):er (.tup [.sh (.int m),.lst ((rs.map Bo).map .sh)])=Ad m rs:=by
 rw[er,Tx,Rh,Tx,JM,Tx];rfl
def qU (p:Int×Int):Pl (n+1) (pD p):=Sq (DQ (Ck _) (DQ (Ck _) Ss))
def vI (p q:Int×Int):eQ 16 (pD p) (pD q)=.ok (.bl (decide (p=q))):=by rw[Oy (qU (n:=15) p) (qU (n:=15) q),Gx]
abbrev jG (rs:List Road)(p c:Int×Int)(i:Nat):Bool:=match rs[i]? with
 |some r=>decide (r.a=p.1/\r.b=p.2/\BH r=some c)
 |none=>false
abbrev Pk (rs:List Road)(p c:Int×Int):Nat:=((zay rs.length).filter (jG rs p c)).headD 0
def Yx (h:∃r∈rs,r.a=p.1/\r.b=p.2/\BH r=some c):∃(r:Road) (t:List Nat),(zay rs.length).filter (jG rs p c)=Pk rs p c::t/\rs[Pk rs p c]?=some r/\r.a=p.1/\r.b=p.2/\BH r=some c:=by
 obtain⟨r,hr,h1⟩:=h;obtain⟨i,hi⟩:=List.mem_iff_getElem?.mp hr;have hm:i∈(zay rs.length).filter (jG rs p c):=zb2.mpr ⟨zc4.mpr (zah.mp hi).1,by unfold jG;rw[hi];exact decide_eq_true h1⟩;unfold Pk;cases q:(zay rs.length).filter (jG rs p c) with
 |nil=>rw[q] at hm;cases hm
 |cons n t =>
  have hn:n∈(zay rs.length).filter (jG rs p c):=by rw[q];exact za3
  have hb:=(zb2.mp hn).2;unfold jG at hb;cases z:rs[n]? with
  |none=>rw[z] at hb;cases hb
  |some r' =>
   rw[z] at hb;have a9:r'.a=p.1/\r'.b=p.2/\BH r'=some c:=by simpa using hb
   exact⟨r',t,rfl,z,a9⟩
abbrev qV (rs:List Road)(A:LA):Nat->Int×Int->List Nat
 |0,_=>[]
 |k+1,p=>match Au A p with
  |none=>[]
  |some (c,none)=>[Pk rs p c]
  |some (_,some q)=>qV rs A k (p.1,q)++qV rs A k (q,p.2)
abbrev V4 (L:List Int)(p:Int×Int):Nat:=min (Ca L p.1) (Ca L p.2)
inductive O0 (rs:List Road):Int->List Nat->Int->Int->Prop
 |nil (x:Int):O0 rs x [] x 0
 |cons {x y l s:Int} {n:Nat} {N:List Nat} {r:Road}:rs[n]?=some r->r.a=x->r.l=some l->O0 rs r.b N y s->O0 rs x (n::N) y (l+s)
def O0.yL {M}(h:O0 rs x N q s)(k:O0 rs q M y t):O0 rs x (N++M) y (s+t):=by
 induction h with
 |nil x=>simpa using k
 |cons h1 h2 h3 _ ih =>
  have:=O0.cons h1 h2 h3 (ih k);simpa [zcn] using this
def O0.inv (h:O0 rs x (n::N) y s):∃r l t,rs[n]?=some r/\r.a=x/\r.l=some l/\O0 rs r.b N y t/\s=l+t:=by
 cases h with
 |cons h1 h2 h3 h4=>exact⟨_,_,_,h1,h2,h3,h4,rfl⟩
section
variable {m:Nat}{A:LA}{K:List (Int×Int)}
def J6 (ok:Bc m rs L A K)(h:Au A p=some (c,mid)):(p.1∈L/\p.2∈L/\p.1≠p.2)/\(mid=none->∃r∈rs,r.a=p.1/\r.b=p.2/\BH r=some c)/\∀q,mid=some q->Ca L q<V4 L p/\q∈L/\∃a b ma mb,Au A (p.1,q)=some (a,ma)/\Au A (q,p.2)=some (b,mb)/\c=(a.1+b.1,a.2+b.2):=by
 obtain⟨x,y⟩:=p;have hn:=Gy ok.pm;rw[ok.la] at h;have d5:Ac (BC rs L) (x,y)=some c:=by unfold Ac;rw[h];rfl
 obtain⟨_,ae,np,f8⟩:=(Li ok.pm ok.ok).2.snd x y c d5;have hx:=(Ba ok.pm).mpr np;have hy:=(Ba ok.pm).mpr f8;have hf:=ZP (rs:=rs) hn hx hy ae;have h0:∀c p,Au (lay0 rs) (x,y)≠some (c,some p):=λ c p h=>by cases (Yp rs x y c _ h).1
 have hF:=vA (cd:=λ p=>Ap (Ac (BC rs L) (x,p)) (Ac (BC rs L) (p,y))) h0 (L.take (min (Ca L x) (Ca L y)));unfold oQ at hf;rw[<-hf] at hF;refine⟨⟨hx,hy,ae⟩,λ e=>?_,λ q e=>?_⟩
 ·subst e;exact (Yp rs x y c none (hF.AL c h)).2
 ·subst e;obtain⟨⟨W1,W2,e1,e2,_⟩,_⟩:=hF.mid c q h;have hq:q∈L.take (min (Ca L x) (Ca L y)):=by rw[e1];simp
  obtain⟨q1,q2⟩:=UX hn hq;obtain⟨a,b,ha,hb,rfl⟩:=Dy e2;have ex:∀ {z:Int×Int} {d:Int×Int},Ac (BC rs L) z=some d->∃md,Au A z=some (d,md):=fun {z d} hd=>by
   rw[ok.la];unfold Ac at hd;cases w:Au (BC rs L) z with
   |none=>rw[w] at hd;cases hd
   |some v=>rw[w] at hd;cases hd;exact⟨v.2,rfl⟩
  obtain⟨ma,h1⟩:=ex ha;obtain⟨mb,h2⟩:=ex hb;exact⟨q2,q1,a,b,ma,mb,h1,h2,rfl⟩
def jH (h:Ca L q<V4 L p):V4 L (p.1,q)=Ca L q/\V4 L (q,p.2)=Ca L q:=by
 unfold V4 at *;dsimp only;omega
def Ll (ok:Bc m rs L A K):∀(k k':Nat) (p:Int×Int),V4 L p<k->V4 L p<k'->qV rs A k p=qV rs A k' p
 |0,_,_,h,_|_+1,0,_,_,h=>absurd h (Nat.not_lt_zero _)
 |k+1,k'+1,p,h,h'=>by
  unfold qV;cases q:Au A p with
  |none=>rfl
  |some z =>
   obtain⟨c,mid⟩:=z;cases mid with
   |none=>rfl
   |some v =>
    obtain⟨_,_,h3⟩:=J6 ok q;obtain⟨hv,_,_⟩:=h3 v rfl;obtain⟨e1,e2⟩:=jH hv;dsimp only;rw[Ll ok k k' (p.1,v) (by omega) (by omega),Ll ok k k' (v,p.2) (by omega) (by omega)]
abbrev CP (rs:List Road)(L:List Int)(A:LA)(p:Int×Int):List Nat:=qV rs A (V4 L p+1) p
def V5 (ok:Bc m rs L A K)(h:Au A p=some (c,some v)):CP rs L A p=CP rs L A (p.1,v)++CP rs L A (v,p.2):=by
 obtain⟨_,_,h3⟩:=J6 ok h;obtain⟨hv,_,_⟩:=h3 v rfl;obtain⟨e1,e2⟩:=jH hv
 conv=>lhs;unfold CP qV;rw[h]
 dsimp only;unfold CP;rw[Ll ok (V4 L p) (V4 L (p.1,v)+1) (p.1,v) (by omega) (by omega),Ll ok (V4 L p) (V4 L (v,p.2)+1) (v,p.2) (by omega) (by omega)]
def RE (h:Au A p=some (c,none)):CP rs L A p=[Pk rs p c]:=by
 unfold CP qV;rw[h]
structure zS (rs:List Road)(L:List Int)(p c:Int×Int)(N:List Nat):Prop where
 ch:O0 rs p.1 N p.2 c.1
 ln:(N.length:Int)=c.2
 ne:1<=N.length
 up:N.length<=2^V4 L p
 lo:∀n∈N.tail,∀r,rs[n]?=some r->Ca L r.a<V4 L p
def Me (ok:Bc m rs L A K):∀(k:Nat){p c:Int×Int}{mid:Option Int},V4 L p=k->Au A p=some (c,mid)->zS rs L p c (CP rs L A p):=by
 intro k;induction k using Nat.strongRecOn with
 |ind k ih =>
  intro p c mid hk h;obtain⟨_,h2,h3⟩:=J6 ok h;cases mid with
  |none =>
   rw[RE h];obtain⟨r,t,_,hr,ha,hb,hc⟩:=Yx (h2 rfl);obtain⟨l,hl,rfl⟩:=G0 hc;refine⟨?_,rfl,zag _,Nat.one_le_two_pow,λ n hn=>by cases hn⟩;have:=O0.cons hr ha hl (.nil r.b);rw[hb] at this;simpa using this
  |some v =>
   obtain⟨hv,_,a,b,ma,mb,f1,f2,rfl⟩:=h3 v rfl;obtain⟨e1,e2⟩:=jH hv;have u1:=ih (Ca L v) (by omega) e1 f1;have u2:=ih (Ca L v) (by omega) e2 f2;rw[V5 ok h];have p2:2^(Ca L v)+2^(Ca L v)<=2^V4 L p:=by
    have:2^(Ca L v+1)<=2^V4 L p:=Nat.pow_le_pow_right (by decide) (by omega);rw[Nat.pow_succ] at this;omega
   have l1:=u1.up;have l2:=u2.up;rw[e1] at l1;rw[e2] at l2;refine⟨u1.ch.yL u2.ch,?_,?_,?_,λ n hn r hr=>?_⟩
   ·rw[zal,Int.natCast_add,u1.ln,u2.ln]
   ·rw[zal];have:=u1.ne;omega
   ·rw[zal];omega
   ·have n1:=u1.ne;rcases zao.mp (by
     have:(CP rs L A (p.1,v)++CP rs L A (v,p.2)).tail=(CP rs L A (p.1,v)).tail++CP rs L A (v,p.2):=by
      cases q:CP rs L A (p.1,v) with
      |nil=>rw[q] at n1;cases n1
      |cons x xs=>rfl
     rw[this] at hn;exact hn) with hn|hn
    ·have:=u1.lo n hn r hr;omega
    ·cases q:CP rs L A (v,p.2) with
     |nil=>rw[q] at hn;cases hn
     |cons x xs =>
      rw[q] at hn;rcases zab.mp hn with rfl|hn
      ·have ch:=u2.ch;rw[q] at ch;obtain⟨r',_,_,g1,g2,_⟩:=ch.inv;rw[g1] at hr;cases hr;rw[g2];exact hv
      ·have:=u2.lo n (by rw[q];exact hn) r hr;omega
end
def ZV (rs:List Road):GV 0 (rs.map Bo)=(zay rs.length).map λ i:Nat=>D.tup [.int (i:Int),Bo (rs.getD i ⟨0,0,none,0⟩)]:=by
 apply zd6;intro i;rw[zan];by_cases hi:i<rs.length
 ·obtain⟨e,he⟩:∃e,(GV 0 (rs.map Bo))[i]?=some e:=⟨_,za6 (by rw[CW,za2];exact hi)⟩;obtain⟨d,hd,rfl⟩:=FV he;obtain⟨r,hr,rfl⟩:=BB hd;rw[he,zc1 hi,zbr,zam,hr,Nat.zero_add];rfl
 ·rw[zbk (by rw[CW,za2];omega),zbk (by rw[zc2];omega)];rfl
def ZW (h:ρ[i]?=some (some (.own (xs++[d])))):gF i ρ [] (xs++[d])=.ok (ρ.set i (some (.own xs)),.sh d):=by
 rw[Y9 h (p:=none) (t:=.lst ((xs++[d]).map .sh)) rfl (d:=d) (by simp)];rw[EK,List.dropLast_concat,toCl_list]
abbrev V6 (rs:List Road)(L:List Int)(A:LA)(W:List (Int×Int)):List Nat:=W.flatMap (CP rs L A)
abbrev qW (rs:List Road)(L:List Int)(A:LA):List (Int×Int)->Nat
 |[]=>0
 |p::W=>2*(CP rs L A p).length-1+qW rs L A W
def Tb {K}(ok:Bc m rs L A K):∀ {W:List (Int×Int)},(∀p∈W,(Au A p).isSome=true)->W.length<=(V6 rs L A W).length
 |[],_=>zag _
 |p::W,h=>by
  obtain⟨z,hz⟩:=zbx.mp (h p za3);have:=(Me ok _ (c:=z.1) (mid:=z.2) rfl hz).ne;have ih:=Tb ok λ q hq=>h q (za4 _ hq);show W.length+1<=(CP rs L A p++V6 rs L A W).length;rw[zal];omega
section
variable {c:Bool}{a b d:Expr}{f g h:Ae->M D}
def ZX {p q:Int->Int->Bool}(ho:Gf X (compareOp op) (cG λ i j=>.bl (p i j)))(aM:Gf X (compareOp bu) (cG λ i j=>.bl (q i j)))(ha:DE X WX c a f)(hb:DE X WX c b g)(hd:DE X WX c d h)(hm:lastMarks [op,bu] [b,d]=false:=by with_unfolding_all rfl):DT X WX (.Compare a [op,bu] [b,d] pos) (λ ρ=>((f ρ).bind λ x=>(g ρ).bind λ y=>Bl (λ i j=>if p i j=true then (h ρ).bind λ z=>Bl (λ _ k=>.ok (.bl (q j k))) (.int 0) z else .ok (.bl false)) x y).bind Qq):=by
 obtain⟨ta,a1,a2⟩:=ha;obtain⟨tb,b1,b2⟩:=hb;obtain⟨td,d1,d2⟩:=hd;refine⟨_,dD ho aM a1 b1 d1 hm,λ P0 P σ H Q0 ρ E yk=>?_⟩;unfold dA;have hh:=pX (K:=X.K) (P:=Lv c P0 P) yk;refine a2 P0 P σ H _ ρ E ?_;cases e:f ρ with
 |bad|ex x=>rw[e] at hh;exact hh
 |ok x =>
  rw[e] at hh;intro v H1 s1 hv;refine b2 P0 P σ H1 _ ρ (E.same s1) ?_;cases e2:g ρ with
  |bad=>rw[e2] at hh;exact hh
  |ex y=>rw[e2] at hh;exact gV.same (m:=.ex y) hh s1
  |ok y =>
   rw[e2] at hh;simp only[M.A9] at hh;unfold Bl at hh;split at hh
   ·rename_i i j;intro w H2 s2 hw;refine⟨i,j,hv.int_inv,hw.int_inv,p i j,rfl,?_⟩;dsimp only at hh;by_cases hp:p i j=true
    ·rw[if_pos hp] at hh ⊢;refine d2 P0 P σ H2 _ ρ ((E.same s1).same s2) ?_;cases e3:h ρ with
     |bad=>rw[e3] at hh;exact hh
     |ex z=>rw[e3] at hh;exact gV.same (gV.same (m:=.ex z) hh s1) s2
     |ok z =>
      rw[e3] at hh;simp only[M.A9] at hh;cases z with
      |int k=>exact λ u H3 s3 hu=>⟨j,k,hw.int_inv,hu.int_inv,hh _ H3 ((s1.trans s2).trans s3) (.bl _)⟩
      |_=>exact hh.elim
    ·rw[if_neg hp] at hh ⊢;exact hh _ H2 (s1.trans s2) (.bl _)
   ·exact hh.elim
end
section
variable {a:Expr}{i:Nat}{fp:Ae->M (List Nat)}
def ZY (ha:DP X WX a i fp){ad}(aX: ~~~(swapsWith (.Call (.Attribute a "clear" apos) [] [] ad) none pos.line X.env=pure false))(ak: ~~~(attributeBase a "clear" X.env (eval a X.env)=eval a X.env))(al: ~~~((apos.endLine==ad.line)=true)):
 DS X WX (.Expr (.Call (.Attribute a "clear" apos) [] [] ad) pos) (λ ρ=>(fp ρ).bind λ π=>(Dm i ρ π).bind λ _=>HP i ρ π (.lst [])):=by
 obtain⟨ta,a1,a2⟩:=ha;refine⟨_,Gd (dW zc3 PySem.F.slot_list_clear PySem.F.type_list_clear dX a1 ak al) aX,λ P0 P σ H Z ρ E h=>?_⟩;dsimp only at h;refine a2 P0 P σ H _ ρ E ?_;refine cI h E λ π h=>?_;intro v t1 H1 s1 pl;have E1:=E.same s1;cases q1:Dm i ρ π with
 |bad=>rw[q1] at h;exact h.elim
 |ex x=>unfold Dm at q1;split at q1<;>cases q1
 |ok ts =>
  rw[q1] at h;simp only[M.A9] at h;obtain⟨rfl,l,xs,fq,rfl,hl,ol,nl,vh⟩:=pl.lst E1 q1;refine⟨.inl ⟨rfl,xs,.of hl⟩,l,xs,rfl,rfl,hl,?_⟩;obtain⟨c,p,t0,g1,g2,E3,t3⟩:=E1.mE pl hl ol (us:=[]) (ys:=[]) .nil zby (by simp) (λ b hb=>by cases hb);rw[Gs g1 g2] at h;exact h _ _ _ ((E.tr s1).trans t3) E3
end
def zT {α:Type}(l:List α):Zb [.lst (l.map λ _=>D.bl true)]=.ok (.bl true):=by
 have e:(l.map λ _=>D.bl true)=(l.map λ _=>true).map D.bl:=by rw[zbm];rfl
 rw[e,HW];simp
def abj (n:Str)(N:List Str)(d:D)(ds:List D):DY (n::N) (d::ds)=some (.val d)::DY N ds:=by
 unfold DY;rw[za8,za8,Nat.add_sub_add_right];rfl
def abk (n:Str)(N:List Str):DY (n::N) []=none::DY N []:=rfl
def abl:DY [] []=[]:=rfl
def JO (hr:r∈rs)(hl:r.l=some l)(w:Wk rs r.b g c)(h:Bg rs r.a g (some (l+c.1,1+c.2))):Bg rs r.b g (some c):=by
 refine⟨λ d hd=>?_,λ p hp=>by cases hp;exact w⟩;have:=h.1 _ (.cons hr hl hd);simp only[BI] at this ⊢;omega
def Tc (Aw:∀r∈rs,GZ m r/\r.a≠r.b)(h:Wk rs u g c)(hu:0<=u/\u<m):Bg rs u g (some c)->∃V:List Int,V.Nodup/\(V.length:Int)=c.2+1/\∀v∈V,(0<=v/\v<m)/\∃d,Bg rs v g (some d)/\d.2<=c.2:=by
 induction h with
 |nil u=>exact λ hm=>⟨[u],by simp,rfl,λ v hv=>by rw[za9.mp hv];exact⟨hu,_,hm,zd3 _⟩⟩
 | @cons r l g c hr hl w ih =>
  intro hm;have ok:=(Aw r hr).1;obtain⟨V,h1,h2,h3⟩:=ih ⟨ok.b0,ok.b1⟩ (JO hr hl w hm);refine⟨r.a::V,zb6.mpr ⟨λ z=>?_,h1⟩,by rw[za8];omega,λ v hv=>?_⟩
  ·obtain⟨_,d,hd,ar⟩:=h3 _ z;have:=hd.Cj hm;cases this;omega
  ·rcases zab.mp hv with rfl|hv
   ·exact⟨hu,_,hm,zd3 _⟩
   ·obtain⟨a,d,hd,ar⟩:=h3 _ hv;exact⟨a,d,hd,by omega⟩
def Fo (Aw:∀r∈rs,GZ m r/\r.a≠r.b){u:Int}(hu:0<=u/\u<m)(h:Bg rs u g (some c)):c.2<m:=by
 obtain⟨V,h1,h2,h3⟩:=Tc Aw (h.2 c rfl) hu h;have:=G1 h1 (u:=Bw m) λ v hv=>by
  obtain⟨⟨a,b⟩,_⟩:=h3 v hv;exact zaq.mpr ⟨v.toNat,zc4.mpr (by omega),by omega⟩
 rw[ES] at this;omega
section
variable {m:Nat}{A:LA}{K:List (Int×Int)}
abbrev ZZ (A:LA)(T:List Co)(p:Int)(q:Int×Int):Bool:=decide (Ap (Ac A q) (atC T q.2)=atC T p)
abbrev MB (A:LA)(K:List (Int×Int))(T:List Co)(p:Int):List (Int×Int):=(K.filter λ q=>decide (q.1=p)).filter (ZZ A T p)
def bM (ok:Bc m rs L A K){p:Int}(hT:∀w:Int,0<=w->w<m->Bg rs w g (atC T w))(hp:0<=p/\p<m)(ae:p≠g)(hc:atC T p=some cp):∃q r,MB A K T p=q::r:=by
 have hm:=hT p hp.1 hp.2;rw[hc] at hm;have w:=hm.2 cp rfl
 suffices ∃q,q∈MB A K T p by
  obtain⟨q,hq⟩:=this;cases e:MB A K T p with
  |nil=>rw[e] at hq;cases hq
  |cons a r=>exact⟨a,r,rfl⟩
 cases w with
 |nil=>exact (ae rfl).elim
 | @cons r l _ c' hr hl w' =>
  have v5:=ok.ok r hr;have hb:=JO hr hl w' hm;have eb:atC T r.b=some c':=(hT r.b v5.1.b0 v5.1.b1).Cj hb;have e1:BH r=some (l,1):=by unfold BH;rw[hl]
  have hle:=ok.cJ.road r hr;rw[e1] at hle;obtain⟨d,hd,f6⟩:=P9 hle;have wd:=(ok.cJ.snd _ _ _ hd).1;have h2:=hm.1 _ (wd.trans w');have ed:d=(l,1):=by
   simp only[BI] at h2;unfold NX at f6;dsimp only at f6;exact Prod.ext (by omega) (by omega)
  subst ed;have a7:Bg rs r.a r.b (some (l,1)):=⟨λ e he=>by
   have:=hm.1 _ (he.trans w');simp only[BI] at this ⊢;omega,λ p hp=>by cases hp;exact wd⟩
  have hK:(r.a,r.b)∈K:=(ok.km _).mpr ⟨_,hd,a7⟩;refine⟨(r.a,r.b),zb2.mpr ⟨zb2.mpr ⟨hK,by simp⟩,?_⟩⟩;unfold ZZ;dsimp only;rw[hc,eb,hd];simp[Ap]
structure abm (m:Nat)(rs:List Road)(A:LA)(T:List Co)(p:Int)(cp:Int×Int)(q ca cq:Int×Int):Prop where
 a:q.1=p
 r:0<=q.2/\q.2<m
 c:Ac A q=some ca
 t:atC T q.2=some cq
 s:cp=(ca.1+cq.1,ca.2+cq.2)
def vJ (ok:Bc m rs L A K)(hc:atC T p=some cp)(h:MB A K T p=q::r):∃ca cq,abm m rs A T p cp q ca cq:=by
 have hq:q∈MB A K T p:=by rw[h];exact za3
 obtain⟨h1,h2⟩:=zb2.mp hq;obtain⟨h3,h4⟩:=zb2.mp h1;have e4:q.1=p:=by simpa using h4
 have e2:Ap (Ac A q) (atC T q.2)=some cp:=by
  unfold ZZ at h2;rw[hc] at h2;simpa using h2
 obtain⟨a,b,ha,hb,e⟩:=Dy e2;exact⟨a,b,e4,(ok.YL h3).2.2,ha,hb,e⟩
end
abbrev CC (m:Nat)(rs:List Road)(T:List Co)(i:Nat):List Co:=(zay m).map λ p:Nat=>Er (((rs.take i).filter λ r=>decide (r.a=(p:Int))).map λ r=>Ap (BH r) (atC T r.b))
def Dg (m:Nat)(rs:List Road)(T:List Co)(i:Nat):(CC m rs T i).length=m:=by unfold CC;rw[za2,zc2]
def Yy (hp:p<m):atC (CC m rs T i) (p:Int)=Er (((rs.take i).filter λ r=>decide (r.a=(p:Int))).map λ r=>Ap (BH r) (atC T r.b)):=by
 unfold CC atC;rw[zbh,zam,zan,zc1 hp];rfl
def bN (m:Nat)(rs:List Road)(T:List Co):CC m rs T 0=zae m none:=by
 unfold CC;rw[zd9];exact zd6 λ j=>by
  rw[zan,zc6];by_cases h:j<m
  ·rw[zc1 h,if_pos h];rfl
  ·rw[zbk (by rw[zc2];omega),if_neg h];rfl
def bO (cs:List Co)(c:Co):Er (cs++[c])=De (Er cs) c:=by unfold Er;rw[List.foldl_append];rfl
def pK (a:Co):De a none=a:=by cases a<;>rfl
def RF (hr:rs[i]?=some r)(ok:GZ m r):CC m rs T (i+1)=(CC m rs T i).set r.a.toNat (De (atC (CC m rs T i) r.a) (Ap (BH r) (atC T r.b))):=by
 have ha:=ok.a0;have nq:=ok.a1;refine zd6 λ j=>?_;have et:rs.take (i+1)=rs.take i++[r]:=by rw[zbt,hr];rfl
 by_cases h:j<m
 ·by_cases e:r.a.toNat=j
  ·have e2:r.a=(j:Int):=by omega
   rw[e,zaz (by rw[Dg];exact h),e2,Yy h];unfold CC;rw[zan,zc1 h,et];simp only[zbr,List.filter_append,zb3];rw[List.filter_cons_of_pos (by simpa using e2),List.filter_nil,za5,zcy,bO]
  ·rw[zbc e];unfold CC;rw[zan,zan,zc1 h,et];simp only[zbr,List.filter_append];rw[List.filter_cons_of_neg (by simp;omega),List.filter_nil,zb7]
 ·rw[zbk (by rw[Dg];omega),zbk (by rw[zbj,Dg];omega)]
def bP (hr:rs[i]?=some r)(ok:GZ m r)(hl:r.l=none):CC m rs T (i+1)=CC m rs T i:=by
 have e1:BH r=none:=by unfold BH;rw[hl]
 have e2:Ap none (atC T r.b)=none:=by cases atC T r.b<;>rfl
 have ha:=ok.a0;have nq:=ok.a1;rw[RF hr ok,e1,e2,pK];exact set_same (Df ha (by rw[Dg];exact nq))
def bQ (hg:g<m)(Aw:∀r∈rs,GZ m r)(h:∀u:Int,0<=u->u<m->Bg rs u g (atC T u))(hp:p<m):atC ((CC m rs T rs.length).set g (some (0,0))) (p:Int)=atC T (p:Int):=by
 have hR:=SN hg Aw h;unfold WB at hR;have:=zdf.mp hR p (zc4.mpr hp);rw[decide_eq_true_eq] at this;rw[this];have es:=Gw (cs:=CC m rs T rs.length) (i:=(g:Int)) (j:=(p:Int)) (v:=some (0,0)) (by omega) (by omega) (by rw[Dg];omega);rw[zbh] at es;rw[es];by_cases e:p=g
 ·rw[if_pos e,if_pos (by omega)]
 ·rw[if_neg e,if_neg (by omega),Yy hp,zbs];rfl
abbrev El (N:List Nat):D:=.lst (N.map λ n:Nat=>D.int (n:Int))
abbrev J9 (x:Co)(N:List Nat)(T:List Co):D:=match x with | none=>.AL | some c=>.tup [cst (some c),El N,.lst (T.map cst)]
abbrev V7 (ns:List Int):Nat:=(firstMet (λ i=>ns.getD i 0) ns.length).length
section
variable {f:Ae->M D}{te:TE}{p1 p2 aD:Pos}
abbrev tLS (X:Cx)(te:TE):TE:=λ σ H Q=>te σ H λ x H1=>∃p ns,x=.ref p/\Dr X.K H1 p (List.map V.int ns)/\ns.length<60/\Q (.int (V7 ns)) H1
def bR (hc:X.calm=true)(t6:Gl X "len")(bp:X.mg "len" = none)(dr:Gl X "set")(bd:X.mg "set" = none)(he:PE X e te)(kh:bootBuiltins "len" = some (.builtin "len"):=by decide +kernel)(jw:bootBuiltins "set" = some (.type "set"):=by decide +kernel)(hs: ~~~(starEach [e] X.env=[(false,eval e X.env)]))(a6: ~~~(starEach [.Call (.Name "set" p2) [e] [] aD] X.env=[(false,eval (.Call (.Name "set" p2) [e] [] aD) X.env)])):
 PE X (.Call (.Name "len" p1) [.Call (.Name "set" p2) [e] [] aD] [] pos) (tLS X te):=by
 intro pins s σ H Q I h;refine wpAny_Call_Name_kw (D5 I t6 bp kh ?_);refine PyProof.Rows.callWith_builtin1 ?_ a6;rw[a6];refine zc5 ?_;refine wpAny_Call_Name_kw (D5 I dr bd jw ?_);refine zbe ?_ hs;rw[hs];refine zc5 (Bi (he pins s σ H _ I h) λ u s1 zz=>?_);obtain⟨x,H1,I1,r1,p,ns,rfl,hq,hl,q2⟩:=zz;cases r1;refine zcb ?_;obtain⟨aa,r',pl,hz⟩:=I1.list hq;have hi:=intsAre_of r';have bK:=r'.length;rw[za2] at bK;have hb:60<scanBound:=by decide
 refine call_set_list (ns:=ns) (I1.ok.hd hc) pl.isList (by simpa using hi) (by rw[zaa,<-bK];omega) λ h' tk hS hk=>?_;refine zcb ?_;obtain⟨o,es,ep,t,ho,hex,hd,_,_,hsz,hf,hn⟩:=hS;have hn:es.size=V7 ns:=by
  rw[hn];unfold V7;rw[show aa.toArray.size=ns.length by simp[bK]]
 have pq:V7 ns<=ns.length:=firstMet_length_le _ _;have hI:=I1.kept (h':=h') (t':=tk+1+1) λ b u e=>hk b u (zaj e) e;refine call_len_set ho hex hd hf (by omega) ⟨.int es.size,H1,hI,⟨_,rfl⟩,?_⟩;rw[hn];exact q2
abbrev lsM (d:D):M D:=match d with
 | .lst xs=>(match CY xs with|some ns=>if ns.length<60 then .ok (.int (V7 ns)) else .bad|none=>.bad)
 |_=>.bad
def jI (h:ns.length<60):lsM (.lst (ns.map .int))=.ok (.int (V7 ns)):=by
 unfold lsM;dsimp only;rw[EB];dsimp only;rw[if_pos h]
def bS (hc:X.calm=true)(t6:Gl X "len")(bp:X.mg "len" = none)(dr:Gl X "set")(bd:X.mg "set" = none)(he:DE X WX c e f)(kh:bootBuiltins "len" = some (.builtin "len"):=by decide +kernel)(jw:bootBuiltins "set" = some (.type "set"):=by decide +kernel)(hs: ~~~(starEach [e] X.env=[(false,eval e X.env)]))(a6: ~~~(starEach [.Call (.Name "set" p2) [e] [] aD] X.env=[(false,eval (.Call (.Name "set" p2) [e] [] aD) X.env)])):
 DE X WX c (.Call (.Name "len" p1) [.Call (.Name "set" p2) [e] [] aD] [] pos) (λ ρ=>(f ρ).bind lsM):=by
 obtain⟨te,e1,e2⟩:=he;refine⟨_,bR hc t6 bp dr bd e1 kh jw hs a6,λ P0 P σ H Q ρ E h=>?_⟩;refine e2 P0 P σ H _ ρ E ?_;dsimp only at h;cases q:f ρ with
 |bad|ex x=>rw[q] at h;exact h
 |ok d =>
  rw[q] at h;simp only[M.A9] at h;intro v H1 s1 hv;unfold lsM at h;split at h
  ·rename_i xs;split at h
   ·rename_i ns eb;have:=EC eb;subst this;split at h
    ·rename_i hl;cases hv with
     |lst hs hh =>
      have:=Dt hh;subst this;exact⟨_,ns,rfl,hs.B8,hl,h _ H1 s1 (.int _)⟩
    ·exact h.elim
   ·exact h.elim
  ·exact h.elim
end
def WS (h:ns.Nodup):V7 ns=ns.length:=by
 unfold V7;have key:∀i,i<=ns.length->firstMet (λ i=>ns.getD i 0) i=ns.take i:=by
  intro i;induction i with
  |zero=>intro _;rw[firstMet_zero,zd9]
  |succ i ih =>
   intro hi;have ag:i<ns.length:=by omega
   rw[firstMet_succ,ih (by omega),zbt,za6 ag];have eg:ns.getD i 0=ns[i]:=by rw[zam,za6 ag];rfl
   rw[eg];unfold step_dedup;have b7:(ns.take i).any (λ x=>x==ns[i])=false:=by
    rw[List.any_eq_false];intro x hx yl;have e:x=ns[i]:=by simpa using yl
    obtain⟨j,hj,ej⟩:=List.getElem_of_mem hx;rw[zbz] at hj;rw[List.getElem_take] at ej;exact List.pairwise_iff_getElem.mp h j i (by omega) ag (by omega) (by rw[ej,e])
   rw[b7];rfl
 rw[key _ (zag _),zbs]
section
variable {m:Nat}{A:LA}{K:List (Int×Int)}
def pL (ok:Bc m rs L A K)(h:MB A K T p=q::r):∃c,Ac A q=some c/\Bg rs q.1 q.2 (some c):=by
 have hq:q∈MB A K T p:=by rw[h];exact za3
 obtain⟨h1,_⟩:=zb2.mp hq;obtain⟨h3,_⟩:=zb2.mp h1;exact (ok.km q).mp h3
abbrev E5 (rs:List Road)(N:List Nat):List Int:=N.map λ n=>((rs[n]?).map Road.b).getD 0
def vK (h:O0 rs x N y t):Wk rs x y (t,N.length):=by
 induction h with
 |nil x=>exact .nil x
 | @cons x y l s n N r hr ha hl _ ih =>
  have:=Wk.cons (zai hr) hl ih;rw[ha] at this;have e:((l+s,((n::N).length:Int)):Int×Int)=(l+s,1+(N.length:Int)):=by rw[za8];exact Prod.ext rfl (by dsimp only;omega)
  rw[e];exact this
def WT (Aw:∀r∈rs,GZ m r/\r.a≠r.b)(h:O0 rs x N y t):Bg rs x y (some (t,(N.length:Int)))->(x::E5 rs N).Nodup/\∀v∈x::E5 rs N,∃d,Bg rs v y (some d)/\d.2<=(N.length:Int):=by
 induction h with
 |nil x=>exact λ hm=>⟨by simp[E5],λ v hv=>by
  have:v=x:=by simpa [E5] using hv
  rw[this];exact⟨_,hm,zd3 _⟩⟩
 | @cons x y l s n N r hr ha hl hc ih =>
  intro hm;subst ha;have b8:=zai hr;have e:((l+s,((n::N).length:Int)):Int×Int)=(l+s,1+(N.length:Int)):=by rw[za8];exact Prod.ext rfl (by dsimp only;omega)
  have bd:=hm;rw[e] at bd;obtain⟨h1,h2⟩:=ih (JO b8 hl (vK hc) bd);have ee:E5 rs (n::N)=r.b::E5 rs N:=by unfold E5;rw[za5,hr];rfl
  rw[ee];refine⟨zb6.mpr ⟨λ z=>?_,h1⟩,λ v hv=>?_⟩
  ·obtain⟨d,hd,ar⟩:=h2 _ z;have:=hd.Cj bd;cases this;dsimp only at ar;omega
  ·rw[za8];rcases zab.mp hv with rfl|hv
   ·exact⟨_,hm,by dsimp only;rw[za8];exact zd3 _⟩
   ·obtain⟨d,hd,ar⟩:=h2 _ hv;exact⟨d,hd,by omega⟩
def vL (h:O0 rs x N y t):∀n∈N,n<rs.length:=by
 induction h with
 |nil=>exact λ n hn=>by cases hn
 |cons hr _ _ _ ih =>
  intro k hk;rcases zab.mp hk with rfl|hk
  ·exact (zah.mp hr).1
  ·exact ih k hk
end
abbrev qX (i:Nat)(ρ:Ae)(d:D)(t:OT):M Out:=match ρ[i]? with
 |some (some c)=>(match treeOf c with|some (_,u)=>.ok (.CO (.ow (.tree none (.tup [.sh d,t,u]))))|none=>.bad)
 |_=>.bad
section
variable {a b:Expr}{f:Ae->M D}{aT:Pos}
def pM (i:Nat){k}(hv:PE X (.Name x p1) (O3 i))(ha:DE X WX true a f)(hb:DN X WX b fn)(h1: ~~~(starEach [a,b,.Name x p1] X.env=(false,eval a X.env)::starEach [b,.Name x p1] X.env))(h2: ~~~(starEach [b,.Name x p1] X.env=(false,eval b X.env)::starEach [.Name x p1] X.env))(h3: ~~~(starEach [.Name x p1] X.env=(false,eval (.Name x p1) X.env)::starEach [] X.env)):
 DS X WX (.Return (some (.Tuple [a,b,.Name x p1] k aT)) pos) (λ ρ=>(f ρ).bind λ d=>(fn ρ).bind λ t=>qX i ρ d t):=by
 obtain⟨ta,a1,a2⟩:=ha;obtain⟨tb,b1,b2⟩:=hb;refine⟨_,S2 (W0 (Bd a1 (Bd b1 (Bd hv Cv h3) h2) h1)),λ P0 P σ H Z ρ E h=>?_⟩;dsimp only at h;refine a2 P0 P σ H _ ρ E ?_;cases q:f ρ with
 |bad=>rw[q] at h;exact h
 |ex x=>rw[q] at h;exact λ H' s=>h H' P (E.tr s)
 |ok d =>
  rw[q] at h;simp only[M.A9] at h;intro v H1 s1 kh;refine b2 P0 P σ H1 _ ρ (E.same s1) ?_;cases q2:fn ρ with
  |bad=>rw[q2] at h;exact h
  |ex x=>rw[q2] at h;exact λ H' s=>h H' P (E.tr (s1.trans s))
  |ok t =>
   rw[q2] at h;simp only[M.A9] at h;intro w fp H2 s2 n2 aP o2;unfold qX at h;split at h
   ·rename_i c e1;split at h
    ·rename_i p0 u e2;have io:Hk c=true:=by
      cases c with
      |val d=>cases e2
      |own ds|ow o=>rfl
     obtain⟨vi,fpi,g1,g2,g3,g4⟩:=E.ows i c e1 io;have ou:=g2.toT e2;refine⟨vi,g1,zbp (AA (by simp)),λ p hp=>?_⟩;have b7:∀a∈fp,H a=none:=λ a ha=>Cd s1 (n2 a ha);have v6:=s1.trans s2;have S3:=v6.trans (AH hp (.tup [v,w,vi]));have v7:=FC (E.same v6).BU o2;have ae:∀a∈fp,a≠p:=λ a ha z=>(o2.BU a ha).no (by rw[z];exact hp);have v8:=o2.move (XQ (o:=.tup [v,w,vi]) hp v7) λ a ha=>Ag (ae a ha);have ym:=ou.move (Bk S3 b7) λ a ha=>by
      obtain⟨o,qo,_⟩:=E.BU a (g3 a ha).1;rw[qo];exact S3 _ _ qo
     have je:=kh.mono (Bk (s2.trans (AH hp (.tup [v,w,vi]))) n2);refine h _ _ _ (PU P fp) (E.wA S3 b7) (λ a ha=>.inl (E.sub a ha)) (FC (E.same S3).BU v8) (show C6 X.K _ (PU P fp) (.ref p) (.tup [.sh d,t,u]) _ from .tup (xs:=[v,w,vi]) ?_ (.cons (.sh je) (.cons v8 (.cons ym .nil)))) (λ a ha=>?_) ?_
     ·rw[Ay λ z=>(v7 p z).no hp];exact Am
     ·rw[List.nil_append,zb7] at ha;rcases zao.mp ha with ha|ha
      ·exact⟨.inr ha,λ z=>(E.BU a (E.sub a z)).no (b7 a ha)⟩
      ·exact⟨.inl (g3 a ha).1,(g3 a ha).2⟩
     ·rw[List.nil_append,zb7,zau];exact⟨aP,g4,λ a ha b hb e=>(E.BU b (g3 b hb).1).no (by rw[<-e];exact b7 a ha)⟩
    ·exact h.elim
   ·exact h.elim
end
abbrev jJ (x:Co)(N:List Nat)(T:List Co):OT:=match x with
 |none=>.sh .AL
 |some c=>.tup [.sh (cst (some c)),.lst ((N.map λ n:Nat=>D.int (n:Int)).map .sh),.lst ((T.map cst).map .sh)]
def Yz (x:Co)(N:List Nat)(T:List Co):er (jJ x N T)=J9 x N T:=by
 cases x with
 |none=>rfl
 |some c =>
  unfold jJ J9 El;simp only[er,Tx,OJ]
end L2
set_option maxHeartbeats 4000000
namespace df
open PySem L2
abbrev top (i:Nat):Stmt:=PySem.Challenge.pw_nodeladder_k43_asked.main.body.getD i (.Pass ⟨0,0,0,0⟩)
noncomputable abbrev G5:Stmt:=top 7
def Lm:Aj ["thing","bound"] ["thing","bound"] (A6 G5):=nofun
noncomputable abbrev Ln:Stmt:=top 8
def Qx:Aj ["thing"] ["thing"] (A6 Ln):=nofun
noncomputable abbrev RG:Stmt:=top 9
def WU:Aj ["thing","many"] ["thing","many"] (A6 RG):=nofun
noncomputable abbrev V8:Stmt:=top 10
def Mf:Aj ["thing","many","roads"] ["thing"] (A6 V8):=nofun
noncomputable abbrev RH:Stmt:=top 11
def WV:Aj ["thing"] ["thing"] (A6 RH):=nofun
noncomputable abbrev YA:Stmt:=top 12
def jK:Aj ["one","other"] ["one","other"] (A6 YA):=nofun
noncomputable abbrev YB:Stmt:=top 13
def jL:Aj ["some"] ["some"] (A6 YB):=nofun
noncomputable abbrev MC:Stmt:=top 14
def Td:Aj ["road"] ["road"] (A6 MC):=nofun
noncomputable abbrev Lo:Stmt:=top 16
def Qy:Aj ["ladder"] ["ladder"] (A6 Lo):=nofun
noncomputable abbrev Em:Stmt:=top 17
def Ia:Aj ["ladder"] ["ladder"] (A6 Em):=nofun
noncomputable abbrev RI:Stmt:=top 18
def DD:Aj ["order","costs","place","reached","rank","lower","higher","cost"] ["order","costs","place"] (A6 RI):=nofun
noncomputable abbrev Ib:Stmt:=top 19
def Nb:Aj ["ladder","start"] ["ladder","start"] (A6 Ib):=nofun
noncomputable abbrev Jg:Stmt:=top 20
def Pm:Aj ["ladder","goal"] ["ladder","goal"] (A6 Jg):=nofun
noncomputable abbrev Ic:Stmt:=top 21
def Ed:Aj ["ladder","start","goal","ahead","behind"] ["ladder","start","goal"] (A6 Ic):=nofun
noncomputable abbrev YC:Stmt:=top 23
def G6:Aj ["order","costs","place","reached","told","higher","lower","over"] ["order","costs","place"] (A6 YC):=nofun
noncomputable abbrev Pn:Stmt:=top 24
def V9:Aj ["ladder","goal"] ["ladder","goal"] (A6 Pn):=nofun
noncomputable abbrev Ie:Stmt:=top 26
def Nc:Aj ["ladder","start","goal"] ["ladder","start","goal"] (A6 Ie):=nofun
noncomputable abbrev G7:Stmt:=top 27
def Fp:Aj ["ladder","prices","place","kept"] ["ladder","prices","place"] (A6 G7):=nofun
noncomputable abbrev H9:Stmt:=top 28
def C1:Aj ["ladder","prices","start","goal","roads","place","arc"] ["ladder","prices","start","goal"] (A6 H9):=nofun
noncomputable abbrev qY:Stmt:=top 29
def WW:Aj ["ladder","start","goal","cost","prices"] ["ladder","start","goal"] (A6 qY):=nofun
noncomputable abbrev Jh:Stmt:=top 31
def Po:Aj ["laid","pair"] ["laid","pair"] (A6 Jh):=nofun
noncomputable abbrev qZ:Stmt:=top 32
def vM:Aj ["laid","pair","cost","middle"] ["laid","pair","cost","middle"] (A6 qZ):=nofun
noncomputable abbrev Pp:Stmt:=top 33
def Fq:Aj ["laid","place","higher","u","w","cost"] ["laid","place","higher"] (A6 Pp):=nofun
noncomputable abbrev MD:Stmt:=top 34
def Dh:Aj ["net","order","laid","road","rank","place"] ["net","order"] (A6 MD):=nofun
noncomputable abbrev Pq:Stmt:=top 36
def Va:Aj ["net","thing"] ["net","thing"] (A6 Pq):=nofun
noncomputable abbrev Hc:Stmt:=top 37
def Mg:Aj ["net","thing"] ["net","thing"] (A6 Hc):=nofun
noncomputable abbrev Lp:Stmt:=top 38
def FE:Aj ["net","bows","road"] ["net"] (A6 Lp):=nofun
noncomputable abbrev Ig:Stmt:=top 39
def Cc:Aj ["bows","left","place","ahead","behind","missing","u"] ["bows","left","place"] (A6 Ig):=nofun
noncomputable abbrev Pr:Stmt:=top 40
def Vb:Aj ["bows","left"] ["bows","left"] (A6 Pr):=nofun
noncomputable abbrev Vc:Stmt:=top 41
def EE:Aj ["net","bows","left","order","place","bow"] ["net"] (A6 Vc):=nofun
noncomputable abbrev Lq:Stmt:=top 43
def BS:Aj ["net","start","costs","changed","road","cost"] ["net","start"] (A6 Lq):=nofun
noncomputable abbrev Fs:Stmt:=top 45
def JP:Aj ["net","order"] ["net","order"] (A6 Fs):=nofun
noncomputable abbrev ME:Stmt:=top 46
def Et:Aj ["net","laid","kept","u","costs"] ["net","laid"] (A6 ME):=nofun
noncomputable abbrev Lr:Stmt:=top 47
def Ji:Aj ["net","arc","cost","numbers"] ["net","arc","cost"] (A6 Lr):=nofun
noncomputable abbrev AF:Stmt:=inClass (top 48) 0
def JQ:Aj ["self","net","order"] ["self","net","order"] (A6 AF):=nofun
noncomputable abbrev Ih:Stmt:=inClass (top 48) 2
def Nd:Aj ["self"] ["self"] (A6 Ih):=nofun
noncomputable abbrev E6:Stmt:=inClass (top 48) 4
def Dn:Aj ["self","u","w","many"] ["self","u","w"] (A6 E6):=nofun
noncomputable abbrev Jj:Stmt:=inClass (top 48) 5
def Pt:Aj ["self","u","w"] ["self","u","w"] (A6 Jj):=nofun
noncomputable abbrev Ft:Stmt:=inClass (top 48) 7
def BD:Aj ["self","u","w","roads","waiting","arc","middle"] ["self","u","w"] (A6 Ft):=nofun
noncomputable abbrev Jk:Stmt:=inClass (top 48) 8
def Pu:Aj ["self"] ["self"] (A6 Jk):=nofun
noncomputable abbrev Jl:Stmt:=top 50
def Pw:Aj ["_law_script","_law_k"] ["_law_script","_law_k"] (A6 Jl):=nofun
noncomputable abbrev MF:Stmt:=top 51
def GA:Aj ["_law_cell","_law_k","_law_number"] ["_law_cell","_law_k"] (A6 MF):=nofun
noncomputable abbrev Px:Stmt:=top 52
def D4:Aj ["_law_cell","_law_many","_law_k","_law_x","_law_one","_law_other","_law_length"] ["_law_cell","_law_many","_law_k"] (A6 Px):=nofun
noncomputable abbrev RJ:Stmt:=top 53
def DF:Aj ["_law_script","_law_places","_law_most","_law_cells","_law_x","_law_many","_law_roads"] ["_law_script","_law_places","_law_most"] (A6 RJ):=nofun
noncomputable abbrev MG:Stmt:=top 54
def GB:Aj ["_law_cell","_law_many","_law_k","_law_order_here","_law_place"] ["_law_cell","_law_many","_law_k"] (A6 MG):=nofun
noncomputable abbrev Py:Stmt:=top 55
def Vd:Aj ["_law_one","_law_other"] ["_law_one","_law_other"] (A6 Py):=nofun
noncomputable abbrev MH:Stmt:=top 56
def Te:Aj ["_law_one","_law_other"] ["_law_one","_law_other"] (A6 MH):=nofun
noncomputable abbrev RK:Stmt:=top 57
def Bm:Aj ["_law_net","_law_many","_law_roads","_law_found","_law_k","_law_u","_law_w","_law_length","_law_width","_law_v"] ["_law_net"] (A6 RK):=nofun
noncomputable abbrev Pz:Stmt:=top 58
def MI:Aj ["_law_found","_law_due","_law_part"] ["_law_found","_law_due"] (A6 Pz):=nofun
noncomputable abbrev PB:Stmt:=top 59
def Bu:Aj ["_law_net","_law_start","_law_goal","_law_roads","_law_here","_law_cost_here","_law_road_here","_law_u","_law_w","_law_length","_law_width"] ["_law_net","_law_start","_law_goal","_law_roads"] (A6 PB):=nofun
noncomputable abbrev Ls:Stmt:=top 60
def Be:Aj ["_law_net","_law_goal","_law_prices_here","_law_many","_law_roads","_law_due","_law_u","_law_w","_law_length","_law_width","_law_place"] ["_law_net","_law_goal","_law_prices_here"] (A6 Ls):=nofun
noncomputable abbrev PD:Stmt:=top 61
def Ve:Aj ["_law_net"] ["_law_net"] (A6 PD):=nofun
noncomputable abbrev MJ:Stmt:=top 62
def Lu:Aj ["_law_net","_law_found","_law_start","_law_goal","_law_cost_here","_law_ends"] ["_law_net","_law_found","_law_start","_law_goal","_law_cost_here"] (A6 MJ):=nofun
noncomputable abbrev RL:Stmt:=top 63
def FF:Aj ["_law_script","_law_net","_law_handed","_law_ladder","_law_costs","_law_start","_law_again","_law_goal","_law_found"] ["_law_script"] (A6 RL):=nofun
structure Txt (K:za0)(mg:Str->Option Value):Prop where
 Mh:AK K mg "is_whole_below" G5 ["thing","bound"]
 Tf:AK K mg "is_measure" Ln ["thing"]
 bT:AK K mg "is_road" RG ["thing","many"]
 jM:AK K mg "is_map" V8 ["thing"]
 bU:AK K mg "checked" RH ["thing"]
 pN:AK K mg "added" YA ["one","other"]
 pO:AK K mg "least" YB ["some"]
 Vf:AK K mg "road_cost" MC ["road"]
 Tg:AK K mg "kept_costs" Lo ["ladder"]
 Ja:AK K mg "kept_costs_turned" Em ["ladder"]
 bV:AK K mg "climbed" RI ["order","costs","place"]
 PF:AK K mg "climbed_from" Ib ["ladder","start"]
 Qz:AK K mg "climbing_to" Jg ["ladder","goal"]
 PH:AK K mg "sums_at_tops" Ic ["ladder","start","goal"]
 pQ:AK K mg "swept" YC ["order","costs","place"]
 WY:AK K mg "costs_in" Pn ["ladder","goal"]
 PJ:AK K mg "cost_between" Ie ["ladder","start","goal"]
 Mi:AK K mg "arcs_by_prices" G7 ["ladder","prices","place"]
 Nf:AK K mg "way_by_prices" H9 ["ladder","prices","start","goal"]
 zU:AK K mg "ask" qY ["ladder","start","goal"]
 QA:AK K mg "cost_so_far" Jh ["laid","pair"]
 zV:AK K mg "lay" qZ ["laid","pair","cost","middle"]
 WZ:AK K mg "lay_over" Pp ["laid","place","higher"]
 Vg:AK K mg "laid_arcs" MD ["net","order"]
 X0:AK K mg "is_order" Pq ["net","thing"]
 Ng:AK K mg "checked_order" Hc ["net","thing"]
 Th:AK K mg "first_bows" Lp ["net"]
 PL:AK K mg "missing_bows" Ig ["bows","left","place"]
 X1:AK K mg "lightest" Pr ["bows","left"]
 jN:AK K mg "ranked" Vc ["net"]
 Ti:AK K mg "costs_from" Lq ["net","start"]
 Lw:AK K mg "order_or_ranked" Fs ["net","order"]
 Vh:AK K mg "kept_arcs" ME ["net","laid"]
 Tj:AK K mg "road_under" Lr ["net","arc","cost"]
 Lx:WA K mg "Ladder" "Ladder.__init__" AF ["self","net","order"]
 PM:OR K "Ladder" "order" "Ladder.order" Ih ["self"]
 Ii:OR K "Ladder" "checked_arc" "Ladder.checked_arc" E6 ["self","u","w"]
 QB:OR K "Ladder" "cost" "Ladder.cost" Jj ["self","u","w"]
 Ly:OR K "Ladder" "unpacked" "Ladder.unpacked" Ft ["self","u","w"]
 QC:OR K "Ladder" "kept" "Ladder.kept" Jk ["self"]
 QD:AK K mg "_law_cell_at" Jl ["_law_script","_law_k"]
 Vi:AK K mg "_law_mixed" MF ["_law_cell","_law_k"]
 X2:AK K mg "_law_road" Px ["_law_cell","_law_many","_law_k"]
 bW:AK K mg "_law_map" RJ ["_law_script","_law_places","_law_most"]
 Vj:AK K mg "_law_order" MG ["_law_cell","_law_many","_law_k"]
 X3:AK K mg "_law_plus" Py ["_law_one","_law_other"]
 Vk:AK K mg "_law_least" MH ["_law_one","_law_other"]
 bX:AK K mg "_law_all" RK ["_law_net"]
 X4:AK K mg "_law_cost" Pz ["_law_found","_law_due"]
 X5:AK K mg "_law_walk" PB ["_law_net","_law_start","_law_goal","_law_roads"]
 Tn:AK K mg "_law_prices" Ls ["_law_net","_law_goal","_law_prices_here"]
 X6:AK K mg "_law_copy" PD ["_law_net"]
 Vl:AK K mg "_law_right" MJ ["_law_net","_law_found","_law_start","_law_goal","_law_cost_here"]
 abR:AK K mg "law" RL ["_law_script"]
 rA:mg "all" = none
 X7:mg "bool" = none
 X8:mg "dict" = none
 Fu:mg "enumerate" = none
 jO:mg "int" = none
 AQ:mg "isinstance" = none
 EV:mg "len" = none
 EW:mg "list" = none
 jP:mg "min" = none
 Ct:mg "range" = none
 X9:mg "reversed" = none
 zW:mg "set" = none
 jQ:mg "sorted" = none
 Lz:mg "tuple" = none
 EX:Jf K "Ladder" "kept_ones"
 Ce:Jf K "Ladder" "laid"
 Bx:Jf K "Ladder" "own_map"
 CQ:Jf K "Ladder" "own_order"
local macro_rules | `(tactic| rfl')=>`(tactic| simp only [abj,abk,abl])
local macro_rules | `(‹$t›)=>`(some (Cl.val $t))
local macro_rules | `(!$n:num)=>`(tK $n (pv $n))
local macro_rules | `(!$h:ident)=>`(huR $h 16 (by decide))
local macro_rules | `(-$h:ident)=>`(($h).mono (by decide))
local macro_rules|`(tactic|simp_arith[$xs,*])=>do `(tactic|simp only[$[$(("zB zC NS List.set_cons_zero List.set_cons_succ M.A9 IL IK Kk KH KI KJ NG JL JM Rh Kv Kw IQ XU ND NE Kx mV IR IS Gu SF Dv SG Ky Kz IT XY Ku EK toCl_list toCl_listP toCl_dct NH KL KN KO KQ NI KR KS KU vZ vY KA XZ KC Y0 KD KG NF Y1 muC muN mY mZ nA nB nE nF toCl_nil Kd GX Qq SH IU NJ NK KW KY NM NO NP NQ NR KZ L0 L3 L4 IV IW IX IY IZ L5 J0 J1 Y2 Y3 Y4 Y5 Y6 J2 ite_tt ite_ff Bool.not_true Bool.not_false List.getElem?_cons_zero List.getElem?_cons_succ G2 HW Ld mX oA mW oE oF oG NW SY T4 T5 ED J5 NZ OZ oS Yq T8".splitOn " ").toArray.map λ x=>Lean.mkIdent x.toName):term],*,$xs,*])
abbrev FT (nm:Str)(lv n:Nat)(F:List D->M OT):Prop:=∀ {P w K mg base},Txt K mg->FnT P w K mg base nm lv n F
variable {P:Program}{w:World}{K:za0}{mg:Str->Option Value}{base:Heap}
abbrev G8 (F:List D->M OT):Prop:=∀i n:Int,0<=i->i<n->F [.int i,.int n]=.ok (.sh (.bl true))
def Di:∃F,FT "is_whole_below" 1 2 F/\G8 F:=by
 refine⟨_,λ T=>Az (k:=0) T.Mh Lm _ (λ f B6 A outer s H E hr=>(A5 (Ai (AI (Ot (Dc (Ou _) rfl T.AQ rfl T.jO (by decide +kernel) (!0)) (Ot (tN (Dc (LZ _) rfl T.AQ rfl T.X7 (by decide +kernel) (!0))) (Oq (Z4 pR cZ A4 (!0) (!1))))))))),?_⟩;intro i n h0 h1;rfl';refine B1 ?_;have a:=decide_eq_true h0;have b:=decide_eq_true h1;simp_arith[G2,a,b,Fi];rfl
abbrev Hd:=za7 Di
def B2:FT "is_whole_below" 1 2 Hd:=(za1 Di).1
def B3:G8 Hd:=(za1 Di).2
abbrev LB (F:List D->M OT):Prop:=∀i:Int,0<=i->i<Rx->F [.int i]=.ok (.sh (.bl true))
def FG:∃F,FT "is_measure" 2 1 F/\LB F:=by
 refine⟨_,λ T=>Az (k:=1) T.Tf Qx _ (λ f B6 A outer s H E hr=>(A5 (Ai (Ab A8.toXCall (B2 T) (-hr) rfl (A2 (!0) (A2 (eO A4 A4) A7)) rfl)))),?_⟩;intro i h0 h1;rfl';have h:=B3 i Rx h0 h1;refine B1 ?_;simp_arith[qN,h];rfl
abbrev MK:=za7 FG
def Jm:FT "is_measure" 2 1 MK:=(za1 FG).1
def Jn:LB MK:=(za1 FG).2
abbrev RM (F:List D->M OT):Prop:=∀(m:Nat) (r:Road),M8 m r->F [Bo r,.int m]=.ok (.sh (.bl true))
def JR:∃F,FT "is_road" 3 2 F/\RM F:=by
 refine⟨_,λ T=>Az (k:=2) T.bT WU _ (λ f B6 A outer s H E hr=>(A3 (AU (DW.dt (CH (By (Bb (c:=true) (Dc (Gn _) rfl T.AQ rfl T.Lz (by decide +kernel) (!0)))) (Cg (Fl (c:=true) (!hr) (D9 rfl T.EV (!0)) A4)))) (A5 (Ai (AI CG))) As) (A3 (AU (DW.dt (CH (By (Bb (c:=true) (Al (Ab A8.toXCall (B2 T) (-hr) rfl (A2 (Aa (!hr) (!0) A4) (A2 (!1) A7)) rfl)))) (Cg (By (Bb (c:=true) (Al (Ab A8.toXCall (B2 T) (-hr) rfl (A2 (Aa (!hr) (!0) A4) (A2 (!1) A7)) rfl))))))) (A5 (Ai (AI CG))) As) (A3 (AU (Jd (c:=true) (!hr) (Aa (!hr) (!0) A4) (Aa (!hr) (!0) A4)) (A5 (Ai (AI CG))) As) (A5 (Ai (AI (Ot (yH (Wf (Aa (!hr) (!0) A4)) (Oq (Al (Ab A8.toXCall (Jm T) (-hr) rfl (A2 (Aa (!hr) (!0) A4) A7) rfl)))) (Oq (Al (Ab A8.toXCall (Jm T) (-hr) rfl (A2 (Aa (!hr) (!0) A4) A7) rfl))))))))))),?_⟩;intro m r ok;rfl';refine B1 ?_;have i0:AJ (Bo r) (.int 0)=.ok (.int r.a):=rfl;have i1:AJ (Bo r) (.int 1)=.ok (.int r.b):=rfl;have i2:AJ (Bo r) (.int 2)=.ok (CJ r.l):=rfl;have i3:AJ (Bo r) (.int 3)=.ok (.int r.w):=rfl;have ha:=B3 r.a m ok.a0 ok.a1;have hb:=B3 r.b m ok.b0 ok.b1;have hw:=Jn r.w ok.w0 ok.w1;apply wp_step
 ·rfl
 apply wp_step
 ·simp_arith[i0,i1,ha,hb,Fi];rfl
 apply wp_step
 ·simp_arith[i0,i1,decide_eq_false ok.ab];rfl
 simp_arith[i2,i3,hw];cases q:r.l with
 |none=>rfl
 |some z =>
  have hl:=Jn z (ok.l0 z q).1 (ok.l0 z q).2;have e:CJ (some z)=.int z:=rfl;simp_arith[e,hl];rfl
abbrev Vm:=za7 JR
def Xa:FT "is_road" 3 2 Vm:=(za1 JR).1
def Xb:RM Vm:=(za1 JR).2
abbrev Vn (F:List D->M OT):Prop:=∀(m:Nat) (rs:List Road),1<=m->m<=16->rs.length<=60->(∀r∈rs,M8 m r)->F [Ad m rs]=.ok (.sh (.bl true))
def Mj:∃F,FT "is_map" 4 1 F/\Vn F:=by
 refine⟨_,λ T=>Az (k:=3) T.jM Mf _ (λ f B6 A outer s H E hr=>(A3 (AU (DW.dt (CH (By (Bb (c:=true) (Dc (Gn _) rfl T.AQ rfl T.Lz (by decide +kernel) (!0)))) (Cg (Fl (c:=true) (!hr) (D9 rfl T.EV (!0)) A4)))) (A5 (Ai (AI CG))) As) (A3 (AE 1 Mf.nd rfl (Or.inr rfl) (Aa (!hr) (!0) A4)) (A3 (AE 2 Mf.nd rfl (zax rfl) (Aa (!hr) (!0) A4)) (A3 (AU (DW.dt (CH (By (Bb (c:=true) (Al (Ab A8.toXCall (B2 T) (-hr) rfl (A2 (!1) (A2 A4 A7)) rfl)))) (Cg (Jd (c:=true) (!hr) (!1) A4)))) (A5 (Ai (AI CG))) As) (A3 (AU (DW.dt (CH (By (Bb (c:=true) (Dc (IH _) rfl T.AQ rfl T.EW (by decide +kernel) (!2)))) (Cg (yG (c:=true) (D9 rfl T.EV (!2)) A4)))) (A5 (Ai (AI CG))) As) (A5 (Ai (AI (fF rfl rfl T.rA (Al (Dd (NB:=["road","many"]) [none,some 1] rfl (AY (!2)) rfl rfl (Bz 0 (by decide) rfl rfl rfl) (λ _ _ _ _=>DM) (λ _ _ _ _=>(Al (BX (Ab (Bq rfl).toXCall (Xa T) (-hr) rfl (A2 (!0) (A2 (!1) A7)) rfl)))))))))))))))),?_⟩;intro m rs h1 h2 hl Aw;rfl';refine B1 ?_;have i0:AJ (Ad m rs) (.int 0)=.ok (.int m):=rfl;have i1:AJ (Ad m rs) (.int 1)=.ok (.lst (rs.map Bo)):=rfl;have hn:=B3 m 17 (by omega) (by omega);have hm:decide ((m:Int)=0)=false:=decide_eq_false (by omega);have b9:decide ((60:Int)<((rs.map Bo).length:Int))=false:=decide_eq_false (by rw[za2];omega);have ar:(rs.map Bo).length<=1000:=by rw[za2];omega
 apply wp_step
 ·rfl
 apply wp_step
 ·simp_arith[i0];rfl
 apply wp_step
 ·simp_arith[i1];rfl
 apply wp_step
 ·simp_arith[hn,hm,Fi];rfl
 apply wp_step
 ·simp_arith[b9,Fi];rfl
 simp_arith[if_pos ar];rw[C9 (λ _:Road=>D.bl true) (λ r hr=>⟨_,rfl,rfl,by
  have:=Xb m r (Aw r hr);simp_arith[this]⟩)]
 simp_arith[zT];rfl
abbrev YD:=za7 Mj
def bY:FT "is_map" 4 1 YD:=(za1 Mj).1
def bZ:Vn YD:=(za1 Mj).2
abbrev RN (F:List D->M OT):Prop:=∀(m:Nat) (rs:List Road),1<=m->m<=16->rs.length<=60->(∀r∈rs,M8 m r)->F [Ad m rs]=.ok (.tup [.sh (.int m),.lst ((rs.map Bo).map .sh)])
def JS:∃F,FT "checked" 5 1 F/\RN F:=by
 refine⟨_,λ T=>Az (k:=4) T.bU WV _ (λ f B6 A outer s H E hr=>(A3 (AU (By (Bb (c:=true) (Al (Ab A8.toXCall (bY T) (-hr) rfl (A2 (!0) A7) rfl)))) (A5 Wo) As) (A5 (Ai (Wr (EL (AI (Aa (!hr) (!0) A4)) (EL (Dd (NB:=["road"]) [none] rfl (AY (Aa (!hr) (!0) A4)) rfl rfl (Bz 0 (by decide) rfl rfl rfl) (λ _ _ _ _=>DM) (λ _ _ _ _=>(eV rfl T.Lz (!0)))) CL))))))),?_⟩;intro m rs h1 h2 hl Aw;rfl';have h1:=bZ m rs h1 h2 hl Aw;have n0:AJ (Ad m rs) (.int 0)=.ok (.int m):=rfl;have n1:AJ (Ad m rs) (.int 1)=.ok (.lst (rs.map Bo)):=rfl;have ar:(rs.map Bo).length<=1000:=by rw[za2];omega
 refine B1 ?_;apply wp_step
 ·simp_arith[h1,Fi];rfl
 simp_arith[n0,n1,if_pos ar];rw[C9 Bo (λ r hr=>⟨_,rfl,rfl,rfl⟩)];simp_arith[];exact⟨_,rfl,rfl⟩
abbrev Vo:=za7 JS
def Xc:FT "checked" 5 1 Vo:=(za1 JS).1
def Xd:RN Vo:=(za1 JS).2
abbrev YE (F:List D->M OT):Prop:=∀a b:Co,F [cst a,cst b]=.ok (.sh (cst (Ap a b)))
def PN:∃F,FT "added" 1 2 F/\YE F:=by
 refine⟨_,λ T=>Az (k:=0) T.pN jK _ (λ f B6 A outer s H E hr=>(A3 (AU (DW.dt (CH (Eb (c:=true) (!0)) (Cg (Eb (c:=true) (!1))))) (A5 (Ai (AI Cw))) As) (A5 (Ai (AI (AG (A2 (C7 (Aa (!hr) (!0) A4) (Aa (!hr) (!1) A4)) (A2 (C7 (Aa (!hr) (!0) A4) (Aa (!hr) (!1) A4)) A7)))))))),?_⟩;intro a b;dsimp only;rcases a with _|⟨a1,a2⟩<;>rcases b with _|⟨b1,b2⟩<;>rfl
abbrev jR:=za7 PN
def G9:FT "added" 1 2 jR:=(za1 PN).1
def Ga:YE jR:=(za1 PN).2
abbrev YF (F:List D->M OT):Prop:=∀cs:List Co,cs.length<=1000->F [.lst (cs.map cst)]=.ok (.sh (cst (Er cs)))
def PP:∃F,FT "least" 1 1 F/\YF F:=by
 refine⟨_,λ T=>Az (k:=0) T.pO jL _ (λ f B6 A outer s H E hr=>(A5 (Ai (AI (lR rfl (huR hr 1 (by decide)) rfl T.jP (Al (Dd (NB:=["cost"]) [none] rfl (AY (!0)) rfl rfl (Bz 0 (by decide) rfl rfl rfl) (λ _ _ _ _=>Ep (Gm (c:=true) (!0))) (λ _ _ _ _=>(!0)))) Cw))))),?_⟩;intro cs hc;dsimp only;have e0:∀x:D,DY ["some"] [x]=[‹x›]:=λ x=>rfl;rw[e0];refine B1 ?_;have hl:(cs.map cst).length<=1000:=by rw[za2];exact hc
 have d5:=gY cs;have yn:=nV cs;simp_arith[if_pos hl];rw[My];simp_arith[yn];rfl
abbrev PQ:=za7 PP
def LC:FT "least" 1 1 PQ:=(za1 PP).1
def LD:YF PQ:=(za1 PP).2
abbrev ML (F:List D->M OT):Prop:=∀r:Road,F [Bo r]=.ok (.sh (cst (BH r)))
def GC:∃F,FT "road_cost" 1 1 F/\ML F:=by
 refine⟨_,λ T=>Az (k:=0) T.Vf Td _ (λ f B6 A outer s H E hr=>(A3 (AU (Eb (c:=true) (Aa (!hr) (!0) A4)) (A5 (Ai (AI Cw))) As) (A5 (Ai (AI (AG (A2 (Aa (!hr) (!0) A4) (A2 A4 A7)))))))),?_⟩;intro r;dsimp only;obtain⟨a,b,l,w⟩:=r;cases l<;>rfl
abbrev PR:=za7 GC
def Eu:FT "road_cost" 1 1 PR:=(za1 GC).1
def Ew:ML PR:=(za1 GC).2
abbrev E7 (F:List D->M OT):Prop:=∀(m:Nat) (rs:List Road) (L:List Int) (A:LA) (K:List (Int×Int)) (u w:Int),0<=u->u<m->0<=w->w<m->(Au A (u,w)).isSome=true->F [AM m rs L A K,.int u,.int w]=.ok (.sh (pD (u,w)))
def Ci:∃F:List D->M OT,(∀ {P w K mg base},Txt K mg->HS P w K mg base "Ladder" "checked_arc" 2 3 F)/\E7 F:=by
 refine⟨_,λ T=>L8 (k:=1) T.Ii Dn _ (λ f B6 A outer s H E hr=>(A3 (AE 3 Dn.nd rfl (zax rfl) (Aa (!hr) (Dw ["Ladder"] (Bf T.Bx BM) (!0)) A4)) (A3 (AU (DW.dt (CH (By (Bb (c:=true) (Al (Ab A8.toXCall (B2 T) (-hr) rfl (A2 (!1) (A2 (!3) A7)) rfl)))) (CH (By (Bb (c:=true) (Al (Ab A8.toXCall (B2 T) (-hr) rfl (A2 (!2) (A2 (!3) A7)) rfl)))) (Cg (Ny (c:=true) (!hr) (AG (A2 (!1) (A2 (!2) A7))) (Dw ["Ladder"] (Bf T.Ce BM) (!0))))))) (A5 Wo) As) (A5 (Ai (AI (AG (A2 (!1) (A2 (!2) A7))))))))),?_⟩;intro m rs L A K u w u0 u1 w0 w1 hf;rfl';refine B1 ?_;have f1:N8 ["Ladder"] "own_map" (AM m rs L A K)=.ok (Ad m rs):=rfl;have f2:N8 ["Ladder"] "laid" (AM m rs L A K)=.ok (Qu A):=rfl;have n0:AJ (Ad m rs) (.int 0)=.ok (.int m):=rfl;have h1:=B3 u m u0 u1;have h2:=B3 w m w0 w1;have hp:D.tup [.int u,.int w]=pD (u,w):=rfl;have hm:=T6 A (u,w) true;rw[hf] at hm;apply wp_step
 ·simp_arith[f1,n0];rfl
 apply wp_step
 ·simp_arith[h1,h2,f2,hp,hm,Fi];rfl
 rfl
abbrev AN:=za7 Ci
def Dp:Txt K mg->HS P w K mg base "Ladder" "checked_arc" 2 3 AN:=(za1 Ci).1
def Dq:E7 AN:=(za1 Ci).2
abbrev Jo (F:List D->M OT):Prop:=∀(m:Nat) (rs:List Road) (L:List Int) (A:LA) (K:List (Int×Int)) (u w:Int) (c:Int×Int),Hn m A->Ac A (u,w)=some c->F [AM m rs L A K,.int u,.int w]=.ok (.sh (cst (some c)))
def EY:∃F:List D->M OT,(∀ {P w K mg base},Txt K mg->HS P w K mg base "Ladder" "cost" 3 3 F)/\Jo F:=by
 refine⟨_,λ T=>L8 (k:=2) T.QB Pt _ (λ f B6 A outer s H E hr=>(A5 (Ai (AI (Aa (!hr) (Aa (!hr) (Dw ["Ladder"] (Bf T.Ce BM) (!0)) (Al (J3 (k:=2) [("Ladder",AN)] A8.toXCall (Cb (by decide) (Dp T) CN) (-hr) (!0) (A2 (!1) (A2 (!2) A7)) rfl))) A4))))),?_⟩;intro m rs L A K u w c hA hc;rfl';refine B1 ?_;have f2:N8 ["Ladder"] "laid" (AM m rs L A K)=.ok (Qu A):=rfl;have hk:=hA.rg _ (ET hc);obtain⟨v,hv⟩:∃v,Au A (u,w)=some (c,v):=by
  unfold Ac at hc;cases q:Au A (u,w) with
  |none=>rw[q] at hc;cases hc
  |some z=>rw[q] at hc;obtain⟨z1,z2⟩:=z;cases hc;exact⟨z2,rfl⟩
 have h1:=Dq m rs L A K u w hk.2.1.1 hk.2.1.2 hk.2.2.1 hk.2.2.2 (by rw[hv];rfl);have hi:=Pc hv;have h0:AJ (WE (c,v)) (.int 0)=.ok (cst (some c)):=rfl;have hs:FY [("Ladder",AN)] "checked_arc" (AM m rs L A K)=.ok AN:=rfl;simp_arith[f2,hs,h1,hi,h0];rfl
abbrev B4:=za7 EY
def EZ:Txt K mg->HS P w K mg base "Ladder" "cost" 3 3 B4:=(za1 EY).1
def F0:Jo B4:=(za1 EY).2
abbrev Jp (F:List D->M OT):Prop:=∀(m:Nat) (rs:List Road) (L:List Int) (A:LA) (K:List (Int×Int)),F [AM m rs L A K]=.ok (.lst ((K.map pD).map .sh))
def F1:∃F:List D->M OT,(∀ {P w K mg base},Txt K mg->HS P w K mg base "Ladder" "kept" 1 1 F)/\Jp F:=by
 refine⟨_,λ T=>L8 (k:=0) T.QC Pu _ (λ f B6 A outer s H E hr=>(A5 (Ai (Nw rfl T.EW (Dw ["Ladder"] (Bf T.EX BM) (!0)))))),?_⟩;intro m rs L A K;dsimp only;rfl
abbrev B5:=za7 F1
def F2:Txt K mg->HS P w K mg base "Ladder" "kept" 1 1 B5:=(za1 F1).1
def F3:Jp B5:=(za1 F1).2
abbrev LF (F:List D->M OT):Prop:=∀(m:Nat) (rs:List Road) (L:List Int) (A:LA) (K:List (Int×Int)),Bc m rs L A K->F [AM m rs L A K]=.ok (ccT (Ho A K))
def FH:∃F,FT "kept_costs" 4 1 F/\LF F:=by
 refine⟨_,λ T=>Az (k:=3) T.Tg Qy _ (λ f B6 A outer s H E hr=>(A5 (Ai (UE rfl (!hr) rfl T.X8 (Al (Dd (NB:=["u","w","ladder"]) [none,none,some 0] rfl (AY (Al (FZ (k:=1) [("Ladder",B5)] A8.toXCall (Cb (by decide) (F2 T) CN) (-hr) (!0)))) rfl rfl (NC (n:=2) rfl (D2 0 (by decide) rfl rfl rfl (D2 1 (by decide) rfl rfl rfl Kr))) (λ _ _ _ _=>DM) (λ _ _ _ _=>(AG (A2 (AG (A2 (!0) (A2 (!1) A7))) (A2 (Al (BX (J3 (k:=3) [("Ladder",B4)] (Bq rfl).toXCall (Cb (by decide) (EZ T) CN) (-hr) (!2) (A2 (!0) (A2 (!1) A7)) rfl))) A7)))))))))),?_⟩;intro m rs L A K ok;rfl';refine B1 ?_;have hs:FY [("Ladder",B5)] "kept" (AM m rs L A K)=.ok B5:=rfl;have a6:FY [("Ladder",B4)] "cost" (AM m rs L A K)=.ok B4:=rfl;have hk:=F3 m rs L A K;have hl:(K.map pD).length<=1000:=by rw[za2];have:=ok.kl;omega
 have hn:((Ho A K).map zb4).Nodup:=by rw[Pd];exact ok.kn
 have hd:=iP (C:=Ho A K) hn (by simp only[Ho,za2];have:=ok.kl;omega);simp_arith[hs,hk,if_pos hl];rw[C9 (λ p=>D.tup [pD p,cst (some ((Ac A p).getD (0,0)))]) (λ p hp=>⟨_,rfl,rfl,by
  obtain⟨c,hc,_⟩:=(ok.km p).mp hp;have h1:=F0 m rs L A K p.1 p.2 c ok.zI hc;simp_arith[a6,h1];rw[hc];rfl⟩)]
 have e1:(K.map λ p=>D.tup [pD p,cst (some ((Ac A p).getD (0,0)))])=(Ho A K).map λ kv=>D.tup [pD kv.1,cst (some kv.2)]:=by
  simp only[Qv,Ho,zbm];rfl
 rw[e1];simp_arith[hd];exact⟨_,rfl,rfl⟩
abbrev MM:=za7 FH
def QE:FT "kept_costs" 4 1 MM:=(za1 FH).1
def QF:LF MM:=(za1 FH).2
abbrev En (F:List D->M OT):Prop:=∀(m:Nat) (rs:List Road) (L:List Int) (A:LA) (K:List (Int×Int)),Bc m rs L A K->F [AM m rs L A K]=.ok (ccT (Qv (Ho A K)))
def Cn:∃F,FT "kept_costs_turned" 4 1 F/\En F:=by
 refine⟨_,λ T=>Az (k:=3) T.Ja Ia _ (λ f B6 A outer s H E hr=>(A5 (Ai (UE rfl (!hr) rfl T.X8 (Al (Dd (NB:=["u","w","ladder"]) [none,none,some 0] rfl (AY (Al (FZ (k:=1) [("Ladder",B5)] A8.toXCall (Cb (by decide) (F2 T) CN) (-hr) (!0)))) rfl rfl (NC (n:=2) rfl (D2 0 (by decide) rfl rfl rfl (D2 1 (by decide) rfl rfl rfl Kr))) (λ _ _ _ _=>DM) (λ _ _ _ _=>(AG (A2 (AG (A2 (!1) (A2 (!0) A7))) (A2 (Al (BX (J3 (k:=3) [("Ladder",B4)] (Bq rfl).toXCall (Cb (by decide) (EZ T) CN) (-hr) (!2) (A2 (!0) (A2 (!1) A7)) rfl))) A7)))))))))),?_⟩;intro m rs L A K ok;rfl';refine B1 ?_;have hs:FY [("Ladder",B5)] "kept" (AM m rs L A K)=.ok B5:=rfl;have a6:FY [("Ladder",B4)] "cost" (AM m rs L A K)=.ok B4:=rfl;have hk:=F3 m rs L A K;have hl:(K.map pD).length<=1000:=by rw[za2];have:=ok.kl;omega
 have hn:((Ho A K).map zb4).Nodup:=by rw[Pd];exact ok.kn
 have hd:=iP (C:=Qv (Ho A K)) (ZO hn) (by unfold Qv;simp only[Ho,za2];have:=ok.kl;omega);simp_arith[hs,hk,if_pos hl];rw[C9 (λ p=>D.tup [pD (p.2,p.1),cst (some ((Ac A p).getD (0,0)))]) (λ p hp=>⟨_,rfl,rfl,by
  obtain⟨c,hc,_⟩:=(ok.km p).mp hp;have h1:=F0 m rs L A K p.1 p.2 c ok.zI hc;simp_arith[a6,h1];rw[hc];rfl⟩)]
 have e1:(K.map λ p=>D.tup [pD (p.2,p.1),cst (some ((Ac A p).getD (0,0)))])=(Qv (Ho A K)).map λ kv=>D.tup [pD kv.1,cst (some kv.2)]:=by
  simp only[Qv,Ho,zbm];rfl
 rw[e1];simp_arith[hd];exact⟨_,rfl,rfl⟩
abbrev F4:=za7 Cn
def E8:FT "kept_costs_turned" 4 1 F4:=(za1 Cn).1
def E9:En F4:=(za1 Cn).2
abbrev RO (F:List D->M OT):Prop:=∀(m:Nat) (L:List Int) (C:CA) (s:Int),m<=20->L.Perm (Bw m)->s∈L->(∀p c,Au C p=some c->p.1∈L/\p.2∈L)->∃R:RA,F [.lst (L.map D.int),TB C,.int s]=.ok (WJ R)/\Qh L C s L.length R
def JT:∃F,FT "climbed" 2 3 F/\RO F:=by
 refine⟨_,λ T=>Az (k:=1) T.bV DD _ (λ f B6 A outer s H E hr=>(A3 (BF 3 DD.nd rfl (zax rfl) (gM (!2) (AG (A2 A4 (A2 A4 A7))))) (A3 (Bp A8.toXCall.own rfl (Nr rfl T.Fu (!0)) (JG (n:=2) rfl (B0 (Av 4 DD.nd rfl (zax rfl)) (B0 (Av 5 DD.nd rfl (zax rfl)) Gp))) (A5 (AU (HH (M5 (c:=true) (!hr) (!5) (!3))) (A5 (Bp A8.toXCall.own rfl (AY (Al (ON (!0) (Nq (C7 (!4) A4)) XH))) (Av 6 DD.nd rfl (zax rfl)) (A5 (AU (M5 (c:=true) (!hr) (AG (A2 (!5) (A2 (!6) A7))) (!1)) (A3 (AE 7 DD.nd rfl (zax rfl) (Al (Ec (Ab A8.toXCall (G9 T) (-hr) rfl (A2 (Aa (!hr) (!3) (!5)) (A2 (Aa (!hr) (!1) (AG (A2 (!5) (A2 (!6) A7)))) A7)) rfl)))) (A5 (NA (!hr) (Bs 3 (pv 3)) (!6) (Al (Ec (Ab A8.toXCall (LC T) (-hr) rfl (A2 (Hy (A2 (OU (!hr) (!3) (!6)) (A2 (!7) A7))) A7) rfl)))))) As)))) As))) (A5 (CM 3 (pv 3)))))),?_⟩;intro m L C s hm hL hs hC;have hn:=Gy hL;have hlen:=HX hL;rfl';refine (λ h:∃t,_/\∃R:RA,t=WJ R/\Qh L C s L.length R=>by
  obtain⟨t,h1,R,rfl,h2⟩:=h;exact⟨R,h1,h2⟩) (Kt ?_)
 refine wp_step (ρ':=[‹.lst (L.map D.int)›,‹TB C›,‹.int s›,some (.ow (.tree none (WJ [(s,(0,0))]))),none,none,none,none]) (by rfl) ?_;refine BA (I:=λ ρ=>∃(R:RA) (s4 s5 s6 s7:Option Cl),ρ=[‹.lst (L.map D.int)›,‹TB C›,‹.int s›,some (.ow (.tree none (WJ R))),s4,s5,s6,s7]/\Qh L C s L.length R) ?_ ?_
 ·simp_arith[];refine Bt (λ i ρ=>i<=L.length/\∃(R:RA) (s4 s5 s6 s7:Option Cl),ρ=[‹.lst (L.map D.int)›,‹TB C›,‹.int s›,some (.ow (.tree none (WJ R))),s4,s5,s6,s7]/\Qh L C s i R) ⟨zbb _,_,none,none,none,none,rfl,Qh.start hs⟩ ?_ ?_
  ·rintro i d ρ hd ⟨hi,R,s4,s5,s6,s7,rfl,hR⟩;obtain⟨d',aB,rfl⟩:=FV hd;obtain⟨x,hx,rfl⟩:=BB aB;have ag:=(zah.mp hx).1;rw[Nat.zero_add];refine⟨_,rfl,?_⟩;have d6:=iM R x false;have tj:=Pe hn hx;cases q:Au R x with
   |none =>
    rw[q] at d6;refine B7 (ρ':=_) (by simp_arith[d6];rfl) ⟨ag,R,_,_,_,_,rfl,hR.skip hx hn q⟩
   |some c0 =>
    rw[q] at d6;have sl:mP (some ((i:Int)+1)) none (.lst (L.map D.int))=.ok (.lst (((L.drop (i+1)).map D.int).map .sh)):=by rw[List.map_drop];exact Uw _ (i+1)
    simp_arith[d6,sl,if_true,Option.isSome_some,zb0,if_false];refine Bt (λ j ρ=>j<=(L.drop (i+1)).length/\∃(R':RA) (s6 s7:Option Cl),ρ=[‹.lst (L.map D.int)›,‹TB C›,‹.int s›,some (.ow (.tree none (WJ R'))),‹.int i›,‹.int x›,s6,s7]/\qR L C s i x c0 ((L.drop (i+1)).take j) R R') ⟨zbb _,R,s6,s7,rfl,hR.nd,hR.rg,hR.sd,λ y=>BY _,λ y _=>rfl,λ y hy=>by rw[zd9] at hy;cases hy⟩ ?_ ?_
    ·rintro j d ρ hd ⟨hj,R',s6,s7,rfl,hI⟩;obtain⟨y,hy,rfl⟩:=BB hd;have ko:=(zah.mp hy).1;have nh:=zai hy;have yo:y∈L:=List.mem_of_mem_drop nh;have f8:i<Ca L y:=Ym hn nh;have et:(L.drop (i+1)).take (j+1)=(L.drop (i+1)).take j++[y]:=by rw[zbt,hy];rfl
     refine⟨_,rfl,?_⟩;rw[et];have t1:∀a b:Int,D.tup [.int a,.int b]=pD (a,b):=λ a b=>rfl;have nr:=uS C (x,y) false;cases q2:Au C (x,y) with
     |none =>
      rw[q2] at nr;refine B7 (ρ':=_) (by simp_arith[t1,nr];rfl) ⟨ko,R',_,_,rfl,hI.skip q2⟩
     |some dd =>
      rw[q2] at nr;have aE:Au R' x=some c0:=by rw[hI.sm x (by omega)];exact q
      have i1:=WK aE;have i2:=uT q2;have h1:=Ga (some c0) (some dd);have g1:=iN R' y;obtain⟨v,hv⟩:∃v,De (Au R' y) (some (c0.1+dd.1,c0.2+dd.2))=some v:=by
       cases Au R' y with
       |none|some z=>exact⟨_,rfl⟩
      have h2:PQ [.lst [cst (Au R' y),cst (some (c0.1+dd.1,c0.2+dd.2))]]=.ok (.sh (cst (De (Au R' y) (some (c0.1+dd.1,c0.2+dd.2))))):=LD [Au R' y,some (c0.1+dd.1,c0.2+dd.2)] (by simp);rw[hv] at h2;have a8:=hI.put yo f8 tj q q2 hv;have hl:(R'.map λ kv=>D.int kv.1).length<1000:=by
       have:=G1 hI.nd hI.rg;rw[za2] at this ⊢;omega
      have i8:∀z:Int,keyOk false (.int z)=true:=λ z=>rfl;have ha:Ap (some c0) (some dd)=some (c0.1+dd.1,c0.2+dd.2):=rfl;rw[ha] at h1;simp_arith[t1,nr,if_true,Option.isSome_some,zb0,if_false];apply wp_step
      ·simp_arith[t1,i1,i2,h1];rfl
      refine B7 (ρ':=[‹.lst (L.map D.int)›,‹TB C›,‹.int s›,some (.ow (.tree none (WJ (Dz R' y v)))),‹.int i›,‹.int x›,‹.int y›,‹cst (some (c0.1+dd.1,c0.2+dd.2))›]) (by
       simp_arith[g1,h2,i8,hl,and_self,if_true,uV];rfl) ⟨ko,_,_,_,rfl,a8⟩
    ·rintro ρ ⟨_,R',s6,s7,rfl,hI⟩;rw[za2,zbs] at hI;exact⟨ag,R',_,_,s6,s7,rfl,hR.go (λ p c h=>(hC p c h).2) hx hn q hI⟩
  ·rintro ρ ⟨_,R,s4,s5,s6,s7,rfl,hR⟩;rw[CW,za2] at hR;exact⟨R,s4,s5,s6,s7,rfl,hR⟩
 ·rintro ρ ⟨R,s4,s5,s6,s7,rfl,hR⟩;exact⟨_,rfl,R,rfl,hR⟩
abbrev Vp:=za7 JT
def JU:FT "climbed" 2 3 Vp:=(za1 JT).1
def JV:RO Vp:=(za1 JT).2
abbrev Ij (F:List D->M OT):Prop:=∀(m:Nat) (rs:List Road) (L:List Int) (A:LA) (K:List (Int×Int)),F [AM m rs L A K]=.ok (.lst ((L.map D.int).map .sh))
def Ee:∃F:List D->M OT,(∀ {P w K mg base},Txt K mg->HS P w K mg base "Ladder" "order" 1 1 F)/\Ij F:=by
 refine⟨_,λ T=>L8 (k:=0) T.PM Nd _ (λ f B6 A outer s H E hr=>(A5 (Ai (Nw rfl T.EW (Dw ["Ladder"] (Bf T.CQ BM) (!0)))))),?_⟩;intro m rs L A K;dsimp only;rfl
abbrev AX:=za7 Ee
def Ef:Txt K mg->HS P w K mg base "Ladder" "order" 1 1 AX:=(za1 Ee).1
def Eg:Ij AX:=(za1 Ee).2
abbrev Ik (F:List D->M OT):Prop:=∀(m:Nat) (rs:List Road) (L:List Int) (A:LA) (K:List (Int×Int)) (s:Nat),Bc m rs L A K->s<m->∃R:RA,F [AM m rs L A K,.int s]=.ok (WJ R)/\Qh L (Ho A K) s L.length R
def Eh:∃F,FT "climbed_from" 5 2 F/\Ik F:=by
 refine⟨_,λ T=>Az (k:=4) T.PF Nb _ (λ f B6 A outer s H E hr=>(A5 (Ai (Ab A8.toXCall (JU T) (-hr) rfl (A2 (Al (FZ (k:=1) [("Ladder",AX)] A8.toXCall (Cb (by decide) (Ef T) CN) (-hr) (!0))) (A2 (Al (Ab A8.toXCall (QE T) (-hr) rfl (A2 (!0) A7) rfl)) (A2 (!1) A7))) rfl)))),?_⟩;intro m rs L A K s ok hs;have hm:=ok.m2;rfl';have h1:=QF m rs L A K ok;have h2:=Eg m rs L A K;have c5:FY [("Ladder",AX)] "order" (AM m rs L A K)=.ok AX:=rfl;have kr:(s:Int)∈L:=(Ba ok.pm).mpr ⟨by omega,by omega⟩;obtain⟨R,hF,hR⟩:=JV m L (Ho A K) s (by omega) ok.pm kr ok.vF;refine⟨R,B1 ?_,hR⟩;simp_arith[c5,h2,h1,hF];exact⟨_,rfl,rfl⟩
abbrev FI:=za7 Eh
def Nh:FT "climbed_from" 5 2 FI:=(za1 Eh).1
def Ni:Ik FI:=(za1 Eh).2
abbrev Jq (F:List D->M OT):Prop:=∀(m:Nat) (rs:List Road) (L:List Int) (A:LA) (K:List (Int×Int)) (s:Nat),Bc m rs L A K->s<m->∃R:RA,F [AM m rs L A K,.int s]=.ok (WJ R)/\Qh L (Qv (Ho A K)) s L.length R
def F5:∃F,FT "climbing_to" 5 2 F/\Jq F:=by
 refine⟨_,λ T=>Az (k:=4) T.Qz Pm _ (λ f B6 A outer s H E hr=>(A5 (Ai (Ab A8.toXCall (JU T) (-hr) rfl (A2 (Al (FZ (k:=1) [("Ladder",AX)] A8.toXCall (Cb (by decide) (Ef T) CN) (-hr) (!0))) (A2 (Al (Ab A8.toXCall (E8 T) (-hr) rfl (A2 (!0) A7) rfl)) (A2 (!1) A7))) rfl)))),?_⟩;intro m rs L A K s ok hs;have hm:=ok.m2;rfl';have h1:=E9 m rs L A K ok;have h2:=Eg m rs L A K;have c5:FY [("Ladder",AX)] "order" (AM m rs L A K)=.ok AX:=rfl;have kr:(s:Int)∈L:=(Ba ok.pm).mpr ⟨by omega,by omega⟩;obtain⟨R,hF,hR⟩:=JV m L (Qv (Ho A K)) s (by omega) ok.pm kr ok.zR;refine⟨R,B1 ?_,hR⟩;simp_arith[c5,h2,h1,hF];exact⟨_,rfl,rfl⟩
abbrev GD:=za7 F5
def PV:FT "climbing_to" 5 2 GD:=(za1 F5).1
def PX:Jq GD:=(za1 F5).2
abbrev Il (F:List D->M OT):Prop:=∀(m:Nat) (rs:List Road) (L:List Int) (A:LA) (K:List (Int×Int)) (s g:Nat) (R1 R2:RA),Bc m rs L A K->(FI) [AM m rs L A K,.int s]=.ok (WJ R1)->(GD) [AM m rs L A K,.int g]=.ok (WJ R2)->(R1.map zb4).Nodup->R1.length<=900->F [AM m rs L A K,.int s,.int g]=.ok (WJ (CK R1 R2))
def Ei:∃F,FT "sums_at_tops" 6 3 F/\Il F:=by
 refine⟨_,λ T=>Az (k:=5) T.PH Ed _ (λ f B6 A outer s H E hr=>(A3 (AE 3 Ed.nd rfl (Or.inr rfl) (Al (Ab A8.toXCall (Nh T) (-hr) rfl (A2 (!0) (A2 (!1) A7)) rfl))) (A3 (AE 4 Ed.nd rfl (Or.inr rfl) (Al (Ab A8.toXCall (PV T) (-hr) rfl (A2 (!0) (A2 (!2) A7)) rfl))) (A5 (Ai (jC rfl rfl T.X8 (Al (iX (NB:=["place","ahead","behind"]) [none,some 3,some 4] rfl (oW (!3)) rfl rfl (Bz 0 (by decide) rfl rfl rfl) (λ _ _ _ _=>Ep (M5 (c:=true) (!hr) (!0) (!2))) (λ _ _ _ _=>(AG (A2 (!0) (A2 (Al (BX (Ab (Bq rfl).toXCall (G9 T) (-hr) rfl (A2 (Aa (!hr) (!1) (!0)) (A2 (Aa (!hr) (!2) (!0)) A7)) rfl))) A7)))))))))))),?_⟩;intro m rs L A K s g R1 R2 ok db t7 hn hl;rfl';refine B1 ?_;apply wp_step
 ·simp_arith[db];rfl
 try simp only[zak,zaf]
 apply wp_step
 ·simp_arith[t7];rfl
 try simp only[zak,zaf]
 have ar:(R1.map λ kv=>D.int kv.1).length<=1000:=by rw[za2];omega
 simp_arith[pC,if_pos ar];rw[BR (λ kv:Int×(Int×Int)=>(Au R2 kv.1).isSome) (λ kv=>D.tup [.int kv.1,cst (Ap (some kv.2) (Au R2 kv.1))]) (λ kv ke=>⟨_,rfl,by
  have h1:=iM R2 kv.1 false;simp_arith[h1];try rfl,λ hp=>by
  have f1:Au R1 kv.1=some kv.2:=SU hn ke;obtain⟨c,hc⟩:=zbx.mp hp;have i1:=WK f1;have i2:=WK hc;have ii:=Ga (some kv.2) (some c);rw[hc];simp_arith[i1,i2,ii];try rfl⟩)]
 rw[RD];have hd:=vH (C:=CK R1 R2) ((DC R2 R1).nodup hn) (by
  have:=(DC R2 R1).length_le;rw[za2,za2] at this;omega)
 simp_arith[hd];exact⟨_,rfl,rfl⟩
abbrev Jr:=za7 Ei
def Nj:FT "sums_at_tops" 6 3 Jr:=(za1 Ei).1
def Nk:Il Jr:=(za1 Ei).2
abbrev YG (F:List D->M OT):Prop:=∀(m:Nat) (L:List Int) (C:CA) (s:Int),m<=20->L.Perm (Bw m)->s∈L->(∀p c,Au C p=some c->p.1∈L/\p.2∈L)->∃(R:RA) (T:List Co),F [.lst (L.map D.int),TB C,.int s]=.ok (.lst ((T.map cst).map .sh))/\Qh L C s L.length R/\kA m L C s R L.reverse T
def PY:∃F,FT "swept" 3 3 F/\YG F:=by
 refine⟨_,λ T=>Az (k:=2) T.pQ G6 _ (λ f B6 A outer s H E hr=>(A3 (AE 3 G6.nd rfl (zax rfl) (Al (Ab A8.toXCall (JU T) (-hr) rfl (A2 (!0) (A2 (!1) (A2 (!2) A7))) rfl))) (A3 (BF 4 G6.nd rfl (Or.inr rfl) (SI Cw (D9 rfl T.EV (!0)))) (A3 (BF 5 G6.nd rfl (zax rfl) (Gq CL)) (A3 (Bp A8.toXCall.own rfl (uG rfl T.X9 (!0)) (Av 6 G6.nd rfl (Or.inr rfl)) (A3 (fQ (NB:=["high","told","costs","lower"]) 7 [none,some 4,some 1,some 6] G6.nd rfl (zax rfl) rfl (AY (!5)) rfl rfl (Bz 0 (by decide) rfl rfl rfl) (λ _ _ _ _=>DM) (λ _ _ _ _=>(Al (BX (Ab (Bq rfl).toXCall (G9 T) (-hr) rfl (A2 (Aa (!hr) (!1) (!0)) (A2 (OU (!hr) (!2) (AG (A2 (!0) (A2 (!3) A7)))) A7)) rfl))))) (A3 (OA 4 (pv 4) (Al (Ec (Ab A8.toXCall (LC T) (-hr) rfl (A2 (Al (SE (Hy (A2 (OU (!hr) (!3) (!6)) A7)) (!7))) A7) rfl))) (!6)) (A5 (II 5 (pv 5) (!6)))))) (A5 (CM 4 (pv 4)))))))),?_⟩;intro m L C s hm hL hs hC;have hn:=Gy hL;have hlen:=HX hL;obtain⟨R,hF,hR⟩:=JV m L C s hm hL hs hC;rfl';refine (λ h:∃t,_/\∃T:List Co,t=.lst ((T.map cst).map .sh)/\kA m L C s R L.reverse T=>by
  obtain⟨t,h1,T,rfl,h2⟩:=h;exact⟨R,T,h1,hR,h2⟩) (Kt ?_)
 have nu:((L.map D.int).length:Int)=(m:Int):=by rw[za2,hlen]
 have aR:=L7 (d:=.AL) (n:=m) (by omega);have c6:zae m D.AL=(zae m (none:Co)).map cst:=by rw[List.map_replicate];rfl
 rw[c6] at aR;apply wp_step
 ·simp_arith[hF];rfl
 try simp only[zak,zaf]
 apply wp_step
 ·simp_arith[nu,aR];rfl
 try simp only[zak,zaf]
 apply wp_step
 ·rfl
 try simp only[zak,zaf]
 refine BA (I:=λ ρ=>∃(T:List Co) (s5 s6 s7:Option Cl),ρ=[‹.lst (L.map D.int)›,‹TB C›,‹.int s›,‹ZN R›,some (.own (T.map cst)),s5,s6,s7]/\kA m L C s R L.reverse T) ?_ ?_
 ·have ij:(L.map D.int).reverse=L.reverse.map D.int:=by rw[List.map_reverse]
  simp_arith[ij];refine Bt (λ i ρ=>i<=L.reverse.length/\∃(T:List Co) (s6 s7:Option Cl),ρ=[‹.lst (L.map D.int)›,‹TB C›,‹.int s›,‹ZN R›,some (.own (T.map cst)),some (.own ((L.reverse.take i).map D.int)),s6,s7]/\kA m L C s R (L.reverse.take i) T) ⟨zbb _,_,none,none,rfl,kA.start⟩ ?_ ?_
  ·rintro i d ρ hd ⟨hi,T,s6,s7,rfl,hT⟩;obtain⟨y,hy,rfl⟩:=BB hd;have ag:=(zah.mp hy).1;have f8:=(Ba hL).mp (List.mem_reverse.mp (zai hy));have et:L.reverse.take (i+1)=L.reverse.take i++[y]:=by rw[zbt,hy];rfl
   rw[zbq] at ag;have yp:L[L.length-1-i]?=some y:=by rw[List.getElem?_reverse ag] at hy;exact hy
   have hrk:=Pe hn yp;have t8:∀x∈L.reverse.take i,(0<=x/\x<m)/\Ca L y<Ca L x:=λ x hx=>by
    have yq:=List.mem_reverse.mp (zc7 hx);refine⟨(Ba hL).mp yq,?_⟩;rw[List.take_reverse,List.mem_reverse] at hx;have:=Ym hn hx;omega
   have tz:y∉L.reverse.take i:=λ hx=>by have:=(t8 y hx).2;omega
   have c7:=hT.len;refine⟨_,rfl,?_⟩;have b9:((L.reverse.take i).map D.int).length<=1000:=by rw[za2,zbz,zbq];omega
   have t1:∀a b:Int,D.tup [.int a,.int b]=pD (a,b):=λ a b=>rfl;have g1:=iN R y;obtain⟨vs,aA⟩:∃vs:List Co,vs=(L.reverse.take i).map λ x=>Ap (atC T x) (Au C (x,y)):=⟨_,rfl⟩;apply wp_step
   ·simp_arith[if_pos b9];rw[C9 (λ x=>cst (Ap (atC T x) (Au C (x,y)))) (λ x hx=>⟨_,rfl,rfl,by
     have np:=(t8 x hx).1;have x1:AJ (.lst (T.map cst)) (.int x)=.ok (cst (atC T x)):=BZ np.1 (by rw[c7];exact np.2);have g2:=uU C (x,y);have h1:=Ga (atC T x) (Au C (x,y));simp_arith[t1,x1,g2,h1]⟩)]
    have ev:(L.reverse.take i).map (λ x=>cst (Ap (atC T x) (Au C (x,y))))=vs.map cst:=by rw[aA,zbm];rfl
    rw[ev];have dv:=iS vs;simp_arith[dv];rfl
   try simp only[zak,zaf]
   have hpl:OI (.lst [cst (Au R y)]) (.lst (vs.map cst))=.ok (.lst (((Au R y::vs).map cst).map .sh)):=SQ (by rw[aA,za2,za2,zbz,zbq,zba];omega);have h3:=LD (Au R y::vs) (by rw[aA,za8,za2,zbz,zbq];omega);have a8:=Le (i:=4) (ρ:=[‹.lst (L.map D.int)›,‹TB C›,‹.int s›,‹ZN R›,some (.own (T.map cst)),some (.own ((L.reverse.take i).map D.int)),‹.int y›,some (.own (vs.map cst))]) (d:=cst (Er (Au R y::vs))) (p:=y) rfl f8.1 (by rw[za2,c7];exact f8.2);have aZ:(T.map cst).set y.toNat (cst (Er (Au R y::vs)))=(T.set y.toNat (Er (Au R y::vs))).map cst:=by rw[List.map_set]
   rw[aZ] at a8;apply wp_step
   ·simp_arith[g1,hpl,h3,a8];rfl
   try simp only[zak,zaf]
   have yr:((L.reverse.take i).map D.int).length<1000:=by rw[za2,zbz,zbq];omega
   refine B7 (ρ':=[‹.lst (L.map D.int)›,‹TB C›,‹.int s›,‹ZN R›,some (.own ((T.set y.toNat (Er (Au R y::vs))).map cst)),some (.own ((L.reverse.take (i+1)).map D.int)),‹.int y›,some (.own (vs.map cst))]) (by simp_arith[if_pos yr,et,zb3,za5,zcy]) ⟨by rw[zbq];exact ag,_,_,_,rfl,?_⟩;rw[et,aA];exact hT.step hR.sd f8.1 f8.2 tz t8
  ·rintro ρ ⟨_,T,s6,s7,rfl,hT⟩;rw[za2,zbs] at hT;exact⟨T,_,s6,s7,rfl,hT⟩
 ·rintro ρ ⟨T,s5,s6,s7,rfl,hT⟩;exact⟨_,rfl,T,rfl,hT⟩
abbrev jS:=za7 PY
def jT:FT "swept" 3 3 jS:=(za1 PY).1
def jU:YG jS:=(za1 PY).2
abbrev LG (F:List D->M OT):Prop:=∀(m s:Nat) (rs:List Road),s<m->m<=900->(∀r∈rs,GZ m r)->∃cs:List Co,Right m s rs cs/\F [Ad m rs,.int s]=.ok (.lst ((cs.map cst).map .sh))
def FJ:∃F,FT "costs_from" 2 2 F/\LG F:=by
 refine⟨_,λ T=>Az (k:=1) T.Ti BS _ (λ f B6 A outer s H E hr=>(A3 (BF 2 BS.nd rfl (zax rfl) (SI Cw (Aa (!hr) (!0) A4))) (A3 (OA 2 (pv 2) (AG (A2 A4 (A2 A4 A7))) (!1)) (A3 (AE 3 BS.nd rfl (zax rfl) CG) (A3 (Kg A8.toXCall.own (Bb (c:=true) (!3)) (A3 (AE 3 BS.nd rfl (zax rfl) CG) (A5 (Bp A8.toXCall.own rfl (AY (Aa (!hr) (!0) A4)) (Av 4 BS.nd rfl (zax rfl)) (A3 (AE 5 BS.nd rfl (zax rfl) (Al (Ec (Ab A8.toXCall (LC T) (-hr) rfl (A2 (Hy (A2 (Aa (!hr) (!2) (Aa (!hr) (!4) A4)) (A2 (Al (Ab A8.toXCall (G9 T) (-hr) rfl (A2 (Aa (!hr) (!2) (Aa (!hr) (!4) A4)) (A2 (Al (Ab A8.toXCall (Eu T) (-hr) rfl (A2 (!4) A7) rfl)) A7)) rfl)) A7))) A7) rfl)))) (A5 (AU (HH (Fl (c:=true) (!hr) (!5) (Aa (!hr) (!2) (Aa (!hr) (!4) A4)))) (A3 (OA 2 (pv 2) (!5) (Aa (!hr) (!4) A4)) (A5 (AE 3 BS.nd rfl (zax rfl) CG))) As))))))) (A5 (CM 2 (pv 2)))))))),?_⟩;intro m s rs hs hm Aw;rfl';refine (λ h:∃t,_/\∃cs:List Co,Right m s rs cs/\t=.lst ((cs.map cst).map .sh)=>by
  obtain⟨t,h1,cs,h2,rfl⟩:=h;exact⟨cs,h2,h1⟩) (Kt ?_)
 have n0:AJ (Ad m rs) (.int 0)=.ok (.int m):=rfl;have n1:AJ (Ad m rs) (.int 1)=.ok (.lst (rs.map Bo)):=rfl;have aR:=L7 (d:=.AL) (n:=m) (by omega);have c6:zae m D.AL=(zae m (none:Co)).map cst:=by rw[List.map_replicate];rfl
 rw[c6] at aR;apply wp_step
 ·simp_arith[n0,aR];rfl
 try simp only[zak,zaf]
 have a8:=Le (i:=2) (ρ:=[‹Ad m rs›,‹.int s›,some (.own ((zae m (none:Co)).map cst)),none,none,none]) (d:=.tup [.int 0,.int 0]) (p:=(s:Int)) rfl (by omega) (by rw[za2,zcz];omega);have aZ:((zae m (none:Co)).map cst).set (s:Int).toNat (.tup [.int 0,.int 0])=((zae m none).set s (some (0,0))).map cst:=by rw[zbh,List.map_set];rfl
 rw[aZ] at a8;apply wp_step
 ·simp_arith[a8];rfl
 try simp only[zak,zaf]
 apply wp_step
 ·rfl
 try simp only[zak,zaf]
 refine BA (I:=λ ρ=>∃(cs:List Co) (s3 s4 s5:Option Cl),ρ=[‹Ad m rs›,‹.int s›,some (.own (cs.map cst)),s3,s4,s5]/\Right m s rs cs) ?_ ?_
 ·refine Ks (lt:=Rcb) (λ z ρ=>∃(s4 s5:Option Cl),ρ=[‹Ad m rs›,‹.int s›,some (.own (z.1.map cst)),‹.bl z.2›,s4,s5]/\Good m s rs z.1/\(z.2=false->Right m s rs z.1)) (uX _) ⟨none,none,rfl,OX rs hs,λ e=>by cases e⟩ ?_;rintro ⟨cs,b⟩ ρ ⟨s4,s5,rfl,g,hR⟩;cases b with
  |false=>exact .inl ⟨rfl,cs,_,s4,s5,rfl,hR rfl⟩
  |true =>
   refine .inr ⟨rfl,?_⟩;apply wp_step
   ·rfl
   try simp only[zak,zaf]
   simp_arith[n1];refine Bt (λ i ρ=>∃(ay:List Co) (ch:Bool) (s4 s5:Option Cl),ρ=[‹Ad m rs›,‹.int s›,some (.own (ay.map cst)),‹.bl ch›,s4,s5]/\Good m s rs ay/\(ch=true->Qf ltN ay cs)/\(ch=false->ay=cs/\∀r∈rs.take i,De (atC cs r.b) (Ap (atC cs r.a) (BH r))=atC cs r.b)) ⟨cs,false,s4,s5,rfl,g,(λ h=>by cases h),λ _=>⟨rfl,λ r hr=>by rw[zd9] at hr;cases hr⟩⟩ ?_ ?_
   ·rintro i d ρ hd ⟨ay,ch,s4,s5,rfl,g1,h1,h2⟩;obtain⟨r,hq,rfl⟩:=BB hd;have hr:=zai hq;have ok:=Aw r hr;obtain⟨g2,_,g4,g5⟩:=Zx g1 hr Aw;have d4:r.b<ay.length:=by rw[g1.len];exact ok.b1
    have nq:r.a<ay.length:=by rw[g1.len];exact ok.a1
    have r0:AJ (Bo r) (.int 0)=.ok (.int r.a):=rfl;have r1:AJ (Bo r) (.int 1)=.ok (.int r.b):=rfl;have x0:AJ (.lst (ay.map cst)) (.int r.a)=.ok (cst (atC ay r.a)):=BZ ok.a0 nq;have x1:AJ (.lst (ay.map cst)) (.int r.b)=.ok (cst (atC ay r.b)):=BZ ok.b0 d4;have t9:=Ew r;have ii:=Ga (atC ay r.a) (BH r);have hle:PQ [.lst [cst (atC ay r.b),cst (Ap (atC ay r.a) (BH r))]]=.ok (.sh (cst (De (atC ay r.b) (Ap (atC ay r.a) (BH r))))):=LD [atC ay r.b,Ap (atC ay r.a) (BH r)] (by simp);have ae:=nX (De (atC ay r.b) (Ap (atC ay r.a) (BH r))) (atC ay r.b);refine⟨_,rfl,?_⟩;apply wp_step
    ·simp_arith[r0,r1,x0,x1,t9,ii,hle];rfl
    try simp only[zak,zaf]
    by_cases hc:De (atC ay r.b) (Ap (atC ay r.a) (BH r))=atC ay r.b
    ·rw[decide_eq_true hc] at ae;refine B7 (ρ':=_) (by simp_arith[r1,x1,ae];rfl) ⟨ay,ch,_,_,rfl,g1,h1,λ hf=>?_⟩;obtain⟨e1,e2⟩:=h2 hf;subst e1;refine⟨rfl,λ r' aL=>?_⟩;rw[zbt,hq] at aL;rcases zao.mp aL with aL|aL
     ·exact e2 r' aL
     ·have:r'=r:=by simpa using aL
      rw[this];exact hc
    ·rw[decide_eq_false hc] at ae;have a8:=Le (i:=2) (ρ:=[‹Ad m rs›,‹.int s›,some (.own (ay.map cst)),‹.bl ch›,‹Bo r›,‹cst (De (atC ay r.b) (Ap (atC ay r.a) (BH r)))›]) (d:=cst (De (atC ay r.b) (Ap (atC ay r.a) (BH r)))) (p:=r.b) rfl ok.b0 (by rw[za2];exact d4);have aZ:(ay.map cst).set r.b.toNat (cst (De (atC ay r.b) (Ap (atC ay r.a) (BH r))))=(Dx r ay).map cst:=by unfold Dx;rw[List.map_set]
     rw[aZ] at a8;simp_arith[r1,x1,ae,if_true];apply wp_step
     ·simp_arith[r1,a8];rfl
     refine B7 (ρ':=_) rfl ⟨Dx r ay,true,_,_,rfl,g2,λ _=>?_,λ hf=>by cases hf⟩;cases ch with
     |false=>obtain⟨e1,_⟩:=h2 rfl;subst e1;exact g5 hc
     |true=>exact Qf.trans ltN Zv (g5 hc) (h1 rfl)
   ·rintro ρ' ⟨ay,ch,s4,s5,rfl,g1,h1,h2⟩;cases ch with
    |true=>exact⟨(ay,true),⟨rfl,.inr ⟨rfl,h1 rfl⟩⟩,s4,s5,rfl,g1,λ e=>by cases e⟩
    |false =>
     obtain⟨e1,e2⟩:=h2 rfl;subst e1;rw[za2,zbs] at e2;exact⟨(ay,false),⟨rfl,.inl rfl⟩,s4,s5,rfl,g1,λ _=>right_of g1 e2⟩
 ·rintro ρ' ⟨cs,s3,s4,s5,rfl,hR⟩;exact⟨_,rfl,cs,hR,rfl⟩
abbrev MN:=za7 FJ
def QG:FT "costs_from" 2 2 MN:=(za1 FJ).1
def Js:LG MN:=(za1 FJ).2
abbrev PZ (F:List D->M OT):Prop:=∀(m:Nat) (rs:List Road) (L:List Int) (A:LA) (K:List (Int×Int)) (s:Nat),Bc m rs L A K->s<m->∃T:List Co,F [AM m rs L A K,.int s]=.ok (.lst ((T.map cst).map .sh))/\T.length=m/\∀w:Int,0<=w->w<m->Bg rs w s (atC T w)
def Im:∃F,FT "costs_in" 5 2 F/\PZ F:=by
 refine⟨_,λ T=>Az (k:=4) T.WY V9 _ (λ f B6 A outer s H E hr=>(A5 (Ai (Ab A8.toXCall (jT T) (-hr) rfl (A2 (Al (FZ (k:=1) [("Ladder",AX)] A8.toXCall (Cb (by decide) (Ef T) CN) (-hr) (!0))) (A2 (Al (Ab A8.toXCall (E8 T) (-hr) rfl (A2 (!0) A7) rfl)) (A2 (!1) A7))) rfl)))),?_⟩;intro m rs L A K s ok hs;have hm:=ok.m2;rfl';have h1:=E9 m rs L A K ok;have h2:=Eg m rs L A K;have c5:FY [("Ladder",AX)] "order" (AM m rs L A K)=.ok AX:=rfl;have kr:(s:Int)∈L:=(Ba ok.pm).mpr ⟨by omega,by omega⟩;have d8:∀p c,Au (Ho A K) p=some c->p.1∈L/\p.2∈L:=λ p c h=>by
  have hm:=Pb h;unfold Ho at hm;obtain⟨q,hq,e⟩:=zaq.mp hm;cases e;have:=ok.YL hq;exact⟨(Ba ok.pm).mpr this.2.1,(Ba ok.pm).mpr this.2.2⟩
 have hC:∀p c,Au (Qv (Ho A K)) p=some c->p.1∈L/\p.2∈L:=λ p c h=>by
  rw[show p=(p.1,p.2) from rfl,Lj] at h;have:=d8 _ _ h;exact⟨this.2,this.1⟩
 obtain⟨R,T,hF,hR,hT⟩:=jU m L (Qv (Ho A K)) s (by omega) ok.pm kr hC;refine⟨T,B1 ?_,hT.len,λ w h0 h1=>?_⟩
 ·simp_arith[c5,h2,h1,hF];exact⟨_,rfl,rfl⟩
 ·have hU:=hR.upC (m:=m) hC;have aK:∀x:Int,0<=x->x<m->x∈L.reverse:=λ x a b=>List.mem_reverse.mpr ((Ba ok.pm).mpr ⟨a,b⟩);obtain⟨T',v9⟩:∃T':Int->Co,T'=λ x:Int=>if 0<=x/\x<(m:Int) then atC T x else none:=⟨_,rfl⟩
  have kt:∀x:Int,0<=x->x<m->T' x=atC T x:=λ x a b=>by rw[v9];exact if_pos ⟨a,b⟩
  have hS:SwC (Ca L) (λ x y=>Au (Qv (Ho A K)) (x,y)) s (Au R) T' m:=⟨λ x a b=>by rw[kt x a b];exact hT.top x (aK x a b),λ x y a b c d hr=>by rw[kt x a b,kt y c d];exact hT.cl x (aK x a b) y (aK y c d) hr,λ x c hx=>by
   have a4:0<=x/\x<m:=by
    refine zd4 λ hn=>?_;rw[v9] at hx;dsimp only at hx;rw[if_neg hn] at hx;cases hx
   rw[kt x a4.1 a4.2] at hx;exact hT.sd x c a4.1 a4.2 hx⟩
  have yt:(λ x y=>Au (Qv (Ho A K)) (x,y))=λ x y=>Au (Ho A K) (y,x):=by funext x y;exact Lj x y _
  rw[yt] at hU hS;obtain⟨cs,yu,_⟩:=Js m w.toNat rs (by omega) (by omega) (λ r hr=>(ok.ok r hr).1);have a7:=yu.qL (λ r hr=>(ok.ok r hr).1) (w:=(s:Int)) (by omega) (by omega);have ew:((w.toNat:Nat):Int)=w:=by omega
  rw[ew] at a7;have q:=(ZJ (s:=(s:Int)) (w:=w) ok.cJ.turn ok.kept.turn ⟨by omega,by omega⟩ hU hS a7.turn).turn;rw[G3,kt w h0 h1] at q;exact q
abbrev RP:=za7 Im
def Vq:FT "costs_in" 5 2 RP:=(za1 Im).1
def Vr:PZ RP:=(za1 Im).2
abbrev Io (F:List D->M OT):Prop:=∀(m:Nat) (rs:List Road) (L:List Int) (A:LA) (K:List (Int×Int)) (s g:Nat) (x:Co),Bc m rs L A K->s<m->g<m->Bg rs s g x->F [AM m rs L A K,.int s,.int g]=.ok (.sh (cst x))
def Ej:∃F,FT "cost_between" 7 3 F/\Io F:=by
 refine⟨_,λ T=>Az (k:=6) T.PJ Nc _ (λ f B6 A outer s H E hr=>(A5 (Ai (Ab A8.toXCall (LC T) (-hr) rfl (A2 (Al (UZ rfl rfl T.EW (Al (Ab A8.toXCall (Nj T) (-hr) rfl (A2 (!0) (A2 (!1) (A2 (!2) A7))) rfl)))) A7) rfl)))),?_⟩;intro m rs L A K s g x ok hs hg hx;dsimp only;have hm:=ok.m2;obtain⟨R1,db,ub⟩:=Ni m rs L A K s ok hs;obtain⟨R2,t7,yv⟩:=PX m rs L A K g ok hg;have hRl:R1.length<=m:=by have:=ub.len;rw[HX ok.pm] at this;exact this
 have hS:=Nk m rs L A K s g R1 R2 ok db t7 ub.nd (by omega);have a7:=jF ok (s:=(s:Int)) (g:=(g:Int)) ⟨by omega,by omega⟩ ⟨by omega,by omega⟩ ub yv hx;have hl:(CK R1 R2).length<=900:=by
  have:=(DC R2 R1).length_le;rw[za2,za2] at this;omega
 obtain⟨S,yw⟩:∃S,S=CK R1 R2:=⟨_,rfl⟩;rw[<-yw] at hS hl a7;rw[<-a7];rfl';refine B1 ?_;have hle:=LD (S.map λ kv=>some kv.2) (by rw[za2];omega);rw[zbm] at hle;have ik:PQ [.lst (S.map λ kv=>cst (some kv.2))]=.ok (.sh (cst (Er (S.map λ kv=>some kv.2)))):=hle;simp_arith[hS,pE,ik];rfl
abbrev Jt:=za7 Ej
def Nl:FT "cost_between" 7 3 Jt:=(za1 Ej).1
def Nm:Io Jt:=(za1 Ej).2
abbrev Gb (F:List D->M OT):Prop:=∀(m:Nat) (rs:List Road) (L:List Int) (A:LA) (K:List (Int×Int)) (T:List Co) (p:Int),Bc m rs L A K->T.length=m->0<=p->p<m->F [AM m rs L A K,.lst (T.map cst),.int p]=.ok (.lst (((MB A K T p).map pD).map .sh))
def Dj:∃F,FT "arcs_by_prices" 4 3 F/\Gb F:=by
 refine⟨_,λ T=>Az (k:=3) T.Mi Fp _ (λ f B6 A outer s H E hr=>(A3 (Ke (NB:=["arc","place"]) 3 [none,some 2] Fp.nd rfl (zax rfl) rfl (AY (Al (FZ (k:=1) [("Ladder",B5)] A8.toXCall (Cb (by decide) (F2 T) CN) (-hr) (!0)))) rfl rfl (Bz 0 (by decide) rfl rfl rfl) (λ _ _ _ _=>Ep (Jd (c:=true) (!hr) (Aa (!hr) (!0) A4) (!1))) (λ _ _ _ _=>(!0))) (A5 (Ai (Dd (NB:=["arc","prices","place","ladder"]) [none,some 1,some 2,some 0] rfl (AY (!3)) rfl rfl (Bz 0 (by decide) rfl rfl rfl) (λ _ _ _ _=>Ep (Jd (c:=true) (!hr) (Al (BX (Ab (Bq rfl).toXCall (G9 T) (-hr) rfl (A2 (Al (J3 (k:=3) [("Ladder",B4)] (Bq rfl).toXCall (Cb (by decide) (EZ T) CN) (-hr) (!3) (A2 (!2) (A2 (Aa (!hr) (!0) A4) A7)) rfl)) (A2 (Aa (!hr) (!1) (Aa (!hr) (!0) A4)) A7)) rfl))) (Aa (!hr) (!1) (!2)))) (λ _ _ _ _=>(!0))))))),?_⟩;intro m rs L A K T p ok hT h0 h1;rfl';refine B1 ?_;have hs:FY [("Ladder",B5)] "kept" (AM m rs L A K)=.ok B5:=rfl;have a6:FY [("Ladder",B4)] "cost" (AM m rs L A K)=.ok B4:=rfl;have hk:=F3 m rs L A K;have ni:=ok.kl;have b9:(K.map pD).length<=1000:=by rw[za2];omega
 refine wp_step (ρ':=[‹AM m rs L A K›,‹.lst (T.map cst)›,‹.int p›,‹.lst ((K.filter λ q=>decide (q.1=p)).map pD)›]) (by
  simp_arith[hs,hk,if_pos b9];rw[BR (λ q:Int×Int=>decide (q.1=p)) pD (λ q hq=>⟨_,rfl,by
   have p0:AJ (pD q) (.int 0)=.ok (.int q.1):=rfl;simp_arith[p0];try rfl,λ _=>by simp_arith[]⟩)]
  try rfl) ?_
 have ar:((K.filter λ q=>decide (q.1=p)).map pD).length<=1000:=by
  have:=zd0 (λ q:Int×Int=>decide (q.1=p)) K;rw[za2];omega
 have x2:AJ (.lst (T.map cst)) (.int p)=.ok (cst (atC T p)):=BZ h0 (by omega);simp_arith[if_pos ar];rw[BR (ZZ A T p) pD (λ q hq=>⟨_,rfl,by
  obtain⟨q1,q2⟩:=zb2.mp hq;have e:q.1=p:=by simpa using q2
  have d8:=ok.YL q1;obtain⟨c,hc,_⟩:=(ok.km q).mp q1;obtain⟨qa,qb⟩:=q;dsimp only at e d8;subst e;have p1:AJ (pD (qa,qb)) (.int 1)=.ok (.int qb):=rfl;have h2:=F0 m rs L A K qa qb c ok.zI hc;have x1:AJ (.lst (T.map cst)) (.int qb)=.ok (cst (atC T qb)):=BZ d8.2.2.1 (by omega);have ii:=Ga (some c) (atC T qb);have de:=Lc (Ap (some c) (atC T qb)) (atC T qa);have eb:ZZ A T qa (qa,qb)=decide (Ap (some c) (atC T qb)=atC T qa):=by unfold ZZ;rw[hc]
  rw[eb];simp_arith[a6,p1,h2,x1,x2,ii,de];try rfl,λ _=>by simp_arith[]⟩)]
 exact⟨_,rfl,rfl⟩
abbrev He:=za7 Dj
def LH:FT "arcs_by_prices" 4 3 He:=(za1 Dj).1
def LI:Gb He:=(za1 Dj).2
abbrev LJ (F:List D->M OT):Prop:=∀(m:Nat) (rs:List Road) (p c:Int×Int),rs.length<=900->(∃r∈rs,r.a=p.1/\r.b=p.2/\BH r=some c)->F [Ad m rs,pD p,cst (some c)]=.ok (.sh (.int (Pk rs p c:Nat)))
def FK:∃F,FT "road_under" 2 3 F/\LJ F:=by
 refine⟨_,λ T=>Az (k:=1) T.Tj Ji _ (λ f B6 A outer s H E hr=>(A3 (Ke (NB:=["number","road","arc","cost"]) 3 [none,none,some 1,some 2] Ji.nd rfl (zax rfl) rfl (Nr rfl T.Fu (Aa (!hr) (!0) A4)) rfl rfl (NC (n:=2) rfl (D2 0 (by decide) rfl rfl rfl (D2 1 (by decide) rfl rfl rfl Kr))) (λ _ _ _ _=>Ep (DW.dt (LY (Jd (c:=true) (!hr) (AG (A2 (Aa (!hr) (!1) A4) (A2 (Aa (!hr) (!1) A4) A7))) (!2)) (IG (Jd (c:=true) (!hr) (Al (BX (Ab (Bq rfl).toXCall (Eu T) (-hr) rfl (A2 (!1) A7) rfl))) (!3)))))) (λ _ _ _ _=>(!0))) (A5 (Ai (AI (Aa (!hr) (!3) A4)))))),?_⟩;intro m rs p c hl hr;rfl';refine B1 ?_;obtain⟨r,t,hq,_⟩:=Yx hr;have n1:AJ (Ad m rs) (.int 1)=.ok (.lst (rs.map Bo)):=rfl;have ar:((zay rs.length).map λ i:Nat=>D.tup [.int (i:Int),Bo (rs.getD i ⟨0,0,none,0⟩)]).length<=1000:=by rw[za2,zc2];omega
 refine wp_step (ρ':=[‹Ad m rs›,‹pD p›,‹cst (some c)›,‹.lst (((zay rs.length).filter (jG rs p c)).map λ i:Nat=>D.int (i:Int))›]) (by
  simp_arith[n1,ZV,if_pos ar];rw[BR (jG rs p c) (λ i:Nat=>D.int (i:Int)) (λ i hi=>⟨_,rfl,by
   have yx:=zc4.mp hi;obtain⟨r,hr⟩:∃r,rs[i]?=some r:=⟨_,za6 yx⟩;have eg:rs.getD i ⟨0,0,none,0⟩=r:=by rw[zam,hr];rfl
   have r0:AJ (Bo r) (.int 0)=.ok (.int r.a):=rfl;have r1:AJ (Bo r) (.int 1)=.ok (.int r.b):=rfl;have t1:D.tup [.int r.a,.int r.b]=pD (r.a,r.b):=rfl;have de:=vI (r.a,r.b) p;have t9:=Ew r;have hd2:=Lc (BH r) (some c);have eb:jG rs p c i=(decide ((r.a,r.b)=p)&&decide (BH r=some c)):=by
    unfold jG;rw[hr];dsimp only;by_cases e1:(r.a,r.b)=p
    ·subst e1;simp
    ·have:¬ (r.a=p.1/\r.b=p.2/\BH r=some c):=λ h=>e1 (Prod.ext h.1 h.2.1);rw[decide_eq_false this,decide_eq_false e1];rfl
   rw[eb,eg];by_cases e1:(r.a,r.b)=p
   ·rw[decide_eq_true e1] at de ⊢;simp_arith[r0,r1,t1,de,t9,hd2,Bool.true_and];try rfl
   ·rw[decide_eq_false e1] at de ⊢;simp_arith[r0,r1,t1,de];try rfl,λ _=>by simp_arith[]⟩)]
  try rfl) ?_
 rw[hq];have hx:AJ (.lst ((Pk rs p c::t).map λ i:Nat=>D.int (i:Int))) (.int 0)=.ok (.int (Pk rs p c:Nat)):=Fm (by decide) rfl;simp_arith[hx];rfl
abbrev MO:=za7 FK
def QH:FT "road_under" 2 3 MO:=(za1 FK).1
def QI:LJ MO:=(za1 FK).2
abbrev Fv (F:List D->M OT):Prop:=∀(m:Nat) (rs:List Road) (L:List Int) (A:LA) (K:List (Int×Int)) (u w:Int),Bc m rs L A K->(Au A (u,w)).isSome=true->(∀c,Ac A (u,w)=some c->c.2<=256)->F [AM m rs L A K,.int u,.int w]=.ok (.lst (((CP rs L A (u,w)).map λ n:Nat=>D.int (n:Int)).map .sh))
def CS:∃F:List D->M OT,(∀ {P w K mg base},Txt K mg->HS P w K mg base "Ladder" "unpacked" 3 3 F)/\Fv F:=by
 refine⟨_,λ T=>L8 (k:=2) T.Ly BD _ (λ f B6 A outer s H E hr=>(A3 (BF 3 BD.nd rfl (zax rfl) (Gq CL)) (A3 (BF 4 BD.nd rfl (zax rfl) (Gq (EL (J3 (k:=2) [("Ladder",AN)] A8.toXCall (Cb (by decide) (Dp T) CN) (-hr) (!0) (A2 (!1) (A2 (!2) A7)) rfl) CL))) (A3 (Kg A8.toXCall.own (HH (Bb (c:=true) (!4))) (A3 (mL 5 BD.nd rfl (zax rfl) (uE (Bs 4 (pv 4)))) (A3 (AE 6 BD.nd rfl (zax rfl) (Aa (!hr) (Aa (!hr) (Dw ["Ladder"] (Bf T.Ce BM) (!0)) (!5)) A4)) (A5 (AU (Eb (c:=true) (!6)) (A5 (fR (Bs 3 (pv 3)) (Ab A8.toXCall (QH T) (-hr) rfl (A2 (Dw ["Ladder"] (Bf T.Bx BM) (!0)) (A2 (!5) (A2 (Aa (!hr) (Aa (!hr) (Dw ["Ladder"] (Bf T.Ce BM) (!0)) (!5)) A4) A7))) rfl))) (A3 (II 4 (pv 4) (AG (A2 (!6) (A2 (Aa (!hr) (!5) A4) A7)))) (A5 (II 4 (pv 4) (AG (A2 (Aa (!hr) (!5) A4) (A2 (!6) A7))))))))))) (A5 (CM 3 (pv 3))))))),?_⟩;intro m rs L A K u w ok hf ku;rfl';refine B1 ?_;have hA:=ok.zI;obtain⟨z0,uc⟩:=zbx.mp hf;have wa:Ac A (u,w)=some z0.1:=by unfold Ac;rw[uc];rfl
 have hk:=hA.rg _ (ET wa);have be:=Dq m rs L A K u w hk.2.1.1 hk.2.1.2 hk.2.2.1 hk.2.2.2 hf;have az:FY [("Ladder",AN)] "checked_arc" (AM m rs L A K)=.ok AN:=rfl;have f1:N8 ["Ladder"] "own_map" (AM m rs L A K)=.ok (Ad m rs):=rfl;have f2:N8 ["Ladder"] "laid" (AM m rs L A K)=.ok (Qu A):=rfl;have yy:=Me ok _ (c:=z0.1) (mid:=z0.2) rfl uc;have yz:(CP rs L A (u,w)).length<=256:=by
  have:=yy.ln;have:=ku _ wa;omega
 refine wp_step (ρ':=[‹AM m rs L A K›,‹.int u›,‹.int w›,some (.own []),none,none,none]) (by simp_arith[];try rfl) ?_;refine wp_step (ρ':=[‹AM m rs L A K›,‹.int u›,‹.int w›,some (.own []),some (.own [pD (u,w)]),none,none]) (by simp_arith[az,be];try rfl) ?_;refine BA (I:=λ ρ=>∃s4 s5 s6:Option Cl,ρ=[‹AM m rs L A K›,‹.int u›,‹.int w›,some (.own ((CP rs L A (u,w)).map λ n:Nat=>D.int (n:Int))),s4,s5,s6]) ?_ ?_
 ·refine Ks (lt:=λ a b:Nat=>a<b) (λ n ρ=>∃(N:List Nat) (W:List (Int×Int)) (o5 o6:Option D),ρ=[‹AM m rs L A K›,‹.int u›,‹.int w›,some (.own (N.map λ n:Nat=>D.int (n:Int))),some (.own ((W.map pD).reverse)),vO o5,vO o6]/\qW rs L A W=n/\(∀p∈W,(Au A p).isSome=true)/\N++V6 rs L A W=CP rs L A (u,w)) (Nat.lt_wfRel.wf.apply (qW rs L A [(u,w)])) ⟨[],[(u,w)],none,none,rfl,rfl,(λ p hp=>by rw[za9.mp hp];exact hf),by unfold V6;simp⟩ ?_;rintro n ρ ⟨N,W,o5,o6,rfl,hn,hW,hE⟩;have hlen:=congrArg List.length hE;rw[zal] at hlen;have mw:=Tb ok hW;cases W with
  |nil =>
   left;refine⟨rfl,some (.own []),vO o5,vO o6,?_⟩;have:N=CP rs L A (u,w):=by rw[<-hE];unfold V6;simp
   rw[this];rfl
  |cons p W =>
   have ue:Fi (.lst (((p::W).map pD).reverse))=.ok true:=by
    rw[Uv];simp
   obtain⟨z,hz⟩:=zbx.mp (hW p za3);obtain⟨c,mid⟩:=z;obtain⟨_,m2,m3⟩:=J6 ok hz;have y3:=Me ok _ rfl hz;have ij:((p::W).map pD).reverse=(W.map pD).reverse++[pD p]:=by rw[za5,List.reverse_cons]
   have hi:=Pc hz;have l0:AJ (WE (c,mid)) (.int 0)=.ok (cst (some c)):=rfl;have l1:AJ (WE (c,mid)) (.int 1)=.ok (CJ mid):=rfl;have p0:AJ (pD p) (.int 0)=.ok (.int p.1):=rfl;have p1:AJ (pD p) (.int 1)=.ok (.int p.2):=rfl;have wb:V6 rs L A (p::W)=CP rs L A p++V6 rs L A W:=rfl;rw[wb,zal] at hlen;rw[wb] at hE;have y4:qW rs L A (p::W)=2*(CP rs L A p).length-1+qW rs L A W:=rfl;rw[y4] at hn;have y6:=Tb ok λ q hq=>hW q (za4 _ hq);right;constructor
   ·simp_arith[ue];try rfl
   rw[ij];have hp:=ZW (ρ:=[‹AM m rs L A K›,‹.int u›,‹.int w›,some (.own (N.map λ n:Nat=>D.int (n:Int))),some (.own ((W.map pD).reverse++[pD p])),vO o5,vO o6]) (i:=4) (xs:=(W.map pD).reverse) (d:=pD p) rfl;apply wp_step
   ·simp_arith[hp];rfl
   try simp only[zak,zaf]
   refine wp_step (ρ':=[‹AM m rs L A K›,‹.int u›,‹.int w›,some (.own (N.map λ n:Nat=>D.int (n:Int))),some (.own ((W.map pD).reverse)),‹pD p›,‹CJ mid›]) (by simp_arith[f2,hi,l1];try rfl) ?_;cases mid with
   |none =>
    have aG:AZ (CJ none)=true:=rfl;have y7:=QI m rs p c (by have:=ok.rl;omega) (m2 rfl);rw[RE hz] at hE hlen hn;have c8:((N.map λ n:Nat=>D.int (n:Int)).map OT.sh).length<1000:=by rw[za2,za2];omega
    have ea:(N.map λ n:Nat=>D.int (n:Int)).map OT.sh++[OT.sh (.int (Pk rs p c:Nat))]=((N++[Pk rs p c]).map λ n:Nat=>D.int (n:Int)).map OT.sh:=by rw[zb3,zb3];rfl
    refine B7 (ρ':=[‹AM m rs L A K›,‹.int u›,‹.int w›,some (.own ((N++[Pk rs p c]).map λ n:Nat=>D.int (n:Int))),some (.own ((W.map pD).reverse)),vO (some (pD p)),vO (some (CJ none))]) (by
     simp_arith[aG,f1,f2,hi,l0,y7,if_true,if_pos c8,ea];rfl) ⟨qW rs L A W,?_,_,W,_,_,rfl,rfl,λ q hq=>hW q (za4 _ hq),by rw[zbg];exact hE⟩
    rw[zba] at hn;omega
   |some v =>
    obtain⟨_,_,a,b,ma,mb,g1,g2,_⟩:=m3 v rfl;have aG:AZ (CJ (some v))=false:=rfl;have lv:CJ (some v)=.int v:=rfl;have lb:=V5 ok hz;have u1:=(Me ok _ rfl g1).ne;have u2:=(Me ok _ rfl g2).ne;have c8:((W.map pD).reverse).length<1000:=by rw[zbq,za2];omega
    have il:((W.map pD).reverse++[pD (v,p.2)]).length<1000:=by
     rw[zal,zbq,za2,zba];have:=y3.ne;omega
    have y8:(((p.1,v)::(v,p.2)::W).map pD).reverse=(W.map pD).reverse++[pD (v,p.2)]++[pD (p.1,v)]:=by rw[za5,za5,List.reverse_cons,List.reverse_cons]
    have uf:AZ (.int v)=false:=rfl;simp_arith[lv,uf,zb0,if_false];apply wp_step
    ·simp_arith[p1,if_pos c8];rfl
    try simp only[zak,zaf]
    have t1:D.tup [.int v,.int p.2]=pD (v,p.2):=rfl;refine B7 (ρ':=[‹AM m rs L A K›,‹.int u›,‹.int w›,some (.own (N.map λ n:Nat=>D.int (n:Int))),some (.own ((((p.1,v)::(v,p.2)::W).map pD).reverse)),vO (some (pD p)),vO (some (.int v))]) (by
     rw[y8];simp_arith[p0,t1,if_pos il];try rfl) ⟨qW rs L A ((p.1,v)::(v,p.2)::W),?_,N,_,_,_,rfl,rfl,λ q hq=>?_,?_⟩
    ·rw[lb,zal] at hn;show 2*(CP rs L A (p.1,v)).length-1+(2*(CP rs L A (v,p.2)).length-1+qW rs L A W)<n;omega
    ·rcases zab.mp hq with rfl|hq
     ·rw[g1];rfl
     ·rcases zab.mp hq with rfl|hq
      ·rw[g2];rfl
      ·exact hW q (za4 _ hq)
    ·rw[lb] at hE;show N++(CP rs L A (p.1,v)++(CP rs L A (v,p.2)++V6 rs L A W))=_;rw[<-zbg (CP rs L A (p.1,v))];exact hE
 ·rintro ρ ⟨s4,s5,s6,rfl⟩;exact⟨_,rfl,rfl⟩
abbrev C2:=za7 CS
def JW:Txt K mg->HS P w K mg base "Ladder" "unpacked" 3 3 C2:=(za1 CS).1
def JX:Fv C2:=(za1 CS).2
abbrev Hf (F:List D->M OT):Prop:=∀(m:Nat) (rs:List Road) (L:List Int) (A:LA) (K:List (Int×Int)) (T:List Co) (s g:Nat) (c:Int×Int),Bc m rs L A K->T.length=m->(∀w:Int,0<=w->w<m->Bg rs w g (atC T w))->s<m->g<m->atC T s=some c->∃N:List Nat,F [AM m rs L A K,.lst (T.map cst),.int s,.int g]=.ok (.lst ((N.map λ n:Nat=>D.int (n:Int)).map .sh))/\O0 rs s N g c.1/\(N.length:Int)=c.2
def DH:∃F,FT "way_by_prices" 5 4 F/\Hf F:=by
 refine⟨_,λ T=>Az (k:=4) T.Nf C1 _ (λ f B6 A outer s H E hr=>(A3 (BF 4 C1.nd rfl (zax rfl) (Gq CL)) (A3 (AE 5 C1.nd rfl (zax rfl) (!2)) (A3 (Kg A8.toXCall.own (Fl (c:=true) (!hr) (!5) (!3)) (A3 (AE 6 C1.nd rfl (zax rfl) (Aa (!hr) (Al (Ab A8.toXCall (LH T) (-hr) rfl (A2 (!0) (A2 (!1) (A2 (!5) A7))) rfl)) A4)) (A3 (Ww (Bs 4 (pv 4)) (by exact (J3 (k:=3) [("Ladder",C2)] A8.toXCall (Cb (by decide) (JW T) CN) (-hr) (!0) (A2 (Aa (!hr) (!6) A4) (A2 (Aa (!hr) (!6) A4) A7)) rfl))) (A5 (AE 5 C1.nd rfl (zax rfl) (Aa (!hr) (!6) A4)))))) (A5 (CM 4 (pv 4))))))),?_⟩;intro m rs L A K T s g c ok c7 hT hs hg hc;rfl';refine (λ h:∃t,_/\∃N:List Nat,t=.lst ((N.map λ n:Nat=>D.int (n:Int)).map .sh)/\O0 rs s N g c.1/\(N.length:Int)=c.2=>by
  obtain⟨t,h1,N,rfl,h2⟩:=h;exact⟨N,h1,h2⟩) (Kt ?_)
 have d9:∀r∈rs,GZ m r:=λ r hr=>(ok.ok r hr).1;have af:=hT s (by omega) (by omega);rw[hc] at af;have hm:=ok.m2;have y9:=Fo ok.ok ⟨by omega,by omega⟩ af;have za:FY [("Ladder",C2)] "unpacked" (AM m rs L A K)=.ok C2:=rfl;refine wp_step (ρ':=[‹AM m rs L A K›,‹.lst (T.map cst)›,‹.int s›,‹.int g›,some (.own []),none,none]) (by simp_arith[];try rfl) ?_;refine wp_step (ρ':=[‹AM m rs L A K›,‹.lst (T.map cst)›,‹.int s›,‹.int g›,some (.own []),‹.int s›,none]) (by simp_arith[];try rfl) ?_;refine BA (I:=λ ρ=>∃(N:List Nat) (s5 s6:Option Cl),ρ=[‹AM m rs L A K›,‹.lst (T.map cst)›,‹.int s›,‹.int g›,some (.own (N.map λ n:Nat=>D.int (n:Int))),s5,s6]/\O0 rs s N g c.1/\(N.length:Int)=c.2) ?_ ?_
 ·refine Ks (lt:=λ a b:Nat=>a<b) (λ n ρ=>∃(N:List Nat) (p t:Int) (cp:Int×Int) (s6:Option Cl),ρ=[‹AM m rs L A K›,‹.lst (T.map cst)›,‹.int s›,‹.int g›,some (.own (N.map λ n:Nat=>D.int (n:Int))),‹.int p›,s6]/\(0<=p/\p<m)/\atC T p=some cp/\O0 rs s N p t/\t+cp.1=c.1/\(N.length:Int)+cp.2=c.2/\cp.2.toNat=n) (Nat.lt_wfRel.wf.apply c.2.toNat) ⟨[],s,0,c,none,rfl,⟨by omega,by omega⟩,hc,.nil _,by omega,by simp,rfl⟩ ?_;rintro n ρ ⟨N,p,t,cp,s6,rfl,hp,lc,be,h1,h2,h3⟩;have ug:=hT p hp.1 hp.2;rw[lc] at ug;have ku:=(ug.2 cp rfl).nn d9;by_cases e:p=g
  ·left;subst e;refine⟨by simp_arith[decide_true,Bool.not_true];try rfl,N,_,s6,rfl,?_⟩;have hz:=ug.1 _ (.nil _);simp only[BI] at hz;have e1:cp.1=0:=by omega
   have e2:cp.2=0:=by omega
   exact⟨by rw[<-h1,e1,Int.add_zero];exact be,by omega⟩
  ·right;refine⟨by simp_arith[decide_eq_false e,Bool.not_false];try rfl,?_⟩;obtain⟨q,r,hq⟩:=bM ok hT hp e lc;obtain⟨ca,cq,a1⟩:=vJ ok lc hq;have wc:=LI m rs L A K T p ok c7 hp.1 hp.2;rw[hq] at wc;obtain⟨z,hz⟩:∃z,Au A q=some z:=by
    have:=a1.c;unfold Ac at this;cases hf:Au A q with
    |none=>rw[hf] at this;cases this
    |some z=>exact⟨z,rfl⟩
   have ez:z.1=ca:=by have:=a1.c;unfold Ac at this;rw[hz] at this;cases this;rfl
   have we:=JX m rs L A K q.1 q.2 ok (by rw[hz];rfl) (λ c hc=>by
    obtain⟨c',e1,e2⟩:=pL ok hq;have e3:some c=some c':=hc.symm.trans e1;cases e3;have:=Fo ok.ok (by rw[a1.a];exact hp) e2;omega)
   have lf:=Me ok _ (p:=q) (c:=z.1) (mid:=z.2) rfl hz;rw[ez] at lf;have p0:AJ (pD q) (.int 0)=.ok (.int q.1):=rfl;have p1:AJ (pD q) (.int 1)=.ok (.int q.2):=rfl;have hx:AJ (.lst ((q::r).map pD)) (.int 0)=.ok (pD q):=Fm (by decide) rfl;have hcq:=((hT q.2 a1.r.1 a1.r.2).2 cq a1.t).nn d9;have a6:=a1.s;have bK:=lf.ln;have ae:=lf.ne;obtain⟨U,hU⟩:∃U,U=CP rs L A q:=⟨_,rfl⟩;have eU:CP rs L A (q.1,q.2)=U:=by rw[hU]
   rw[eU] at we;rw[<-hU] at bK ae lf;have hb:(N.map λ n:Nat=>D.int (n:Int)).length+(U.map λ n:Nat=>D.int (n:Int)).length<=1000:=by
    rw[za2,za2];rw[a6] at h2 ku;dsimp only at h2 ku;omega
   refine wp_step (ρ':=[‹AM m rs L A K›,‹.lst (T.map cst)›,‹.int s›,‹.int g›,some (.own (N.map λ n:Nat=>D.int (n:Int))),‹.int p›,‹pD q›]) (by simp_arith[wc,hx];try rfl) ?_;refine wp_step (ρ':=[‹AM m rs L A K›,‹.lst (T.map cst)›,‹.int s›,‹.int g›,some (.own ((N++U).map λ n:Nat=>D.int (n:Int))),‹.int p›,‹pD q›]) (by
    rw[zb3];simp_arith[p0,p1,za,we,if_pos hb];try rfl) ?_
   refine B7 (ρ':=[‹AM m rs L A K›,‹.lst (T.map cst)›,‹.int s›,‹.int g›,some (.own ((N++U).map λ n:Nat=>D.int (n:Int))),‹.int q.2›,‹pD q›]) (by simp_arith[p1];try rfl) ⟨cq.2.toNat,?_,N++U,q.2,t+ca.1,cq,_,rfl,a1.r,a1.t,?_,?_,?_,rfl⟩
   ·rw[a6] at h3;dsimp only at h3;omega
   ·have:=lf.ch;rw[a1.a] at this;exact be.yL this
   ·rw[a6] at h1;dsimp only at h1;omega
   ·rw[a6] at h2;dsimp only at h2;rw[zal];omega
 ·rintro ρ ⟨N,s5,s6,rfl,h1,h2⟩;exact⟨_,rfl,N,rfl,h1,h2⟩
abbrev Ip:=za7 DH
def Ml:FT "way_by_prices" 5 4 Ip:=(za1 DH).1
def Mm:Hf Ip:=(za1 DH).2
abbrev rB (F:List D->M OT):Prop:=∀(m:Nat) (rs:List Road) (L:List Int) (A:LA) (K:List (Int×Int)) (s g:Nat),Bc m rs L A K->s<m->g<m->∃(T:List Co) (N:List Nat),T.length=m/\(∀w:Int,0<=w->w<m->Bg rs w g (atC T w))/\(∀c,atC T s=some c->O0 rs s N g c.1/\(N.length:Int)=c.2)/\F [AM m rs L A K,.int s,.int g]=.ok (jJ (atC T s) N T)
def Xe:∃F,FT "ask" 8 3 F/\rB F:=by
 refine⟨_,λ T=>Az (k:=7) T.zU WW _ (λ f B6 A outer s H E hr=>(A3 (AE 3 WW.nd rfl (zax rfl) (Al (Ab A8.toXCall (Nl T) (-hr) rfl (A2 (!0) (A2 (!1) (A2 (!2) A7))) rfl))) (A3 (AU (Eb (c:=true) (!3)) (A5 (Ai (AI Cw))) As) (A3 (BF 4 WW.nd rfl (zax rfl) (Ab A8.toXCall (Vq T) (-hr) rfl (A2 (!0) (A2 (!2) A7)) rfl)) (A5 (pM 4 (pv 4) (lX (tW (c:=true) (!3))) (Ec (Ab A8.toXCall (Ml T) (-hr) rfl (A2 (!0) (A2 (!4) (A2 (!1) (A2 (!2) A7)))) rfl)))))))),?_⟩;intro m rs L A K s g ok hs hg;obtain⟨T,g1,l1,t1⟩:=Vr m rs L A K g ok hg;have nv:=Nm m rs L A K s g (atC T s) ok hs hg (t1 s (by omega) (by omega));rfl';cases hc:atC T s with
 |none =>
  rw[hc] at nv;refine⟨T,[],l1,t1,λ c h=>(by rw[hc] at h;cases h),?_⟩;rw[hc];refine B1 ?_;refine wp_step (ρ':=[‹AM m rs L A K›,‹.int s›,‹.int g›,‹cst none›,none]) (by simp_arith[nv];try rfl) ?_;have aG:AZ (cst none)=true:=rfl;simp_arith[aG];rfl
 |some c =>
  rw[hc] at nv;obtain⟨N,hF,n1,n2⟩:=Mm m rs L A K T s g c ok l1 t1 hs hg hc;refine⟨T,N,l1,t1,λ c' h=>(by rw[hc] at h;cases h;exact⟨n1,n2⟩),?_⟩;rw[hc];refine B1 ?_;refine wp_step (ρ':=[‹AM m rs L A K›,‹.int s›,‹.int g›,‹cst (some c)›,none]) (by simp_arith[nv];try rfl) ?_;have aG:AZ (cst (some c))=false:=rfl;apply wp_step
  ·simp_arith[aG];rfl
  refine wp_step (ρ':=[‹AM m rs L A K›,‹.int s›,‹.int g›,‹cst (some c)›,some (.own (T.map cst))]) (by simp_arith[g1];try rfl) ?_;have zb:=Lk (ds:=N.map λ n:Nat=>D.int (n:Int)) λ d hd=>by
   obtain⟨n,_,rfl⟩:=zaq.mp hd;rfl
  have zc:=OZ (some c);simp_arith[hF,zb,zc];exact⟨_,rfl,rfl⟩
abbrev cB:=za7 Xe
def jV:FT "ask" 8 3 cB:=(za1 Xe).1
def vN:rB cB:=(za1 Xe).2
abbrev Ju (F:List D->M OT):Prop:=∀(A:LA) (p:Int×Int),F [Qu A,pD p]=.ok (.sh (cst (Ac A p)))
def F6:∃F,FT "cost_so_far" 1 2 F/\Ju F:=by
 refine⟨_,λ T=>Az (k:=0) T.QA Po _ (λ f B6 A outer s H E hr=>(A3 (AU (Ny (c:=true) (!hr) (!1) (!0)) (A5 (Ai (AI Cw))) As) (A5 (Ai (AI (Aa (!hr) (Aa (!hr) (!0) (!1)) A4)))))),?_⟩;intro A p;rfl';refine B1 ?_;have hm:=T6 A p true;unfold Ac;cases q:Au A p with
 |none =>
  rw[q] at hm;simp_arith[hm,Fi];rfl
 |some v =>
  rw[q] at hm;have hi:=Pc q;have h0:AJ (WE v) (.int 0)=.ok (cst (some v.1)):=rfl;apply wp_step
  ·simp_arith[hm,Fi];rfl
  simp_arith[hi,h0];rfl
abbrev LK:=za7 F6
def Iq:FT "cost_so_far" 1 2 LK:=(za1 F6).1
def Ir:Ju LK:=(za1 F6).2
abbrev rC (F:OT->List D->M (OT×OT)):Prop:=∀(A:LA) (p:Int×Int) (c:Co) (mid:Option Int),A.length<1000->F (Na A) [pD p,cst c,CJ mid]=.ok (Na (layA A p c mid),.sh .AL)
def Xf:∃F:OT->List D->M (OT×OT),(∀ {P w K mg base},Txt K mg->Rf P w K mg base "lay" 1 4 F)/\rC F:=by
 refine⟨_,λ T=>Up (k:=0) T.zV vM _ (λ f B6 A outer s H E hr=>(A5 (AU (HH (DW.dt (LY (Gm (c:=true) (!2)) (IG (DW.dt (CH (Ny (c:=true) (!hr) (!1) (!0)) (Cg (gL (c:=true) (!hr) (!2) (Aa (!hr) (Aa (!hr) (!0) (!1)) A4))))))))) (A5 (NA (!hr) (Bs 0 (pv 0)) (!1) (AG (A2 (!2) (A2 (!3) A7))))) As))),?_⟩;intro A p c mid hA;dsimp only;have e0:Dl ["laid","pair","cost","middle"] (Na A) [pD p,cst c,CJ mid]=[some (.ow (.tree (some 0) (Na A))),‹pD p›,‹cst c›,‹CJ mid›]:=rfl;rw[e0];refine WL ?_;have hm:=T6 A p true;have wg:∀c:Int×Int,D.tup [cst (some c),CJ mid]=WE (c,mid):=λ c=>rfl;have hl:(A.map λ kv=>pD kv.1).length<1000:=by rw[za2];exact hA
 have i8:keyOk true (pD p)=true:=rfl;have ag:∀v,(List.map (λ kv=>pD kv.1) (Dz A p v))=(List.map (λ kv=>pD kv.1) (Dz A p v)):=λ _=>rfl;cases c with
 |none =>
  refine B7 (ρ':=_) (by simp_arith[cst,AZ];rfl) ⟨rfl,rfl⟩
 |some c =>
  have aG:AZ (cst (some c))=false:=rfl;cases q:Au A p with
  |none =>
   rw[q] at hm;have el:layA A p (some c) mid=Dz A p (c,mid):=by unfold layA;dsimp only;rw[q]
   rw[el];refine B7 (ρ':=[some (.ow (.tree (some 0) (Na (Dz A p (c,mid))))),‹pD p›,‹cst (some c)›,‹CJ mid›]) (by
    simp_arith[aG,hm,Fi,ED,wg,if_pos (And.intro i8 hl),iO,i8,hl,and_self,if_true];rfl) ⟨rfl,rfl⟩
  |some z =>
   rw[q] at hm;have hi:=Pc q;have h0:AJ (WE z) (.int 0)=.ok (cst (some z.1)):=rfl;have hx:=zJ c z.1;by_cases hc:c.1<z.1.1\/(c.1=z.1.1/\c.2<z.1.2)
   ·have el:layA A p (some c) mid=Dz A p (c,mid):=by unfold layA;dsimp only;rw[q];dsimp only;rw[if_pos hc]
    rw[decide_eq_true hc] at hx;rw[el];refine B7 (ρ':=[some (.ow (.tree (some 0) (Na (Dz A p (c,mid))))),‹pD p›,‹cst (some c)›,‹CJ mid›]) (by
     simp_arith[aG,hm,hi,h0,hx,Fi,ED,wg,if_pos (And.intro i8 hl),iO,i8,hl,and_self,if_true];rfl) ⟨rfl,rfl⟩
   ·have el:layA A p (some c) mid=A:=by unfold layA;dsimp only;rw[q];dsimp only;rw[if_neg hc]
    rw[decide_eq_false hc] at hx;rw[el];refine B7 (ρ':=_) (by simp_arith[aG,hm,hi,h0,hx,Fi];rfl) ⟨rfl,rfl⟩
abbrev zX:=za7 Xf
def jW:Txt K mg->Rf P w K mg base "lay" 1 4 zX:=(za1 Xf).1
def jX:rC zX:=(za1 Xf).2
abbrev Q1 (F:OT->List D->M (OT×OT)):Prop:=∀(m:Nat) (A:LA) (p:Int) (H:List Int),m<=20->Hn m A->(∀x∈H,0<=x/\x<m)->F (Na A) [.int p,.lst (H.map D.int)]=.ok (Na (oK A p H),.sh .AL)
def Iv:∃F:OT->List D->M (OT×OT),(∀ {P w K mg base},Txt K mg->Rf P w K mg base "lay_over" 2 3 F)/\Q1 F:=by
 refine⟨_,λ T=>Up (k:=1) T.WZ Fq _ (λ f B6 A outer s H E hr=>(A5 (Bp A8.toXCall.own rfl (AY (!2)) (Av 3 Fq.nd rfl (zax rfl)) (A5 (Bp A8.toXCall.own rfl (AY (!2)) (Av 4 Fq.nd rfl (zax rfl)) (A5 (AU (Fl (c:=true) (!hr) (!3) (!4)) (A3 (AE 5 Fq.nd rfl (zax rfl) (Al (Ec (Ab A8.toXCall (G9 T) (-hr) rfl (A2 (Al (Ab A8.toXCall (Iq T) (-hr) rfl (A2 (!0) (A2 (AG (A2 (!3) (A2 (!1) A7))) A7)) rfl)) (A2 (Al (Ab A8.toXCall (Iq T) (-hr) rfl (A2 (!0) (A2 (AG (A2 (!1) (A2 (!4) A7))) A7)) rfl)) A7)) rfl)))) (A5 (OM (fU A8.toXCall (jW T) (-hr) rfl (Bs 0 (pv 0)) (A2 (AG (A2 (!3) (A2 (!4) A7))) (A2 (!5) (A2 (!1) A7))) rfl)))) As))))))),?_⟩;intro m A p H hm hA hH;dsimp only;have e0:Dl ["laid","place","higher","u","w","cost"] (Na A) [.int p,.lst (H.map D.int)]=[some (.ow (.tree (some 0) (Na A))),‹.int p›,‹.lst (H.map D.int)›,none,none,none]:=rfl;rw[e0];refine WL ?_;simp_arith[];refine Bt (λ i ρ=>∃s3 s4 s5:Option Cl,ρ=[some (.ow (.tree (some 0) (Na ((H.take i).foldl (ZL p H) A)))),‹.int p›,‹.lst (H.map D.int)›,s3,s4,s5]) ⟨none,none,none,rfl⟩ ?_ ?_
 ·rintro i d ρ hd ⟨s3,s4,s5,rfl⟩;obtain⟨u,hu,rfl⟩:=BB hd;have tu:=hH u (zai hu);refine⟨_,rfl,?_⟩;obtain⟨B,hB⟩:∃B,B=(H.take i).foldl (ZL p H) A:=⟨_,rfl⟩;have im:Hn m B:=by rw[hB];exact Hn.lo hH hA λ x hx=>hH x (zc7 hx)
  rw[<-hB,EU hu,<-hB];simp_arith[];refine Bt (λ j ρ=>∃s4 s5:Option Cl,ρ=[some (.ow (.tree (some 0) (Na ((H.take j).foldl (NY p u) B)))),‹.int p›,‹.lst (H.map D.int)›,‹.int u›,s4,s5]) ⟨s4,s5,rfl⟩ ?_ ?_
  ·rintro j d ρ hd ⟨s4,s5,rfl⟩;obtain⟨w,hw,rfl⟩:=BB hd;have hwm:=hH w (zai hw);refine⟨_,rfl,?_⟩;obtain⟨C,hC⟩:∃C,C=(H.take j).foldl (NY p u) B:=⟨_,rfl⟩;have uh:Hn m C:=by rw[hC];exact Hn.ou tu im λ x hx=>hH x (zc7 hx)
   rw[EU hw,<-hC];by_cases e:u=w
   ·have ev:NY p u C w=C:=by unfold NY;rw[if_pos e]
    rw[ev];refine B7 (ρ':=_) (by simp_arith[decide_eq_true e];rfl) ⟨_,_,rfl⟩
   ·have ev:NY p u C w=layA C (u,w) (Ap (Ac C (u,p)) (Ac C (p,w))) (some p):=by unfold NY;rw[if_neg e]
    rw[ev];have h1:=Ir C (u,p);have h2:=Ir C (p,w);have h3:=Ga (Ac C (u,p)) (Ac C (p,w));have h4:=jX C (u,w) (Ap (Ac C (u,p)) (Ac C (p,w))) (some p) (uh.len hm);have t1:∀a b:Int,D.tup [.int a,.int b]=pD (a,b):=λ a b=>rfl;have t2:CJ (some p)=.int p:=rfl;rw[t2] at h4;have h5:=Mb (ρ:=[some (.ow (.tree (some 0) (Na C))),‹.int p›,‹.lst (H.map D.int)›,‹.int u›,‹.int w›,‹cst (Ap (Ac C (u,p)) (Ac C (p,w)))›]) (i:=0) rfl rfl h4;simp_arith[decide_eq_false e,if_true];apply wp_step
    ·simp_arith[t1,h1,h2,h3];rfl
    refine B7 (ρ':=_) (by simp_arith[t1,h5];rfl) ⟨_,_,rfl⟩
  ·rintro ρ ⟨s4,s5,rfl⟩;rw[za2,zbs];exact⟨_,s4,s5,rfl⟩
 ·rintro ρ ⟨s3,s4,s5,rfl⟩;rw[za2,zbs];exact⟨rfl,trivial⟩
abbrev RQ:=za7 Iv
def Vs:Txt K mg->Rf P w K mg base "lay_over" 2 3 RQ:=(za1 Iv).1
def Vt:Q1 RQ:=(za1 Iv).2
abbrev MQ (F:List D->M OT):Prop:=∀(m:Nat) (rs:List Road) (L:List Int),m<=20->L.Perm (Bw m)->(∀r∈rs,GZ m r/\r.a≠r.b)->F [Ad m rs,.lst (L.map D.int)]=.ok (Na (BC rs L))
def GF:∃F,FT "laid_arcs" 3 2 F/\MQ F:=by
 refine⟨_,λ T=>Az (k:=2) T.Vg Dh _ (λ f B6 A outer s H E hr=>(A3 (BF 2 Dh.nd rfl (zax rfl) (Ur true)) (A3 (Bp A8.toXCall.own rfl (AY (Aa (!hr) (!0) A4)) (Av 3 Dh.nd rfl (zax rfl)) (A5 (OM (fU A8.toXCall (jW T) (-hr) rfl (Bs 2 (pv 2)) (A2 (AG (A2 (Aa (!hr) (!3) A4) (A2 (Aa (!hr) (!3) A4) A7))) (A2 (Al (Ab A8.toXCall (Eu T) (-hr) rfl (A2 (!3) A7) rfl)) (A2 Cw A7))) rfl)))) (A3 (Bp A8.toXCall.own rfl (Nr rfl T.Fu (!1)) (JG (n:=2) rfl (B0 (Av 4 Dh.nd rfl (zax rfl)) (B0 (Av 5 Dh.nd rfl (zax rfl)) Gp))) (A5 (OM (fU A8.toXCall (Vs T) (-hr) rfl (Bs 2 (pv 2)) (A2 (!5) (A2 (Al (ON (!1) (Nq (C7 (!4) A4)) XH)) A7)) rfl)))) (A5 (CM 2 (pv 2))))))),?_⟩;intro m rs L hm hL Aw;rfl';refine B1 ?_;have n1:AJ (Ad m rs) (.int 1)=.ok (.lst (rs.map Bo)):=rfl;apply wp_step
 ·rfl
 try simp only[zak,zaf]
 have ip:∀i,i<=rs.length->Hn m ((rs.take i).foldl (λ A r=>layA A (r.a,r.b) (BH r) none) []):=λ i hi=>by
  have:=(SV (m:=m) (rs:=rs.take i) λ r hr=>Aw r (zc7 hr)).1;exact this
 refine BA (I:=λ ρ=>∃s3 s4 s5:Option Cl,ρ=[‹Ad m rs›,‹.lst (L.map D.int)›,some (.ow (.tree none (Na (lay0 rs)))),s3,s4,s5]) ?_ ?_
 ·simp_arith[n1];refine Bt (λ i ρ=>i<=rs.length/\∃s3 s4 s5:Option Cl,ρ=[‹Ad m rs›,‹.lst (L.map D.int)›,some (.ow (.tree none (Na ((rs.take i).foldl (λ A r=>layA A (r.a,r.b) (BH r) none) [])))),s3,s4,s5]) ⟨zbb _,none,none,none,rfl⟩ ?_ ?_
  ·rintro i d ρ hd ⟨hi,s3,s4,s5,rfl⟩;obtain⟨r,hr,rfl⟩:=BB hd;have ag:=(zah.mp hr).1;refine⟨_,rfl,?_⟩;rw[EU hr];obtain⟨B,hB⟩:∃B,B=(rs.take i).foldl (λ A r=>layA A (r.a,r.b) (BH r) none) []:=⟨_,rfl⟩;have im:Hn m B:=by rw[hB];exact ip i hi
   rw[<-hB];have i0:AJ (Bo r) (.int 0)=.ok (.int r.a):=rfl;have i1:AJ (Bo r) (.int 1)=.ok (.int r.b):=rfl;have h1:=Ew r;have h2:=jX B (r.a,r.b) (BH r) none (im.len hm);have t1:∀a b:Int,D.tup [.int a,.int b]=pD (a,b):=λ a b=>rfl;have t2:CJ none=.AL:=rfl;rw[t2] at h2;have h5:=Mb (ρ:=[‹Ad m rs›,‹.lst (L.map D.int)›,some (.ow (.tree none (Na B))),‹Bo r›,s4,s5]) (i:=2) rfl rfl h2;refine B7 (ρ':=_) (by simp_arith[i0,i1,h1,t1,h5];rfl) ⟨ag,_,_,_,rfl⟩
  ·rintro ρ ⟨_,s3,s4,s5,rfl⟩;rw[za2,zbs];exact⟨s3,s4,s5,rfl⟩
 ·rintro ρ ⟨s3,s4,s5,rfl⟩;have nu:=SV Aw;refine BA (I:=λ ρ=>∃s3 s4 s5:Option Cl,ρ=[‹Ad m rs›,‹.lst (L.map D.int)›,some (.ow (.tree none (Na (BC rs L)))),s3,s4,s5]) ?_ ?_
  ·simp_arith[];refine Bt (λ i ρ=>i<=L.length/\∃(G:LA) (s3 s4 s5:Option Cl),ρ=[‹Ad m rs›,‹.lst (L.map D.int)›,some (.ow (.tree none (Na G))),s3,s4,s5]/\Hn m G/\Qg G (L.drop i)=Qg (lay0 rs) L) ⟨zbb _,lay0 rs,s3,s4,s5,rfl,nu.1,rfl⟩ ?_ ?_
   ·rintro i d ρ hd ⟨hi,G,s3,s4,s5,rfl,hG,lg⟩;obtain⟨d',aB,rfl⟩:=FV hd;obtain⟨p,hp,rfl⟩:=BB aB;have ag:=(zah.mp hp).1;rw[Nat.zero_add];refine⟨_,rfl,?_⟩;have b5:∀x∈L.drop (i+1),0<=x/\x<m:=λ x hx=>(Ba hL).mp (List.mem_of_mem_drop hx);have ed:L.drop i=p::L.drop (i+1):=by
     rw[zco ag];rw[za6 ag] at hp;rw[zas hp]
    rw[ed,Qg] at lg;have h2:=Vt m G p (L.drop (i+1)) hm hG b5;have sl:mP (some ((i:Int)+1)) none (.lst (L.map D.int))=.ok (.lst (((L.drop (i+1)).map D.int).map .sh)):=by rw[List.map_drop];exact Uw _ (i+1)
    have h5:=Mb (ρ:=[‹Ad m rs›,‹.lst (L.map D.int)›,some (.ow (.tree none (Na G))),s3,‹.int i›,‹.int p›]) (i:=2) rfl rfl h2;refine B7 (ρ':=_) (by simp_arith[sl,h5];rfl) ⟨ag,_,_,_,_,rfl,Hn.lo b5 hG b5,lg⟩
   ·rintro ρ ⟨_,G,s3,s4,s5,rfl,hG,lg⟩;rw[CW,za2,zcm,Qg] at lg;exact⟨s3,s4,s5,by rw[lg];rfl⟩
  ·rintro ρ ⟨s3,s4,s5,rfl⟩;exact⟨_,rfl,rfl⟩
abbrev Q2:=za7 GF
def To:FT "laid_arcs" 3 2 Q2:=(za1 GF).1
def Tp:MQ Q2:=(za1 GF).2
abbrev Q3 (F:List D->M OT):Prop:=∀(m:Nat) (x:D) (L:List Int),m<=60->L.Perm (Bw m)->F [.tup [.int m,x],.lst (L.map .int)]=.ok (.sh (.bl true))
def Iw:∃F,FT "is_order" 2 2 F/\Q3 F:=by
 refine⟨_,λ T=>Az (k:=1) T.X0 Va _ (λ f B6 A outer s H E hr=>(A3 (AU (DW.dt (CH (By (Bb (c:=true) (Dc (IH _) rfl T.AQ rfl T.EW (by decide +kernel) (!1)))) (Cg (Fl (c:=true) (!hr) (D9 rfl T.EV (!1)) (Aa (!hr) (!0) A4))))) (A5 (Ai (AI CG))) As) (A3 (AU (By (Bb (c:=true) (fF rfl rfl T.rA (Al (Dd (NB:=["place","net"]) [none,some 0] rfl (AY (!1)) rfl rfl (Bz 0 (by decide) rfl rfl rfl) (λ _ _ _ _=>DM) (λ _ _ _ _=>(Al (BX (Ab (Bq rfl).toXCall (B2 T) (-hr) rfl (A2 (!0) (A2 (Aa (!hr) (!1) A4) A7)) rfl))))))))) (A5 (Ai (AI CG))) As) (A5 (Ai (AI (Ue (!hr) (Al (Zr rfl rfl T.jQ (!1))) (Al (Kq rfl rfl T.EW rfl T.Ct (Aa (!hr) (!0) A4)))))))))),?_⟩;intro m x L hm hL;rfl';have n0:AJ (.tup [.int m,x]) (.int 0)=.ok (.int m):=rfl;refine B1 ?_;have hlen:=HX hL;have h1:decide (((L.map D.int).length:Int)=(m:Int))=true:=decide_eq_true (by rw[za2];omega);have hl:(L.map D.int).length<=1000:=by rw[za2];omega
 have hs:=Zq (ns:=L) (by omega);have h3:=SD (n:=m) (by omega);rw[P7] at h3;have e:decide (HQ L=Bw m)=true:=decide_eq_true (ZH.mpr hL);apply wp_step
 ·simp_arith[n0,h1];rfl
 apply wp_step
 ·simp_arith[if_pos hl];rw[C9 (λ _:Int=>D.bl true) (λ j hj=>⟨_,rfl,rfl,by
   have hj2:=HV.mp (hL.mem_iff.mp hj);have:=B3 j m (by omega) (by omega);simp_arith[n0,this]⟩)]
  simp_arith[zT];rfl
 simp_arith[n0,hs,h3,iE,e];rfl
abbrev RS:=za7 Iw
def Vu:FT "is_order" 2 2 RS:=(za1 Iw).1
def Vv:Q3 RS:=(za1 Iw).2
abbrev Hg (F:List D->M OT):Prop:=∀(m:Nat) (x:D) (L:List Int),m<=60->L.Perm (Bw m)->F [.tup [.int m,x],.lst (L.map .int)]=.ok (.lst ((L.map D.int).map .sh))
def DJ:∃F,FT "checked_order" 3 2 F/\Hg F:=by
 refine⟨_,λ T=>Az (k:=2) T.Ng Mg _ (λ f B6 A outer s H E hr=>(A3 (AU (By (Bb (c:=true) (Al (Ab A8.toXCall (Vu T) (-hr) rfl (A2 (!0) (A2 (!1) A7)) rfl)))) (A5 Wo) As) (A5 (Ai (Nw rfl T.EW (!1)))))),?_⟩;intro m x L hm hL;rfl';have h1:=Vv m x L hm hL;refine B1 ?_;apply wp_step
 ·simp_arith[h1];rfl
 simp_arith[];exact⟨_,rfl,rfl⟩
abbrev F7:=za7 DJ
def Mn:FT "checked_order" 3 2 F7:=(za1 DJ).1
def Mo:Hg F7:=(za1 DJ).2
abbrev LL (F:List D->M OT):Prop:=∀(m:Nat) (rs:List Road),m<=20->(∀r∈rs,GZ m r/\r.a≠r.b)->F [Ad m rs]=.ok (.BG true ((Cm rs).map pD) ((DZ (Cm rs)).map .sh))
def FL:∃F,FT "first_bows" 2 1 F/\LL F:=by
 refine⟨_,λ T=>Az (k:=1) T.Th FE _ (λ f B6 A outer s H E hr=>(A3 (BF 1 FE.nd rfl (zax rfl) (Ur true)) (A3 (Bp A8.toXCall.own rfl (AY (Aa (!hr) (!0) A4)) (Av 2 FE.nd rfl (zax rfl)) (A5 (AU (Gm (c:=true) (Al (Ab A8.toXCall (Eu T) (-hr) rfl (A2 (!2) A7) rfl))) (A5 (NA (!hr) (Bs 1 (pv 1)) (AG (A2 (Aa (!hr) (!2) A4) (A2 (Aa (!hr) (!2) A4) A7))) CG)) As))) (A5 (CM 1 (pv 1)))))),?_⟩;intro m rs hm Aw;rfl';refine B1 ?_;apply wp_step
 ·rfl
 have n1:AJ (Ad m rs) (.int 1)=.ok (.lst (rs.map Bo)):=rfl;refine BA (I:=λ ρ=>∃s2,ρ=[‹Ad m rs›,some (.ow (.tree none (.BG true ((Cm rs).map pD) ((DZ (Cm rs)).map .sh)))),s2]) ?_ ?_
 ·simp_arith[n1];refine Bt (λ i ρ=>∃s2,ρ=[‹Ad m rs›,some (.ow (.tree none (.BG true ((Cm (rs.take i)).map pD) ((DZ (Cm (rs.take i))).map .sh)))),s2]) ⟨none,rfl⟩ ?_ ?_
  ·rintro i d ρ hd ⟨s2,rfl⟩;rw[zan] at hd;cases hq:rs[i]? with
   |none=>rw[hq] at hd;cases hd
   |some r =>
    rw[hq] at hd;cases hd;have hr:=zai hq;have et:rs.take (i+1)=rs.take i++[r]:=by rw[zbt,hq];rfl
    have eb:Cm (rs.take (i+1))=(match r.l with|none=>Cm (rs.take i)|some _=>M7 (Cm (rs.take i)) (r.a,r.b)):=by
     unfold Cm;rw[et,List.foldl_append];rfl
    have ui:=UP (m:=m) (rs:=rs.take i) λ r' h'=>Aw r' (zc7 h');have hlen:=ui.len hm;have h1:=Ew r;refine⟨_,rfl,?_⟩;cases hl:r.l with
    |none =>
     have e1:BH r=none:=by unfold BH;rw[hl]
     rw[hl] at eb;rw[e1] at h1;simp_arith[h1,cst,AZ];exact⟨_,by rw[eb]⟩
    |some l =>
     have e1:BH r=some (l,1):=by unfold BH;rw[hl]
     rw[hl] at eb;rw[e1] at h1;have i0:AJ (Bo r) (.int 0)=.ok (.int r.a):=rfl;have i1:AJ (Bo r) (.int 1)=.ok (.int r.b):=rfl;have kk:keyOk true (D.tup [.int r.a,.int r.b])=true/\((Cm (rs.take i)).map pD).length<1000:=⟨rfl,by rw[za2];exact hlen⟩;have pp:putD ((Cm (rs.take i)).map pD) (DZ (Cm (rs.take i))) (D.tup [.int r.a,.int r.b]) (.bl true)=_:=Yk (Cm (rs.take i)) (r.a,r.b);simp_arith[h1,cst,AZ,Bool.not_false,if_true,i0,i1,if_pos kk,pp];exact⟨_,by rw[eb]⟩
  ·rintro ρ ⟨s2,rfl⟩;rw[za2,zbs];exact⟨s2,rfl⟩
 ·rintro ρ ⟨s2,rfl⟩;exact⟨_,rfl,rfl⟩
abbrev MR:=za7 FL
def QJ:FT "first_bows" 2 1 MR:=(za1 FL).1
def QK:LL MR:=(za1 FL).2
abbrev Iy (F:List D->M OT):Prop:=∀(B:List (Int×Int)) (vs:List D) (L:List Int) (v:Int),L.length<=30->F [.BG true (B.map pD) vs,.lst (L.map .int),.int v]=.ok (.lst (((Bh B L v).map pD).map .sh))
def Ek:∃F,FT "missing_bows" 1 3 F/\Iy F:=by
 refine⟨_,λ T=>Az (k:=0) T.PL Cc _ (λ f B6 A outer s H E hr=>(A3 (Ke (NB:=["u","bows","place"]) 3 [none,some 0,some 2] Cc.nd rfl (zax rfl) rfl (AY (!1)) rfl rfl (Bz 0 (by decide) rfl rfl rfl) (λ _ _ _ _=>Ep (M5 (c:=true) (!hr) (AG (A2 (!0) (A2 (!2) A7))) (!1))) (λ _ _ _ _=>(!0))) (A3 (Ke (NB:=["w","bows","place"]) 4 [none,some 0,some 2] Cc.nd rfl (zax rfl) rfl (AY (!1)) rfl rfl (Bz 0 (by decide) rfl rfl rfl) (λ _ _ _ _=>Ep (M5 (c:=true) (!hr) (AG (A2 (!2) (A2 (!0) A7))) (!1))) (λ _ _ _ _=>(!0))) (A3 (BF 5 Cc.nd rfl (zax rfl) (Gq CL)) (A3 (Bp A8.toXCall.own rfl (AY (!3)) (Av 6 Cc.nd rfl (Or.inr rfl)) (A5 (Ww (Bs 5 (pv 5)) (by exact (Dd (NB:=["w","u","bows"]) [none,some 6,some 0] rfl (AY (!4)) rfl rfl (Bz 0 (by decide) rfl rfl rfl) (λ _ _ _ _=>Ep (DW.dt (LY (Fl (c:=true) (!hr) (!1) (!0)) (IG (Ny (c:=true) (!hr) (AG (A2 (!1) (A2 (!0) A7))) (!2)))))) (λ _ _ _ _=>(AG (A2 (!1) (A2 (!0) A7))))))))) (A5 (CM 5 (pv 5)))))))),?_⟩;intro B vs L v hl;rfl';refine B1 ?_;have hL:(L.map D.int).length<=1000:=by rw[za2];omega
 apply wp_step
 ·simp_arith[if_pos hL];rw[BR (λ u=>decide ((u,v)∈B)) D.int (λ u hu=>⟨_,rfl,by simp[zB,zC,NS,zak,zaf,M.A9,IL,IK,Kk,KH,KI,KJ,NG,JL,JM,Rh,Kv,Kw,IQ,XU,ND,NE,Kx,mV,IR,IS,Gu,SF,Dv,SG,Ky,Kz,IT,XY,Ku,EK,toCl_list,toCl_listP,toCl_dct,NH,KL,KN,KO,KQ,NI,KR,KS,KU,vZ,vY,KA,XZ,KC,Y0,KD,KG,NF,Y1,muC,muN,mY,mZ,nA,nB,nE,nF,toCl_nil,Kd,GX,Qq,SH,IU,NJ,NK,KW,KY,NM,NO,NP,NQ,NR,KZ,L0,L3,L4,IV,IW,IX,IY,IZ,L5,J0,J1,Y2,Y3,Y4,Y5,Y6,J2,ite_tt,ite_ff,Bool.not_true,Bool.not_false,zc0,zb1,G2,HW,Ld,mX,oA,mW,oE,oF,oG,NW,SY,T4,T5,ED,J5,NZ,OZ,oS,Yq,T8,SO],λ _=>by simp_arith[]⟩)];simp_arith[];rfl
 apply wp_step
 ·simp_arith[if_pos hL];rw[BR (λ w=>decide ((v,w)∈B)) D.int (λ u hu=>⟨_,rfl,by simp[zB,zC,NS,zak,zaf,M.A9,IL,IK,Kk,KH,KI,KJ,NG,JL,JM,Rh,Kv,Kw,IQ,XU,ND,NE,Kx,mV,IR,IS,Gu,SF,Dv,SG,Ky,Kz,IT,XY,Ku,EK,toCl_list,toCl_listP,toCl_dct,NH,KL,KN,KO,KQ,NI,KR,KS,KU,vZ,vY,KA,XZ,KC,Y0,KD,KG,NF,Y1,muC,muN,mY,mZ,nA,nB,nE,nF,toCl_nil,Kd,GX,Qq,SH,IU,NJ,NK,KW,KY,NM,NO,NP,NQ,NR,KZ,L0,L3,L4,IV,IW,IX,IY,IZ,L5,J0,J1,Y2,Y3,Y4,Y5,Y6,J2,ite_tt,ite_ff,Bool.not_true,Bool.not_false,zc0,zb1,G2,HW,Ld,mX,oA,mW,oE,oF,oG,NW,SY,T4,T5,ED,J5,NZ,OZ,oS,Yq,T8,SO],λ _=>by simp_arith[]⟩)];simp_arith[];rfl
 apply wp_step
 ·rfl
 try simp only[zak,zaf]
 have wj:((L.filter λ w=>decide ((v,w)∈B)).map D.int).length<=1000:=by rw[za2];exact zbu (zd0 _ _) (by omega)
 have hlen:=ZD B L v;have hsq:L.length*L.length<=30*30:=Nat.mul_le_mul hl hl;generalize hA:L.filter (λ u=>decide ((u,v)∈B))=A;generalize hW:L.filter (λ w=>decide ((v,w)∈B))=W at wj ⊢;obtain⟨G,hG⟩:∃G:Int->List (Int×Int),G=λ u=>((W.filter λ w=>decide (u≠w) && !decide ((u,w)∈B)).map λ w=>(u,w)):=⟨_,rfl⟩;have f9:Bh B L v=A.flatMap G:=by unfold Bh;rw[hA,hW,hG]
 refine BA (I:=λ ρ=>∃s6,ρ=[‹.BG true (B.map pD) vs›,‹.lst (L.map .int)›,‹.int v›,‹.lst (A.map .int)›,‹.lst (W.map .int)›,some (.own ((A.flatMap G).map pD)),s6]) ?_ ?_
 ·simp_arith[];refine Bt (λ i ρ=>∃s6,ρ=[‹.BG true (B.map pD) vs›,‹.lst (L.map .int)›,‹.int v›,‹.lst (A.map .int)›,‹.lst (W.map .int)›,some (.own (((A.take i).flatMap G).map pD)),s6]) ⟨none,rfl⟩ ?_ ?_
  ·rintro i d ρ hd ⟨s6,rfl⟩;obtain⟨u,hu,rfl⟩:=BB hd;have et:A.take (i+1)=A.take i++[u]:=by rw[zbt,hu];rfl
   refine⟨_,rfl,?_⟩;have hb:(((A.take i).flatMap G).map pD).length+((G u).map pD).length<=1000:=by
    have h1:((A.take (i+1)).flatMap G).length<=(A.flatMap G).length:=by
     conv=>rhs;rw[<-zcf (i+1) A,List.flatMap_append,zal]
     omega
    rw[et,List.flatMap_append,zal] at h1;rw[f9] at hlen;simp only[List.flatMap_cons,List.flatMap_nil,zb7] at h1;rw[za2,za2];omega
   have mn:(((W.filter λ w=>decide (u≠w) && !decide ((u,w)∈B)).map λ w=>(u,w)).map pD)=(W.filter λ w=>decide (u≠w) && !decide ((u,w)∈B)).map λ w=>D.tup [.int u,.int w]:=by rw[zbm];rfl
   refine B7 (ρ':=[‹.BG true (B.map pD) vs›,‹.lst (L.map .int)›,‹.int v›,‹.lst (A.map .int)›,‹.lst (W.map .int)›,some (.own (((A.take (i+1)).flatMap G).map pD)),‹.int u›]) ?_ ⟨_,rfl⟩;simp_arith[if_pos wj];rw[BR (λ w=>decide (u≠w) && !decide ((u,w)∈B)) (λ w=>D.tup [.int u,.int w]) (λ w hw=>⟨_,rfl,by
    simp[zB,zC,NS,zak,zaf,M.A9,IL,IK,Kk,KH,KI,KJ,NG,JL,JM,Rh,Kv,Kw,IQ,XU,ND,NE,Kx,mV,IR,IS,Gu,SF,Dv,SG,Ky,Kz,IT,XY,Ku,EK,toCl_list,toCl_listP,toCl_dct,NH,KL,KN,KO,KQ,NI,KR,KS,KU,vZ,vY,KA,XZ,KC,Y0,KD,KG,NF,Y1,muC,muN,mY,mZ,nA,nB,nE,nF,toCl_nil,Kd,GX,Qq,SH,IU,NJ,NK,KW,KY,NM,NO,NP,NQ,NR,KZ,L0,L3,L4,IV,IW,IX,IY,IZ,L5,J0,J1,Y2,Y3,Y4,Y5,Y6,J2,ite_tt,ite_ff,Bool.not_true,Bool.not_false,zc0,zb1,G2,HW,Ld,mX,oA,mW,oE,oF,oG,NW,SY,T4,T5,ED,J5,NZ,OZ,oS,Yq,T8,SO,XG,Si,CF,Bv];by_cases h:u=w<;>simp[h],λ _=>by simp_arith[]⟩)]
   rw[<-mn];have zd:((W.filter λ w=>decide (u≠w) && !decide ((u,w)∈B)).map λ w=>(u,w))=G u:=by rw[hG]
   rw[zd];simp_arith[if_pos hb];rw[et,List.flatMap_append,List.flatMap_cons,List.flatMap_nil,zb7,<-zb3]
  ·rintro ρ ⟨s6,rfl⟩;rw[za2,zbs];exact⟨s6,rfl⟩
 ·rintro ρ ⟨s6,rfl⟩;rw[f9];exact⟨_,rfl,rfl⟩
abbrev Jv:=za7 Ek
def Hh:FT "missing_bows" 1 3 Jv:=(za1 Ek).1
def Hi:Iy Jv:=(za1 Ek).2
abbrev Q4 (F:List D->M OT):Prop:=∀(B:List (Int×Int)) (vs:List D) (L:List Int),L≠[]->L.length<=30->F [.BG true (B.map pD) vs,.lst (L.map .int)]=.ok (.sh (.int (BO B L)))
def Iz:∃F,FT "lightest" 2 2 F/\Q4 F:=by
 refine⟨_,λ T=>Az (k:=1) T.X1 Vb _ (λ f B6 A outer s H E hr=>(A5 (Ai (AI (Aa (!hr) (mN rfl (!hr) rfl T.jP (Al (Dd (NB:=["place","bows","left"]) [none,some 0,some 1] rfl (AY (!1)) rfl rfl (Bz 0 (by decide) rfl rfl rfl) (λ _ _ _ _=>DM) (λ _ _ _ _=>(AG (A2 (D9 rfl T.EV (Al (BX (Ab (Bq rfl).toXCall (Hh T) (-hr) rfl (A2 (!1) (A2 (!2) (A2 (!0) A7))) rfl)))) (A2 (!0) A7))))))) A4))))),?_⟩;intro B vs L ae hl;rfl';refine B1 ?_;have hL:(L.map D.int).length<=1000:=by rw[za2];omega
 simp_arith[if_pos hL];rw[C9 (λ p=>D.tup ([((Bh B L p).length:Int),p].map D.int)) (λ p hp=>⟨_,rfl,rfl,by
  have h1:=Hi B vs L p hl;simp_arith[h1,Wg,za2,za5,zcy]⟩)]
 simp_arith[XT];rw[Rt];have hb:=ZE (λ p=>D.tup ([((Bh B L p).length:Int),p].map D.int)) (L.map λ p=>(p,[((Bh B L p).length:Int),p]));rw[zbm] at hb;have e2:((λ b:Int×List Int=>(D.tup ([((Bh B L b.1).length:Int),b.1].map D.int),b.2)) ∘ λ p=>(p,[((Bh B L p).length:Int),p]))=λ p=>(D.tup ([((Bh B L p).length:Int),p].map D.int),[((Bh B L p).length:Int),p]):=rfl;rw[e2] at hb;dsimp only;rw[hb];unfold BO;cases q:Bj (L.map λ p=>(p,[((Bh B L p).length:Int),p])) with
 |none=>exact (Oj (λ z=>ae (List.map_eq_nil_iff.mp z)) q).elim
 |some k =>
  simp only[zbr,M.A9];rfl
abbrev RT:=za7 Iz
def Vw:FT "lightest" 2 2 RT:=(za1 Iz).1
def Vx:Q4 RT:=(za1 Iz).2
abbrev Vy (F:List D->M OT):Prop:=∀(m:Nat) (rs:List Road),m<=20->(∀r∈rs,GZ m r/\r.a≠r.b)->F [Ad m rs]=.ok (.lst (((ZG m (Cm rs) (Bw m)).map D.int).map .sh))
def Mp:∃F,FT "ranked" 3 1 F/\Vy F:=by
 refine⟨_,λ T=>Az (k:=2) T.jN EE _ (λ f B6 A outer s H E hr=>(A3 (BF 1 EE.nd rfl (zax rfl) (Ab A8.toXCall (QJ T) (-hr) rfl (A2 (!0) A7) rfl)) (A3 (BF 2 EE.nd rfl (zax rfl) (Kq rfl rfl T.EW rfl T.Ct (Aa (!hr) (!0) A4))) (A3 (BF 3 EE.nd rfl (zax rfl) (Gq CL)) (A3 (Kg A8.toXCall.own (HH (Bb (c:=true) (!2))) (A3 (AE 4 EE.nd rfl (zax rfl) (Al (Ec (Ab A8.toXCall (Vw T) (-hr) rfl (A2 (!1) (A2 (!2) A7)) rfl)))) (A3 (Bp A8.toXCall.own rfl (AY (Al (Ec (Ab A8.toXCall (Hh T) (-hr) rfl (A2 (!1) (A2 (!2) (A2 (!4) A7))) rfl)))) (Av 5 EE.nd rfl (zax rfl)) (A5 (NA (!hr) (Bs 1 (pv 1)) (!5) CG))) (A3 (Zn (Bs 2 (pv 2)) (!4)) (A5 (II 3 (pv 3) (!4))))))) (A5 (CM 3 (pv 3)))))))),?_⟩;intro m rs hm Aw;rfl';refine B1 ?_;have h1:=QK m rs hm Aw;have n0:AJ (Ad m rs) (.int 0)=.ok (.int m):=rfl;have h2:=SD (n:=m) (by omega);rw[P7] at h2;apply wp_step
 ·simp_arith[h1];rfl
 apply wp_step
 ·simp_arith[n0,h2];rfl
 apply wp_step
 ·rfl
 try simp only[zak,zaf]
 refine BA (I:=λ ρ=>∃s1 s2 s4 s5,ρ=[‹Ad m rs›,s1,s2,some (.own ((ZG m (Cm rs) (Bw m)).map D.int)),s4,s5]) ?_ ?_
 ·refine Ks (lt:=λ a b:Nat=>a<b) (λ n ρ=>∃(B:List (Int×Int)) (L O:List Int) (s4 s5:Option Cl),ρ=[‹Ad m rs›,some (.ow (.tree none (.BG true (B.map pD) ((DZ B).map .sh)))),some (.own (L.map D.int)),some (.own (O.map D.int)),s4,s5]/\L.length=n/\n+O.length=m/\CB m B/\(∀p∈L,0<=p/\p<(m:Int))/\O++ZG n B L=ZG m (Cm rs) (Bw m)) (Nat.lt_wfRel.wf.apply m) ⟨Cm rs,Bw m,[],none,none,rfl,ES m,by simp,UP Aw,λ p hp=>HV.mp hp,rfl⟩ ?_;rintro n ρ ⟨B,L,O,s4,s5,rfl,hn,hO,hB,hL,dL⟩;by_cases lh:L=[]
  ·subst lh;left;have:n=0:=by simpa using hn.symm
   subst this;rw[ZG,zb7] at dL;exact⟨rfl,⟨_,_,_,_,by rw[dL]⟩⟩
  ·right;have li:L.length<=30:=by omega
   have q1:=Vx B (DZ B) L lh li;have q2:=Hi B (DZ B) L (BO B L) li;obtain⟨aQ,_⟩:=Rv (B:=B) lh;have lj:0<L.length:=List.length_pos_of_mem aQ;obtain⟨n',rfl⟩:∃n',n=n'+1:=⟨n-1,by omega⟩;rw[ZG,if_neg lh] at dL;constructor
   ·simp_arith[Uv];cases L with
    |nil=>exact (lh rfl).elim
    |cons x r=>rfl
   apply wp_step
   ·simp_arith[q1,uB nI];rfl
   try simp only[zak,zaf]
   have b7:Kj ((Bh B L (BO B L)).map pD)=true:=Ut iB _;refine BA (I:=λ ρ=>∃s5,ρ=[‹Ad m rs›,some (.ow (.tree none (.BG true ((Cz B (Bh B L (BO B L))).map pD) ((DZ (Cz B (Bh B L (BO B L)))).map .sh)))),some (.own (L.map D.int)),some (.own (O.map D.int)),‹.int (BO B L)›,s5]) ?_ ?_
   ·simp_arith[q2,nG b7];refine Bt (λ i ρ=>∃s5,ρ=[‹Ad m rs›,some (.ow (.tree none (.BG true ((Cz B ((Bh B L (BO B L)).take i)).map pD) ((DZ (Cz B ((Bh B L (BO B L)).take i))).map .sh)))),some (.own (L.map D.int)),some (.own (O.map D.int)),‹.int (BO B L)›,s5]) ⟨s5,rfl⟩ ?_ ?_
    ·rintro i d ρ hd ⟨s5,rfl⟩;obtain⟨p,hp,rfl⟩:=BB hd;refine⟨_,rfl,?_⟩;have ze:CB m (Cz B ((Bh B L (BO B L)).take i)):=hB.Cz λ q hq=>by
      have:=Ru (zc7 hq);exact⟨this.2.2,hL _ this.1,hL _ this.2.1⟩
     have kk:keyOk true (pD p)=true/\((Cz B ((Bh B L (BO B L)).take i)).map pD).length<1000:=⟨rfl,by rw[za2];exact ze.len hm⟩;have et:(Bh B L (BO B L)).take (i+1)=(Bh B L (BO B L)).take i++[p]:=by rw[zbt,hp];rfl
     have ea:Cz B ((Bh B L (BO B L)).take (i+1))=M7 (Cz B ((Bh B L (BO B L)).take i)) p:=by
      unfold Cz;rw[et,List.foldl_append];rfl
     simp_arith[if_pos kk,Yk];exact⟨_,by rw[ea]⟩
    ·rintro ρ ⟨s5,rfl⟩;rw[za2,zbs];exact⟨s5,rfl⟩
   ·rintro ρ ⟨s5,rfl⟩;have zf:(O.map D.int).length<1000:=by rw[za2];omega
    apply wp_step
    ·simp_arith[EB,if_pos aQ];rfl
    refine B7 (ρ':=[‹Ad m rs›,some (.ow (.tree none (.BG true ((Cz B (Bh B L (BO B L))).map pD) ((DZ (Cz B (Bh B L (BO B L)))).map .sh)))),some (.own ((L.erase (BO B L)).map D.int)),some (.own ((O++[BO B L]).map D.int)),‹.int (BO B L)›,s5]) ?_ ?_
    ·simp_arith[if_pos zf,zb3,za5,zcy]
    ·have hlen:=List.length_erase_of_mem aQ;refine⟨n',by omega,_,_,_,_,_,rfl,by omega,by rw[zal];simp;omega,hB.Cz λ q hq=>?_,λ p hp=>hL p (List.mem_of_mem_erase hp),?_⟩
     ·have:=Ru hq;exact⟨this.2.2,hL _ this.1,hL _ this.2.1⟩
     ·rw[zbg];exact dL
 ·rintro ρ ⟨s1,s2,s4,s5,rfl⟩;exact⟨_,rfl,rfl⟩
abbrev YH:=za7 Mp
def cC:FT "ranked" 3 1 YH:=(za1 Mp).1
def cD:Vy YH:=(za1 Mp).2
abbrev Fw (F:List D->M OT):Prop:=∀(m:Nat) (rs:List Road),m<=20->(∀r∈rs,GZ m r/\r.a≠r.b)->(∀L:List Int,L.Perm (Bw m)->F [Ad m rs,.lst (L.map .int)]=.ok (.lst ((L.map D.int).map .sh)))/\F [Ad m rs,.AL]=.ok (.lst (((ZG m (Cm rs) (Bw m)).map D.int).map .sh))
def CT:∃F,FT "order_or_ranked" 4 2 F/\Fw F:=by
 refine⟨_,λ T=>Az (k:=3) T.Lw JP _ (λ f B6 A outer s H E hr=>(A3 (AU (Eb (c:=true) (!1)) (A5 (Ai (Ab A8.toXCall (cC T) (-hr) rfl (A2 (!0) A7) rfl))) As) (A5 (Ai (Ab A8.toXCall (Mn T) (-hr) rfl (A2 (!0) (A2 (!1) A7)) rfl))))),?_⟩;intro m rs hm Aw;have h1:=cD m rs hm Aw;refine⟨λ L hL=>?_,?_⟩
 ·have h2:F7 [Ad m rs,.lst (L.map .int)]=.ok (.lst ((L.map D.int).map .sh)):=Mo m (.lst (rs.map Bo)) L (by omega) hL;rfl';refine B1 ?_;apply wp_step
  ·rfl
  simp_arith[h2];exact⟨_,rfl,rfl⟩
 ·rfl';refine B1 ?_;simp_arith[AZ,h1];exact⟨_,rfl,rfl⟩
abbrev DK:=za7 CT
def JY:FT "order_or_ranked" 4 2 DK:=(za1 CT).1
def F8:Fw DK:=(za1 CT).2
abbrev MS (F:List D->M OT):Prop:=∀(m:Nat) (rs:List Road) (A:LA),m<=20->(∀r∈rs,GZ m r)->Hn m A->∃K:List (Int×Int),F [Ad m rs,Qu A]=.ok (.lst ((K.map pD).map .sh))/\K.Nodup/\∀p,p∈K↔KP rs A p
def GG:∃F,FT "kept_arcs" 3 2 F/\MS F:=by
 refine⟨_,λ T=>Az (k:=2) T.Vh Et _ (λ f B6 A outer s H E hr=>(A3 (BF 2 Et.nd rfl (zax rfl) (Gq CL)) (A3 (Bp A8.toXCall.own rfl (BW (c:=true) rfl T.Ct (Aa (!hr) (!0) A4)) (Av 3 Et.nd rfl (Or.inr rfl)) (A3 (AE 4 Et.nd rfl (Or.inr rfl) (Al (Ab A8.toXCall (QG T) (-hr) rfl (A2 (!0) (A2 (!3) A7)) rfl))) (A5 (Ww (Bs 2 (pv 2)) (by exact (Dd (NB:=["w","u","laid","costs"]) [none,some 3,some 1,some 4] rfl (BW (c:=true) rfl T.Ct (Aa (!hr) (!0) A4)) rfl rfl (Bz 0 (by decide) rfl rfl rfl) (λ _ _ _ _=>Ep (DW.dt (LY (M5 (c:=true) (!hr) (AG (A2 (!1) (A2 (!0) A7))) (!2)) (IG (Jd (c:=true) (!hr) (Aa (!hr) (Aa (!hr) (!2) (AG (A2 (!1) (A2 (!0) A7)))) A4) (Aa (!hr) (!3) (!0))))))) (λ _ _ _ _=>(AG (A2 (!1) (A2 (!0) A7)))))))))) (A5 (CM 2 (pv 2)))))),?_⟩;intro m rs A hm Aw hA;rfl';refine (λ h:∃t,_/\∃K:List (Int×Int),t=.lst ((K.map pD).map .sh)/\K.Nodup/\∀p,p∈K↔KP rs A p=>by
  obtain⟨t,h1,K,rfl,h2⟩:=h;exact⟨K,h1,h2⟩) (Kt ?_)
 have n0:AJ (Ad m rs) (.int 0)=.ok (.int m):=rfl;have hr:Wm (.int (m:Int))=.ok ((Bw m).map D.int):=by rw[Hz (by omega),WM]
 have hl:((Bw m).map D.int).length<=1000:=by rw[za2,ES];omega
 apply wp_step
 ·rfl
 try simp only[zak,zaf]
 refine BA (I:=λ ρ=>∃(K:List (Int×Int)) (s3 s4:Option Cl),ρ=[‹Ad m rs›,‹Qu A›,some (.own (K.map pD)),s3,s4]/\K.Nodup/\∀p,p∈K↔KP rs A p) ?_ ?_
 ·simp_arith[n0,hr];refine Bt (λ i ρ=>i<=m/\∃(K:List (Int×Int)) (s3 s4:Option Cl),ρ=[‹Ad m rs›,‹Qu A›,some (.own (K.map pD)),s3,s4]/\K.Nodup/\∀p,p∈K↔(p.1<i/\KP rs A p)) ⟨zbb _,[],none,none,rfl,zby,λ p=>⟨(λ h=>by cases h),λ h=>by
   obtain⟨c,hc,_⟩:=h.2;have:=(hA.rg p (ET hc)).2.1;omega⟩⟩ ?_ ?_
  ·rintro i d ρ hd ⟨hi,K,s3,s4,rfl,hn,hK⟩;obtain⟨u,hu,rfl⟩:=BB hd;have ag:i<m:=by have:=(zah.mp hu).1;rw[ES] at this;exact this
   have eu:u=(i:Int):=by
    unfold Bw at hu;rw[zan,zc1 ag] at hu;exact (zas hu).symm
   subst eu;obtain⟨cs,hR,hF⟩:=Js m i rs ag (by omega) Aw;refine⟨_,rfl,?_⟩;apply wp_step
   ·simp_arith[hF];rfl
   try simp only[zak,zaf]
   obtain⟨W,hW⟩:∃W,W=(Bw m).filter λ w=>zK A cs i w:=⟨_,rfl⟩;have wk:∀w,w∈W↔KP rs A ((i:Int),w):=λ w=>by
    rw[hW,zb2,HV];constructor
    ·rintro ⟨hw,h⟩;exact (iQ hR Aw hw.1 hw.2).mp h
    ·intro h;obtain⟨c,hc,_⟩:=id h;have:=(hA.rg _ (ET hc)).2.2;exact⟨this,(iQ hR Aw this.1 this.2).mpr h⟩
   have zg:W.Nodup:=by rw[hW];exact (P8 m).filter _
   have a5:(K++W.map λ w=>((i:Int),w)).Nodup:=by
    rw[zau];refine⟨hn,List.pairwise_map.mpr (zg.imp fun {a b} kc e=>kc (by cases e;rfl)),λ x hx y hy e=>?_⟩;subst e;obtain⟨w,_,rfl⟩:=zaq.mp hy;have:=(hK _).mp hx;simp at this
   have wl:∀p,p∈K++W.map (λ w=>((i:Int),w))↔(p.1<((i+1:Nat):Int)/\KP rs A p):=λ p=>by
    rw[zao,hK];constructor
    ·rintro (h|h)
     ·exact⟨by have:=h.1;omega,h.2⟩
     ·obtain⟨w,hw,rfl⟩:=zaq.mp h;exact⟨by dsimp only;omega,(wk w).mp hw⟩
    ·rintro ⟨h1,h2⟩;by_cases e:p.1<(i:Int)
     ·exact .inl ⟨e,h2⟩
     ·have e2:p.1=(i:Int):=by omega
      obtain⟨p1,p2⟩:=p;dsimp only at e2;subst e2;exact .inr (zaq.mpr ⟨p2,(wk p2).mpr h2,rfl⟩)
   have hlen:=uY hA hm a5 λ p hp=>((wl p).mp hp).2;have hb:(K.map pD).length+((W.map λ w=>((i:Int),w)).map pD).length<=1000:=by
    rw[zal] at hlen;rw[za2,za2];omega
   refine B7 (ρ':=[‹Ad m rs›,‹Qu A›,some (.own ((K++W.map λ w=>((i:Int),w)).map pD)),‹.int i›,‹.lst (cs.map cst)›]) ?_ ⟨ag,_,_,_,rfl,a5,wl⟩;have t1:∀a b:Int,D.tup [.int a,.int b]=pD (a,b):=λ a b=>rfl;simp_arith[n0,hr,if_pos hl];rw[BR (λ w=>zK A cs i w) (λ w=>pD ((i:Int),w)) (λ w hw=>⟨_,rfl,by
    have wm:=HV.mp hw;have x1:AJ (.lst (cs.map cst)) (.int w)=.ok (cst (atC cs w)):=BZ wm.1 (by rw[hR.1];exact wm.2);have d6:=T6 A ((i:Int),w) false;unfold zK Ac;cases q:Au A ((i:Int),w) with
    |none =>
     rw[q] at d6;simp_arith[t1,d6];rfl
    |some v =>
     rw[q] at d6;have hit:=Pc q;have h0:AJ (WE v) (.int 0)=.ok (cst (some v.1)):=rfl;have he:=Lc (some v.1) (atC cs w);simp_arith[t1,d6,hit,h0,x1,he];rfl,λ _=>by simp_arith[t1]⟩)]
   rw[<-hW];have ew:W.map (λ w=>pD ((i:Int),w))=(W.map λ w=>((i:Int),w)).map pD:=by rw[zbm];rfl
   rw[ew];simp_arith[if_pos hb];rw[<-zb3]
  ·rintro ρ ⟨_,K,s3,s4,rfl,hn,hK⟩;refine⟨K,s3,s4,rfl,hn,λ p=>(hK p).trans ⟨λ h=>h.2,λ h=>⟨?_,h⟩⟩⟩;obtain⟨c,hc,_⟩:=h;have:=(hA.rg p (ET hc)).2.1;rw[za2,ES];omega
 ·rintro ρ ⟨K,s3,s4,rfl,hn,hK⟩;exact⟨_,rfl,K,rfl,hn,hK⟩
abbrev Q5:=za7 GG
def Tq:FT "kept_arcs" 3 2 Q5:=(za1 GG).1
def Ts:MS Q5:=(za1 GG).2
abbrev Fx (F:OT->List D->M (OT×OT)):Prop:=∀(m:Nat) (rs:List Road) (o:D) (L:List Int),1<=m->m<=16->rs.length<=60->(∀r∈rs,M8 m r)->L.Perm (Bw m)->(o=.lst (L.map D.int)\/(o=.AL/\L=ZG m (Cm rs) (Bw m)))->∃(A:LA) (K:List (Int×Int)),Bc m rs L A K/\∃t,F (.ins "Ladder" [] []) [Ad m rs,o]=.ok (t,.sh .AL)/\er t=AM m rs L A K
def CU:∃F:OT->List D->M (OT×OT),(∀ {P w K mg base},Txt K mg->Rp P w K mg base "Ladder" 6 3 F)/\Fx F:=by
 refine⟨_,λ T=>gQ (k:=5) T.Lx JQ _ (λ f B6 A outer s H E hr=>(A3 (NT ["Ladder"] (Bf T.Bx BM) (Bs 0 (pv 0)) (Al (Ab A8.toXCall (Xc T) (-hr) rfl (A2 (!1) A7) rfl))) (A3 (NT ["Ladder"] (Bf T.CQ BM) (Bs 0 (pv 0)) (Al (Ec (Ab A8.toXCall (JY T) (-hr) rfl (A2 (Dw ["Ladder"] (Bf T.Bx BM) (!0)) (A2 (!2) A7)) rfl)))) (A3 (NT ["Ladder"] (Bf T.Ce BM) (Bs 0 (pv 0)) (Al (Ec (Ab A8.toXCall (To T) (-hr) rfl (A2 (Dw ["Ladder"] (Bf T.Bx BM) (!0)) (A2 (Dw ["Ladder"] (Bf T.CQ BM) (!0)) A7)) rfl)))) (A5 (NT ["Ladder"] (Bf T.EX BM) (Bs 0 (pv 0)) (Al (Ec (Ab A8.toXCall (Tq T) (-hr) rfl (A2 (Dw ["Ladder"] (Bf T.Bx BM) (!0)) (A2 (Dw ["Ladder"] (Bf T.Ce BM) (!0)) A7)) rfl))))))))),?_⟩;intro m rs o L bp bd ny g8 hL ho;dsimp only;have Aw:∀r∈rs,GZ m r/\r.a≠r.b:=λ r hr=>(g8 r hr).okR;have h1:=Xd m rs bp bd ny g8;have h2:DK [Ad m rs,o]=.ok (.lst ((L.map D.int).map .sh)):=by
  rcases ho with rfl|⟨rfl,rfl⟩
  ·exact (F8 m rs (by omega) Aw).1 L hL
  ·exact (F8 m rs (by omega) Aw).2
 have h3:=Tp m rs L (by omega) hL Aw;have hA:=(Li hL Aw).1;obtain⟨K,h4,hn,hK⟩:=Ts m rs (BC rs L) (by omega) (λ r hr=>(Aw r hr).1) hA;refine⟨BC rs L,K,⟨bp,bd,ny,Aw,hL,rfl,hn,hK⟩,.ins "Ladder" ["own_map","own_order","laid","kept_ones"] [.sh (Ad m rs),.sh (.lst (L.map D.int)),.sh (Qu (BC rs L)),.sh (.lst (K.map pD))],?_,rfl⟩;have e0:Dl ["self","net","order"] (.ins "Ladder" [] []) [Ad m rs,o]=[some (.ow (.tree (some 0) (.ins "Ladder" [] []))),‹Ad m rs›,‹o›]:=rfl;rw[e0];refine WL ?_;have e1:er (.tup [.sh (.int m),.lst ((rs.map Bo).map .sh)])=Ad m rs:=by rw[oC,Rh,JM];rfl
 have T:∀(ns:List Str) (ds:List D),er (.ins "Ladder" ns (ds.map .sh))=.ins "Ladder" ns ds:=λ ns ds=>by rw[er,OJ]
 have T1:=T ["own_map"] [Ad m rs];have T2:=T ["own_map","own_order"] [Ad m rs,.lst (L.map D.int)];have T3:=T ["own_map","own_order","laid"] [Ad m rs,.lst (L.map D.int),Qu (BC rs L)];simp only[za5,zcy] at T1 T2 T3;have d1:=iR L;have d2:=oO (BC rs L);have d3:=oN K;have f1:N8 ["Ladder"] "own_map" (.ins "Ladder" ["own_map"] [Ad m rs])=.ok (Ad m rs):=rfl;have f2:N8 ["Ladder"] "own_map" (.ins "Ladder" ["own_map","own_order"] [Ad m rs,.lst (L.map D.int)])=.ok (Ad m rs):=rfl;have f3:N8 ["Ladder"] "own_order" (.ins "Ladder" ["own_map","own_order"] [Ad m rs,.lst (L.map D.int)])=.ok (.lst (L.map D.int)):=rfl;have f4:N8 ["Ladder"] "own_map" (.ins "Ladder" ["own_map","own_order","laid"] [Ad m rs,.lst (L.map D.int),Qu (BC rs L)])=.ok (Ad m rs):=rfl;have f5:N8 ["Ladder"] "laid" (.ins "Ladder" ["own_map","own_order","laid"] [Ad m rs,.lst (L.map D.int),Qu (BC rs L)])=.ok (Qu (BC rs L)):=rfl;refine wp_step (ρ':=[some (.ow (.tree (some 0) (.ins "Ladder" ["own_map"] [.sh (Ad m rs)]))),‹Ad m rs›,‹o›]) (by simp_arith[h1,e1];rfl) ?_;refine wp_step (ρ':=[some (.ow (.tree (some 0) (.ins "Ladder" ["own_map","own_order"] [.sh (Ad m rs),.sh (.lst (L.map D.int))]))),‹Ad m rs›,‹o›]) (by simp_arith[T1,f1,h2,d1];rfl) ?_;refine wp_step (ρ':=[some (.ow (.tree (some 0) (.ins "Ladder" ["own_map","own_order","laid"] [.sh (Ad m rs),.sh (.lst (L.map D.int)),.sh (Qu (BC rs L))]))),‹Ad m rs›,‹o›]) (by simp_arith[T2,f2,f3,h3,d2];rfl) ?_;refine B7 (ρ':=[some (.ow (.tree (some 0) (.ins "Ladder" ["own_map","own_order","laid","kept_ones"] [.sh (Ad m rs),.sh (.lst (L.map D.int)),.sh (Qu (BC rs L)),.sh (.lst (K.map pD))]))),‹Ad m rs›,‹o›]) (by simp_arith[T3,f4,f5,h4,d3];rfl) ⟨rfl,rfl⟩
abbrev Cu:=za7 CU
def F9:Txt K mg->Rp P w K mg base "Ladder" 6 3 Cu:=(za1 CU).1
def Fb:Fx Cu:=(za1 CU).2
abbrev Jw (F:List D->M OT):Prop:=∀(ns:List Int) (k:Nat),(∀n∈ns,Sm n)->∃v:Int,Sm v/\F [.lst (ns.map D.int),.int k]=.ok (.sh (.int v))
def Fc:∃F,FT "_law_cell_at" 1 2 F/\Jw F:=by
 refine⟨_,λ T=>Az (k:=0) T.QD Pw _ (λ f B6 A outer s H E hr=>(A3 (AU (yF (c:=true) (!1) (D9 rfl T.EV (!0))) (A5 (Ai (AI (Aa (!hr) (!0) (!1))))) As) (A5 (Ai (AI A4))))),?_⟩;intro ns k bC;rfl';by_cases hk:(k:Int)<((ns.map D.int).length:Int)
 ·have zh:=hk;rw[za2] at zh;have i1:AJ (.lst (ns.map D.int)) (.int k)=.ok (.int (ns[k]'(by omega))):=Fm (by omega) (by rw[zbh];exact za6 _);refine⟨ns[k]'(by omega),bC _ (List.getElem_mem _),B1 ?_⟩;simp_arith[decide_eq_true hk,i1];rfl
 ·refine⟨0,by unfold Sm;decide,B1 ?_⟩;simp_arith[decide_eq_false hk];rfl
abbrev Ex:=za7 Fc
def Fe:FT "_law_cell_at" 1 2 Ex:=(za1 Fc).1
def IA:Jw Ex:=(za1 Fc).2
abbrev MT (F:List D->M OT):Prop:=∀c k:Int,0<=k->k<=1000->∃v:Int,0<=v/\F [.int c,.int k]=.ok (.sh (.int v))
def GH:∃F,FT "_law_mixed" 1 2 F/\MT F:=by
 refine⟨_,λ T=>Az (k:=0) T.Vi GA _ (λ f B6 A outer s H E hr=>(A3 (AE 2 GA.nd rfl (zax rfl) (C8 (C7 (C8 (!0) A4) (Nt A4 (C7 (!1) A4))) A4)) (A3 (AE 2 GA.nd rfl (zax rfl) (C8 (C7 (C7 (Nt (!2) (!2)) (Nt A4 (!1))) A4) A4)) (A5 (Ai (AI (C8 (Nt (!2) (!2)) A4))))))),?_⟩;intro c k h0 h1;rfl';have m1:OG (.int 48271) (.int (k+1))=.ok (.int (48271*(k+1))):=Kh (.inr (.inr (.inr ⟨by omega,by omega⟩)));obtain⟨x,hx⟩:∃x,x=(c%2147483629+48271*(k+1))%2147483647:=⟨_,rfl⟩;have x0:0<=x:=by omega
 have x1:x<2147483647:=by omega
 have m2:OG (.int x) (.int x)=.ok (.int (x*x)):=Kh (.inr (.inr (.inr ⟨by omega,by omega⟩)));have m3:OG (.int 69621) (.int k)=.ok (.int (69621*k)):=Kh (.inr (.inr (.inr ⟨by omega,by omega⟩)));obtain⟨y,hy⟩:∃y,y=(x*x+69621*k+7)%2147483587:=⟨_,rfl⟩;have y0:0<=y:=by rw[hy];exact zcg _ (by decide)
 have y1:y<2147483587:=by rw[hy];exact zch _ (by decide)
 have m4:OG (.int y) (.int y)=.ok (.int (y*y)):=Kh (.inr (.inr (.inr ⟨by omega,by omega⟩)));refine⟨y*y%2147483579,zcg _ (by decide),?_⟩;simp[zB,zC,m1,tL,Hl,Bl,<-hx,m2,m3,<-hy,m4,Zi,eY,vY,Zj]
abbrev Q6:=za7 GH
def Ey:FT "_law_mixed" 1 2 Q6:=(za1 GH).1
def Ez:MT Q6:=(za1 GH).2
abbrev Q7 (F:List D->M OT):Prop:=∀(c k:Int) (m:Nat),2<=m->m<=16->0<=k->k<=100->∃r:Road,M8 m r/\F [.int c,.int m,.int k]=.ok (.sh (Bo r))
def IB:∃F,FT "_law_road" 2 3 F/\Q7 F:=by
 refine⟨_,λ T=>Az (k:=1) T.X2 D4 _ (λ f B6 A outer s H E hr=>(A3 (AE 0 D4.nd rfl (zax rfl) (C8 (!0) (eO A4 A4))) (A3 (AE 3 D4.nd rfl (zax rfl) (Al (Ab A8.toXCall (Ey T) (-hr) rfl (A2 (!0) (A2 (!2) A7)) rfl))) (A3 (AE 4 D4.nd rfl (zax rfl) (C8 (!3) (!1))) (A3 (AE 5 D4.nd rfl (zax rfl) (C8 (C7 (C7 (!4) A4) (C8 (D8 (!3) A4) (Sl (!1) A4))) (!1))) (A3 (AE 6 D4.nd rfl (zax rfl) (Aa (!hr) (Hy (A2 Cw (A2 A4 (A2 A4 (A2 A4 (A2 (C8 (D8 (!3) A4) A4) (A2 (C8 (D8 (!3) A4) A4) (A2 (C8 (D8 (!3) A4) A4) (A2 (!0) A7))))))))) (C8 (D8 (!3) A4) A4))) (A5 (Ai (AI (AG (A2 (!4) (A2 (!5) (A2 (!6) (A2 (Aa (!hr) (Hy (A2 (C8 (D8 (!3) A4) A4) (A2 (D8 (!0) A4) A7))) (C8 (D8 (!3) A4) A4)) A7)))))))))))))),?_⟩;intro c k m bp bd h0 h1;have ht:=WD;rfl';obtain⟨g,hg⟩:∃g,g=c%Rx:=⟨_,rfl⟩;have g0:0<=g:=by rw[hg];exact zcg _ (by omega)
 have g1:g<Rx:=by rw[hg];exact zch _ (by omega)
 obtain⟨v,v0,hv⟩:=Ez g k h0 (by omega);have nz:(0:Int)<(m:Int):=by omega
 have lm:(0:Int)<(m:Int)-1:=by omega
 obtain⟨o,ho⟩:∃o,o=v%(m:Int):=⟨_,rfl⟩;obtain⟨o',aM⟩:∃o',o'=(o+1+v / 16%((m:Int)-1))%(m:Int):=⟨_,rfl⟩;have o0:0<=o:=by rw[ho];exact zcg _ (by omega)
 have o1:o<m:=by rw[ho];exact zch _ nz
 have p0:0<=o':=by rw[aM];exact zcg _ (by omega)
 have p1:o'<m:=by rw[aM];exact zch _ nz
 have s0:0<=v / 16%((m:Int)-1):=zcg _ (by omega);have s1:v / 16%((m:Int)-1)<(m:Int)-1:=zch _ lm;have kc:o≠o':=by
  have:=uC (a:=o) (s:=1+v / 16%((m:Int)-1)) (m:=m) o0 o1 (by omega) (by omega);rw[aM,zcn];exact λ z=>this z.symm
 have lp:GU (.int v) (.int 16)=.ok (.int (v / 16)):=Cs ⟨by decide,by decide⟩;have lq:GU (.int v) (.int 2048)=.ok (.int (v / 2048)):=Cs ⟨by decide,by decide⟩;have uj:GU (.int v) (.int 256)=.ok (.int (v / 256)):=Cs ⟨by decide,by decide⟩;have lr:GU (.int v) (.int 4096)=.ok (.int (v / 4096)):=Cs ⟨by decide,by decide⟩;have zi:GU (.int v) (.int 32)=.ok (.int (v / 32)):=Cs ⟨by decide,by decide⟩;have d7:GU (.int g) (.int 7)=.ok (.int (g / 7)):=Cs ⟨by decide,by decide⟩;have q1:Hl (.int v) (.int (m:Int))=.ok (.int o):=by rw[ho];exact BN nz
 have q2:Hl (.int (v / 16)) (.int ((m:Int)-1))=.ok (.int (v / 16%((m:Int)-1))):=BN lm;have q3:Hl (.int (o+1+v / 16%((m:Int)-1))) (.int (m:Int))=.ok (.int o'):=by rw[aM];exact BN nz
 have q4:Hl (.int (v / 2048)) (.int 4)=.ok (.int (v / 2048%4)):=BN (by decide);have q5:Hl (.int (v / 2048)) (.int 100)=.ok (.int (v / 2048%100)):=BN (by decide);have q6:Hl (.int (v / 256)) (.int 8)=.ok (.int (v / 256%8)):=BN (by decide);have q8:Hl (.int (v / 4096)) (.int 5)=.ok (.int (v / 4096%5)):=BN (by decide);have q9:Hl (.int (v / 32)) (.int 2)=.ok (.int (v / 32%2)):=BN (by decide);obtain⟨l,hpl,l0⟩:=vG (a:=v / 2048%4) (b:=v / 2048%100) (g:=g) (i:=v / 256%8) (by omega) (by omega) ⟨g0,g1⟩ (by omega) (by omega);obtain⟨w,t5,w0⟩:=vB (a:=v / 4096%5) (b:=g / 7) (i:=v / 32%2) (by omega) (by omega) (by omega) (by omega);have zj:D.tup [.int o,.int o',CJ l,.int w]=Bo ⟨o,o',l,w⟩:=rfl;refine⟨⟨o,o',l,w⟩,⟨o0,o1,p0,p1,kc,l0,w0.1,w0.2⟩,B1 ?_⟩;apply wp_step
 ·simp_arith[qN,oB];rw[<-hg]
 try simp only[zak,zaf]
 apply wp_step
 ·simp_arith[hv];rfl
 try simp only[zak,zaf]
 apply wp_step
 ·simp_arith[q1];rfl
 try simp only[zak,zaf]
 apply wp_step
 ·simp_arith[lp,q2,q3];rfl
 try simp only[zak,zaf]
 apply wp_step
 ·simp_arith[lq,q4,q5,uj,q6,hpl];rfl
 try simp only[zak,zaf]
 simp_arith[lr,q8,d7,zi,q9,t5,zj];rfl
abbrev J7:=za7 IB
def Vz:FT "_law_road" 2 3 J7:=(za1 IB).1
def VA:Q7 J7:=(za1 IB).2
abbrev RU (F:List D->M OT):Prop:=∀ns:List Int,ns.length<=63->(∀n∈ns,Sm n)->∃(m:Nat) (rs:List Road),1<=m/\m<=6/\rs.length<=21/\(∀r∈rs,M8 m r)/\∃t,F [.lst (ns.map D.int),.int 6,.int 20]=.ok t/\er t=Ad m rs
def JZ:∃F,FT "_law_map" 3 3 F/\RU F:=by
 refine⟨_,λ T=>Az (k:=2) T.bW DF _ (λ f B6 A outer s H E hr=>(A3 (AE 3 DF.nd rfl (zax rfl) (Al (ON (!0) (Nq A4) (Nq (C7 A4 (!2)))))) (A3 (AE 4 DF.nd rfl (zax rfl) (Al (Ab A8.toXCall (Ey T) (-hr) rfl (A2 (Al (Ab A8.toXCall (Fe T) (-hr) rfl (A2 (!0) (A2 A4 A7)) rfl)) (A2 A4 A7)) rfl))) (A3 (AE 5 DF.nd rfl (Or.inr rfl) (C7 A4 (C8 (!4) (mU rfl rfl T.jP (!1) (C7 A4 (D8 (D9 rfl T.EV (!3)) A4)))))) (A3 (AU (Jd (c:=true) (!hr) (!5) A4) (A5 (Ai (Wr (EL (AI A4) (EL (Gq CL) CL))))) As) (A3 (Ke (NB:=["_law_k","_law_cell","_law_many"]) 6 [none,none,some 5] DF.nd rfl (zax rfl) rfl (Nr rfl T.Fu (!3)) rfl rfl (NC (n:=2) rfl (D2 0 (by decide) rfl rfl rfl (D2 1 (by decide) rfl rfl rfl Kr))) (λ _ _ _ _=>DM) (λ _ _ _ _=>(Al (BX (Ab (Bq rfl).toXCall (Vz T) (-hr) rfl (A2 (!1) (A2 (!2) (A2 (!0) A7))) rfl))))) (A3 (AU (DW.dt (LY (Jd (c:=true) (!hr) (C8 (D8 (!4) A4) A4) A4) (IG (Fl (c:=true) (!hr) (!6) (Hy A7))))) (A5 (AE 6 DF.nd rfl (zax rfl) (Al (SE (!6) (Hy (A2 (Aa (!hr) (!6) (C8 (D8 (!4) A4) (D9 rfl T.EV (!6)))) A7)))))) As) (A5 (Ai (AI (AG (A2 (!5) (A2 (!6) A7))))))))))))),?_⟩;intro ns jl bC;rfl';refine (λ h:∃t,_/\∃(m:Nat) (rs:List Road),1<=m/\m<=6/\rs.length<=21/\(∀r∈rs,M8 m r)/\er t=Ad m rs=>by
  obtain⟨t,h1,m,rs,h2,h3,h4,h5,h6⟩:=h;exact⟨m,rs,h2,h3,h4,h5,t,h1,h6⟩) (Kt ?_)
 obtain⟨cs,i6⟩:∃cs,cs=(ns.drop 2).take 20:=⟨_,rfl⟩;have jo:cs.length<=20:=by rw[i6,zbz];omega
 have sl:mP (some 2) (some (2+20)) (.lst (ns.map D.int))=.ok (.lst ((cs.map D.int).map .sh)):=by rw[i6,List.map_take,List.map_drop];exact nJ _ 2 22
 obtain⟨z0,uc,ls⟩:=IA ns 0 bC;have uk:Ex [.lst (ns.map D.int),.int 0]=.ok (.sh (.int z0)):=ls;obtain⟨v,v0,hv⟩:=Ez z0 40 (by decide) (by decide);apply wp_step
 ·simp_arith[sl];rfl
 try simp only[zak,zaf]
 apply wp_step
 ·simp_arith[uk,hv];rfl
 try simp only[zak,zaf]
 have d2:GU (.int ((cs.map D.int).length:Int)) (.int 2)=.ok (.int ((cs.map D.int).length / 2)):=Cs ⟨by decide,by decide⟩;obtain⟨n,hn⟩:∃n:Int,n=(if 2+((cs.map D.int).length:Int) / 2<6 then 2+((cs.map D.int).length:Int) / 2 else 6):=⟨_,rfl⟩;have a5:2<=n/\n<=6:=by rw[hn];split<;>omega
 have q1:Hl (.int v) (.int n)=.ok (.int (v%n)):=BN (by omega);obtain⟨m,hm⟩:∃m:Nat,(m:Int)=1+v%n:=⟨(1+v%n).toNat,by have:=zcg v (b:=n) (by omega);omega⟩;have n4:1<=m/\m<=6:=by
  have:=zcg v (b:=n) (by omega);have:=zch v (b:=n) (by omega);omega
 refine wp_step (ρ':=[‹.lst (ns.map D.int)›,‹.int 6›,‹.int 20›,‹.lst (cs.map D.int)›,‹.int v›,‹.int m›,none]) (by
  simp_arith[d2];rw[<-hn,q1];simp_arith[];rw[<-hm]) ?_
 by_cases bp:(m:Int)=1
 ·simp_arith[decide_eq_true bp];refine⟨_,rfl,m,[],n4.1,n4.2,by simp,(λ r hr=>by cases hr),?_⟩;have:m=1:=by omega
  subst this;rfl
 apply wp_step
 ·simp_arith[decide_eq_false bp];rfl
 have ga:∀i:Nat,i<cs.length->∃r:Road,M8 m r/\J7 [.int (cs.getD i 0),.int m,.int i]=.ok (.sh (Bo r)):=λ i hi=>VA (cs.getD i 0) i m (by omega) (by omega) (by omega) (by omega);obtain⟨f,hf⟩:∃f:Nat->Road,∀i:Nat,i<cs.length->M8 m (f i)/\J7 [.int (cs.getD i 0),.int m,.int i]=.ok (.sh (Bo (f i))):=⟨λ i=>if h:i<cs.length then za7 (ga i h) else ⟨0,0,none,0⟩,λ i hi=>by
  dsimp only;rw[dif_pos hi];exact za1 (ga i hi)⟩
 have ar:((zay cs.length).map λ i:Nat=>D.tup [.int (i:Int),.int (cs.getD i 0)]).length<=1000:=by rw[za2,zc2];omega
 simp_arith[WR,if_pos ar];rw[C9 (λ i:Nat=>Bo (f i)) (λ i hi=>⟨_,rfl,rfl,by
  have h1:=(hf i (zc4.mp hi)).2;simp_arith[h1]⟩)]
 simp_arith[];have HD:∀S:List D,S=S:=λ _=>rfl;refine wp_step (ρ':=[‹.lst (ns.map D.int)›,‹.int 6›,‹.int 20›,‹.lst (cs.map D.int)›,‹.int v›,‹.int m›,‹.lst (((zay cs.length).map f).map Bo)›]) (by rw[zbm];rfl) ?_;obtain⟨cb,iq⟩:∃cb,cb=(zay cs.length).map f:=⟨_,rfl⟩;have eh:∀r∈cb,M8 m r:=λ r hr=>by
  rw[iq] at hr;obtain⟨i,hi,rfl⟩:=zaq.mp hr;exact (hf i (zc4.mp hi)).1
 have nu:cb.length<=20:=by rw[iq,za2,zc2];exact jo
 rw[<-iq];refine BA (I:=λ ρ=>∃rs:List Road,ρ=[‹.lst (ns.map D.int)›,‹.int 6›,‹.int 20›,‹.lst (cs.map D.int)›,‹.int v›,‹.int m›,‹.lst (rs.map Bo)›]/\rs.length<=21/\∀r∈rs,M8 m r) ?_ ?_
 ·have lp:GU (.int v) (.int 16)=.ok (.int (v / 16)):=Cs ⟨by decide,by decide⟩;have q3:Hl (.int (v / 16)) (.int 3)=.ok (.int (v / 16%3)):=BN (by decide);have zk:GU (.int v) (.int 64)=.ok (.int (v / 64)):=Cs ⟨by decide,by decide⟩;have ae:=V2 cb;by_cases c1:v / 16%3=1
  ·by_cases c2:cb=[]
   ·rw[decide_eq_false (by simp[c2])] at ae;refine B7 (ρ':=_) (by simp_arith[lp,q3,decide_eq_true c1,ae];rfl) ⟨cb,rfl,by omega,eh⟩
   ·rw[decide_eq_true c2] at ae;have lj:0<(cb.map Bo).length:=by rw[za2];exact List.length_pos_iff.mpr c2
    obtain⟨p1,y,hy,p2⟩:=iG lj (show 0<=v / 64 by omega);obtain⟨r,hr,rfl⟩:=zaq.mp hy;have hpl:OI (.lst (cb.map Bo)) (.lst [Bo r])=.ok (.lst (((cb++[r]).map Bo).map .sh)):=by rw[zb3];exact SQ (by rw[za2];simp;omega)
    refine B7 (ρ':=[‹.lst (ns.map D.int)›,‹.int 6›,‹.int 20›,‹.lst (cs.map D.int)›,‹.int v›,‹.int m›,‹.lst ((cb++[r]).map Bo)›]) (by
     simp_arith[lp,q3,decide_eq_true c1,ae,zk,p1,p2,hpl];rfl) ⟨cb++[r],rfl,by rw[zal];simp;omega,λ r2 h2=>by
     rcases zao.mp h2 with h|h
     ·exact eh r2 h
     ·rw[za9.mp h];exact eh r hr⟩
  ·refine B7 (ρ':=_) (by simp_arith[lp,q3,decide_eq_false c1];try rfl) ⟨cb,rfl,by omega,eh⟩
 ·rintro ρ ⟨rs,rfl,hl,Aw⟩;simp_arith[];exact⟨m,rs,n4.1,n4.2,hl,Aw,rfl⟩
abbrev VB:=za7 JZ
def Xg:FT "_law_map" 3 3 VB:=(za1 JZ).1
def Xh:RU VB:=(za1 JZ).2
abbrev MU (F:List D->M OT):Prop:=∀(c:Int) (m:Nat) (k:Int),m<=60->0<=k->k<=100->∃L:List Int,L.Perm (Bw m)/\F [.int c,.int m,.int k]=.ok (.lst ((L.map D.int).map .sh))
def GI:∃F,FT "_law_order" 2 3 F/\MU F:=by
 refine⟨_,λ T=>Az (k:=1) T.Vj GB _ (λ f B6 A outer s H E hr=>(A3 (BF 3 GB.nd rfl (zax rfl) (Gq CL)) (A3 (Bp A8.toXCall.own rfl (BW (c:=true) rfl T.Ct (!1)) (Av 4 GB.nd rfl (zax rfl)) (A5 (Zf 3 (pv 3) (C8 (Al (Ab A8.toXCall (Ey T) (-hr) rfl (A2 (!0) (A2 (C7 (!2) (!4)) A7)) rfl)) (C7 (!4) A4)) (!4)))) (A5 (CM 3 (pv 3)))))),?_⟩;intro c m k hm hk0 hk1;rfl';refine (λ h:∃t,_/\∃L:List Int,t=OT.lst ((L.map D.int).map .sh)/\L.Perm (Bw m)=>by
  obtain⟨t,h1,L,rfl,h2⟩:=h;exact⟨L,h2,h1⟩) (Kt ?_)
 have hr:=Hz (n:=m) (by omega);apply wp_step
 ·rfl
 try simp only[zak,zaf]
 refine BA (I:=λ ρ=>∃(L:List Int) (s3:Option Cl),ρ=[‹.int c›,‹.int m›,‹.int k›,some (.own (L.map D.int)),s3]/\L.Perm (Bw m)) ?_ ?_
 ·simp_arith[hr];refine Bt (λ i ρ=>i<=m/\∃(L:List Int) (s3:Option Cl),ρ=[‹.int c›,‹.int m›,‹.int k›,some (.own (L.map D.int)),s3]/\L.Perm (Bw i)) ⟨zbb _,[],none,rfl,.refl _⟩ ?_ ?_
  ·rintro i d ρ hd ⟨_,L,s3,rfl,hL⟩;obtain⟨aB,hi⟩:=BQ hd;rw[zd2] at aB;subst aB;have hlen:=HX hL;refine⟨_,rfl,?_⟩;obtain⟨v,v0,hv⟩:=Ez c (k+i) (by omega) (by omega);have bp:Hl (.int v) (.int ((i:Int)+1))=.ok (.int (v%((i:Int)+1))):=BN (by omega);have b0:0<=v%((i:Int)+1):=zcg _ (by omega);have b1:v%((i:Int)+1)<(i:Int)+1:=zch _ (by omega);refine B7 (ρ':=[‹.int c›,‹.int m›,‹.int k›,some (.own ((L.take (v%((i:Int)+1)).toNat++(i:Int)::L.drop (v%((i:Int)+1)).toNat).map D.int)),‹.int i›]) ?_ ⟨by omega,_,_,rfl,ZI hL _⟩;simp_arith[hv,bp];rw[if_pos ⟨b0,by rw[za2];omega,by rw[za2];omega⟩];simp only[zb3,za5,List.map_take,List.map_drop];rfl
  ·rintro ρ ⟨_,L,s3,rfl,hL⟩;exact⟨L,s3,rfl,by rw[BP] at hL;exact hL⟩
 ·rintro ρ ⟨L,s3,rfl,hL⟩;exact⟨_,rfl,L,rfl,hL⟩
abbrev Q8:=za7 GI
def Tt:FT "_law_order" 2 3 Q8:=(za1 GI).1
def Tu:MU Q8:=(za1 GI).2
abbrev Q9 (F:List D->M OT):Prop:=∀a b:Co,F [cst a,cst b]=.ok (.sh (cst (Ap a b)))
def IC:∃F,FT "_law_plus" 1 2 F/\Q9 F:=by
 refine⟨_,λ T=>Az (k:=0) T.X3 Vd _ (λ f B6 A outer s H E hr=>(A3 (AU (DW.dt (CH (Eb (c:=true) (!0)) (Cg (Eb (c:=true) (!1))))) (A5 (Ai (AI Cw))) As) (A5 (Ai (AI (AG (A2 (C7 (Aa (!hr) (!0) A4) (Aa (!hr) (!1) A4)) (A2 (C7 (Aa (!hr) (!0) A4) (Aa (!hr) (!1) A4)) A7)))))))),?_⟩;intro a b;dsimp only;rcases a with _|⟨a1,a2⟩<;>rcases b with _|⟨b1,b2⟩<;>rfl
abbrev Mq:=za7 IC
def MV:FT "_law_plus" 1 2 Mq:=(za1 IC).1
def MW:Q9 Mq:=(za1 IC).2
abbrev MX (F:List D->M OT):Prop:=∀a b:Co,F [cst a,cst b]=.ok (.sh (cst (De a b)))
def GJ:∃F,FT "_law_least" 1 2 F/\MX F:=by
 refine⟨_,λ T=>Az (k:=0) T.Vk Te _ (λ f B6 A outer s H E hr=>(A3 (AU (DW.dt (CH (Eb (c:=true) (!0)) (Cg (DW.dt (LY (Gm (c:=true) (!1)) (IG (gL (c:=true) (!hr) (!1) (!0)))))))) (A5 (Ai (AI (!1)))) As) (A5 (Ai (AI (!0)))))),?_⟩;intro a b;rfl';refine B1 ?_;cases a with
 |none =>
  have hn:AZ (cst none)=true:=rfl;have el:De none b=b:=by cases b<;>rfl
  rw[el];simp_arith[hn];rfl
 |some p =>
  have hn:AZ (cst (some p))=false:=rfl;cases b with
  |none =>
   have a5:AZ (cst none)=true:=rfl;have el:De (some p) none=some p:=rfl;rw[el];simp_arith[hn,a5];rfl
  |some q =>
   have a5:AZ (cst (some q))=false:=rfl;have hx:=zJ q p;have hl:De (some p) (some q)=some (gU p q):=rfl;rw[hl];unfold gU;by_cases hc:q.1<p.1\/(q.1=p.1/\q.2<p.2)
   ·rw[decide_eq_true hc] at hx;rw[if_neg (by omega)];simp_arith[hn,a5,hx];rfl
   ·rw[decide_eq_false hc] at hx;rw[if_pos (by omega)];apply wp_step
    ·simp_arith[hn,a5,hx];rfl
    simp_arith[];rfl
abbrev GL:=za7 GJ
def GN:FT "_law_least" 1 2 GL:=(za1 GJ).1
def GO:MX GL:=(za1 GJ).2
abbrev RV (F:List D->M OT):Prop:=∀(m:Nat) (rs:List Road),1<=m->m<=900->rs.length<=900->(∀r∈rs,GZ m r)->∃ac:List (List Co),P6 m ac/\(∀x y:Int,0<=x->x<m->0<=y->y<m->Bg rs x y (at2 ac x y))/\∃t,F [Ad m rs]=.ok t/\er t=.lst ((AD ac).map D.lst)
def K0:∃F,FT "_law_all" 2 1 F/\RV F:=by
 refine⟨_,λ T=>Az (k:=1) T.bX Bm _ (λ f B6 A outer s H E hr=>(A3 (Wj (!0) (JG (n:=2) rfl (B0 (Av 1 Bm.nd rfl (Or.inr rfl)) (B0 (Av 2 Bm.nd rfl (zax rfl)) Gp)))) (A3 (jA (NB:=["_law_k","_law_many"]) 3 [none,some 1] Bm.nd rfl (zax rfl) rfl (BW (c:=true) rfl T.Ct (!1)) rfl rfl (Bz 0 (by decide) rfl rfl rfl) (λ _ _ _ _=>DM) (λ _ _ _ _=>(SI Cw (!1)))) (A3 (Bp A8.toXCall.own rfl (BW (c:=true) rfl T.Ct (!1)) (Av 4 Bm.nd rfl (zax rfl)) (A5 (Sw 3 (pv 3) (AG (A2 A4 (A2 A4 A7))) (!4) (!4)))) (A3 (Bp A8.toXCall.own rfl (AY (!2)) (JG (n:=4) rfl (B0 (Av 5 Bm.nd rfl (zax rfl)) (B0 (Av 6 Bm.nd rfl (zax rfl)) (B0 (Av 7 Bm.nd rfl (zax rfl)) (B0 (Av 8 Bm.nd rfl (zax rfl)) Gp))))) (A5 (AU (Gm (c:=true) (!7)) (A5 (Sw 3 (pv 3) (Al (Ab A8.toXCall (GN T) (-hr) rfl (A2 (Sv 3 (pv 3) (!5) (!6)) (A2 (AG (A2 (!7) (A2 A4 A7))) A7)) rfl)) (!5) (!6))) As))) (A3 (Bp A8.toXCall.own rfl (BW (c:=true) rfl T.Ct (!1)) (Av 9 Bm.nd rfl (zax rfl)) (A5 (Bp A8.toXCall.own rfl (BW (c:=true) rfl T.Ct (!1)) (Av 5 Bm.nd rfl (zax rfl)) (A5 (Bp A8.toXCall.own rfl (BW (c:=true) rfl T.Ct (!1)) (Av 6 Bm.nd rfl (zax rfl)) (A5 (Sw 3 (pv 3) (Al (Ab A8.toXCall (GN T) (-hr) rfl (A2 (Sv 3 (pv 3) (!5) (!6)) (A2 (Al (Ab A8.toXCall (MV T) (-hr) rfl (A2 (Sv 3 (pv 3) (!5) (!9)) (A2 (Sv 3 (pv 3) (!9) (!6)) A7)) rfl)) A7)) rfl)) (!5) (!6)))))))) (A5 (CM 3 (pv 3))))))))),?_⟩;intro m rs bp hm ny Aw;rfl';refine (λ h:∃t,_/\∃ac:List (List Co),P6 m ac/\(∀x y:Int,0<=x->x<m->0<=y->y<m->Bg rs x y (at2 ac x y))/\er t=.lst ((AD ac).map D.lst)=>by
  obtain⟨t,h1,ac,h2,h3,h4⟩:=h;exact⟨ac,h2,h3,t,h1,h4⟩) (Kt ?_)
 have c9:=Hz (n:=m) (by omega);have aR:=L7 (d:=.AL) (n:=m) (by omega);refine wp_step (ρ':=[‹Ad m rs›,‹.int m›,‹.lst (rs.map Bo)›,none,none,none,none,none,none,none]) rfl ?_;have ar:((zay m).map λ j:Nat=>D.int (j:Int)).length<=1000:=by rw[za2,zc2];omega
 refine wp_step (ρ':=[‹Ad m rs›,‹.int m›,‹.lst (rs.map Bo)›,some (.ow (.rows (AD ((zay m).map λ _=>zae m none)))),none,none,none,none,none,none]) (by
  simp_arith[c9,JI,if_pos ar];rw[MA (λ _:Nat=>OT.lst ((zae m D.AL).map .sh)) (λ j hj=>⟨_,rfl,rfl,by simp_arith[aR]⟩)];unfold Pg oZ;simp_arith[jE]) ?_
 refine BA (I:=λ ρ=>∃(ac:List (List Co)) (s4:Option Cl),ρ=[‹Ad m rs›,‹.int m›,‹.lst (rs.map Bo)›,some (.ow (.rows (AD ac))),s4,none,none,none,none,none]/\P6 m ac/\∀u:Nat,u<m->Qt m rs u 0 (ac.getD u [])) ?_ ?_
 ·simp_arith[c9];refine Bt (λ i ρ=>∃(ac:List (List Co)) (s4:Option Cl),ρ=[‹Ad m rs›,‹.int m›,‹.lst (rs.map Bo)›,some (.ow (.rows (AD ac))),s4,none,none,none,none,none]/\P6 m ac/\∀u:Nat,u<m->ac.getD u []=if u<i then (zae m none).set u (some (0,0)) else zae m none) ⟨_,none,rfl,pG m,λ u hu=>by rw[if_neg (by omega)];exact pH hu⟩ ?_ ?_
  ·rintro i d ρ hd ⟨ac,s4,rfl,hM,aq⟩;obtain⟨aB,hi⟩:=BQ hd;rw[zd2] at aB;subst aB;refine⟨_,rfl,?_⟩;have pj:=Ta (ρ:=[‹Ad m rs›,‹.int m›,‹.lst (rs.map Bo)›,some (.ow (.rows (AD ac))),‹.int i›,none,none,none,none,none]) (i:=3) (v:=some (0,0)) rfl hM (show (0:Int)<=i by omega) (show (i:Int)<m by omega) (show (0:Int)<=i by omega) (show (i:Int)<m by omega);have zl:Uk 3 [‹Ad m rs›,‹.int m›,‹.lst (rs.map Bo)›,some (.ow (.rows (AD ac))),‹.int i›,none,none,none,none,none] (.ok (.int i)) (.ok (.int i)) (.tup [.int 0,.int 0])=_:=pj;refine B7 (ρ':=[‹Ad m rs›,‹.int m›,‹.lst (rs.map Bo)›,some (.ow (.rows (AD (put2 ac i i (some (0,0)))))),‹.int i›,none,none,none,none,none]) (by simp_arith[zl];try rfl) ⟨_,_,rfl,(hM.put (by omega) (by omega) (by omega) (by omega) _).1,λ u hu=>?_⟩;rw[V3 hM (by omega) (by omega)];by_cases e:(u:Int)=i
   ·have e2:u=i:=by omega
    subst e2;rw[if_pos rfl,if_pos (by omega),zbh,aq u hu,if_neg (by omega)]
   ·rw[if_neg e,aq u hu];by_cases e3:u<i
    ·rw[if_pos e3,if_pos (by omega)]
    ·rw[if_neg e3,if_neg (by omega)]
  ·rintro ρ ⟨ac,s4,rfl,hM,aq⟩;rw[BP] at aq;exact⟨ac,s4,rfl,hM,λ u hu=>by rw[aq u hu,if_pos hu];exact ZC rs hu⟩
 rintro ρ ⟨aw,s4,rfl,ul,lu⟩;refine BA (I:=λ ρ=>∃(ac:List (List Co)) (s5 s6 s7 s8:Option Cl),ρ=[‹Ad m rs›,‹.int m›,‹.lst (rs.map Bo)›,some (.ow (.rows (AD ac))),s4,s5,s6,s7,s8,none]/\P6 m ac/\∀u:Nat,u<m->Qt m rs u rs.length (ac.getD u [])) ?_ ?_
 ·simp_arith[];refine Bt (λ j ρ=>∃(ac:List (List Co)) (s5 s6 s7 s8:Option Cl),ρ=[‹Ad m rs›,‹.int m›,‹.lst (rs.map Bo)›,some (.ow (.rows (AD ac))),s4,s5,s6,s7,s8,none]/\P6 m ac/\∀u:Nat,u<m->Qt m rs u j (ac.getD u [])) ⟨aw,none,none,none,none,rfl,ul,lu⟩ ?_ ?_
  ·rintro j d ρ hd ⟨ac,s5,s6,s7,s8,rfl,hM,aq⟩;obtain⟨r,hq,rfl⟩:=BB hd;have hr:=zai hq;have ok:=Aw r hr;have ea:((r.a.toNat:Nat):Int)=r.a:=by have:=ok.a0;omega
   refine⟨[‹Ad m rs›,‹.int m›,‹.lst (rs.map Bo)›,some (.ow (.rows (AD ac))),s4,‹.int r.a›,‹.int r.b›,‹CJ r.l›,‹.int r.w›,none],rfl,?_⟩;cases hl:r.l with
   |none =>
    have hn:AZ (CJ none)=true:=rfl;refine B7 (ρ':=_) (by simp_arith[hn];try rfl) ⟨ac,_,_,_,_,rfl,hM,λ u hu=>?_⟩;by_cases e:r.a=(u:Int)
    ·have g:=UM (aq u hu) hq e Aw;have e2:BH r=none:=by unfold BH;rw[hl]
     rw[e2,jD,pF ok.b0] at g;exact g
    ·exact UL (aq u hu) hq e
   |some z =>
    have hn:AZ (CJ (some z))=false:=rfl;have e2:BH r=some (z,1):=by unfold BH;rw[hl]
    have c1:=T9 (ρ:=[‹Ad m rs›,‹.int m›,‹.lst (rs.map Bo)›,some (.ow (.rows (AD ac))),s4,‹.int r.a›,‹.int r.b›,‹CJ (some z)›,‹.int r.w›,none]) (i:=3) rfl hM ok.a0 ok.a1 ok.b0 ok.b1;have hle:=GO (at2 ac r.a r.b) (some (z,1));have ik:GL [cst (at2 ac r.a r.b),.tup [.int z,.int 1]]=.ok (.sh (cst (De (at2 ac r.a r.b) (some (z,1))))):=hle;have ez:CJ (some z)=.int z:=rfl;have pj:=Ta (ρ:=[‹Ad m rs›,‹.int m›,‹.lst (rs.map Bo)›,some (.ow (.rows (AD ac))),s4,‹.int r.a›,‹.int r.b›,‹CJ (some z)›,‹.int r.w›,none]) (i:=3) (v:=De (at2 ac r.a r.b) (some (z,1))) rfl hM ok.a0 ok.a1 ok.b0 ok.b1;rw[ez] at c1 pj hn ⊢;refine B7 (ρ':=[‹Ad m rs›,‹.int m›,‹.lst (rs.map Bo)›,some (.ow (.rows (AD (put2 ac r.a r.b (De (at2 ac r.a r.b) (some (z,1))))))),s4,‹.int r.a›,‹.int r.b›,‹.int z›,‹.int r.w›,none]) (by simp_arith[hn,c1,ik,pj];try rfl) ⟨_,_,_,_,_,rfl,(hM.put ok.a0 ok.a1 ok.b0 ok.b1 _).1,λ u hu=>?_⟩;rw[V3 hM ok.a0 ok.a1];by_cases e:r.a=(u:Int)
    ·have g:=UM (aq u hu) hq e Aw;rw[if_pos e.symm];have e3:r.a.toNat=u:=by omega
     rw[e3];rw[e2] at g;have e4:at2 ac r.a r.b=atC (ac.getD u []) r.b:=by unfold at2;rw[e3]
     rw[e4];exact g
    ·rw[if_neg (λ z=>e z.symm)];exact UL (aq u hu) hq e
  ·rintro ρ ⟨ac,s5,s6,s7,s8,rfl,hM,aq⟩;rw[za2] at aq;exact⟨ac,s5,s6,s7,s8,rfl,hM,aq⟩
 rintro ρ ⟨ac,s5,s6,k7,k8,rfl,hM,aq⟩;have hF:=iA hM Aw aq;refine BA (I:=λ ρ=>∃(ac:List (List Co)) (s5 s6 s9:Option Cl),ρ=[‹Ad m rs›,‹.int m›,‹.lst (rs.map Bo)›,some (.ow (.rows (AD ac))),s4,s5,s6,k7,k8,s9]/\P6 m ac/\FW m m rs (at2 ac)) ?_ ?_
 ·simp_arith[c9];refine Bt (λ k ρ=>∃(ac:List (List Co)) (s5 s6 s9:Option Cl),ρ=[‹Ad m rs›,‹.int m›,‹.lst (rs.map Bo)›,some (.ow (.rows (AD ac))),s4,s5,s6,k7,k8,s9]/\P6 m ac/\FW m k rs (at2 ac)) ⟨ac,s5,s6,none,rfl,hM,hF⟩ ?_ ?_
  ·rintro k d ρ hd ⟨aw,s5,s6,s9,rfl,ul,ls⟩;obtain⟨aB,hk⟩:=BQ hd;rw[zd2] at aB;subst aB;refine⟨_,rfl,?_⟩;have k0:(0:Int)<=k:=by omega
   have k1:(k:Int)<m:=by omega
   have oc:=UJ ls hk;have orr:=UK ls hk;simp_arith[c9];refine Bt (λ u ρ=>∃(ac:List (List Co)) (s5 s6:Option Cl),ρ=[‹Ad m rs›,‹.int m›,‹.lst (rs.map Bo)›,some (.ow (.rows (AD ac))),s4,s5,s6,k7,k8,‹.int k›]/\P6 m ac/\∀x y:Int,0<=x->x<m->0<=y->y<m->at2 ac x y=if x<u then over k (at2 aw) x y else at2 aw x y) ⟨aw,s5,s6,rfl,ul,λ x y h0 h1 h2 h3=>by rw[if_neg (by omega)]⟩ ?_ ?_
   ·rintro u d ρ hd ⟨bA,s5,s6,rfl,ir,n5⟩;obtain⟨aB,hu⟩:=BQ hd;rw[zd2] at aB;subst aB;have u0:(0:Int)<=u:=by omega
    have u1:(u:Int)<m:=by omega
    refine⟨_,rfl,?_⟩;simp_arith[c9];refine Bt (λ w ρ=>∃(ac:List (List Co)) (s6:Option Cl),ρ=[‹Ad m rs›,‹.int m›,‹.lst (rs.map Bo)›,some (.ow (.rows (AD ac))),s4,‹.int u›,s6,k7,k8,‹.int k›]/\P6 m ac/\∀x y:Int,0<=x->x<m->0<=y->y<m->at2 ac x y=if x<u\/(x=u/\y<w) then over k (at2 aw) x y else at2 aw x y) ⟨bA,s6,rfl,ir,λ x y h0 h1 h2 h3=>by
     rw[n5 x y h0 h1 h2 h3];by_cases h:x<u
     ·rw[if_pos h,if_pos (.inl h)]
     ·rw[if_neg h,if_neg (by omega)]⟩ ?_ ?_
    ·rintro w d ρ hd ⟨aS,s6,rfl,iu,iw⟩;obtain⟨aB,hw⟩:=BQ hd;rw[zd2] at aB;subst aB;have w0:(0:Int)<=w:=by omega
     have w1:(w:Int)<m:=by omega
     have a1:at2 aS u w=at2 aw u w:=by rw[iw u w u0 u1 w0 w1,if_neg (by omega)]
     have a2:at2 aS u k=at2 aw u k:=by
      rw[iw u k u0 u1 k0 k1];split
      ·exact oc u
      ·rfl
     have a3:at2 aS k w=at2 aw k w:=by
      rw[iw k w k0 k1 w0 w1];split
      ·exact orr w
      ·rfl
     obtain⟨zm,hP⟩:=iu.put u0 u1 w0 w1 (over k (at2 aw) u w);have c1:=T9 (ρ:=[‹Ad m rs›,‹.int m›,‹.lst (rs.map Bo)›,some (.ow (.rows (AD aS))),s4,‹.int u›,‹.int w›,k7,k8,‹.int k›]) (i:=3) rfl iu u0 u1 w0 w1;have c2:=T9 (ρ:=[‹Ad m rs›,‹.int m›,‹.lst (rs.map Bo)›,some (.ow (.rows (AD aS))),s4,‹.int u›,‹.int w›,k7,k8,‹.int k›]) (i:=3) rfl iu u0 u1 k0 k1;have c3:=T9 (ρ:=[‹Ad m rs›,‹.int m›,‹.lst (rs.map Bo)›,some (.ow (.rows (AD aS))),s4,‹.int u›,‹.int w›,k7,k8,‹.int k›]) (i:=3) rfl iu k0 k1 w0 w1;rw[a1] at c1;rw[a2] at c2;rw[a3] at c3;have ii:=MW (at2 aw u k) (at2 aw k w);have hle:GL [cst (at2 aw u w),cst (Ap (at2 aw u k) (at2 aw k w))]=.ok (.sh (cst (over k (at2 aw) u w))):=GO _ _;have pj:=Ta (ρ:=[‹Ad m rs›,‹.int m›,‹.lst (rs.map Bo)›,some (.ow (.rows (AD aS))),s4,‹.int u›,‹.int w›,k7,k8,‹.int k›]) (i:=3) (v:=over k (at2 aw) u w) rfl iu u0 u1 w0 w1;refine⟨_,rfl,?_⟩;refine B7 (ρ':=[‹Ad m rs›,‹.int m›,‹.lst (rs.map Bo)›,some (.ow (.rows (AD (put2 aS u w (over k (at2 aw) u w))))),s4,‹.int u›,‹.int w›,k7,k8,‹.int k›]) (by simp_arith[c1,c2,c3,ii,hle,pj]) ⟨_,_,rfl,zm,λ x y h0 h1 h2 h3=>?_⟩;rw[hP x y h0 h2];by_cases h:x=u/\y=w
     ·rw[if_pos h,if_pos (by omega),h.1,h.2]
     ·rw[if_neg h,iw x y h0 h1 h2 h3];by_cases h':x<u\/(x=u/\y<w)
      ·rw[if_pos h',if_pos (by omega)]
      ·rw[if_neg h',if_neg (by omega)]
    ·rintro ρ ⟨aS,s6,rfl,iu,iw⟩;rw[BP] at iw;refine⟨aS,_,_,rfl,iu,λ x y h0 h1 h2 h3=>?_⟩;rw[iw x y h0 h1 h2 h3];by_cases h:x<u\/(x=u/\y<m)
     ·rw[if_pos h,if_pos (by omega)]
     ·rw[if_neg h,if_neg (by omega)]
   ·rintro ρ ⟨bA,s5,s6,rfl,ir,n5⟩;rw[BP] at n5;refine⟨bA,_,_,_,rfl,ir,(hZ ls hk).congr (by omega) Aw λ x y h0 h1 h2 h3=>?_⟩;rw[n5 x y h0 h1 h2 h3,if_pos h1]
  ·rintro ρ ⟨bA,s5,s6,s9,rfl,ir,db⟩;rw[BP] at db;exact⟨bA,s5,s6,s9,rfl,ir,db⟩
 ·rintro ρ ⟨bA,s5,s6,s9,rfl,ir,db⟩;refine⟨_,rfl,bA,ir,λ x y h0 h1 h2 h3=>uN db Aw h0 h1 h2 h3,?_⟩;rw[er,XE,zbm];congr 1;refine zcu λ R _=>?_;dsimp only [Function.comp];rw[JM]
abbrev VC:=za7 K0
def Xi:FT "_law_all" 2 1 VC:=(za1 K0).1
def Xj:RV VC:=(za1 K0).2
abbrev Qa (F:List D->M OT):Prop:=∀c:Co,F [cst c,cst c]=.ok (.sh (.bl true))
def ID:∃F,FT "_law_cost" 1 2 F/\Qa F:=by
 refine⟨_,λ T=>Az (k:=0) T.X4 MI _ (λ f B6 A outer s H E hr=>(A3 (AU (Eb (c:=true) (!1)) (A5 (Ai (AI (Wf (!0))))) As) (A3 (AU (DW.dt (CH (By (Bb (c:=true) (Dc (Gn _) rfl T.AQ rfl T.Lz (by decide +kernel) (!0)))) (Cg (Fl (c:=true) (!hr) (D9 rfl T.EV (!0)) A4)))) (A5 (Ai (AI CG))) As) (A3 (Bp A8.toXCall.own rfl (vD (!0)) (Av 2 MI.nd rfl (zax rfl)) (A5 (AU (DW.dt (CH (By (Bb (c:=true) (Dc (Ou _) rfl T.AQ rfl T.jO (by decide +kernel) (!2)))) (Cg (Bb (c:=true) (Dc (LZ _) rfl T.AQ rfl T.X7 (by decide +kernel) (!2)))))) (A5 (Ai (AI CG))) As))) (A5 (Ai (AI (Ue (!hr) (!0) (!1))))))))),?_⟩;intro c;rfl';refine B1 ?_;cases c with
 |none=>rfl
 |some p =>
  have hn:AZ (cst (some p))=false:=rfl;have ht:cst (some p)=.tup [.int p.1,.int p.2]:=rfl;have de:=Lc (some p) (some p);apply wp_step
  ·simp_arith[hn];rfl
  apply wp_step
  ·simp_arith[ht];rfl
  refine BA (I:=λ ρ=>∃s,ρ=[‹cst (some p)›,‹cst (some p)›,s]) ?_ ?_
  ·simp_arith[ht];refine Bt (λ i ρ=>∃s,ρ=[‹cst (some p)›,‹cst (some p)›,s]) ⟨none,rfl⟩ ?_ ?_
   ·rintro i d ρ hd ⟨s,rfl⟩;obtain⟨x,rfl⟩:∃x,d=D.int x:=by
     rcases i with _|_|i
     ·cases hd;exact⟨_,rfl⟩
     ·cases hd;exact⟨_,rfl⟩
     ·cases hd
    refine⟨_,rfl,?_⟩;refine B7 (ρ':=_) (by simp_arith[];rfl) ⟨_,rfl⟩
   ·rintro ρ ⟨s,rfl⟩;exact⟨s,rfl⟩
  ·rintro ρ ⟨s,rfl⟩;simp_arith[de,decide_true];rfl
abbrev RW:=za7 ID
def MY:FT "_law_cost" 1 2 RW:=(za1 ID).1
def MZ:Qa RW:=(za1 ID).2
abbrev Qb (F:List D->M OT):Prop:=∀(m:Nat) (rs:List Road) (s g:Int) (c:Int×Int) (N:List Nat),O0 rs s N g c.1->(N.length:Int)=c.2->F [Ad m rs,.int s,.int g,El N]=.ok (.sh (cst (some c)))
def IE:∃F,FT "_law_walk" 1 4 F/\Qb F:=by
 refine⟨_,λ T=>Az (k:=0) T.X5 Bu _ (λ f B6 A outer s H E hr=>(A3 (AE 4 Bu.nd rfl (zax rfl) (!1)) (A3 (AE 5 Bu.nd rfl (zax rfl) (AG (A2 A4 (A2 A4 A7)))) (A3 (AU (By (Bb (c:=true) (Dc (IH _) rfl T.AQ rfl T.EW (by decide +kernel) (!3)))) (A5 (Ai (AI Cw))) As) (A3 (Bp A8.toXCall.own rfl (AY (!3)) (Av 6 Bu.nd rfl (zax rfl)) (A3 (AU (DW.dt (CH (By (Bb (c:=true) (Dc (Ou _) rfl T.AQ rfl T.jO (by decide +kernel) (!6)))) (CH (Bb (c:=true) (Dc (LZ _) rfl T.AQ rfl T.X7 (by decide +kernel) (!6))) (Cg (By (ZX (c:=true) pR cZ A4 (!6) (D9 rfl T.EV (Aa (!hr) (!0) A4)))))))) (A5 (Ai (AI Cw))) As) (A3 (Wj (Aa (!hr) (Aa (!hr) (!0) A4) (!6)) (JG (n:=4) rfl (B0 (Av 7 Bu.nd rfl (zax rfl)) (B0 (Av 8 Bu.nd rfl (zax rfl)) (B0 (Av 9 Bu.nd rfl (zax rfl)) (B0 (Av 10 Bu.nd rfl (zax rfl)) Gp)))))) (A3 (AU (DW.dt (CH (Fl (c:=true) (!hr) (!7) (!4)) (Cg (Eb (c:=true) (!9))))) (A5 (Ai (AI Cw))) As) (A3 (AE 5 Bu.nd rfl (zax rfl) (AG (A2 (C7 (Aa (!hr) (!5) A4) (!9)) (A2 (C7 (Aa (!hr) (!5) A4) A4) A7)))) (A5 (AE 4 Bu.nd rfl (zax rfl) (!8)))))))) (A3 (AU (Fl (c:=true) (!hr) (!4) (!2)) (A5 (Ai (AI Cw))) As) (A5 (Ai (AI (!5)))))))))),?_⟩;intro m rs s g c N be bK;rfl';refine B1 ?_;have n1:AJ (Ad m rs) (.int 1)=.ok (.lst (rs.map Bo)):=rfl;have eN:El N=.lst (N.map λ n:Nat=>D.int (n:Int)):=rfl;refine wp_step (ρ':=[‹Ad m rs›,‹.int s›,‹.int g›,‹El N›,‹.int s›,none,none,none,none,none,none]) (by simp_arith[];try rfl) ?_;refine wp_step (ρ':=[‹Ad m rs›,‹.int s›,‹.int g›,‹El N›,‹.int s›,‹.tup [.int 0,.int 0]›,none,none,none,none,none]) (by simp_arith[];try rfl) ?_;refine wp_step (ρ':=[‹Ad m rs›,‹.int s›,‹.int g›,‹El N›,‹.int s›,‹.tup [.int 0,.int 0]›,none,none,none,none,none]) (by simp_arith[eN];try rfl) ?_;refine BA (I:=λ ρ=>∃s6 s7 s8 s9 gc:Option Cl,ρ=[‹Ad m rs›,‹.int s›,‹.int g›,‹El N›,‹.int g›,‹.tup [.int c.1,.int (N.length:Nat)]›,s6,s7,s8,s9,gc]) ?_ ?_
 ·simp_arith[eN];refine Bt (λ i ρ=>∃(x t a:Int) (s6 s7 s8 s9 gc:Option Cl),ρ=[‹Ad m rs›,‹.int s›,‹.int g›,‹El N›,‹.int x›,‹.tup [.int a,.int (i:Nat)]›,s6,s7,s8,s9,gc]/\O0 rs x (N.drop i) g t/\a+t=c.1) ⟨s,c.1,0,none,none,none,none,none,rfl,by rw[zdb];exact be,by omega⟩ ?_ ?_
  ·rintro i d ρ hd ⟨x,t,a,s6,s7,s8,s9,gc,rfl,hc,hs⟩;obtain⟨n,hn,rfl⟩:=BB hd;refine⟨_,rfl,?_⟩;have zn:N.drop i=n::N.drop (i+1):=by rw[List.drop_eq_getElem?_toList_append,hn];rfl
   rw[zn] at hc;obtain⟨r,l,t',g1,g2,g3,g4,g5⟩:=hc.inv;have hnl:=(zah.mp g1).1;have q1:decide ((0:Int)<=(n:Int))=true:=decide_eq_true (by omega);have q2:decide ((n:Int)<((rs.map Bo).length:Int))=true:=decide_eq_true (by rw[za2];omega);have lw:AJ (.lst (rs.map Bo)) (.int (n:Int))=.ok (Bo r):=Fm (by omega) (by rw[zbh];exact g1);have er:Bo r=.tup [.int r.a,.int r.b,.int l,.int r.w]:=by unfold Bo;rw[g3];rfl
   have zo:XG 16 (.int r.a) (.int x)=.ok (.bl false):=by rw[g2];exact Kf (Ck (n:=16) x)
   have aG:AZ (.int l)=false:=rfl;have t0:AJ (.tup [.int a,.int (i:Nat)]) (.int 0)=.ok (.int a):=rfl;have t1:AJ (.tup [.int a,.int (i:Nat)]) (.int 1)=.ok (.int (i:Nat)):=rfl;refine wp_step (ρ':=[‹Ad m rs›,‹.int s›,‹.int g›,‹El N›,‹.int x›,‹.tup [.int a,.int (i:Nat)]›,‹.int n›,s7,s8,s9,gc]) (by simp_arith[n1,q1,q2,Fi,if_true];try rfl) ?_;refine wp_step (ρ':=[‹Ad m rs›,‹.int s›,‹.int g›,‹El N›,‹.int x›,‹.tup [.int a,.int (i:Nat)]›,‹.int n›,‹.int r.a›,‹.int r.b›,‹.int l›,‹.int r.w›]) (by
    rw[er] at lw;simp_arith[n1,lw];try rfl) ?_
   refine wp_step (ρ':=[‹Ad m rs›,‹.int s›,‹.int g›,‹El N›,‹.int x›,‹.tup [.int a,.int (i:Nat)]›,‹.int n›,‹.int r.a›,‹.int r.b›,‹.int l›,‹.int r.w›]) (by simp_arith[zo,aG];try rfl) ?_;refine wp_step (ρ':=[‹Ad m rs›,‹.int s›,‹.int g›,‹El N›,‹.int x›,‹.tup [.int (a+l),.int ((i:Nat)+1)]›,‹.int n›,‹.int r.a›,‹.int r.b›,‹.int l›,‹.int r.w›]) (by simp_arith[t0,t1];try rfl) ?_;refine B7 (ρ':=[‹Ad m rs›,‹.int s›,‹.int g›,‹El N›,‹.int r.b›,‹.tup [.int (a+l),.int ((i:Nat)+1)]›,‹.int n›,‹.int r.a›,‹.int r.b›,‹.int l›,‹.int r.w›]) (by simp_arith[];try rfl) ⟨r.b,t',a+l,_,_,_,_,_,rfl,g4,by omega⟩
  ·rintro ρ ⟨x,t,a,s6,s7,s8,s9,gc,rfl,hc,hs⟩;rw[za2,zcm] at hc;rw[za2];cases hc;have:a=c.1:=by omega
   subst this;exact⟨s6,s7,s8,s9,gc,rfl⟩
 ·rintro ρ ⟨s6,s7,s8,s9,gc,rfl⟩;have um:XG 16 (.int g) (.int g)=.ok (.bl false):=Kf (Ck (n:=16) g);apply wp_step
  ·simp_arith[um];rfl
  simp_arith[bK];rfl
abbrev RX:=za7 IE
def VD:FT "_law_walk" 1 4 RX:=(za1 IE).1
def VE:Qb RX:=(za1 IE).2
abbrev LM (F:List D->M OT):Prop:=∀(m:Nat) (rs:List Road) (g:Nat) (T:List Co),m<=900->(∀r∈rs,GZ m r)->g<m->T.length=m->(∀w:Int,0<=w->w<m->Bg rs w g (atC T w))->F [Ad m rs,.int g,.lst (T.map cst)]=.ok (.sh (.bl true))
def FN:∃F,FT "_law_prices" 2 3 F/\LM F:=by
 refine⟨_,λ T=>Az (k:=1) T.Tn Be _ (λ f B6 A outer s H E hr=>(A3 (Wj (!0) (JG (n:=2) rfl (B0 (Av 3 Be.nd rfl (zax rfl)) (B0 (Av 4 Be.nd rfl (zax rfl)) Gp)))) (A3 (AU (DW.dt (CH (By (Bb (c:=true) (Dc (IH _) rfl T.AQ rfl T.EW (by decide +kernel) (!2)))) (Cg (Fl (c:=true) (!hr) (D9 rfl T.EV (!2)) (!3))))) (A5 (Ai (AI CG))) As) (A3 (BF 5 Be.nd rfl (zax rfl) (SI Cw (!3))) (A3 (Bp A8.toXCall.own rfl (AY (!4)) (JG (n:=4) rfl (B0 (Av 6 Be.nd rfl (zax rfl)) (B0 (Av 7 Be.nd rfl (zax rfl)) (B0 (Av 8 Be.nd rfl (zax rfl)) (B0 (Av 9 Be.nd rfl (zax rfl)) Gp))))) (A5 (AU (Gm (c:=true) (!8)) (A5 (OA 5 (pv 5) (Al (Ec (Ab A8.toXCall (GN T) (-hr) rfl (A2 (Aa (!hr) (!5) (!6)) (A2 (Al (Ab A8.toXCall (MV T) (-hr) rfl (A2 (AG (A2 (!8) (A2 A4 A7))) (A2 (Aa (!hr) (!2) (!7)) A7)) rfl)) A7)) rfl))) (!6))) As))) (A3 (OA 5 (pv 5) (AG (A2 A4 (A2 A4 A7))) (!1)) (A3 (Bp A8.toXCall.own rfl (BW (c:=true) rfl T.Ct (!3)) (Av 10 Be.nd rfl (zax rfl)) (A5 (AU (HH (By (Bb (c:=true) (Al (Ab A8.toXCall (MY T) (-hr) rfl (A2 (Aa (!hr) (!2) (!10)) (A2 (Aa (!hr) (!5) (!10)) A7)) rfl))))) (A5 (Ai (AI CG))) As))) (A5 (Ai (AI CG)))))))))),?_⟩;intro m rs g T hm Aw hg c7 hT;rfl';refine B1 ?_;have hlen:((T.map cst).length:Int)=(m:Int):=by rw[za2,c7]
 have aR:=L7 (d:=.AL) (n:=m) (by omega);have c6:zae m D.AL=(CC m rs T 0).map cst:=by rw[bN,List.map_replicate];rfl
 rw[c6] at aR;have uo:XG 16 (.int (m:Int)) (.int (m:Int))=.ok (.bl false):=Kf (Ck (n:=16) _);refine wp_step (ρ':=[‹Ad m rs›,‹.int g›,‹.lst (T.map cst)›,‹.int m›,‹.lst (rs.map Bo)›,none,none,none,none,none,none]) (by rfl) ?_;refine wp_step (ρ':=[‹Ad m rs›,‹.int g›,‹.lst (T.map cst)›,‹.int m›,‹.lst (rs.map Bo)›,none,none,none,none,none,none]) (by simp_arith[hlen,uo,decide_true,Bool.not_true];try rfl) ?_;refine wp_step (ρ':=[‹Ad m rs›,‹.int g›,‹.lst (T.map cst)›,‹.int m›,‹.lst (rs.map Bo)›,some (.own ((CC m rs T 0).map cst)),none,none,none,none,none]) (by simp_arith[aR];try rfl) ?_;refine BA (I:=λ ρ=>∃o6 o7 o8 o9:Option D,ρ=[‹Ad m rs›,‹.int g›,‹.lst (T.map cst)›,‹.int m›,‹.lst (rs.map Bo)›,some (.own ((CC m rs T rs.length).map cst)),vO o6,vO o7,vO o8,vO o9,none]) ?_ ?_
 ·simp_arith[];refine Bt (λ i ρ=>∃o6 o7 o8 o9:Option D,ρ=[‹Ad m rs›,‹.int g›,‹.lst (T.map cst)›,‹.int m›,‹.lst (rs.map Bo)›,some (.own ((CC m rs T i).map cst)),vO o6,vO o7,vO o8,vO o9,none]) ⟨none,none,none,none,rfl⟩ ?_ ?_
  ·rintro i d ρ hd ⟨o6,o7,o8,o9,rfl⟩;obtain⟨r,hq,rfl⟩:=BB hd;have hr:=Aw r (zai hq);refine⟨[‹Ad m rs›,‹.int g›,‹.lst (T.map cst)›,‹.int m›,‹.lst (rs.map Bo)›,some (.own ((CC m rs T i).map cst)),‹.int r.a›,‹.int r.b›,‹CJ r.l›,‹.int r.w›,none],rfl,?_⟩;cases hl:r.l with
   |none =>
    have aG:AZ (CJ none)=true:=rfl;refine B7 (ρ':=[‹Ad m rs›,‹.int g›,‹.lst (T.map cst)›,‹.int m›,‹.lst (rs.map Bo)›,some (.own ((CC m rs T i).map cst)),‹.int r.a›,‹.int r.b›,‹CJ none›,‹.int r.w›,none]) (by simp_arith[aG];try rfl) ⟨some (.int r.a),some (.int r.b),some (CJ none),some (.int r.w),by rw[bP hq hr hl];rfl⟩
   |some l =>
    have lv:CJ (some l)=.int l:=rfl;have aG:AZ (.int l)=false:=rfl;have ec:BH r=some (l,1):=by unfold BH;rw[hl]
    have x1:AJ (.lst ((CC m rs T i).map cst)) (.int r.a)=.ok (cst (atC (CC m rs T i) r.a)):=BZ hr.a0 (by rw[Dg];exact hr.a1);have x2:AJ (.lst (T.map cst)) (.int r.b)=.ok (cst (atC T r.b)):=BZ hr.b0 (by rw[c7];exact hr.b1);have h1:Mq [.tup [.int l,.int 1],cst (atC T r.b)]=.ok (.sh (cst (Ap (some (l,1)) (atC T r.b)))):=MW (some (l,1)) (atC T r.b);have h2:=GO (atC (CC m rs T i) r.a) (Ap (some (l,1)) (atC T r.b));have a8:=Le (i:=5) (ρ:=[‹Ad m rs›,‹.int g›,‹.lst (T.map cst)›,‹.int m›,‹.lst (rs.map Bo)›,some (.own ((CC m rs T i).map cst)),‹.int r.a›,‹.int r.b›,‹.int l›,‹.int r.w›,none]) (d:=cst (De (atC (CC m rs T i) r.a) (Ap (some (l,1)) (atC T r.b)))) (p:=r.a) rfl hr.a0 (by rw[za2,Dg];exact hr.a1);have aZ:((CC m rs T i).map cst).set r.a.toNat (cst (De (atC (CC m rs T i) r.a) (Ap (some (l,1)) (atC T r.b))))=(CC m rs T (i+1)).map cst:=by rw[RF hq hr,ec,List.map_set]
    rw[aZ] at a8;refine B7 (ρ':=[‹Ad m rs›,‹.int g›,‹.lst (T.map cst)›,‹.int m›,‹.lst (rs.map Bo)›,some (.own ((CC m rs T (i+1)).map cst)),‹.int r.a›,‹.int r.b›,‹.int l›,‹.int r.w›,none]) (by
     simp_arith[lv,aG,x1,x2,h1,h2,a8];try rfl) ⟨some (.int r.a),some (.int r.b),some (.int l),some (.int r.w),rfl⟩
  ·rintro ρ ⟨o6,o7,o8,o9,rfl⟩;rw[za2];exact⟨o6,o7,o8,o9,rfl⟩
 rintro ρ ⟨o6,o7,o8,o9,rfl⟩;obtain⟨U,hU⟩:∃U,U=(CC m rs T rs.length).set g (some (0,0)):=⟨_,rfl⟩;have hUl:U.length=m:=by rw[hU,zbj,Dg]
 have a8:=Le (i:=5) (ρ:=[‹Ad m rs›,‹.int g›,‹.lst (T.map cst)›,‹.int m›,‹.lst (rs.map Bo)›,some (.own ((CC m rs T rs.length).map cst)),vO o6,vO o7,vO o8,vO o9,none]) (d:=.tup [.int 0,.int 0]) (p:=(g:Int)) rfl (by omega) (by rw[za2,Dg];omega);have aZ:((CC m rs T rs.length).map cst).set (g:Int).toNat (.tup [.int 0,.int 0])=U.map cst:=by rw[hU,zbh,List.map_set];rfl
 rw[aZ] at a8;refine wp_step (ρ':=[‹Ad m rs›,‹.int g›,‹.lst (T.map cst)›,‹.int m›,‹.lst (rs.map Bo)›,some (.own (U.map cst)),vO o6,vO o7,vO o8,vO o9,none]) (by simp_arith[a8];try rfl) ?_;have b8:Wm (.int (m:Int))=.ok (Cy 0 m):=Hz (by omega);refine BA (I:=λ ρ=>∃(o:Option D),ρ=[‹Ad m rs›,‹.int g›,‹.lst (T.map cst)›,‹.int m›,‹.lst (rs.map Bo)›,some (.own (U.map cst)),vO o6,vO o7,vO o8,vO o9,vO o]) ?_ ?_
 ·simp_arith[b8];refine Bt (λ i ρ=>∃(o:Option D),ρ=[‹Ad m rs›,‹.int g›,‹.lst (T.map cst)›,‹.int m›,‹.lst (rs.map Bo)›,some (.own (U.map cst)),vO o6,vO o7,vO o8,vO o9,vO o]) ⟨none,rfl⟩ ?_ ?_
  ·rintro i d ρ hd ⟨o,rfl⟩;obtain⟨aB,hi⟩:=BQ hd;rw[zd2] at aB;subst aB;refine⟨_,rfl,?_⟩;have x1:AJ (.lst (U.map cst)) (.int (i:Int))=.ok (cst (atC U i)):=BZ (by omega) (by omega);have x2:AJ (.lst (T.map cst)) (.int (i:Int))=.ok (cst (atC T i)):=BZ (by omega) (by omega);have eU:atC U (i:Int)=atC T (i:Int):=by rw[hU];exact bQ hg Aw hT hi
   rw[eU] at x1;have d5:=MZ (atC T (i:Int));refine B7 (ρ':=[‹Ad m rs›,‹.int g›,‹.lst (T.map cst)›,‹.int m›,‹.lst (rs.map Bo)›,some (.own (U.map cst)),vO o6,vO o7,vO o8,vO o9,‹.int i›]) (by simp_arith[x1,x2,d5,Fi];try rfl) ⟨some (.int i),rfl⟩
  ·rintro ρ ⟨o,rfl⟩;exact⟨o,rfl⟩
 ·rintro ρ ⟨o,rfl⟩;rfl
abbrev N0:=za7 FN
def QL:FT "_law_prices" 2 3 N0:=(za1 FN).1
def QM:LM N0:=(za1 FN).2
abbrev Qc (F:List D->M OT):Prop:=∀(m:Nat) (rs:List Road),F [Ad m rs]=.ok (.tup [.sh (.int m),.lst ((rs.map Bo).map .sh)])
def IF:∃F,FT "_law_copy" 1 1 F/\Qc F:=by
 refine⟨_,λ T=>Az (k:=0) T.X6 Ve _ (λ f B6 A outer s H E hr=>(A5 (Ai (Wr (EL (AI (Aa (!hr) (!0) A4)) (EL (Nw rfl T.EW (Aa (!hr) (!0) A4)) CL)))))),?_⟩;intro m rs;rfl';refine B1 ?_;have i0:AJ (Ad m rs) (.int 0)=.ok (.int m):=rfl;have i1:AJ (Ad m rs) (.int 1)=.ok (.lst (rs.map Bo)):=rfl;simp_arith[i0,i1];exact⟨_,rfl,rfl⟩
abbrev RY:=za7 IF
def VF:FT "_law_copy" 1 1 RY:=(za1 IF).1
def VG:Qc RY:=(za1 IF).2
abbrev N1 (F:List D->M OT):Prop:=∀(m:Nat) (rs:List Road) (s g:Nat) (T:List Co) (N:List Nat),m<=16->(∀r∈rs,GZ m r/\r.a≠r.b)->s<m->g<m->T.length=m->(∀w:Int,0<=w->w<m->Bg rs w g (atC T w))->(∀c,atC T s=some c->O0 rs s N g c.1/\(N.length:Int)=c.2)->F [Ad m rs,J9 (atC T s) N T,.int s,.int g,cst (atC T s)]=.ok (.sh (.bl true))
def GP:∃F,FT "_law_right" 3 5 F/\N1 F:=by
 refine⟨_,λ T=>Az (k:=2) T.Vl Lu _ (λ f B6 A outer s H E hr=>(A3 (AU (Eb (c:=true) (!4)) (A5 (Ai (AI (Wf (!1))))) As) (A3 (AU (DW.dt (CH (By (Bb (c:=true) (Dc (Gn _) rfl T.AQ rfl T.Lz (by decide +kernel) (!1)))) (CH (Fl (c:=true) (!hr) (D9 rfl T.EV (!1)) A4) (Cg (By (Bb (c:=true) (Al (Ab A8.toXCall (MY T) (-hr) rfl (A2 (Aa (!hr) (!1) A4) (A2 (!4) A7)) rfl)))))))) (A5 (Ai (AI CG))) As) (A3 (AU (DW.dt (CH (Fl (c:=true) (!hr) (Al (Ab A8.toXCall (VD T) (-hr) rfl (A2 (!0) (A2 (!2) (A2 (!3) (A2 (Aa (!hr) (!1) A4) A7)))) rfl)) (!4)) (Cg (By (Bb (c:=true) (Al (Ab A8.toXCall (QL T) (-hr) rfl (A2 (!0) (A2 (!3) (A2 (Aa (!hr) (!1) A4) A7))) rfl))))))) (A5 (Ai (AI CG))) As) (A3 (AE 5 Lu.nd rfl (zax rfl) (Al (SE (Hy (A2 (!2) A7)) (Al (Dd (NB:=["_law_road_here","_law_net"]) [none,some 0] rfl (AY (Aa (!hr) (!1) A4)) rfl rfl (Bz 0 (by decide) rfl rfl rfl) (λ _ _ _ _=>DM) (λ _ _ _ _=>(Aa (!hr) (Aa (!hr) (Aa (!hr) (!1) A4) (!0)) A4))))))) (A5 (Ai (AI (Ot (Ue (!hr) (bS rfl rfl T.EV rfl T.zW (!5)) (D9 rfl T.EV (!5))) (Oq (Ue (!hr) (Aa (!hr) (Aa (!hr) (!1) A4) (!2)) (!4)))))))))))),?_⟩;intro m rs s g T N hm Aw hs hg c7 hT hN;rfl';refine B1 ?_;have d9:∀r∈rs,GZ m r:=λ r hr=>(Aw r hr).1;cases hc:atC T s with
 |none=>rfl
 |some c =>
  obtain⟨n1,n2⟩:=hN c hc;have a7:=hT s (by omega) (by omega);rw[hc] at a7;have ku:=Fo Aw ⟨by omega,by omega⟩ a7;have aG:AZ (J9 (some c) N T)=false:=rfl;have a0:AJ (J9 (some c) N T) (.int 0)=.ok (cst (some c)):=rfl;have a1:AJ (J9 (some c) N T) (.int 1)=.ok (El N):=rfl;have a2:AJ (J9 (some c) N T) (.int 2)=.ok (.lst (T.map cst)):=rfl;have ty:Je "tuple" (J9 (some c) N T)=.ok (.bl true):=rfl;have dl:Wg [J9 (some c) N T]=.ok (.int 3):=rfl;have hw:=VE m rs s g c N n1 n2;have d5:=MZ (some c);have zp:=QM m rs g T (by omega) d9 hg c7 hT;have zq:AZ (cst (some c))=false:=rfl;have eN:El N=.lst (N.map λ n:Nat=>D.int (n:Int)):=rfl;have x1:AJ (.lst (T.map cst)) (.int (s:Int))=.ok (cst (atC T s)):=BZ (by omega) (by omega);rw[hc] at x1;have de:=Lc (some c) (some c);have zr:AJ (Ad m rs) (.int 1)=.ok (.lst (rs.map Bo)):=rfl;have hpl:=WT Aw n1 (by rw[n2];exact a7);have hlen:((s:Int)::E5 rs N).length<=17:=by
   rw[za8];unfold E5;rw[za2];omega
  have b9:(N.map λ n:Nat=>D.int (n:Int)).length<=1000:=by rw[za2];omega
  have ae:XG 16 (cst (some c)) (cst (some c))=.ok (.bl false):=Kf (OY (n:=15) (some c));apply wp_step
  ·simp_arith[zq];rfl
  apply wp_step
  ·simp_arith[ty,dl,a0,d5,Fi];rfl
  refine wp_step (ρ':=[‹Ad m rs›,‹J9 (some c) N T›,‹.int s›,‹.int g›,‹cst (some c)›,none]) (by simp_arith[a1,a2,hw,ae,zp,Fi];try rfl) ?_;have lx:OI (.lst [.int (s:Int)]) (.lst ((E5 rs N).map D.int))=.ok (.lst ((((s:Int)::E5 rs N).map D.int).map .sh)):=SQ (by rw[za2,zba];rw[za8] at hlen;omega);refine wp_step (ρ':=[‹Ad m rs›,‹J9 (some c) N T›,‹.int s›,‹.int g›,‹cst (some c)›,‹.lst (((s:Int)::E5 rs N).map D.int)›]) (by
   simp_arith[a1,eN,if_pos b9];rw[C9 (λ n:Nat=>D.int (((rs[n]?).map Road.b).getD 0)) (λ n hn=>⟨_,rfl,rfl,by
    have ag:=vL n1 n hn;have hx:AJ (.lst (rs.map Bo)) (.int (n:Int))=.ok (Bo rs[n]):=Fm (by omega) (by rw[zbh,za6 ag]);have r1:AJ (Bo rs[n]) (.int 1)=.ok (.int rs[n].b):=rfl;have eg:((rs[n]?).map Road.b).getD 0=rs[n].b:=by rw[za6 ag];rfl
    rw[eg];simp_arith[zr,hx,r1]⟩)]
   have em:N.map (λ n:Nat=>D.int (((rs[n]?).map Road.b).getD 0))=(E5 rs N).map D.int:=by unfold E5;rw[zbm];rfl
   rw[em];simp_arith[lx];try rfl) ?_
  have wn:=jI (ns:=(s:Int)::E5 rs N) (by omega);rw[WS hpl.1] at wn;have vb:((((s:Int)::E5 rs N).map D.int).length:Int)=((((s:Int)::E5 rs N).length:Nat):Int):=by rw[za2]
  simp_arith[wn,vb,a2,x1,de,Fi,decide_true,if_true];rfl
abbrev Ff:=za7 GP
def LN:FT "_law_right" 3 5 Ff:=(za1 GP).1
def Tv:N1 Ff:=(za1 GP).2
def Xk:∃F:List D->M D,(∀ {P w K mg base f fd},Txt K mg->cH K "law" "law" RL f fd->Ea P w K mg base lC 9 f fd ["_law_script"] (Wn K 1 F))/\(∀ns:List Int,ns.length<=63->(∀n∈ns,Sm n)->F [.lst (ns.map D.int)]=.ok (.bl true)):=by
 refine⟨_,fun {P w K mg base f fd} T F=>yK (k:=8) F FF _ (λ B6 A outer s H E hr=>(A3 (AE 1 FF.nd rfl (zax rfl) (Al (BX (Ab (Bq rfl).toXCall (Xg T) (-hr) rfl (A2 (!0) (A2 A4 (A2 A4 A7))) rfl)))) (A3 (AE 2 FF.nd rfl (zax rfl) (Al (BX (Ab (Bq rfl).toXCall (VF T) (-hr) rfl (A2 (!1) A7) rfl)))) (A3 (AE 3 FF.nd rfl (zax rfl) (Al (BX (nN (Bq rfl).toXCall (F9 T).ini (-hr) rfl (A2 (!2) (A2 (Al (Ab (Bq rfl).toXCall (Tt T) (-hr) rfl (A2 (Al (Ab (Bq rfl).toXCall (Fe T) (-hr) rfl (A2 (!0) (A2 A4 A7)) rfl)) (A2 (Aa (!hr) (!1) A4) (A2 A4 A7))) rfl)) A7)) rfl)))) (A3 (AU (Jd (c:=true) (!hr) (C8 (Al (BX (Ab (Bq rfl).toXCall (Ey T) (-hr) rfl (A2 (Al (Ab (Bq rfl).toXCall (Fe T) (-hr) rfl (A2 (!0) (A2 A4 A7)) rfl)) (A2 A4 A7)) rfl))) A4) A4) (A5 (AE 3 FF.nd rfl (zax rfl) (Al (BX (gR (Bq rfl).toXCall (F9 T) (-hr) rfl (A2 (!2) A7) rfl))))) As) (A3 (AE 4 FF.nd rfl (zax rfl) (Al (BX (Ab (Bq rfl).toXCall (Xi T) (-hr) rfl (A2 (!1) A7) rfl)))) (A3 (Bp PassesOwn.never rfl (BW (c:=true) rfl T.Ct (Aa (!hr) (!1) A4)) (Av 5 FF.nd rfl (zax rfl)) (A5 (Bp PassesOwn.never rfl (BW (c:=true) rfl T.Ct (Aa (!hr) (!1) A4)) (Av 7 FF.nd rfl (zax rfl)) (A3 (BF 8 FF.nd rfl (zax rfl) (BX (Ab (Bq rfl).toXCall (jV T) (-hr) rfl (A2 (!3) (A2 (!5) (A2 (!7) A7))) rfl))) (A3 (AU (HH (By (Bb (c:=true) (Al (BX (Ab (Bq rfl).toXCall (LN T) (-hr) rfl (A2 (!1) (A2 (!8) (A2 (!5) (A2 (!7) (A2 (Aa (!hr) (Aa (!hr) (!4) (!5)) (!7)) A7))))) rfl)))))) (A5 (eZ (We CG))) As) (A5 (AU (HH (Gm (c:=true) (!8))) (A3 (fR (XR (Bs 8 (pv 8)) A4) (AI A4)) (A5 (ZY (XR (Bs 8 (pv 8)) A4)))) As))))))) (A3 (AE 6 FF.nd rfl (zax rfl) (Al (BX (Ab (Bq rfl).toXCall (jV T) (-hr) rfl (A2 (!3) (A2 A4 (A2 (Sl (Aa (!hr) (!1) A4) A4) A7))) rfl)))) (A5 (eZ (We (Ot (Ue (!hr) (!2) (!1)) (Oq (Al (BX (Ab (Bq rfl).toXCall (LN T) (-hr) rfl (A2 (!1) (A2 (!6) (A2 A4 (A2 (Sl (Aa (!hr) (!1) A4) A4) (A2 (Aa (!hr) (Aa (!hr) (!4) A4) (Sl (Aa (!hr) (!1) A4) A4)) A7))))) rfl)))))))))))))))),?_⟩;intro ns jl bC;rfl';refine zA ?_;obtain⟨z1,cr,db⟩:=IA ns 1 bC;have ix:Ex [.lst (ns.map D.int),.int 1]=.ok (.sh (.int z1)):=db;obtain⟨m,rs,bp,bd,ny,g8,tm,zt,zu⟩:=Xh ns jl bC;have iy:∀r∈rs,GZ m r/\r.a≠r.b:=λ r hr=>(g8 r hr).okR;have i0:AJ (Ad m rs) (.int 0)=.ok (.int m):=rfl;have lc:=VG m rs;have zv:=pJ m rs;refine wp_step (ρ':=[‹.lst (ns.map D.int)›,‹Ad m rs›,none,none,none,none,none,none,none]) (by simp_arith[zt,zu];try rfl) ?_;refine wp_step (ρ':=[‹.lst (ns.map D.int)›,‹Ad m rs›,‹Ad m rs›,none,none,none,none,none,none]) (by simp_arith[lc,zv];try rfl) ?_;obtain⟨L1,zw,uq⟩:=Tu z1 m 0 (by omega) (by decide) (by decide);obtain⟨A1,K1,ui,t1,zx,zy⟩:=Fb m rs (.lst (L1.map D.int)) L1 bp (by omega) (by omega) g8 zw (.inl rfl);have g1:Rk (Cu (.ins "Ladder" [] []) [Ad m rs,.lst (L1.map D.int)])=.ok t1:=by rw[zx];rfl
 refine wp_step (ρ':=[‹.lst (ns.map D.int)›,‹Ad m rs›,‹Ad m rs›,‹AM m rs L1 A1 K1›,none,none,none,none,none]) (by simp_arith[ix,i0,uq,g1,zy];try rfl) ?_;obtain⟨v,v0,hv⟩:=Ez z1 30 (by decide) (by decide);have q4:Hl (.int v) (.int 4)=.ok (.int (v%4)):=BN (by decide);refine BA (I:=λ ρ=>∃(L:List Int) (A:LA) (K:List (Int×Int)),ρ=[‹.lst (ns.map D.int)›,‹Ad m rs›,‹Ad m rs›,‹AM m rs L A K›,none,none,none,none,none]/\Bc m rs L A K) ?_ ?_
 ·by_cases c1:v%4=1
  ·obtain⟨A,K,ok,t,hI,hE⟩:=Fb m rs .AL (ZG m (Cm rs) (Bw m)) bp (by omega) (by omega) g8 (UY m _ _ (ES m)) (.inr ⟨rfl,rfl⟩);have z3:Rk (Cu (.ins "Ladder" [] []) ([Ad m rs]++[.AL]))=.ok t:=by
    rw[show [Ad m rs]++[D.AL]=[Ad m rs,.AL] from rfl,hI];rfl
   refine B7 (ρ':=[‹.lst (ns.map D.int)›,‹Ad m rs›,‹Ad m rs›,‹AM m rs (ZG m (Cm rs) (Bw m)) A K›,none,none,none,none,none]) (by simp_arith[ix,hv,q4,decide_eq_true c1,z3,hE];try rfl) ⟨_,A,K,rfl,ok⟩
  ·refine B7 (ρ':=[‹.lst (ns.map D.int)›,‹Ad m rs›,‹Ad m rs›,‹AM m rs L1 A1 K1›,none,none,none,none,none]) (by simp_arith[ix,hv,q4,decide_eq_false c1];try rfl) ⟨_,A1,K1,rfl,ui⟩
 rintro ρ ⟨L,A,K,rfl,ok⟩;obtain⟨ac,hM,hA,tc,z4,z5⟩:=Xj m rs bp (by omega) (by omega) λ r hr=>(iy r hr).1;refine wp_step (ρ':=[‹.lst (ns.map D.int)›,‹Ad m rs›,‹Ad m rs›,‹AM m rs L A K›,‹.lst ((AD ac).map D.lst)›,none,none,none,none]) (by simp_arith[z4,z5];try rfl) ?_;have aq:∀s:Int,0<=s->s<m->AJ (.lst ((AD ac).map D.lst)) (.int s)=.ok (.lst ((ac.getD s.toNat []).map cst)):=λ s h0 h1=>by
  have e:=(hM.get h0 h1).1;have e2:(AD ac)[s.toNat]?=some ((ac.getD s.toNat []).map cst):=by unfold AD;rw[zan,e];rfl
  exact Fm h0 e2
 have lw:∀x y:Int,0<=x->x<m->0<=y->y<m->AJ (.lst ((ac.getD x.toNat []).map cst)) (.int y)=.ok (cst (at2 ac x y)):=λ x y a b c d=>BZ c (by rw[(hM.get a b).2];exact d);have ly:∀s g:Nat,s<m->g<m->∃(T:List Co) (N:List Nat),cB [AM m rs L A K,.int s,.int g]=.ok (jJ (at2 ac s g) N T)/\(at2 ac s g≠none->N.length<=900)/\Ff [Ad m rs,J9 (at2 ac s g) N T,.int s,.int g,cst (at2 ac s g)]=.ok (.sh (.bl true)):=λ s g hs hg=>by
  obtain⟨T,N,c7,hT,hN,hF⟩:=vN m rs L A K s g ok hs hg;have hr:=Tv m rs s g T N (by omega) iy hs hg c7 hT hN;have e:=(hT s (by omega) (by omega)).Cj (hA s g (by omega) (by omega) (by omega) (by omega));rw[e] at hF hr;refine⟨T,N,hF,λ h=>?_,hr⟩;obtain⟨c,hc⟩:=Option.ne_none_iff_exists'.mp h;have bf:atC T s=some c:=e.trans hc;have h1:=(hN c bf).2;have a7:=hT s (by omega) (by omega);rw[bf] at a7;have:=Fo iy ⟨by omega,by omega⟩ a7;omega
 have b8:Wm (.int (m:Int))=.ok (Cy 0 m):=Hz (by omega);refine BA (I:=λ ρ=>∃s5 s7 s8:Option Cl,ρ=[‹.lst (ns.map D.int)›,‹Ad m rs›,‹Ad m rs›,‹AM m rs L A K›,‹.lst ((AD ac).map D.lst)›,s5,none,s7,s8]) ?_ ?_
 ·simp_arith[i0,b8];refine Bt (λ i ρ=>∃s5 s7 s8:Option Cl,ρ=[‹.lst (ns.map D.int)›,‹Ad m rs›,‹Ad m rs›,‹AM m rs L A K›,‹.lst ((AD ac).map D.lst)›,s5,none,s7,s8]) ⟨none,none,none,rfl⟩ ?_ ?_
  ·rintro s d ρ hd ⟨s5,s7,s8,rfl⟩;obtain⟨aB,hs⟩:=BQ hd;rw[zd2] at aB;subst aB;refine⟨_,rfl,?_⟩;simp_arith[i0,b8];refine Bt (λ j ρ=>∃s7 s8:Option Cl,ρ=[‹.lst (ns.map D.int)›,‹Ad m rs›,‹Ad m rs›,‹AM m rs L A K›,‹.lst ((AD ac).map D.lst)›,‹.int s›,none,s7,s8]) ⟨s7,s8,rfl⟩ ?_ ?_
   ·rintro g d ρ hd ⟨s7,s8,rfl⟩;obtain⟨aB,hg⟩:=BQ hd;rw[zd2] at aB;subst aB;refine⟨_,rfl,?_⟩;obtain⟨T,N,hF,hl,hr⟩:=ly s g hs hg;have r1:=aq s (by omega) (by omega);have x1:=lw s g (by omega) (by omega) (by omega) (by omega);cases hc:at2 ac s g with
    |none =>
     rw[hc] at hF hr x1;have l6:cB [AM m rs L A K,.int s,.int g]=.ok (.sh .AL):=hF;have aL:Ff [Ad m rs,.AL,.int s,.int g,cst none]=.ok (.sh (.bl true)):=hr;have aG:AZ .AL=true:=rfl;refine wp_step (ρ':=[‹.lst (ns.map D.int)›,‹Ad m rs›,‹Ad m rs›,‹AM m rs L A K›,‹.lst ((AD ac).map D.lst)›,‹.int s›,none,‹.int g›,‹.AL›]) (by simp_arith[l6];try rfl) ?_;refine wp_step (ρ':=[‹.lst (ns.map D.int)›,‹Ad m rs›,‹Ad m rs›,‹AM m rs L A K›,‹.lst ((AD ac).map D.lst)›,‹.int s›,none,‹.int g›,‹.AL›]) (by simp_arith[r1,x1,aL,Fi];try rfl) ?_;refine B7 (ρ':=[‹.lst (ns.map D.int)›,‹Ad m rs›,‹Ad m rs›,‹AM m rs L A K›,‹.lst ((AD ac).map D.lst)›,‹.int s›,none,‹.int g›,‹.AL›]) (by simp_arith[aG];try rfl) ⟨_,_,rfl⟩
    |some c =>
     rw[hc] at hF hr x1 hl;have hN9:=hl (by simp);have aG:AZ (J9 (some c) N T)=false:=rfl;obtain⟨NL,ur⟩:∃NL,NL=N.map λ n:Nat=>D.int (n:Int):=⟨_,rfl⟩;have z6:(NL.map OT.sh).length<1000:=by rw[ur,za2,za2];omega
     obtain⟨TL,wo⟩:∃TL,TL=T.map cst:=⟨_,rfl⟩;have l6:cB [AM m rs L A K,.int s,.int g]=.ok (.tup [.sh (cst (some c)),.lst (NL.map .sh),.lst (TL.map .sh)]):=by rw[ur,wo];exact hF
     have het:er (.tup [.sh (cst (some c)),.lst (NL.map .sh),.lst (TL.map .sh)])=J9 (some c) N T:=by rw[ur,wo];exact Yz (some c) N T
     refine wp_step (ρ':=[‹.lst (ns.map D.int)›,‹Ad m rs›,‹Ad m rs›,‹AM m rs L A K›,‹.lst ((AD ac).map D.lst)›,‹.int s›,none,‹.int g›,some (.ow (.tree none (.tup [.sh (cst (some c)),.lst (NL.map .sh),.lst (TL.map .sh)])))]) (by simp_arith[l6];try rfl) ?_;refine wp_step (ρ':=[‹.lst (ns.map D.int)›,‹Ad m rs›,‹Ad m rs›,‹AM m rs L A K›,‹.lst ((AD ac).map D.lst)›,‹.int s›,none,‹.int g›,some (.ow (.tree none (.tup [.sh (cst (some c)),.lst (NL.map .sh),.lst (TL.map .sh)])))]) (by simp_arith[het,r1,x1,hr,Fi];try rfl) ?_;have y1:mD 8 [‹.lst (ns.map D.int)›,‹Ad m rs›,‹Ad m rs›,‹AM m rs L A K›,‹.lst ((AD ac).map D.lst)›,‹.int s›,none,‹.int g›,some (.ow (.tree none (.tup [.sh (cst (some c)),.lst (NL.map .sh),.lst (TL.map .sh)])))] [] (.int 1)=.ok [1]:=rfl;have l1:Dm 0 [some (.ow (.tree none (.tup [.sh (cst (some c)),.lst (NL.map .sh),.lst (TL.map .sh)])))] [1]=.ok (NL.map .sh):=rfl;have y2:mD 8 [‹.lst (ns.map D.int)›,‹Ad m rs›,‹Ad m rs›,‹AM m rs L A K›,‹.lst ((AD ac).map D.lst)›,‹.int s›,none,‹.int g›,some (.ow (.tree none (.tup [.sh (cst (some c)),.lst (NL.map .sh++[.sh (.int 0)]),.lst (TL.map .sh)])))] [] (.int 2)=.ok [2]:=rfl;have l2:Dm 0 [some (.ow (.tree none (.tup [.sh (cst (some c)),.lst (NL.map .sh++[.sh (.int 0)]),.lst (TL.map .sh)])))] [2]=.ok (TL.map .sh):=rfl;simp_arith[het,aG,Bool.not_false,if_true];refine wp_step (ρ':=[‹.lst (ns.map D.int)›,‹Ad m rs›,‹Ad m rs›,‹AM m rs L A K›,‹.lst ((AD ac).map D.lst)›,‹.int s›,none,‹.int g›,some (.ow (.tree none (.tup [.sh (cst (some c)),.lst (NL.map .sh++[.sh (.int 0)]),.lst (TL.map .sh)])))]) (by simp_arith[y1,l1,if_pos z6];try rfl) ?_;refine B7 (ρ':=[‹.lst (ns.map D.int)›,‹Ad m rs›,‹Ad m rs›,‹AM m rs L A K›,‹.lst ((AD ac).map D.lst)›,‹.int s›,none,‹.int g›,some (.ow (.tree none (.tup [.sh (cst (some c)),.lst (NL.map .sh++[.sh (.int 0)]),.lst []])))]) (by simp_arith[y2,l2];try rfl) ⟨_,_,rfl⟩
   ·rintro ρ ⟨s7,s8,rfl⟩;exact⟨_,s7,s8,rfl⟩
  ·rintro ρ ⟨s5,s7,s8,rfl⟩;exact⟨s5,s7,s8,rfl⟩
 rintro ρ ⟨s5,s7,s8,rfl⟩;obtain⟨g,hg⟩:∃g:Nat,(m:Int)-1=(g:Int):=⟨m-1,by omega⟩;obtain⟨T,N,hF,hl,hr⟩:=ly 0 g (by omega) (by omega);obtain⟨x,hx⟩:∃x,x=at2 ac 0 g:=⟨_,rfl⟩;have x1:AJ (.lst ((ac.getD (0:Int).toNat []).map cst)) (.int (g:Int))=.ok (cst x):=by rw[hx];exact lw 0 g (by omega) (by omega) (by omega) (by omega)
 have r1:=aq 0 (by omega) (by omega);have l6:cB [AM m rs L A K,.int 0,.int g]=.ok (jJ x N T):=by rw[hx];exact hF
 have aL:Ff [Ad m rs,J9 x N T,.int 0,.int g,cst x]=.ok (.sh (.bl true)):=by rw[hx];exact hr
 have z7:=Yz x N T;have z8:eQ 16 (Ad m rs) (Ad m rs)=.ok (.bl true):=by rw[Oy ((hV m rs).le (by decide)) ((hV m rs).le (by decide)),Om]
 refine wp_step (ρ':=[‹.lst (ns.map D.int)›,‹Ad m rs›,‹Ad m rs›,‹AM m rs L A K›,‹.lst ((AD ac).map D.lst)›,s5,‹J9 x N T›,s7,s8]) (by simp_arith[i0,hg,l6,z7];try rfl) ?_;simp_arith[z8,i0,hg,r1,x1,aL,Fi,if_true];rfl
abbrev jY:List D->M D:=za7 Xk
def vP {P w K mg base f fd}:Txt K mg->cH K "law" "law" RL f fd->Ea P w K mg base lC 9 f fd ["_law_script"] (Wn K 1 jY):=(za1 Xk).1
def vQ:∀ns:List Int,ns.length<=63->(∀n∈ns,Sm n)->jY [.lst (ns.map D.int)]=.ok (.bl true):=(za1 Xk).2
set_option maxHeartbeats 0 in
set_option maxHeartbeats 0 in
set_option maxHeartbeats 0 in
set_option maxHeartbeats 0 in
def left (w:World):(PySem.W.openEnds treeTable PySem.Challenge.pw_nodeladder_k43_asked w 6100).map (λ s=>PySem.W.openSeen (Dk PySem.Challenge.pw_nodeladder_k43_asked) [] (importedModules PySem.Challenge.pw_nodeladder_k43_asked.main.body) (λ s=>PySem.W.xlAt (Dk PySem.Challenge.pw_nodeladder_k43_asked) [] s&&PySem.W.recOk [] s) true s)=some (PySem.W.openGood (Dk PySem.Challenge.pw_nodeladder_k43_asked) []):=by
 rw[Ye,uI,PySem.W.Fast.te4187177175401517315,PySem.W.Fast.te5923862056798008813,PySem.W.Fast.te3930524608564167972];exact SK (wG w) (SK (wH w) (SK (wI w) (wJ w)))
set_option maxHeartbeats 0 in
def vR (w:World):RZ (Kp R0 PySem.Challenge.pw_nodeladder_k43_asked w) PySem.Challenge.pw_nodeladder_k43_asked:=by
 rw[uI,PySem.W.Fast.te3930524608564167972];exact kB w
set_option maxHeartbeats 0 in
def vS (w:World):S0 (Kp R0 PySem.Challenge.pw_nodeladder_k43_asked w) PySem.Challenge.pw_nodeladder_k43_asked:=by
 rw[uI,PySem.W.Fast.te3930524608564167972];exact kC w
def all_mk {l:PySem.W.OpenLaw}(X:K.In h)(G:h.Ns mainGlobals mg)(z9:mg "law" = some (.ref fa))(u0:RZ K PySem.Challenge.pw_nodeladder_k43_asked)(u1:S0 K PySem.Challenge.pw_nodeladder_k43_asked):
 ∃fd:FuncData,(∀(s:Shared) (v:Value),BindsTo s fd ⟨[v],[]⟩ [("_law_script",v)])/\∀base:Heap,K.In base->base.Ns mainGlobals mg->Ea l.prog w K mg base lC 9 fa fd ["_law_script"] (Wn K 1 jY):=by
 have ai:YS K _:=⟨u0.1.1.1.1.1.2,u0.1.1.1.1.2,u0.1.1.1.2.1,u0.1.1.1.2.2⟩;obtain⟨f35,l7,aa2,to35,aa5,l8,aa6,ab0,ab3,ab4,l9,me,mf,mh,mi,a35,i35,l35,c35,k35,ml⟩:=u1.2.2.2.2.1.ex;have F35:=nT (st:=AF) l35 c35 k35;have B35:Binds K (zbl "__init__" "Ladder.__init__" (BE AF) (AW AF) (A6 AF) (.ref l7) l9 me mf l8 mh mi) ["self","net","order"] []:=λ s us hK hl=>by
  have ar:us.length=3:=by simpa using hl
  rcases us with _|⟨_,_|⟨_,_|⟨_,_|⟨_,us⟩⟩⟩⟩<;>first|exact PySem.W.binds_K hK rfl ml rfl rfl rfl|(simp at ar)
 have D35:Binds K (zbl "__init__" "Ladder.__init__" (BE AF) (AW AF) (A6 AF) (.ref l7) l9 me mf l8 mh mi) ["self","net","order"] [.none]:=λ s us hK hl=>by
  have ar:us.length=2:=by simpa using hl
  rcases us with _|⟨_,_|⟨_,_|⟨_,_|⟨_,us⟩⟩⟩⟩<;>first|exact PySem.W.binds_K hK rfl ml rfl rfl rfl|(simp at ar)
 have T35:WA K mg "Ladder" "Ladder.__init__" AF ["self","net","order"]:=⟨_,_,_,⟨u0.1.1.1.1.1.1,PySem.W.mg_of X G u0.1.1.1.1.1.1⟩,⟨u0.1.1.2.1.1.1,a35,i35,u0.1.1.2.1.1.2⟩,F35,B35,D35⟩;obtain⟨f54,ac4,ac5,ac6,ac7,ac8,ac9,ad0,ad1,ad2,wp,l54,c54,k54⟩:=u1.2.2.2.2.2.ex;cases z9.symm.trans (PySem.W.mg_of X G wp);have ut:=W9 (st:=RL) l54 c54 k54;have T54:AK K mg "law" RL ["_law_script"]:=⟨_,_,ut,PySem.W.mg_of X G wp,ut.binds (λ _ _ _ _ _ _=>ln1 λ _=>rfl)⟩;have T:Txt K mg:=⟨AS X G u0.1.1.2.1.2,AS X G u0.1.1.2.2.1,AS X G u0.1.1.2.2.2,AS X G u0.1.2.1.1.1.1,AS X G u0.1.2.1.1.1.2,AS X G u0.1.2.1.1.2,AS X G u0.1.2.1.2.1,AS X G u0.1.2.1.2.2,AS X G u0.1.2.2.1.1.1,AS X G u0.1.2.2.1.1.2,AS X G u0.1.2.2.1.2,AS X G u0.1.2.2.2.1,AS X G u0.1.2.2.2.2,AS X G u0.2.1.1.1.1.1,AS X G u0.2.1.1.1.1.2,AS X G u0.2.1.1.1.2,AS X G u0.2.1.1.2.1,AS X G u0.2.1.1.2.2,AS X G u0.2.1.2.1.1.1,AS X G u0.2.1.2.1.1.2,AS X G u0.2.1.2.1.2,AS X G u0.2.1.2.2.1,AS X G u0.2.1.2.2.2,AS X G u0.2.2.1.1.1.1,AS X G u0.2.2.1.1.1.2,AS X G u0.2.2.1.1.2,AS X G u0.2.2.1.2.1,AS X G u0.2.2.1.2.2,AS X G u0.2.2.2.1.1.1,AS X G u0.2.2.2.1.1.2,AS X G u0.2.2.2.1.2,AS X G u0.2.2.2.2.1,AS X G u0.2.2.2.2.2,AS X G u1.1.1.1.1.1.1,T35,UG u0.1.1.1.1.1.1 ai u1.1.1.1.1.1.2,UG u0.1.1.1.1.1.1 ai u1.1.1.1.1.2,UG u0.1.1.1.1.1.1 ai u1.1.1.1.2.1,UG u0.1.1.1.1.1.1 ai u1.1.1.1.2.2,UG u0.1.1.1.1.1.1 ai u1.1.1.2.1.1.1,AS X G u1.1.1.2.1.1.2,AS X G u1.1.1.2.1.2,AS X G u1.1.1.2.2.1,AS X G u1.1.1.2.2.2,AS X G u1.1.2.1.1.1.1,AS X G u1.1.2.1.1.1.2,AS X G u1.1.2.1.1.2,AS X G u1.1.2.1.2.1,AS X G u1.1.2.1.2.2,AS X G u1.1.2.2.1.1.1,AS X G u1.1.2.2.1.1.2,AS X G u1.1.2.2.1.2,AS X G u1.1.2.2.2.1 (λ _ _ _ _ _ _=>ln5 λ _ _ _ _ _=>rfl),T54,zbf X G u1.1.2.2.2.2,zbf X G u1.2.1.1.1.1.1,zbf X G u1.2.1.1.1.1.2,zbf X G u1.2.1.1.1.2,zbf X G u1.2.1.1.2.1,zbf X G u1.2.1.1.2.2,zbf X G u1.2.1.2.1.1.1,zbf X G u1.2.1.2.1.1.2,zbf X G u1.2.1.2.1.2,zbf X G u1.2.1.2.2.1,zbf X G u1.2.1.2.2.2,zbf X G u1.2.2.1.1.1.1,zbf X G u1.2.2.1.1.1.2,zbf X G u1.2.2.1.1.2,⟨_,u0.1.1.1.1.1.1,ai,u1.2.2.1.2.1⟩,⟨_,u0.1.1.1.1.1.1,ai,u1.2.2.1.2.2⟩,⟨_,u0.1.1.1.1.1.1,ai,u1.2.2.2.1.1⟩,⟨_,u0.1.1.1.1.1.1,ai,u1.2.2.2.1.2⟩⟩;refine⟨_,?_,λ base _ _=>vP T ut⟩;exact λ s v=>.of_eq rfl
def walk {l:PySem.W.OpenLaw}{K:World->za0}(hn:l.most=some 63)(gz:d.params.defaults=[])(hY:∀(w:World) (h:Heap),YP w h->(K w).In h)(F:∀(w:World) (mg:Str->Option Value) (fa:Addr) (h:Heap),(K w).In h->h.Ns mainGlobals mg->mg d.name=some (.ref fa)->
  ∃fd:FuncData,(∀(s:Shared) (u:Value),BindsTo s fd ⟨[u],[]⟩ [("_law_script",u)])/\∀base:Heap,(K w).In base->base.Ns mainGlobals mg->Ea l.prog w (K w) mg base lC 9 fa fd ["_law_script"] (Wn (K w) 1 jY)):
 PySem.W.WalkO q loose XP YP l.row.toRowW d [] (λ f vs=>PySem.call f vs):=
 L2.zF (n:=63) (k:=9) (x := "_law_script") (CX:=λ _=>lC) (sp:=λ w=>Wn (K w) 1 jY) hn (by decide) gz ⟨rfl,by decide,by decide⟩ hY F (λ w H a ns bC hl _ hS=>lV vQ (K w) H a ns bC hl hS) λ _ _ _ _ _ z=>z
end df
open PySem PySem.W PyProof.Rows L2
set_option maxRecDepth 100000 in
set_option autoImplicit true
set_option relaxedAutoImplicit true
set_option maxHeartbeats 0 in
theorem PySem.Challenge.cw_nodeladder_k43_asked_holds : PySem.Challenge.rw_nodeladder_k43_asked.Holds := by
 w_on;o_law
 refine holds_open (q:=Dk PySem.Challenge.pw_nodeladder_k43_asked) (loose:=[]) (Xt:=λ s=>xlAt (Dk PySem.Challenge.pw_nodeladder_k43_asked) [] s&&recOk [] s) (XP:=XL (Dk PySem.Challenge.pw_nodeladder_k43_asked) []) (Yf:=λ s=>s.heap) (Ya:=λ w=>cK R0 PySem.Challenge.pw_nodeladder_k43_asked w 6100) (YP:=λ w h=>zE (cK R0 PySem.Challenge.pw_nodeladder_k43_asked w 6100) h) (N:=6100) (nU df.left) (λ w s e b o q=>by rw[<-e] at q;exact q) (λ w h h' a b c o q=>b c o (a c o q)) (λ s e=>xl_of s (Bool.and_eq_true_iff.mp e).1) XL.keeps (by rfl) (by rfl) (by rfl) (λ s e=>recFacts_of (Bool.and_eq_true_iff.mp e).2) (by rfl) (by first|assumption|decide +kernel) (by decide +kernel) ⟨rfl,rfl,rfl,rfl,rfl,by decide +kernel⟩ ?hw ?hc;case hw=>w_witness2
 case hc =>
  refine df.walk (l:=PySem.Challenge.rw_nodeladder_k43_asked) (K:=df.Kp R0 PySem.Challenge.pw_nodeladder_k43_asked) rfl rfl (λ w h Y=>uJ Y) ?F;intro w mg fa h KX G g7;exact df.all_mk KX G g7 (df.vR w) (df.vS w)
