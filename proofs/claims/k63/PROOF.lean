import PyProof.Rows.All
import Wide.All
import OpenK.AllK
import Wide.FinOn
import Lean
import PyProof.EqAt
import PyProof.EqKinds
import PyProof.TupleCall
import PyProof.NeKinds
import KE.KRevSl
import KE.KIsAll
import PyProof.FitsBits
import KE.LcSums
import KE.KRevIter
import PyProof.ListRange
import PyProof.Rows.SumAny
import PyProof.Rows.SortWalk
import PyProof.AttrMissHeap
import KE.KDictOf
import PyProof.ZipIter
import PyProof.DictWalks
import KE.KDictList
import PyProof.Rows.Range3
import PySem.Challenge.RW_nodeladder_k63_whole_labels
set_option bootstrap.genMatcherCode false
set_option Elab.async false
set_option linter.all false
set_option maxRecDepth 1000000
open PySem.W renaming Frag→za,nsIn→zH,findIn→zQ,mg_none_of→zS,keepIn→zX,fnOf→yI,emptyDict→za3,codeIn→za4,kia_one→zaj,instObj→zak
open Classical renaming choose_spec→zb,choose→zh,byContradiction→zaf,propDecidable→zbd
open List renaming length_map→zc,mem_cons_self→zd,mem_cons_of_mem→ze,map_cons→zf,mem_singleton→zg,getElem?_eq_getElem→zi,length_cons→zj,set_cons_succ→zk,mem_append_right→zl,size_toArray→zm,mem_cons→zp,set_cons_zero→zq,replicate→zr,mem_of_getElem?→zv,range→zw,getD_eq_getElem?_getD→zx,mem_append→zy,getElem?_eq_some_iff→z3,map_append→z4,getElem?_map→z7,nodup_append→z9,length_append→zA,foldl_cons→zB,mem_map→zC,append_nil→zI,getElem?_cons_succ→zL,mem_append_left→zM,getElem?_set_self→zN,append_assoc→zO,map_map→zT,take_length→zU,take_add_one→zV,nodup_cons→zW,mem_of_mem_take→yK,length_take→yM,mem_filter→yN,length_singleton→yP,length_reverse→yR,length_set→yS,getElem?_append_left→yU,getElem?_set_ne→yV,getElem?_cons_zero→yW,getElem?_append_right→yX,nodup_nil→yY,filterMap_cons→za0,mem_reverse→za1,lookup_cons→za2,replicate_succ→za5,take_append_drop→za6,getElem?_replicate→zaa,any_cons→zab,mem_range→zac,drop_eq_getElem_cons→zai,map_nil→zaq,map_congr_left→zar,filter_cons_of_pos→zas,filter_cons_of_neg→zat,cons_append→zau,take_of_length_le→zaw,mem_filterMap→zax,length_replicate→zb0,length_filter_le→zb1,find?_cons→zb2,mem_or_eq_of_mem_set→zb7,length_drop→zb9,getElem_mem→zba,any_eq_true→zbb
open PySem.Heap renaming get?_push_of_some→zo,lt_size→zt,get?_push_size→zE
open Nat renaming le_refl→zu,lt_of_lt_of_le→z5,ne_of_lt→z6,zero_le→zR,le_trans→yJ,le_of_lt→yQ
open Bool renaming false_ne_true→z8,and_eq_true→zF,false_eq_true→zG,eq_iff_iff→zap,eq_false_iff→zb5
open Option.some renaming inj→zD
open Prod renaming fst→zJ,snd→yZ
open Or renaming inl→zK
open PySem.Builtin.Int renaming intBits→zP
open Ne renaming symm→zY
open PyProof.Rows renaming callWith_type1→zZ
open PySem.Value renaming ref→yL
open Int renaming toNat_natCast→yO,zero_add→zah,emod_lt_of_pos→zaz,emod_nonneg→zb3,add_assoc→zb6
open Option renaming map_eq_some_iff→yT,map_some→zae,isSome_iff_exists→zam
open PySem.F renaming plainAttrs_list→za7,plain_min_loop→zad
open PySem.W.Fast renaming tw5923862056798008813→za8,tw4187177175401517315→za9
open PySem.Calls renaming spliced_cons→zag,spliced_nil→zao
open PySem.Around renaming under_plainId→zal
open False renaming elim→zan
open True renaming intro→zav
open PySem.NameKind renaming free→zay
open PySem.Builtin.List renaming listTooLong→zb4
open PySem renaming mem_of_lookup→zb8
open ForInStep renaming yield→zbc
local macro_rules|`(~~~$t)=>`(autoParam $t PySem.W.name_B._auto_1)
local macro_rules|`(nofun)=>`(⟨rfl,rfl,rfl,by decide +kernel,rfl,by decide +kernel,by decide +kernel⟩)
local macro_rules|`(def $i $b* :$t $v:declVal)=>`(theorem $i $b* :$t $v:declVal)
local macro_rules|`(abbrev $i $b* :$t $v:declVal)=>`(noncomputable def $i $b* :$t $v:declVal)|`(abbrev $i $b* $v:declVal)=>`(noncomputable def $i $b* $v:declVal)
section
set_option maxHeartbeats 0
namespace L2
open PySem PySem.Spec PyProof.Rows PySem.W PySem.Calls
abbrev inClass (s:Stmt)(j:Nat):Stmt:=match s with
 | .ClassDef _ _ _ body _ _ _ _ _ _ _=>body.getD j (.Pass ⟨0,0,0,0⟩)
 |_=>.Pass ⟨0,0,0,0⟩
abbrev Bo (s:Stmt):Arguments:=match s with
 | .FunctionDef _ a _ _ _ _ _ _ _ _=>a
 |_=>{posonlyargs:=[],args:=[],vararg:=none,kwonlyargs:=[],kw_defaults:=[],kwarg:=none,defaults:=[]}
abbrev AR (s:Stmt):List Stmt:=match s with
 | .FunctionDef _ _ b _ _ _ _ _ _ _=>b
 |_=>[]
abbrev A5 (s:Stmt):Scope:=match s with
 | .FunctionDef _ _ _ _ _ _ sc _ _ _=>sc
 |_=>{kind:=.function,names:=[],isGenerator:=false,isCoroutine:=false}
structure FP (K:za)(x:Str)(st:Stmt):Prop where
 ex:∃(f:Addr) (oc:Value) (od an:Option Addr) (sl:Array (Option Value)) (kV dc pm cd ct:Value),zH K mainGlobals x=some (some (.ref f))/\K.lookup f=some ⟨oc,od,.func (yI x x (Bo st) (AR st) (A5 st) .none kV dc pm an cd ct),sl⟩/\za4 K cd x=true/\zX K (.ref f)=true
structure MP (K:za)(C:Addr)(m qual:Str)(st:Stmt):Prop where
 ex:∃(f:Addr) (oc:Value) (od an:Option Addr) (sl:Array (Option Value)) (kV dc pm cd ct:Value),zQ K (.ref C) m=some (some (.ref f))/\PySem.W.isFn K (.ref f)=true/\K.lookup f=some ⟨oc,od,.func (yI m qual (Bo st) (AR st) (A5 st) .none kV dc pm an cd ct),sl⟩/\za4 K cd qual=true/\zX K (.ref f)=true
abbrev D3 (p:Program):Program:={p with main:={p.main with body:=p.main.body.filter λ s=>match s with | .FunctionDef .. =>true | .ClassDef .. =>true | _=>false} }
structure Rn where
 run:(String->Option Builtin)->Program->World->Nat->Option Value->Nat->Shared->Thread->Option Shared
 ns:Heap->Addr->Str->Option Value
 imp:(String->Option Builtin)->Program->World->Nat->Shared->Thread->Option Shared
 xN:Program->Shared->Option Shared
 st:Program->Shared×Thread
 tb:String->Option Builtin
abbrev Ms (R:Rn)(p:Program)(w:World)(N:Nat):Option Shared:=
 ((R.imp R.tb (opening p) w N (R.st (opening p)).fst (R.st (opening p)).snd).bind (R.xN p)).bind λ s₀ =>
 match s₀.heap.isNs mainGlobals&&s₀.gens.size==0 with
 |true=>(R.run R.tb p w s₀.heap.objs.size (R.ns s₀.heap mainGlobals (Str.ofString "__annotations__")) N s₀ (topStub p)).bind λ s₁ =>
  match staticsOk (importedModules p.main.body) s₀.heap s₁.heap&&namesBound p s₁.heap&&gensDone s₁&&laidKept s₀.heap s₁.heap with
  |true=>some s₁
  |false=>none
 |false=>none
abbrev R1:Rn:=⟨PySem.W.Fast.tw14082659384304107361,PySem.W.Fast.tw8920871248978507458,PySem.W.Fast.tw10274390034422433532,PySem.W.Fast.tw14289696077712309145,PySem.W.Fast.tw1435165496053646825,PySem.W.Fast.tw14364793385576792824⟩
abbrev XS (R:Rn)(p:Program)(w:World)(N:Nat):Heap:=match Ms R p w N with | some s=>s.heap | none=>⟨#[],default⟩
abbrev tT (h:Heap)(as:List Addr):za:=as.filterMap λ a=>(h.get? a).map λ o=>(a,o)
abbrev wI (v:Option (Option Value)):Addr:=match v with | some (some (.ref f))=>f | _=>0
abbrev Ge (K:za)(f:Addr):Obj:=(K.lookup f).getD ⟨.none,none,.plain,#[]⟩
abbrev NY (d:Data)(st:Stmt):FuncData:=match d with | .func fd=>fd | _=>yI Str.empty Str.empty (Bo st) [] (A5 st) .none .none .none .none none .none .none
abbrev uP (v:Value):Addr:=match v with | .ref a=>a | _=>0
abbrev uQ (d:Data):Nat:=match d with | .seq _ n=>n | _=>0
abbrev cA (K:za)(x:Str):Addr:=wI (zH K mainGlobals x)
abbrev mA (K:za)(C:Addr)(m:Str):Addr:=wI (zQ K (.ref C) m)
def pW {K:za}{x:Str}{st:Stmt}(a:zH K mainGlobals x=some (some (.ref (cA K x))):=by kernel_rfl)
 (l:K.lookup (cA K x)=some ⟨(Ge K (cA K x)).cls,(Ge K (cA K x)).dict,.func (yI x x (Bo st) (AR st) (A5 st) .none (NY (Ge K (cA K x)).data st).kwdefaults (NY (Ge K (cA K x)).data st).doc (NY (Ge K (cA K x)).data st).pyModule (NY (Ge K (cA K x)).data st).annotations (NY (Ge K (cA K x)).data st).code (NY (Ge K (cA K x)).data st).closureTuple),(Ge K (cA K x)).slots⟩:=by kernel_rfl)
 (c:za4 K (NY (Ge K (cA K x)).data st).code x=true:=by kernel_rfl) (k:zX K (.ref (cA K x))=true:=by kernel_rfl):FP K x st:=⟨⟨_,_,_,_,_,_,_,_,_,_,a,l,c,k⟩⟩
def pX {K:za}{C:Addr}{m qual:Str}{st:Stmt}(a:zQ K (.ref C) m=some (some (.ref (mA K C m))):=by kernel_rfl)(i:PySem.W.isFn K (.ref (mA K C m))=true:=by kernel_rfl)
 (l:K.lookup (mA K C m)=some ⟨(Ge K (mA K C m)).cls,(Ge K (mA K C m)).dict,.func (yI m qual (Bo st) (AR st) (A5 st) .none (NY (Ge K (mA K C m)).data st).kwdefaults (NY (Ge K (mA K C m)).data st).doc (NY (Ge K (mA K C m)).data st).pyModule (NY (Ge K (mA K C m)).data st).annotations (NY (Ge K (mA K C m)).data st).code (NY (Ge K (mA K C m)).data st).closureTuple),(Ge K (mA K C m)).slots⟩:=by kernel_rfl)
 (c:za4 K (NY (Ge K (mA K C m)).data st).code qual=true:=by kernel_rfl) (k:zX K (.ref (mA K C m))=true:=by kernel_rfl):MP K C m qual st:=⟨⟨_,_,_,_,_,_,_,_,_,_,a,i,l,c,k⟩⟩
structure IP (K:za)(C:Addr)(qual:Str)(st:Stmt):Prop where
 ex:∃(f td:Addr) (oc to:Value) (od an tq:Option Addr) (sl ts:Array (Option Value)) (tn:Nat) (kV dc pm cd ct:Value),zQ K (.ref C) "__init__" = some (some (.ref f))/\PySem.W.isFn K (.ref f)=true/\K.lookup f=some ⟨oc,od,.func (yI "__init__" qual (Bo st) (AR st) (A5 st) (.ref td) kV dc pm an cd ct),sl⟩/\za4 K cd qual=true/\zX K (.ref f)=true/\K.lookup td=some ⟨to,tq,.seq #[.none] tn,ts⟩
abbrev tA (K:za)(C:Addr)(st:Stmt):Addr:=uP (NY (Ge K (mA K C "__init__")).data st).defaults
def pY {K:za}{C:Addr}{qual:Str}{st:Stmt}(a:zQ K (.ref C) "__init__" = some (some (.ref (mA K C "__init__"))):=by kernel_rfl)(i:PySem.W.isFn K (.ref (mA K C "__init__"))=true:=by kernel_rfl)
 (l:K.lookup (mA K C "__init__")=some ⟨(Ge K (mA K C "__init__")).cls,(Ge K (mA K C "__init__")).dict,.func (yI "__init__" qual (Bo st) (AR st) (A5 st) (.ref (tA K C st)) (NY (Ge K (mA K C "__init__")).data st).kwdefaults (NY (Ge K (mA K C "__init__")).data st).doc (NY (Ge K (mA K C "__init__")).data st).pyModule (NY (Ge K (mA K C "__init__")).data st).annotations (NY (Ge K (mA K C "__init__")).data st).code (NY (Ge K (mA K C "__init__")).data st).closureTuple),(Ge K (mA K C "__init__")).slots⟩:=by kernel_rfl)
 (c:za4 K (NY (Ge K (mA K C "__init__")).data st).code qual=true:=by kernel_rfl) (k:zX K (.ref (mA K C "__init__"))=true:=by kernel_rfl) (d:K.lookup (tA K C st)=some ⟨(Ge K (tA K C st)).cls,(Ge K (tA K C st)).dict,.seq #[.none] (uQ (Ge K (tA K C st)).data),(Ge K (tA K C st)).slots⟩:=by kernel_rfl):IP K C qual st:=⟨⟨_,_,_,_,_,_,_,_,_,_,_,_,_,_,_,a,i,l,c,k,d⟩⟩
end L2
namespace ck
open PySem L2
def prim:(PySem.W.chainsOk PySem.Challenge.pw_nodeladder_k63_whole_labels||true)=true:=by k_qdec
def pZ (w:World):(Ms R1 PySem.W.Fast.tw6138623895484501808 w 6100).map (λ s=>(za9 (D3 PySem.W.Fast.tw6138623895484501808) [] (za8 PySem.W.Fast.tw6138623895484501808.main.body) (λ s=>PySem.W.xlAt (D3 PySem.W.Fast.tw6138623895484501808) [] s&&PySem.W.recOk [] s) true s).1)=some (PySem.W.openGood (D3 PySem.W.Fast.tw6138623895484501808) []).1:=by kernel_rfl
def qA (w:World):(Ms R1 PySem.W.Fast.tw6138623895484501808 w 6100).map (λ s=>(za9 (D3 PySem.W.Fast.tw6138623895484501808) [] (za8 PySem.W.Fast.tw6138623895484501808.main.body) (λ s=>PySem.W.xlAt (D3 PySem.W.Fast.tw6138623895484501808) [] s&&PySem.W.recOk [] s) true s).2.1)=some (PySem.W.openGood (D3 PySem.W.Fast.tw6138623895484501808) []).2.1:=by kernel_rfl
def qB (w:World):(Ms R1 PySem.W.Fast.tw6138623895484501808 w 6100).map (λ s=>(za9 (D3 PySem.W.Fast.tw6138623895484501808) [] (za8 PySem.W.Fast.tw6138623895484501808.main.body) (λ s=>PySem.W.xlAt (D3 PySem.W.Fast.tw6138623895484501808) [] s&&PySem.W.recOk [] s) true s).2.2.1)=some (PySem.W.openGood (D3 PySem.W.Fast.tw6138623895484501808) []).2.2.1:=by kernel_rfl
def qC (w:World):(Ms R1 PySem.W.Fast.tw6138623895484501808 w 6100).map (λ s=>(za9 (D3 PySem.W.Fast.tw6138623895484501808) [] (za8 PySem.W.Fast.tw6138623895484501808.main.body) (λ s=>PySem.W.xlAt (D3 PySem.W.Fast.tw6138623895484501808) [] s&&PySem.W.recOk [] s) true s).2.2.2)=some (PySem.W.openGood (D3 PySem.W.Fast.tw6138623895484501808) []).2.2.2:=by kernel_rfl
abbrev topP (p:Program)(i:Nat):Stmt:=p.main.body.getD i (.Pass ⟨0,0,0,0⟩)
abbrev Kp (R:Rn)(p:Program)(w:World):za:=tT (XS R p w 6100) (zw 520)
abbrev PP (K:za)(p:Program):Prop:=
 ((((((zH K mainGlobals "Ladder" = some (some (.ref (cA K "Ladder"))))/\(PySem.W.plainGet K (cA K "Ladder") Str.empty=true))/\(PySem.W.hasDictIn K (cA K "Ladder")=true))/\((PySem.W.plainOver K (cA K "Ladder")=true)/\(zQ K (.ref (cA K "Ladder")) "__setattr__" = some (some (.builtin "object.__setattr__")))))/\((((PySem.W.makesIn K (cA K "Ladder")=true)/\(zX K (.ref (cA K "Ladder"))=true))/\(FP K "is_whole_below" (topP p 7)))/\((FP K "is_measure" (topP p 8))/\(FP K "is_road" (topP p 9)))))/\(((((FP K "is_map" (topP p 10))/\(FP K "checked" (topP p 11)))/\(FP K "added" (topP p 12)))/\((FP K "least" (topP p 13))/\(FP K "road_cost" (topP p 14))))/\(((FP K "kept_costs" (topP p 16))/\(FP K "kept_costs_turned" (topP p 17)))/\((FP K "climbed" (topP p 18))/\(FP K "swept" (topP p 20))))))/\((((((FP K "costs_out" (topP p 21))/\(FP K "costs_in" (topP p 22)))/\(FP K "lies_over" (topP p 24)))/\((FP K "label_by" (topP p 25))/\(FP K "label_out" (topP p 26))))/\((((FP K "label_into" (topP p 27))/\(FP K "met" (topP p 28)))/\(FP K "cost_so_far" (topP p 30)))/\((FP K "lay" (topP p 31))/\(FP K "lay_over" (topP p 32)))))/\(((((FP K "laid_arcs" (topP p 33))/\(FP K "is_order" (topP p 35)))/\(FP K "checked_order" (topP p 36)))/\((FP K "first_bows" (topP p 37))/\(FP K "missing_bows" (topP p 38))))/\(((FP K "lightest" (topP p 39))/\(FP K "ranked" (topP p 40)))/\((FP K "costs_from" (topP p 42))/\(FP K "order_or_ranked" (topP p 44))))))
def dM (w:World):PP (Kp R1 PySem.W.Fast.tw6138623895484501808 w) PySem.W.Fast.tw6138623895484501808:=by
 unfold PP
 and_intros<;>first|exact pW|exact pX|exact pY|kernel_rfl
abbrev PQ (K:za)(p:Program):Prop:=
 ((((((FP K "kept_arcs" (topP p 45))/\(MP K (cA K "Ladder") "order" "Ladder.order" (inClass (topP p 46) 2)))/\(MP K (cA K "Ladder") "checked_arc" "Ladder.checked_arc" (inClass (topP p 46) 4)))/\((MP K (cA K "Ladder") "cost" "Ladder.cost" (inClass (topP p 46) 5))/\(MP K (cA K "Ladder") "kept" "Ladder.kept" (inClass (topP p 46) 8))))/\((((FP K "_law_cell_at" (topP p 48))/\(FP K "_law_mix" (topP p 49)))/\(FP K "_law_great" (topP p 50)))/\((FP K "_law_roads" (topP p 51))/\(FP K "_law_order" (topP p 52)))))/\(((((FP K "_law_added" (topP p 53))/\(FP K "_law_least" (topP p 54)))/\(FP K "_law_open" (topP p 55)))/\((FP K "_law_costs" (topP p 56))/\(FP K "_law_between" (topP p 57))))/\(((FP K "_law_entries" (topP p 58))/\(FP K "_law_by" (topP p 59)))/\((zH K mainGlobals "all" = some none)/\(zH K mainGlobals "any" = some none)))))/\((((((zH K mainGlobals "bool" = some none)/\(zH K mainGlobals "dict" = some none))/\(zH K mainGlobals "enumerate" = some none))/\((zH K mainGlobals "int" = some none)/\(zH K mainGlobals "isinstance" = some none)))/\(((zH K mainGlobals "len" = some none)/\(zH K mainGlobals "list" = some none))/\((zH K mainGlobals "min" = some none)/\(zH K mainGlobals "range" = some none))))/\(((((zH K mainGlobals "reversed" = some none)/\(zH K mainGlobals "sorted" = some none))/\(zH K mainGlobals "tuple" = some none))/\((zQ K (.ref (cA K "Ladder")) "kept_ones" = some none)/\(zQ K (.ref (cA K "Ladder")) "laid" = some none)))/\(((zQ K (.ref (cA K "Ladder")) "own_map" = some none)/\(zQ K (.ref (cA K "Ladder")) "own_order" = some none))/\((IP K (cA K "Ladder") "Ladder.__init__" (inClass (topP p 46) 0))/\(FP K "law" (topP p 60))))))
def dN (w:World):PQ (Kp R1 PySem.W.Fast.tw6138623895484501808 w) PySem.W.Fast.tw6138623895484501808:=by
 unfold PQ
 and_intros<;>first|exact pW|exact pX|exact pY|kernel_rfl
end ck
end
set_option Elab.async false
set_option linter.all false
set_option maxRecDepth 100000
namespace L2
open PySem PySem.Spec PyProof.Rows
noncomputable abbrev Key:=Sum Int Str
abbrev OB:Key->Value->Bool
 | .inl k,v=>Value.isInt k v
 | .inr x,v=>Value.isStrOf x v
abbrev uR (w:World):Key->Int
 | .inl k=>hashInt k
 | .inr x=>hashStr w x
def Bu:∀ {k:Key}{v:Value},OB k v=true->(∃i t,k=Sum.inl i/\v=Value.int i t)\/(∃x t,k=Sum.inr x/\v=Value.str x t)
 | .inl i,v,h=>by
  obtain⟨t,e⟩:=Value.isInt_shape (k:=i) (v:=v) h;exact .inl ⟨i,t,rfl,e⟩
 | .inr x,v,h=>by
  obtain⟨t,e⟩:=Value.isStrOf_shape (x:=x) (v:=v) h;exact .inr ⟨x,t,rfl,e⟩
def Wf (i:Int)(t:Tok):OB (.inl i) (.int i t)=true:=by simp[OB,Value.isInt]
def Wg (x:Str)(t:Tok):OB (.inr x) (.str x t)=true:=by simp[OB,Value.isStrOf]
def kX (a b:Int):decide ((Sum.inl a:Key)=Sum.inl b)=(a==b):=by
 by_cases e:a=b
 ·subst e;simp
 ·have h:¬ (Sum.inl a:Key)=Sum.inl b:=λ q=>e (Sum.inl.inj q);rw[decide_eq_false h];exact (beq_eq_false_iff_ne.mpr e).symm
def kY (a b:Str):decide ((Sum.inr a:Key)=Sum.inr b)=decide (a=b):=by
 by_cases e:a=b
 ·subst e;simp
 ·have h:¬ (Sum.inr a:Key)=Sum.inr b:=λ q=>e (Sum.inr.inj q);rw[decide_eq_false h,decide_eq_false e]
def kZ (a:Int)(b:Str):decide ((Sum.inl a:Key)=Sum.inr b)=false:=decide_eq_false (λ q=>nomatch q)
def lA (a:Str)(b:Int):decide ((Sum.inr a:Key)=Sum.inl b)=false:=decide_eq_false (λ q=>nomatch q)
abbrev B3 (prog:Program)(w:World):PySem.KeyKind prog w Key where
 is:=OB
 hash:=uR w
 inj:=λ v a b ha hb=>by
  rcases Bu ha with ⟨i,t,rfl,rfl⟩|⟨x,t,rfl,rfl⟩
  ·rcases Bu hb with ⟨j,u,rfl,e⟩|⟨y,u,rfl,e⟩
   ·injection e with e1 _;rw[e1]
   ·exact nomatch e
  ·rcases Bu hb with ⟨j,u,rfl,e⟩|⟨y,u,rfl,e⟩
   ·exact nomatch e
   ·injection e with e1 _;rw[e1]
 byValue:=λ k v h=>by
  rcases Bu h with ⟨i,t,rfl,rfl⟩|⟨x,t,rfl,rfl⟩<;>rfl
 pyHash:=λ hv h=>by
  rcases Bu hv with ⟨i,t,rfl,rfl⟩|⟨x,t,rfl,rfl⟩
  ·exact wpAny_pyHash_int h
  ·exact wpAny_pyHash_str h
 eqBool:=λ hu hv h=>by
  rcases Bu hu with ⟨i,t,rfl,rfl⟩|⟨x,t,rfl,rfl⟩
  ·rcases Bu hv with ⟨j,u,rfl,rfl⟩|⟨y,u,rfl,rfl⟩
   ·rw[kX] at h;exact wpAny_eqBool_int h
   ·rw[kZ] at h;exact SeqAt.EqAt.int_str i t y u _ _ _ _ h
  ·rcases Bu hv with ⟨j,u,rfl,rfl⟩|⟨y,u,rfl,rfl⟩
   ·rw[lA] at h;exact SeqAt.EqAt.str_int x t j u _ _ _ _ h
   ·rw[kY] at h;exact wpAny_eqBool_str h
 «strs»:=λ k x t v h=>by
  rcases Bu h with ⟨i,u,rfl,e⟩|⟨y,u,rfl,e⟩
  ·exact nomatch e
  ·injection e with e1 _
   subst e1;cases v<;>rfl
def Ru (prog:Program)(w:World)(i:Int)(t:Tok):(B3 prog w).is (.inl i) (.int i t)=true:=Wf i t
def Rv (prog:Program)(w:World)(x:Str)(t:Tok):(B3 prog w).is (.inr x) (.str x t)=true:=Wg x t
inductive V where
 |AK|bl (b:Bool)|int (i:Int)|str (x:Str)|lB (b:Array UInt8)|qD (b:UInt64)|ref (a:Addr)|ty (n:String)
 deriving DecidableEq
abbrev RelV:V->Value->Prop
 | .AK,u=>u=Value.none
 | .bl b,u=>u=Value.bool b
 | .int i,u=>∃t,u=Value.int i t
 | .str x,u=>∃t,u=Value.str x t
 | .lB b,u=>∃t,u=Value.bytes b t
 | .qD b,u=>∃t,u=Value.float b t
 | .ref a,u=>u=yL a
 | .ty n,u=>u=Value.type n
noncomputable abbrev Vals:List V->List Value->Prop:=Paired RelV
def Vals.length {xs:List V}{us:List Value}(r:Vals xs us):xs.length=us.length:=Paired.length r
def Vals.get:∀ {xs:List V}{us:List Value}{i:Nat}{x:V},Vals xs us->xs[i]?=some x->∃u,us[i]?=some u/\RelV x u
 |_,_,_,_,.nil,e=>by simp at e
 |_,_,0,_,.cons r _,e=>by simp at e;subst e;exact⟨_,rfl,r⟩
 |_,_,i+1,x,.cons _ t,e=>by
  obtain⟨u,h1,h2⟩:=Vals.get (i:=i) (x:=x) t (by simpa using e);exact⟨u,by simpa using h1,h2⟩
def Vals.set {x:V}{u:Value}(r:RelV x u):∀ {xs:List V}{us:List Value}(i:Nat),Vals xs us->Vals (xs.set i x) (us.set i u)
 |_,_,_,.nil=>.nil
 |_,_,0,.cons _ t=>.cons r t
 |_,_,i+1,.cons q t=>.cons q (Vals.set r i t)
def Vals.append:∀ {xs ys:List V}{us ws:List Value},Vals xs us->Vals ys ws->Vals (xs++ys) (us++ws)
 |_,_,_,_,.nil,s=>s
 |_,_,_,_,.cons r t,s=>.cons r (Vals.append t s)
def Vals.take:∀ {xs:List V}{us:List Value}(n:Nat),Vals xs us->Vals (xs.take n) (us.take n)
 |_,_,0,_|_,_,_+1,.nil=>.nil
 |_,_,n+1,.cons r t=>.cons r (Vals.take n t)
def Vals.drop:∀ {xs:List V}{us:List Value}(n:Nat),Vals xs us->Vals (xs.drop n) (us.drop n)
 |_,_,0,r=>r
 |_,_,_+1,.nil=>.nil
 |_,_,n+1,.cons _ t=>Vals.drop n t
abbrev G6:Option V->Option Value->Prop
 |some v,some u=>RelV v u
 |none,none=>True
 |_,_=>False
abbrev KV {κ:Type}:List (κ×V)->List (κ×Value)->Prop:=Paired λ(p:κ×V) (q:κ×Value)=>p.1=q.1/\RelV p.2 q.2
abbrev kV:Key->V
 | .inl i=>.int i
 | .inr x=>.str x
inductive HO where
 |lst (xs:List V)
 |tup (xs:List V)
 |dK (kvs:List (Key×V))|dT (kvs:List (List Key×V))
 |set (S:Int->Bool) (n:Nat)
 |ins (C dx:Addr) (fs:List (Str×V))
 |own (x:Addr)
 |xd (fs:List (Str×V))
 |met (f x:Addr)
 |uS (lo hi:Int)
 |XH (o:Obj) (u:HO)
 |lC (ps:Array Value)
 |ext (φ:Heap->Prop)
noncomputable abbrev Hp:=Addr->Option HO
abbrev upd (H:Hp)(a:Addr)(o:HO):Hp:=λ b=>if b=a then some o else H b
def Aq {H:Hp}{a:Addr}{o:HO}:upd H a o a=some o:=by unfold upd;rw[if_pos rfl]
def Aj {H:Hp}{a b:Addr}{o:HO}(h:b≠a):upd H a o b=H b:=by unfold upd;rw[if_neg h]
def qE {H:Hp}{a b:Addr}{o u:HO}(h:H a=some o)(h':H b=some u)(d:o≠u):a≠b:=by
 intro e;subst e;rw[h] at h';exact d (zD h')
def Ay {H:Hp}{a b:Addr}{o:HO}(h:H a=some o)(h':H b=none):a≠b:=by
 intro e;subst e;rw[h] at h';cases h'
section
variable (P:Program) (w:World)
abbrev BS (H:Hp)(h:Heap)(a:Addr):HO->Prop
 | .lst xs=>xs.length<=sizeLine/\∃(ac:List Value) (n:Nat),Vals xs ac/\h.get? a=some {cls:=.type "list",data:=.seq ac.toArray n}
 | .tup xs=>xs.length<=sizeLine/\∃ac:List Value,Vals xs ac/\IsTup h a ac.toArray
 | .dK kvs=>kvs.length<=sizeLine/\(a==sysModules)=false/\∃vs,KV kvs vs/\h.DictOf (B3 P w) a vs
 | .dT kvs=>kvs.length<=sizeLine/\(a==sysModules)=false/\∃xs:List (List Key×Addr×Value),
  Paired (λ(p:List Key×V) (q:List Key×Addr×Value)=>p.1=q.1/\H q.2.1=some (.tup (p.1.map kV))/\RelV p.2 q.2.2) kvs xs/\
  ∃o es ep,h.get? a=some o/\o.ExactDict/\o.data=.dict es ep/\es.toList=xs.map (entryOfKey (tupleKind (B3 P w)))/\(xs.map (·.1)).Nodup
 | .set S n=>h.SetOf (intKind P w) a S n
 | .ins C dx fs=>H dx=some (.own a)/\fs.length<=1000/\dx≠a/\h.get? a=some (zak C dx)/\
  ∃mA,h.Ns1 dx mA/\(∀f,G6 (fs.lookup f) (mA f))/\PySem.Within mA (fs.map (·.1))
 | .own _=>∃o,h.get? a=some o
 | .xd fs=>∃mA,h.Ns1 a mA/\∀f,G6 (fs.lookup f) (mA f)
 | .uS lo hi=>∃t u v,h.get? a=some {cls:=.type "range",data:=.fields #[.int lo t,.int hi u,.int 1 v]}
 | .XH o u=>h.get? a=some o/\BS H h a u
 | .lC ps=>h.get? a=some {cls:=.none,data:=.fields ps}
 | .met f x=>h.get? a=some (PySem.W.methodObj (.ref f) (.ref x))
 | .ext φ=>φ h/\(∃o,h.get? a=some o)/\∀h1 h2:Heap,φ h1->(∀o,h1.get? a=some o->h2.get? a=some o)->φ h2
abbrev G7 (H:Hp)(h:Heap):Prop:=∀a o,H a=some o->BS P w H h a o
end
section
variable {P:Program}{w:World}{H H':Hp}{h h':Heap}{a:Addr}{o:HO}
def BS.lt (x:BS P w H h a o):a<h.objs.size:=by
 cases o with
 |lst xs=>obtain⟨_,_,_,_,e⟩:=x;exact zt e
 |tup xs=>obtain⟨_,_,_,p⟩:=x;exact p.lt
 |dK kvs|dT kvs=>obtain⟨_,_,_,_,o,_,_,e,_⟩:=x;exact zt e
 |set S n=>obtain⟨o,_,_,_,e,_⟩:=x;exact zt e
 |ins C dx fs=>obtain⟨_,_,_,e,_⟩:=x;exact zt e
 |own y=>obtain⟨_,e⟩:=x;exact zt e
 |xd fs=>obtain⟨_,⟨_,_,_,e,_⟩,_⟩:=x;exact zt e
 |uS lo hi=>obtain⟨_,_,_,e⟩:=x;exact zt e
 |XH ob u=>obtain⟨e,_⟩:=x;exact zt e
 |lC ps|met f y=>exact zt (show h.get? a=some _ from x)
 |ext φ=>obtain⟨_,⟨_,e⟩,_⟩:=x;exact zt e
def Paired.lD {α β:Type}{F G:α->β->Prop}:∀ {l₁:List α}{l₂:List β},Paired F l₁ l₂->(∀a b,F a b->G a b)->Paired G l₁ l₂
 |_,_,.nil,_=>.nil
 |_,_,.cons r t,f=>.cons (f _ _ r) (Paired.lD t f)
def BS.O2 (x:BS P w H h a o)(k:∀b u,(b=a\/H b=some (.own a))->h.get? b=some u->h'.get? b=some u)
 (ho:∀b,H b=some (.own a)->H' b=some (.own a)) (ht:∀b xs,H b=some (.tup xs)->H' b=some (.tup xs)):BS P w H' h' a o:=by
 induction o with
 |lst xs=>obtain⟨z,ac,n,r,e⟩:=x;exact⟨z,ac,n,r,k _ _ (.inl rfl) e⟩
 |tup xs=>obtain⟨z,ac,r,ob,e,c⟩:=x;exact⟨z,ac,r,ob,k _ _ (.inl rfl) e,c⟩
 |dK kvs=>obtain⟨z,y,vs,r,ob,es,ep,e,c⟩:=x;exact⟨z,y,vs,r,ob,es,ep,k _ _ (.inl rfl) e,c⟩
 |dT kvs =>
  obtain⟨z,y,xs,r,ob,es,ep,e,c⟩:=x;exact⟨z,y,xs,Paired.lD r λ p q z=>⟨z.1,ht _ _ z.2.1,z.2.2⟩,ob,es,ep,k _ _ (.inl rfl) e,c⟩
 |set S n=>obtain⟨ob,es,ep,t,e,c⟩:=x;exact⟨ob,es,ep,t,k _ _ (.inl rfl) e,c⟩
 |ins C dx fs =>
  obtain⟨d,z,ne,e,mA,⟨od,es,ep,e2,c⟩,r⟩:=x;exact⟨ho _ d,z,ne,k _ _ (.inl rfl) e,mA,⟨od,es,ep,k _ _ (.inr d) e2,c⟩,r⟩
 |own y=>obtain⟨ob,e⟩:=x;exact⟨ob,k _ _ (.inl rfl) e⟩
 |xd fs=>obtain⟨mA,⟨od,es,ep,e,c⟩,r⟩:=x;exact⟨mA,⟨od,es,ep,k _ _ (.inl rfl) e,c⟩,r⟩
 |uS lo hi=>obtain⟨t,u,v,e⟩:=x;exact⟨t,u,v,k _ _ (.inl rfl) e⟩
 |XH ob u ih=>obtain⟨e,q⟩:=x;exact⟨k _ _ (.inl rfl) e,ih q⟩
 |lC ps =>
  have e:h.get? a=some {cls:=.none,data:=.fields ps}:=x;show h'.get? a=some {cls:=.none,data:=.fields ps};exact k a _ (.inl rfl) e
 |met f y =>
  have e:h.get? a=some (PySem.W.methodObj (.ref f) (.ref y)):=x;show h'.get? a=some (PySem.W.methodObj (.ref f) (.ref y));exact k a _ (.inl rfl) e
 |ext φ=>obtain⟨p,⟨o,e⟩,st⟩:=x;exact⟨st _ _ p λ o q=>k _ _ (.inl rfl) q,⟨o,k _ _ (.inl rfl) e⟩,st⟩
def G7.lt (x:G7 P w H h)(e:H a=some o):a<h.objs.size:=(x a o e).lt
def G7.fresh (x:G7 P w H h)(e:h.objs.size<=a):H a=none:=by
 cases q:H a with
 |none=>rfl
 |some u=>exact absurd (z5 (x.lt q) e) (Nat.lt_irrefl _)
def G7.kept (x:G7 P w H h)(k:∀b u,h.get? b=some u->h'.get? b=some u):G7 P w H h':=λ a o e =>
 (x a o e).O2 (λ b u _ q=>k b u q) (λ _ q=>q) λ _ _ q=>q
def G7.laid (x:G7 P w H h)(k:∀b u,h.get? b=some u->h'.get? b=some u)(hp:h.objs.size<=a)(new:BS P w (upd H a o) h' a o):G7 P w (upd H a o) h':=λ b u e=>by
 have hn:=x.fresh hp;by_cases hb:b=a
 ·subst hb;rw[Aq] at e;cases e;exact new
 ·rw[Aj hb] at e;exact (x b u e).O2 (λ c v _ q=>k c v q) (λ c q=>by rw[Aj (Ay q hn)];exact q) λ c xs q=>by rw[Aj (Ay q hn)];exact q
end
abbrev Rd (H:Hp)(a:Addr)(u:HO):Prop:=H a=some u\/∃o,H a=some (.XH o u)
def Rd.ok {P:Program}{w:World}{H:Hp}{h:Heap}{a:Addr}{u:HO}(r:Rd H a u)(x:G7 P w H h):BS P w H h a u:=by
 rcases r with r|⟨o,r⟩
 ·exact x a u r
 ·obtain⟨_,q⟩:=x a _ r;exact q
abbrev qG:Option HO->Prop
 |some (.lst _)|some (.dK _)|some (.dT _)|some (.set _ _)|some (.ins _ _ _)|some (.ext _)=>True
 |_=>False
section
variable {P:Program}{w:World}{H:Hp}{h h':Heap}{x e:Addr}{o':HO}
def G7.write (ok:G7 P w H h)(mu:qG (H x))(he:e=x\/H e=some (.own x))(k:∀b u,b≠e->h.get? b=some u->h'.get? b=some u)(c9:∃u,h'.get? e=some u)
 (new:BS P w (upd H x o') h' x o'):G7 P w (upd H x o') h':=λ b u q=>by
 have ib:∀c y,H c=some (.own y)->c≠x:=λ c y r z=>by subst z;rw[r] at mu;exact mu
 have lw:∀c xs,H c=some (.tup xs)->c≠x:=λ c xs r z=>by subst z;rw[r] at mu;exact mu
 by_cases hb:b=x
 ·subst hb;rw[Aq] at q;cases q;exact new
 ·rw[Aj hb] at q;by_cases d0:b=e
  ·have q':H b=some (.own x):=by
    rcases he with z|z
    ·exact absurd (d0.trans z) hb
    ·rw[d0];exact z
   rw[q] at q';cases q';obtain⟨v,hv⟩:=c9;exact⟨v,by rw[d0];exact hv⟩
  ·refine (ok b u q).O2 (λ c v hc r=>k c v ?_ r) (λ c r=>by rw[Aj (ib c b r)];exact r) λ c xs r=>by rw[Aj (lw c xs r)];exact r
   rcases hc with rfl|hc
   ·exact d0
   ·rintro rfl;rcases he with z|z
    ·exact ib c b hc z
    ·rw[hc] at z;cases z;exact hb rfl
end
structure Un (fs ex:List Addr)(H H':Hp)(h h':Heap):Prop where
 keep:∀b o,h.get? b=some o->H b=none->b∉fs->b∉ex->h'.get? b=some o
 slot:∀b o,h.get? b=some o->H b=none->b∈fs->b∉ex->∃sl,h'.get? b=some {o with slots:=sl}
 free:∀b o,h.get? b=some o->H b=none->b∉ex->H' b=none
 there:∀b o,h.get? b=some o->b∉ex->∃o',h'.get? b=some o'
 PR:∀b xs,H b=some (.tup xs)->H' b=some (.tup xs)
 O3:∀b o u,H b=some (.XH o u)->H' b=some (.XH o u)
 PV:∀b ps,H b=some (.lC ps)->∃more,H' b=some (.lC (ps++more))
section
variable {fs bL ex lx:List Addr}{H H1 H2:Hp}{h h1 h2 h':Heap}{a x e:Addr}{o:HO}
def Un.any (u:Un fs ex H H1 h h1){b:Addr}{ob:Obj}(q:h.get? b=some ob)(n:H b=none)(hx:b∉ex):∃sl,h1.get? b=some {ob with slots:=sl}:=by
 by_cases hb:b∈fs
 ·exact u.slot b ob q n hb hx
 ·exact⟨ob.slots,u.keep b ob q n hb hx⟩
def Un.kept (k:∀b u,h.get? b=some u->h'.get? b=some u):Un fs ex H H h h':=
 ⟨λ b ob q _ _ _=>k b ob q,λ b ob q _ _ _=>⟨ob.slots,k b ob q⟩,λ _ _ _ n _=>n,λ b ob q _=>⟨ob,k b ob q⟩,λ _ _ q=>q,λ _ _ _ q=>q,λ _ ps q=>⟨#[],by rw[q];simp⟩⟩
def Un.refl:Un fs ex H H h h:=Un.kept λ _ _ q=>q
def Un.laid (k:∀b u,h.get? b=some u->h'.get? b=some u)(hp:h.objs.size<=a)(hn:H a=none):Un fs ex H (upd H a o) h h' where
 keep:=λ b u q _ _ _=>k b u q
 slot:=λ b u q _ _ _=>⟨u.slots,k b u q⟩
 free:=λ b u q n _=>by rw[Aj (z6 (z5 (zt q) hp))];exact n
 there:=λ b u q _=>⟨u,k b u q⟩
 PR:=λ b xs q=>by rw[Aj (Ay q hn)];exact q
 O3:=λ b u xs q=>by rw[Aj (Ay q hn)];exact q
 PV:=λ b ps q=>⟨#[],by rw[Aj (Ay q hn),q];simp⟩
def Un.write (mu:qG (H x))(he:e=x\/H e=some (.own x))(k:∀b u,b≠e->h.get? b=some u->h'.get? b=some u)(c9:∃u,h'.get? e=some u):Un fs ex H (upd H x o) h h':=by
 have hx:∀b,H b=none->b≠x:=λ b n z=>by subst z;rw[n] at mu;exact mu
 have hb:∀b,H b=none->b≠e:=λ b n z=>by
  subst z;rcases he with r|r
  ·exact hx b n r
  ·rw[n] at r;cases r
 have hm:∀b u,H b=some u->¬ qG (some u)->b≠x:=λ b u q nm z=>by subst z;rw[q] at mu;exact nm mu
 refine⟨λ b u q n _ _=>k b u (hb b n) q,λ b u q n _ _=>⟨u.slots,k b u (hb b n) q⟩,λ b u q n _=>by rw[Aj (hx b n)];exact n,λ b u q _=>?_,
  λ b xs q=>by rw[Aj (hm b _ q λ z=>z)];exact q,λ b u xs q=>by rw[Aj (hm b _ q λ z=>z)];exact q,λ b ps q=>⟨#[],by rw[Aj (hm b _ q λ z=>z),q];simp⟩⟩
 by_cases d0:b=e
 ·subst d0;exact c9
 ·exact⟨u,k b u d0 q⟩
end
abbrev C8 (h:Heap)(H:Hp):List Addr:=(zw h.objs.size).filter λ a=>(H a).isSome
abbrev PX (h:Heap)(H:Hp):Heap:=PySem.W.hideAll h (C8 h H)
def Wh (h:Heap)(H:Hp):(PX h H).objs.size=h.objs.size:=PySem.W.hideAll_size _ _
def XT {h:Heap}{H:Hp}{b:Addr}{o:Obj}(e:h.get? b=some o)(n:H b=none):(PX h H).get? b=some o:=
 PySem.W.hideAll_get _ e λ hm=>by
  have q:(H b).isSome=true:=(yN.mp hm).2;rw[n] at q;simp at q
def dO {h:Heap}{H:Hp}{b:Addr}{o:Obj}(e:(PX h H).get? b=some o):h.get? b=some o/\H b=none:=by
 have e':h.get? b=some o:=PySem.W.of_hideAll (C8 h H) e;refine⟨e',?_⟩;cases q:H b with
 |none=>rfl
 |some x =>
  have hm:b∈C8 h H:=yN.mpr ⟨zac.mpr (zt e'),by simp[q]⟩;have z:(PX h H).get? b=none:=PySem.W.hideAll_none (C8 h H) hm;rw[z] at e;cases e
abbrev dP (g h:Heap)(L:Addr):List (Addr×Obj):=(zw h.objs.size).filterMap λ a=>if a=L\/(g.get? a).isSome=true then none else (h.get? a).map λ o=>(a,o)
abbrev rest (g h:Heap)(L d:Addr):List (Addr×Obj):=(dP g h L).filter λ p=>decide (p.1≠d)
structure Mod (K:za)(mg:Str->Option Value)(base:Heap):Prop where
 XI:K.In base
 glob:base.Ns mainGlobals mg
 blt:∃mb,base.Ns builtinsNs mb/\∀x:Str,x ≠ "__name__" -> mb x=bootBuiltins x
 nolimit:base.NoLimit
structure Cx where
 prog:Program
 w:World
 K:za
 mg:Str->Option Value
 base:Heap
 A:Around
 N:List Str
 s₀:Shared
 H₀:Hp
 env:Env
 outer:List Env
 stack:List Env
 ex:List Addr
 fn:Str->Bool
 calm:Bool
 pn:List (Addr×Obj)
 xe:Value->Shared->Prop
abbrev XJ (l:List Env):List Addr:=l.filterMap (·.frame)
noncomputable abbrev Cx.fs (X:Cx):List Addr:=XJ X.outer
abbrev uT (sc:Scope)(x:Str):Prop:=sc.names.lookup x=some .local\/sc.names.lookup x=some .cell\/sc.names.lookup x=some .free
abbrev Loc (sc:Scope)(x:Str):Prop:=sc.names.lookup x=some .local\/sc.names.lookup x=some .cell
abbrev Look (env:Env)(h:Heap)(m:Str->Option Value)(x:Str)(u:Value):Prop:=
 (env.kindOf x=some .local/\m x=some u)\/((env.kindOf x=some .cell\/env.kindOf x=some .free)/\∃c,env.cells.lookup x=some c/\h.IsCell c (some u))
structure Cx.Ok (X:Cx):Prop where
 mod:Mod X.K X.mg X.base
 kind:X.env.scope.kind=.function
 glob:X.env.globals=mainGlobals
 blt:X.env.builtins=builtinsNs
 above:X.s₀.heap.objs.size<=X.env.locals
 inj:∀x y c,X.env.cells.lookup x=some c->X.env.cells.lookup y=some c->x=y
 has:∀x,(X.env.kindOf x=some .cell\/X.env.kindOf x=some .free)->∃c,X.env.cells.lookup x=some c
 qH:∀x c,X.fn x=true->X.env.cells.lookup x=some c->X.s₀.heap.objs.size<=c
 hd:X.calm=true->X.A.handled=none
 frames:X.A.frames=some X.stack
 tU:X.stack=X.outer\/(X.stack=X.env::X.outer/\X.env.frame=some X.env.locals)
 tV:∀b∈X.ex,b≠X.env.locals/\∀x c,X.env.cells.lookup x=some c->c≠b
 bs:∀b o,X.base.get? b=some o->X.s₀.heap.get? b=some o/\X.H₀ b=none
 dQ:X.base.objs.size<=X.s₀.heap.objs.size
 XU:∀b o,X.base.get? b=some o->b∉X.ex
 XW:∀b∈X.ex,b∉X.fs
 Kq:X.s₀.heap.FunFrames X.base X.outer
 lE:∀b∈X.fs,X.H₀ b=none
structure Inv (X:Cx)(pins:List (Addr×Obj))(σ:List (Option V))(H:Hp)(s:Shared):Prop where
 ok:X.Ok
 os:s.os=X.s₀.os
 bare:AllBare s.gens
 base:Un X.fs X.ex X.H₀ H X.s₀.heap s.heap
 loc:∃m,s.heap.Ns X.env.locals m/\∀(i:Nat) (x:Str) (v:V),X.N[i]?=some x->σ[i]?=some (some v)->uT X.env.scope x->∃u,RelV v u/\Look X.env s.heap m x u
 cell:∀x c,X.env.cells.lookup x=some c->∃v,s.heap.IsCell c v
 free:H X.env.locals=none
 Gf:∀x c,X.env.cells.lookup x=some c->H c=none
 pin:∀p∈X.pn++pins,s.heap.get? p.1=some p.2/\H p.1=none/\p.1≠X.env.locals/\p.1∉X.fs/\∀v,p.2.data≠.cell v
 Au:G7 X.prog X.w H s.heap
 len:σ.length=X.N.length
section
variable {X:Cx}{pins:List (Addr×Obj)}{σ:List (Option V)}{H H':Hp}{s:Shared}{h':Heap}
def Cx.Ok.uU (ok:X.Ok){b:Addr}{o:Obj}(e:X.base.get? b=some o):b∉X.fs:=λ hb=>by
 have:=(ok.Kq.mem hb).1;rw[e] at this;cases this
def Inv.bs (I:Inv X pins σ H s):∀b o,X.base.get? b=some o->s.heap.get? b=some o/\H b=none:=λ b o e =>
 ⟨I.base.keep b o (I.ok.bs b o e).1 (I.ok.bs b o e).2 (I.ok.uU e) (I.ok.XU b o e),I.base.free b o (I.ok.bs b o e).1 (I.ok.bs b o e).2 (I.ok.XU b o e)⟩
def Inv.bk (I:Inv X pins σ H s):∀b o,X.base.get? b=some o->s.heap.get? b=some o:=λ b o e=>(I.bs b o e).1
def Inv.mod (I:Inv X pins σ H s):Mod X.K X.mg X.base:=I.ok.mod
def Inv.Mt (I:Inv X pins σ H s):X.K.In s.heap:=I.ok.mod.XI.keeps I.bk
def Inv.fr (I:Inv X pins σ H s):∃m,Fr X.base X.env.locals s.heap m:=
 let ⟨m,hn,_⟩:=I.loc
 ⟨m,hn,I.bk,yJ I.ok.dQ I.ok.above⟩
def Inv.lt (I:Inv X pins σ H s):X.env.locals<s.heap.objs.size:=let ⟨_,hn,_⟩:=I.loc;hn.lt
def Inv.sz (I:Inv X pins σ H s):X.s₀.heap.objs.size<=s.heap.objs.size:=yJ I.ok.above (yQ I.lt)
def Inv.uV (I:Inv X pins σ H s){a:Addr}(h:s.heap.objs.size<=a):a∉X.fs:=λ hb=>by
 obtain⟨_,o,ho,_⟩:=I.ok.Kq.mem hb;exact absurd (z5 (zt ho) (yJ I.sz h)) (Nat.lt_irrefl _)
def Inv.lF (I:Inv X pins σ H s):∀x c,X.env.cells.lookup x=some c->c≠X.env.locals:=λ x c e z=>by
 obtain⟨v,o,ho,hd⟩:=I.cell x c e;obtain⟨m,⟨o',es,ep,bi,bj,_⟩,_⟩:=I.loc;rw[z,bi] at ho;cases ho;rw[bj] at hd;cases hd
def Inv.Kq (I:Inv X pins σ H s):s.heap.FunFrames X.base X.outer:=by
 have all:∀(l:List Env),(∀b∈XJ l,b∈X.fs)->X.s₀.heap.FunFrames X.base l->s.heap.FunFrames X.base l:=by
  intro l;induction l with
  |nil=>intro _ _;trivial
  |cons env r ih =>
   intro hs hl;obtain⟨hk,⟨L,o,hf,hn,ho,hd⟩,hr⟩:=hl;have hL:L∈X.fs:=hs L (by unfold XJ;rw[za0,hf];exact zd);obtain⟨sl,e⟩:=I.base.slot L o ho (I.ok.lE L hL) hL λ z=>I.ok.XW L z hL;exact⟨hk,⟨L,_,hf,hn,e,hd⟩,ih (λ b hb=>hs b (by unfold XJ;rw[za0,hf];exact ze _ hb)) hr⟩
 exact all X.outer (λ _ hb=>hb) I.ok.Kq
def Inv.stack (I:Inv X pins σ H s):s.heap.FunFrames X.base X.stack:=by
 rcases I.ok.tU with e|⟨e,hf⟩
 ·rw[e];exact I.Kq
 ·rw[e];obtain⟨m,hn,_⟩:=I.loc;refine .cons (by rw[I.ok.kind];decide) hf hn ?_ I.Kq;exact Heap.get?_none_of_le (yJ I.ok.dQ I.ok.above)
def Inv.TC (I:Inv X pins σ H s):∀b∈XJ X.stack,b∈X.env.locals::X.fs:=λ b hb=>by
 rcases I.ok.tU with e|⟨e,hf⟩
 ·rw[e] at hb;exact ze _ hb
 ·rw[e] at hb;unfold XJ at hb;rw[za0,hf] at hb;exact hb
def Inv.UX (I:Inv X pins σ H s):∀b∈XJ X.stack,H b=none:=λ b hb=>by
 rcases zp.mp (I.TC b hb) with e|hb
 ·rw[e];exact I.free
 ·obtain⟨_,o,ho,_⟩:=I.ok.Kq.mem hb;exact I.base.free b o ho (I.ok.lE b hb) λ z=>I.ok.XW b z hb
def Inv.step {g':Array GenState}{t':Nat}{d':Drawn}{ch:List Addr}(I:Inv X pins σ H s)
 (ce:∀b∈ch,(b∈X.ex\/X.s₀.heap.objs.size<=b)/\b≠X.env.locals/\(∀x c,X.env.cells.lookup x=some c->c≠b)/\∀p∈X.pn++pins,p.1≠b)
 (keep:∀b o,b≠X.env.locals->b∉X.fs->b∉ch->s.heap.get? b=some o->H b=none->h'.get? b=some o)
 (slot:∀b o,b≠X.env.locals->b∈X.fs->b∉ch->s.heap.get? b=some o->H b=none->∃sl,h'.get? b=some {o with slots:=sl}) (free:∀b o,b∉ch->s.heap.get? b=some o->H b=none->H' b=none)
 (there:∀b o,b∉ch->s.heap.get? b=some o->∃o',h'.get? b=some o')
 (PR:∀b xs,H b=some (.tup xs)->H' b=some (.tup xs)) (O3:∀b o u,H b=some (.XH o u)->H' b=some (.XH o u)) (PV:∀b ps,H b=some (.lC ps)->∃more,H' b=some (.lC (ps++more)))
 (ns:∀m,s.heap.Ns X.env.locals m->h'.Ns X.env.locals m) (Au:G7 X.prog X.w H' h') (hg:AllBare g'):
 Inv X pins σ H' {s with heap:=h',gens:=g',drawn:=d',toks:=t' }:=by
 have qx:∀b o,X.s₀.heap.get? b=some o->b≠X.env.locals:=λ b o e=>z6 (z5 (zt e) I.ok.above);have gy:∀b o,X.s₀.heap.get? b=some o->b∉X.ex->b∉ch:=λ b o e hx hb=>by
  rcases (ce b hb).1 with z|z
  ·exact hx z
  ·exact absurd (z5 (zt e) z) (Nat.lt_irrefl _)
 have cellK:∀x c,X.env.cells.lookup x=some c->∀v,s.heap.IsCell c v->h'.IsCell c v:=λ x c e v ⟨o,ho,hd⟩=>by
  have ic:c∉ch:=λ z=>(ce c z).2.2.1 x c e rfl;by_cases hc:c∈X.fs
  ·obtain⟨sl,q⟩:=slot c o (I.lF x c e) hc ic ho (I.Gf x c e);exact⟨_,q,hd⟩
  ·exact⟨o,keep c o (I.lF x c e) hc ic ho (I.Gf x c e),hd⟩
 refine⟨I.ok,I.os,hg,⟨λ b o e n hb hx=>?_,λ b o e n hb hx=>?_,λ b o e n hx=>?_,λ b o e hx=>?_,λ b xs e=>PR b xs (I.base.PR b xs e),λ b o xs e=>O3 b o xs (I.base.O3 b o xs e),λ b ps e=>?_⟩,?_,λ x c e=>?_,?_,λ x c e=>?_,λ p hp=>?_,Au,I.len⟩
 ·exact keep b o (qx b o e) hb (gy b o e hx) (I.base.keep b o e n hb hx) (I.base.free b o e n hx)
 ·obtain⟨sl,e1⟩:=I.base.slot b o e n hb hx;obtain⟨uc,e2⟩:=slot b _ (qx b o e) hb (gy b o e hx) e1 (I.base.free b o e n hx);exact⟨uc,e2⟩
 ·obtain⟨o',e1⟩:=I.base.there b o e hx;exact free b o' (gy b o e hx) e1 (I.base.free b o e n hx)
 ·obtain⟨o',e1⟩:=I.base.there b o e hx;exact there b o' (gy b o e hx) e1
 ·obtain⟨m1,e1⟩:=I.base.PV b ps e;obtain⟨m2,e2⟩:=PV b _ e1;exact⟨m1++m2,by rw[e2,Array.append_assoc]⟩
 ·obtain⟨m,hn,hl⟩:=I.loc;refine⟨m,ns m hn,λ i x v e1 e2 e3=>?_⟩;obtain⟨u,r,l⟩:=hl i x v e1 e2 e3;refine⟨u,r,?_⟩;rcases l with l|⟨k,c,e,z⟩
  ·exact .inl l
  ·exact .inr ⟨k,c,e,cellK x c e _ z⟩
 ·obtain⟨v,z⟩:=I.cell x c e;exact⟨v,cellK x c e v z⟩
 ·obtain⟨m,⟨o,_,_,ho,_⟩,_⟩:=I.loc;exact free _ o (λ z=>(ce _ z).2.1 rfl) ho I.free
 ·obtain⟨v,o,ho,hd⟩:=I.cell x c e;exact free c o (λ z=>(ce c z).2.2.1 x c e rfl) ho (I.Gf x c e)
 ·obtain⟨e,n,ne,nf,d⟩:=I.pin p hp;have ic:p.1∉ch:=λ z=>(ce p.1 z).2.2.2 p hp rfl;exact⟨keep p.1 p.2 ne nf ic e n,free p.1 p.2 ic e n,ne,nf,d⟩
def Inv.un {t':Nat}(I:Inv X pins σ H s)(u:Un X.fs [] H H' s.heap h')(Au:G7 X.prog X.w H' h'):Inv X pins σ H' {s with heap:=h',toks:=t' }:=by
 obtain⟨m,⟨o,es,ep,ho,r⟩,_⟩:=id I.loc;obtain⟨sl,hL⟩:=u.any ho I.free (by simp);exact I.step (g':=s.gens) (d':=s.drawn) (ch:=[]) (λ _ z=>nomatch z) (λ b o _ hb _ e n=>u.keep b o e n hb (by simp)) (λ b o _ hb _ e n=>u.slot b o e n hb (by simp)) (λ b o _ e n=>u.free b o e n (by simp)) (λ b o _ e=>u.there b o e (by simp)) u.PR u.O3 u.PV (λ m' hm=>by
  obtain⟨o',ly,l6,bi,r'⟩:=hm;rw[ho] at bi;cases bi;exact⟨_,ly,l6,hL,r'⟩) Au I.bare
def Inv.call {g':Array GenState}{t':Nat}{d':Drawn}{ch:List Addr}(I:Inv X pins σ H s)(u:Un (XJ X.stack) ch H H' s.heap h')(Au:G7 X.prog X.w H' h')(hg:AllBare g')
 (ce:∀b∈ch,(b∈X.ex\/X.s₀.heap.objs.size<=b)/\b≠X.env.locals/\(∀x c,X.env.cells.lookup x=some c->c≠b)/\∀p∈X.pn++pins,p.1≠b):
 Inv X pins σ H' {s with heap:=h',gens:=g',drawn:=d',toks:=t' }:=by
 obtain⟨m,⟨o,es,ep,ho,r⟩,_⟩:=id I.loc;obtain⟨sl,hL⟩:=u.any ho I.free λ z=>(ce _ z).2.1 rfl;exact I.step (ch:=ch) ce (λ b o hL hb hc e n=>u.keep b o e n (λ z=>(zp.mp (I.TC b z)).elim hL hb) hc) (λ b o _ _ hc e n=>u.any e n hc) (λ b o hc e n=>u.free b o e n hc) (λ b o hc e=>u.there b o e hc) u.PR u.O3 u.PV (λ m' hm=>by
  obtain⟨o',ly,l6,bi,r'⟩:=hm;rw[ho] at bi;cases bi;exact⟨_,ly,l6,hL,r'⟩) Au hg
def Inv.turned {t':Nat}{it:Addr}(I:Inv X pins σ H s)(k:∀b o,b≠it->s.heap.get? b=some o->h'.get? b=some o)(hn:H it=none)(hL:it≠X.env.locals)
 (h1:it∈X.ex\/X.s₀.heap.objs.size<=it) (h2:∀x c,X.env.cells.lookup x=some c->c≠it) (h3:∀p∈X.pn++pins,p.1≠it):Inv X pins σ H {s with heap:=h',toks:=t' }:=by
 have qy:∀b u,H b=some u->b≠it:=λ b u e z=>by rw[z,hn] at e;cases e
 refine I.step (g':=s.gens) (d':=s.drawn) (ch:=[it]) (λ b hb=>?_) (λ b o _ _ hc e _=>k b o (λ z=>hc (by simp[z])) e) (λ b o _ _ hc e _=>⟨o.slots,k b o (λ z=>hc (by simp[z])) e⟩) (λ _ _ _ _ n=>n)
  (λ b o hc e=>⟨o,k b o (λ z=>hc (by simp[z])) e⟩) (λ _ _ e=>e) (λ _ _ _ e=>e) (λ b ps e=>⟨#[],by rw[e];simp⟩) (λ m hm=>?_) (λ b u e=>?_) I.bare
 ·have e:b=it:=by simpa using hb
  subst e;exact⟨h1,hL,h2,h3⟩
 ·obtain⟨o,es,ep,ho,r⟩:=hm;exact⟨o,es,ep,k _ o (zY hL) ho,r⟩
 ·refine (I.Au b u e).O2 (λ c v hc q=>k c v ?_ q) (λ _ q=>q) λ _ _ q=>q;rcases hc with z|z
  ·rw[z];exact qy b u e
  ·exact qy c _ z
def Inv.tok (I:Inv X pins σ H s)(t:Nat):Inv X pins σ H {s with toks:=t}:=I.un (h':=s.heap) (t':=t) Un.refl I.Au
def Inv.kept {t':Nat}(I:Inv X pins σ H s)(k:∀b u,s.heap.get? b=some u->h'.get? b=some u):Inv X pins σ H {s with heap:=h',toks:=t' }:=I.un (Un.kept k) (I.Au.kept k)
def Inv.laid {a:Addr}{o:HO}{t':Nat}(I:Inv X pins σ H s)(k:∀b u,s.heap.get? b=some u->h'.get? b=some u)(hp:s.heap.objs.size<=a)(new:BS X.prog X.w (upd H a o) h' a o):
 Inv X pins σ (upd H a o) {s with heap:=h',toks:=t' }:=I.un (Un.laid k hp (I.Au.fresh hp)) (I.Au.laid k hp new)
def Inv.write {x e:Addr}{o:HO}{t':Nat}(I:Inv X pins σ H s)(mu:qG (H x))(he:e=x\/H e=some (.own x))(k:∀b u,b≠e->s.heap.get? b=some u->h'.get? b=some u)(c9:∃u,h'.get? e=some u)
 (new:BS X.prog X.w (upd H x o) h' x o):Inv X pins σ (upd H x o) {s with heap:=h',toks:=t' }:=I.un (Un.write mu he k c9) (I.Au.write mu he k c9 new)
def Inv.weak {σ':List (Option V)}(I:Inv X pins σ H s)(hl:σ'.length=σ.length)(w:∀(i:Nat) v,σ'[i]?=some (some v)->σ[i]?=some (some v)):Inv X pins σ' H s:=
 ⟨I.ok,I.os,I.bare,I.base,let ⟨m,hn,ie⟩:=I.loc;⟨m,hn,λ i x v e1 e2 e3=>ie i x v e1 (w i v e2) e3⟩,I.cell,I.free,I.Gf,I.pin,I.Au,hl.trans I.len⟩
def Inv.J0 {da:List (Addr×Obj)}(I:Inv X pins σ H s)(h:∀p∈da,s.heap.get? p.1=some p.2/\H p.1=none/\p.1≠X.env.locals/\p.1∉X.fs/\∀v,p.2.data≠.cell v):Inv X da σ H s:=
 ⟨I.ok,I.os,I.bare,I.base,I.loc,I.cell,I.free,I.Gf,λ p hp=>(zy.mp hp).elim (λ z=>I.pin p (zM _ z)) (h p),I.Au,I.len⟩
def Rw {N:List Str}(hN:N.Nodup){i j:Nat}{x:Str}(a:N[i]?=some x)(b:N[j]?=some x):i=j:=by
 obtain⟨h1,e1⟩:=z3.mp a;obtain⟨h2,e2⟩:=z3.mp b;exact (List.getElem_inj hN).mp (e1.trans e2.symm)
def OC {M:Model}{A:Around}{E:Value->Shared->Prop}{i:Nat}{x:Str}{v:V}{u:Value}{Q:Unit->Shared->Prop}(I:Inv X pins σ H s)(hN:X.N.Nodup)(hi:X.N[i]?=some x)(hx:Loc X.env.scope x)(r:RelV v u)
 (h:∀s',Inv X pins (σ.set i (some v)) H s'->(∃a,Heap.SameBut a s.heap s'.heap/\(a=X.env.locals\/X.env.cells.lookup x=some a))->Q () s') (hf:X.fn x=true\/X.env.scope.names.lookup x=some .local:=by first|exact .inl rfl|exact .inr rfl|assumption):wpAny M A (storeName X.env x u) Q E s:=by
 obtain⟨m,hn,hl⟩:=id I.loc;have l7:(X.env.scope.kind==.class||(X.env.scope.kind==.module&&X.env.locals != X.env.globals))=false:=by rw[I.ok.kind];rfl
 have hiσ:i<σ.length:=by rw[I.len];exact (z3.mp hi).1
 have lF:=I.lF;have tracked:∀ {a:Addr} {h':Heap},(∃o,s.heap.get? a=some o/\H a=none)->Heap.SameBut a s.heap h'->G7 X.prog X.w H h':=fun {a h'} ha hs b ob e=>by
  obtain⟨_,_,db⟩:=ha;refine (I.Au b ob e).O2 (λ c w' hc q=>(hs.2 c ?_).trans q) (λ _ q=>q) λ _ _ q=>q;rintro rfl;rcases hc with rfl|hc
  ·rw[db] at e;cases e
  ·rw[db] at hc;cases hc
 rcases hx with hk|hk
 ·refine wpAny_storeName_local hk hn (λ h' bm hs=>?_) l7;obtain⟨oL,_,_,ue,_⟩:=id hn;refine h _ ⟨I.ok,I.os,I.bare,⟨λ b o e n hb hx=>?_,λ b o e n hb hx=>?_,I.base.free,λ b o e hx=>?_,I.base.PR,I.base.O3,I.base.PV⟩,⟨_,bm,λ j y v' e1 e2 e3=>?_⟩,λ y c e=>?_,I.free,I.Gf,λ p hp=>?_,tracked ⟨oL,ue,I.free⟩ hs,by simpa using I.len⟩ ⟨_,hs,.inl rfl⟩
  ·exact (hs.2 b (z6 (z5 (zt e) I.ok.above))).trans (I.base.keep b o e n hb hx)
  ·obtain⟨sl,e1⟩:=I.base.slot b o e n hb hx;exact⟨sl,(hs.2 b (z6 (z5 (zt e) I.ok.above))).trans e1⟩
  ·obtain⟨o',e1⟩:=I.base.there b o e hx;exact⟨o',(hs.2 b (z6 (z5 (zt e) I.ok.above))).trans e1⟩
  ·by_cases hj:j=i
   ·subst hj;rw[hi] at e1;cases e1;rw[zN hiσ] at e2;cases e2;exact⟨u,r,.inl ⟨hk,by simp⟩⟩
   ·rw[yV (zY hj)] at e2;obtain⟨u',r',q⟩:=hl j y v' e1 e2 e3;refine⟨u',r',?_⟩;rcases q with ⟨k,e⟩|⟨k,c,e,z⟩
    ·refine .inl ⟨k,?_⟩;have:y≠x:=λ e=>hj (Rw hN e1 (e▸hi));simp[this,e]
    ·exact .inr ⟨k,c,e,z.sameBut hs (lF y c e)⟩
  ·obtain⟨w',z⟩:=I.cell y c e;exact⟨w',z.sameBut hs (lF y c e)⟩
  ·obtain⟨e,n,ne,nf,d⟩:=I.pin p hp;exact⟨(hs.2 p.1 ne).trans e,n,ne,nf,d⟩
 ·have l8:X.fn x=true:=by
   rcases hf with z|z
   ·exact z
   ·rw[z] at hk;cases hk
  obtain⟨c,hc⟩:=I.ok.has x (.inl hk);obtain⟨w',z⟩:=I.cell x c hc;refine wpAny_storeName_cell I.ok.kind hk hc z (λ h' aY hs=>?_);obtain⟨oc,qz,l9⟩:=id z;refine h {s with heap:=h' } ⟨I.ok,I.os,I.bare,⟨λ b o e n hb hx=>?_,λ b o e n hb hx=>?_,I.base.free,λ b o e hx=>?_,I.base.PR,I.base.O3,I.base.PV⟩,⟨m,hn.sameBut hs (zY (lF x c hc)),λ j y v' e1 e2 e3=>?_⟩,λ y c' e=>?_,I.free,I.Gf,λ p hp=>?_,tracked ⟨oc,qz,I.Gf x c hc⟩ hs,by simpa using I.len⟩ ⟨c,hs,.inr hc⟩
  ·exact (hs.2 b (z6 (z5 (zt e) (I.ok.qH x c l8 hc)))).trans (I.base.keep b o e n hb hx)
  ·obtain⟨sl,e1⟩:=I.base.slot b o e n hb hx;exact⟨sl,(hs.2 b (z6 (z5 (zt e) (I.ok.qH x c l8 hc)))).trans e1⟩
  ·obtain⟨o',e1⟩:=I.base.there b o e hx;exact⟨o',(hs.2 b (z6 (z5 (zt e) (I.ok.qH x c l8 hc)))).trans e1⟩
  ·by_cases hj:j=i
   ·subst hj;rw[hi] at e1;cases e1;rw[zN hiσ] at e2;cases e2;exact⟨u,r,.inr ⟨.inl hk,c,hc,aY⟩⟩
   ·rw[yV (zY hj)] at e2;obtain⟨u',r',q⟩:=hl j y v' e1 e2 e3;refine⟨u',r',?_⟩;rcases q with q|⟨k,c',e,z'⟩
    ·exact .inl q
    ·refine .inr ⟨k,c',e,z'.sameBut hs ?_⟩;rintro rfl;exact hj (Rw hN e1 (I.ok.inj _ _ _ e hc▸hi))
  ·by_cases kc:c'=c
   ·subst kc;exact⟨_,aY⟩
   ·obtain⟨w2,z2⟩:=I.cell y c' e;exact⟨w2,z2.sameBut hs kc⟩
  ·obtain⟨e,n,ne,nf,d⟩:=I.pin p hp;refine⟨(hs.2 p.1 ?_).trans e,n,ne,nf,d⟩;intro q;rw[q,qz] at e;have q':oc=p.2:=zD e;exact d w' (by rw[<-q'];exact l9)
def Rx {M:Model}{A:Around}{E:Value->Shared->Prop}{i:Nat}{x:Str}{v:V}{u:Value}{Q:Unit->Shared->Prop}(I:Inv X pins σ H s)(hN:X.N.Nodup)(hi:X.N[i]?=some x)(hx:Loc X.env.scope x)(r:RelV v u)
 (h:∀s',Inv X pins (σ.set i (some v)) H s'->Q () s') (hf:X.fn x=true\/X.env.scope.names.lookup x=some .local:=by first|exact .inl rfl|exact .inr rfl|assumption):wpAny M A (storeName X.env x u) Q E s:=
 OC I hN hi hx r (λ s' I' _=>h s' I') hf
def Inv.qI {s':Shared}{ch:List Addr}(I:Inv X pins σ H s)(ho:s'.os=s.os)(u:Un (XJ X.stack) ch H H' s.heap s'.heap)(Au:G7 X.prog X.w H' s'.heap)(hg:AllBare s'.gens)
 (ce:∀b∈ch,(b∈X.ex\/X.s₀.heap.objs.size<=b)/\b≠X.env.locals/\(∀x c,X.env.cells.lookup x=some c->c≠b)/\∀p∈X.pn++pins,p.1≠b):Inv X pins σ H' s':=by
 obtain⟨h',g',d',t',o'⟩:=s';have e:o'=s.os:=ho;subst e;exact I.call (g':=g') (t':=t') (d':=d') u Au hg ce
end
noncomputable abbrev XK:=Value->Option Addr->Hp->Prop
noncomputable abbrev St:=List (Option V)
noncomputable abbrev VK:=V->Hp->Prop
noncomputable abbrev TE:=St->Hp->VK->Prop
noncomputable abbrev TT:=St->Hp->(Bool->Hp->Prop)->Prop
noncomputable abbrev TA:=St->Hp->(List V->Hp->Prop)->Prop
structure Ends where
 nx:St->Hp->Prop
 rt:VK
 bk:St->Hp->Prop:=λ _ _=>False
 ct:St->Hp->Prop:=λ _ _=>False
noncomputable abbrev TS:=Ends->St->Hp->Prop
abbrev EP (X:Cx)(pins:List (Addr×Obj))(σ:St)(Q:VK)(u:Value)(s':Shared):Prop:=∃v H',Inv X pins σ H' s'/\RelV v u/\Q v H'
abbrev TP (X:Cx)(pins:List (Addr×Obj))(σ:St)(Q:Bool->Hp->Prop)(b:Bool)(s':Shared):Prop:=∃H',Inv X pins σ H' s'/\Q b H'
abbrev AP (X:Cx)(pins:List (Addr×Obj))(σ:St)(Q:List V->Hp->Prop)(us:List Value)(s':Shared):Prop:=∃vs H',Inv X pins σ H' s'/\Vals vs us/\Q vs H'
abbrev SP (X:Cx)(pins:List (Addr×Obj))(D:Ends)(f:Flow)(s':Shared):Prop:=
 match f with
 | .next=>∃σ' H',Inv X pins σ' H' s'/\D.nx σ' H'
 | .brk=>∃σ' H',Inv X pins σ' H' s'/\D.bk σ' H'
 | .cont=>∃σ' H',Inv X pins σ' H' s'/\D.ct σ' H'
 | .ret u=>∃v σ' H',Inv X pins σ' H' s'/\RelV v u/\D.rt v H'
abbrev PE (X:Cx)(e:Expr)(t:TE):Prop:=
 ∀(pins:List (Addr×Obj)) (s:Shared) (σ:St) (H:Hp) (Q:VK),Inv X pins σ H s->t σ H Q->wpAny (model X.prog X.w) X.A (eval e X.env) (EP X pins σ Q) X.xe s
abbrev PT (X:Cx)(e:Expr)(t:TT):Prop:=
 ∀(pins:List (Addr×Obj)) (s:Shared) (σ:St) (H:Hp) (Q:Bool->Hp->Prop),Inv X pins σ H s->t σ H Q->wpAny (model X.prog X.w) X.A (isTrue e X.env (eval e X.env)) (TP X pins σ Q) X.xe s
abbrev PW (X:Cx)(e:Expr)(t:TT):Prop:=
 ∀(whole:Sem Value) (pins:List (Addr×Obj)) (s:Shared) (σ:St) (H:Hp) (Q:Bool->Hp->Prop),Inv X pins σ H s->t σ H Q->wpAny (model X.prog X.w) X.A (isTrue e X.env whole) (TP X pins σ Q) X.xe s
def PW.pt {X:Cx}{e:Expr}{t:TT}(h:PW X e t):PT X e t:=h _
abbrev PA (X:Cx)(es:List Expr)(t:TA):Prop:=
 ∀(pos:Pos) (pins:List (Addr×Obj)) (s:Shared) (σ:St) (H:Hp) (Q:List V->Hp->Prop),Inv X pins σ H s->t σ H Q->wpAny (model X.prog X.w) X.A (spliced (backTo pos (starEach es X.env))) (AP X pins σ Q) X.xe s
abbrev PS (X:Cx)(st:Stmt)(t:TS):Prop:=
 ∀(pins:List (Addr×Obj)) (s:Shared) (σ:St) (H:Hp) (D:Ends),Inv X pins σ H s->t D σ H->wpAny (model X.prog X.w) X.A (exec st X.env) (SP X pins D) X.xe s
abbrev UY (X:Cx)(st:List Stmt)(t:TS):Prop:=
 ∀(pins:List (Addr×Obj)) (s:Shared) (σ:St) (H:Hp) (D:Ends),Inv X pins σ H s->t D σ H->wpAny (model X.prog X.w) X.A (execs st X.env) (SP X pins D) X.xe s
def Bj {α:Type}{t:Sem α}{Q Q':α->Shared->Prop}{M:Model}{A:Around}{E:Value->Shared->Prop}{s:Shared}(h:wpAny M A t Q E s)(hQ:∀a s,Q a s->Q' a s):wpAny M A t Q' E s:=wpAny_mono h hQ λ _ _ x=>x
section
variable {X:Cx}
def bin {a b:Expr}{ta tb:TE}(ha:PE X a ta)(hb:PE X b tb){pins:List (Addr×Obj)}{s:Shared}{σ:St}{H:Hp}{R:V->V->Hp->Prop}(I:Inv X pins σ H s)(h:ta σ H λ x H1=>tb σ H1 λ y H2=>R x y H2)
 {α:Type} {Q:α->Shared->Prop} {f:Value->Value->Sem α}
 (hf:∀v u s2 x y H2,Inv X pins σ H2 s2->RelV x v->RelV y u->R x y H2->wpAny (model X.prog X.w) X.A (f v u) Q X.xe s2):
 wpAny (model X.prog X.w) X.A (eval a X.env) (λ v s₁=>wpAny (model X.prog X.w) X.A (eval b X.env) (λ u s₂=>wpAny (model X.prog X.w) X.A (f v u) Q X.xe s₂) X.xe s₁) X.xe s:=by
 refine Bj (ha pins s σ H _ I h) λ v s1 zz=>?_;obtain⟨x,H1,I1,r1,q1⟩:=zz;refine Bj (hb pins s1 σ H1 _ I1 q1) λ u s2 zz=>?_;obtain⟨y,H2,I2,r2,q2⟩:=zz;exact hf v u s2 x y H2 I2 r1 r2 q2
abbrev LK (i:Nat):TE:=λ σ H Q=>∃v,σ[i]?=some (some v)/\Q v H
abbrev tC (v:V):TE:=λ _ H Q=>Q v H
def lG {i:Nat}{x:Str}{pos:Pos}(hN:X.N[i]?=some x)(hv:uT X.env.scope x)(hd:(x==("__debug__" : Str))=false:=by decide)(aX:(x==("__classdict__" : Str))=false:=by decide):PE X (.Name x pos) (LK i):=by
 intro pins s σ H Q I h;obtain⟨v,e,h⟩:=h;obtain⟨m,hn,hl⟩:=I.loc;obtain⟨u,r,l⟩:=hl i x v hN e hv;have fin:EP X pins σ Q u s:=⟨v,H,I,r,h⟩;rcases l with ⟨hk,hm⟩|⟨hk,c,hc,de⟩
 ·exact wpAny_Name (wpAny_loadName_local I.ok.kind hk hn hm fin) hd
 ·rcases hk with hk|hk
  ·exact wpAny_Name (wpAny_loadName_cell I.ok.kind hk hc de fin) hd
  ·exact wpAny_Name (wpAny_loadName_free I.ok.kind hk hc de fin aX) hd
def lH {i j pos}:PE X (.Constant (.int i) j pos) (tC (.int i)):=λ _ _ _ H _ I h=>wpAny_Constant_int ⟨.int i,H,I.tok _,⟨_,rfl⟩,h⟩
def qJ {b j pos}:PE X (.Constant (.bool b) j pos) (tC (.bl b)):=λ _ _ _ H _ I h=>Constant_bool ⟨.bl b,H,I,rfl,h⟩
def lI {j pos}:PE X (.Constant .none j pos) (tC .AK):=λ _ _ _ H _ I h=>Constant_none ⟨.AK,H,I,rfl,h⟩
abbrev Gl (X:Cx)(x:Str):Prop:=X.env.kindOf x=some .globalImplicit
def PY {E:Value->Shared->Prop}{pins:List (Addr×Obj)}{s:Shared}{σ:St}{H:Hp}{x:Str}{u:Value}{pos:Pos}{Q:Value->Shared->Prop}(I:Inv X pins σ H s)(hg:Gl X x)(hm:X.mg x=some u)(h:Q u s)
 (hd:(x==("__debug__" : Str))=false:=by decide):wpAny (model X.prog X.w) X.A (eval (.Name x pos) X.env) Q E s:=
 Calls.Name_function_global I.ok.kind hg (Calls.loadGlobal_global (by rw[I.ok.glob];exact I.mod.glob.keeps I.bk) hm h) hd
def Du {E:Value->Shared->Prop}{pins:List (Addr×Obj)}{s:Shared}{σ:St}{H:Hp}{x:Str}{u:Value}{pos:Pos}{Q:Value->Shared->Prop}(I:Inv X pins σ H s)(hg:Gl X x)(hm:X.mg x=none)(hv:bootBuiltins x=some u)(h:Q u s)
 (hn:x ≠ "__name__" := by decide) (hd:(x==("__debug__" : Str))=false:=by decide):wpAny (model X.prog X.w) X.A (eval (.Name x pos) X.env) Q E s:=by
 obtain⟨mb,h1,h2⟩:=I.mod.blt;exact Calls.Name_function_global I.ok.kind hg (Calls.loadGlobal_builtin (by rw[I.ok.glob];exact I.mod.glob.keeps I.bk) hm (by rw[I.ok.blt];exact h1.keeps I.bk) ((h2 x hn).trans hv) h) hd
def dR {x:Str}{v:V}{u:Value}{pos:Pos}(hg:Gl X x)(hm:X.mg x=some u)(r:RelV v u)(hd:(x==("__debug__" : Str))=false:=by decide):PE X (.Name x pos) (tC v):=
 λ _ _ _ H _ I h=>PY I hg hm ⟨v,H,I,r,h⟩ hd
def dS {x:Str}{v:V}{u:Value}{pos:Pos}(hg:Gl X x)(hm:X.mg x=none)(hv:bootBuiltins x=some u)(r:RelV v u)(hn:x ≠ "__name__" := by decide)(hd:(x==("__debug__" : Str))=false:=by decide):PE X (.Name x pos) (tC v):=
 λ _ _ _ H _ I h=>Du I hg hm hv ⟨v,H,I,r,h⟩ hn hd
variable {a b:Expr}{ta tb:TE}{pos:Pos}
abbrev PC (X:Cx)(op:CmpOp)(a b:Expr)(t:TE):Prop:=
 ∀(pins:List (Addr×Obj)) (s:Shared) (σ:St) (H:Hp) (Q:VK),Inv X pins σ H s->t σ H Q->
  wpAny (model X.prog X.w) X.A (eval a X.env) (λ v s₁=>wpAny (model X.prog X.w) X.A (eval b X.env) (λ u s₂=>wpAny (model X.prog X.w) X.A (compareOp op v u) (EP X pins σ Q) X.xe s₂) X.xe s₁) X.xe s
def Ry (b:Expr){op:CmpOp}(h:op≠.In)(h2:op≠.NotIn):behindInMarks op b=false:=by
 have e1:(op==CmpOp.In)=false:=by cases op<;>first|rfl|exact absurd rfl h
 have e2:(op==CmpOp.NotIn)=false:=by cases op<;>first|rfl|exact absurd rfl h2
 cases b<;>simp[behindInMarks,e1,e2]
abbrev uW (ta:TE):TE:=λ σ H Q=>ta σ H λ x H1=>Q (.bl (decide (x=.AK))) H1
abbrev qK (ta:TE):TE:=λ σ H Q=>ta σ H λ x H1=>Q (.bl (!decide (x=.AK))) H1
def RelV.Rz {x:V}{v:Value}(r:RelV x v):(v==Value.none)=decide (x=.AK):=by
 cases x with
 |AK|bl _=>cases r;rfl
 |int _|str _|lB _|qD _=>obtain⟨t,rfl⟩:=r;rfl
 |ref _|ty _=>cases r;rfl
def XX {j pos'}(ha:PE X a ta):PC X .Is a (.Constant .none j pos') (uW ta):=by
 intro pins s σ H Q I h;refine Bj (ha pins s σ H _ I h) λ v s1 zz=>?_;obtain⟨x,H1,I1,r1,q1⟩:=zz;exact Constant_none (is_none_gen ⟨.bl _,H1,I1,by rw[r1.Rz];rfl,q1⟩)
def dU {j pos'}(ha:PE X a ta):PC X .IsNot a (.Constant .none j pos') (qK ta):=by
 intro pins s σ H Q I h;refine Bj (ha pins s σ H _ I h) λ v s1 zz=>?_;obtain⟨x,H1,I1,r1,q1⟩:=zz;exact Constant_none (isnot_none_gen ⟨.bl _,H1,I1,by rw[r1.Rz];rfl,q1⟩)
abbrev tB (t:TE):TT:=λ σ H Q=>t σ H λ x H1=>∃c,x=.bl c/\Q c H1
def lJ {op:CmpOp}{t:TE}(h:PC X op a b t)(h1:behindInMarks op b=false:=by first | exact Ry _ (by decide) (by decide) | rfl):PE X (.Compare a [op] [b] pos) t:=λ pins s σ H Q I hw=>wpAny_Compare1 (h pins s σ H Q I hw) h1
def XY {op:CmpOp}{t:TE}(h:PC X op a b t)(h1:behindInMarks op b=false:=by first | exact Ry _ (by decide) (by decide) | rfl):PT X (.Compare a [op] [b] pos) (tB t):=by
 intro pins s σ H Q I hw;refine wpAny_isTrue_Compare1 (Bj (h pins s σ H _ I hw) λ v s1 h1=>Bj h1 λ u s2 h2=>Bj h2 λ c s3 zz=>?_) h1;obtain⟨x,H1,I1,r1,q1⟩:=zz;obtain⟨d,rfl,q⟩:=q1;cases r1;exact wpAny_truthy_bool ⟨H1,I1,q⟩
variable {tA ke:TT}{rest:List Expr}
abbrev uX (t u:TT):TT:=λ σ H Q=>t σ H λ c H1=>if c=true then u σ H1 Q else Q false H1
abbrev xO (t u:TT):TT:=λ σ H Q=>t σ H λ c H1=>if c=true then Q true H1 else u σ H1 Q
abbrev uY (t:TT):TT:=λ σ H Q=>t σ H λ c H1=>Q (!c) H1
def pw_and1 (ha:PT X a tA):PW X (.BoolOp .And [a] pos) tA:=by
 intro wh pins s σ H Q I h;refine isTrue_and (Bj (ha pins s σ H Q I h) λ c s1 e=>?_);cases c with
 |true=>exact isTrue_and_nil e
 |false=>exact e
def pw_or1 (ha:PT X a tA):PW X (.BoolOp .Or [a] pos) tA:=by
 intro wh pins s σ H Q I h;refine isTrue_or (Bj (ha pins s σ H Q I h) λ c s1 e=>?_);cases c with
 |false=>exact isTrue_or_nil e
 |true=>exact e
def pw_and (ha:PT X a tA)(hb:PW X (.BoolOp .And (b::rest) pos) ke):PW X (.BoolOp .And (a::b::rest) pos) (uX tA ke):=by
 intro wh pins s σ H Q I h;refine isTrue_and (Bj (ha pins s σ H _ I h) λ c s1 zz=>?_);obtain⟨H1,I1,q1⟩:=zz;cases c with
 |true=>exact hb wh pins s1 σ H1 Q I1 q1
 |false=>exact⟨H1,I1,q1⟩
def pw_or (ha:PT X a tA)(hb:PW X (.BoolOp .Or (b::rest) pos) ke):PW X (.BoolOp .Or (a::b::rest) pos) (xO tA ke):=by
 intro wh pins s σ H Q I h;refine isTrue_or (Bj (ha pins s σ H _ I h) λ c s1 zz=>?_);obtain⟨H1,I1,q1⟩:=zz;cases c with
 |true=>exact⟨H1,I1,q1⟩
 |false=>exact hb wh pins s1 σ H1 Q I1 q1
def lK (ha:PT X a tA):PT X (.UnaryOp .Not a pos) (uY tA):=by
 intro pins s σ H Q I h;exact isTrue_not (ha pins s σ H (λ c H1=>Q (!c) H1) I h)
abbrev qL (ta tb:TE):TE:=λ σ H Q=>ta σ H λ x H1=>∃c,x=.bl c/\if c=true then tb σ H1 Q else Q (.bl false) H1
abbrev uZ (ta tb:TE):TE:=λ σ H Q=>ta σ H λ x H1=>∃c,x=.bl c/\if c=true then Q (.bl true) H1 else tb σ H1 Q
abbrev qM (ta:TE):TE:=λ σ H Q=>ta σ H λ x H1=>∃c,x=.bl c/\Q (.bl (!c)) H1
def lL {op}{t:TE}(h:PE X a t):PE X (.BoolOp op [a] pos) t:=λ pins s σ H Q I hw=>BoolOp_one (h pins s σ H Q I hw)
def lM (ha:PE X a ta)(hb:PE X (.BoolOp .And (b::rest) pos) tb):PE X (.BoolOp .And (a::b::rest) pos) (qL ta tb):=by
 intro pins s σ H Q I h;refine BoolOp_and (Bj (ha pins s σ H _ I h) λ v s1 zz=>?_);obtain⟨x,H1,I1,r1,q1⟩:=zz;obtain⟨c,rfl,q1⟩:=q1;cases r1;refine wpAny_truthy_bool ?_;cases c with
 |true=>exact hb pins s1 σ H1 Q I1 q1
 |false=>exact⟨.bl false,H1,I1,rfl,q1⟩
def qN (ha:PE X a ta)(hb:PE X (.BoolOp .Or (b::rest) pos) tb):PE X (.BoolOp .Or (a::b::rest) pos) (uZ ta tb):=by
 intro pins s σ H Q I h;refine BoolOp_or (Bj (ha pins s σ H _ I h) λ v s1 zz=>?_);obtain⟨x,H1,I1,r1,q1⟩:=zz;obtain⟨c,rfl,q1⟩:=q1;cases r1;refine wpAny_truthy_bool ?_;cases c with
 |false=>exact hb pins s1 σ H1 Q I1 q1
 |true=>exact⟨.bl true,H1,I1,rfl,q1⟩
def lN (ha:PE X a ta):PE X (.UnaryOp .Not a pos) (qM ta):=by
 intro pins s σ H Q I h;refine UnaryOp_ (Bj (ha pins s σ H _ I h) λ v s1 zz=>?_);obtain⟨x,H1,I1,r1,q1⟩:=zz;obtain⟨c,rfl,q1⟩:=q1;cases r1;exact not_of (wpAny_truthy_bool ⟨.bl (!c),H1,I1,rfl,q1⟩)
end
abbrev Di (K:za)(H:Hp)(a:Addr)(xs:List V):Prop:=
 Rd H a (.lst xs) \/
  ∃(o:Obj) (ac:Array Value) (n:Nat),K.lookup a=some o/\o.cls=.type "list" /\ o.dict=none/\o.data=.seq ac n/\ac.size<=sizeLine/\Vals xs ac.toList
abbrev Fe (K:za)(H:Hp)(a:Addr)(xs:List V):Prop:=
 Rd H a (.tup xs) \/
  ∃(o:Obj) (ac:Array Value) (n:Nat),K.lookup a=some o/\o.cls=.type "tuple" /\ o.data=.seq ac n/\ac.size<=sizeLine/\Vals xs ac.toList
abbrev vA:Value->Option V
 | .none=>some .AK
 | .bool b=>some (.bl b)
 | .int i _=>some (.int i)
 | .str x _=>some (.str x)
 | .bytes b _=>some (.lB b)
 | .float b _=>some (.qD b)
 | .ref a=>some (.ref a)
 | .type n=>some (.ty n)
 |_=>none
def RelV.abs {x:V}{u:Value}(r:RelV x u):vA u=some x:=by
 cases x with
 |AK|bl _=>cases r;rfl
 |int _|str _|lB _|qD _=>obtain⟨t,rfl⟩:=r;rfl
 |ref _|ty _=>cases r;rfl
def RelV.inj {x y:V}{u:Value}(r:RelV x u)(q:RelV y u):x=y:=zD (r.abs.symm.trans q.abs)
def Vals.inj:∀ {xs ys:List V}{us:List Value},Vals xs us->Vals ys us->xs=ys
 |_,_,_,.nil,.nil=>rfl
 |_,_,_,.cons r t,.cons r' t'=>by rw[r.inj r',Vals.inj t t']
section
variable {X:Cx}{pins:List (Addr×Obj)}{σ:St}{H:Hp}{s:Shared}{a:Addr}{xs ys:List V}
def Di.of {K:za}(h:H a=some (.lst xs)):Di K H a xs:=.inl (.inl h)
def Fe.of {K:za}(h:H a=some (.tup xs)):Fe K H a xs:=.inl (.inl h)
def Inv.list (I:Inv X pins σ H s)(h:Di X.K H a xs):∃ac:List Value,Vals xs ac/\PlainL s.heap a ac.toArray/\xs.length<=sizeLine:=by
 rcases h with h|⟨o,ac,n,hk,hc,hd,hs,hz,r⟩
 ·obtain⟨z,ac,n,r,e⟩:=h.ok I.Au;exact⟨ac,r,⟨_,n,e,rfl,rfl,rfl⟩,z⟩
 ·refine⟨ac.toList,r,⟨o,n,I.Mt a o hk,hc,hd,by simpa using hs⟩,?_⟩;have e:=r.length;simp only[Array.length_toList] at e;omega
def Inv.tuple (I:Inv X pins σ H s)(h:Fe X.K H a xs):∃ac:List Value,Vals xs ac/\IsTup s.heap a ac.toArray/\xs.length<=sizeLine:=by
 rcases h with h|⟨o,ac,n,hk,hc,hs,hz,r⟩
 ·obtain⟨z,ac,r,p⟩:=h.ok I.Au;exact⟨ac,r,p,z⟩
 ·refine⟨ac.toList,r,⟨o,I.Mt a o hk,hc,n,by simpa using hs⟩,?_⟩;have e:=r.length;simp only[Array.length_toList] at e;omega
def Inv.Gg (I:Inv X pins σ H s)(h:Di X.K H a xs)(h':Di X.K H a ys):xs=ys:=by
 obtain⟨ac,r,⟨o,n,e,_,_,d⟩,_⟩:=I.list h;obtain⟨its',r',⟨o',n',e',_,_,d'⟩,_⟩:=I.list h';rw[e] at e';cases e';rw[d] at d';injection d' with d1 _
 have:ac=its':=by simpa using congrArg Array.toList d1
 subst this;exact r.inj r'
def Inv.Hq (I:Inv X pins σ H s)(h:Fe X.K H a xs)(h':Fe X.K H a ys):xs=ys:=by
 obtain⟨ac,r,⟨o,e,_,n,d⟩,_⟩:=I.tuple h;obtain⟨its',r',⟨o',e',_,n',d'⟩,_⟩:=I.tuple h';rw[e] at e';cases e';rw[d] at d';injection d' with d1 _
 have:ac=its':=by simpa using congrArg Array.toList d1
 subst this;exact r.inj r'
end
noncomputable abbrev Cx.O4 (X:Cx)(E:Value->Shared->Prop):Cx:={X with xe:=E}
noncomputable abbrev Cx.qO (X:Cx):Cx:=X.O4 λ _ _=>False
def Cx.Ok.O4 {X:Cx}(ok:X.Ok)(E:Value->Shared->Prop):(X.O4 E).Ok:=
 ⟨ok.mod,ok.kind,ok.glob,ok.blt,ok.above,ok.inj,ok.has,ok.qH,ok.hd,ok.frames,ok.tU,ok.tV,ok.bs,ok.dQ,ok.XU,ok.XW,ok.Kq,ok.lE⟩
def Cx.Ok.Gh {X:Cx}{E:Value->Shared->Prop}(ok:(X.O4 E).Ok):X.Ok:=
 ⟨ok.mod,ok.kind,ok.glob,ok.blt,ok.above,ok.inj,ok.has,ok.qH,ok.hd,ok.frames,ok.tU,ok.tV,ok.bs,ok.dQ,ok.XU,ok.XW,ok.Kq,ok.lE⟩
section
variable {X:Cx}{pins:List (Addr×Obj)}{σ:St}{H:Hp}{s:Shared}{E:Value->Shared->Prop}
def Inv.O4 (I:Inv X pins σ H s)(E:Value->Shared->Prop):Inv (X.O4 E) pins σ H s:=⟨I.ok.O4 E,I.os,I.bare,I.base,I.loc,I.cell,I.free,I.Gf,I.pin,I.Au,I.len⟩
def Inv.Gh (I:Inv (X.O4 E) pins σ H s):Inv X pins σ H s:=⟨I.ok.Gh,I.os,I.bare,I.base,I.loc,I.cell,I.free,I.Gf,I.pin,I.Au,I.len⟩
def SP.Gh {D:Ends}{f:Flow}{s':Shared}(h:SP (X.O4 E) pins D f s'):SP X pins D f s':=by
 cases f with
 |next|brk|cont=>obtain⟨σ',H',I,q⟩:=h;exact⟨σ',H',I.Gh,q⟩
 |ret u=>obtain⟨v,σ',H',I,r,q⟩:=h;exact⟨v,σ',H',I.Gh,r,q⟩
def UY.qO {st:List Stmt}{t:TS}(h:UY X.qO st t):UY X st t:=λ pins s σ H D I hw =>
 wpAny_mono (h pins s σ H D (I.O4 _) hw) (λ _ _ q=>q.Gh) λ _ _ z=>zan z
end
section
variable {X:Cx}{st:Stmt}{rest:List Stmt}{t u:TS}{e:Expr}{te:TE}{pos:Pos}
abbrev qP:TS:=λ D σ H=>D.nx σ H
abbrev vB (t u:TS):TS:=λ D σ H=>t {D with nx:=u D} σ H
def dW:UY X [] qP:=λ _ _ σ H _ I h=>wpAny_execs_nil ⟨σ,H,I,h⟩
def XZ (h1:PS X st t)(h2:UY X rest u):UY X (st::rest) (vB t u):=by
 intro pins s σ H D I h;refine wpAny_execs_cons (Bj (h1 pins s σ H {D with nx:=u D} I h) λ f s1 q=>?_);cases f with
 |next =>
  obtain⟨σ',H',I',q⟩:=q;exact h2 pins s1 σ' H' D I' q
 |ret v|brk|cont=>exact q
def dX (h1:PS X st t):UY X [st] t:=by
 intro pins s σ H D I h;refine wpAny_execs_cons (Bj (h1 pins s σ H D I h) λ f s1 q=>?_);cases f with
 |next=>exact wpAny_execs_nil q
 |ret v|brk|cont=>exact q
def Inv.quiet {pins:List (Addr×Obj)}{σ:St}{H:Hp}{s:Shared}(I:Inv X pins σ H s):interactive X.env=false:=by simp[interactive,I.ok.kind]
abbrev qQ (te:TE):TS:=λ D σ H=>te σ H λ _ H1=>D.nx σ H1
def Ff (he:PE X e te)(hs: ~~~(swapsWith e none pos.line X.env=pure false)):PS X (.Expr e pos) (qQ te):=by
 intro pins s σ H D I h;exact wpAny_Expr_any (Bj (he pins s σ H _ I h) λ v s1 ⟨x,H1,I1,r1,q1⟩=>⟨σ,H1,I1,q1⟩) I.quiet hs
abbrev vC (te:TE):TS:=λ D σ H=>te σ H D.rt
def TF (he:PE X e te):PS X (.Return (some e) pos) (vC te):=by
 intro pins s σ H D I h;exact wpAny_Return_some (Bj (he pins s σ H _ I h) λ v s1 ⟨x,H1,I1,r1,q1⟩=>⟨x,σ,H1,I1,r1,q1⟩)
abbrev vD (c:TT)(t u:TS):TS:=λ D σ H=>c σ H λ b H1=>if b=true then t D σ H1 else u D σ H1
def qR {c:Expr}{a b:List Stmt}{tc:TT}(hc:PT X c tc)(ha:UY X a t)(hb:UY X b u):PS X (.If c a b pos) (vD tc t u):=by
 intro pins s σ H D I h;refine wpAny_If (Bj (hc pins s σ H _ I h) λ d s1 zz=>?_);obtain⟨H1,I1,q1⟩:=zz;cases d with
 |true=>exact ha pins s1 σ H1 D I1 q1
 |false=>exact hb pins s1 σ H1 D I1 q1
end
noncomputable abbrev TG:=V->St->Hp->(St->Hp->Prop)->Prop
noncomputable abbrev XM:=List V->St->Hp->(St->Hp->Prop)->Prop
abbrev PG (X:Cx)(target:Expr)(t:TG):Prop:=
 ∀(pins:List (Addr×Obj)) (s:Shared) (σ:St) (H:Hp) (v:V) (u:Value) (Q:St->Hp->Prop),Inv X pins σ H s->RelV v u->t v σ H Q->
  wpAny (model X.prog X.w) X.A (assign target X.env u) (λ _ s'=>∃σ' H',Inv X pins σ' H' s'/\Q σ' H') X.xe s
abbrev pN (X:Cx)(ts:List Expr)(t:XM):Prop:=
 ∀(pins:List (Addr×Obj)) (s:Shared) (σ:St) (H:Hp) (vs:List V) (us:List Value) (Q:St->Hp->Prop),Inv X pins σ H s->Vals vs us->t vs σ H Q->
  wpAny (model X.prog X.w) X.A (assignInOrder ((assignEach ts X.env).map (·.2)) us) (λ _ s'=>∃σ' H',Inv X pins σ' H' s'/\Q σ' H') X.xe s
noncomputable abbrev lO:=V->V->V->Hp->(Hp->Prop)->Prop
abbrev qS (X:Cx)(t:lO):Prop:=
 ∀(pins:List (Addr×Obj)) (s:Shared) (σ:St) (H:Hp) (o i v:V) (ov iv u:Value) (Q:Hp->Prop),Inv X pins σ H s->RelV o ov->RelV i iv->RelV v u->t o i v H Q->
  wpAny (model X.prog X.w) X.A (setItem ov iv u) (λ _ s'=>∃H',Inv X pins σ H' s'/\Q H') X.xe s
section
variable {X:Cx}{pos:Pos}
abbrev OD (i:Nat):TG:=λ v σ H Q=>Q (σ.set i (some v)) H
def PZ {i:Nat}{x:Str}(hN:X.N.Nodup)(hi:X.N[i]?=some x)(hx:Loc X.env.scope x)(hf:X.fn x=true\/X.env.scope.names.lookup x=some .local:=by first | exact .inl rfl | exact .inr rfl | assumption):PG X (.Name x pos) (OD i):=by
 intro pins s σ H v u Q I r h;exact wpAny_assign_Name (Rx I hN hi hx r (λ s' I'=>⟨_,H,I',h⟩) hf)
abbrev lP:XM:=λ vs σ H Q=>vs=[]/\Q σ H
abbrev Y0 (t:TG)(u:XM):XM:=λ vs σ H Q=>∃v r,vs=v::r/\t v σ H λ σ' H'=>u r σ' H' Q
def UZ:pN X [] lP:=by
 intro pins s σ H vs us Q I r h;obtain⟨e,h⟩:=h;subst e;cases r;exact assignInOrder_nil ⟨σ,H,I,h⟩
def RB {e:Expr}{es:List Expr}{t:TG}{u:XM}(h1:PG X e t)(h2:pN X es u)(hs: ~~~((assignEach (e::es) X.env).map (·.2)=assign e X.env::(assignEach es X.env).map (·.2))):pN X (e::es) (Y0 t u):=by
 intro pins s σ H vs us Q I r h;obtain⟨v,vr,e1,h⟩:=h;subst e1;cases r with
 |cons r rr =>
  rw[hs];refine assignInOrder_cons (Bj (h1 pins s σ H _ _ _ I r h) λ _ s1 zz=>?_);obtain⟨σ1,H1,I1,q1⟩:=zz;exact h2 pins s1 σ1 H1 _ _ Q I1 rr q1
abbrev lQ (K:za)(n:Nat)(t:XM):TG:=λ v σ H Q=>∃a xs,v=.ref a/\Fe K H a xs/\xs.length=n/\t xs σ H Q
def Y1 {es:List Expr}{k:Nat}{t:XM}{n:Nat}(hc:X.calm=true)(h:pN X es t)(hn: ~~~((assignEach es X.env).length=n))(aJ: ~~~((assignEach es X.env).findIdx? (·.1)=none)):PG X (.Tuple es k pos) (lQ X.K n t):=by
 intro pins s σ H v u Q I r hw;obtain⟨a,xs,e1,hq,hl,hw⟩:=hw;subst e1;cases r;obtain⟨ac,rv,ht,hz⟩:=I.tuple hq;refine assign_Tuple_tuple (I.ok.hd hc) ht (by simp[hn,<-hl,rv.length]) aJ λ h' hx=>?_;have I1:Inv X pins σ H {s with heap:=h' }:=I.kept (t':=s.toks) λ b o e=>hx b o (z6 (zt e)) e;exact h pins _ σ H xs _ Q I1 (by simpa using rv) hw
abbrev vE (to ti:TE)(t:lO):TG:=λ v σ H Q=>to σ H λ o H1=>ti σ H1 λ i H2=>t o i v H2 λ H3=>Q σ H3
def Y2 {o i:Expr}{to ti:TE}{t:lO}(ho:PE X o to)(hi:PE X i ti)(hs:qS X t)
 (ha:∀v,assign (.Subscript o i pos) X.env v=(do
  let ov <-holding [v] (eval o X.env);let iv <-holding [v,ov] (eval i X.env)
  standAt pos
  holding [v,ov,iv] (setItem ov iv v)
  release [v,ov,iv] []):=by intro _;rfl):PG X (.Subscript o i pos) (vE to ti t):=by
 intro pins s σ H v u Q I r h;rw[ha];refine wpAny_bind (wpAny_holding (Bj (ho pins s σ H _ I h) λ ov s1 zz=>?_));obtain⟨x,H1,I1,r1,q1⟩:=zz;refine wpAny_bind (wpAny_holding (Bj (hi pins s1 σ H1 _ I1 q1) λ iv s2 zz=>?_));obtain⟨y,H2,I2,r2,q2⟩:=zz;refine wpAny_bind (wpAny_standAt (wpAny_bind (wpAny_holding (Bj (hs pins s2 σ H2 x y v ov iv u _ I2 r1 r2 r q2) λ _ s3 zz=>?_))));obtain⟨H3,I3,q3⟩:=zz;exact wpAny_release ⟨σ,H3,I3,q3⟩
abbrev qT (te:TE)(g:TG):TS:=λ D σ H=>te σ H λ x H1=>g x σ H1 D.nx
def Y3 {tg e:Expr}{te:TE}{g:TG}(he:PE X e te)(hg:PG X tg g)(hs: ~~~(swapsWithSole [tg] e pos.line X.env=pure false))(hw: ~~~(swappedStores [tg] e X.env=pure none))(h1: ~~~((assignEach [tg] X.env).map (·.2)=[assign tg X.env])):PS X (.Assign [tg] e pos) (qT te g):=by
 intro pins s σ H D I h;refine wpAny_Assign_stores (Bj (he pins s σ H _ I h) λ v s1 zz=>?_) hs hw;obtain⟨x,H1,I1,r1,q1⟩:=zz;rw[h1];exact Bj (hg pins s1 σ H1 x v _ I1 r1 q1) λ _ s2 q=>q
def TH {i:Nat}{x:Str}{e:Expr}{te:TE}{pos':Pos}(hN:X.N.Nodup)(hi:X.N[i]?=some x)(hx:Loc X.env.scope x)(he:PE X e te)(hs: ~~~(swapsWith e (some (.Name x pos')) pos.line X.env=pure false))(hf:X.fn x=true\/X.env.scope.names.lookup x=some .local:=by first | exact .inl rfl | exact .inr rfl | assumption):
 PS X (.Assign [.Name x pos'] e pos) (qT te (OD i)):=by
 intro pins s σ H D I h;refine wpAny_Assign_Name (Bj (he pins s σ H _ I h) λ v s1 zz=>?_) hs;obtain⟨y,H1,I1,r1,q1⟩:=zz;exact Rx I1 hN hi hx r1 (λ s2 I2=>⟨_,H1,I2,q1⟩) hf
end
section
variable {X:Cx}{pos:Pos}
abbrev lR (c:TT)(tb:TS):TS:=λ D σ H=>∃W:Nat->St->Hp->Prop,(∃m,W m σ H)/\∀m σ H,W m σ H->
 c σ H λ b H1=>if b=true then ∃N:St->Hp->Prop,(∀σ' H',N σ' H'->∃m',m'<m/\W m' σ' H')/\tb {D with nx:=N,ct:=N,bk:=D.nx} σ H1 else D.nx σ H1
def Y4 {c:Expr}{body:List Stmt}{tc:TT}{tb:TS}(hp:PassesOwn (model X.prog X.w) X.A X.env X.xe)(hc:PT X c tc)(hb:UY X body tb):PS X (.While c body [] pos) (lR tc tb):=by
 intro pins s σ H D I h;obtain⟨W,⟨m0,w0⟩,turn⟩:=h;refine wpAny_While (codeAny_whileLoop (λ n s'=>∃σ' H',Inv X pins σ' H' s'/\W n σ' H') ?_ m0 ⟨σ,H,I,w0⟩);rintro n s1 ⟨σ1,H1,I1,w1⟩;refine wpAny_passesOwn hp (Bj (hc pins s1 σ1 H1 _ I1 (turn n σ1 H1 w1)) λ b s2 zz=>?_);obtain⟨H2,I2,q2⟩:=zz;cases b with
 |true =>
  obtain⟨N,hN,q2⟩:=q2;rw[if_pos rfl];refine wpAny_passesOwn hp (Bj (hb pins s2 σ1 H2 _ I2 q2) λ f s3 q3=>?_);cases f with
  |next =>
   obtain⟨σ3,H3,I3,n3⟩:=q3;obtain⟨m',hm,w3⟩:=hN σ3 H3 n3;exact⟨m',hm,σ3,H3,I3,w3⟩
  |cont =>
   obtain⟨σ3,H3,I3,n3⟩:=q3;obtain⟨m',hm,w3⟩:=hN σ3 H3 n3;exact⟨m',hm,σ3,H3,I3,w3⟩
  |brk|ret v=>exact q3
 |false =>
  rw[if_neg z8];exact wpAny_execs_nil ⟨σ1,H2,I2,q2⟩
end
structure It where
 go:Nat->Hp->Prop
 jQ:Nat->Hp->V->Hp->Prop
 stop:Nat->Hp->Prop
abbrev LL (X:Cx)(pins:List (Addr×Obj))(H:Hp)(b:Addr):Prop:=
 H b=none/\b≠X.env.locals/\b∉X.fs/\(b∈X.ex\/X.s₀.heap.objs.size<=b)/\(∀x c,X.env.cells.lookup x=some c->c≠b)/\∀p∈X.pn++pins,p.1≠b
def Inv.Y5 {X:Cx}{pins:List (Addr×Obj)}{σ:St}{H H':Hp}{s:Shared}{b:Addr}(I:Inv X pins σ H s)(hb:s.heap.objs.size<=b)(hn:H' b=none):LL X pins H' b:=by
 refine⟨hn,Nat.ne_of_gt (z5 I.lt hb),I.uV hb,.inr (yJ I.sz hb),λ x c e z=>?_,λ p hp z=>?_⟩
 ·obtain⟨v,q⟩:=I.cell x c e;exact absurd (z5 q.lt (by rw[z];exact hb)) (Nat.lt_irrefl _)
 ·exact absurd (z5 (zt (I.pin p hp).1) (by rw[z];exact hb)) (Nat.lt_irrefl _)
structure Turn (P:Program)(w:World)(K:za)(tg:Expr)(J:It)(fp:List Addr)(it:Addr)(tn:Nat->Heap->Prop):Prop where
 mem:it∈fp
 obj:∀i h,tn i h->∀b∈fp,∃o,h.get? b=some o/\∀v,o.data≠.cell v
 keep:∀i h h',tn i h->(∀b∈fp,∀o,h.get? b=some o->h'.get? b=some o)->tn i h'
 item:∀(X:Cx),X.prog=P->X.w=w->X.K=K->X.calm=true->∀(i:Nat) (pins:List (Addr×Obj)) (s:Shared) (σ:St) (H:Hp) (E:Value->Shared->Prop),Inv X pins σ H s->(∀b∈fp,LL X pins H b)->tn i s.heap->J.go i H->
  wpAny (model P w) X.A (pyNext (.ref it)) (λ r s1=>∃u,r=some u/\
   wpAny (model P w) X.A (letOwnedTupleGo tg (.ref it) u) (λ _ s2=>∃x H',Inv X pins σ H' s2/\RelV x u/\J.jQ i H x H'/\tn (i+1) s2.heap/\∀b∈fp,H' b=none) E s1) E s
 done:∀(X:Cx),X.prog=P->X.w=w->X.K=K->X.calm=true->∀(i:Nat) (pins:List (Addr×Obj)) (s:Shared) (σ:St) (H:Hp) (E:Value->Shared->Prop),Inv X pins σ H s->(∀b∈fp,LL X pins H b)->tn i s.heap->J.stop i H->
  wpAny (model P w) X.A (pyNext (.ref it)) (λ r s1=>r=none/\Inv X pins σ H s1) E s
 self:∀(A:Around) (i:Nat) (s:Shared) (Q:Value->Shared->Prop) (E:Value->Shared->Prop),tn i s.heap->Q (.ref it) s->wpAny (model P w) A (pyIter (.ref it)) Q E s
noncomputable abbrev TI:=St->Hp->(It->Hp->Prop)->Prop
abbrev wJ (X:Cx)(pins:List (Addr×Obj))(σ:St)(tg:Expr)(R:It->Hp->Prop)(kg:Value)(s2:Shared):Prop:=
 ∃(it:Addr) (fp:List Addr) (tn:Nat->Heap->Prop) (J:It) (H':Hp),kg=.ref it/\Inv X pins σ H' s2/\Turn X.prog X.w X.K tg J fp it tn/\tn 0 s2.heap/\(∀b∈fp,LL X pins H' b)/\R J H'
abbrev PI (X:Cx)(tg iter:Expr)(wi:TI):Prop:=
 ∀(pins:List (Addr×Obj)) (s:Shared) (σ:St) (H:Hp) (R:It->Hp->Prop),Inv X pins σ H s->wi σ H R->
  wpAny (model X.prog X.w) X.A (eval iter X.env) (λ v s1=>wpAny (model X.prog X.w) X.A (pyIter v) (wJ X pins σ tg R) X.xe s1) X.xe s
def Y6 {M:Model}{A:Around}{E:Value->Shared->Prop}{s:Shared}{tg:Expr}{it:Addr}{u:Value}{o:Obj}{n:String}{vs:Array Value}{Q:Unit->Shared->Prop}(ho:s.heap.get? it=some o)(hc:o.cls=.type n)(hd:o.data=.fields vs)
 (hn:["enumerate","zip","dict_itemiterator","dict_reverseitemiterator","odict_iterator","itertools.zip_longest","itertools.pairwise"].contains n=false) (hQ:Q () s):wpAny M A (letOwnedTupleGo tg (.ref it) u) Q E s:=by
 unfold letOwnedTupleGo;cases tg<;>first
  |exact wpAny_pure hQ
  |(cases u<;>first
   |exact wpAny_pure hQ
   |(
    refine wpAny_bind (wpAny_load ho ?_);rw[hc,hd];show wpAny M A (if (["enumerate","zip","dict_itemiterator","dict_reverseitemiterator","odict_iterator","itertools.zip_longest","itertools.pairwise"].contains n&&vs[0]?== some (rawInt _))=true then _ else _) Q E s;rw[if_neg (by intro h;rw[hn,Bool.false_and] at h;cases h)];exact wpAny_pure hQ))
abbrev wK (K:za)(a:Addr):It:=
 ⟨λ i H=>∃xs x,Di K H a xs/\xs[i]?=some x,λ i H x H'=>H'=H/\∀xs,Di K H a xs->xs[i]?=some x,λ i H=>∃xs,Di K H a xs/\xs.length<=i⟩
abbrev tW (lo:Int)(n:Nat):It:=⟨λ i _=>i<n,λ i H x H'=>H'=H/\x=.int (lo+i),λ i _=>n<=i⟩
def Wi {P:Program}{w:World}{K:za}{tg:Expr}(a it:Addr):Turn P w K tg (wK K a) [it] it (λ i h=>h.IsListIter it a i) where
 mem:=by simp
 obj:=λ i h st b hb=>by
  have e:b=it:=by simpa using hb
  subst e;obtain⟨o,e,c,d⟩:=st;exact⟨o,e,λ v z=>by rw[d] at z;cases z⟩
 keep:=λ i h h' st k=>st.at λ o e=>k it (by simp) o e
 item:=by
  intro X hP hw hK hc i pins s σ H E I hf st hg;subst hP hw hK;obtain⟨xs,x,hq,hx⟩:=hg;obtain⟨ac,rv,p,hz⟩:=I.list hq;obtain⟨u,hu,ru⟩:=rv.get hx;obtain⟨f0,f1,f2,f3,f4,f5⟩:=hf it (by simp);refine wpAny_pyNext_list_item st p.isList (x:=u) (by simpa using hu) λ h' bM sb=>?_;have I1:Inv X pins σ H {s with heap:=h' }:=I.turned (t':=s.toks) (λ b o hb e=>(sb.2 b hb).trans e) f0 f1 f3 f4 f5;obtain⟨o,e,c,d⟩:=id bM;exact⟨u,rfl,Y6 (s:={s with heap:=h' }) e c d (by decide) ⟨x,H,I1,ru,⟨rfl,λ ys hy=>by rw[I.Gg hy hq];exact hx⟩,bM,λ b hb=>(hf b hb).1⟩⟩
 done:=by
  intro X hP hw hK hc i pins s σ H E I hf st hg;subst hP hw hK;obtain⟨xs,hq,hx⟩:=hg;obtain⟨ac,rv,p,hz⟩:=I.list hq;obtain⟨f0,f1,f2,f3,f4,f5⟩:=hf it (by simp);have hl:=rv.length;exact wpAny_pyNext_list_end (I.ok.hd hc) st p.isList (by simp;omega) λ h' eb=>⟨rfl,I.turned (t':=s.toks) (λ b o hb e=>eb b o hb e) f0 f1 f3 f4 f5⟩
 self:=λ _ _ _ _ _ st h=>wpAny_pyIter_listiter st h
def TJ {P:Program}{w:World}{K:za}{tg:Expr}(it:Addr)(lo:Int)(n:Nat):Turn P w K tg (tW lo n) [it] it (λ i h=>IsRangeIter h it (lo+(i:Nat)*1) ((n:Int)-(i:Nat)) 1) where
 mem:=by simp
 obj:=λ i h st b hb=>by
  have e:b=it:=by simpa using hb
  subst e;exact⟨_,st,λ v z=>by
   have z':Data.fields _=Data.cell v:=z;cases z'⟩
 keep:=λ i h h' st k=>k it (by simp) _ st
 item:=by
  intro X hP hw hK hc i pins s σ H E I hf st hg;subst hP hw hK;obtain⟨f0,f1,f2,f3,f4,f5⟩:=hf it (by simp);have W:=Walks.range (prog:=X.prog) (w:=X.w) (I.ok.hd hc) it lo 1 n;refine W.item i s _ _ hg st λ v h' tk hv bM kk=>?_;obtain⟨t,rfl⟩:=hv;have I1:Inv X pins σ H {s with heap:=h',toks:=tk}:=I.turned (λ b o hb e=>kk b o (by simpa using hb) e) f0 f1 f3 f4 f5;refine⟨_,rfl,Y6 (s:={s with heap:=h',toks:=tk}) (n := "range_iterator") bM rfl rfl (by decide) ⟨.int (lo+i),H,I1,⟨t,?_⟩,⟨rfl,rfl⟩,bM,λ b hb=>(hf b hb).1⟩⟩;rw[Int.mul_one]
 done:=by
  intro X hP hw hK hc i pins s σ H E I hf st hg;subst hP hw hK;obtain⟨f0,f1,f2,f3,f4,f5⟩:=hf it (by simp);exact wpAny_pyNext_range_end (I.ok.hd hc) st (by have:n<=i:=hg;omega) λ h' eb=>⟨rfl,I.turned (t':=s.toks) (λ b o hb e=>eb b o hb e) f0 f1 f3 f4 f5⟩
 self:=λ _ _ _ _ _ st h=>wpAny_pyIter_rangeiter st h
section
variable {X:Cx}{tg:Expr}
abbrev qU (K:za)(tl:TE):TI:=λ σ H R=>tl σ H λ x H1=>∃a,x=.ref a/\(∃xs,Di K H1 a xs)/\R (wK K a) H1
def dY {l:Expr}{tl:TE}(hl:PE X l tl):PI X tg l (qU X.K tl):=by
 intro pins s σ H R I h;refine Bj (hl pins s σ H _ I h) λ v s1 zz=>?_;obtain⟨x,H1,I1,r1,q1⟩:=zz;obtain⟨a,e,⟨xs,hq⟩,q⟩:=q1;subst e;cases r1;obtain⟨ac,rv,p,hz⟩:=I1.list hq;refine wpAny_pyIter_list p.isList ?_;refine⟨s1.heap.objs.size,[s1.heap.objs.size],_,_,H1,rfl,I1.kept (t':=s1.toks) λ b o e=>zo _ e,Wi a _,⟨_,zE _ rfl,rfl,rfl⟩,λ b hb=>?_,q⟩;have e:b=s1.heap.objs.size:=by simpa using hb
 subst e;exact I1.Y5 (zu _) (I1.Au.fresh (zu _))
def Y7 {pins:List (Addr×Obj)}{σ:St}{H:Hp}{s:Shared}{R:It->Hp->Prop}{E:Value->Shared->Prop}{lo hi:Int}{t u v:Tok}{tk:Nat}(I:Inv X pins σ H s)(h1 : -(2^62)<=lo)(h2:lo<2^62)(h3 : -(2^62)<=hi)(h4:hi<2^62)
 (q:R (tW lo (hi-lo).toNat) H):wpAny (model X.prog X.w) X.A (pyIter (.ref s.heap.objs.size)) (wJ X pins σ tg R) E {s with heap:=s.heap.push {cls:=.type "range",data:=.fields #[.int lo t,.int hi u,.int 1 v]},toks:=tk}:=by
 refine wpAny_pyIter_range (IsRange.new ..) (small_one h1 h2 h3 h4) ?_;have I1:Inv X pins σ H {s with heap:=s.heap.push {cls:=.type "range",data:=.fields #[.int lo t,.int hi u,.int 1 v]},toks:=tk}:=I.kept λ b o e=>zo _ e;refine⟨(s.heap.push {cls:=.type "range",data:=.fields #[.int lo t,.int hi u,.int 1 v]}).objs.size,[(s.heap.push {cls:=.type "range",data:=.fields #[.int lo t,.int hi u,.int 1 v]}).objs.size],_,_,H,rfl,
  I1.kept (t':=tk) λ b o e=>zo _ e,TJ _ lo (hi-lo).toNat,?_,λ b hb=>?_,q⟩
 ·have e1:lo+((0:Nat):Int)*1=lo:=by simp
  have e2:(((hi-lo).toNat:Nat):Int)-((0:Nat):Int)=Builtin.Range.rangeSize lo hi 1:=by rw[rangeSize_one];split<;>omega
  show IsRangeIter _ _ (lo+((0:Nat):Int)*1) ((((hi-lo).toNat:Nat):Int)-((0:Nat):Int)) 1;rw[e1,e2];exact zE _ rfl
 ·have e:b=(s.heap.push {cls:=.type "range",data:=.fields #[.int lo t,.int hi u,.int 1 v]}).objs.size:=by simpa using hb
  subst e;exact I1.Y5 (zu _) (I1.Au.fresh (zu _))
abbrev qV (ta:TA):TI:=λ σ H R=>ta σ H λ vs H1=>∃j:Int,vs=[.int j]/\-(2^62)<=j/\j<2^62/\R (tW 0 j.toNat) H1
def Wj {a:Expr}{ta:TA}{p pos:Pos}(hg:Gl X "range")(hm:X.mg "range" = none)(ha:PA X [a] ta)(hs: ~~~(starEach [a] X.env=[(false,eval a X.env)])):PI X tg (.Call (.Name "range" p) [a] [] pos) (qV ta):=by
 intro pins s σ H R I h;refine Call_ (Du I hg hm boot_range (zZ (Bj (ha pos pins s σ H _ I h) λ us s1 zz=>?_) hs rfl));obtain⟨vs,H1,I1,r1,q1⟩:=zz;obtain⟨j,e,q1,q2,q⟩:=q1;subst e;cases r1 with
 |cons r rr =>
  cases rr;obtain⟨t,rfl⟩:=r;exact call_range_1 (Y7 I1 (by omega) (by omega) q1 q2 (by simpa using q))
abbrev vF (wi:TI)(g:TG)(tb:TS):TS:=λ D σ H=>wi σ H λ J H1=>∃W:Nat->Nat->St->Hp->Prop,(∃m,W 0 m σ H1)/\∀i m σ H,W i m σ H->
 (J.stop i H/\D.nx σ H)\/(J.go i H/\∃N:St->Hp->Prop,(∀σ' H',N σ' H'->∃m',m'<m/\W (i+1) m' σ' H')/\∀x H',J.jQ i H x H'->g x σ H' λ σ2 H2=>tb {D with nx:=N,ct:=N,bk:=D.nx} σ2 H2)
abbrev Io (fp:List Addr)(h:Heap):List (Addr×Obj):=fp.filterMap λ b=>(h.get? b).map λ o=>(b,o)
def Fg {fp:List Addr}{h:Heap}{b:Addr}{o:Obj}(hb:b∈fp)(e:h.get? b=some o):(b,o)∈Io fp h:=zax.mpr ⟨b,hb,by rw[e];rfl⟩
def OE {fp:List Addr}{h:Heap}{p:Addr×Obj}(hp:p∈Io fp h):p.1∈fp/\h.get? p.1=some p.2:=by
 obtain⟨b,hb,e⟩:=zax.mp hp;cases q:h.get? b with
 |none=>rw[q] at e;cases e
 |some o =>
  rw[q] at e;have e':(b,o)=p:=zD e;subst e';exact⟨hb,q⟩
def Inv.pinned {pins:List (Addr×Obj)}{σ:St}{H:Hp}{s:Shared}{fp:List Addr}(I:Inv X pins σ H s)(hf:∀b∈fp,LL X pins H b)(ho:∀b∈fp,∃o,s.heap.get? b=some o/\∀v,o.data≠.cell v):Inv X (pins++Io fp s.heap) σ H s:=
 I.J0 λ p hp=>(zy.mp hp).elim (λ z=>I.pin p (zl _ z)) λ z=>by
  obtain⟨hb,e⟩:=OE z;obtain⟨f0,f1,f2,_⟩:=hf p.1 hb;obtain⟨o,e',d⟩:=ho p.1 hb;rw[e] at e';cases e';exact⟨e,f0,f1,f2,d⟩
def Inv.J1 {pins pl:List (Addr×Obj)}{σ:St}{H:Hp}{s:Shared}(I:Inv X (pins++pl) σ H s):Inv X pins σ H s:=I.J0 λ p hp=>I.pin p (zl _ (zM _ hp))
def lS {iter:Expr}{body:List Stmt}{wi:TI}{g:TG}{tb:TS}{pos:Pos}(hp:PassesOwn (model X.prog X.w) X.A X.env X.xe)(hc:X.calm=true)(hi:PI X tg iter wi)(hg:PG X tg g)(hb:UY X body tb)
 (hs:∀x,foldedSetIterable iter X.env x=pure x:=by intro _;rfl):PS X (.For tg iter body [] pos) (vF wi g tb):=by
 intro pins s σ H D I h;refine wpAny_For (Bj (hi pins s σ H _ I h) λ v s1 h1=>Bj h1 λ kg s2 h2=>?_) hs;obtain⟨it,fp,tn,J,H2,e,I2,T,cm,f2,W,⟨m0,w0⟩,turn⟩:=h2;subst e;have bt:∀ {H':Hp},(∀b∈fp,H' b=none)->∀b∈fp,LL X pins H' b:=λ hn b hb=>⟨hn b hb,(f2 b hb).2⟩;refine codeAny_forLoop_any (λ n s'=>∃i σ' H',Inv X pins σ' H' s'/\tn i s'.heap/\(∀b∈fp,H' b=none)/\W i n σ' H') ?_ m0 ⟨0,σ,H2,I2,cm,λ b hb=>(f2 b hb).1,w0⟩;rintro n s3 ⟨i,σ3,H3,I3,ig,ij,w3⟩;rcases turn i n σ3 H3 w3 with ⟨stop,qn⟩|⟨go,N,hN,step⟩
 ·refine wpAny_passesOwn hp (Bj (T.done X rfl rfl rfl hc i pins s3 σ3 H3 X.xe I3 (bt ij) ig stop) λ r s4 zz=>?_);obtain⟨hr,I4⟩:=zz;subst hr;exact wpAny_execs_nil ⟨σ3,H3,I4,qn⟩
 ·refine wpAny_passesOwn hp (Bj (T.item X rfl rfl rfl hc i pins s3 σ3 H3 X.xe I3 (bt ij) ig go) λ r s4 zz=>?_);obtain⟨u,hr,h4⟩:=zz;subst hr;refine wpAny_passesOwn hp (Bj h4 λ _ s5 zz=>?_);obtain⟨x,H5,I5,r5,y5,d4,me⟩:=zz;have mf:=I5.pinned (bt me) (T.obj _ _ d4);refine wpAny_passesOwn hp (Bj (hg _ s5 σ3 H5 x u _ mf r5 (step x H5 y5)) λ _ s6 zz=>?_);obtain⟨σ6,H6,I6,q6⟩:=zz;refine wpAny_passesOwn hp (Bj (hb _ s6 σ6 H6 _ I6 q6) λ f s7 q7=>?_);have again:∀ {σ7:St} {H7:Hp},Inv X (pins++Io fp s5.heap) σ7 H7 s7->N σ7 H7->∃m,m<n/\∃i σ' H',Inv X pins σ' H' s7/\tn i s7.heap/\(∀b∈fp,H' b=none)/\W i m σ' H':=fun {σ7 H7} I7 n7=>by
   obtain⟨m',hm,w7⟩:=hN σ7 H7 n7;refine⟨m',hm,i+1,σ7,H7,I7.J1,T.keep _ _ _ d4 λ b hb o e=>(I7.pin (b,o) (zl _ (zl _ (Fg hb e)))).1,λ b hb=>?_,w7⟩;obtain⟨o,e,d⟩:=T.obj _ _ d4 b hb;exact (I7.pin (b,o) (zl _ (zl _ (Fg hb e)))).2.1
  cases f with
  |next|cont=>obtain⟨σ7,H7,I7,n7⟩:=q7;exact again I7 n7
  |brk=>obtain⟨σ7,H7,I7,q7⟩:=q7;exact⟨σ7,H7,I7.J1,q7⟩
  |ret v=>obtain⟨x7,σ7,H7,I7,r7,q7⟩:=q7;exact⟨x7,σ7,H7,I7.J1,r7,q7⟩
end
noncomputable abbrev R2:=V->V->Hp->VK->Prop
abbrev Gi (X:Cx)(f:Value->Value->Sem Value)(r:R2):Prop:=
 ∀(pins:List (Addr×Obj)) (s:Shared) (σ:St) (H:Hp) (x y:V) (v u:Value) (Q:VK),Inv X pins σ H s->RelV x v->RelV y u->r x y H Q->
  wpAny (model X.prog X.w) X.A (f v u) (EP X pins σ Q) X.xe s
abbrev vG (X:Cx)(f:Value->Sem Value)(r:V->Hp->VK->Prop):Prop:=
 ∀(pins:List (Addr×Obj)) (s:Shared) (σ:St) (H:Hp) (x:V) (v:Value) (Q:VK),Inv X pins σ H s->RelV x v->r x H Q->
  wpAny (model X.prog X.w) X.A (f v) (EP X pins σ Q) X.xe s
abbrev Gj (X:Cx)(f:Value)(r:List V->Hp->VK->Prop):Prop:=
 ∀(pins:List (Addr×Obj)) (s:Shared) (σ:St) (H:Hp) (xs:List V) (us:List Value) (Q:VK),Inv X pins σ H s->Vals xs us->r xs H Q->
  wpAny (model X.prog X.w) X.A (call f us) (EP X pins σ Q) X.xe s
abbrev vH (X:Cx)(r:V->Hp->(Bool->Hp->Prop)->Prop):Prop:=
 ∀(pins:List (Addr×Obj)) (s:Shared) (σ:St) (H:Hp) (x:V) (v:Value) (Q:Bool->Hp->Prop),Inv X pins σ H s->RelV x v->r x H Q->
  wpAny (model X.prog X.w) X.A (truthy v) (TP X pins σ Q) X.xe s
abbrev pO (r:R2)(ta tb:TE):TE:=λ σ H Q=>ta σ H λ x H1=>tb σ H1 λ y H2=>r x y H2 Q
abbrev xP (r:V->Hp->VK->Prop)(ta:TE):TE:=λ σ H Q=>ta σ H λ x H1=>r x H1 Q
abbrev rI (C:Int->Int->Prop)(g:Int->Int->V):R2:=λ x y H Q=>∃i j,x=.int i/\y=.int j/\C i j/\Q (g i j) H
abbrev dE (g:Int->Int->V):R2:=λ x y H Q=>∃i j,x=.int i/\y=.int j/\Q (g i j) H
abbrev rU (g:Int->V):V->Hp->VK->Prop:=λ x H Q=>∃i,x=.int i/\Q (g i) H
section
variable {X:Cx}{a b c:Expr}{ta tb tc:TE}{pos:Pos}
def lT (ha:PE X a ta)(hb:PE X b tb){pins:List (Addr×Obj)}{s:Shared}{σ:St}{H:Hp}{R:V->V->Hp->Prop}(I:Inv X pins σ H s)
 (h:ta σ H λ x H1=>tb σ H1 λ y H2=>R x y H2) {Q:Value->Shared->Prop} {f:Value->Value->Sem Value}
 (hf:∀v u s2 x y H2,Inv X pins σ H2 s2->RelV x v->RelV y u->R x y H2->wpAny (model X.prog X.w) X.A (f v u) Q X.xe s2):
 wpAny (model X.prog X.w) X.A (eval a X.env) (λ v s₁=>wpAny (model X.prog X.w) X.A (eval b X.env) (λ u s₂=>wpAny (model X.prog X.w) X.A (f v u) Q X.xe s₂) X.xe s₁) X.xe s:=by
 refine Bj (ha pins s σ H _ I h) λ v s1 zz=>?_;obtain⟨x,H1,I1,r1,q1⟩:=zz;refine Bj (hb pins s1 σ H1 _ I1 q1) λ u s2 zz=>?_;obtain⟨y,H2,I2,r2,q2⟩:=zz;exact hf v u s2 x y H2 I2 r1 r2 q2
def Y8 {op:Operator}{r:R2}(ho:Gi X (binaryOp op) r)(ha:PE X a ta)(hb:PE X b tb):PE X (.BinOp a op b pos) (pO r ta tb):=by
 intro pins s σ H Q I h;exact wpAny_BinOp (lT ha hb I h λ v u s2 x y H2 I2 rx ry q=>ho pins s2 σ H2 x y v u Q I2 rx ry q)
def qW {op:UnaryOp}{r:V->Hp->VK->Prop}(ho:vG X (unaryOp op) r)(ha:PE X a ta):PE X (.UnaryOp op a pos) (xP r ta):=by
 intro pins s σ H Q I h;exact UnaryOp_ (Bj (ha pins s σ H _ I h) λ v s1 ⟨x,H1,I1,r1,q1⟩=>ho pins s1 σ H1 x v Q I1 r1 q1)
def tX {f:Value->Value->Sem Value}{C:Int->Int->Prop}{g:Int->Int->Int}
 (rule:∀(i j:Int) (t u:Tok) (s:Shared) (Q:Value->Shared->Prop) (E:Value->Shared->Prop),C i j->Q (.int (g i j) s.toks) {s with toks:=s.toks+1}->wpAny (model X.prog X.w) X.A (f (.int i t) (.int j u)) Q E s):
 Gi X f (rI C λ i j=>.int (g i j)):=by
 intro pins s σ H x y v u Q I rx ry h;obtain⟨i,j,rfl,rfl,hc,q⟩:=h;obtain⟨t,rfl⟩:=rx;obtain⟨t',rfl⟩:=ry;exact rule i j t t' s _ _ hc ⟨.int (g i j),H,I.tok _,⟨_,rfl⟩,q⟩
def qX {f:Value->Value->Sem Value}{g:Int->Int->Int}
 (rule:∀(i j:Int) (t u:Tok) (s:Shared) (Q:Value->Shared->Prop) (E:Value->Shared->Prop),Q (.int (g i j) s.toks) {s with toks:=s.toks+1}->wpAny (model X.prog X.w) X.A (f (.int i t) (.int j u)) Q E s):
 Gi X f (dE λ i j=>.int (g i j)):=by
 intro pins s σ H x y v u Q I rx ry h;obtain⟨i,j,rfl,rfl,q⟩:=h;obtain⟨t,rfl⟩:=rx;obtain⟨t',rfl⟩:=ry;exact rule i j t t' s _ _ ⟨.int (g i j),H,I.tok _,⟨_,rfl⟩,q⟩
def lU {f:Value->Value->Sem Value}{g:Int->Int->Bool}
 (rule:∀(i j:Int) (t u:Tok) (s:Shared) (Q:Value->Shared->Prop) (E:Value->Shared->Prop),Q (.bool (g i j)) s->wpAny (model X.prog X.w) X.A (f (.int i t) (.int j u)) Q E s):
 Gi X f (dE λ i j=>.bl (g i j)):=by
 intro pins s σ H x y v u Q I rx ry h;obtain⟨i,j,rfl,rfl,q⟩:=h;obtain⟨t,rfl⟩:=rx;obtain⟨t',rfl⟩:=ry;exact rule i j t t' s _ _ ⟨.bl (g i j),H,I,rfl,q⟩
abbrev Y9 (i j:Int):Prop:=0<j/\j<1073741824
abbrev dZ (i j:Int):Prop:=0<=j/\j<=1000000/\i.natAbs<2^64
abbrev Yb (i j:Int):Prop:=(-(2^64)<i/\i<2^64)\/(-(2^64)<j/\j<2^64)
def Yb.ok {i j:Int}(h:Yb i j):IntMulOk i j:=by
 rcases h with ⟨h1,h2⟩|⟨h1,h2⟩
 ·exact .of_left (intBits_le_64 h1 h2)
 ·exact .of_right (intBits_le_64 h1 h2)
def lV:Gi X (binaryOp .Add) (dE λ i j=>.int (i+j)):=qX λ _ _ _ _ _ _ _ q=>add_int q
def lW:Gi X (binaryOp .Sub) (dE λ i j=>.int (i-j)):=qX λ _ _ _ _ _ _ _ q=>sub_int q
def eA:Gi X (binaryOp .FloorDiv) (rI Y9 λ i j=>.int (i / j)):=tX λ i j _ _ _ _ _ hc q=>by
 have h1:(0:Int)<j:=hc.1;have h2:j<1073741824:=hc.2;exact floordiv_int (by omega) (by rw[Int.fdiv_eq_ediv_of_nonneg i (by omega)];exact q) (.inl (PyProof.noPylong_small (by omega)))
def lX:Gi X (binaryOp .Mod) (rI (λ _ j=>0<j) λ i j=>.int (i%j)):=tX λ i j _ _ _ _ _ hc q=>by
 have h1:(0:Int)<j:=hc;exact mod_int' (by omega) (by rw[Int.fmod_eq_emod_of_nonneg i (by omega)];exact q)
def lY:Gi X (binaryOp .Pow) (rI dZ λ i j=>.int (i^j.toNat)):=tX λ _ _ _ _ _ _ _ hc q=>pow_int_small hc.1 hc.2.1 hc.2.2 q
def xQ {f:Value->Sem Value}{g:Int->Int}
 (rule:∀(i:Int) (t:Tok) (s:Shared) (Q:Value->Shared->Prop) (E:Value->Shared->Prop),Q (.int (g i) s.toks) {s with toks:=s.toks+1}->wpAny (model X.prog X.w) X.A (f (.int i t)) Q E s):
 vG X f (rU λ i=>.int (g i)):=by
 intro pins s σ H x v Q I rx h;obtain⟨i,rfl,q⟩:=h;obtain⟨t,rfl⟩:=rx;exact rule i t s _ _ ⟨.int (g i),H,I.tok _,⟨_,rfl⟩,q⟩
def lZ:vG X (unaryOp .USub) (rU λ i=>.int (-i)):=xQ λ _ _ _ _ _ q=>neg_int q
end
section
variable {X:Cx}{a b c:Expr}{ta tb tc:TE}{pos:Pos}
def jR:Gi X (compareOp .Lt) (dE λ i j=>.bl (decide (i<j))):=lU λ _ _ _ _ _ _ _ q=>lt_int q
def qY:Gi X (compareOp .LtE) (dE λ i j=>.bl (decide (i<=j))):=lU λ _ _ _ _ _ _ _ q=>le_int q
def qZ:Gi X (compareOp .Gt) (dE λ i j=>.bl (decide (j<i))):=lU λ _ _ _ _ _ _ _ q=>gt_int q
def Gi.or {f:Value->Value->Sem Value}{r r':R2}(h:Gi X f r)(h':Gi X f r'):Gi X f (λ x y H Q=>r x y H Q\/r' x y H Q):=by
 intro pins s σ H x y v u Q I rx ry q;rcases q with q|q
 ·exact h pins s σ H x y v u Q I rx ry q
 ·exact h' pins s σ H x y v u Q I rx ry q
def Ip (b:Expr){op:CmpOp}(h:op≠.In:=by decide)(h2:op≠.NotIn:=by decide):behindInMarks op b=false:=by
 have e1:(op==CmpOp.In)=false:=by cases op<;>first|rfl|exact absurd rfl h
 have e2:(op==CmpOp.NotIn)=false:=by cases op<;>first|rfl|exact absurd rfl h2
 cases b<;>simp[behindInMarks,e1,e2]
def eB {op:CmpOp}{r:R2}(ho:Gi X (compareOp op) r)(ha:PE X a ta)(hb:PE X b tb)(hm:behindInMarks op b=false):PE X (.Compare a [op] [b] pos) (pO r ta tb):=by
 intro pins s σ H Q I h;exact wpAny_Compare1 (lT ha hb I h λ v u s2 x y H2 I2 rx ry q=>ho pins s2 σ H2 x y v u Q I2 rx ry q) hm
abbrev rA (t:TE):TT:=λ σ H Q=>t σ H λ x H'=>∃k,x=.bl k/\Q k H'
def eC {op:CmpOp}{r:R2}(ho:Gi X (compareOp op) r)(ha:PE X a ta)(hb:PE X b tb)(hm:behindInMarks op b=false):PT X (.Compare a [op] [b] pos) (rA (pO r ta tb)):=by
 intro pins s σ H Q I h;refine wpAny_isTrue_Compare1 (Bj (ha pins s σ H _ I h) λ v s1 ⟨x,H1,I1,r1,q1⟩=>Bj (hb pins s1 σ H1 _ I1 q1) λ u s2 ⟨y,H2,I2,r2,q2⟩ =>
  Bj (ho pins s2 σ H2 x y v u _ I2 r1 r2 q2) λ c s3 ⟨z,H3,I3,r3,k,e,q3⟩=>?_) hm
 subst e;cases r3;exact wpAny_truthy_bool ⟨H3,I3,q3⟩
abbrev mB (r r':R2)(ta tb tc:TE):TE:=λ σ H Q=>ta σ H λ x H1=>tb σ H1 λ y H2=>r x y H2 λ z H3=>∃k,z=.bl k/\
 (if k=true then tc σ H3 λ w' H4=>r' y w' H4 Q else Q (.bl false) H3)
def Yc {op d5:CmpOp}{r r':R2}(ho:Gi X (compareOp op) r)(bi:Gi X (compareOp d5) r')(ha:PE X a ta)(hb:PE X b tb)(hc:PE X c tc)
 (hm:lastMarks [op,d5] [b,c]=false:=by with_unfolding_all rfl):PE X (.Compare a [op,d5] [b,c] pos) (mB r r' ta tb tc):=by
 intro pins s σ H Q I h;refine Compare_chain (Bj (ha pins s σ H _ I h) λ v s1 ⟨x,H1,I1,r1,q1⟩=>chain_link (Bj (hb pins s1 σ H1 _ I1 q1) λ u s2 ⟨y,H2,I2,r2,q2⟩ =>
  Bj (ho pins s2 σ H2 x y v u _ I2 r1 r2 q2) λ d s3 ⟨z,H3,I3,r3,k,e,q3⟩=>?_)) hm
 subst e;cases r3;refine wpAny_truthy_bool ?_;cases k with
 |false=>exact ite_ff ⟨.bl false,H3,I3,rfl,q3⟩
 |true=>exact ite_tt (chain_last (Bj (hc pins s3 σ H3 _ I3 q3) λ w' s4 ⟨z',H4,I4,r4,q4⟩=>bi pins s4 σ H4 y z' u w' Q I4 r2 r4 q4))
abbrev rB (K:za)(x:V)(H:Hp)(k:Bool):Prop:=
 match x with
 | .AK=>k=false
 | .bl b=>k=b
 | .int i=>k=(i != 0)
 | .str y=>y.length<=sizeLine/\k=((y.length:Int) != 0)
 | .lB y=>y.size<=sizeLine/\k=((y.size:Int) != 0)
 | .ref p=>(∃xs,Di K H p xs/\k = !xs.isEmpty)\/(∃xs,Fe K H p xs/\k = !xs.isEmpty)\/∃kvs,H p=some (.dK kvs)/\k = !kvs.isEmpty
 |_=>False
def TK {κ:Type}{kvs:List (κ×V)}{vs:List (κ×Value)}(r:KV kvs vs):(!vs.isEmpty) = !kvs.isEmpty:=by
 cases r<;>rfl
def Mu {xs:List V}{ac:List Value}(r:Vals xs ac):(!ac.toArray.isEmpty) = !xs.isEmpty:=by
 cases r<;>simp
def Kr:(sizeLine:Nat)<2^63:=by rw[sizeLine_eq];decide
def mC:vH X (λ x H Q=>∃k,rB X.K x H k/\Q k H):=by
 intro pins s σ H x v Q I rx h;obtain⟨k,e,q⟩:=h;have hl:=Kr;have hs:sizeLine=16777216:=sizeLine_eq;cases x with
 |AK =>
  cases rx;have e':k=false:=e;subst e';exact truthy_none ⟨H,I,q⟩
 |bl b =>
  cases rx;have e':k=b:=e;subst e';exact wpAny_truthy_bool ⟨H,I,q⟩
 |int i =>
  obtain⟨t,rfl⟩:=rx;have e':k=(i != 0):=e;subst e';exact PySem.P.truthy_int ⟨H,I,q⟩
 |str y =>
  obtain⟨t,rfl⟩:=rx;obtain⟨hy,e'⟩:y.length<=sizeLine/\k=((y.length:Int) != 0):=e;subst e';exact PySem.P.truthy_str (by omega) ⟨H,I.tok _,q⟩
 |lB y =>
  obtain⟨t,rfl⟩:=rx;obtain⟨hy,e'⟩:y.size<=sizeLine/\k=((y.size:Int) != 0):=e;subst e';exact PySem.W.truthy_bytes (by omega) ⟨H,I.tok _,q⟩
 |ref p =>
  cases rx;have e':(∃xs,Di X.K H p xs/\k = !xs.isEmpty)\/(∃xs,Fe X.K H p xs/\k = !xs.isEmpty)\/∃kvs,H p=some (.dK kvs)/\k = !kvs.isEmpty:=e;rcases e' with ⟨xs,hx,e'⟩|⟨xs,hx,e'⟩|⟨kvs,hx,e'⟩
  ·subst e';obtain⟨ac,r,pl,hz⟩:=I.list hx;have hlen:=r.length;exact wpAny_truthy_list pl.isList (by simp only[zm];omega) ⟨H,I.tok _,by rw[Mu r];exact q⟩
  ·subst e';obtain⟨ac,r,pl,hz⟩:=I.tuple hx;have hlen:=r.length;exact truthy_tuple pl (by simp only[zm];omega) ⟨H,I.tok _,by rw[Mu r];exact q⟩
  ·subst e';obtain⟨hz,hS,vs,r,m⟩:kvs.length<=sizeLine/\(p==sysModules)=false/\∃vs,KV kvs vs/\s.heap.DictOf (B3 X.prog X.w) p vs:=I.Au p _ hx;have hlen:kvs.length=vs.length:=Paired.length r;exact wpAny_truthy_dict hS m (by omega) ⟨H,I.tok _,by rw[TK r];exact q⟩
 |_=>exact (show False from e).elim
def Yd (ha:PE X a ta)(he:∀whole,isTrue a X.env whole=(do let v <-whole;standAt a.pos;holding [v] (truthy v))):
 PT X a (λ σ H Q=>ta σ H λ x H'=>∃k,rB X.K x H' k/\Q k H'):=by
 intro pins s σ H Q I h;exact isTrue_plain (Bj (ha pins s σ H _ I h) λ v s1 ⟨x,H1,I1,r1,q1⟩=>mC pins s1 σ H1 x v Q I1 r1 q1) (he _)
def vals1 {x:V}{us:List Value}(r:Vals [x] us):∃u,us=[u]/\RelV x u:=by
 cases r with
 |cons r1 r2=>cases r2;exact⟨_,rfl,r1⟩
end
structure TM (h:Heap)(x dx C:Addr)(mA:Str->Option Value):Prop where
 obj:h.get? x=some (zak C dx)
 ns:h.Ns1 dx mA
 ne:dx≠x
def Wl {h:Heap}{dx:Addr}{mA:Str->Option Value}(n:h.Ns1 dx mA):∃od,h.get? dx=some od/\∀name,PySem.W.lookIn name od=some (mA name):=by
 obtain⟨o,es,ep,ho,hd,hk,_,hm⟩:=n;refine⟨o,ho,λ name=>?_⟩;have e:=hm name;unfold nsFind findBy at e;rw[<-Array.find?_toList] at e;unfold PySem.W.lookIn;rw[hd];dsimp only;split
 ·rename_i y q;rw[q] at e;exact congrArg some e
 ·rename_i q;rw[q] at e;have a:es.toList.any (·.refKey)=false:=by
   rw[List.any_eq_false];intro y hy;obtain⟨z,t,mh⟩:=hk y (Array.mem_toList_iff.mp hy);simp[DictEntry.refKey,mh]
  have a':¬ es.toList.any (·.refKey)=true:=by rw[a];exact z8
  rw[if_neg a'];exact congrArg some e
def TM.look {h:Heap}{x dx C:Addr}{mA:Str->Option Value}(I:TM h x dx C mA):∃od,PySem.W.InstAt h x (zak C dx) C (some od)/\∀name,PySem.W.lookIn name od=some (mA name):=
 let ⟨od,ho,hl⟩:=Wl I.ns
 ⟨od,⟨I.obj,rfl,rfl,ho⟩,hl⟩
section
variable {prog:Program}{w:World}{A:Around}{E:Value->Shared->Prop}{s:Shared}{K:za}{x dx C f:Addr}{mA:Str->Option Value}{name:Str}{v:Value}
def get_map {expr:Bool}{Q:Value->Shared->Prop}(X:K.In s.heap)(I:TM s.heap x dx C mA)(hg:PySem.W.plainGet K C name=true)(hh:PySem.W.hasDictIn K C=true)
 (ha:zQ K (.ref C) name=some none) (hv:mA name=some v) (uf:PySem.W.handedIn v=true) (h:Q v {s with toks:=s.toks+1}):
 wpAny (model prog w) A (getAttr (.ref x) name expr) Q E s:=by
 obtain⟨od,J,hl⟩:=I.look;exact PySem.W.get_value X J (PySem.W.plainGet_of hg).1 (PySem.W.findObj_own hh ha rfl (by rw[hl,hv])) uf h
def Ye {pl:Sem Bool}{Q:Value×List Value->Shared->Prop}(X:K.In s.heap)(I:TM s.heap x dx C mA)(hg:PySem.W.plainGet K C name=true)
 (hf:zQ K (.ref C) name=some (some (.ref f))) (ht:PySem.W.isFn K (.ref f)=true) (hv:mA name=none) (h:Q (.ref f,[.ref x]) s):
 wpAny (model prog w) A (getMethod (.ref x) name pl) Q E s:=by
 obtain⟨od,J,hl⟩:=I.look;exact PySem.W.method_fn X J (PySem.W.plainGet_of hg).1 (PySem.W.plainGet_of hg).2 hf (beq_iff_eq.mp ht) (by show (PySem.W.lookIn name od).map (·.isSome)=some false;rw[hl,hv];rfl) h
def eE {ns:List Str}{Q:Unit->Shared->Prop}(X:K.In s.heap)(I:TM s.heap x dx C mA)
 (hs:zQ K (.ref C) "__setattr__" = some (some (.builtin "object.__setattr__"))) (hp:PySem.W.plainOver K C=true) (ht:PySem.W.takerIn K C name=some none) (hh:PySem.W.hasDictIn K C=true)
 (hw:PySem.Within mA ns) (hsz:ns.length<=sizeLine)
 (h:∀h',TM h' x dx C (λ y=>if y=name then some v else mA y)->Heap.SameBut dx s.heap h'->Q () {s with heap:=h',toks:=s.toks+2}):
 wpAny (model prog w) A (setAttr (.ref x) name v) Q E s:=by
 obtain⟨od,J,hl⟩:=I.look;refine PySem.W.set_plain X J hs (PySem.W.osa_open (s:={s with toks:=s.toks+1}) (r:=none) X J hp ht λ b=>?_);obtain⟨cd,hc,bj⟩:=PySem.W.any_some hh;have hx:s.heap.get? x=some ⟨.ref C,some dx,.plain,#[]⟩:=I.obj;refine wpAny_bind (wpAny_pure (wpAny_bind (wpAny_bind (wpAny_loadPart hx (wpAny_bind (PySem.W.Looks.here (s:={s with toks:=s.toks+1}) (PySem.W.looks_clsIn X hc) ?_))))));rw[bj];refine wpAny_pure (a:=some dx) (wpAny_bind (wpAny_pure (wpAny_bind ?_)));refine wpAny_nsSet1 (s:={s with toks:=s.toks+1}) I.ns λ h' a9 aO=>?_;obtain⟨oD,yo,yp,ug,uh,ui⟩:=a9.count (PySem.Within.cons name v hw);refine wpAny_bind (wpAny_lookBehind ug (by rw[uh];exact pastItsLine_dict (yJ ui (by rw[zj];omega))) ?_);exact wpAny_pure (h _ ⟨(aO.2 _ (zY I.ne)).trans I.obj,a9,I.ne⟩ aO)
def Yg {R:Result->Shared->Prop}{vs:List Value}{kw:List (Str×Value)}(X:K.In s.heap)(hm:PySem.W.makesIn K C=true)
 (hi:zQ K (.ref C) "__init__" = some (some (.ref f))) (hf:PySem.W.typeIn K (.ref f)=some (.type "function"))
 (h:codeAny (model prog w) (A.under (.builtin "type.__call__" ⟨.ref C::vs,kw⟩)) (.call (.ref f) ⟨.ref (s.heap.objs.size+1)::vs,kw⟩) (PySem.W.InitBack (s.heap.objs.size+1) R)
  {s with heap:=(s.heap.push za3).push (zak C s.heap.objs.size)}):
 codeAny (model prog w) A (.call (.ref C) ⟨vs,kw⟩) R s:=by
 obtain⟨hh,g,d,t,os⟩:=s;exact PySem.W.make_core (PySem.W.makes_of X hm) (PySem.W.looks_findIn X hi) (λ self=>PySem.W.bind_fn X self hf) (.inl rfl) h
end
abbrev E6 (f:Str)(v:V):List (Str×V)->List (Str×V)
 |[]=>[(f,v)]
 |(g,x)::r=>if g=f then (g,v)::r else (g,x)::E6 f v r
def L9 (f g:Str)(v:V):∀fs:List (Str×V),(E6 f v fs).lookup g=if g=f then some v else fs.lookup g
 |[]=>by
  show List.lookup g [(f,v)]=_;by_cases h:g=f
  ·have hb:(g==f)=true:=beq_iff_eq.mpr h;simp only[List.lookup,hb,if_pos h]
  ·have hb:(g==f)=false:=beq_eq_false_iff_ne.mpr h;simp only[List.lookup,hb,if_neg h]
 |(k,x)::r=>by
  have ih:=L9 f g v r;rw[show E6 f v ((k,x)::r)=(if k=f then (k,v)::r else (k,x)::E6 f v r) from rfl];by_cases hk:k=f
  ·rw[if_pos hk];by_cases h:g=k
   ·have hb:(g==k)=true:=beq_iff_eq.mpr h;simp only[List.lookup,hb,if_pos (h.trans hk)]
   ·have hb:(g==k)=false:=beq_eq_false_iff_ne.mpr h;simp only[List.lookup,hb,if_neg (λ e:g=f=>h (e.trans hk.symm))]
  ·rw[if_neg hk];by_cases h:g=k
   ·have hb:(g==k)=true:=beq_iff_eq.mpr h;simp only[List.lookup,hb,if_neg (λ e:g=f=>hk (h.symm.trans e))]
   ·have hb:(g==k)=false:=beq_eq_false_iff_ne.mpr h;simp only[List.lookup,hb];exact ih
def Ks (f:Str)(v:V):∀fs:List (Str×V),f∈(E6 f v fs).map (·.1)/\∀g,g∈fs.map (·.1)->g∈(E6 f v fs).map (·.1)
 |[]=>⟨by simp[E6],λ g h=>by simp at h⟩
 |(k,x)::r=>by
  obtain⟨i1,i2⟩:=Ks f v r;rw[show E6 f v ((k,x)::r)=(if k=f then (k,v)::r else (k,x)::E6 f v r) from rfl];by_cases hk:k=f
  ·rw[if_pos hk];subst hk;exact⟨by simp,λ g h=>by simpa using h⟩
  ·rw[if_neg hk];refine⟨?_,λ g h=>?_⟩
   ·rw[zf];exact ze _ i1
   ·rw[zf] at h ⊢;rcases zp.mp h with e|e
    ·exact zp.mpr (.inl e)
    ·exact ze _ (i2 g e)
def La (f:Str)(v:V):∀fs:List (Str×V),(E6 f v fs).length<=fs.length+1
 |[]=>by simp[E6]
 |(k,x)::r=>by
  have ih:=La f v r;rw[show E6 f v ((k,x)::r)=(if k=f then (k,v)::r else (k,x)::E6 f v r) from rfl];by_cases hk:k=f
  ·rw[if_pos hk,zj,zj];omega
  ·rw[if_neg hk,zj,zj];omega
def G6.some_of {v:V}{o:Option Value}(r:G6 (some v) o):∃u,o=some u/\RelV v u:=by
 cases o with
 |none=>exact (show False from r).elim
 |some u=>exact⟨u,rfl,r⟩
def G6.none_of {o:Option Value}(r:G6 none o):o=none:=by
 cases o with
 |none=>rfl
 |some u=>exact (show False from r).elim
def Wm {v:V}{u:Value}(r:RelV v u):PySem.W.handedIn u=true:=by
 cases v with
 |AK=>cases (show u=Value.none from r);rfl
 |bl b=>cases (show u=Value.bool b from r);rfl
 |int i=>obtain⟨t,e⟩:=(show ∃t,u=Value.int i t from r);cases e;rfl
 |str x=>obtain⟨t,e⟩:=(show ∃t,u=Value.str x t from r);cases e;rfl
 |lB b=>obtain⟨t,e⟩:=(show ∃t,u=Value.bytes b t from r);cases e;rfl
 |qD b=>obtain⟨t,e⟩:=(show ∃t,u=Value.float b t from r);cases e;rfl
 |ref a=>cases (show u=yL a from r);rfl
 |ty n=>cases (show u=Value.type n from r);rfl
section
variable {P:Program}{w:World}{H H':Hp}{h h':Heap}{a C dx:Addr}{fs bL:List (Str×V)}
def Q0 (Au:G7 P w H h)(e:H a=some (.ins C dx fs)):∃mA,TM h a dx C mA/\(∀f,G6 (fs.lookup f) (mA f))/\PySem.Within mA (fs.map (·.1))/\fs.length<=1000/\H dx=some (.own a):=by
 obtain⟨d,z,ne,ob,mA,n,r,q⟩:=(show BS P w H h a (.ins C dx fs) from Au a _ e);exact⟨mA,⟨ob,n,ne⟩,r,q,z,d⟩
end
structure Wn (K:za)(C:Addr):Prop where
 pg:PySem.W.plainGet K C Str.empty=true
 hd:PySem.W.hasDictIn K C=true
 po:PySem.W.plainOver K C=true
 sa:zQ K (.ref C) "__setattr__" = some (some (.builtin "object.__setattr__"))
def Wn.get {K:za}{C:Addr}(c:Wn K C)(f:Str):PySem.W.plainGet K C f=true:=c.pg
abbrev Iq (K:za)(C:Addr)(f:Str):Prop:=zQ K (.ref C) f=some none
def Iq.rC {K:za}{C:Addr}{f:Str}(n:Iq K C f):PySem.W.takerIn K C f=some none:=by
 unfold PySem.W.takerIn;rw[show zQ K (.ref C) f=some none from n];rfl
structure Meth (K:za)(C:Addr)(m:Str)(f:Addr):Prop where
 at_:zQ K (.ref C) m=some (some (.ref f))
 fn:PySem.W.isFn K (.ref f)=true
 kp:zX K (.ref f)=true
section
variable {X:Cx}{pins:List (Addr×Obj)}{σ:St}{H:Hp}{s:Shared}{a C dx:Addr}{fs:List (Str×V)}{f:Str}{v:V}{A:Around}{E:Value->Shared->Prop}
def TN {b:Bool}{Q:Value->Shared->Prop}(I:Inv X pins σ H s)(e:H a=some (.ins C dx fs))(c:Wn X.K C)(n:Iq X.K C f)(l:fs.lookup f=some v)
 (h:∀u s',Inv X pins σ H s'->RelV v u->Q u s'):wpAny (model X.prog X.w) A (getAttr (.ref a) f b) Q E s:=by
 obtain⟨mA,O,r,_,_,_⟩:=Q0 I.Au e;obtain⟨u,hu,ru⟩:=G6.some_of (v:=v) (o:=mA f) (by rw[<-l];exact r f);exact get_map I.Mt O (c.get f) c.hd n hu (Wm ru) (h u _ (I.tok _) ru)
def Mv {m:Str}{g:Addr}{pl:Sem Bool}{Q:Value×List Value->Shared->Prop}(I:Inv X pins σ H s)(e:H a=some (.ins C dx fs))(c:Wn X.K C)(k:Meth X.K C m g)(l:fs.lookup m=none)
 (h:Q (.ref g,[.ref a]) s):wpAny (model X.prog X.w) A (getMethod (.ref a) m pl) Q E s:=by
 obtain⟨mA,O,r,_,_,_⟩:=Q0 I.Au e;have hn:mA m=none:=G6.none_of (by rw[<-l];exact r m);exact Ye I.Mt O (c.get m) k.at_ k.fn hn h
def TQ {y:V}{u:Value}{Q:Unit->Shared->Prop}(I:Inv X pins σ H s)(e:H a=some (.ins C dx fs))(c:Wn X.K C)(n:Iq X.K C f)(hl:fs.length<1000)(ry:RelV y u)
 (h:∀s',Inv X pins σ (upd H a (.ins C dx (E6 f y fs))) s'->Q () s'):wpAny (model X.prog X.w) A (setAttr (.ref a) f u) Q E s:=by
 obtain⟨mA,O,r,wi,_,ho⟩:=Q0 I.Au e;have hz:(fs.map (·.1)).length<=sizeLine:=by rw[zc,sizeLine_eq];omega
 refine eE I.Mt O c.sa c.po n.rC c.hd wi hz λ h' O' sb=>h _ ?_;have hd:∃o,h'.get? dx=some o:=let ⟨o,_,_,e',_⟩:=O'.ns;⟨o,e'⟩;refine I.write (x:=a) (e:=dx) (by rw[e];exact zav) (.inr ho) (λ b q hb z=>(sb.2 b hb).trans z) hd ?_;refine⟨by rw[Aj O.ne];exact ho,?_,O.ne,O'.obj,_,O'.ns,λ g=>?_,λ g hg=>?_⟩
 ·have:=La f y fs;omega
 ·show G6 ((E6 f y fs).lookup g) (if g=f then some u else mA g);rw[L9];by_cases q:g=f
  ·rw[if_pos q,if_pos q];exact ry
  ·rw[if_neg q,if_neg q];exact r g
 ·by_cases q:g=f
  ·rw[q];exact (Ks f y fs).1
  ·refine (Ks f y fs).2 g (wi g λ z=>hg ?_);show (if g=f then some u else mA g)=none;rw[if_neg q];exact z
def Inv.made (I:Inv X pins σ H s):Inv X pins σ (upd (upd H s.heap.objs.size (.own (s.heap.objs.size+1))) (s.heap.objs.size+1) (.ins C s.heap.objs.size []))
 {s with heap:=(s.heap.push za3).push (zak C s.heap.objs.size)}:=by
 have e1:(s.heap.push za3).get? s.heap.objs.size=some za3:=zE s.heap rfl;have e2:((s.heap.push za3).push (zak C s.heap.objs.size)).get? (s.heap.objs.size+1)=some (zak C s.heap.objs.size):=by
  have:=zE (s.heap.push za3) (o:=zak C s.heap.objs.size) rfl;rwa[Heap.size_push] at this
 have e3:(s.heap.push za3).Ns s.heap.objs.size (λ _=>none):=⟨za3,#[],_,e1,rfl,(λ e he=>absurd he (by simp)),λ _=>rfl⟩;have I1:=I.laid (a:=s.heap.objs.size) (o:=.own (s.heap.objs.size+1)) (h':=s.heap.push za3) (t':=s.toks) (λ b u q=>zo _ q) (zu _) ⟨_,e1⟩;refine I1.laid (a:=s.heap.objs.size+1) (o:=.ins C s.heap.objs.size []) (t':=s.toks) (λ b u q=>zo _ q) (Nat.le_of_eq (Heap.size_push _ _)) ?_;have ne:s.heap.objs.size≠s.heap.objs.size+1:=z6 (Nat.lt_succ_self _);refine⟨by rw[Aj ne,Aq],zR _,ne,e2,λ _=>none,(Heap.Ns1.of_empty e3).at λ o q=>zo _ q,λ _=>zav,λ y hy=>absurd rfl hy⟩
def eF {prog:Program}{w:World}{env:Env}{e:Expr}{f:Str}{pos:Pos}{s:Shared}{Q:Value->Shared->Prop}(hb:attributeBase e f env (eval e env)=eval e env)
 (h:wpAny (model prog w) A (eval e env) (λ o s₁=>wpAny (model prog w) A (getAttr o f true) Q E s₁) E s):wpAny (model prog w) A (eval (.Attribute e f pos) env) Q E s:=
 Attribute_any_ h (by rw[arm_eval_Attribute,hb])
end
abbrev vI (K:za)(ta:TE)(f:Str):TE:=λ σ H Q=>ta σ H λ x H1=>∃a C dx fs v,x=.ref a/\H1 a=some (.ins C dx fs)/\Wn K C/\Iq K C f/\fs.lookup f=some v/\Q v H1
abbrev vJ (K:za)(ta tv:TE)(f:Str):TS:=λ D σ H=>tv σ H λ y H1=>ta σ H1 λ x H2=>∃a C dx fs,x=.ref a/\H2 a=some (.ins C dx fs)/\Wn K C/\Iq K C f/\fs.length<1000/\
 D.nx σ (upd H2 a (.ins C dx (E6 f y fs)))
section
variable {X:Cx}{o e value:Expr}{f:Str}{pos pos' bu:Pos}{ta tv:TE}
def mD (he:PE X e ta)(hb:attributeBase e f X.env (eval e X.env)=eval e X.env):PE X (.Attribute e f pos) (vI X.K ta f):=by
 intro pins s σ H Q I h;refine eF hb (Bj (he pins s σ H _ I h) λ u s1 zz=>?_);obtain⟨x,H1,I1,rx,a,C,dx,fs,v,ex,ea,c,n,l,q⟩:=zz;subst ex;obtain rfl:u=yL a:=rx;exact TN I1 ea c n l λ u' s2 I2 ru=>⟨v,H1,I2,ru,q⟩
def mE (ha:PE X o ta)(hv:PE X value tv)(hs:swapsWith value (some (.Attribute o f pos')) pos.line X.env=pure false):PS X (.Assign [.Attribute o f pos'] value pos) (vJ X.K ta tv f):=by
 intro pins s σ H D I h;refine plainObj_wpAny_Assign_Attribute (Bj (hv pins s σ H _ I h) λ u s1 ⟨y,H1,I1,ry,q⟩=>Bj (ha pins s1 σ H1 _ I1 q) λ ov s2 zz=>?_) hs;obtain⟨x,H2,I2,rx,a,C,dx,fs,ex,ea,c,n,l,q2⟩:=zz;subst ex;obtain rfl:ov=yL a:=rx;exact TQ I2 ea c n l ry λ s3 I3=>⟨σ,_,I3,q2⟩
end
structure BE (k:Nat)(A:Around):Prop where
 hd:A.handled=none
 dp:A.depth+3*k+5<recursionLimit
 un:A.units+16*k+200<cLine
def BE.mono {j k:Nat}{A:Around}(r:BE k A)(h:j<=k):BE j A:=⟨r.hd,by have:=r.dp;omega,by have:=r.un;omega⟩
def BE.deeper {k:Nat}{A:Around}(r:BE (k+1) A)(env:Env):BE k (A.deeper env):=
 ⟨r.hd,by have:=r.dp;show A.depth+1+3*k+5<_;omega,by have:=r.un;show A.units+3+16*k+200<_;omega⟩
def TR {A:Around}{C:Addr}{us:List Value}{kw:List (Str×Value)}:(A.under (.builtin "type.__call__" ⟨.ref C::us,kw⟩)).depth=A.depth+1:=by
 first|rfl|simp[Around.under,Code.weight,Code.isCreation,Code.isGuard,Code.isCaller,Code.frames,Code.isFrame,guardIds]
def TU {A:Around}{C:Addr}{us:List Value}{kw:List (Str×Value)}:(A.under (.builtin "type.__call__" ⟨.ref C::us,kw⟩)).units=A.units+1:=by
 first|rfl|simp[Around.under,Code.cUnits,Code.frames,Code.isFrame]
def BE.make {k:Nat}{A:Around}(r:BE (k+1) A)(C:Addr)(us:List Value)(kw:List (Str×Value)):BE k (A.under (.builtin "type.__call__" ⟨.ref C::us,kw⟩)):=
 ⟨r.hd,by have:=r.dp;rw[TR];omega,by have:=r.un;rw[TU];omega⟩
def BE.depth {k:Nat}{A:Around}(r:BE k A):A.depth<recursionLimit:=by have:=r.dp;omega
def BE.units {k:Nat}{A:Around}(r:BE k A):A.units+64<cLine:=by have:=r.un;omega
abbrev mF:TA:=λ _ H Q=>Q [] H
abbrev jS (ta:TE)(tr:TA):TA:=λ σ H Q=>ta σ H λ x H1=>tr σ H1 λ xs H2=>Q (x::xs) H2
section
variable {X:Cx}{e:Expr}{es:List Expr}{te:TE}{t:TA}{pos:Pos}
def Cn:PA X [] mF:=λ _ _ _ _ H Q I h=>zao ⟨[],H,I,.nil,h⟩
def Bp (ha:PE X e te)(hr:PA X es t)(hs: ~~~(starEach (e::es) X.env=(false,eval e X.env)::starEach es X.env)):PA X (e::es) (jS te t):=by
 intro pos pins s σ H Q I h;rw[hs];show wpAny _ _ (spliced ((false,eval e X.env)::backTo pos (starEach es X.env))) _ _ s;refine zag (Bj (ha pins s σ H _ I h) λ u s1 zz=>?_);obtain⟨x,H1,I1,r1,q1⟩:=zz;exact Bj (hr pos pins s1 σ H1 _ I1 q1) λ us s2 ⟨xs,H2,I2,r2,q2⟩=>⟨x::xs,H2,I2,.cons r1 r2,q2⟩
abbrev vK (t:TA):TE:=λ σ H Q=>t σ H λ xs H1=>xs.length<=sizeLine/\∀p,H1 p=none->Q (.ref p) (upd H1 p (.tup xs))
abbrev vL (t:TA):TE:=λ σ H Q=>t σ H λ xs H1=>xs.length<=sizeLine/\∀p,H1 p=none->Q (.ref p) (upd H1 p (.lst xs))
def Yh {x1}(h:PA X es t):PE X (.Tuple es x1 pos) (vK t):=by
 intro pins s σ H Q I hq;refine wpAny_Tuple_spliced (Bj (h pos pins s σ H _ I hq) λ us s1 ⟨xs,H1,I1,r,z,q⟩=>⟨by rw[<-r.length];exact z,?_⟩);have hf:H1 s1.heap.objs.size=none:=I1.Au.fresh (zu _);refine⟨.ref s1.heap.objs.size,upd H1 s1.heap.objs.size (.tup xs),I1.laid (t':=s1.toks) (λ b u e=>zo _ e) (zu _) ?_,rfl,q _ hf⟩;exact⟨z,us,r,⟨_,zE _ rfl,rfl,_,rfl⟩⟩
def Q1 (h:PA X es t):PE X (.List es pos) (vL t):=by
 intro pins s σ H Q I hq;refine wpAny_List_spliced (Bj (h pos pins s σ H _ I hq) λ us s1 ⟨xs,H1,I1,r,z,q⟩=>⟨by rw[<-r.length];exact z,?_⟩);have hf:H1 s1.heap.objs.size=none:=I1.Au.fresh (zu _);refine⟨.ref s1.heap.objs.size,upd H1 s1.heap.objs.size (.lst xs),I1.laid (t':=s1.toks) (λ b u e=>zo _ e) (zu _) ?_,rfl,q _ hf⟩;exact⟨z,us,0,r,zE _ rfl⟩
end
noncomputable abbrev Sp:=List V->Hp->VK->XK->Prop
noncomputable abbrev V0:=List Env->Hp->Shared->XK->Value->Shared->Prop
structure TV (P:Program)(w:World)(K:za)(mg:Str->Option Value)(base:Heap)(A:Around)(outer:List Env)(s:Shared)(H:Hp):Prop where
 frames:A.frames=some outer
 mod:Mod K mg base
 bs:∀b o,base.get? b=some o->s.heap.get? b=some o/\H b=none
 dQ:base.objs.size<=s.heap.objs.size
 Kq:s.heap.FunFrames base outer
 lE:∀b∈XJ outer,H b=none
 Au:G7 P w H s.heap
 bare:AllBare s.gens
abbrev CE (outer:List Env)(P:Program)(w:World)(H:Hp)(s:Shared)(Q:VK)(u:Value)(s':Shared):Prop:=
 ∃v H',s'.os=s.os/\AllBare s'.gens/\Un (XJ outer) [] H H' s.heap s'.heap/\G7 P w H' s'.heap/\RelV v u/\Q v H'
abbrev CR (CX:V0)(outer:List Env)(P:Program)(w:World)(H:Hp)(s:Shared)(Q:VK)(E:XK)(r:Result)(s':Shared):Prop:=
 match r with
 | .ok (.ret u)=>CE outer P w H s Q u s'
 | .ok _=>False
 | .error e=>CX outer H s E e s'
structure Dn (P:Program)(w:World)(K:za)(mg:Str->Option Value)(base:Heap)(CX:V0)(k:Nat)(f:Addr)(fd:FuncData)(ps:List Str)(sp:Sp):Prop where
 len:∀vs H Q E,sp vs H Q E->vs.length=ps.length
 run:∀(A:Around) (outer:List Env) (s:Shared) (H:Hp) (args:Args) (us:List Value) (vs:List V) (Q:VK) (E:XK),BE k A->TV P w K mg base A outer s H->BindsTo s fd args (ps.zip us)->Vals vs us->sp vs H Q E->
  codeAny (model P w) A (.call (.ref f) args) (CR CX outer P w H s Q E) s
def TV.make {P:Program}{w:World}{K:za}{mg:Str->Option Value}{base:Heap}{A:Around}{outer:List Env}{s:Shared}{H:Hp}(e:TV P w K mg base A outer s H)(C:Addr)(us:List Value)(kw:List (Str×Value)):
 TV P w K mg base (A.under (.builtin "type.__call__" ⟨.ref C::us,kw⟩)) outer s H:=⟨by first|exact e.frames|(simpa [Around.under,Code.envs,Code.isFrame,pushEnvs] using e.frames),e.mod,e.bs,e.dQ,e.Kq,e.lE,e.Au,e.bare⟩
section
variable {X:Cx}{pins:List (Addr×Obj)}{σ:St}{H:Hp}{s s':Shared}
def Inv.rD (I:Inv X pins σ H s):TV X.prog X.w X.K X.mg X.base X.A X.stack s H:=
 ⟨I.ok.frames,I.ok.mod,I.bs,yJ I.ok.dQ I.sz,I.stack,I.UX,I.Au,I.bare⟩
def Inv.after {Q:VK}{u:Value}(I:Inv X pins σ H s)(h:CE X.stack X.prog X.w H s Q u s'):EP X pins σ Q u s':=by
 obtain⟨v,H',os,bare,un,Au,r,q⟩:=h;obtain⟨hh,g,d,t,uj⟩:=s';obtain rfl:uj=s.os:=os;exact⟨v,H',I.call (h':=hh) (g':=g) (d':=d) (t':=t) (ch:=[]) un Au bare (λ b z=>absurd z (by simp)),r,q⟩
end
abbrev rE (sp:Sp)(bv:List V)(E:XK)(t:TA):TE:=λ σ H Q=>t σ H λ vs H1=>sp (vs++bv) H1 Q E
abbrev rF (C:Addr)(sp:Sp)(bv:List V)(E:XK)(t:TA):TE:=λ σ H Q=>t σ H λ vs H1=>∀x dx,H1 x=none->H1 dx=none->dx≠x->
 sp (.ref x::(vs++bv)) (upd (upd H1 dx (.own x)) x (.ins C dx [])) (λ v H2=>v=.AK/\Q (.ref x) H2) E
abbrev Binds (K:za)(fd:FuncData)(ps:List Str)(ds:List Value):Prop:=
 ∀(s:Shared) (us:List Value),K.In s.heap->(us++ds).length=ps.length->BindsTo s fd ⟨us,[]⟩ (ps.zip (us++ds))
def Binds.all {K:za}{fd:FuncData}{ps:List Str}(h:∀us:List Value,us.length=ps.length->bindArgs fd ⟨us,[]⟩=pure (ps.zip us)):Binds K fd ps []:=λ s us _ hl=>by
 rw[zI] at hl ⊢;exact .of_eq (h us hl)
abbrev Gk (CX:V0)(X:Cx)(E:XK):Prop:=∀(pins:List (Addr×Obj)) (σ:St) (H:Hp) (s:Shared) (e:Value) (s':Shared),Inv X pins σ H s->CX X.stack H s E e s'->X.xe e s'
section
variable {X:Cx}{CX:V0}{k:Nat}{f C:Addr}{fd:FuncData}{ps:List Str}{sp:Sp}{bv:List V}{ds:List Value}{E:XK}{x m:Str}{p pos apos:Pos}{e o:Expr}{es:List Expr}{ta:TE}{t:TA}
def Q2 {pins:List (Addr×Obj)}{σ:St}{H:Hp}{s:Shared}{Q:VK}{us:List Value}{vs:List V}(F:Dn X.prog X.w X.K X.mg X.base CX k f fd ps sp)(hr:BE k X.A)(hb:Binds X.K fd ps ds)(hd:Vals bv ds)(hx:Gk CX X E)
 (I:Inv X pins σ H s) (r:Vals vs us) (h:sp (vs++bv) H Q E):wpAny (model X.prog X.w) X.A (call (.ref f) us) (EP X pins σ Q) X.xe s:=by
 have r2:Vals (vs++bv) (us++ds):=r.append hd;have hl:(us++ds).length=ps.length:=by rw[<-r2.length];exact F.len _ _ _ _ h
 refine wpAny_call (codeAny_mono (F.run X.A X.stack s H ⟨us,[]⟩ (us++ds) (vs++bv) Q E hr I.rD (hb s us I.Mt hl) r2 h) λ r s' hq=>?_);cases r with
 |error e=>exact hx pins σ H s e s' I hq
 |ok fl =>
  cases fl with
  |ret u=>exact I.after hq
  |next|brk|cont=>exact zan hq
def V3 (F:Dn X.prog X.w X.K X.mg X.base CX k f fd ps sp)(hr:BE k X.A)(hg:Gl X x)(hm:X.mg x=some (.ref f))(hk:zX X.K (.ref f)=true)(hb:Binds X.K fd ps ds)(hd:Vals bv ds)(hx:Gk CX X E)(ha:PA X (e::es) t)(aP:(x==("__debug__" : Str))=false:=by decide)(he: ~~~(starEach (e::es) X.env=(false,eval e X.env)::starEach es X.env))(ao: ~~~((backTo pos (starEach es X.env)).any (·.1)=false)):
 PE X (.Call (.Name x p) (e::es) [] pos) (rE sp bv E t):=by
 intro pins s σ H Q I h;refine wpAny_Call_Name_kw (PY I hg hm ?_ aP);refine PySem.W.callWith_K (h₀:=X.base) I.ok.mod.XI hk (Bj (ha pos pins s σ H _ I h) λ us s1 ⟨vs,H1,I1,r,q⟩=>⟨I1.Mt,?_⟩) he ao;exact Q2 F hr hb hd hx I1 r q
structure Mk (K:za)(C f:Addr):Prop where
 makes:PySem.W.makesIn K C=true
 init:zQ K (.ref C) "__init__" = some (some (.ref f))
 fn:PySem.W.isFn K (.ref f)=true
 kp:zX K (.ref C)=true
def Yi {pins:List (Addr×Obj)}{σ:St}{H:Hp}{s:Shared}{Q:VK}{us:List Value}{vs:List V}(M:Mk X.K C f)(F:Dn X.prog X.w X.K X.mg X.base CX k f fd ps sp)(hr:BE (k+1) X.A)(hb:Binds X.K fd ps ds)(hd:Vals bv ds)
 (hx:Gk CX X E) (I:Inv X pins σ H s) (r:Vals vs us)
 (h:∀x dx,H x=none->H dx=none->dx≠x->sp (.ref x::(vs++bv)) (upd (upd H dx (.own x)) x (.ins C dx [])) (λ v H2=>v=.AK/\Q (.ref x) H2) E):
 wpAny (model X.prog X.w) X.A (call (.ref C) us) (EP X pins σ Q) X.xe s:=by
 have hq:=h (s.heap.objs.size+1) s.heap.objs.size (I.Au.fresh (Nat.le_succ _)) (I.Au.fresh (zu _)) (z6 (Nat.lt_succ_self _));have I2:=Inv.made (C:=C) I;have r2:Vals (V.ref (s.heap.objs.size+1)::(vs++bv)) (yL (s.heap.objs.size+1)::(us++ds)):=.cons rfl (r.append hd);have hl:(yL (s.heap.objs.size+1)::us++ds).length=ps.length:=by
  have e:=r2.length;rw[F.len _ _ _ _ hq] at e;exact e.symm
 refine wpAny_call (Yg (f:=f) I.Mt M.makes M.init (beq_iff_eq.mp M.fn) (codeAny_mono (F.run _ X.stack _ _ ⟨yL (s.heap.objs.size+1)::us,[]⟩ (yL (s.heap.objs.size+1)::(us++ds)) _ _ E (hr.make C us [])
  (I2.rD.make C us []) (hb _ (yL (s.heap.objs.size+1)::us) I2.Mt hl) r2 hq) λ r s' d6=>?_))
 cases r with
 |error e=>exact hx pins σ _ _ e s' I2 d6
 |ok fl =>
  cases fl with
  |ret u =>
   obtain⟨v,H',I3,rv,ev,q3⟩:=I2.after d6;subst ev;exact⟨rv,⟨V.ref (s.heap.objs.size+1),H',I3,rfl,q3⟩⟩
  |next|brk|cont=>exact zan d6
def V4 (M:Mk X.K C f)(F:Dn X.prog X.w X.K X.mg X.base CX k f fd ps sp)(hr:BE (k+1) X.A)(hg:Gl X x)(hm:X.mg x=some (.ref C))(hb:Binds X.K fd ps ds)(hd:Vals bv ds)(hx:Gk CX X E)(ha:PA X (e::es) t)(aP:(x==("__debug__" : Str))=false:=by decide)(he: ~~~(starEach (e::es) X.env=(false,eval e X.env)::starEach es X.env))(ao: ~~~((backTo pos (starEach es X.env)).any (·.1)=false)):
 PE X (.Call (.Name x p) (e::es) [] pos) (rF C sp bv E t):=by
 intro pins s σ H Q I h;refine wpAny_Call_Name_kw (PY I hg hm ?_ aP);refine PySem.W.callWith_K (h₀:=X.base) I.ok.mod.XI M.kp (Bj (ha pos pins s σ H _ I h) λ us s1 ⟨vs,H1,I1,r,q⟩=>⟨I1.Mt,?_⟩) he ao;exact Yi M F hr hb hd hx I1 r q
end
abbrev PK (X:Cx)(ik:List Keyword)(t:TA):Prop:=
 ∀(pos:Pos) (pins:List (Addr×Obj)) (s:Shared) (σ:St) (H:Hp) (Q:List V->Hp->Prop),Inv X pins σ H s->t σ H Q->wpAny (model X.prog X.w) X.A (evalAll ((backToKw pos (keywordEach ik X.env)).map (·.2))) (AP X pins σ Q) X.xe s
section
variable {X:Cx}{CX:V0}{k:Nat}{f C:Addr}{fd:FuncData}{ps ks:List Str}{sp:Sp}{E:XK}{x m:Str}{p pos apos mi:Pos}{e o:Expr}{es:List Expr}{ik:List Keyword}{te ta:TE}{t tk:TA}{nm:Option Str}
def mG:PK X [] mF:=λ _ _ _ _ H Q I h=>wpAny_evalAll_nil ⟨[],H,I,.nil,h⟩
def eG (ha:PE X e te)(hr:PK X ik t):PK X (⟨nm,e,mi⟩::ik) (jS te t):=by
 intro pos pins s σ H Q I h;show wpAny _ _ (evalAll ((do let v <-eval e X.env;standAt pos;pure v)::(backToKw pos (keywordEach ik X.env)).map (·.2))) _ _ s;refine wpAny_evalAll_cons (wpAny_bind (Bj (ha pins s σ H _ I h) λ u s1 ⟨x,H1,I1,r1,q1⟩=>wpAny_bind (wpAny_standAt (wpAny_pure ?_))));exact Bj (hr pos pins s1 σ H1 _ I1 q1) λ us s2 ⟨xs,H2,I2,r2,q2⟩=>⟨x::xs,H2,I2,.cons r1 r2,q2⟩
variable {g:List Value->List Value->List Value}{gV:List V->List V->List V}
end
structure Ac (N P:List Str)(sc:Scope):Prop where
 kind:sc.kind=.function
 co:sc.isCoroutine=false
 gen:sc.isGenerator=false
 nd:N.Nodup
 pre:N.take P.length=P
 wL:∀x∈P,sc.names.lookup x=some .local\/sc.names.lookup x=some .cell
 mH:∀y∈sc.names,y.2≠.free
def OF {kindOf:Str->Option NameKind}{x:Str}:∀ {binds:List (Str×Value)}{m:Str->Option Value},(∀v,(x,v)∉binds)->bindL kindOf binds m x=m x
 |[],_,_=>rfl
 |(n,v)::r,m,h=>by
  unfold bindL;rw[OF λ w hw=>h w (ze _ hw)];split
  ·have:x≠n:=by rintro rfl;exact h v zd
   simp[this]
  ·rfl
def OG {kindOf:Str->Option NameKind}{x:Str}:∀ {binds:List (Str×Value)}{m:Str->Option Value},(∀v,(x,v)∉binds)->bindC kindOf binds m x=m x
 |[],_,_=>rfl
 |(n,v)::r,m,h=>by
  unfold bindC;rw[OG λ w hw=>h w (ze _ hw)];split
  ·rfl
  ·have:x≠n:=by rintro rfl;exact h v zd
   simp[this]
def OH {kindOf:Str->Option NameKind}{x:Str}{v:Value}:∀ {P:List Str}{vs:List Value}{i:Nat}{m:Str->Option Value},P.Nodup->P[i]?=some x->vs[i]?=some v->kindOf x=some .local->
 bindL kindOf (P.zip vs) m x=some v
 |[],_,_,_,_,h,_,_|_::_,[],_,_,_,_,h,_=>by simp at h
 |p::P,w::vs,0,m,nd,h1,h2,hk=>by
  simp at h1 h2;subst h1;subst h2;show bindL kindOf ((p,w)::P.zip vs) m p=_;unfold bindL;rw[OF λ v hv=>(zW.mp nd).1 (List.of_mem_zip hv).1,if_pos hk];simp
 |p::P,w::vs,i+1,m,nd,h1,h2,hk=>by
  show bindL kindOf ((p,w)::P.zip vs) m x=_;unfold bindL;exact OH (i:=i) (zW.mp nd).2 (by simpa using h1) (by simpa using h2) hk
def OI {kindOf:Str->Option NameKind}{x:Str}{v:Value}:∀ {P:List Str}{vs:List Value}{i:Nat}{m:Str->Option Value},P.Nodup->P[i]?=some x->vs[i]?=some v->kindOf x≠some .local->
 bindC kindOf (P.zip vs) m x=some v
 |[],_,_,_,_,h,_,_|_::_,[],_,_,_,_,h,_=>by simp at h
 |p::P,w::vs,0,m,nd,h1,h2,hk=>by
  simp at h1 h2;subst h1;subst h2;show bindC kindOf ((p,w)::P.zip vs) m p=_;unfold bindC;rw[OG λ v hv=>(zW.mp nd).1 (List.of_mem_zip hv).1,if_neg hk];simp
 |p::P,w::vs,i+1,m,nd,h1,h2,hk=>by
  show bindC kindOf ((p,w)::P.zip vs) m x=_;unfold bindC;exact OI (i:=i) (zW.mp nd).2 (by simpa using h1) (by simpa using h2) hk
abbrev start (N:List Str)(vs:List V):St:=vs.map some++zr (N.length-vs.length) none
abbrev RC (CX:V0)(P:Program)(w:World)(K:za)(mg:Str->Option Value)(base:Heap)(N:List Str)(qual:Str)(scope:Scope)(f:Addr)(cd:Value)(A:Around)(outer:List Env)(s:Shared)(H:Hp)(E:XK):Cx where
 prog:=P
 w:=w
 K:=K
 mg:=mg
 base:=base
 A:=A.deeper (envOfC qual scope s.heap.objs.size f cd)
 N:=N
 s₀:=s
 H₀:=H
 env:=envOfC qual scope s.heap.objs.size f cd
 outer:=outer
 stack:=envOfC qual scope s.heap.objs.size f cd::outer
 ex:=[]
 calm:=true
 fn:=λ _=>true
 pn:=[]
 xe:=λ e s'=>wpAny (model P w) (A.deeper (envOfC qual scope s.heap.objs.size f cd)) (leaving (envOfC qual scope s.heap.objs.size f cd) e) (λ _ il=>CX outer H s E e il) (λ e' il=>CX outer H s E e' il) s'
def RD {sc:Scope}{n:Nat}{x:Str}(h:sc.names.lookup x=some .cell):∃c,(cellsFrom n sc.names []).lookup x=some c:=by
 have q:=PySem.W.cellsFrom_some sc.names n [] (.inl h);exact zam.mp q
def Wo {CX:V0}{P:Program}{w:World}{K:za}{mg:Str->Option Value}{base:Heap}{N ps:List Str}{qual:Str}{scope:Scope}{f:Addr}{cd:Value}{A:Around}{outer:List Env}{s s1:Shared}{H:Hp}{E:XK}{us:List Value}{vs:List V}
 (S:Ac N ps scope) (hd:A.handled=none) (e0:TV P w K mg base A outer s H) (hl:vs.length=ps.length) (r:Vals vs us)
 (x:InCallC s s.heap.objs.size (bindL (envOfC qual scope s.heap.objs.size f cd).kindOf (ps.zip us) λ _=>none) (cellsFrom (s.heap.objs.size+1) scope.names []) (bindC (envOfC qual scope s.heap.objs.size f cd).kindOf (ps.zip us) λ _=>none) s1):
 Inv (RC CX P w K mg base N qual scope f cd A outer s H E) [] (start N vs) H s1:=by
 have ao:ps.length<=N.length:=by have:=congrArg List.length S.pre;rw[yM] at this;omega
 obtain⟨h1,tk,rfl,hk⟩:=x.done;have im:∀b:Addr,b∉(RC CX P w K mg base N qual scope f cd A outer s H E).ex:=λ b z=>absurd (show b∈([]:List Addr) from z) (by simp);refine⟨⟨e0.mod,S.kind,rfl,rfl,zu _,λ y z c h1 h2=>?_,λ y hy=>?_,λ y c _ h=>?_,λ _=>hd,Around.frames_deeper e0.frames,.inr ⟨rfl,rfl⟩,λ b z=>absurd z (im b),e0.bs,e0.dQ,λ b _ _=>im b,λ b z=>absurd z (im b),e0.Kq,e0.lE⟩,
  rfl,e0.bare,Un.kept hk,⟨_,x.toInCall.ns,λ i y v h1 h2 h3=>?_⟩,λ y c h=>⟨_,x.cell y c h⟩,e0.Au.fresh (zu _),λ y c h=>?_,λ p hp=>absurd (show p∈([]:List (Addr×Obj)) from hp) (by simp),e0.Au.kept hk,?_⟩
 ·exact name_of_addr x.apart (zb8 h1) (zb8 h2)
 ·have hy:scope.names.lookup y=some .cell\/scope.names.lookup y=some .free:=hy;rcases hy with hy|hy
  ·exact RD hy
  ·exact absurd rfl (S.mH _ (zb8 hy))
 ·exact yQ (x.above y c (zb8 h))
 ·have hi:i<vs.length:=by
   unfold start at h2;by_cases hi:i<vs.length
   ·exact hi
   ·rw[yX (by simpa using hi)] at h2;rw[zaa] at h2;split at h2<;>cases h2
  have ha:vs[i]?=some v:=by
   unfold start at h2;rw[yU (by simpa using hi),z7] at h2;cases e:vs[i]? with
   |none=>rw[e] at h2;cases h2
   |some a=>rw[e] at h2;cases h2;rfl
  obtain⟨u,hu,rv⟩:=r.get ha;have hp:ps[i]?=some y:=by
   rw[<-S.pre,List.getElem?_take_of_lt (by omega)];exact h1
  have q0:ps.Nodup:=by rw[<-S.pre];exact S.nd.sublist (List.take_sublist _ _)
  refine⟨u,rv,?_⟩;rcases S.wL y (zv hp) with k|k
  ·exact .inl ⟨k,OH q0 hp hu k⟩
  ·obtain⟨c,e⟩:=RD (n:=s.heap.objs.size+1) k;refine .inr ⟨.inl k,c,e,?_⟩;have q:=x.cell y c e;rw[OI q0 hp hu (by show scope.names.lookup y≠_;rw[k];decide)] at q;exact q
 ·exact e0.Au.fresh (yQ (x.above y c (zb8 h)))
 ·unfold start;show _=N.length;rw[zA,zc,zb0];omega
def V5 {CX:V0}{P:Program}{w:World}{K:za}{mg:Str->Option Value}{base:Heap}{k:Nat}{f:Addr}{name qual:Str}{params:Arguments}{body:List Stmt}{scope:Scope}{dV kV doc pm B4 ct oc:Value}{an od:Option Addr}
 {Tt:Array (Option Value)} {N ps:List Str} {sp:Sp} (lk:K.lookup f=some ⟨oc,od,.func (yI name qual params body scope dV kV doc pm an B4 ct),Tt⟩) (aX:za4 K B4 qual=true) (S:Ac N ps scope)
 (len:∀vs H Q E,sp vs H Q E->vs.length=ps.length)
 (bN:∀(A:Around) (outer:List Env) (s:Shared) (H:Hp) (vs:List V) (Q:VK) (E:XK),BE k (A.deeper (envOfC qual scope s.heap.objs.size f B4))->sp vs H Q E->
  ∃t,UY (RC CX P w K mg base N qual scope f B4 A outer s H E) body t/\t {nx:=λ _ H'=>Q .AK H',rt:=Q} (start N vs) H):
 Dn P w K mg base CX (k+1) f (yI name qual params body scope dV kV doc pm an B4 ct) ps sp:=by
 refine⟨len,λ A outer s H args us vs Q E hr e0 hb r bE=>?_⟩;have hl:=len _ _ _ _ bE;have KX:K.In s.heap:=e0.mod.XI.keeps λ b o e=>(e0.bs b o e).1;have lim:s.heap.NoLimit:=e0.mod.nolimit.keeps λ b o e=>(e0.bs b o e).1;have ip:∀y∈ps.zip us,scope.names.lookup y.1=some .local\/(scope.names.lookup y.1=some .cell/\((cellsFrom (s.heap.objs.size+1) scope.names []).lookup y.1).isSome=true):=λ⟨n,v⟩ hy=>by
  rcases S.wL n (List.of_mem_zip hy).1 with q|q
  ·exact .inl q
  ·exact .inr ⟨q,PySem.W.cellsFrom_some _ _ _ (.inl q)⟩
 refine codeAny_call_function hr.depth (KX _ _ lk) rfl S.co S.gen rfl (PySem.W.codeRec_of KX aX) (hb _ _ _ _ ?_);refine wpAny_newFunctionEnv_cells S.kind ip λ env he s1 x=>?_;subst he;refine⟨lim.keeps x.toInCall.keep,codeAny_func ?_⟩;obtain⟨t,ht,hq⟩:=bN A outer s H vs Q E (hr.deeper _) bE;have I:Inv (RC CX P w K mg base N qual scope f B4 A outer s H E) [] (start N vs) H s1:=Wo S hr.hd e0 hl r x;refine wpAny_mono (ht [] s1 (start N vs) H _ I hq) (λ fl s' hs=>?_) λ e s' hs=>hs;have fin:∀ {σ':St} {H':Hp} {v:V} {u:Value},Inv (RC CX P w K mg base N qual scope f B4 A outer s H E) [] σ' H' s'->RelV v u->Q v H'->CE outer P w H s Q u s':=
  fun {σ' H' v u} J rv q=>⟨v,H',J.os,J.bare,J.base,J.Au,rv,q⟩
 cases fl with
 |ret u =>
  obtain⟨v,σ',H',J,rv,q⟩:=hs;exact fin J rv q
 |next =>
  obtain⟨σ',H',J,q⟩:=hs;exact fin (v:=V.AK) (u:=Value.none) J rfl q
 |brk =>
  obtain⟨_,_,_,q⟩:=hs;exact zan q
 |cont =>
  obtain⟨_,_,_,q⟩:=hs;exact zan q
section
variable {X:Cx}{x:Str}{p pos:Pos}{e:Expr}{es:List Expr}{t:TA}{id T:String}{r:List V->Hp->VK->Prop}
abbrev vM (r:List V->Hp->VK->Prop)(t:TA):TE:=λ σ H Q=>t σ H λ vs H1=>r vs H1 Q
def RE (hc:Gj X (.builtin id) r)(hg:Gl X x)(hm:X.mg x=none)(hv:bootBuiltins x=some (.builtin id))(ha:PA X (e::es) t)(hn:x ≠ "__name__" := by decide)(aP:(x==("__debug__" : Str))=false:=by decide)(he: ~~~(starEach (e::es) X.env=(false,eval e X.env)::starEach es X.env))(ao: ~~~((backTo pos (starEach es X.env)).any (·.1)=false)):PE X (.Call (.Name x p) (e::es) [] pos) (vM r t):=by
 intro pins s σ H Q I h;refine wpAny_Call_Name_kw (Du I hg hm hv ?_ hn aP);exact PyProof.Rows.callWith_builtin1 (Bj (ha pos pins s σ H _ I h) λ us s1 ⟨vs,H1,I1,r1,q1⟩=>hc pins s1 σ H1 vs us Q I1 r1 q1) he ao
def OJ (hc:Gj X (.type T) r)(hg:Gl X x)(hm:X.mg x=none)(hv:bootBuiltins x=some (.type T))(ha:PA X (e::es) t)(hn:x ≠ "__name__" := by decide)(aP:(x==("__debug__" : Str))=false:=by decide)(he: ~~~(starEach (e::es) X.env=(false,eval e X.env)::starEach es X.env))(ao: ~~~((backTo pos (starEach es X.env)).any (·.1)=false)):PE X (.Call (.Name x p) (e::es) [] pos) (vM r t):=by
 intro pins s σ H Q I h;refine wpAny_Call_Name_kw (Du I hg hm hv ?_ hn aP);exact zZ (Bj (ha pos pins s σ H _ I h) λ us s1 ⟨vs,H1,I1,r1,q1⟩=>hc pins s1 σ H1 vs us Q I1 r1 q1) he ao
end
end L2
namespace HT
open PySem PyProof.Rows
abbrev lexLt:List Int->List Int->Bool
 |[],[]=>false
 |[],_::_=>true
 |_::_,[]=>false
 |x::xs,y::ys=>if x=y then lexLt xs ys else decide (x<y)
def Fh (x y:Int)(xs ys:List Int):lexLt (x::xs) (y::ys)=if x=y then lexLt xs ys else decide (x<y):=rfl
def EI:lexLt [] []=false:=rfl
def Mw (y:Int)(ys:List Int):lexLt [] (y::ys)=true:=rfl
def Mx (x:Int)(xs:List Int):lexLt (x::xs) []=false:=rfl
def Yj (A:Around)(s:Shared)(a:Int)(t:Tok)(c:Int)(u:Tok):∃e,SeqAt.EqAt A s (.int a t) (.int c u) e/\(e=true↔a=c):=
 ⟨(a==c),SeqAt.EqAt.int_int a t c u,by simp⟩
def Yk (A:Around)(s:Shared)(a:Int)(t:Tok)(c:Int)(u:Tok)(prog:Program)(w:World)(E:Value->Shared->Prop)(Q:Value->Shared->Prop)(h:Q (.bool (decide (a<c))) s):
 wpAny (model prog w) A (richCompare .Lt (.int a t) (.int c u)) Q E s:=
 (PyProof.Rows.lt_int h:wpAny (model prog w) A (compareOp .Lt (.int a t) (.int c u)) Q E s)
section
open PySem.SeqAt
open PySem.AutoSeq1 (wpAny_loadPart')
open PySem.MeetsSeq PySem.MeetsSeq2 PySem.MeetsSeq3
def O5 (l b:Addr)(items aq:Array Value)(n n2:Nat)(dd ml:Option Addr)(sl iq:Array (Option Value))(ns ms:List Int)(hi:IntsAre items.toList ns)(hj:IntsAre aq.toList ms):
 Meets (Builtin.«tuple.__lt__» ⟨[.ref l,.ref b],[]⟩)
  (λ _ R s=>s.heap.get? l=some {cls:=.type "tuple",dict:=dd,data:=.seq items n,slots:=sl}/\s.heap.get? b=some {cls:=.type "tuple",dict:=ml,data:=.seq aq n2,slots:=iq}/\
   R (.ok (.ret (.bool (lexLt ns ms)))) s):=
 .of_wp λ prog w A R s h=>by
  obtain⟨hp,g,d,tk,os⟩:=s;obtain⟨hl,hb,h⟩:=h;have f2:=AutoSeq1.sub_tuple_tuple;have z1:items.size=ns.length:=by rw[<-hi.length];simp
  have z2:aq.size=ms.length:=by rw[<-hj.length];simp
  wp_walk using wpAny_loadPart' hl,wpAny_loadPart' hb,wpAny_forIn_list _ (λ rest b s'=>b.1=none/\s'=⟨hp,g,d,tk,os⟩/\∃(vs ws:List Value) (cn gz:List Int),rest=vs.zip ws/\
   IntsAre vs cn/\IntsAre ws gz/\cn.length+aq.size=gz.length+items.size/\R (.ok (.ret (.bool (lexLt cn gz)))) ⟨hp,g,d,tk,os⟩) _
  case turn =>
   rintro ⟨y,x⟩ rest b s' ⟨aA,rfl,vs,ws,cn,gz,hz,mn,kh,hlen,hR⟩;cases mn with
   |nil=>rw[List.zip_nil_left] at hz;cases hz
   |cons a t mo =>
    cases kh with
    |nil=>rw[List.zip_nil_right] at hz;cases hz
    |cons c u mq =>
     rw[List.zip_cons_cons] at hz;injection hz with uk ir
     injection uk with hy hx
     subst hy hx;rw[Fh] at hR;simp only[zj] at hlen;obtain⟨e,he,iu⟩:=Yj A.in1 ⟨hp,g,d,tk,os⟩ a t c u;refine wpAny_bind (he prog w _ _ ?_);cases e with
     |true =>
      rw[if_pos (iu.mp rfl)] at hR
      wp_walk
      exact⟨rfl,rfl,_,_,_,_,ir,mo,mq,by omega,hR⟩
     |false =>
      rw[if_neg (λ q=>absurd (iu.mpr q) z8)] at hR;have ul:=Yk A.in1 ⟨hp,g,d,tk,os⟩ a t c u prog w
      wp_walk using ul
      exact⟨_,rfl,by simpa using hR⟩
  case fin =>
   rintro ⟨b1,b2⟩ s' ⟨aA,rfl,vs,ws,cn,gz,hz,mn,kh,hlen,hR⟩;simp only at aA;subst aA;have hv:lexLt cn gz=decide (items.size<aq.size):=by
    cases mn with
    |nil =>
     cases kh with
     |nil =>
      simp only[List.length_nil] at hlen;rw[EI];exact (decide_eq_false (by omega)).symm
     |cons c u hw =>
      simp only[List.length_nil,zj] at hlen;rw[Mw];exact (decide_eq_true (by omega)).symm
    |cons a t hv =>
     cases kh with
     |nil =>
      simp only[List.length_nil,zj] at hlen;rw[Mx];exact (decide_eq_false (by omega)).symm
     |cons c u hw =>
      rw[List.zip_cons_cons] at hz;cases hz
   rw[hv] at hR
   wp_walk
   exact⟨_,rfl,by simpa [Builtin.Tuple.tupleCompareSizes] using hR⟩
  case h =>
   exact⟨rfl,rfl,items.toList,aq.toList,ns,ms,rfl,hi,hj,by omega,h⟩
end
section
variable {prog:Program}{w:World}{A:Around}{E:Value->Shared->Prop}{s:Shared}
def My {l b:Addr}{items aq:Array Value}{ns ms:List Int}{Q:Value->Shared->Prop}(hl:IsTup s.heap l items)(hb:IsTup s.heap b aq)(hi:IntsAre items.toList ns)(hj:IntsAre aq.toList ms)
 (hu:A.units<cLine) (h:Q (.bool (lexLt ns ms)) s):wpAny (model prog w) A (compareOp .Lt (.ref l) (.ref b)) Q E s:=by
 obtain⟨⟨cls,dd,data,sl⟩,ho,hc,n,hd⟩:=id hl;obtain⟨⟨um,ml,data2,iq⟩,rb,rc,n2,hd2⟩:=id hb;simp only at hc hd rc hd2;subst hc hd rc hd2;exact richCompare_meets_room (op:=.Lt) ⟨_,ho,rfl⟩ ⟨_,rb,rfl⟩ PySem.F.slot_tuple_lt PySem.F.entry_tuple_lt (PySem.F.args_tuple_lt_2 _ _) (O5 l b items aq n n2 dd ml sl iq ns ms hi hj)
  ⟨ho,rb,show Value.bool (lexLt ns ms)≠Value.notImplemented/\Q (.bool (lexLt ns ms)) s from ⟨(λ x=>nomatch x),h⟩⟩ hu
abbrev Mz (n d:Nat):Option Int->Nat
 |none=>d
 |some v=>if v<0 then (v+(n:Int)).toNat else min v.toNat n
def Yl (n d:Nat):Mz n d none=d:=rfl
def Q3 (n d k:Nat):Mz n d (some (k:Int))=min k n:=by
 show (if (k:Int)<0 then ((k:Int)+(n:Int)).toNat else min (k:Int).toNat n)=min k n;rw[if_neg (by omega),yO]
end
end HT
namespace L2
open PySem PySem.Spec PyProof.Rows
noncomputable abbrev TO:=St->Hp->(Option Int->Hp->Prop)->Prop
abbrev PO (X:Cx)(e:Option Expr)(t:TO):Prop:=
 ∀(pins:List (Addr×Obj)) (s:Shared) (σ:St) (H:Hp) (Q:Option Int->Hp->Prop),Inv X pins σ H s->t σ H Q->
  wpAny (model X.prog X.w) X.A (evalPart e X.env) (λ u s'=>∃o H',Inv X pins σ H' s'/\IsPart u o/\Q o H') X.xe s
abbrev eI:TO:=λ _ H Q=>Q none H
abbrev rG (t:TE):TO:=λ σ H Q=>t σ H λ x H1=>∃i,x=.int i/\Q (some i) H1
def intsAre_of {ns:List Int}:∀ {us:List Value},Vals (ns.map V.int) us->IntsAre us ns:=by
 induction ns with
 |nil=>intro us r;rw[zaq] at r;cases r;exact .nil
 |cons n ns ih =>
  intro us r;rw[zf] at r;cases r with
  |cons r1 r2 =>
   obtain⟨t,e⟩:=r1;subst e;exact .cons n t (ih r2)
section
variable {X:Cx}{e:Expr}{te:TE}{lo hi:Option Expr}{tl th:TO}{pos p2:Pos}
def eJ:PO X none eI:=by
 intro pins s σ H Q I h;rw[evalPart_none];exact wpAny_pure ⟨none,H,I,.none,h⟩
def eK (h:PE X e te):PO X (some e) (rG te):=by
 intro pins s σ H Q I hw;rw[evalPart_some];refine Bj (h pins s σ H _ I hw) λ u s1 zz=>?_;obtain⟨x,H1,I1,r1,q1⟩:=zz;obtain⟨i,rfl,q⟩:=q1;obtain⟨t,rfl⟩:=r1;exact⟨some i,H1,I1,.int i t,q⟩
abbrev wM (X:Cx)(r:V->Option Int->Option Int->Hp->VK->Prop):Prop:=
 ∀(pins:List (Addr×Obj)) (s:Shared) (σ:St) (H:Hp) (x:V) (v vl vu:Value) (lo hi:Option Int) (sl:Addr) (Q:VK),Inv X pins σ H s->RelV x v->s.heap.IsSliceOf sl vl vu .none->IsPart vl lo->IsPart vu hi->r x lo hi H Q->
  ∃T id,typeLookup (.type T) "__getitem__" = pure (some (.builtin id))/\s.TypeIs v T/\wpAny (model X.prog X.w) X.A (getItem v (.ref sl)) (EP X pins σ Q) X.xe s
abbrev xR (r:V->Option Int->Option Int->Hp->VK->Prop)(te:TE)(tl th:TO):TE:=λ σ H Q=>te σ H λ x H1=>tl σ H1 λ l H2=>th σ H2 λ u H3=>r x l u H3 Q
def Ym {r:V->Option Int->Option Int->Hp->VK->Prop}(hr:wM X r)(he:PE X e te)(hl:PO X lo tl)(hu:PO X hi th):PE X (.Subscript e (.Slice lo hi none p2) pos) (xR r te tl th):=by
 intro pins s σ H Q I h;refine Subscript_ (Bj (he pins s σ H _ I h) λ v s1 zz=>?_);obtain⟨x,H1,I1,r1,q1⟩:=zz;refine wpAny_Slice (Bj (hl pins s1 σ H1 _ I1 q1) λ vl s2 ⟨l,H2,I2,pl,q2⟩=>Bj (hu pins s2 σ H2 _ I2 q2) λ vu s3 zz=>?_);obtain⟨u,H3,I3,pu,q3⟩:=zz;rw[evalPart_none];refine wpAny_pure ?_;have I4:Inv X pins σ H3 {s3 with heap:=s3.heap.push {cls:=.type "slice",data:=.fields #[vl,vu,.none]} }:=I3.kept (t':=s3.toks) λ b ob q=>zo _ q;obtain⟨T,id,hT,ht,hg⟩:=hr pins {s3 with heap:=s3.heap.push {cls:=.type "slice",data:=.fields #[vl,vu,.none]} } σ H3 x v vl vu l u s3.heap.objs.size Q I4 r1 (Heap.IsSliceOf.new ..) pl pu q3;show wpAny (model X.prog X.w) X.A (subscriptTail e (.Slice lo hi none p2) v (.ref s3.heap.objs.size)) (EP X pins σ Q) X.xe {s3 with heap:=s3.heap.push {cls:=.type "slice",data:=.fields #[vl,vu,.none]} };exact tail_any (ops:=[.ref s3.heap.objs.size,v]) ht hT hg (by with_unfolding_all rfl)
abbrev Yn (xs:List V)(lo hi:Option Int):List V:=(xs.drop (HT.Mz xs.length 0 lo)).take (HT.Mz xs.length xs.length hi-HT.Mz xs.length 0 lo)
def RF (xs:List V)(lo hi:Option Int):(Yn xs lo hi).length<=xs.length:=by
 unfold Yn;rw[yM,zb9];omega
abbrev rH (K:za):R2:=λ x y H Q=>∃a b ns ms,x=.ref a/\y=.ref b/\Fe K H a (ns.map V.int)/\Fe K H b (ms.map V.int)/\Q (.bl (HT.lexLt ns ms)) H
def Yo (hu:X.A.units<cLine):Gi X (compareOp .Lt) (rH X.K):=by
 intro pins s σ H x y v u Q I rx ry h;obtain⟨a,b,ns,ms,rfl,rfl,ha,hb,q⟩:=h;cases rx;cases ry;obtain⟨ac,r1,p1,_⟩:=I.tuple ha;obtain⟨aK,r2,p2,_⟩:=I.tuple hb;have i1:IntsAre ac.toArray.toList ns:=intsAre_of r1;have i2:IntsAre aK.toArray.toList ms:=intsAre_of r2;exact HT.My p1 p2 i1 i2 hu ⟨.bl (HT.lexLt ns ms),H,I,rfl,q⟩
end
abbrev NZ (n:Nat)(i:Int):Option Nat:=if 0<=i then (if i<n then some i.toNat else none) else if -(n:Int)<=i then some (i+n).toNat else none
abbrev Q4 {α:Type}(xs:List α)(i:Int):Option α:=(NZ xs.length i).bind λ j=>xs[j]?
def V6 {n:Nat}{i:Int}{j:Nat}(h:NZ n i=some j):seqIndex? i n=some j/\j<n/\-(n:Int)<=i/\i<n:=by
 unfold NZ at h;by_cases h0:0<=i
 ·rw[if_pos h0] at h;by_cases h1:i<n
  ·rw[if_pos h1] at h;have e:i.toNat=j:=zD h;exact⟨by rw[seqIndex_of h0 h1,e],by omega,by omega,h1⟩
  ·rw[if_neg h1] at h;cases h
 ·rw[if_neg h0] at h;by_cases h1 : -(n:Int)<=i
  ·rw[if_pos h1] at h;have e:(i+n).toNat=j:=zD h;exact⟨by rw[seqIndex_neg (by omega) h1,e],by omega,h1,by omega⟩
  ·rw[if_neg h1] at h;cases h
def V7 {α:Type}{xs:List α}{i:Int}{v:α}(h:Q4 xs i=some v):∃j,seqIndex? i xs.length=some j/\xs[j]?=some v/\j<xs.length/\-(xs.length:Int)<=i/\i<xs.length:=by
 unfold Q4 at h;cases e:NZ xs.length i with
 |none=>rw[e] at h;cases h
 |some j =>
  rw[e] at h;obtain⟨h1,h2,h3,h4⟩:=V6 e;exact⟨j,h1,h,h2,h3,h4⟩
abbrev Hr (b:Expr):Prop:=∀o i,subscripted b false o i=operate [o,i] (getItem o i)
abbrev eL (X:Cx)(r:R2):Prop:=
 ∀(value slice:Expr) (pins:List (Addr×Obj)) (s:Shared) (σ:St) (H:Hp) (x y:V) (v u:Value) (Q:VK),Inv X pins σ H s->RelV x v->RelV y u->r x y H Q->
  subscripted slice false v u=operate [v,u] (getItem v u)->wpAny (model X.prog X.w) X.A (subscriptTail value slice v u) (EP X pins σ Q) X.xe s
abbrev xS (X:Cx)(id:String)(r:V->List V->Hp->VK->Prop):Prop:=
 ∀(pins:List (Addr×Obj)) (s:Shared) (σ:St) (H:Hp) (x:V) (xs:List V) (v:Value) (us:List Value) (Q:VK),Inv X pins σ H s->RelV x v->Vals xs us->r x xs H Q->
  wpAny (model X.prog X.w) X.A (call (.builtin id) (v::us)) (EP X pins σ Q) X.xe s
section
variable {X:Cx}{a b:Expr}{ta tb:TE}{pos:Pos}
def eL.or {r r':R2}(h:eL X r)(h':eL X r'):eL X (λ x y H Q=>r x y H Q\/r' x y H Q):=by
 intro value slice pins s σ H x y v u Q I rx ry q hs;rcases q with q|q
 ·exact h value slice pins s σ H x y v u Q I rx ry q hs
 ·exact h' value slice pins s σ H x y v u Q I rx ry q hs
def V8 {r:R2}(hr:eL X r)(ha:PE X a ta)(hb:PE X b tb)(hs:Hr b):PE X (.Subscript a b pos) (pO r ta tb):=by
 intro pins s σ H Q I h;exact Subscript_ (lT ha hb I h λ v u s2 x y H2 I2 rx ry q=>hr a b pins s2 σ H2 x y v u Q I2 rx ry q (hs _ _))
abbrev mI (K:za):R2:=λ x y H Q=>∃p xs i v,x=.ref p/\y=.int i/\Di K H p xs/\Q4 xs i=some v/\Q v H
abbrev mJ (K:za):R2:=λ x y H Q=>∃p xs i v,x=.ref p/\y=.int i/\Fe K H p xs/\Q4 xs i=some v/\Q v H
def LU:eL X (mI X.K):=by
 intro value slice pins s σ H x y v u Q I rx ry h hs;obtain⟨p,xs,i,z,rfl,rfl,hq,he,q⟩:=h;cases rx;obtain⟨t,rfl⟩:=ry;obtain⟨ac,r,pl,hz⟩:=I.list hq;obtain⟨j,h1,h2,h3,h4,h5⟩:=V7 he;obtain⟨w,ew,aZ⟩:=r.get h2;have hl:=r.length;have hn:=Kr;have fin:EP X pins σ Q w s:=⟨z,H,I,aZ,q⟩;by_cases h0:0<=i
 ·have hj:i.toNat=j:=by
   rw[seqIndex_of h0 h5] at h1;exact zD h1
  exact item_listR pl.isList h0 (by omega) (by rw[hj];simpa using ew) fin hs
 ·have hj:(i+(ac.toArray.size:Int)).toNat=j:=by
   rw[seqIndex_neg (by omega) h4] at h1;rw[zm,<-hl];exact zD h1
  exact subscriptTail_builtinR (x:=w) pl.isList.typeIs slot_list_getitem.lookup
   (wpAny_getItem_list_neg (Q:=λ r s'=>r=w/\EP X pins σ Q r s') pl.isList (by omega) (by rw[zm]<;>omega) (by omega) (by rw[hj];simpa using ew) ⟨rfl,fin⟩) hs
def mK:eL X (mJ X.K):=by
 intro value slice pins s σ H x y v u Q I rx ry h hs;obtain⟨p,xs,i,z,rfl,rfl,hq,he,q⟩:=h;cases rx;obtain⟨t,rfl⟩:=ry;obtain⟨ac,r,pl,hz⟩:=I.tuple hq;obtain⟨j,h1,h2,h3,h4,h5⟩:=V7 he;obtain⟨w,ew,aZ⟩:=r.get h2;have hl:=r.length;have hn:=Kr;have fin:EP X pins σ Q w s:=⟨z,H,I,aZ,q⟩;exact subscriptTail_builtinR (x:=w) pl.typeIs slot_tuple_getitem.lookup
  (getItem_tuple (j:=j) (Q:=λ r s'=>r=w/\EP X pins σ Q r s') pl (by omega) (by omega) (by rw[zm,<-hl];exact h1) (by simpa using ew) ⟨rfl,fin⟩) hs
def TX (ac:List Value)(n j:Nat)(u:Value):Obj.mapSeq (·.setIfInBounds j u) {cls:=.type "list",data:=.seq ac.toArray n}={cls:=.type "list",data:=.seq (ac.set j u).toArray n}:=by
 simp[Obj.mapSeq]
def Inv.lst {pins:List (Addr×Obj)}{σ:St}{H:Hp}{s:Shared}{p:Addr}{xs:List V}(I:Inv X pins σ H s)(h:H p=some (.lst xs)):
 ∃(ac:List Value) (n:Nat),Vals xs ac/\s.heap.get? p=some {cls:=.type "list",data:=.seq ac.toArray n}/\xs.length<=sizeLine:=by
 obtain⟨z,ac,n,r,e⟩:=I.Au p _ h;exact⟨ac,n,r,e,z⟩
def Inv.mL {pins:List (Addr×Obj)}{σ:St}{H:Hp}{s:Shared}{p:Addr}{xs ys:List V}{ac its':List Value}{n n':Nat}{f:Obj->Obj}(I:Inv X pins σ H s)(h:H p=some (.lst xs))
 (ho:s.heap.get? p=some {cls:=.type "list",data:=.seq ac.toArray n}) (hf:f {cls:=.type "list",data:=.seq ac.toArray n}={cls:=.type "list",data:=.seq its'.toArray n' }) (r:Vals ys its') (hz:ys.length<=sizeLine) (t:Nat):
 Inv X pins σ (upd H p (.lst ys)) {s with heap:=s.heap.update p f,toks:=t}:=by
 have e:(s.heap.update p f).get? p=some {cls:=.type "list",data:=.seq its'.toArray n' }:=by
  rw[Heap.get?_update_self f ho (by rw[hf]<;>rfl),hf]
 refine I.write (x:=p) (e:=p) (by rw[h];trivial) (.inl rfl) (λ b u hb q=>(Heap.get?_update_other _ _ (zY hb)).trans q) ⟨_,e⟩ ?_;exact⟨hz,its',n',r,e⟩
abbrev rJ:V->V->V->Hp->(Hp->Prop)->Prop:=λ o i v H Q=>∃p xs k j,o=.ref p/\i=.int k/\H p=some (.lst xs)/\NZ xs.length k=some j/\Q (upd H p (.lst (xs.set j v)))
def set_list:qS X rJ:=by
 intro pins s σ H o i v ov iv u Q I ro ri rv h;obtain⟨p,xs,k,j,rfl,rfl,hp,hj,q⟩:=h;cases ro;obtain⟨t,rfl⟩:=ri;obtain⟨ac,n,r,ho,hz⟩:=I.lst hp;obtain⟨h1,h2,h3,h4⟩:=V6 hj;have hl:=r.length;have hn:=Kr;have I':Inv X pins σ (upd H p (.lst (xs.set j v))) {s with heap:=s.heap.update p (Obj.mapSeq (·.setIfInBounds j u))}:=
  I.mL hp ho (TX ac n j u) (r.set rv j) (by rw[yS];exact hz) s.toks
 by_cases h0:0<=k
 ·have hk:k.toNat=j:=by
   rw[seqIndex_of h0 h4] at h1;exact zD h1
  exact PySem.W.ki_setAt ho h0 (by omega) (by rw[zm,<-hl];exact h4) (by rw[hk];exact⟨_,I',q⟩)
 ·have hk:(k+(ac.toArray.size:Int)).toNat=j:=by
   rw[seqIndex_neg (by omega) h3] at h1;rw[zm,<-hl];exact zD h1
  exact PySem.W.ki_setBack ho (by omega) (by rw[zm,<-hl];exact h3) (by omega) (by rw[hk];exact⟨_,I',q⟩)
def Q5 (lo hi:Option Int)(n:Nat):(sliceBounds lo hi none n).1=((HT.Mz n 0 lo:Nat):Int)/\(sliceBounds lo hi none n).2.1=((HT.Mz n n hi:Nat):Int)/\(sliceBounds lo hi none n).2.2=1:=by
 refine⟨?_,?_,rfl⟩
 ·cases lo with
  |none=>simp[sliceBounds,HT.Mz]
  |some i =>
   simp only[sliceBounds,HT.Mz,Option.getD_none,show (1:Int) > 0 by decide,if_true];by_cases h:i<0
   ·simp only[h,if_true]<;>omega
   ·simp only[h,if_false]<;>omega
 ·cases hi with
  |none=>simp[sliceBounds,HT.Mz]
  |some i =>
   simp only[sliceBounds,HT.Mz,Option.getD_none,show (1:Int) > 0 by decide,if_true];by_cases h:i<0
   ·simp only[h,if_true]<;>omega
   ·simp only[h,if_false]<;>omega
def O6 (ac:List Value)(lo hi:Option Int):slicePick ac.toArray lo hi none=((ac.drop (HT.Mz ac.length 0 lo)).take (HT.Mz ac.length ac.length hi-HT.Mz ac.length 0 lo)).toArray:=by
 obtain⟨h1,h2,h3⟩:=Q5 lo hi ac.toArray.size;unfold slicePick;rw[h1,h2,h3];simp only[sliceRange_one,pick_run,zm]<;>rfl
abbrev vN (K:za):V->Option Int->Option Int->Hp->VK->Prop:=λ x lo hi H Q=>∃a xs,x=.ref a/\Di K H a xs/\∀p,H p=none->Q (.ref p) (upd H p (.lst (Yn xs lo hi)))
def eM:wM X (vN X.K):=by
 intro pins s σ H x v vl vu lo hi sl Q I rx hs pl pu h;obtain⟨a,xs,rfl,hx,q⟩:=h;cases rx;obtain⟨ac,r,ht,hz⟩:=I.list hx;have hlen:=r.length;refine⟨"list",_,slot_list_getitem.lookup,ht.isList.typeIs,?_⟩;refine wpAny_getItem_list_slice ht.isList hs pl pu .none (by simp) ?_ (by rw[zm]<;>omega);rw[O6,<-hlen];refine⟨.ref s.heap.objs.size,_,I.laid (t':=s.toks) (o:=.lst (Yn xs lo hi)) (λ b ob q=>zo _ q) (zu _) ?_,rfl,q _ (I.Au.fresh (zu _))⟩;exact⟨yJ (RF xs lo hi) hz,_,0,(r.drop (HT.Mz xs.length 0 lo)).take (HT.Mz xs.length xs.length hi-HT.Mz xs.length 0 lo),zE _ rfl⟩
abbrev J2:V->Bool
 | .AK| .bl _| .int _| .str _=>true
 |_=>false
abbrev jT:V->V->Bool
 | .AK,.AK=>true
 | .bl a,.bl b=>a==b
 | .bl a,.int b=>(if a then 1 else 0)==b
 | .int a,.bl b=>a==(if b then 1 else 0)
 | .int a,.int b| .str a,.str b=>a==b
 |_,_=>false
def mM {A:Around}{s:Shared}{y x:V}{u v:Value}(ry:RelV y u)(rx:RelV x v)(fy:J2 y=true)(fx:J2 x=true):SeqAt.EqAt A s u v (jT y x):=by
 cases y with
 |AK =>
  cases ry;cases x with
  |AK=>cases rx;exact SeqAt.EqAt.same _
  |bl b=>cases rx;exact SeqAt.EqAt.none_bool b
  |int b=>obtain⟨t,rfl⟩:=rx;exact SeqAt.EqAt.none_int b t
  |str b=>obtain⟨t,rfl⟩:=rx;exact SeqAt.EqAt.none_str b t
  |_=>exact absurd (show false=true from fx) z8
 |bl a =>
  cases ry;cases x with
  |AK=>cases rx;exact SeqAt.EqAt.bool_none a
  |bl b=>cases rx;exact SeqAt.EqAt.bool_bool a b
  |int b=>obtain⟨t,rfl⟩:=rx;exact SeqAt.EqAt.bool_int a b t
  |str b=>obtain⟨t,rfl⟩:=rx;exact SeqAt.EqAt.bool_str a b t
  |_=>exact absurd (show false=true from fx) z8
 |int a =>
  obtain⟨t',rfl⟩:=ry;cases x with
  |AK=>cases rx;exact SeqAt.EqAt.int_none a t'
  |bl b=>cases rx;exact SeqAt.EqAt.int_bool a t' b
  |int b=>obtain⟨t,rfl⟩:=rx;exact SeqAt.EqAt.int_int a t' b t
  |str b=>obtain⟨t,rfl⟩:=rx;exact SeqAt.EqAt.int_str a t' b t
  |_=>exact absurd (show false=true from fx) z8
 |str a =>
  obtain⟨t',rfl⟩:=ry;cases x with
  |AK=>cases rx;exact SeqAt.EqAt.str_none a t'
  |bl b=>cases rx;exact SeqAt.EqAt.str_bool a t' b
  |int b=>obtain⟨t,rfl⟩:=rx;exact SeqAt.EqAt.str_int a t' b t
  |str b=>obtain⟨t,rfl⟩:=rx;exact SeqAt.EqAt.str_str a t' b t
  |_=>exact absurd (show false=true from fx) z8
 |_=>exact absurd (show false=true from fy) z8
abbrev TY (x:V)(u:Value):Bool:=match u with
 | .none=>jT .AK x
 | .bool b=>jT (.bl b) x
 | .int i _=>jT (.int i) x
 | .str z _=>jT (.str z) x
 |_=>false
def Yp {x y:V}{u:Value}(r:RelV y u)(f:J2 y=true):TY x u=jT y x:=by
 cases y with
 |AK|bl b=>cases r;rfl
 |int i|str z=>obtain⟨t,rfl⟩:=r;rfl
 |_=>exact absurd (show false=true from f) z8
def J3 {x:V}:∀ {xs:List V}{us:List Value},Vals xs us->xs.all J2=true->us.any (TY x)=xs.any λ y=>jT y x
 |_,_,.nil,_=>rfl
 |y::xs,u::us,.cons r t,f=>by
  rw[List.all_cons,zF] at f;rw[zab,zab,Yp r f.1,J3 t f.2]
def Gm {A:Around}{s:Shared}{x:V}{v:Value}(rx:RelV x v)(fx:J2 x=true):∀ {xs:List V}{us:List Value},Vals xs us->xs.all J2=true->∀u∈us,SeqAt.EqAt A s u v (TY x u)
 |_,_,.nil,_=>λ u hu=>by cases hu
 |y::xs,u::us,.cons r t,f=>λ u' hu=>by
  rw[List.all_cons,zF] at f;rcases zp.mp hu with rfl|hu
  ·rw[Yp r f.1];exact mM r rx f.1 fx
  ·exact Gm rx fx t f.2 u' hu
abbrev tY (x:V)(xs:List V):Bool:=xs.any λ y=>jT y x
abbrev tZ (K:za)(neg:Bool):R2:=λ x y H Q=>∃p xs,y=.ref p/\(Di K H p xs\/Fe K H p xs)/\J2 x=true/\xs.all J2=true/\Q (.bl (if neg then !tY x xs else tY x xs)) H
def Wq:Gi X (compareOp .In) (tZ X.K false):=by
 intro pins s σ H x y v u Q I rx ry h;obtain⟨p,xs,rfl,hq,fx,fs,q⟩:=h;cases ry;rcases hq with hq|hq
 ·obtain⟨ac,r,pl,hz⟩:=I.list hq;refine SeqAt.in_listAt (TY x) pl.isList (λ w hw=>Gm rx fx r fs w (by simpa using hw)) ⟨.bl _,H,I,rfl,?_⟩;rw[show ac.toArray.any (TY x)=ac.any (TY x) by simp,J3 r fs];exact q
 ·obtain⟨ac,r,pl,hz⟩:=I.tuple hq;refine SeqAt.in_tupleAt (TY x) pl (λ w hw=>Gm rx fx r fs w (by simpa using hw)) ⟨.bl _,H,I,rfl,?_⟩;rw[show ac.toArray.any (TY x)=ac.any (TY x) by simp,J3 r fs];exact q
def Q6:Gi X (compareOp .NotIn) (tZ X.K true):=by
 intro pins s σ H x y v u Q I rx ry h;obtain⟨p,xs,rfl,hq,fx,fs,q⟩:=h;cases ry;rcases hq with hq|hq
 ·obtain⟨ac,r,pl,hz⟩:=I.list hq;refine SeqAt.notIn_listAt (TY x) pl.isList (λ w hw=>Gm rx fx r fs w (by simpa using hw)) ⟨.bl _,H,I,rfl,?_⟩;rw[show ac.toArray.any (TY x)=ac.any (TY x) by simp,J3 r fs];exact q
 ·obtain⟨ac,r,pl,hz⟩:=I.tuple hq;refine SeqAt.notIn_tupleAt (TY x) pl (λ w hw=>Gm rx fx r fs w (by simpa using hw)) ⟨.bl _,H,I,rfl,?_⟩;rw[show ac.toArray.any (TY x)=ac.any (TY x) by simp,J3 r fs];exact q
def Q7:Gj X (.builtin "len") (λ xs H Q=>∃p ys,xs=[.ref p]/\(Di X.K H p ys\/Fe X.K H p ys)/\Q (.int ys.length) H):=by
 intro pins s σ H xs us Q I r h;obtain⟨p,ys,rfl,hq,q⟩:=h;obtain⟨u,rfl,rx⟩:=vals1 r;cases rx;have hn:=Kr;rcases hq with hq|hq
 ·obtain⟨ac,r',pl,hz⟩:=I.list hq;have hlen:=r'.length;exact Calls.call_len_list pl.isList (by simp only[zm]<;>omega) ⟨.int ys.length,H,I.tok _,⟨s.toks+1,by rw[zm,hlen]⟩,q⟩
 ·obtain⟨ac,r',pl,hz⟩:=I.tuple hq;have hlen:=r'.length;exact len_tuple pl (by simp only[zm]<;>omega) ⟨.int ys.length,H,I.tok _,⟨s.toks+1,by rw[zm,hlen]⟩,q⟩
def Q8:Gj X (.type "list") (λ xs H Q=>∃p ys,xs=[.ref p]/\(Di X.K H p ys\/Fe X.K H p ys)/\∀l,H l=none->Q (.ref l) (upd H l (.lst ys))):=by
 intro pins s σ H xs us Q I r h;obtain⟨p,ys,rfl,hq,q⟩:=h;obtain⟨u,rfl,rx⟩:=vals1 r;cases rx;have fin:∀(ac:List Value),Vals ys ac->ys.length<=sizeLine->∀(h':Heap) (c':Nat),(∀b o',s.heap.get? b=some o'->h'.get? b=some o')->
  h'.get? s.heap.objs.size=some {cls:=.type "list",dict:=none,data:=.seq ac.toArray c',slots:=#[]}->EP X pins σ Q (.ref s.heap.objs.size) {s with heap:=h' }:=λ ac r' hz h' c' kp e =>
  ⟨.ref s.heap.objs.size,_,I.laid (t':=s.toks) kp (zu _) (show BS X.prog X.w _ h' _ (.lst ys) from ⟨hz,ac,c',r',e⟩),rfl,q _ (I.Au.fresh (zu _))⟩
 rcases hq with hq|hq
 ·obtain⟨ac,r',pl,hz⟩:=I.list hq;have hlen:=r'.length;obtain⟨o,ho,hc,n,hd⟩:=pl.isList;exact call_list_seq p (.inl rfl) ho hc hd (λ h' c' kp e=>fin ac r' hz h' c' kp e) (by simp only[zm]<;>omega)
 ·obtain⟨ac,r',pl,hz⟩:=I.tuple hq;have hlen:=r'.length;obtain⟨o,ho,hc,n,hd⟩:=pl;exact call_list_seq p (.inr rfl) ho hc hd (λ h' c' kp e=>fin ac r' hz h' c' kp e) (by simp only[zm]<;>omega)
def O7:Gj X (.type "tuple") (λ xs H Q=>∃p ys,xs=[.ref p]/\((Di X.K H p ys/\∀l,H l=none->Q (.ref l) (upd H l (.tup ys)))\/(Fe X.K H p ys/\Q (.ref p) H))):=by
 intro pins s σ H xs us Q I r h;obtain⟨p,ys,rfl,h⟩:=h;obtain⟨u,rfl,rx⟩:=vals1 r;cases rx;rcases h with ⟨hq,q⟩|⟨hq,q⟩
 ·obtain⟨ac,r',pl,hz⟩:=I.list hq;have hlen:=r'.length;refine call_tuple_list pl.isList (λ h' kp=>?_) (by simp only[zm]<;>omega);have I1:Inv X pins σ H {s with heap:=h' }:=I.kept (t':=s.toks) kp;have I2:Inv X pins σ (upd H h'.objs.size (.tup ys)) {s with heap:=h'.push {cls:=.type "tuple",data:=.seq ac.toArray} }:=
   I1.laid (t':=s.toks) (λ b o e=>zo _ e) (zu _) (show BS X.prog X.w _ _ _ (.tup ys) from ⟨hz,ac,r',IsTup.new _ _⟩)
  exact⟨.ref h'.objs.size,_,I2,rfl,q _ (I1.Au.fresh (zu _))⟩
 ·obtain⟨ac,r',pl,hz⟩:=I.tuple hq;exact call_tuple_same pl ⟨.ref p,H,I,rfl,q⟩
abbrev wN (K:za)(T:String)(x:V)(H:Hp):Prop:=match x with
 | .str _=>T = "str"
 | .int _=>T = "int"
 | .ref p=>(T = "list" /\ ∃xs,Di K H p xs)\/(T = "tuple" /\ ∃o,K.lookup p=some o/\o.cls=.type "tuple" /\ o.dict=none) \/
  (T = "dict" /\ ((∃kvs,H p=some (.dK kvs))\/∃kvs,H p=some (.dT kvs)))\/(T = "set" /\ ∃S n,H p=some (.set S n))
 |_=>False
def mN {pins:List (Addr×Obj)}{σ:St}{H:Hp}{s:Shared}{T:String}{x:V}{v:Value}(I:Inv X pins σ H s)(r:RelV x v)(ty:wN X.K T x H):
 s.TypeIs v T/\∀a,v=.ref a->∃ob,s.heap.get? a=some ob/\ob.dict=none:=by
 cases x with
 |str z =>
  obtain⟨t,rfl⟩:=r;cases (show T = "str" from ty);exact⟨typeIs_str s z t,λ _ e=>nomatch e⟩
 |int i =>
  obtain⟨t,rfl⟩:=r;cases (show T = "int" from ty);exact⟨typeIs_int s i t,λ _ e=>nomatch e⟩
 |ref p =>
  cases r;rcases ty with ⟨rfl,xs,hq⟩|⟨rfl,o,hk,hc,hd⟩|⟨rfl,hk⟩|⟨rfl,S,n,hk⟩
  ·obtain⟨ac,_,pl,_⟩:=I.list hq;refine⟨pl.isList.typeIs,λ a e=>?_⟩;cases e;obtain⟨o,n,e,c,hd,_⟩:=pl;exact⟨o,e,hd⟩
  ·refine⟨⟨o,I.Mt p o hk,hc⟩,λ a e=>?_⟩;cases e;exact⟨o,I.Mt _ o hk,hd⟩
  ·have z:∃o,s.heap.get? p=some o/\o.ExactDict:=by
    rcases hk with ⟨kvs,hk⟩|⟨kvs,hk⟩
    ·obtain⟨_,_,_,_,o,_,_,e,ex,_⟩:=I.Au p _ hk;exact⟨o,e,ex⟩
    ·obtain⟨_,_,_,_,o,_,_,e,ex,_⟩:=I.Au p _ hk;exact⟨o,e,ex⟩
   obtain⟨o,e,ex⟩:=z;refine⟨⟨o,e,ex.1⟩,λ a e2=>?_⟩;cases e2;exact⟨o,e,ex.2.1⟩
  ·obtain⟨o,_,_,_,e,ex,_⟩:=I.Au p _ hk;refine⟨⟨o,e,ex.1⟩,λ a e2=>?_⟩;cases e2;exact⟨o,e,ex.2.1⟩
 |_=>exact zan ty
abbrev xT (K:za)(T:String)(r:V->List V->Hp->VK->Prop)(to:TE)(t:TA):TE:=λ σ H Q=>to σ H λ x H1=>wN K T x H1/\t σ H1 λ xs H2=>r x xs H2 Q
variable {o e:Expr}{es:List Expr}{to:TE}{t:TA}{name:Str}{apos ad:Pos}{T id:String}{r:V->List V->Hp->VK->Prop}
def OK (pa:PlainAttrs T)(slot:Slot T name id)(uo:typeOf (.builtin id)=pure (.type "method_descriptor"))(hm:xS X id r)(ho:PE X o to)(ha:PA X (e::es) t)(ar: ~~~(attributeBase o name X.env (eval o X.env)=eval o X.env))(aB: ~~~(((backTo ad (starEach (e::es) X.env)).all (λ x => !x.1)&&(backToKw ad (keywordEach [] X.env)).all (λ x=>x.1.isSome)
  && decide ((e::es).length+([]:List Keyword).length+(if ([]:List Keyword).isEmpty then 0 else 1)<30))=true))(au: ~~~((apos.endLine==ad.line)=true))(hs: ~~~(starEach (e::es) X.env=(false,eval e X.env)::starEach es X.env))(ak: ~~~((backTo ad (starEach es X.env)).any (·.1)=false)):
 PE X (.Call (.Attribute o name apos) (e::es) [] ad) (xT X.K T r to t):=by
 intro pins s σ H Q I h;refine wpAny_Call_method_late ar aB au rfl (Bj (ho pins s σ H _ I h) λ v s1 zz=>?_);obtain⟨x,H1,I1,r1,ty,q1⟩:=zz;obtain⟨h1,h2⟩:=mN I1 r1 ty;refine⟨T,id,pa,slot,uo,h1,h2,?_⟩;have hA:=ha ad pins s1 σ H1 _ I1 q1;rw[hs] at hA ⊢;refine Calls.callWith_builtin (by show (false||(backTo ad (starEach es X.env)).any (·.1))=false;rw[ak]<;>rfl) (Calls.evalArgs_plain ?_);exact Bj hA λ us s2 ⟨vs,H2,I2,r2,q2⟩=>hm pins s2 σ H2 x vs v us Q I2 r1 r2 q2
end
abbrev uA (X:Cx)(id:String)(r:V->List V->Hp->VK->Prop):Prop:=
 ∀(pins:List (Addr×Obj)) (s:Shared) (σ:St) (H:Hp) (x:V) (xs:List V) (v:Value) (us:List Value) (Q:VK),Inv X pins σ H s->RelV x v->Vals xs us->r x xs H Q->
  wpAny (model X.prog X.w) X.A (call (.builtin id) (v::us)) (EP X pins σ Q) X.xe s
def Vals.one {x:V}{us:List Value}(h:Vals [x] us):∃u,us=[u]/\RelV x u:=by
 cases h with
 |cons r q=>cases q;exact⟨_,rfl,r⟩
def Vals.two {x y:V}{us:List Value}(h:Vals [x,y] us):∃u v,us=[u,v]/\RelV x u/\RelV y v:=by
 cases h with
 |cons r q=>obtain⟨u,rfl,h⟩:=Vals.one q;exact⟨_,_,rfl,r,h⟩
def Vals.dropLast {xs:List V}{us:List Value}(h:Vals xs us):Vals xs.dropLast us.dropLast:=by
 induction h with
 |nil=>exact .nil
 |cons r t ih =>
  cases t with
  |nil=>exact .nil
  |cons q t'=>exact .cons r ih
def Vals.eraseIdx:∀ {xs:List V}{us:List Value}(i:Nat),Vals xs us->Vals (xs.eraseIdx i) (us.eraseIdx i)
 |_,_,_,.nil=>.nil
 |_,_,0,.cons _ t=>t
 |_,_,i+1,.cons r t=>.cons r (Vals.eraseIdx i t)
def Vals.rep {xs:List V}{us:List Value}(h:Vals xs us):∀k:Nat,Vals (zr k xs).flatten (zr k us).flatten
 |0=>.nil
 |k+1=>by
  rw[za5,za5,List.flatten_cons,List.flatten_cons];exact Vals.append h (Vals.rep h k)
def foldl_rep (ac:List Value):∀(k:Nat) (acc:List Value),
 List.foldl (λ x1 x2=>x1++x2) acc.toArray (zr k ac.toArray)=(acc++(zr k ac).flatten).toArray
 |0,acc=>by simp
 |k+1,acc=>by
  have e:acc.toArray++ac.toArray=(acc++ac).toArray:=by simp
  have e2:(acc++ac)++(zr k ac).flatten=acc++(zr (k+1) ac).flatten:=by
   rw[za5,List.flatten_cons,zO]
  rw[<-e2,<-foldl_rep ac k (acc++ac),<-e,za5,zB]
section
variable {X:Cx}{pins:List (Addr×Obj)}{σ:St}{H:Hp}{s:Shared}{l b:Addr}{xs ys zs:List V}
def Inv.eN {ac its':List Value}{n:Nat}{f:Array Value->Array Value}{t':Nat}(I:Inv X pins σ H s)(hH:H l=some (.lst xs))
 (e:s.heap.get? l=some {cls:=.type "list",data:=.seq ac.toArray n}) (hf:f ac.toArray=its'.toArray) (hv:Vals ys its') (hz:ys.length<=sizeLine):
 Inv X pins σ (upd H l (.lst ys)) {s with heap:=s.heap.update l (Obj.mapSeq f),toks:=t' }:=by
 have q:=PySem.IsL.update e f;rw[hf] at q;refine I.write (x:=l) (e:=l) (by rw[hH];exact trivial) (.inl rfl) (λ b' u hb hu=>(Heap.get?_update_other s.heap (Obj.mapSeq f) (zY hb)).trans hu) ⟨_,q⟩ ?_;exact⟨hz,its',_,hv,q⟩
def Inv.rK {ac:List Value}{t':Nat}(I:Inv X pins σ H s)(hv:Vals ys ac)(hz:ys.length<=sizeLine):
 Inv X pins σ (upd H s.heap.objs.size (.lst ys)) {s with heap:=s.heap.push {cls:=.type "list",data:=.seq ac.toArray},toks:=t' }:=
 I.laid (λ _ _ q=>zo _ q) (zu _) ⟨hz,ac,0,hv,zE _ rfl⟩
def Inv.fresh (I:Inv X pins σ H s):H s.heap.objs.size=none:=I.Au.fresh (zu _)
def Inv.Wr (I:Inv X pins σ H s)(hH:H l=some (.lst xs)):xs.length<=sizeLine/\∃(ac:List Value) (n:Nat),Vals xs ac/\xs.length=ac.length/\s.heap.get? l=some {cls:=.type "list",data:=.seq ac.toArray n}:=by
 obtain⟨z,ac,n,r,e⟩:=I.Au l _ hH;exact⟨z,ac,n,r,r.length,e⟩
def RG {n:Nat}(h:n<=sizeLine):zb4 n=false:=by
 unfold zb4;exact decide_eq_false (by omega)
end
section
variable {X:Cx}
abbrev eO:V->List V->Hp->VK->Prop:=λ x vs H Q=>∃l xs y,x=.ref l/\vs=[y]/\H l=some (.lst xs)/\xs.length<sizeLine/\Q .AK (upd H l (.lst (xs++[y])))
def Kt:uA X "list.append" eO:=by
 intro pins s σ H x vs v us Q I rx rv h;obtain⟨l,xs,y,rfl,rfl,hH,hz,q⟩:=h;cases rx;obtain⟨u,rfl,ru⟩:=rv.one;obtain⟨z,ac,n,r,hl,e⟩:=I.Wr hH;refine call_meets F.slot_list_append ⟨_,e,rfl⟩ F.entry_list_append (F.args_list_append_2 _ _) (PySem.list_append l ac.toArray n u (by rw[zm];omega)) ⟨e,?_⟩;refine⟨.AK,_,I.eN (its':=ac++[u]) hH e (by simp) (r.append (.cons ru .nil)) ?_,rfl,q⟩;rw[zA,yP];omega
abbrev eQ:V->List V->Hp->VK->Prop:=λ x vs H Q=>∃l b xs zs,x=.ref l/\vs=[.ref b]/\H l=some (.lst xs)/\H b=some (.lst zs)/\xs.length+zs.length<=sizeLine/\Q .AK (upd H l (.lst (xs++zs)))
def Ws:uA X "list.extend" eQ:=by
 intro pins s σ H x vs v us Q I rx rv h;obtain⟨l,b,xs,zs,rfl,rfl,hH,hB,hz,q⟩:=h;cases rx;obtain⟨u,rfl,ru⟩:=rv.one;cases ru;obtain⟨z,ac,n,r,hl,e⟩:=I.Wr hH;obtain⟨z2,aK,n2,r2,aF,e2⟩:=I.Wr hB;have hsz:ac.toArray.size+aK.toArray.size<=sizeLine:=by rw[zm,zm];omega
 have bO:¬ (!ac.toArray.isEmpty&&zb4 (ac.toArray.size+aK.toArray.size))=true:=by
  rw[RG hsz,Bool.and_false];exact z8
 refine call_meets F.slot_list_extend ⟨_,e,rfl⟩ F.entry_list_extend (F.args_list_extend_2 _ _)
  (AutoSeq1.list_extend_list_list_0 l ac.toArray n b aK.toArray n2 bO (by rw[zm];omega) (by omega)) ⟨e,e2,?_⟩
 refine⟨.AK,_,I.eN (its':=ac++aK) hH e (by simp) (r.append r2) ?_,rfl,q⟩;rw[zA];omega
abbrev vP:R2:=λ x y H Q=>∃l k xs,x=.ref l/\y=.int k/\H l=some (.lst xs)/\-(2^63)<=k/\k<2^63/\xs.length*k.toNat<=sizeLine/\
 ∀p,H p=none->Q (.ref p) (upd H p (.lst (zr k.toNat xs).flatten))
def len_rep {α:Type}(xs:List α)(k:Nat):(zr k xs).flatten.length=k*xs.length:=by
 induction k with
 |zero=>simp
 |succ k ih=>rw[za5,List.flatten_cons,zA,ih,Nat.succ_mul,Nat.add_comm]
def mO:Gi X (binaryOp .Mult) vP:=by
 intro pins s σ H x y v u Q I rx ry h;obtain⟨l,k,xs,rfl,rfl,hH,h1,h2,hz,q⟩:=h;cases rx;obtain⟨t,rfl⟩:=ry;obtain⟨z,ac,n,r,hl,e⟩:=I.Wr hH;have hlen:ac.toArray.size*k.toNat<=sizeLine:=by rw[zm,<-hl];exact hz
 have mr:¬ ac.toArray.size*k.toNat > (2^63-1) / 8:=by
  have:(sizeLine:Nat)<=(2^63-1) / 8:=by decide
  omega
 have d8:¬ (!Builtin.List.listFitsIndex k)=true:=by
  rw[fitsIndex_both h1 h2];exact z8
 have bO:¬ zb4 (ac.toArray.size*k.toNat)=true:=by
  rw[RG hlen];exact z8
 have aQ:List.foldl (λ x1 x2=>x1++x2) #[] (zr (if ac.toArray.isEmpty=true then 0 else k.toNat) ac.toArray)=(zr k.toNat ac).flatten.toArray:=by
  have f0:∀m:Nat,List.foldl (λ x1 x2=>x1++x2) #[] (zr m ac.toArray)=(zr m ac).flatten.toArray:=λ m=>by
   have:=foldl_rep ac m [];rw[List.nil_append] at this;exact this
  rw[f0];cases ac with
  |nil=>simp
  |cons a r'=>rw[if_neg (by simp)]
 refine wpAny_binaryOp_repeat_ref (T := "list") (U := "int") (by decide) ⟨_,e,rfl⟩ (λ s'=>typeIs_int s' k t) noFill_list_mul F.fills_int_mul F.slot_int_rmul repeat_list F.slot_int_index.lookup
  (call_meets F.slot_int_rmul (typeIs_int s k t) F.entry_int_rmul (F.args_int_rmul_2 _ _) (int___rmul___int_list k t l ac.toArray n)
   ⟨e,rfl,⟨_,e,rfl⟩,call_meets F.slot_list_mul ⟨_,e,rfl⟩ F.entry_list_mul (F.args_list_mul_2 _ _) (AutoListH.list___mul___list_int_3 l ac.toArray n k t d8 mr bO) ⟨e,?_⟩⟩)
 rw[aQ];exact⟨.ref _,_,I.rK (t':=s.toks) (r.rep k.toNat) (by rw[len_rep,Nat.mul_comm];exact hz),rfl,q _ I.fresh⟩
end
end L2
namespace re
open PySem PySem.W PySem.Calls PyProof.Rows
def LM {P:Params}{h:Heap}:∀(ns:List Int) (vs:List Value),WellAll P h vs (ns.map WData.int)->IntsAre vs ns:=by
 intro ns;induction ns with
 |nil =>
  intro vs w;rw[zaq] at w;cases w;exact .nil
 |cons n ns ih =>
  intro vs w;rw[zf] at w;cases w with
  |cons a b =>
   cases a;exact .cons _ _ (ih _ b)
def Wt {l:OpenLaw}{n:Nat}(hn:l.most=some n){P:Params}{h:Heap}{args:List WData}{vals:List Value}
 (cp:l.row.toRowW.claim.pre args=true) (mt:WellAll P h vals args):
 ∃a vs ns,vals=[yL a]/\args=[WData.list (ns.map WData.int)]/\h.get? a=some {cls:=.type "list",data:=.seq vs.toArray}/\IntsAre vs ns/\ns.length<=n:=by
 have up:WShape.hasAll [] args [.list .int]=true:=(pre_splitW cp).1;have hc:l.pre.holds [] {args:=args}=true:=(pre_splitW cp).2;obtain⟨d,r,rfl,h1,h2⟩:=hasAllW_cons up;obtain rfl:=hasAllW_nil h2;obtain⟨xs,rfl,h3⟩:=hasW_list h1;obtain⟨ns,rfl⟩:=items_int h3;have hlen:ns.length<=n:=by
  unfold OpenLaw.pre at hc;have h4:(WTm.not (.lt (.lit (.int (n:Int))) (.len (.arg 0)))).holds [] {args:=[.list (ns.map .int)]}=true:=by
   have h4:=(holds_andW hc).1;rw[hn] at h4;exact h4
  have h5:=condW_of h4 (w_not (w_lt w_lit (w_len_list (w_arg rfl))));rw[zc] at h5;refine Nat.le_of_not_lt λ q=>?_;have q':(n:Int)<((ns.length:Nat):Int):=by omega
  first
   |(rw[decide_eq_true q'] at h5;exact absurd h5 (by decide))
   |(simp at h5;omega)
 cases mt with
 |cons w1 w2 =>
  cases w2;cases w1 with
  |list ho a6=>exact⟨_,_,ns,rfl,rfl,ho,LM ns _ a6,hlen⟩
def Wu (l:OpenLaw)(args:List WData):l.row.toRowW.claim.post args (.bool true) args=true:=
 postW_of (r:=l.row.toRowW) (X:=(true==true))
  (show WShape.has [] (.bool true) .bool=true by first|rfl|decide|simp[WShape.has,WShape.arms,WShape.armsAll])
  (show (WTm.eq .res (.lit (.bool true))).value [] {args:=args,res:=some (.bool true),after:=args}=some (.bool (true==true)) from w_eq_bool (w_res rfl) w_lit) rfl
end re
namespace L2
open PySem PySem.Spec PyProof.Rows
def OL:∀ {vs:List Value}{ns:List Int},IntsAre vs ns->Vals (ns.map V.int) vs
 |_,_,.nil=>.nil
 |_,_,.cons n t h=>.cons ⟨t,rfl⟩ (OL h)
abbrev eS (H:Hp):Prop:=∀b,H b=none\/∃o xs,H b=some (.XH o (.lst xs))
def RH {P:Program}{w:World}{K:za}{mg mb:Str->Option Value}{CX:V0}{k:Nat}{fa a:Addr}{fd:FuncData}{x:Str}{sp:Sp}{s₁:Shared}{vs:List Value}{ns:List Int}
 (KX:K.In s₁.heap) (mw:s₁.heap.Ns mainGlobals mg) (hb:s₁.heap.Ns builtinsNs mb) (uq:∀x:Str,x ≠ "__name__" -> mb x=bootBuiltins x) (mx:s₁.heap.NoLimit) (hg:s₁.gens=#[])
 (ha:s₁.heap.get? a=some {cls:=.type "list",data:=.seq vs.toArray}) (hi:IntsAre vs ns) (hl:ns.length<=sizeLine) (hr:BE k callerA)
 (F:∀base:Heap,K.In base->base.Ns mainGlobals mg->Dn P w K mg base CX k fa fd [x] sp) (iw:∀(s:Shared) (u:Value),BindsTo s fd ⟨[u],[]⟩ [(x,u)])
 (bE:∀H:Hp,eS H->Di K H a (ns.map V.int)->sp [.ref a] H (λ v _=>v=.bl true) λ _ _ _=>False)
 (ix:∀H e s',CX [] H s₁ (λ _ _ _=>False) e s'->False):
 codeAny (model P w) callerA (.call (.ref fa) ⟨[.ref a],[]⟩) (λ r s'=>r=.ok (.ret (.bool true))/\OldK s₁.heap s'.heap/\s'.os=s₁.os/\AllBare s'.gens) s₁:=by
 have rv:=OL hi;have my:=hi.length;have core:∀H:Hp,eS H->Di K H a (ns.map V.int)->G7 P w H s₁.heap->(∀b,H b≠none->b=a)->(H a≠none->K.lookup a=none)->
  codeAny (model P w) callerA (.call (.ref fa) ⟨[.ref a],[]⟩) (λ r s'=>r=.ok (.ret (.bool true))/\OldK s₁.heap s'.heap/\s'.os=s₁.os/\AllBare s'.gens) s₁:=by
  intro H hO hS Au hA hK;have bA:∀ {b:Addr} {o:Obj},s₁.heap.get? b=some o->H b=none->(PX s₁.heap H).get? b=some o:=λ e n=>XT e n;have im:∀ {b:Addr} {o:Obj} {es:Array DictEntry} {ep:Nat},s₁.heap.get? b=some o->o.data=.dict es ep->H b=none:=fun {b o es ep} e d=>by
   cases q:H b with
   |none=>rfl
   |some u =>
    have e':b=a:=hA b (by rw[q];simp);subst e';rw[ha] at e;cases e;have d':Data.seq vs.toArray _=Data.dict es ep:=d;cases d'
  have ko:∀ {b:Addr} {m:Str->Option Value},s₁.heap.Ns b m->(PX s₁.heap H).Ns b m:=fun {b m} ⟨o,es,ep,e,d,r⟩=>⟨o,es,ep,bA e (im e d),d,r⟩;have rf:K.In (PX s₁.heap H):=λ b o e=>bA (KX b o e) (by
   cases q:H b with
   |none=>rfl
   |some u =>
    have e':b=a:=hA b (by rw[q];simp);subst e';rw[hK (by rw[q];simp)] at e;cases e)
  have hM:Mod K mg (PX s₁.heap H):=⟨rf,ko mw,⟨mb,ko hb,uq⟩,let ⟨mc,h1,h2⟩:=mx;⟨mc,ko h1,h2⟩⟩;have e0:TV P w K mg (PX s₁.heap H) callerA [] s₁ H:=⟨rfl,hM,λ b o e=>dO e,Nat.le_of_eq (Wh _ _),trivial,λ b hb=>absurd (show b∈([]:List Addr) from hb) (by simp),Au,.of_eq hg⟩;refine codeAny_mono ((F _ rf (ko mw)).run callerA [] s₁ H ⟨[.ref a],[]⟩ [.ref a] [.ref a] _ _ hr e0 (iw s₁ (.ref a)) (.cons rfl .nil) (bE H hO hS)) λ r s' h=>?_;cases r with
  |error e=>exact (ix H e s' h).elim
  |ok fl =>
   cases fl with
   |next|brk|cont=>exact zan h
   |ret u =>
    obtain⟨v,H',os,bare,un,d9,r',q⟩:=h;have q':v=.bl true:=q;subst q';obtain rfl:u=Value.bool true:=r';refine⟨rfl,OldK.of_keep λ b o e=>?_,os,bare⟩;cases q:H b with
    |none=>exact un.keep b o e q (by intro z;exact absurd (show b∈([]:List Addr) from z) (by simp)) (by simp)
    |some u =>
     rcases hO b with z|⟨ob,xs,z⟩
     ·rw[q] at z;cases z
     ·have z2:=un.O3 b ob _ z;obtain⟨e1,_⟩:=Au b _ z;obtain⟨e2,_⟩:=d9 b _ z2;rw[e] at e1;cases e1;exact e2
 cases hk:K.lookup a with
 |some o =>
  have e:=KX a o hk;rw[ha] at e;cases e;refine core (λ _=>none) (λ _=>.inl rfl) (.inr ⟨_,vs.toArray,_,hk,rfl,rfl,rfl,by rw[zm,my];exact hl,by simpa using rv⟩) (λ b u z=>by have z':(none:Option HO)=some u:=z;cases z') (λ b z=>absurd rfl z) λ z=>absurd rfl z
 |none =>
  refine core (λ b=>if b=a then some (.XH {cls:=.type "list",data:=.seq vs.toArray} (.lst (ns.map V.int))) else none) (λ b=>?_) (.inl (.inr ⟨{cls:=.type "list",data:=.seq vs.toArray},if_pos rfl⟩)) (λ b u z=>?_) (λ b z=>?_) λ _=>hk
  ·by_cases hb:b=a
   ·exact .inr ⟨_,_,if_pos hb⟩
   ·exact .inl (if_neg hb)
  ·by_cases hb:b=a
   ·have z':=(if_pos hb).symm.trans z;cases z';subst hb;exact⟨ha,by rw[zc];exact hl,vs,_,rv,ha⟩
   ·have z':=(if_neg hb).symm.trans z;cases z'
  ·by_cases hb:b=a
   ·exact hb
   ·exact absurd (if_neg hb) z
noncomputable abbrev eT:V0:=λ _ _ _ _ _ _=>False
noncomputable abbrev E0:XK:=λ _ _ _=>False
structure XN (K:za)(x qual:Str)(st:Stmt)(f:Addr)(fd:FuncData):Prop where
 ex:∃(oc:Value) (od:Option Addr) (kV doc pm:Value) (an:Option Addr) (B4 ct:Value) (Tt:Array (Option Value)),
  fd=yI x qual (Bo st) (AR st) (A5 st) .none kV doc pm an B4 ct/\K.lookup f=some ⟨oc,od,.func fd,Tt⟩/\za4 K B4 qual=true
 kp:zX K (.ref f)=true
section
variable {P:Program}{w:World}{K:za}{mg:Str->Option Value}{base:Heap}
def XN.ok {x qual:Str}{st:Stmt}{f:Addr}{fd:FuncData}{N ps:List Str}{k:Nat}{sp:Sp}(F:XN K x qual st f fd)(S:Ac N ps (A5 st))(len:∀vs H Q E,sp vs H Q E->vs.length=ps.length)
 (bN:∀(B4:Value) (A:Around) (outer:List Env) (s:Shared) (H:Hp) (vs:List V) (Q:VK) (E:XK),BE k (A.deeper (envOfC qual (A5 st) s.heap.objs.size f B4))->sp vs H Q E->
  ∃t,UY (RC eT P w K mg base N qual (A5 st) f B4 A outer s H E).qO (AR st) t/\t {nx:=λ _ H'=>Q .AK H',rt:=Q} (start N vs) H):Dn P w K mg base eT (k+1) f fd ps sp:=by
 obtain⟨oc,od,kV,doc,pm,an,B4,ct,Tt,rfl,lk,aX⟩:=F.ex;refine V5 lk aX S len λ A outer s H vs Q E hr bE=>?_;obtain⟨t,h,q⟩:=bN B4 A outer s H vs Q E hr bE;exact⟨t,h.qO,q⟩
def XN.binds {x qual:Str}{st:Stmt}{f:Addr}{fd:FuncData}{ps:List Str}(F:XN K x qual st f fd)
 (h:∀(kV doc pm:Value) (an:Option Addr) (B4 ct:Value) (us:List Value),us.length=ps.length->bindArgs (yI x qual (Bo st) (AR st) (A5 st) .none kV doc pm an B4 ct) ⟨us,[]⟩=pure (ps.zip us)):Binds K fd ps []:=by
 obtain⟨oc,od,kV,doc,pm,an,B4,ct,Tt,rfl,lk,aX⟩:=F.ex;exact .all (h kV doc pm an B4 ct)
def TZ {x qual:Str}{st:Stmt}{f:Addr}{oc:Value}{od an:Option Addr}{Tt:Array (Option Value)}{kV doc pm B4 ct:Value}(l:K.lookup f=some ⟨oc,od,.func (yI x qual (Bo st) (AR st) (A5 st) .none kV doc pm an B4 ct),Tt⟩)
 (c:za4 K B4 qual=true) (k:zX K (.ref f)=true):XN K x qual st f (yI x qual (Bo st) (AR st) (A5 st) .none kV doc pm an B4 ct):=⟨⟨oc,od,kV,doc,pm,an,B4,ct,Tt,rfl,l,c⟩,k⟩
end
def AD {n:Nat}(h:n<=1000):n<sizeLine:=Nat.lt_of_le_of_lt h (by decide)
section
variable {X:Cx}
def pv (i:Nat){x:Str}{pos:Pos}(hN: ~~~(X.N[i]?=some x))(hv:uT X.env.scope x:=by first | exact zK rfl | exact Or.inr (zK rfl) | exact Or.inr (Or.inr rfl))(hd:(x==("__debug__" : Str))=false:=by decide)(aX:(x==("__classdict__" : Str))=false:=by decide):PE X (.Name x pos) (LK i):=lG hN hv hd aX
end
abbrev Ae (H H':Hp):Prop:=∀b o,H b=some o->H' b=some o
def Ae.refl (H:Hp):Ae H H:=λ _ _ h=>h
def Ae.trans {H H1 H2:Hp}(a:Ae H H1)(b:Ae H1 H2):Ae H H2:=λ c o h=>b c o (a c o h)
def Ae.seq {K:za}{H H':Hp}{a:Addr}{xs:List V}(e:Ae H H')(h:Di K H a xs):Di K H' a xs:=by
 rcases h with (h|⟨o,h⟩)|h
 ·exact .inl (.inl (e _ _ h))
 ·exact .inl (.inr ⟨o,e _ _ h⟩)
 ·exact .inr h
section
variable {κ:Type} [DecidableEq κ]
abbrev O8 (kvs:List (κ×V))(k:κ):Option V:=(kvs.find? λ kv=>decide (kv.1=k)).map (·.2)
abbrev putK (kvs:List (κ×V))(k:κ)(v:V):List (κ×V):=
 if (kvs.any λ kv=>decide (kv.1=k))=true then kvs.map (λ kv=>if kv.1=k then (kv.1,v) else kv) else kvs++[(k,v)]
def MA {p:κ×V}{r:List (κ×V)}{k:κ}(e:p.1=k):O8 (p::r) k=some p.2:=by simp[O8,zb2,e]
def MB {p:κ×V}{r:List (κ×V)}{k:κ}(e:¬ p.1=k):O8 (p::r) k=O8 r k:=by simp[O8,zb2,e]
def RI (k:κ):∀kvs:List (κ×V),(kvs.any λ kv=>decide (kv.1=k))=(O8 kvs k).isSome
 |[]=>rfl
 |p::r=>by
  rw[zab];by_cases e:p.1=k
  ·simp only[MA e,decide_eq_true e,Bool.true_or,Option.isSome_some]
  ·rw[MB e,decide_eq_false e,Bool.false_or];exact RI k r
def Dp (kvs:List (κ×V))(k:κ)(v:V):(putK kvs k v).length<=kvs.length+1:=by
 unfold putK;split
 ·rw[zc];omega
 ·rw[zA,zj,List.length_nil];omega
def G6.EX {o:Option V}{u:Option Value}(r:G6 o u):o.isSome=u.isSome:=by
 cases o with
 |none=>cases u with
  |none=>rfl
  |some _=>exact (show False from r).elim
 |some _=>cases u with
  |none=>exact (show False from r).elim
  |some _=>rfl
def G6.getD {o:Option V}{u:Option Value}{d:V}{d':Value}(r:G6 o u)(rd:RelV d d'):RelV (o.getD d) (u.getD d'):=by
 cases o with
 |none=>cases u with
  |none=>exact rd
  |some _=>exact (show False from r).elim
 |some _=>cases u with
  |none=>exact (show False from r).elim
  |some _=>exact r
def KV.val {kvs:List (κ×V)}{vs:List (κ×Value)}(r:KV kvs vs)(k:κ):G6 (O8 kvs k) (valueAt vs k):=by
 unfold KV at r;induction r with
 |nil=>exact zav
 | @cons p q ps qs h t ih =>
  obtain⟨h1,h2⟩:=h;by_cases e:p.1=k
  ·have e':q.1=k:=h1.symm.trans e;have b:valueAt (q::qs) k=some q.2:=by simp[valueAt,zb2,e']
   rw[MA e,b];exact h2
  ·have e':¬ q.1=k:=λ z=>e (h1.trans z);have b:valueAt (q::qs) k=valueAt qs k:=by simp[valueAt,zb2,e']
   rw[MB e,b];exact ih
def KV.any {kvs:List (κ×V)}{vs:List (κ×Value)}(r:KV kvs vs)(k:κ):(kvs.any λ kv=>decide (kv.1=k))=vs.any λ kv=>decide (kv.1=k):=by
 unfold KV at r;induction r with
 |nil=>rfl
 |cons h t ih=>rw[zab,zab,ih,h.1]
def KV.mP {kvs:List (κ×V)}{vs:List (κ×Value)}(r:KV kvs vs)(k:κ){y:V}{u:Value}(ry:RelV y u):
 KV (kvs.map λ kv=>if kv.1=k then (kv.1,y) else kv) (vs.map λ kv=>if kv.1=k then (kv.1,u) else kv):=by
 unfold KV at r ⊢;induction r with
 |nil=>exact .nil
 | @cons p q ps qs h t ih =>
  rw[zf,zf];refine .cons ?_ ih;obtain⟨h1,h2⟩:=h;by_cases e:p.1=k
  ·rw[if_pos e,if_pos (h1.symm.trans e)];exact⟨h1,ry⟩
  ·rw[if_neg e,if_neg (λ z=>e (h1.trans z))];exact⟨h1,h2⟩
def KV.put {kvs:List (κ×V)}{vs:List (κ×Value)}(r:KV kvs vs)(k:κ){y:V}{u:Value}(ry:RelV y u):KV (putK kvs k y) (stored vs k u):=by
 unfold putK stored;rw[r.any k];by_cases e:(vs.any λ kv=>decide (kv.1=k))=true
 ·rw[if_pos e,if_pos e];exact r.mP k ry
 ·rw[if_neg e,if_neg e];exact Paired.snoc r ⟨rfl,ry⟩
def KV.length {kvs:List (κ×V)}{vs:List (κ×Value)}(r:KV kvs vs):kvs.length=vs.length:=Paired.length r
end
def Lb {P:Program}{w:World}{k:Key}{u:Value}(r:RelV (kV k) u):(B3 P w).is k u=true:=by
 cases k with
 |inl i=>obtain⟨t,e⟩:=(show ∃t,u=Value.int i t from r);subst e;exact Ru P w i t
 |inr x=>obtain⟨t,e⟩:=(show ∃t,u=Value.str x t from r);subst e;exact Rv P w x t
def OM {P:Program}{w:World}:∀ {ks:List Key}{us:List Value},Vals (ks.map kV) us->ItemsAre (B3 P w) ks us
 |[],_,r=>by rw[zaq] at r;cases r;exact .nil
 |k::ks,_,r=>by
  rw[zf] at r;cases r with
  |cons h t=>exact .cons (Lb h) (OM t)
noncomputable abbrev KT (H:Hp):List (List Key×V)->List (List Key×Addr×Value)->Prop:=Paired λ p q=>p.1=q.1/\H q.2.1=some (.tup (p.1.map kV))/\RelV p.2 q.2.2
def KT.val {H:Hp}{kvs:List (List Key×V)}{xs:List (List Key×Addr×Value)}(r:KT H kvs xs)(k:List Key):G6 (O8 kvs k) ((atKey xs k).map (·.2)):=by
 induction r with
 |nil=>exact zav
 | @cons p q ps qs h t ih =>
  obtain⟨h1,_,h2⟩:=h;by_cases e:p.1=k
  ·have e':q.1=k:=h1.symm.trans e;have b:atKey (q::qs) k=some q.2:=by simp[atKey,zb2,e']
   rw[MA e,b];exact h2
  ·have e':¬ q.1=k:=λ z=>e (h1.trans z);have b:atKey (q::qs) k=atKey qs k:=by simp[atKey,zb2,e']
   rw[MB e,b];exact ih
def KT.mP {H:Hp}{kvs:List (List Key×V)}{xs:List (List Key×Addr×Value)}(r:KT H kvs xs)(k:List Key){y:V}{u:Value}(ry:RelV y u):
 KT H (kvs.map λ kv=>if kv.1=k then (kv.1,y) else kv) (xs.map (putAt k u)):=by
 induction r with
 |nil=>exact .nil
 | @cons p q ps qs h t ih =>
  rw[zf,zf];refine .cons ?_ ih;obtain⟨h1,h2,h3⟩:=h;unfold putAt;by_cases e:p.1=k
  ·rw[if_pos e,if_pos (h1.symm.trans e)];exact⟨h1,h2,ry⟩
  ·rw[if_neg e,if_neg (λ z=>e (h1.trans z))];exact⟨h1,h2,h3⟩
def KT.put {H:Hp}{kvs:List (List Key×V)}{xs:List (List Key×Addr×Value)}(r:KT H kvs xs)(k:List Key){b:Addr}{y:V}{u:Value}(hb:H b=some (.tup (k.map kV)))(ry:RelV y u):
 KT H (putK kvs k y) (storedH xs k b u):=by
 have e:(kvs.any λ kv=>decide (kv.1=k))=(atKey xs k).isSome:=by
  rw[RI,(r.val k).EX,Option.isSome_map]
 unfold putK storedH;rw[e];by_cases q:(atKey xs k).isSome=true
 ·rw[if_pos q,if_pos q];exact r.mP k ry
 ·rw[if_neg q,if_neg q];exact Paired.snoc r ⟨rfl,hb,ry⟩
def KT.keeps {H H':Hp}{kvs:List (List Key×V)}{xs:List (List Key×Addr×Value)}(r:KT H kvs xs)(ht:∀b ys,H b=some (.tup ys)->H' b=some (.tup ys)):KT H' kvs xs:=
 Paired.lD r λ _ _ z=>⟨z.1,ht _ _ z.2.1,z.2.2⟩
section
variable {P:Program}{w:World}{H:Hp}{h:Heap}{a:Addr}
def jU {u:HO}(ok:G7 P w H h)(e:Rd H a u):BS P w H h a u:=e.ok ok
def MC {kvs:List (Key×V)}(ok:G7 P w H h)(e:Rd H a (.dK kvs)):kvs.length<=sizeLine/\(a==sysModules)=false/\∃vs,KV kvs vs/\h.DictOf (B3 P w) a vs:=
 show BS P w H h a (.dK kvs) from jU ok e
def jV {kvs:List (Key×V)}(ok:G7 P w H h)(e:H a=some (.dK kvs)):kvs.length<=sizeLine/\(a==sysModules)=false/\∃vs,KV kvs vs/\h.DictOf (B3 P w) a vs:=MC ok (.inl e)
def Ir {ks:List Key}(ok:G7 P w H h)(e:H a=some (.tup (ks.map kV))):(tupleKind (B3 P w)).is h ks a:=by
 obtain⟨_,ac,r,o,h1,h2,n,h3⟩:=(show BS P w H h a (.tup (ks.map kV)) from ok a _ e);exact⟨o,ac.toArray,n,h1,h2,h3,by simpa using OM r⟩
def MD {kvs:List (List Key×V)}(ok:G7 P w H h)(e:Rd H a (.dT kvs)):kvs.length<=sizeLine/\(a==sysModules)=false/\
 ∃xs,KT H kvs xs/\h.DictOfH (tupleKind (B3 P w)) a xs:=by
 obtain⟨z,y,xs,r,o,es,ep,h1,h2,h3,h4,h5⟩:=(show BS P w H h a (.dT kvs) from jU ok e);refine⟨z,y,xs,r,o,es,ep,h1,h2,h3,h4,λ x hx=>?_,h5⟩;have all:∀ {l:List (List Key×V)} {m:List (List Key×Addr×Value)},KT H l m->∀x∈m,(tupleKind (B3 P w)).is h x.1 x.2.1:=by
  intro l m q;induction q with
  |nil=>intro x hx;exact nomatch hx
  | @cons p q ps qs hq t ih =>
   intro x hx;rcases zp.mp hx with e|hx
   ·subst e;exact Ir ok (by rw[<-hq.1];exact hq.2.1)
   ·exact ih x hx
 exact all r x hx
def rL {kvs:List (List Key×V)}(ok:G7 P w H h)(e:H a=some (.dT kvs)):kvs.length<=sizeLine/\(a==sysModules)=false/\
 ∃xs,KT H kvs xs/\h.DictOfH (tupleKind (B3 P w)) a xs:=MD ok (.inl e)
end
abbrev Q9 (H:Hp)(a:Addr)(y:V)(r:Option V):Prop:=
 (∃kvs k,Rd H a (.dK kvs)/\y=kV k/\r=O8 kvs k)\/∃kvs k b,Rd H a (.dT kvs)/\y=.ref b/\H b=some (.tup (k.map kV))/\r=O8 kvs k
abbrev rM (H:Hp)(a:Addr)(y v:V)(H':Hp):Prop:=
 (∃kvs k,H a=some (.dK kvs)/\y=kV k/\kvs.length<sizeLine/\H'=upd H a (.dK (putK kvs k v))) \/
 ∃kvs k b,H a=some (.dT kvs)/\y=.ref b/\H b=some (.tup (k.map kV))/\kvs.length<sizeLine/\H'=upd H a (.dT (putK kvs k v))
section
variable {X:Cx}{pins:List (Addr×Obj)}{σ:St}{H:Hp}{s:Shared}{a:Addr}{y v:V}{u r:Value}{o:Option V}{A:Around}{E:Value->Shared->Prop}
def Inv.big (I:Inv X pins σ H s):sysModules<s.heap.objs.size:=by
 have h:mainGlobals<s.heap.objs.size:=(I.mod.glob.keeps I.bk).lt;exact Nat.lt_trans (by decide) h
def Wv {Q:Value->Shared->Prop}(hu:A.units+1<cLine)(I:Inv X pins σ H s)(g:Q9 H a y (some v))(ry:RelV y u)(h:∀w' s',Inv X pins σ H s'->RelV v w'->Q w' s'):
 wpAny (model X.prog X.w) A (getItem (.ref a) u) Q E s:=by
 rcases g with ⟨kvs,k,e,ey,l⟩|⟨kvs,k,b,e,ey,eb,l⟩
 ·subst ey;obtain⟨z,hd,vs,rel,dd⟩:=MC I.Au e;obtain⟨w',hw,aZ⟩:=G6.some_of (v:=v) (o:=valueAt vs k) (by rw[l];exact rel.val k);exact wpAny_getItem_of (Lb ry) dd.mapOf hw (h w' _ (I.tok _) aZ)
 ·subst ey;cases (show u=yL b from ry);obtain⟨z,hd,xs,rel,dd⟩:=MD I.Au e;obtain⟨w',hw,aZ⟩:=G6.some_of (v:=v) (o:=(atKey xs k).map (·.2)) (by rw[l];exact rel.val k);obtain⟨p,hp,ur⟩:=yT.mp hw;refine wpAny_getItem_heap (tupleKind_room_in1 hu) (Ir I.Au eb) dd hp ?_;rw[ur];exact h w' _ (I.tok _) aZ
def vQ {Q:Value->Shared->Prop}(hu:A.units+1<cLine)(I:Inv X pins σ H s)(g:Q9 H a y o)(ry:RelV y u)(h:∀s',Inv X pins σ H s'->Q (.bool o.isSome) s'):
 wpAny (model X.prog X.w) A (compareOp .In u (.ref a)) Q E s:=by
 rcases g with ⟨kvs,k,e,ey,l⟩|⟨kvs,k,b,e,ey,eb,l⟩
 ·subst ey;obtain⟨z,hd,vs,rel,dd⟩:=MC I.Au e;refine wpAny_in_of (Lb ry) hd dd.mapOf ?_;rw[<-(rel.val k).EX,<-l];exact h _ (I.tok _)
 ·subst ey;cases (show u=yL b from ry);obtain⟨z,hd,xs,rel,dd⟩:=MD I.Au e;refine wpAny_in_heap (tupleKind_room_in1 hu) (Ir I.Au eb) hd dd ?_;have q:=(rel.val k).EX;rw[Option.isSome_map] at q;rw[<-q,<-l];exact h _ (I.tok _)
def eU {Q:Value->Shared->Prop}(hu:A.units+1<cLine)(I:Inv X pins σ H s)(g:Q9 H a y o)(ry:RelV y u)(h:∀s',Inv X pins σ H s'->Q (.bool (!o.isSome)) s'):
 wpAny (model X.prog X.w) A (compareOp .NotIn u (.ref a)) Q E s:=by
 rcases g with ⟨kvs,k,e,ey,l⟩|⟨kvs,k,b,e,ey,eb,l⟩
 ·subst ey;obtain⟨z,hd,vs,rel,dd⟩:=MC I.Au e;refine wpAny_notIn_of (Lb ry) hd dd.mapOf ?_;rw[<-(rel.val k).EX,<-l];exact h _ (I.tok _)
 ·subst ey;cases (show u=yL b from ry);obtain⟨z,hd,xs,rel,dd⟩:=MD I.Au e;refine wpAny_notIn_heap (tupleKind_room_in1 hu) (Ir I.Au eb) hd dd ?_;have q:=(rel.val k).EX;rw[Option.isSome_map] at q;rw[<-q,<-l];exact h _ (I.tok _)
def Qa {h':Heap}{t':Nat}{ob:HO}(I:Inv X pins σ H s)(mu:qG (H a))(hs:Heap.SameBut a s.heap h')(he:∃q,h'.get? a=some q)(new:BS X.prog X.w (upd H a ob) h' a ob):
 Inv X pins σ (upd H a ob) {s with heap:=h',toks:=t' }:=
 I.write (x:=a) (e:=a) mu (.inl rfl) (λ b q hb z=>(hs.2 b hb).trans z) he new
def Yq {P:Program}{w:World}{H':Hp}{h':Heap}{kvs:List (Key×V)}{vs:List (Key×Value)}(z:kvs.length<=sizeLine)(hd:(a==sysModules)=false)(rel:KV kvs vs)(dd:h'.DictOf (B3 P w) a vs):
 BS P w H' h' a (.dK kvs):=⟨z,hd,vs,rel,dd⟩
def Ww {H':Hp}{Q:Unit->Shared->Prop}(hu:A.units+1<cLine)(I:Inv X pins σ H s)(g:rM H a y v H')(ry:RelV y u)(rv:RelV v r)(h:∀s',Inv X pins σ H' s'->Q () s'):
 wpAny (model X.prog X.w) A (setItem (.ref a) u r) Q E s:=by
 rcases g with ⟨kvs,k,e,ey,l,eH⟩|⟨kvs,k,b,e,ey,eb,l,eH⟩
 ·subst ey eH;obtain⟨z,hd,vs,rel,dd⟩:=jV I.Au e;have hz:vs.length<=sizeLine:=by rw[<-rel.length];exact z
  have hl:(putK kvs k v).length<=sizeLine:=by have:=Dp kvs k v;omega
  refine wpAny_setItem_pairs (hsz:=hz) (Lb ry) dd λ h' dL hs=>h _ ?_;have he:∃q,h'.get? a=some q:=let ⟨q,_,_,hq,_⟩:=dL;⟨q,hq⟩;exact Qa I (by rw[e];exact zav) hs he (Yq hl hd (rel.put k rv) dL)
 ·subst ey eH;cases (show u=yL b from ry);obtain⟨z,hd,xs,rel,dd⟩:=rL I.Au e;have hz:xs.length<=sizeLine:=by rw[<-Paired.length rel];exact z
  have hl:(putK kvs k v).length<=sizeLine:=by have:=Dp kvs k v;omega
  refine wpAny_setItem_heap (hsz:=hz) (tupleKind_room_in1 hu) (Ir I.Au eb) dd λ h' dL hs=>h _ ?_;obtain⟨q,es,ep,hq,h2,h3,h4,_,h5⟩:=dL;refine Qa I (by rw[e];exact zav) hs ⟨q,hq⟩ ⟨hl,hd,_,(rel.put k eb rv).keeps λ c ys ec=>?_,q,es,ep,hq,h2,h3,h4,h5⟩;rw[Aj (qE ec e (λ z=>nomatch z))];exact ec
end
def RJ {X:Cx}{pins:List (Addr×Obj)}{σ:St}{H:Hp}{s:Shared}{a:Addr}{y:V}{o:Option V}(I:Inv X pins σ H s)(g:Q9 H a y o):s.TypeIs (.ref a) "dict" := by
 rcases g with ⟨kvs,k,e,_,_⟩|⟨kvs,k,b,e,_,_,_⟩
 ·obtain⟨_,_,vs,_,dd⟩:=MC I.Au e;exact dd.typeIs
 ·obtain⟨_,_,xs,_,dd⟩:=MD I.Au e;exact dd.typeIs
abbrev rN (td ty tv:TE):TS:=λ D σ H=>tv σ H λ v H1=>td σ H1 λ x H2=>ty σ H2 λ y H3=>∃a H4,x=.ref a/\rM H3 a y v H4/\D.nx σ H4
section
variable {X:Cx}{o i e value:Expr}{pos pos' bu:Pos}{td ty tv:TE}
def eV (hu:X.A.units+1<cLine)(ho:PE X o td)(hi:PE X i ty)(hv:PE X value tv)(hs:swapsWith value (some (.Subscript o i pos')) pos.line X.env=pure false):
 PS X (.Assign [.Subscript o i pos'] value pos) (rN td ty tv):=by
 intro pins s σ H D I h;refine wpAny_Assign_Subscript (Bj (hv pins s σ H _ I h) λ r s1 ⟨v,H1,I1,rv,q1⟩=>Bj (ho pins s1 σ H1 _ I1 q1) λ u s2 ⟨x,H2,I2,rx,q2⟩=>Bj (hi pins s2 σ H2 _ I2 q2) λ iv s3 zz=>?_) hs;obtain⟨y,H3,I3,ry,a,H4,ex,g,q3⟩:=zz;subst ex;obtain rfl:u=yL a:=rx;exact Ww hu I3 g ry rv λ s4 I4=>⟨σ,H4,I4,q3⟩
end
def RK {P:Program}{w:World}{H:Hp}(h:Heap)(hb:sysModules<h.objs.size):BS P w H (h.push {cls:=.type "dict",data:=.dict #[]}) h.objs.size (.dK []):=
 ⟨zR _,beq_eq_false_iff_ne.mpr (zY (z6 hb)),[],.nil,Heap.DictOf.new h⟩
def Yr {P:Program}{w:World}{H:Hp}(h:Heap)(hb:sysModules<h.objs.size):BS P w H (h.push {cls:=.type "dict",data:=.dict #[]}) h.objs.size (.dT []):=
 ⟨zR _,beq_eq_false_iff_ne.mpr (zY (z6 hb)),[],.nil,_,#[],0,zE _ rfl,⟨rfl,rfl,rfl⟩,rfl,rfl,yY⟩
abbrev mQ:TE:=λ _ H Q=>∀p,H p=none->Q (.ref p) (upd H p (.dK []))
abbrev mR:TE:=λ _ H Q=>∀p,H p=none->Q (.ref p) (upd H p (.dT []))
section
variable {X:Cx}{pos:Pos}
def Ys:PE X (.Dict [] [] pos) mQ:=λ pins s σ H Q I h =>
 wpAny_Dict_empty ⟨.ref s.heap.objs.size,_,I.laid (a:=s.heap.objs.size) (o:=.dK []) (t':=s.toks) (λ _ _ q=>zo _ q) (zu _) (RK s.heap I.big),rfl,h _ (I.Au.fresh (zu _))⟩
def Yt:PE X (.Dict [] [] pos) mR:=λ pins s σ H Q I h =>
 wpAny_Dict_empty ⟨.ref s.heap.objs.size,_,I.laid (a:=s.heap.objs.size) (o:=.dT []) (t':=s.toks) (λ _ _ q=>zo _ q) (zu _) (Yr s.heap I.big),rfl,h _ (I.Au.fresh (zu _))⟩
end
abbrev U0:List (TE×TE)->St->Hp->(List (V×V)->Hp->Prop)->Prop
 |[],_,H,Q=>Q [] H
 |(tk,tv)::r,σ,H,Q=>tk σ H λ x H1=>tv σ H1 λ y H2=>U0 r σ H2 λ ps H3=>Q ((x,y)::ps) H3
noncomputable abbrev VV:List (V×V)->List (Value×Value)->Prop:=Paired λ p q=>RelV p.1 q.1/\RelV p.2 q.2
abbrev uB (X:Cx)(pos:Pos)(keys:List (Option Expr))(values:List Expr)(cq:List (TE×TE)):Prop:=
 ∀(pins:List (Addr×Obj)) (s:Shared) (σ:St) (H:Hp) (Q:List (V×V)->Hp->Prop),Inv X pins σ H s->U0 cq σ H Q->
  wpAny (model X.prog X.w) X.A (evalPairs (pairTrees keys values X.env pos)) (λ vs s'=>∃ps H',Inv X pins σ H' s'/\VV ps vs/\Q ps H') X.xe s
def eW {X:Cx}{pos:Pos}:uB X pos [] [] []:=λ pins s σ H Q I h=>pairTrees_nil_walk ⟨[],H,I,.nil,h⟩
def Yu {X:Cx}{pos:Pos}{k v:Expr}{ks:List (Option Expr)}{vs:List Expr}{tk tv:TE}{cq:List (TE×TE)}(hk:PE X k tk)(hv:PE X v tv)(hr:uB X pos ks vs cq):
 uB X pos (some k::ks) (v::vs) ((tk,tv)::cq):=λ pins s σ H Q I h =>
 pairTrees_cons_walk (Bj (hk pins s σ H _ I h) λ u s1 ⟨x,H1,I1,rx,q1⟩=>Bj (hv pins s1 σ H1 _ I1 q1) λ w2 s2 ⟨y,H2,I2,ry,q2⟩ =>
  Bj (hr pins s2 σ H2 _ I2 q2) λ ws s3 ⟨ps,H3,I3,rel,q3⟩=>⟨(x,y)::ps,H3,I3,.cons ⟨rx,ry⟩ rel,q3⟩)
abbrev Gn (kvs more:List (Key×V)):List (Key×V):=more.foldl (λ acc kv=>putK acc kv.1 kv.2) kvs
def KV.merge:∀ {more:List (Key×V)}{rs:List (Key×Value)}{kvs:List (Key×V)}{vs:List (Key×Value)},KV more rs->KV kvs vs->KV (Gn kvs more) (merged vs rs):=by
 intro more rs kvs vs r;unfold KV at r;induction r generalizing kvs vs with
 |nil=>intro q;exact q
 | @cons p q ps qs h t ih =>
  intro r0;have e:KV (putK kvs p.1 p.2) (stored vs q.1 q.2):=by
   have:=r0.put p.1 h.2;rw[<-h.1];exact this
  exact ih e
def HZ:∀(more kvs:List (Key×V)),(Gn kvs more).length<=kvs.length+more.length
 |[],kvs=>by show kvs.length<=kvs.length+0;omega
 |p::r,kvs=>by
  have h1:=HZ r (putK kvs p.1 p.2);have h2:=Dp kvs p.1 p.2;show (Gn (putK kvs p.1 p.2) r).length<=_;rw[zj];omega
def ME {P:Program}{w:World}:∀ {kvs:List (Key×V)}{ws:List (Value×Value)},VV (kvs.map λ kv=>(kV kv.1,kv.2)) ws->∃rs,Carries (B3 P w) ws rs/\KV kvs rs
 |[],_,r=>by rw[zaq] at r;cases r;exact⟨[],zav,.nil⟩
 |p::kvs,_,r=>by
  rw[zf] at r;cases r with
  | @cons a b as bs h t =>
   obtain⟨rs,c,q⟩:=ME (P:=P) (w:=w) t;obtain⟨b1,b2⟩:=b;exact⟨(p.1,b2)::rs,⟨Lb h.1,rfl,c⟩,.cons ⟨rfl,h.2⟩ q⟩
abbrev rO (cq:List (TE×TE)):TE:=λ σ H Q=>∀p,H p=none->U0 cq σ (upd H p (.dK [])) λ ps H2=>H2 p=some (.dK [])/\∃kvs:List (Key×V),ps=kvs.map (λ kv=>(kV kv.1,kv.2))/\kvs.length<=15/\Q (.ref p) (upd H2 p (.dK (Gn [] kvs)))
def eX {X:Cx}{pos:Pos}{keys:List (Option Expr)}{values:List Expr}{cq:List (TE×TE)}(h:uB X pos keys values cq)(a6:keys.all (·.isSome)=true)(hl:keys.length=values.length)(h0:keys≠[])
 (ut:keys.length<=15):PE X (.Dict keys values pos) (rO cq):=by
 intro pins s σ H Q I q;have hn:=I.Au.fresh (zu s.heap.objs.size);have I1:=I.laid (a:=s.heap.objs.size) (o:=.dK []) (h':=s.heap.push {cls:=.type "dict",data:=.dict #[]}) (t':=s.toks) (λ _ _ q=>zo _ q) (zu _) (RK s.heap I.big);refine wpAny_Dict_walk (knd:=B3 X.prog X.w) a6 hl h0 ut (Bj (h pins _ σ _ _ I1 (q _ hn)) λ ws s2 zz=>?_);obtain⟨ps,H2,I2,rel,e,kvs,ep,lk,q2⟩:=zz;subst ep;obtain⟨rs,c,rk⟩:=ME (P:=X.prog) (w:=X.w) rel;obtain⟨z,hd,rh,r0,dd⟩:=jV I2.Au e;cases r0;refine⟨rs,c,dd,λ h' dL hs=>⟨.ref s.heap.objs.size,_,?_,rfl,q2⟩⟩;have hz:(Gn [] kvs).length<=sizeLine:=by
  have h1:=HZ kvs [];rw[List.length_nil] at h1;rw[sizeLine_eq];omega
 have he:∃q,h'.get? s.heap.objs.size=some q:=let ⟨q,_,_,hq,_⟩:=dL;⟨q,hq⟩;exact Qa I2 (by rw[e];exact zav) hs he (Yq hz hd (rk.merge .nil) dL)
structure M1 (X:Cx)(o:Expr)(m:Str)(apos:Pos)(e:Expr)(ad:Pos):Prop where
 base:attributeBase o m X.env (eval o X.env)=eval o X.env
 xU:((backTo ad (starEach [e] X.env)).all (λ x => !x.1)&&(backToKw ad (keywordEach [] X.env)).all (λ x=>x.1.isSome)
  && decide (([e]:List Expr).length+([]:List Keyword).length+(if ([]:List Keyword).isEmpty then 0 else 1)<30))=true
 line:(apos.endLine==ad.line)=true
 rQ:backTo ad (starEach [e] X.env)=[(false,eval e X.env)]
abbrev vR (H:Hp)(a:Addr):Prop:=(∃kvs,Rd H a (.dK kvs))\/∃kvs,Rd H a (.dT kvs)
def U1 {X:Cx}{pins:List (Addr×Obj)}{σ:St}{H:Hp}{s:Shared}{a:Addr}(I:Inv X pins σ H s)(d:vR H a):
 s.TypeIs (.ref a) "dict" /\ (∀b,yL a=.ref b->∃ob,s.heap.get? b=some ob/\ob.dict=none)/\(a==sysModules)=false:=by
 rcases d with ⟨kvs,e⟩|⟨kvs,e⟩
 ·obtain⟨_,hd,vs,_,dd⟩:=MC I.Au e;refine⟨dd.typeIs,λ b q=>?_,hd⟩;cases q;obtain⟨ob,_,_,h1,h2,_⟩:=dd;exact⟨ob,h1,h2.2.1⟩
 ·obtain⟨_,hd,xs,_,dd⟩:=MD I.Au e;refine⟨dd.typeIs,λ b q=>?_,hd⟩;cases q;obtain⟨ob,_,_,h1,h2,_⟩:=dd;exact⟨ob,h1,h2.2.1⟩
section
variable {X:Cx}{pins:List (Addr×Obj)}{σ:St}{H:Hp}{s:Shared}{a:Addr}{y d:V}{u r:Value}{o:Option V}{A:Around}{E:Value->Shared->Prop}
def mS {Q:Value->Shared->Prop}(hu:A.units+1<cLine)(I:Inv X pins σ H s)(g:Q9 H a y o)(ry:RelV y u)(h:∀w' s',Inv X pins σ H s'->RelV (o.getD .AK) w'->Q w' s'):
 wpAny (model X.prog X.w) A (call (.builtin "dict.get") [.ref a,u]) Q E s:=by
 rcases g with ⟨kvs,k,e,ey,l⟩|⟨kvs,k,b,e,ey,eb,l⟩
 ·subst ey;obtain⟨z,hd,vs,rel,dd⟩:=MC I.Au e;refine call_meetsIn PySem.F.slot_dict_get dd.typeIs PySem.F.entry_dict_get (PySem.F.args_dict_get_2 _ _) (meets_dict_get (B3 X.prog X.w) a (Lb ry) hd) ⟨_,dd.mapOf,h _ _ (I.tok _) ?_⟩;rw[l];exact (rel.val k).getD rfl
 ·subst ey;cases (show u=yL b from ry);obtain⟨z,hd,xs,rel,dd⟩:=MD I.Au e;refine call_meetsIn PySem.F.slot_dict_get dd.typeIs PySem.F.entry_dict_get (PySem.F.args_dict_get_2 _ _) (meetsH_dict_get (tupleKind (B3 X.prog X.w)) a b hd) ⟨tupleKind_room_in1 hu,k,xs,Ir I.Au eb,dd,h _ _ (I.tok _) ?_⟩;rw[l];exact (rel.val k).getD rfl
end
abbrev mT (td ty:TE):TE:=λ σ H Q=>td σ H λ x H1=>∃a,x=.ref a/\vR H1 a/\ty σ H1 λ y H2=>∃o,Q9 H2 a y o/\Q (o.getD .AK) H2
section
variable {X:Cx}{o e f:Expr}{apos ad:Pos}{td ty tx:TE}
def Yv (hu:X.A.units+1<cLine)(ho:PE X o td)(he:PE X e ty)(m:M1 X o "get" apos e ad):PE X (.Call (.Attribute o "get" apos) [e] [] ad) (mT td ty):=by
 intro pins s σ H Q I h;refine wpAny_Call_method m.base m.xU m.line PySem.F.plainAttrs_dict PySem.F.slot_dict_get PySem.F.type_dict_get (Bj (ho pins s σ H _ I h) λ u s1 zz=>?_);obtain⟨x,H1,I1,rx,a,ex,d,q1⟩:=zz;subst ex;obtain rfl:u=yL a:=rx;obtain⟨t1,t2,_⟩:=U1 I1 d;refine⟨t1,t2,?_⟩;rw[m.rQ];refine Calls.callWith_builtin rfl (Calls.evalArgs_plain (zag (Bj (he pins s1 σ H1 _ I1 q1) λ iv s2 ⟨y,H2,I2,ry,ov,g,q2⟩=>zao ?_)));exact mS hu I2 g ry λ w' s3 I3 aZ=>⟨_,H2,I3,aZ,q2⟩
end
abbrev V9 (y:Str×NameKind):Bool:=y.2==.cell
abbrev Gp (sc outer:Scope):Bool:=
 decide (sc.kind=.function)&&(decide ((sc.names.filter V9).length<=1)&&sc.names.all λ y=>(decide (y.2≠.cell)||decide (sc.names.lookup y.1=some .cell))&&(decide (y.2≠.free)||decide (outer.names.lookup y.1=some .cell)||decide (outer.names.lookup y.1=some .free))&&(decide (y.2≠.local)||decide (sc.names.lookup y.1=some .local)))
abbrev Gq (names:List (Str×NameKind)):Option Str:=(names.find? V9).map (·.1)
abbrev Va (C:Addr)(names:List (Str×NameKind))(cs:List (Str×Addr)):List (Str×Addr):=match Gq names with
 |some x=>(x,C+1)::cs
 |none=>cs
def RL {names:List (Str×NameKind)}{x:Str}(h:Gq names=some x):(x,.cell)∈names:=by
 unfold Gq at h;obtain⟨y,h1,rfl⟩:=yT.mp h;have h2:=List.find?_some h1;have e:y.2=.cell:=by unfold V9 at h2;simpa using h2
 have:=List.mem_of_find?_eq_some h1;rw[<-e];exact this
def mU {names:List (Str×NameKind)}(h:(names.filter V9).length<=1){x:Str}(hx:(x,.cell)∈names):Gq names=some x:=by
 induction names with
 |nil=>cases hx
 |cons y r ih =>
  unfold Gq;cases e:V9 y with
  |true =>
   rw[zas e,zj] at h;rw[List.find?_cons_of_pos e];rcases zp.mp hx with rfl|hx
   ·rfl
   ·have:(x,NameKind.cell)∈r.filter V9:=yN.mpr ⟨hx,rfl⟩;rw[List.eq_nil_of_length_eq_zero (l:=r.filter V9) (by omega)] at this;cases this
  |false =>
   rw[zat (by rw[e];exact z8)] at h;rw[List.find?_cons_of_neg (by rw[e];exact z8)];rcases zp.mp hx with rfl|hx
   ·cases e
   ·exact ih h hx
def U2:∀ {names:List (Str×NameKind)}{n:Nat}{acc:List (Str×Addr)},(names.filter V9).length<=1->cellsFrom n names acc=match Gq names with | some x=>(x,n)::acc | none=>acc
 |[],_,_,_=>rfl
 |(x,k)::r,n,acc,h=>by
  unfold cellsFrom Gq;cases e:V9 (x,k) with
  |true =>
   rw[zas e,zj] at h;rw[List.find?_cons_of_pos e,if_pos (show (k==NameKind.cell)=true from e),U2 (by omega)];cases q:Gq r with
   |none=>rfl
   |some y =>
    have:(y,NameKind.cell)∈r.filter V9:=yN.mpr ⟨RL q,rfl⟩;rw[List.eq_nil_of_length_eq_zero (l:=r.filter V9) (by omega)] at this;cases this
  |false =>
   have e':¬ V9 (x,k)=true:=by rw[e];exact z8
   rw[zat e'] at h;rw[List.find?_cons_of_neg e',if_neg (show ¬ (k==NameKind.cell)=true from e'),U2 h];rfl
abbrev Qb (N NB:List Str)(sc:Scope)(μ:List (Option Nat)):Bool:=
 decide (NB.length=μ.length)&&(NB.zip μ).all λ p=>match p.2 with
  |none=>true
  |some i=>decide (N[i]?=some p.1)&&decide (sc.names.lookup p.1=some .free)
abbrev EJ (μ:List (Option Nat))(σ:St):St:=μ.map λ o=>o.bind λ i=>(σ[i]?).join
abbrev Fi (cells:List (Str×Addr)):List (Str×NameKind)->List (Str×Addr)->List (Str×Addr)
 |[],cs=>cs
 |(n,k)::r,cs=>Fi cells r (if (k==.free)=true then (n,(cells.lookup n).getD 0)::cs else cs)
def I0 {scope:Scope}{env:Env}(h:∀y∈scope.names,y.2=.free->∃c,env.cells.lookup y.1=some c):closureFor scope env=pure (Fi env.cells scope.names []):=by
 unfold closureFor;have key:∀(names:List (Str×NameKind)) (cs:List (Str×Addr)),(∀y∈names,y.2=.free->∃c,env.cells.lookup y.1=some c)->
  (forIn names cs λ(x:Str×NameKind) r=>match x with
   |(name,kind)=>if (kind==zay)=true then do
    let __do_lift <-cellOf env name
    pure (zbc ((name,__do_lift)::r))
    else pure (zbc r):Sem _)=pure (Fi env.cells names cs):=by
  intro names;induction names with
  |nil=>intro cs _;rfl
  |cons y r ih =>
   intro cs hy;obtain⟨n,k⟩:=y;rw[List.forIn_cons];by_cases hk:k=.free
   ·subst hk;obtain⟨c,hc⟩:=hy (n,.free) zd rfl;have e:cellOf env n=pure c:=by unfold cellOf;rw[show env.cells.lookup n=some c from hc]
    simp only[e,beq_self_eq_true,if_true,pure_bind];rw[ih _ λ z hz=>hy z (ze _ hz)];simp only[Fi,beq_self_eq_true,if_true];rw[show env.cells.lookup n=some c from hc];rfl
   ·have hb:(k==zay)=false:=by simpa using hk
    simp only[hb,zG,if_false,pure_bind];rw[ih _ λ z hz=>hy z (ze _ hz)];simp only[Fi,hb,zG,if_false]
 have q:=key scope.names [] h;simp only[bind_pure];exact q
def RM {cells:List (Str×Addr)}:∀ {names:List (Str×NameKind)}{cs:List (Str×Addr)}{x:Str}{c:Addr},(x,c)∈Fi cells names cs->(x,c)∈cs\/((x,.free)∈names/\c=(cells.lookup x).getD 0)
 |[],cs,x,c,h=>.inl h
 |(n,k)::r,cs,x,c,h=>by
  rcases RM (names:=r) h with q|⟨q,e⟩
  ·by_cases hk:k=.free
   ·subst hk;simp only[beq_self_eq_true,if_true] at q;rcases zp.mp q with z|z
    ·cases z;exact .inr ⟨zd,rfl⟩
    ·exact .inl z
   ·have hb:(k==zay)=false:=by simpa using hk
    simp only[hb,zG,if_false] at q;exact .inl q
  ·exact .inr ⟨ze _ q,e⟩
def MF {cells:List (Str×Addr)}:∀ {names:List (Str×NameKind)}{cs:List (Str×Addr)}{p:Str×Addr},p∈cs->p∈Fi cells names cs
 |[],_,_,h=>h
 |(n,k)::r,cs,p,h=>by
  show p∈Fi cells r _;refine MF ?_;by_cases hk:(k==zay)=true
  ·rw[if_pos hk];exact ze _ h
  ·rw[if_neg hk];exact h
def MG {cells:List (Str×Addr)}:∀ {names:List (Str×NameKind)}{cs:List (Str×Addr)}{x:Str},(x,.free)∈names->∃c,(x,c)∈Fi cells names cs
 |(n,k)::r,cs,x,h=>by
  rcases zp.mp h with z|z
  ·cases z;refine⟨(cells.lookup n).getD 0,?_⟩;show _∈Fi cells r (if (zay==zay)=true then _ else _);exact MF (by rw[if_pos (beq_self_eq_true _)];exact zd)
  ·exact MG (names:=r) z
def Dj {x:Str}{c:Addr}:∀ {l:List (Str×Addr)},(x,c)∈l->∃c',l.lookup x=some c'
 |(y,d)::r,h=>by
  rw[za2];by_cases e:(x==y)=true
  ·rw[e];exact⟨d,rfl⟩
  ·rw[zb5.mpr e];rcases zp.mp h with z|z
   ·cases z;exact absurd (beq_self_eq_true x) e
   ·exact Dj z
def J4 {scope:Scope}{env:Env}{x:Str}{k:NameKind}(h:(relabel scope env).names.lookup x=some k):∃k',scope.names.lookup x=some k'/\(k=k'\/(k'=.free/\k=.cell)):=by
 unfold relabel at h;dsimp only at h;revert h;induction scope.names with
 |nil=>intro h;cases h
 |cons y r ih =>
  obtain⟨n,k'⟩:=y;intro h;rw[zf,za2] at h;rw[za2];by_cases hc:(k'==zay&&env.scope.kind==.function&&env.kindOf n==some .cell)=true
  ·dsimp only at h;rw[if_pos hc] at h;dsimp only at h;cases e:x==n with
   |true =>
    rw[e] at h;have hf:k'=.free:=by
     have:=hc;simp only[zF] at this;simpa using this.1.1
    exact⟨k',rfl,.inr ⟨hf,(zD h).symm⟩⟩
   |false=>rw[e] at h;exact ih h
  ·dsimp only at h;rw[if_neg hc] at h;dsimp only at h;cases e:x==n with
   |true=>rw[e] at h;exact⟨k',rfl,.inl (zD h).symm⟩
   |false=>rw[e] at h;exact ih h
def lookup_mem {α:Type}{x:Str}{k:α}:∀ {l:List (Str×α)},l.lookup x=some k->(x,k)∈l
 |(y,d)::r,h=>by
  rw[za2] at h;cases e:x==y with
  |true =>
   rw[e] at h;cases h;have:x=y:=by simpa using e
   subst this;exact zd
  |false=>rw[e] at h;exact ze _ (lookup_mem h)
abbrev blockOf (X:Cx)(s:Shared)(H:Hp)(scope:Scope)(C:Addr)(NB:List Str)(ex:List Addr):Cx:=
 {X with N:=NB,s₀:=s,H₀:=H,env:=compEnvC scope (Va C scope.names (Fi X.env.cells scope.names [])) C X.env,outer:=X.stack,stack:=X.stack,ex:=ex,fn:=λ y=>Gq scope.names==some y,pn:=[],xe:=λ _ _=>False}
section
variable {X:Cx}{pins:List (Addr×Obj)}{σ:St}{H:Hp}{s s4:Shared}{scope:Scope}{NB:List Str}{μ:List (Option Nat)}{fp:List Addr}{C:Addr}
def Ku (h:Gp scope X.env.scope=true):scope.kind=.function:=by
 unfold Gp at h;simp only[zF,decide_eq_true_eq] at h;exact h.1
def RN {sc outer:Scope}(h:Gp sc outer=true):(sc.names.filter V9).length<=1:=by
 unfold Gp at h;rw[zF,zF,decide_eq_true_eq,decide_eq_true_eq] at h;exact h.2.1
def J5 {sc outer:Scope}(h:Gp sc outer=true){y:Str×NameKind}(hy:y∈sc.names):(y.2=.cell->sc.names.lookup y.1=some .cell)/\(y.2=.free->outer.names.lookup y.1=some .cell\/outer.names.lookup y.1=some .free)/\(y.2=.local->sc.names.lookup y.1=some .local):=by
 unfold Gp at h;simp only[zF,decide_eq_true_eq,List.all_eq_true,Bool.or_eq_true] at h;obtain⟨⟨h1,h2⟩,h3⟩:=h.2.2 y hy;exact⟨λ e=>h1.elim (λ q=>absurd e q) id,λ e=>by
  rcases h2 with (q|q)|q
  ·exact absurd e q
  ·exact .inl q
  ·exact .inr q,λ e=>h3.elim (λ q=>absurd e q) id⟩
def Iv (I:Inv X pins σ H s)(h:Gp scope X.env.scope=true){x:Str}(hx:(x,.free)∈scope.names):∃c,X.env.cells.lookup x=some c:=I.ok.has x ((J5 h hx).2.1 rfl)
def MH (I:Inv X pins σ H s)(h:Gp scope X.env.scope=true){x:Str}{c:Addr}(e:(Fi X.env.cells scope.names []).lookup x=some c):X.env.cells.lookup x=some c:=by
 rcases RM (lookup_mem e) with q|⟨q,r⟩
 ·cases q
 ·obtain⟨c',e'⟩:=Iv I h q;rw[e'] at r;rw[e',r];rfl
def D7 (I:Inv X pins σ H s)(h:Gp scope X.env.scope=true){x:Str}{c:Addr}(e:(Va C scope.names (Fi X.env.cells scope.names [])).lookup x=some c):(Gq scope.names=some x/\c=C+1)\/X.env.cells.lookup x=some c:=by
 unfold Va at e;cases q:Gq scope.names with
 |none=>rw[q] at e;exact .inr (MH I h e)
 |some y =>
  rw[q] at e;dsimp only at e;rw[za2] at e;cases b:x==y with
  |true=>rw[b] at e;cases e;exact .inl ⟨by rw[eq_of_beq b],rfl⟩
  |false=>rw[b] at e;exact .inr (MH I h e)
def MI {env:Env}(h:Gp scope env.scope=true){x:Str}{k:NameKind}(hk:(relabel scope env).names.lookup x=some k)(hc:k=.cell\/k=.free):(x,.free)∈scope.names\/Gq scope.names=some x:=by
 obtain⟨k',e,q⟩:=J4 hk;have m:=lookup_mem e;rcases q with q|⟨q,_⟩
 ·subst q;rcases hc with z|z
  ·subst z;exact .inr (mU (RN h) m)
  ·subst z;exact .inl m
 ·subst q;exact .inl m
def eY (h:Qb X.N NB scope μ=true):NB.length=μ.length/\∀(j i:Nat),μ[j]?=some (some i)->∃x,NB[j]?=some x/\X.N[i]?=some x/\scope.names.lookup x=some .free:=by
 unfold Qb at h;simp only[zF,decide_eq_true_eq,List.all_eq_true] at h;refine⟨h.1,λ j i e=>?_⟩;have hj:j<NB.length:=by rw[h.1];exact (z3.mp e).1
 have m:(NB[j],some i)∈NB.zip μ:=by
  refine List.mem_iff_getElem?.mpr ⟨j,?_⟩;rw[List.getElem?_zip_eq_some];exact⟨zi hj,e⟩
 have q:=h.2 _ m;dsimp only at q;simp only[zF,decide_eq_true_eq] at q;exact⟨NB[j],zi hj,q.1,q.2⟩
def RO (I:Inv X pins σ H s)(a7:Gp scope X.env.scope=true)(bw:Qb X.N NB scope μ=true)(g7:∀b∈fp,LL X pins H b)(kr:∀b∈fp,∃o,s.heap.get? b=some o)
 (hC:s.heap.objs.size<=C) {h4:Heap} {t4:Nat} (ns:h4.Ns C λ _=>none) (k:∀b o,s.heap.get? b=some o->h4.get? b=some o) (bP:∀x,Gq scope.names=some x->h4.IsCell (C+1) none):
 Inv (blockOf X s H scope C NB fp) [] (EJ μ σ) H {s with heap:=h4,toks:=t4}:=by
 obtain⟨hlen,bw⟩:=eY bw;have rj:∀b o,s.heap.get? b=some o->b≠C:=λ b o e=>z6 (z5 (zt e) hC);have rn:∀x c,X.env.cells.lookup x=some c->c≠C+1:=λ x c e z=>by
  obtain⟨v,o,ho,_⟩:=I.cell x c e;exact absurd (z5 (zt ho) hC) (by rw[z];exact Nat.not_lt.mpr (Nat.le_succ C))
 have kt:∀x c,X.env.cells.lookup x=some c->c≠C:=λ x c e=>by
  obtain⟨v,o,ho,_⟩:=I.cell x c e;exact rj c o ho
 refine⟨⟨I.ok.mod,(show scope.kind=_ from Ku a7),I.ok.glob,I.ok.blt,hC,λ x y c h1 h2=>?_,λ x hx=>?_,λ x c hf e=>?_,I.ok.hd,I.ok.frames,.inl rfl,λ b hb=>?_,I.bs,yJ I.ok.dQ I.sz,λ b o e hb=>?_,λ b hb hz=>?_,I.stack,I.UX⟩,
  rfl,I.bare,Un.kept k,⟨_,ns,λ j x v e1 e2 e3=>?_⟩,λ x c e=>?_,I.Au.fresh hC,λ x c e=>?_,λ p hp=>(by cases hp),I.Au.kept k,?_⟩
 ·rcases D7 I a7 h1 with ⟨a1,a2⟩|a<;>rcases D7 I a7 h2 with ⟨b1,b2⟩|b
  ·rw[a1] at b1;exact zD b1
  ·exact absurd a2 (rn y c b)
  ·exact absurd b2 (rn x c a)
  ·exact I.ok.inj x y c a b
 ·have q:(x,zay)∈scope.names\/Gq scope.names=some x:=by
   rcases hx with hx|hx
   ·exact MI a7 hx (.inl rfl)
   ·exact MI a7 hx (.inr rfl)
  rcases q with q|q
  ·obtain⟨c,m⟩:=MG (cells:=X.env.cells) (cs:=[]) q;refine Dj (c:=c) ?_;show (x,c)∈Va C scope.names _;unfold Va;split
   ·exact ze _ m
   ·exact m
  ·refine Dj (c:=C+1) ?_;show (x,C+1)∈Va C scope.names _;unfold Va;rw[q];exact zd
 ·have hq:Gq scope.names=some x:=by simpa [blockOf] using hf
  have e':(Va C scope.names (Fi X.env.cells scope.names [])).lookup x=some c:=e;unfold Va at e';rw[hq] at e';dsimp only at e';rw[za2,beq_self_eq_true] at e';cases e';exact Nat.le_succ_of_le hC
 ·obtain⟨o,ho⟩:=kr b hb;refine⟨rj b o ho,λ x c e z=>?_⟩;rcases D7 I a7 e with ⟨_,a2⟩|e
  ·exact absurd (z5 (zt ho) hC) (by rw[<-z,a2];exact Nat.not_lt.mpr (Nat.le_succ C))
  ·exact (g7 b hb).2.2.2.2.1 x c e z
 ·rcases (g7 b hb).2.2.2.1 with z|z
  ·exact I.ok.XU b o e z
  ·exact absurd (z5 (zt (I.ok.bs b o e).1) z) (Nat.lt_irrefl _)
 ·rcases zp.mp (I.TC b hz) with e|e
  ·exact (g7 b hb).2.1 e
  ·exact (g7 b hb).2.2.1 e
 ·have iy:(μ[j]?).map (λ o=>o.bind λ i=>(σ[i]?).join)=some (some v):=by
   rw[<-z7];exact e2
  cases q:μ[j]? with
  |none=>rw[q] at iy;cases iy
  |some o =>
   rw[q] at iy;cases o with
   |none=>cases iy
   |some i =>
    have e4:(σ[i]?).join=some v:=by simpa using iy
    have e5:σ[i]?=some (some v):=by
     cases z:σ[i]? with
     |none=>rw[z] at e4;cases e4
     |some w=>rw[z] at e4;simp at e4;rw[e4]
    obtain⟨x',n1,n2,n3⟩:=bw j i q;have ex:x'=x:=zD (n1.symm.trans e1);subst ex;have m:=lookup_mem n3;have ov:=(J5 a7 m).2.1 rfl;obtain⟨mm,hn,hl⟩:=I.loc;obtain⟨u,r,l⟩:=hl i x' v n2 e5 (ov.elim (λ z=>.inr (.inl z)) λ z=>.inr (.inr z));refine⟨u,r,.inr ⟨?_,?_⟩⟩
    ·rcases e3 with z|z|z
     ·obtain⟨k',z1,z2⟩:=J4 (k:=.local) z;rw[n3] at z1;cases z1;rcases z2 with z2|⟨_,z2⟩<;>cases z2
     ·exact .inl z
     ·exact .inr z
    ·rcases l with ⟨l,_⟩|⟨_,c,l1,l2⟩
     ·rcases ov with z|z<;>(rw[show X.env.kindOf x'=_ from z] at l;cases l)
     ·obtain⟨c',m'⟩:=MG (cells:=X.env.cells) (cs:=[]) m;obtain⟨yq,l3⟩:=Dj m';have l4:=MH I a7 l3;rw[l1] at l4;cases l4;have l5:(Va C scope.names (Fi X.env.cells scope.names [])).lookup x'=some c:=by
       unfold Va;cases q9:Gq scope.names with
       |none=>exact l3
       |some y =>
        have ne:(x'==y)=false:=by
         cases b:x'==y with
         |false=>rfl
         |true =>
          have z:=(J5 a7 (RL q9)).1 rfl;rw[<-eq_of_beq b] at z;rw[show scope.names.lookup x'=some .cell from z] at n3;cases n3
        dsimp only;rw[za2,ne];exact l3
      refine⟨c,l5,?_⟩;obtain⟨o,ho,hd⟩:=l2;exact⟨o,k _ _ ho,hd⟩
 ·rcases D7 I a7 e with ⟨a1,rfl⟩|e
  ·exact⟨_,bP x a1⟩
  ·obtain⟨v,o,ho,hd⟩:=I.cell x c e;exact⟨v,o,k _ _ ho,hd⟩
 ·rcases D7 I a7 e with ⟨a1,rfl⟩|e
  ·exact I.Au.fresh (Nat.le_succ_of_le hC)
  ·exact I.Gf x c e
 ·show (EJ μ σ).length=NB.length;unfold EJ;rw[zc,hlen]
def G7.adopt {P:Program}{w:World}{H:Hp}{h:Heap}{a:Addr}{o:HO}(x:G7 P w H h)(hn:H a=none)(new:BS P w (upd H a o) h a o):G7 P w (upd H a o) h:=λ b u e=>by
 by_cases hb:b=a
 ·subst hb;rw[Aq] at e;cases e;exact new
 ·rw[Aj hb] at e;exact (x b u e).O2 (λ c v _ q=>q) (λ c q=>by rw[Aj (Ay q hn)];exact q) λ c xs q=>by rw[Aj (Ay q hn)];exact q
def Wx {H':Hp}{s':Shared}{h':Heap}{D:Addr}{pl:List (Addr×Obj)}{σ':St}{ac:List Value}{ys:List V}{n:Nat}(I:Inv X pins σ H s)(g7:∀b∈fp,LL X pins H b)(J:Inv (blockOf X s H scope C NB fp) pl σ' H' s')
 (hC:s.heap.objs.size<=C) (hD:s.heap.objs.size<=D) (cr:D≠C) (eD:s'.heap.get? D=some {cls:=.type "list",data:=.seq ac.toArray n}) (nD:H' D=none) (r:Vals ys ac) (hz:ys.length<=sizeLine)
 (sb:Heap.SameBut C s'.heap h'):Inv X pins σ (upd H' D (.lst ys)) {s' with heap:=h' }:=by
 have ee:∀b o,s.heap.get? b=some o->b≠C:=λ b o e=>z6 (z5 (zt e) hC);have mz:∀b o,s.heap.get? b=some o->b≠D:=λ b o e=>z6 (z5 (zt e) hD);have freshD:H D=none:=I.Au.fresh hD;have nC:H' C=none:=J.free;have u:Un (XJ X.stack) fp H H' s.heap s'.heap:=J.base;have d9:G7 X.prog X.w H' h':=λ b ob e=>(J.Au b ob e).O2 (λ c v hc q=>(sb.2 c (by
  intro z;subst z;rcases hc with rfl|hc
  ·rw[nC] at e;cases e
  ·rw[nC] at hc;cases hc)).trans q) (λ _ q=>q) λ _ _ q=>q
 refine I.qI (ch:=fp) J.os ⟨λ b o e n hb hx=>?_,λ b o e n hb hx=>?_,λ b o e n hx=>?_,λ b o e hx=>?_,λ b xs e=>?_,λ b o u' e=>?_,λ b ps e=>?_⟩ (d9.adopt nD ⟨hz,ac,n,r,(sb.2 D cr).trans eD⟩) J.bare λ b hb=>?_
 ·exact (sb.2 b (ee b o e)).trans (u.keep b o e n hb hx)
 ·obtain⟨sl,q⟩:=u.slot b o e n hb hx;exact⟨sl,(sb.2 b (ee b o e)).trans q⟩
 ·rw[Aj (mz b o e)];exact u.free b o e n hx
 ·obtain⟨o',q⟩:=u.there b o e hx;exact⟨o',(sb.2 b (ee b o e)).trans q⟩
 ·rw[Aj (Ay e freshD)];exact u.PR b xs e
 ·rw[Aj (Ay e freshD)];exact u.O3 b o u' e
 ·rw[Aj (Ay e freshD)];exact u.PV b ps e
 ·obtain⟨_,f1,_,f3,f4,f5⟩:=g7 b hb;exact⟨f3,f1,f4,f5⟩
end
def Yw {M:Model}{A:Around}{E:Value->Shared->Prop}{s:Shared}{scope:Scope}{g:Addr}{cl:List (Str×Addr)}{qual:Str}{outer:Env}{Q:Env->Shared->Prop}(h1:(scope.names.filter V9).length<=1)
 (hQ:∀h',h'.Ns s.heap.objs.size (λ _=>none)->(∀b o,s.heap.get? b=some o->h'.get? b=some o)->(∀x,Gq scope.names=some x->h'.IsCell (s.heap.objs.size+1) none)->
  Q {scope:=scope,locals:=s.heap.objs.size,globals:=g,cells:=Va s.heap.objs.size scope.names cl,qual:=qual,func:=none,code:=outer.code,frame:=outer.frame,builtins:=outer.builtins} {s with heap:=h' }):
 wpAny M A (newFunctionEnv scope g cl [] qual none .none (some outer)) Q E s:=by
 unfold newFunctionEnv;simp only[Option.isSome_some,if_true];refine wpAny_bind (wpAny_alloc (wpAny_bind (wpAny_layCells _ (λ x k cs=>by cases e:k==NameKind.cell<;>simp[e]) _ _ _ _ ?_)));have ok:=cellsFrom_ok scope.names (s.heap.push {cls:=.type "dict",data:=.dict #[]}) 0 [] ⟨λ _ _ z=>(by cases z),.nil⟩ (zR _);rw[U2 h1] at ok ⊢;rw[Heap.size_push] at ok;rw[List.forIn_nil];refine wpAny_bind (wpAny_pure (wpAny_pure ?_));have key:=hQ (pushCells (s.heap.push {cls:=.type "dict",data:=.dict #[]}) scope.names) ((Heap.Ns.new s.heap (.type "dict")).keeps (pushCells_keeps _ _)) (λ b o e=>pushCells_keeps _ _ b o (zo _ e)) (λ x hx=>(ok.empty x (s.heap.objs.size+1) (by rw[hx];exact zd)).1);unfold Va at key;rw[<-Heap.size_push s.heap {cls:=.type "dict",data:=.dict #[]}] at key;exact key
def Qc {prog:Program}{w:World}{A:Around}{R:Result->Shared->Prop}{s:Shared}{elt target iter:Expr}{ifs:List Expr}{scope:Scope}{pos:Pos}{it acc:Value}{env:Env}(I:Nat->Shared->Prop)
 (turn:∀n s,I n s->wpAny (model prog w) A (pyNext it) (λ r s₁=>match r with
  |none=>R (.ok .next) s₁
  |some v=>wpAny (model prog w) A (letOwnedTupleGo target it v) (λ _ s₁'=>wpAny (model prog w) A (assign target env v) (λ _ s₂ =>
   wpAny (model prog w) A (forIn ifs true λ c r=>if r=true then do let ok <-isTrue c env (eval c env);pure (zbc ok) else pure (zbc r)) (λ ok s₃ =>
    if ok=true then wpAny (model prog w) A (eval elt env) (λ x s₄ =>
     wpAny (model prog w) A (call (.builtin "list.append") [acc,x]) (λ _ s₅=>∃m,m<n/\I m s₅) (λ _ _=>False) s₄) (λ _ _=>False) s₃
    else ∃m,m<n/\I m s₃) (λ _ _=>False) s₂) (λ _ _=>False) s₁') (λ _ _=>False) s₁) (λ _ _=>False) s)
 (n:Nat) (h:I n s):
 codeAny (model prog w) A (.compLoop (.ListComp elt [⟨target,iter,ifs,0⟩] scope pos) 0 it acc env) R s:=by
 refine codeAny_loop rfl I (λ n s hI=>?_) n h;show wpAny _ A ((compTurn (.ListComp elt [⟨target,iter,ifs,0⟩] scope pos) 0 it acc env).onRaise (λ x=>do noteFrame x env;theTreesLotGoes x)) _ _ s;refine wpAny_noted ?_;rw[compTurn_list];refine wpAny_bind (wpAny_standAt (wpAny_bind (wpAny_mono (turn n s hI) (λ r s₁ h₁=>?_) λ _ _ h'=>h'.elim)));cases r with
 |none=>exact wpAny_pure h₁
 |some v =>
  refine wpAny_bind (wpAny_mono h₁ (λ _ s₁' h₁'=>?_) λ _ _ h'=>h'.elim);refine wpAny_bind (wpAny_mono h₁' (λ _ s₂ h₂=>wpAny_bind (wpAny_mono h₂ (λ ok s₃ h₃=>?_) λ _ _ h'=>h'.elim)) λ _ _ h'=>h'.elim);cases ok with
  |false=>exact wpAny_pure ⟨rfl,h₃⟩
  |true =>
   exact wpAny_bind (wpAny_bind (wpAny_mono h₃ (λ x s₄ h₄=>wpAny_bind (wpAny_mono h₄ (λ _ s₅ h₅=>wpAny_pure (wpAny_pure ⟨rfl,h₅⟩)) λ _ _ h'=>h'.elim)) λ _ _ h'=>h'.elim))
abbrev pQ (X:Cx)(cs:List Expr)(t:TT):Prop:=
 ∀(pins:List (Addr×Obj)) (s:Shared) (σ:St) (H:Hp) (Q:Bool->Hp->Prop),Inv X pins σ H s->t σ H Q->
  wpAny (model X.prog X.w) X.A (forIn cs true λ c r=>if r=true then do let ok <-isTrue c X.env (eval c X.env);pure (zbc ok) else pure (zbc r)) (TP X pins σ Q) X.xe s
abbrev vS:TT:=λ _ H Q=>Q true H
def eZ {X:Cx}:pQ X [] vS:=λ _ _ _ H _ I h=>wpAny_tests_nil ⟨H,I,h⟩
def fA {X:Cx}{c:Expr}{t:TT}(h:PT X c t):pQ X [c] t:=λ pins s σ H Q I q=>wpAny_tests_one (h pins s σ H Q I q)
abbrev Kv (μ:List (Option Nat))(g:TG):Prop:=∀σ x H Q,g x (EJ μ σ) H Q->g x (EJ μ σ) H λ σ' H'=>Q σ' H'/\∀(j:Nat) v,(EJ μ σ)[j]?=some (some v)->σ'[j]?=some (some v)
def fB {μ:List (Option Nat)}{i:Nat}(h:μ[i]?=some none):Kv μ (OD i):=λ σ x H Q q=>by
 refine⟨q,λ j v e=>?_⟩;have ae:j≠i:=λ z=>by
  subst z;unfold EJ at e;rw[z7,h] at e;cases e
 rw[yV (zY ae)];exact e
abbrev wO (J:It)(H1:Hp)(Q:VK)(st:V->Hp->(St->Hp->Prop)->Prop)(tc:TT)(te:TE):Prop:=
 ∃W:Nat->Nat->List V->Hp->Prop,(∃m,W 0 m [] H1)/\∀i m ys H2,W i m ys H2->
  (J.stop i H2/\∀D,H2 D=none->Q (.ref D) (upd H2 D (.lst ys))) \/
  (J.go i H2/\ys.length<sizeLine/\∃N:List V->Hp->Prop,(∀bn H',N bn H'->∃m',m'<m/\W (i+1) m' bn H')/\∀x H3,J.jQ i H2 x H3->st x H3 λ σ4 H4=>tc σ4 H4 λ b H5=>if b=true then te σ4 H5 λ y H6=>N (ys++[y]) H6 else N ys H5)
abbrev Vb (wi:TI)(μ:List (Option Nat))(g:TG)(tc:Shared->Hp->Addr->List Addr->TT)(te:Shared->Hp->Addr->List Addr->TE):TE:=λ σ H Q=>wi σ H λ J H1=>∀s C ex,wO J H1 Q (λ x H K=>g x (EJ μ σ) H K) (tc s H1 C ex) (te s H1 C ex)
section
variable {X:Cx}{pins:List (Addr×Obj)}{σ:St}{H2:Hp}{s2:Shared}{tg elt iter:Expr}{ifs:List Expr}{scope:Scope}{pos:Pos}{NB:List Str}{μ:List (Option Nat)}{g:TG}{tc:Shared->Hp->Addr->List Addr->TT}{te:Shared->Hp->Addr->List Addr->TE}{fp:List Addr}{it:Addr}{tn:Nat->Heap->Prop}{J:It}{Q:VK}
def ON (hc:X.calm=true)(I2:Inv X pins σ H2 s2)(T:Turn X.prog X.w X.K tg J fp it tn)(cm:tn 0 s2.heap)(f2:∀b∈fp,LL X pins H2 b)
 (a7:Gp scope X.env.scope=true) (bw:Qb X.N NB scope μ=true) (iz:Kv μ g)
 (hb:∀(s:Shared) (H:Hp) (C:Addr) (ex:List Addr),PG (blockOf X s H scope C NB ex) tg g/\pQ (blockOf X s H scope C NB ex) ifs (tc s H C ex)/\PE (blockOf X s H scope C NB ex) elt (te s H C ex))
 (q:∀C,wO J H2 Q (λ x H K=>g x (EJ μ σ) H K) (tc s2 H2 C fp) (te s2 H2 C fp)) {RR:Value->Addr->Result->Shared->Prop} {E:Value->Shared->Prop}
 (fin:∀(D C:Addr) (s':Shared) (H':Hp) (ys:List V) (m:Str->Option Value),s2.heap.objs.size<=D->s2.heap.objs.size<=C->D≠C->s'.heap.Ns C m->H' C=none->(∀h',Heap.SameBut C s'.heap h'->Inv X pins σ (upd H' D (.lst ys)) {s' with heap:=h' })->Q (.ref D) (upd H' D (.lst ys))->RR (.ref D) C (.ok .next) s'):
 wpAny (model X.prog X.w) X.A (newList []) (λ acc s₃=>wpAny (model X.prog X.w) X.A (newFunctionEnv scope X.env.globals (Fi X.env.cells scope.names []) [] X.env.qual none .none (some X.env)) (λ i4 s₄ =>
  codeAny (model X.prog X.w) X.A (.compStart (.ListComp elt [⟨tg,iter,ifs,0⟩] scope pos) 0 (.ref it) acc {i4 with scope:=relabel scope X.env}) (RR acc i4.locals) s₄) E s₃) E s2:=by
 refine wpAny_newObj_type (Yw (RN a7) λ h₁ hns₁ hk₁ hcl₁=>?_);dsimp only at hns₁ hk₁ hcl₁ ⊢;generalize m6:s2.heap.push {cls:=.type "list",dict:=none,data:=.seq ([]:List Value).toArray}=ku at hns₁ hk₁ hcl₁ ⊢;have hC:ku.objs.size=s2.heap.objs.size+1:=by rw[<-m6,Heap.size_push]
 have cr:s2.heap.objs.size≠ku.objs.size:=by rw[hC];exact z6 (Nat.lt_succ_self _)
 have eo:s2.heap.objs.size<=ku.objs.size:=by rw[hC];exact Nat.le_succ _
 have old:∀b o,s2.heap.get? b=some o->h₁.get? b=some o:=λ b o e=>hk₁ b o (m6▸zo _ e);have eD:h₁.get? s2.heap.objs.size=some {cls:=.type "list",data:=.seq ([]:List Value).toArray}:=hk₁ _ _ (m6▸zE _ rfl);have kr:∀b∈fp,∃o,s2.heap.get? b=some o:=λ b hb=>let ⟨o,e,_⟩:=T.obj _ _ cm b hb;⟨o,e⟩;have m7:∀b∈fp,b≠s2.heap.objs.size:=λ b hb=>let ⟨o,e⟩:=kr b hb;z6 (zt e);generalize rq:s2.heap.objs.size=D at eo cr eD m7 ⊢;generalize yr:ku.objs.size=C at *;have bF:s2.heap.objs.size<=D:=by rw[rq];exact zu _
 have bQ:s2.heap.objs.size<=C:=by rw[rq];exact eo
 have I4:Inv (blockOf X s2 H2 scope C NB fp) [] (EJ μ σ) H2 {s2 with heap:=h₁}:=RO (t4:=s2.toks) I2 a7 bw f2 kr bQ hns₁ old hcl₁;have bt:∀ {H':Hp} {pl:List (Addr×Obj)},(∀b∈fp,H' b=none)->(∀p∈pl,p.1=D)->∀b∈fp,LL (blockOf X s2 H2 scope C NB fp) pl H' b:=fun {H' pl} hn hp b hb=>by
  refine⟨hn b hb,(I4.ok.tV b hb).1,I4.ok.XW b hb,.inl hb,λ x c e z=>(I4.ok.tV b hb).2 x c e z,λ p i5 z=>?_⟩;have m8:p∈pl:=by simpa [blockOf] using i5
  exact m7 b hb (z▸hp p m8)
 have uu:D∉(blockOf X s2 H2 scope C NB fp).fs:=λ z=>by
  obtain⟨_,o,ho,_⟩:=I4.ok.Kq.mem z;exact absurd (zt ho) (Nat.not_lt.mpr bF)
 obtain⟨W,⟨m0,w0⟩,turn⟩:=q C;have loop:∀s₃:Shared,s₃={s2 with heap:=h₁} ->
  codeAny (model X.prog X.w) X.A (.compLoop (.ListComp elt [⟨tg,iter,ifs,0⟩] scope pos) 0 (.ref it) (.ref D) (compEnvC scope (Va C scope.names (Fi X.env.cells scope.names [])) C X.env)) (RR (.ref D) C) s₃:=by
  rintro s₃ rfl;refine Qc (λ n s'=>∃i ys ac k H',Inv (blockOf X s2 H2 scope C NB fp) [(D,{cls:=.type "list",data:=.seq ac k})] (EJ μ σ) H' s'/\tn i s'.heap/\(∀b∈fp,H' b=none)/\Vals ys ac.toList/\ys.length<=sizeLine/\W i n ys H') ?_ m0
   ⟨0,[],#[],0,H2,I4.J0 λ p hp=>?_,T.keep _ _ _ cm λ b hb o e=>old b o e,λ b hb=>(f2 b hb).1,.nil,zR _,w0⟩
  rotate_left
  ·have e:=zg.mp hp;subst e;exact⟨eD,I2.Au.fresh bF,cr,uu,λ v=>by simp⟩
  rintro n s3 ⟨i,ys,ac,k,H3,I3,ig,ij,rv,hz,w3⟩;rcases turn i n ys H3 w3 with ⟨stop,qn⟩|⟨go,af,N,hN,step⟩
  ·refine wpAny_mono (T.done (blockOf X s2 H2 scope C NB fp) rfl rfl rfl hc i _ s3 _ H3 (λ _ _=>False) I3 (bt ij (by simp)) ig stop) (λ r s4 zz=>?_) λ _ _ e=>e;obtain⟨hr,lb⟩:=zz;subst hr;obtain⟨p1,p2,p3,p4,p5⟩:=lb.pin _ (zl _ zd);obtain⟨m,hn,_⟩:=id lb.loc;have e1:s4.heap.get? D=some {cls:=.type "list",data:=.seq ac.toList.toArray k}:=by simpa using p1
   exact fin D C s4 H3 ys m bF bQ cr hn lb.free (λ h' sb=>Wx I2 f2 lb bQ bF cr e1 p2 rv hz sb) (qn D p2)
  ·refine wpAny_mono (T.item (blockOf X s2 H2 scope C NB fp) rfl rfl rfl hc i _ s3 _ H3 (λ _ _=>False) I3 (bt ij (by simp)) ig go) (λ r s4 zz=>?_) λ _ _ e=>e;obtain⟨u,hr,h4⟩:=zz;subst hr;refine Bj h4 λ _ s5 zz=>?_;obtain⟨x,H5,I5,r5,y5,d4,me⟩:=zz;have mf:=I5.pinned (bt me (by simp)) (T.obj _ _ d4);have bM:=iz σ x H5 _ (step x H5 y5);obtain⟨hg,ht,he⟩:=hb s2 H2 C fp;refine Bj (hg _ s5 _ H5 x u _ mf r5 bM) λ _ s6 zz=>?_;obtain⟨σ6,H6,I6,q6,k6⟩:=zz;refine Bj (ht _ s6 σ6 H6 _ I6 q6) λ ok s7 zz=>?_;obtain⟨H7,I7,q7⟩:=zz;have again:∀ {H8:Hp} {s8:Shared} {its':Array Value} {k':Nat} {bn:List V},Inv (blockOf X s2 H2 scope C NB fp) ([(D,{cls:=.type "list",data:=.seq its' k' })]++Io fp s5.heap) σ6 H8 s8->Vals bn its'.toList->bn.length<=sizeLine->(∃m,m<n/\W (i+1) m bn H8)->
    ∃m,m<n/\∃i ys ac k H',Inv (blockOf X s2 H2 scope C NB fp) [(D,{cls:=.type "list",data:=.seq ac k})] (EJ μ σ) H' s8/\tn i s8.heap/\(∀b∈fp,H' b=none)/\Vals ys ac.toList/\ys.length<=sizeLine/\W i m ys H':=fun {H8 s8 its' k' bn} I8 cu uv n8=>by
    obtain⟨m',hm,w8⟩:=n8;refine⟨m',hm,i+1,bn,its',k',H8,(I8.J1.weak ?_ k6),T.keep _ _ _ d4 λ b hb o e=>(I8.pin (b,o) (zl _ (zl _ (Fg hb e)))).1,λ b hb=>?_,cu,uv,w8⟩
    ·rw[I8.len];exact I4.len
    ·obtain⟨o,e,d⟩:=T.obj _ _ d4 b hb;exact (I8.pin (b,o) (zl _ (zl _ (Fg hb e)))).2.1
   cases ok with
   |false =>
    simp only[zG,if_false] at q7 ⊢;exact again I7 rv hz (hN _ _ q7)
   |true =>
    simp only[if_true] at q7 ⊢;refine Bj (he _ s7 σ6 H7 _ I7 q7) λ uy s8 zz=>?_;obtain⟨y,H8,I8,r8,q8⟩:=zz;obtain⟨p1,p2,p3,p4,p5⟩:=I8.pin (D,_) (zl _ (zM _ zd));have e1:s8.heap.get? D=some {cls:=.type "list",data:=.seq ac k}:=p1;have hsz:ac.size=ys.length:=by rw[<-Array.length_toList];exact rv.length.symm
    refine call_meets F.slot_list_append ⟨_,e1,rfl⟩ F.entry_list_append (F.args_list_append_2 _ _) (PySem.list_append D ac k uy (by rw[hsz];omega)) ⟨e1,?_⟩;have m9:=PySem.IsL.update e1 (·.push uy);have Iu:Inv (blockOf X s2 H2 scope C NB fp) (Io fp s5.heap) σ6 H8 s8:=I8.J0 λ p hp=>I8.pin p (zl _ (zl _ hp));have It:=Iu.turned (it:=D) (h':=s8.heap.update D (Obj.mapSeq (·.push uy))) (t':=s8.toks) (λ b o hb e=>(Heap.get?_update_other _ _ (zY hb)).trans e) p2 p3 (.inr bF) (λ x c e z=>?_) (λ p hp z=>?_)
    ·refine again (its':=ac.push uy) (k':=if (ac.push uy).size==ac.size then k else k+1) (It.J0 λ p hp=>?_) (by simpa using rv.append (.cons r8 .nil)) (by rw[zA,yP];omega) (hN _ _ q8);rcases zy.mp hp with hp|hp
     ·have e:=zg.mp hp;subst e;exact⟨m9,p2,p3,p4,λ v=>by simp⟩
     ·exact It.pin p (zl _ hp)
    ·rcases D7 I2 a7 e with ⟨_,a2⟩|e'
     ·exact absurd (a2.symm.trans z) (Nat.ne_of_gt (Nat.lt_succ_of_le eo))
     ·obtain⟨v,o,ho,_⟩:=I2.cell x c e';exact absurd (zt ho) (by rw[z];exact Nat.not_lt.mpr bF)
    ·have i5:p∈Io fp s5.heap:=by simpa [blockOf] using hp
     exact m7 p.1 (OE i5).1 z
 exact codeAny_compStart_list (loop _ rfl) (T.self _ 0 _ _ _ (T.keep _ _ _ cm λ b hb o e=>old b o e) (loop _ rfl))
def fC {wi:TI}(hc:X.calm=true)(hi:PI X tg iter wi)(a7:Gp scope X.env.scope=true)(bw:Qb X.N NB scope μ=true)(iz:Kv μ g)
 (hb:∀(s:Shared) (H:Hp) (C:Addr) (ex:List Addr),PG (blockOf X s H scope C NB ex) tg g/\pQ (blockOf X s H scope C NB ex) ifs (tc s H C ex)/\PE (blockOf X s H scope C NB ex) elt (te s H C ex))
 (hs:∀x,foldedSetIterable iter X.env x=pure x:=by intro _;rfl):PE X (.ListComp elt [⟨tg,iter,ifs,0⟩] scope pos) (Vb wi μ g tc te):=by
 intro pins s σ H Q I h;have bz:∀y∈scope.names,y.2=.local->scope.names.lookup y.1=some .local:=λ y hy=>(J5 a7 hy).2.2;have bR:closureFor scope X.env=pure (Fi X.env.cells scope.names []):=I0 λ y hy e=>Iv I a7 (x:=y.1) (by rw[<-e];exact hy);rw[eval_ListComp];refine wpAny_comprehension_free (use:=none) rfl hs bR (Ku a7) bz (Bj (hi pins s σ H _ I h) λ v s1 h1=>Bj h1 λ kg s2 h2=>?_);obtain⟨it,fp,tn,J,H2,e,I2,T,cm,f2,q⟩:=h2;subst e;refine ON (RR:=λ acc C=>compPost (model X.prog X.w) X.A X.xe none (EP X pins σ Q) acc C) hc I2 T cm f2 a7 bw iz hb (λ C=>q s2 C fp) ?_;intro D C s' H' ys m hD hC cr hn nC hI hq;exact⟨m,hn,λ h' sb=>⟨.ref D,_,hI h' sb,rfl,hq⟩⟩
abbrev rR (i:Nat)(te:TE):TS:=λ D σ H=>te σ H λ x H1=>D.nx (σ.set i (some x)) H1
def Vc {wi:TI}{i:Nat}{y:Str}{py al:Pos}(hN:X.N.Nodup)(i6:X.N[i]?=some y)(hy:Loc X.env.scope y)(hc:X.calm=true)(hi:PI X tg iter wi)(a7:Gp scope X.env.scope=true)(bw:Qb X.N NB scope μ=true)(iz:Kv μ g)(hb:∀(s:Shared) (H:Hp) (C:Addr) (ex:List Addr),PG (blockOf X s H scope C NB ex) tg g/\pQ (blockOf X s H scope C NB ex) ifs (tc s H C ex)/\PE (blockOf X s H scope C NB ex) elt (te s H C ex))(ba: ~~~(swapsWith (.ListComp elt [⟨tg,iter,ifs,0⟩] scope pos) (some (.Name y py)) al.line X.env=pure true))(hs:∀x,foldedSetIterable iter X.env x=pure x:=by intro _;rfl)(hf:X.fn y=true\/X.env.scope.names.lookup y=some .local:=by first|exact .inl rfl|exact .inr rfl|assumption):
 PS X (.Assign [.Name y py] (.ListComp elt [⟨tg,iter,ifs,0⟩] scope pos) al) (rR i (Vb wi μ g tc te)):=by
 intro pins s σ H D' I h;have bz:∀y∈scope.names,y.2=.local->scope.names.lookup y.1=some .local:=λ y hy=>(J5 a7 hy).2.2;have bR:closureFor scope X.env=pure (Fi X.env.cells scope.names []):=I0 λ y hy e=>Iv I a7 (x:=y.1) (by rw[<-e];exact hy);rw[exec_Assign_Name_used _ _ _ _ ba];refine wpAny_bind (wpAny_standAt (wpAny_bind ?_));show wpAny _ X.A (do let _ <-comprehension (.ListComp elt [⟨tg,iter,ifs,0⟩] scope pos) scope X.env _ (newList []) false (eval iter X.env) (some (assign (.Name y py) X.env))) _ _ s;refine wpAny_bind (wpAny_mono (wpAny_comprehension_free (use:=some (assign (.Name y py) X.env)) (Q:=λ _ s'=>SP X pins D' .next s') rfl hs bR (Ku a7) bz (Bj (hi pins s σ H _ I h) λ v s1 h1=>Bj h1 λ kg s2 h2=>?_)) (λ _ s' hq=>wpAny_pure (wpAny_pure hq)) λ _ _ e=>e);obtain⟨it,fp,tn,J,H2,e,I2,T,cm,f2,q⟩:=h2;subst e;refine ON (RR:=λ acc C=>compPost (model X.prog X.w) X.A X.xe (some (assign (.Name y py) X.env)) (λ _ s'=>SP X pins D' .next s') acc C) hc I2 T cm f2 a7 bw iz hb (λ C=>q s2 C fp) ?_;intro D C s' H' ys m hD hC cr hn nC hI hq;have I':=hI s'.heap (.refl ..);show wpAny _ X.A (assign (.Name y py) X.env (.ref D)) _ _ _;refine wpAny_assign_Name (OC (i:=i) (v:=.ref D) I' hN i6 hy rfl (λ il uw na=>?_) hf);obtain⟨a,sb,ha⟩:=na;have gy:a≠C:=by
  rcases ha with z|z
  ·rw[z];exact z6 (z5 I2.lt hC)
  ·obtain⟨v,o,ho,_⟩:=I2.cell y a z;exact z6 (z5 (zt ho) hC)
 refine⟨m,hn.sameBut sb (zY gy),λ h' df=>?_⟩;refine⟨_,_,uw.turned (it:=C) (t':=il.toks) (λ b o hb e=>(df.2 b hb).trans e) (by rw[Aj (zY cr)];exact nC) (Nat.ne_of_gt (z5 I2.lt hC)) (.inr (yJ I2.sz hC)) (λ x c e z=>?_) (λ p hp z=>?_),hq⟩
 ·obtain⟨v,o,ho,_⟩:=I2.cell x c e;exact absurd (zt ho) (by rw[z];exact Nat.not_lt.mpr hC)
 ·exact absurd (zt (I2.pin p hp).1) (by rw[z];exact Nat.not_lt.mpr hC)
end
abbrev wQ (K:za)(a:Addr):It:=
 ⟨λ i H=>∃xs x,Di K H a xs/\xs[i]?=some x,λ i H v H'=>∃p x,H p=none/\v=.ref p/\(∀xs,Di K H a xs->xs[i]?=some x)/\H'=upd H p (.tup [.int i,x]),λ i H=>∃xs,Di K H a xs/\xs.length<=i⟩
def U3 {X:Cx}{pins:List (Addr×Obj)}{σ:St}{H:Hp}{s:Shared}{h':Heap}{t':Nat}{e it:Addr}(I:Inv X pins σ H s)(he:LL X pins H e)(hi:LL X pins H it)(k:∀b o,b≠e->b≠it->s.heap.get? b=some o->h'.get? b=some o):Inv X pins σ H {s with heap:=h',toks:=t' }:=by
 obtain⟨e0,e1,e2,e3,e4,e5⟩:=he;obtain⟨f0,f1,f2,f3,f4,f5⟩:=hi;have ne:∀b u,H b=some u->b≠e/\b≠it:=λ b u q=>⟨λ z=>(by rw[z,e0] at q;cases q),λ z=>(by rw[z,f0] at q;cases q)⟩;refine I.step (g':=s.gens) (d':=s.drawn) (ch:=[e,it]) (λ b hb=>?_) (λ b o _ _ hc q _=>k b o (λ z=>hc (by simp[z])) (λ z=>hc (by simp[z])) q) (λ b o _ _ hc q _=>⟨o.slots,k b o (λ z=>hc (by simp[z])) (λ z=>hc (by simp[z])) q⟩) (λ _ _ _ _ n=>n)
  (λ b o hc q=>⟨o,k b o (λ z=>hc (by simp[z])) (λ z=>hc (by simp[z])) q⟩) (λ _ _ q=>q) (λ _ _ _ q=>q) (λ b ps q=>⟨#[],by rw[q];simp⟩) (λ m hm=>?_) (λ b u q=>?_) I.bare
 ·rcases zp.mp hb with z|z
  ·subst z;exact⟨e3,e1,e4,e5⟩
  ·have z:=zg.mp z;subst z;exact⟨f3,f1,f4,f5⟩
 ·obtain⟨o,es,ep,ho,r⟩:=hm;exact⟨o,es,ep,k _ o (zY e1) (zY f1) ho,r⟩
 ·refine (I.Au b u q).O2 (λ c v hc z=>k c v ?_ ?_ z) (λ _ z=>z) λ _ _ z=>z
  ·rcases hc with z|z
   ·rw[z];exact (ne b u q).1
   ·exact (ne c _ z).1
  ·rcases hc with z|z
   ·rw[z];exact (ne b u q).2
   ·exact (ne c _ z).2
def Wy {P:Program}{w:World}{K:za}{bS:List Expr}{x1}{bu:Pos}(a e it:Addr)(ae:e≠it):
 Turn P w K (.Tuple bS x1 bu) (wQ K a) [e,it] e (λ i h=>(∃old,IsEnum h e it i old)/\h.IsListIter it a i) where
 mem:=by simp
 obj:=λ i h st b hb=>by
  obtain⟨⟨old,h1⟩,o,h2,c,d⟩:=st;rcases zp.mp hb with z|z
  ·subst z;exact⟨_,h1,λ v z=>by cases z⟩
  ·have z:=zg.mp z;subst z;exact⟨o,h2,λ v z=>by rw[d] at z;cases z⟩
 keep:=λ i h h' st k=>⟨let ⟨old,h1⟩:=st.1;⟨old,k e (by simp) _ h1⟩,st.2.at λ o e=>k it (by simp) o e⟩
 item:=by
  intro X hP hw hK hc i pins s σ H E I hf st hg;subst hP hw hK;obtain⟨xs,x,hq,hx⟩:=hg;obtain⟨⟨old,he⟩,hit⟩:=st;obtain⟨ac,rv,p,hz⟩:=I.list hq;obtain⟨u,hu,ru⟩:=rv.get hx;have fe:=hf e (by simp);have fi:=hf it (by simp);refine wpAny_pyNext_enum_item he hit p.isList (x:=u) (by simpa using hu) ae λ h1 c9 nc ht hsz hk=>?_;refine⟨_,rfl,wpAny_letOwnedTupleGo_enum (s:={s with heap:=h1,toks:=s.toks+1}) c9 λ h2 ux aO=>?_⟩;have b5:Heap.SameBut e h1 h2:=aO;have nt:s.heap.objs.size≠e:=Nat.ne_of_gt (zt he);have uz:s.heap.objs.size≠it:=by
   obtain⟨o,ho,_⟩:=hit;exact Nat.ne_of_gt (zt ho)
  have I1:Inv X pins σ H {s with heap:=h2,toks:=s.toks+1}:=U3 I fe fi λ b o hb aA q=>(b5.2 b hb).trans (hk b o hb aA q);have tup:h2.get? s.heap.objs.size=some {cls:=.type "tuple",data:=.seq #[.int i s.toks,u]}:=(b5.2 _ nt).trans ht;have nH:H s.heap.objs.size=none:=I.Au.fresh (zu _);have vv:Vals [.int i,x] [.int i s.toks,u]:=.cons ⟨_,rfl⟩ (.cons ru .nil);have ng:G7 X.prog X.w (upd H s.heap.objs.size (.tup [.int i,x])) h2:=I1.Au.adopt nH ⟨by show 2<=sizeLine;decide,_,vv,⟨_,tup,rfl,_,rfl⟩⟩;have I2:Inv X pins σ (upd H s.heap.objs.size (.tup [.int i,x])) {s with heap:=h2,toks:=s.toks+1}:=by
   refine I.step (g':=s.gens) (d':=s.drawn) (ch:=[e,it]) (λ b hb=>?_) (λ b o _ _ hc q _=>(b5.2 b (λ z=>hc (by simp[z]))).trans (hk b o (λ z=>hc (by simp[z])) (λ z=>hc (by simp[z])) q)) (λ b o _ _ hc q _=>⟨o.slots,(b5.2 b (λ z=>hc (by simp[z]))).trans (hk b o (λ z=>hc (by simp[z])) (λ z=>hc (by simp[z])) q)⟩)
    (λ b o hc q n=>by rw[Aj (z6 (zt q))];exact n) (λ b o hc q=>⟨o,(b5.2 b (λ z=>hc (by simp[z]))).trans (hk b o (λ z=>hc (by simp[z])) (λ z=>hc (by simp[z])) q)⟩)
    (λ b xs q=>by rw[Aj (Ay q nH)];exact q) (λ b o u q=>by rw[Aj (Ay q nH)];exact q) (λ b ps q=>⟨#[],by rw[Aj (Ay q nH),q];simp⟩) (λ m hm=>?_) ng I.bare
   ·rcases zp.mp hb with z|z
    ·subst z;exact⟨fe.2.2.2.1,fe.2.1,fe.2.2.2.2.1,fe.2.2.2.2.2⟩
    ·have z:=zg.mp z;subst z;exact⟨fi.2.2.2.1,fi.2.1,fi.2.2.2.2.1,fi.2.2.2.2.2⟩
   ·obtain⟨o,es,ep,ho,r⟩:=hm;exact⟨o,es,ep,(b5.2 _ (zY fe.2.1)).trans (hk _ o (zY fe.2.1) (zY fi.2.1) ho),r⟩
  refine⟨.ref s.heap.objs.size,_,I2,rfl,⟨_,x,nH,rfl,λ ys hy=>by rw[I.Gg hy hq];exact hx,rfl⟩,⟨⟨u,ux⟩,nc.at λ o q=>(b5.2 it (zY ae)).trans q⟩,λ b hb=>?_⟩;have aA:b≠s.heap.objs.size:=by
   rcases zp.mp hb with z|z
   ·rw[z];exact zY nt
   ·rw[zg.mp z];exact zY uz
  rw[Aj aA];exact (hf b hb).1
 done:=by
  intro X hP hw hK hc i pins s σ H E I hf st hg;subst hP hw hK;obtain⟨xs,hq,hx⟩:=hg;obtain⟨⟨old,he⟩,hit⟩:=st;obtain⟨ac,rv,p,hz⟩:=I.list hq;have hl:=rv.length;obtain⟨f0,f1,f2,f3,f4,f5⟩:=hf it (by simp);exact wpAny_pyNext_enum_end (I.ok.hd hc) he hit p.isList (by simp;omega) λ h' eb=>⟨rfl,I.turned (t':=s.toks) (λ b o hb e=>eb b o hb e) f0 f1 f3 f4 f5⟩
 self:=λ _ _ _ _ _ st h=>let ⟨_,he⟩:=st.1;wpAny_pyIter_enum he h
section
variable {X:Cx}
abbrev rS (K:za)(ta:TA):TI:=λ σ H R=>ta σ H λ vs H1=>∃a,vs=[.ref a]/\(∃xs,Di K H1 a xs)/\R (wQ K a) H1
def fD {bS:List Expr}{x1}{bu:Pos}{a:Expr}{ta:TA}{p pos:Pos}(hg:Gl X "enumerate")(hm:X.mg "enumerate" = none)(ha:PA X [a] ta)(hb:bootBuiltins "enumerate" = some (.type "enumerate"):=by decide +kernel)(hs: ~~~(starEach [a] X.env=[(false,eval a X.env)])):
 PI X (.Tuple bS x1 bu) (.Call (.Name "enumerate" p) [a] [] pos) (rS X.K ta):=by
 intro pins s σ H R I h;refine Call_ (Du I hg hm hb (zZ (Bj (ha pos pins s σ H _ I h) λ us s1 zz=>?_) hs rfl));obtain⟨vs,H1,I1,r1,q1⟩:=zz;obtain⟨j,e,⟨xs,hq⟩,q⟩:=q1;subst e;cases r1 with
 |cons r rr =>
  cases rr;cases r;obtain⟨ac,rv,p,hz⟩:=I1.list hq;refine call_enumerate_list p.isList λ h' he hit hsz hk=>?_;refine wpAny_pyIter_enum (s:={s1 with heap:=h' }) he ?_;have I2:Inv X pins σ H1 {s1 with heap:=h' }:=I1.kept (t':=s1.toks) hk;refine⟨_,[s1.heap.objs.size+1,s1.heap.objs.size],_,_,H1,rfl,I2,Wy j _ _ (Nat.succ_ne_self _),⟨⟨_,he⟩,hit⟩,λ b hb=>?_,q⟩;rcases zp.mp hb with z|z
  ·rw[z];exact I1.Y5 (Nat.le_succ _) (I1.Au.fresh (Nat.le_succ _))
  ·rw[zg.mp z];exact I1.Y5 (zu _) (I1.Au.fresh (zu _))
end
abbrev BU {α:Type}(o:Option (α×List Int))(b:α×List Int):Option (α×List Int):=match o with | none=>some b | some c=>if HT.lexLt b.2 c.2=true then some b else some c
abbrev Ba {α:Type}(bs:List (α×List Int)):Option (α×List Int):=bs.foldl BU none
abbrev J6 (bs:List (Addr×List Int)):Array Value:=match Ba bs with | none=>#[] | some b=>#[.ref b.1,.ref b.1]
def Iw {α:Type}(bs:List (α×List Int))(b:α×List Int):Ba (bs++[b])=match Ba bs with | none=>some b | some c=>if HT.lexLt b.2 c.2=true then some b else some c:=by
 unfold Ba;rw[List.foldl_append];rfl
def OO {α:Type}:∀(bs:List (α×List Int)) (b:α×List Int),Ba bs=some b->b∈bs:=by
 intro bs
 suffices h:∀(bs:List (α×List Int)) (o:Option (α×List Int)) (b:α×List Int),bs.foldl BU o=some b->b∈bs\/o=some b by
  intro b hb;rcases h bs none b hb with q|q
  ·exact q
  ·cases q
 intro bs;induction bs with
 |nil=>intro o b h;exact .inr h
 |cons x r ih =>
  intro o b h;rw[zB] at h;rcases ih _ _ h with q|q
  ·exact .inl (ze _ q)
  ·cases o with
   |none=>cases q;exact .inl zd
   |some c =>
    unfold BU at q;dsimp only at q;split at q
    ·cases q;exact .inl zd
    ·exact .inr q
def Iy {α:Type}(o:Option (α×List Int))(b:α×List Int):BU o b≠none:=by
 unfold BU;split
 ·intro z;cases z
 ·split<;>(intro z;cases z)
def MJ {α:Type}:∀ {bs:List (α×List Int)},bs≠[]->Ba bs≠none:=by
 intro bs h;unfold Ba
 suffices z:∀(bs:List (α×List Int)) (o:Option (α×List Int)),o≠none->bs.foldl BU o≠none by
  cases bs with
  |nil=>exact (h rfl).elim
  |cons b r=>rw[zB];exact z r _ (Iy _ _)
 intro bs;induction bs with
 |nil=>intro o h;exact h
 |cons b r ih=>intro o h;rw[zB];exact ih _ (Iy _ _)
abbrev rT (o:Option Value):List (Str×Value):=o.toList.map λ d=>(Str.ofString "default",d)
def Yx (a:Value)(o:Option Value):argsOk "min" ⟨[a],rT o⟩:=by cases o<;>(unfold argsOk;kernel_rfl)
section
variable {prog:Program}{w:World}{A:Around}{R:Result->Shared->Prop}
def Yy (bs:List (Addr×List Int))(tv:Addr->Array Value)(l I S:Addr)(o:Option Value)(nh:o=none->bs≠[])(hh:A.handled=none)(hu:A.in1.units<cLine)(lc:S≠I)(ez:l≠I)(rz:l≠S)(ni:∀b∈bs,b.1≠I/\b.1≠S)
 (hk:∀b∈bs,IntsAre (tv b.1).toList b.2):∀(k j:Nat) (s:Shared) (c:Nat),bs.length-j=k->j<=bs.length->s.heap.IsListIter I l j->s.heap.IsList l (bs.map λ b=>yL b.1).toArray->(∀b∈bs,IsTup s.heap b.1 (tv b.1))->
  s.heap.get? S=some {cls:=.type "list",dict:=none,data:=.seq (J6 (bs.take j)) c,slots:=#[]} ->
  (∀h' tk,(∀b o,b≠I->b≠S->s.heap.get? b=some o->h'.get? b=some o)->R (.ok (.ret (match Ba bs with|none=>o.getD .none|some b=>.ref b.1))) {s with heap:=h',toks:=tk})->
  codeAny (model prog w) A (.builtin "min.loop" ⟨[.ref I,.none,.ref S],rT o⟩) R s:=by
 have bc:(toString "min" ++ toString ".loop" : String) = "min.loop" := by decide
 intro k;induction k with
 |zero =>
  intro j s c hr hj hit hl ht hS hR;have b6:j=bs.length:=by omega
  subst b6;rw[zU] at hS;refine codeAny_builtin PySem.F.entry_min_loop ?_;rw[zal zad _];show wpAny _ A.in1 (seqItems? (.ref S) >>= _) _ _ s;refine wpAny_bind (wpAny_seqItems hS rfl ?_);show wpAny _ A.in1 (tryCatch (pyNext (.ref I)) _ >>= _) _ _ s;refine wpAny_bind (wpAny_tryCatch (wpAny_pyNext_list_end (A:=A.in1) hh hit hl (by simp) λ h' eb=>?_));have bd:h'.get? S=_:=eb S _ lc hS;unfold J6 at bd;cases hb:Ba bs with
  |none =>
   unfold J6;rw[hb];cases o with
   |none=>exact (MJ (nh rfl) hb).elim
   |some d =>
   show wpAny _ A.in1 (rule _ >>= _) _ _ _;refine wpAny_bind (wpAny_rule (wpAny_pure ?_));have q:=hR h' s.toks λ b o h1 h2 e=>eb b o h1 e;rw[hb] at q;exact q
  |some b =>
   rw[hb] at bd;unfold J6;rw[hb];show wpAny _ A.in1 (updateSeq S (λ _=>#[]) >>= _) _ _ _;refine wpAny_bind ?_;refine wpAny_updateSeq bd rfl (wpAny_bind (wpAny_letGo (wpAny_pure ?_)));have q:=hR (h'.update S (Obj.mapSeq λ _=>#[])) s.toks λ b o h1 h2 e=>(Heap.get?_update_other _ _ (zY h2)).trans (eb b o h1 e);rw[hb] at q;exact q
 |succ k ih =>
  intro j s c hr hj hit hl ht hS hR;have af:j<bs.length:=by omega
  have ej:bs.take (j+1)=bs.take j++[bs[j]]:=by rw[zV,zi af];rfl
  have mj:bs[j]∈bs:=zba af;refine codeAny_builtin PySem.F.entry_min_loop ?_;rw[zal zad _];show wpAny _ A.in1 (seqItems? (.ref S) >>= _) _ _ s;refine wpAny_bind (wpAny_seqItems hS rfl ?_);show wpAny _ A.in1 (tryCatch (pyNext (.ref I)) _ >>= _) _ _ s;refine wpAny_bind (wpAny_tryCatch (wpAny_pyNext_list_item (A:=A.in1) hit hl (x:=.ref bs[j].1) (by simp[af]) λ h' b7 sb=>?_));have df:Heap.SameBut I s.heap h':=sb;have bd:h'.get? S=_:=(df.2 S lc).trans hS;have ie:h'.IsList l (bs.map λ b=>yL b.1).toArray:=hl.at λ o e=>(df.2 l ez).trans e;have i7:∀b∈bs,IsTup h' b.1 (tv b.1):=λ b hb=>by
   obtain⟨o,ho,r⟩:=ht b hb;exact⟨o,(df.2 b.1 (ni b hb).1).trans ho,r⟩
  cases hb:Ba (bs.take j) with
  |none =>
   unfold J6 at bd ⊢;rw[hb] at bd ⊢;show wpAny _ A.in1 (updateSeq S (λ _=>#[.ref bs[j].1,.ref bs[j].1]) >>= _) _ _ _;refine wpAny_bind ?_;refine wpAny_updateSeq bd rfl ?_;rw[bc];have s1:=Heap.SameBut.update h' S (Obj.mapSeq λ _=>(#[.ref bs[j].1,.ref bs[j].1]:Array Value));refine wpAny_pure ⟨plainId_quiet zad _,ih (j+1) _ (c+1) (by omega) af (b7.at λ o e=>(s1.2 I (zY lc)).trans e) (ie.at λ o e=>(s1.2 l rz).trans e) (λ b hb=>?_) ?_ λ i8 tk bT=>?_⟩
   ·obtain⟨o,ho,r⟩:=i7 b hb;exact⟨o,(s1.2 b.1 (ni b hb).2).trans ho,r⟩
   ·refine (Heap.get?_update_self _ bd rfl).trans ?_;unfold J6;rw[ej,Iw,hb];rfl
   ·exact hR i8 tk λ b o h1 h2 e=>bT b o h1 h2 ((s1.2 b h2).trans ((df.2 b h1).trans e))
  |some m =>
   have mm:m∈bs:=yK (OO _ _ hb);unfold J6 at bd ⊢;rw[hb] at bd ⊢;show wpAny _ A.in1 (tryCatch (holding [.ref bs[j].1,.ref bs[j].1] (richCompare .Lt (.ref bs[j].1) (.ref m.1) >>= _)) _ >>= _) _ _ _;refine wpAny_bind (wpAny_tryCatch (wpAny_holding (wpAny_bind (HT.My (i7 _ mj) (i7 _ mm) (hk _ mj) (hk _ mm) hu ?_))));refine wpAny_bind (wpAny_holding (wpAny_truthy_bool ?_));refine wpAny_bind (wpAny_letGo (wpAny_pure ?_));cases hc:HT.lexLt bs[j].2 m.2 with
   |true =>
    simp only[if_true];have s1:=Heap.SameBut.update h' S (Obj.mapSeq λ _=>(#[.ref bs[j].1,.ref bs[j].1]:Array Value));refine wpAny_bind ?_;refine wpAny_updateSeq bd rfl (wpAny_bind (wpAny_letGo ?_));rw[bc];refine wpAny_pure ⟨plainId_quiet zad _,ih (j+1) _ c (by omega) af (b7.at λ o e=>(s1.2 I (zY lc)).trans e) (ie.at λ o e=>(s1.2 l rz).trans e) (λ b hb=>?_) ?_ λ i8 tk bT=>?_⟩
    ·obtain⟨o,ho,r⟩:=i7 b hb;exact⟨o,(s1.2 b.1 (ni b hb).2).trans ho,r⟩
    ·refine (Heap.get?_update_self _ bd rfl).trans ?_;unfold J6;rw[ej,Iw,hb];simp only[hc,if_true];rfl
    ·exact hR i8 tk λ b o h1 h2 e=>bT b o h1 h2 ((s1.2 b h2).trans ((df.2 b h1).trans e))
   |false =>
    simp only[zG,if_false];refine wpAny_bind (wpAny_letGo ?_);rw[bc];refine wpAny_pure ⟨plainId_quiet zad _,ih (j+1) _ c (by omega) af b7 ie i7 ?_ λ i8 tk bT=>?_⟩
    ·refine bd.trans ?_;unfold J6;rw[ej,Iw,hb];simp only[hc,zG,if_false]
    ·exact hR i8 tk λ b o h1 h2 e=>bT b o h1 h2 ((df.2 b h1).trans e)
def MK {E:Value->Shared->Prop}{s:Shared}{Q:Value->Shared->Prop}(bs:List (Addr×List Int))(tv:Addr->Array Value)(l:Addr)(o:Option Value)(nh:o=none->bs≠[])(hh:A.handled=none)(hu:A.in1.units<cLine)
 (hl:s.heap.IsList l (bs.map λ b=>yL b.1).toArray) (ht:∀b∈bs,IsTup s.heap b.1 (tv b.1)) (hk:∀b∈bs,IntsAre (tv b.1).toList b.2)
 (hQ:∀h' tk,(∀b o,s.heap.get? b=some o->h'.get? b=some o)->Q (match Ba bs with|none=>o.getD .none|some b=>.ref b.1) {s with heap:=h',toks:=tk}):
 wpAny (model prog w) A (call (.builtin "min") [.ref l] (rT o)) Q E s:=by
 have bc:(toString "min" ++ toString ".loop" : String) = "min.loop" := by decide
 obtain⟨ol,nj,_⟩:=id hl;have r6:l<s.heap.objs.size:=zt nj;refine kmk_tree PySem.F.kind_min PySem.F.plain_min PySem.F.entry_min (Yx _ _) ?_;show wpAny _ A.in1 (Builtin.Builtins.bindParams "min" ["key","default"] 0 ⟨[],rT o⟩ >>= _) _ _ s;refine wpAny_bind (wpAny_of_eq (show Builtin.Builtins.bindParams "min" ["key","default"] 0 ⟨[],rT o⟩=pure [none,o] by cases o<;>rfl) ?_);refine wpAny_bind (wpAny_pure ?_);refine wpAny_bind (wpAny_pyIter_list hl ?_);refine wpAny_bind (wpAny_newList ?_ (zR _));rw[bc];have hS:(s.heap.push {cls:=.type "list_iterator",data:=.fields #[.ref l,.int 0 0]}).objs.size=s.heap.objs.size+1:=Heap.size_push ..;have old:∀b o,s.heap.get? b=some o->b≠s.heap.objs.size/\b≠(s.heap.push {cls:=.type "list_iterator",data:=.fields #[.ref l,.int 0 0]}).objs.size:=λ b o e=>⟨z6 (zt e),by rw[hS];exact z6 (Nat.lt_succ_of_lt (zt e))⟩;have grow:∀b o,s.heap.get? b=some o->((s.heap.push {cls:=.type "list_iterator",data:=.fields #[.ref l,.int 0 0]}).push {cls:=.type "list",data:=.seq #[]}).get? b=some o:=λ b o e=>zo _ (zo _ e);refine wpAny_pure ⟨plainId_quiet zad _,?_⟩;refine Yy bs tv l s.heap.objs.size (s.heap.push {cls:=.type "list_iterator",data:=.fields #[.ref l,.int 0 0]}).objs.size o nh hh hu (by rw[hS];exact Nat.succ_ne_self _) (old l ol nj).1 (old l ol nj).2 (λ b hb=>?_) hk _ 0 _ 0 rfl (zR _) ?_ ?_ (λ b hb=>?_) ?_ ?_
 ·obtain⟨o,ho,_⟩:=ht b hb;exact old b.1 o ho
 ·exact⟨_,zo _ (zE _ rfl),rfl,rfl⟩
 ·exact hl.at λ o e=>grow l o e
 ·obtain⟨o,ho,r⟩:=ht b hb;exact⟨o,grow b.1 o ho,r⟩
 ·exact zE _ rfl
 ·intro h' tk e7;exact hQ h' tk λ b o e=>e7 b o (old b o e).1 (old b o e).2 (grow b o e)
end
section
variable {X:Cx}{e e2:Expr}{te td:TE}{p pos kp:Pos}
abbrev rV (K:za)(te td:TE):TE:=λ σ H Q=>te σ H λ x H1=>td σ H1 λ d H2=>∃(a:Addr) (bs:List (Addr×List Int)),x=.ref a/\Di K H2 a (bs.map λ b=>V.ref b.1)/\(∀b∈bs,Fe K H2 b.1 (b.2.map V.int))/\Q (match Ba bs with | none=>d | some b=>.ref b.1) H2
def Kw:∀ {bs:List (Addr×List Int)}{us:List Value},Vals (bs.map λ b=>V.ref b.1) us->us=bs.map λ b=>yL b.1
 |[],_,.nil=>rfl
 |b::r,_,.cons h t=>by cases h;rw[Kw t];rfl
def fE (hc:X.calm=true)(hu:X.A.units+1<cLine)(hg:Gl X "min")(hm:X.mg "min" = none)(he:PE X e te)(hd:PE X e2 td)(aJ: ~~~(starEach [e] X.env=[(false,eval e X.env)]))(a6: ~~~((backToKw pos (keywordEach [⟨some "default",e2,kp⟩] X.env)).all (·.1.isSome)=true))(nk: ~~~((backToKw pos (keywordEach [⟨some "default",e2,kp⟩] X.env)).filterMap (·.1)=([("default" : Str)]:List Str)))(np: ~~~((backToKw pos (keywordEach [⟨some "default",e2,kp⟩] X.env)).any (·.1.isNone)=false))(be: ~~~(backTo pos (starEach [e] X.env)=(false,eval e X.env)::backTo pos (starEach [] X.env)))(ao: ~~~((backTo pos (starEach [e] X.env)).any (·.1)=false)):
 PE X (.Call (.Name "min" p) [e] [⟨some "default",e2,kp⟩] pos) (rV X.K te td):=by
 intro pins s σ H Q I h;refine wpAny_Call_Name_kw (Du I hg hm boot_min ?_ (by decide) (by decide));refine callWith_kw (Bj ((Bp he Cn (hs:=aJ)) pos pins s σ H (λ vs H1=>match vs with|[x]=>td σ H1 λ d H2=>∃(a:Addr) (bs:List (Addr×List Int)),x=.ref a/\Di X.K H2 a (bs.map λ b=>V.ref b.1)/\(∀b∈bs,Fe X.K H2 b.1 (b.2.map V.int))/\Q (match Ba bs with|none=>d|some b=>.ref b.1) H2|_=>False) I h) λ us s1 zz=>?_) be ao a6 np;obtain⟨vs,H1,I1,r1,q1⟩:=zz;obtain⟨x,rfl⟩:∃x,vs=[x]:=by
  match vs,q1 with
  |[x],_=>exact⟨x,rfl⟩
 refine Bj ((eG hd mG) pos pins s1 σ H1 (λ zs H2=>match zs with|[d]=>∃(a:Addr) (bs:List (Addr×List Int)),x=.ref a/\Di X.K H2 a (bs.map λ b=>V.ref b.1)/\(∀b∈bs,Fe X.K H2 b.1 (b.2.map V.int))/\Q (match Ba bs with|none=>d|some b=>.ref b.1) H2|_=>False) I1 q1) λ ws s2 zz=>?_;obtain⟨zs,H2,I2,r2,q2⟩:=zz;obtain⟨d,rfl⟩:∃d,zs=[d]:=by
  match zs,q2 with
  |[d],_=>exact⟨d,rfl⟩
 obtain⟨a,bs,rfl,hl,hb,q⟩:=q2;obtain⟨ua,rfl,ra⟩:=r1.one;obtain⟨ud,rfl,rd⟩:=r2.one;cases ra;rw[nk];obtain⟨ac,rv,pl,hz⟩:=I2.list hl;have ei:=Kw rv;subst ei;have tv:∀a:Addr,∃t:Array Value,∀b∈bs,b.1=a->IsTup s2.heap a t/\IntsAre t.toList b.2:=λ a=>by
  by_cases bU:∃b∈bs,b.1=a
  ·obtain⟨b,bU,rfl⟩:=bU;obtain⟨ts,rt,pt,_⟩:=I2.tuple (hb b bU);refine⟨ts.toArray,λ b' aA e=>⟨pt,?_⟩⟩;have q2:=hb b' aA;rw[e] at q2;have e2:=I2.Hq q2 (hb b bU);rw[<-e2] at rt;simpa using intsAre_of rt
  ·exact⟨#[],λ b aA e=>absurd ⟨b,aA,e⟩ bU⟩
 refine MK bs (λ b=>zh (tv b)) a (some ud) (λ h=>by cases h) (I2.ok.hd hc) hu pl.isList (λ b aA=>(zb (tv b.1) b aA rfl).1) (λ b aA=>(zb (tv b.1) b aA rfl).2) λ h' tk hk=>?_;refine⟨match Ba bs with|none=>d|some b=>.ref b.1,H2,I2.kept (t':=tk) hk,?_,q⟩;cases Ba bs with
 |none=>exact rd
 |some b=>rfl
end
inductive D where
 |AK|bl (b:Bool)|int (i:Int)|str (x:Str)|tup (ds:List D)|lst (ds:List D)|EW (x:Str)|Bq (t:Bool) (ks vs:List D)|ins (x:Str) (ns:List Str) (ds:List D)
abbrev Cy:Key->D
 | .inl i=>.int i
 | .inr x=>.str x
def Rd.same {H H':Hp}{a:Addr}{u:HO}(r:Rd H a u)(e:Ae H H'):Rd H' a u:=r.elim (λ h=>.inl (e _ _ h)) λ⟨o,h⟩=>.inr ⟨o,e _ _ h⟩
mutual
inductive BX (K:za) (H:Hp):V->D->Prop
 |AK:BX K H .AK .AK
 |bl (b):BX K H (.bl b) (.bl b)
 |int (i):BX K H (.int i) (.int i)
 |str (x):BX K H (.str x) (.str x)
 |tup {a xs ds}:H a=some (.tup xs)->Ag K H xs ds->BX K H (.ref a) (.tup ds)
 |lst {a xs ds}:Di K H a xs->Ag K H xs ds->BX K H (.ref a) (.lst ds)
 |Vd {a kvs ds}:Rd H a (.dK kvs)->Ag K H (kvs.map yZ) ds->BX K H (.ref a) (.Bq false (kvs.map λ kv=>Cy kv.1) ds)
 |Ve {a kvs ds}:Rd H a (.dT kvs)->Ag K H (kvs.map yZ) ds->BX K H (.ref a) (.Bq true (kvs.map λ kv=>.tup (kv.1.map Cy)) ds)
 |ins {a C dx fs x ds}:zH K mainGlobals x=some (some (.ref C))->H a=some (.ins C dx fs)->Ag K H (fs.map yZ) ds->BX K H (.ref a) (.ins x (fs.map zJ) ds)
 |EW {a x}:zH K mainGlobals x=some (some (.ref a))->True->BX K H (.ref a) (.EW x)
inductive Ag (K:za) (H:Hp):List V->List D->Prop
 |nil:Ag K H [] []
 |cons {x d xs ds}:BX K H x d->Ag K H xs ds->Ag K H (x::xs) (d::ds)
end
def Ag.length {K:za}{H:Hp}:∀ {xs:List V}{ds:List D},Ag K H xs ds->xs.length=ds.length
 |_,_,.nil=>rfl
 |_,_,.cons _ t=>by rw[zj,zj,Ag.length t]
def Ag.get {K:za}{H:Hp}:∀ {xs:List V}{ds:List D}{i:Nat}{d:D},Ag K H xs ds->ds[i]?=some d->∃x,xs[i]?=some x/\BX K H x d
 |_,_,_,_,.nil,e=>by simp at e
 |_,_,0,_,.cons r _,e=>by simp at e;subst e;exact⟨_,rfl,r⟩
 |_,_,i+1,d,.cons _ t,e=>by
  obtain⟨u,h1,h2⟩:=Ag.get (i:=i) (d:=d) t (by simpa using e);exact⟨u,by simpa using h1,h2⟩
def Ag.mV {K:za}{H:Hp}:∀ {xs:List V}{ds:List D}{i:Nat}{x:V},Ag K H xs ds->xs[i]?=some x->∃d,ds[i]?=some d/\BX K H x d
 |_,_,_,_,.nil,e=>by simp at e
 |_,_,0,_,.cons r _,e=>by simp at e;subst e;exact⟨_,rfl,r⟩
 |_,_,i+1,d,.cons _ t,e=>by
  obtain⟨u,h1,h2⟩:=Ag.mV (i:=i) (x:=d) t (by simpa using e);exact⟨u,by simpa using h1,h2⟩
def Ag.append {K:za}{H:Hp}:∀ {xs ys:List V}{ds es:List D},Ag K H xs ds->Ag K H ys es->Ag K H (xs++ys) (ds++es):=by
 intro _ _ _ _ x_ h;cases x_ with
 |nil=>exact h
 |cons r t=>exact .cons r (Ag.append t h)
def Ag.snoc {K:za}{H:Hp}{xs:List V}{ds:List D}{x:V}{d:D}(h:Ag K H xs ds)(r:BX K H x d):Ag K H (xs++[x]) (ds++[d]):=h.append (.cons r .nil)
def Ag.take {K:za}{H:Hp}:∀ {xs:List V}{ds:List D}(n:Nat),Ag K H xs ds->Ag K H (xs.take n) (ds.take n)
 |_,_,0,_|_,_,_+1,.nil=>.nil
 |_,_,n+1,.cons r t=>.cons r (Ag.take n t)
def Ag.drop {K:za}{H:Hp}:∀ {xs:List V}{ds:List D}(n:Nat),Ag K H xs ds->Ag K H (xs.drop n) (ds.drop n)
 |_,_,0,r=>r
 |_,_,_+1,.nil=>.nil
 |_,_,n+1,.cons _ t=>Ag.drop n t
def Ag.ints {K:za}{H:Hp}:∀(ns:List Int),Ag K H (ns.map V.int) (ns.map D.int)
 |[]=>.nil
 |n::r=>.cons (.int n) (Ag.ints r)
def Ae.vT {K:za}{H H':Hp}{a:Addr}{xs:List V}(e:Ae H H')(h:Fe K H a xs):Fe K H' a xs:=by
 rcases h with (h|⟨o,h⟩)|h
 ·exact .inl (.inl (e _ _ h))
 ·exact .inl (.inr ⟨o,e _ _ h⟩)
 ·exact .inr h
mutual
theorem BX.mono {K:za}{H H':Hp}(e:Ae H H'):∀ {v:V}{d:D},BX K H v d->BX K H' v d:=by
 intro _ _ x_;cases x_ with
 |AK=>exact .AK
 |bl b=>exact .bl b
 |int i=>exact .int i
 |str x=>exact .str x
 |tup h r=>exact .tup (e _ _ h) (Ag.mono e r)
 |lst h r=>exact .lst (e.seq h) (Ag.mono e r)
 |Vd h r=>exact .Vd (h.same e) (Ag.mono e r)
 |Ve h r=>exact .Ve (h.same e) (Ag.mono e r)
 |ins n h r=>exact .ins n (e _ _ h) (Ag.mono e r)
 |EW h r=>exact .EW h r
theorem Ag.mono {K:za}{H H':Hp}(e:Ae H H'):∀ {vs:List V}{ds:List D},Ag K H vs ds->Ag K H' vs ds:=by
 intro _ _ x_;cases x_ with
 |nil=>exact .nil
 |cons h t=>exact .cons (BX.mono e h) (Ag.mono e t)
end
def AQ {H:Hp}{p:Addr}(h:H p=none)(o:HO):Ae H (upd H p o):=λ b u q=>by rw[Aj (Ay q h)];exact q
mutual
noncomputable def Bl:D->D->Bool
 | .AK,.AK=>true
 | .bl a,.bl b| .int a,.int b| .str a,.str b=>a==b
 | .bl a,.int b=>(if a then 1 else 0)==b
 | .int a,.bl b=>a==(if b then 1 else 0)
 | .tup a,.tup b| .lst a,.lst b=>Cp a b
 | .EW a,.EW b=>a==b
 | .Bq s a b,.Bq t c d=>(s==t)&&(Cp a c&&Cp b d)
 | .ins x n a,.ins y m b=>(x==y)&&((n==m)&&Cp a b)
 |_,_=>false
noncomputable def Cp:List D->List D->Bool
 |[],[]=>true
 |a::r,b::t=>Bl a b&&Cp r t
 |_,_=>false
end
mutual
theorem RP:∀d:D,Bl d d=true
 | .AK=>by simp[Bl]
 | .bl b| .int b| .str b=>by simp[Bl]
 | .tup b| .lst b=>by simp only[Bl];exact CK b
 | .EW b=>by simp[Bl]
 | .Bq s a b=>by simp only[Bl];rw[CK a,CK b];simp
 | .ins x n a=>by simp only[Bl];rw[CK a];simp
theorem CK:∀d:List D,Cp d d=true
 |[]=>by simp[Cp]
 |a::r=>by simp only[Cp,RP a,CK r,Bool.and_true]
end
mutual
noncomputable def Cu:D->Bool
 | .tup a| .lst a=>Kx a
 | .EW _| .Bq _ _ _| .ins _ _ _=>false
 |_=>true
noncomputable def Kx:List D->Bool
 |[]=>true
 |a::r=>Cu a&&Kx r
end
def Qd:∀ {ds:List D}{d:D},d∈ds->Kx ds=true->Cu d=true
 |a::r,d,h,q=>by
  rw[Kx,zF] at q;rcases zp.mp h with z|z
  ·subst z;exact q.1
  ·exact Qd z q.2
mutual
noncomputable def Qe:D->Nat
 | .tup a| .lst a=>Qf a+1
 |_=>0
noncomputable def Qf:List D->Nat
 |[]=>0
 |a::r=>max (Qe a) (Qf r)
end
def Vf:∀ {ds:List D}{d:D},d∈ds->Qe d<=Qf ds
 |a::r,d,h=>by
  rw[Qf];rcases zp.mp h with z|z
  ·subst z;exact Nat.le_max_left _ _
  ·exact yJ (Vf z) (Nat.le_max_right _ _)
def RQ:∀ {a b:List D},Cp a b=true->a.length=b.length
 |[],[],_=>rfl
 |[],_::_,h|_::_,[],h=>by simp[Cp] at h
 |a::r,b::t,h=>by
  simp only[Cp,zF] at h;rw[zj,zj,RQ h.2]
def Iz:∀(a b:List D),a.length=b.length->(zw a.length).all (λ j=>Bl (a.getD j .AK) (b.getD j .AK))=Cp a b
 |[],[],_=>by simp[Cp]
 |a::r,b::t,h=>by
  have ih:=Iz r t (by simpa using h);rw[zj,List.range_succ_eq_map,List.all_cons,List.all_map,Cp,<-ih];simp[Function.comp_def]
 |[],_::_,h|_::_,[],h=>by cases h
def Vg {a b:List D}(h:a.length≠b.length):Cp a b=false:=by
 cases e:Cp a b with
 |false=>rfl
 |true=>exact absurd (RQ e) h
def Yz (a b:List D):((zw (min a.length b.length)).all (λ j=>Bl (a.getD j .AK) (b.getD j .AK))&&(a.length==b.length))=Cp a b:=by
 by_cases h:a.length=b.length
 ·rw[<-Iz a b h,h];simp
 ·rw[Vg h,beq_false_of_ne h,Bool.and_false]
section
variable {X:Cx}{pins:List (Addr×Obj)}{σ:St}{H:Hp}{s:Shared}
def Vh (I:Inv X pins σ H s){a:Addr}{xs ys:List V}(h:Di X.K H a xs)(h':Fe X.K H a ys):False:=by
 obtain⟨ac,_,⟨o,n,e,c,_,_⟩,_⟩:=I.list h;obtain⟨its',_,⟨o',e',c',_⟩,_⟩:=I.tuple h';rw[e] at e';cases e';rw[c] at c';revert c';decide
mutual
theorem fF (I:Inv X pins σ H s){v:V}{d d':D}(n1:Cu d=true)(n2:Cu d'=true)(h:BX X.K H v d)(h':BX X.K H v d'):d=d':=by
 cases h with
 |tup h r =>
  cases h' with
  |tup h' r' =>
   have e:=I.Hq (.of h) (.of h');subst e;rw[Gr I (by rw[Cu] at n1;exact n1) (by rw[Cu] at n2;exact n2) r r']
  |lst h' _=>exact (Vh I h' (.of h)).elim
  |_=>rw[Cu] at n2;cases n2
 |lst h r =>
  cases h' with
  |lst h' r' =>
   have e:=I.Gg h h';subst e;rw[Gr I (by rw[Cu] at n1;exact n1) (by rw[Cu] at n2;exact n2) r r']
  |tup h' _=>exact (Vh I h (.of h')).elim
  |_=>rw[Cu] at n2;cases n2
 |AK|bl _|int _|str _=>cases h';rfl
 |_=>rw[Cu] at n1;cases n1
theorem Gr (I:Inv X pins σ H s){v:List V}{d d':List D}(n1:Kx d=true)(n2:Kx d'=true)(h:Ag X.K H v d)(h':Ag X.K H v d'):d=d':=by
 cases h with
 |nil=>cases h';rfl
 |cons h r =>
  cases h' with
  |cons h' r' =>
   rw[Kx,zF] at n1 n2;rw[fF I n1.1 n2.1 h h',Gr I n1.2 n2.2 r r']
end
def wR {xs:List V}{ac:List Value}(r:Vals xs ac)(j:Nat)(h:j<ac.toArray.size):∃x,xs[j]?=some x/\RelV x ac.toArray[j]:=by
 have h':j<ac.length:=by simpa using h
 have hx:j<xs.length:=by rw[r.length];exact h'
 obtain⟨u,hu,ru⟩:=r.get (zi hx);rw[zi h'] at hu;refine⟨xs[j],zi hx,?_⟩;have e:ac.toArray[j]=u:=by simpa using hu
 rw[e];exact ru
def Vi {ds:List D}{j:Nat}{d:D}(h:ds[j]?=some d):ds.getD j .AK=d:=by rw[zx,h];rfl
def jW (I:Inv X pins σ H s)(n:Nat):∀(A:Around) (d e:D) (v w:V) (u1 u2:Value),Qe d<=n->Cu d=true->Cu e=true->A.units+n<cLine->BX X.K H v d->BX X.K H w e->RelV v u1->RelV w u2->SeqAt.EqAt A s u1 u2 (Bl d e)/\SeqAt.RcAt A s u1 u2 (Bl d e)/\SeqAt.RcNeAt A s u1 u2 (!Bl d e):=by
 induction n using Nat.strongRecOn with
 |ind n ih =>
  intro A d e v w u1 u2 hd aD am hu h1 h2 r1 r2;have ai:A.units<cLine:=by omega
  have el:∀ {xs ys:List V} {ds es:List D} {ac its':List Value},Vals xs ac->Vals ys its'->Ag X.K H xs ds->Ag X.K H ys es->Kx ds=true->Kx es=true->Qf ds<n->∀(j:Nat) (h1:j<ac.toArray.size) (h2:j<its'.toArray.size),SeqAt.EqAt A.in1 s ac.toArray[j] its'.toArray[j] (Bl (ds.getD j .AK) (es.getD j .AK)):=λ rv cu r r' n1 n2 hn j h1 h2=>by
   obtain⟨x,hx,rx⟩:=wR rv j h1;obtain⟨y,hy,ry⟩:=wR cu j h2;obtain⟨dx,ex,u3⟩:=r.mV hx;obtain⟨dy,ey,u4⟩:=r'.mV hy;rw[Vi ex,Vi ey];exact (ih _ hn A.in1 dx dy x y _ _ (Vf (zv ex)) (Qd (zv ex) n1) (Qd (zv ey) n2) (by show A.units+1+_<cLine;omega) u3 u4 rx ry).1
  cases h1 with
  |EW _ _|Vd _ _|Ve _ _|ins _ _ _=>simp[Cu] at aD
  |AK =>
   cases r1;cases h2 with
   |EW _ _|Vd _ _|Ve _ _|ins _ _ _=>simp[Cu] at am
   |AK=>cases r2;simp only[Bl];exact⟨.same _,.none_none,.none_none⟩
   |bl b=>cases r2;simp only[Bl];exact⟨.none_bool _,.none_bool _,.none_bool _⟩
   |int b=>obtain⟨t,rfl⟩:=r2;simp only[Bl];exact⟨.none_int _ _,.none_int _ _,.none_int _ _⟩
   |str b=>obtain⟨t,rfl⟩:=r2;simp only[Bl];exact⟨.none_str _ _,.none_str _ _,.none_str _ _⟩
   |tup h r=>cases r2;simp only[Bl];obtain⟨_,_,p,_⟩:=I.tuple (.of h);exact⟨.none_tuple p ai,.none_tuple p ai,.none_tuple p ai⟩
   |lst h r=>cases r2;simp only[Bl];obtain⟨_,_,p,_⟩:=I.list h;exact⟨.none_list p.isList ai,.none_list p.isList ai,.none_list p.isList ai⟩
  |bl a =>
   cases r1;cases h2 with
   |EW _ _|Vd _ _|Ve _ _|ins _ _ _=>simp[Cu] at am
   |AK=>cases r2;simp only[Bl];exact⟨.bool_none _,.bool_none _,.bool_none _⟩
   |bl b=>cases r2;simp only[Bl];exact⟨.bool_bool _ _,.bool_bool _ _,.bool_bool _ _⟩
   |int b=>obtain⟨t,rfl⟩:=r2;simp only[Bl];exact⟨.bool_int _ _ _,.bool_int _ _ _,.bool_int _ _ _⟩
   |str b=>obtain⟨t,rfl⟩:=r2;simp only[Bl];exact⟨.bool_str _ _ _,.bool_str _ _ _,.bool_str _ _ _⟩
   |tup h r=>cases r2;simp only[Bl];obtain⟨_,_,p,_⟩:=I.tuple (.of h);exact⟨.bool_tuple _ p ai,.bool_tuple _ p ai,.bool_tuple _ p ai⟩
   |lst h r=>cases r2;simp only[Bl];obtain⟨_,_,p,_⟩:=I.list h;exact⟨.bool_list _ p.isList ai,.bool_list _ p.isList ai,.bool_list _ p.isList ai⟩
  |int a =>
   obtain⟨t',rfl⟩:=r1;cases h2 with
   |EW _ _|Vd _ _|Ve _ _|ins _ _ _=>simp[Cu] at am
   |AK=>cases r2;simp only[Bl];exact⟨.int_none _ _,.int_none _ _,.int_none _ _⟩
   |bl b=>cases r2;simp only[Bl];exact⟨.int_bool _ _ _,.int_bool _ _ _,.int_bool _ _ _⟩
   |int b=>obtain⟨t,rfl⟩:=r2;simp only[Bl];exact⟨.int_int _ _ _ _,.int_int _ _ _ _,.int_int _ _ _ _⟩
   |str b=>obtain⟨t,rfl⟩:=r2;simp only[Bl];exact⟨.int_str _ _ _ _,.int_str _ _ _ _,.int_str _ _ _ _⟩
   |tup h r=>cases r2;simp only[Bl];obtain⟨_,_,p,_⟩:=I.tuple (.of h);exact⟨.int_tuple _ _ p ai,.int_tuple _ _ p ai,.int_tuple _ _ p ai⟩
   |lst h r=>cases r2;simp only[Bl];obtain⟨_,_,p,_⟩:=I.list h;exact⟨.int_list _ _ p.isList ai,.int_list _ _ p.isList ai,.int_list _ _ p.isList ai⟩
  |str a =>
   obtain⟨t',rfl⟩:=r1;cases h2 with
   |EW _ _|Vd _ _|Ve _ _|ins _ _ _=>simp[Cu] at am
   |AK=>cases r2;simp only[Bl];exact⟨.str_none _ _,.str_none _ _,.str_none _ _⟩
   |bl b=>cases r2;simp only[Bl];exact⟨.str_bool _ _ _,.str_bool _ _ _,.str_bool _ _ _⟩
   |int b=>obtain⟨t,rfl⟩:=r2;simp only[Bl];exact⟨.str_int _ _ _ _,.str_int _ _ _ _,.str_int _ _ _ _⟩
   |str b=>obtain⟨t,rfl⟩:=r2;simp only[Bl];exact⟨.str_str _ _ _ _,.str_str _ _ _ _,.str_str _ _ _ _⟩
   |tup h r=>cases r2;simp only[Bl];obtain⟨_,_,p,_⟩:=I.tuple (.of h);exact⟨.str_tuple _ _ p ai,.str_tuple _ _ p ai,.str_tuple _ _ p ai⟩
   |lst h r=>cases r2;simp only[Bl];obtain⟨_,_,p,_⟩:=I.list h;exact⟨.str_list _ _ p.isList ai,.str_list _ _ p.isList ai,.str_list _ _ p.isList ai⟩
  | @tup a xs ds h r =>
   cases r1;obtain⟨ac,rv,p,_⟩:=I.tuple (.of h);cases h2 with
   |EW _ _|Vd _ _|Ve _ _|ins _ _ _=>simp[Cu] at am
   |AK=>cases r2;simp only[Bl];exact⟨.tuple_none p ai,.tuple_none p ai,.tuple_none p ai⟩
   |bl b=>cases r2;simp only[Bl];exact⟨.tuple_bool _ p ai,.tuple_bool _ p ai,.tuple_bool _ p ai⟩
   |int b=>obtain⟨t,rfl⟩:=r2;simp only[Bl];exact⟨.tuple_int _ _ p ai,.tuple_int _ _ p ai,.tuple_int _ _ p ai⟩
   |str b=>obtain⟨t,rfl⟩:=r2;simp only[Bl];exact⟨.tuple_str _ _ p ai,.tuple_str _ _ p ai,.tuple_str _ _ p ai⟩
   | @lst a2 nq es h' r'=>cases r2;simp only[Bl];obtain⟨_,_,p',_⟩:=I.list h';exact⟨.tuple_list p p'.isList ai,.tuple_list p p'.isList ai,.tuple_list p p'.isList ai⟩
   | @tup a2 nq es h' r' =>
    cases r2;obtain⟨its',cu,p',_⟩:=I.tuple (.of h');have z1:ac.toArray.size=ds.length:=by rw[zm,<-rv.length,r.length]
    have z2:its'.toArray.size=es.length:=by rw[zm,<-cu.length,r'.length]
    have hj:=el rv cu r r' (by rw[Cu] at aD;exact aD) (by rw[Cu] at am;exact am) (by rw[Qe] at hd;omega);have q:=SeqAt.RcAt.tuples (A:=A) (e:=λ j=>Bl (ds.getD j .AK) (es.getD j .AK)) p p' ai hj;have q':=SeqAt.RcNeAt.tuples (A:=A) (e:=λ j=>Bl (ds.getD j .AK) (es.getD j .AK)) p p' ai hj;rw[z1,z2,Yz] at q q';simp only[Bl];by_cases ha:a=a2
    ·subst ha;have e':=I.Hq (.of h) (.of h');subst e';have e2:=Gr I (by rw[Cu] at aD;exact aD) (by rw[Cu] at am;exact am) r r';subst e2;rw[CK] at q q' ⊢;exact⟨.same _,q,q'⟩
    ·exact⟨.of_refs ha q,q,q'⟩
  | @lst a xs ds h r =>
   cases r1;obtain⟨ac,rv,p,_⟩:=I.list h;cases h2 with
   |EW _ _|Vd _ _|Ve _ _|ins _ _ _=>simp[Cu] at am
   |AK=>cases r2;simp only[Bl];exact⟨.list_none p.isList ai,.list_none p.isList ai,.list_none p.isList ai⟩
   |bl b=>cases r2;simp only[Bl];exact⟨.list_bool _ p.isList ai,.list_bool _ p.isList ai,.list_bool _ p.isList ai⟩
   |int b=>obtain⟨t,rfl⟩:=r2;simp only[Bl];exact⟨.list_int _ _ p.isList ai,.list_int _ _ p.isList ai,.list_int _ _ p.isList ai⟩
   |str b=>obtain⟨t,rfl⟩:=r2;simp only[Bl];exact⟨.list_str _ _ p.isList ai,.list_str _ _ p.isList ai,.list_str _ _ p.isList ai⟩
   | @tup a2 nq es h' r'=>cases r2;simp only[Bl];obtain⟨_,_,p',_⟩:=I.tuple (.of h');exact⟨.list_tuple p.isList p' ai,.list_tuple p.isList p' ai,.list_tuple p.isList p' ai⟩
   | @lst a2 nq es h' r' =>
    cases r2;obtain⟨its',cu,p',_⟩:=I.list h';have z1:ac.toArray.size=ds.length:=by rw[zm,<-rv.length,r.length]
    have z2:its'.toArray.size=es.length:=by rw[zm,<-cu.length,r'.length]
    have hj:=el rv cu r r' (by rw[Cu] at aD;exact aD) (by rw[Cu] at am;exact am) (by rw[Qe] at hd;omega);have qq:SeqAt.RcAt A s (.ref a) (.ref a2) (Cp ds es)/\SeqAt.RcNeAt A s (.ref a) (.ref a2) (!Cp ds es):=by
     by_cases hz:ac.toArray.size=its'.toArray.size
     ·have q:=SeqAt.RcAt.lists (A:=A) (e:=λ j=>Bl (ds.getD j .AK) (es.getD j .AK)) p.isList p'.isList hz ai hj;have q':=SeqAt.RcNeAt.lists (A:=A) (e:=λ j=>Bl (ds.getD j .AK) (es.getD j .AK)) p.isList p'.isList hz ai hj;rw[z1,Iz ds es (by rw[<-z1,<-z2,hz])] at q q';exact⟨q,q'⟩
     ·rw[Vg (by rw[<-z1,<-z2];exact hz)];exact⟨.lists_lengths p.isList p'.isList (by simpa using hz) ai,.lists_lengths p.isList p'.isList (by simpa using hz) ai⟩
    obtain⟨q,q'⟩:=qq;simp only[Bl];by_cases ha:a=a2
    ·subst ha;have e':=I.Gg h h';subst e';have e2:=Gr I (by rw[Cu] at aD;exact aD) (by rw[Cu] at am;exact am) r r';subst e2;rw[CK] at q q' ⊢;exact⟨.same _,q,q'⟩
    ·exact⟨.of_refs ha q,q,q'⟩
abbrev fG (K:za)(A:Around)(neg:Bool):R2:=λ x y H Q=>∃d e,BX K H x d/\BX K H y e/\A.units+Qe d<cLine/\Cu d=true/\Cu e=true/\Q (.bl (if neg=true then !Bl d e else Bl d e)) H
def YA:Gi X (compareOp .Eq) (fG X.K X.A false):=by
 intro pins s σ H x y v u Q I rx ry h;obtain⟨d,e,hd,he,hu,n1,n2,q⟩:=h;exact (jW I (Qe d) X.A d e x y v u (zu _) n1 n2 hu hd he rx ry).2.1 X.prog X.w X.xe _ ⟨.bl _,H,I,rfl,q⟩
def mW:Gi X (compareOp .NotEq) (fG X.K X.A true):=by
 intro pins s σ H x y v u Q I rx ry h;obtain⟨d,e,hd,he,hu,n1,n2,q⟩:=h;exact (jW I (Qe d) X.A d e x y v u (zu _) n1 n2 hu hd he rx ry).2.2 X.prog X.w X.xe _ ⟨.bl _,H,I,rfl,q⟩
end
inductive OT where
 |sh (d:D)|lst (ts:List OT)|tup (ts:List OT)|Bq (t:Bool) (ks:List D) (ts:List OT)|ins (x:Str) (ns:List Str) (ts:List OT)
inductive Ow where
 |rows (C4:List (List D))
 |LN (p:Nat) (ds:List D)
 |tree (p:Option Nat) (t:OT)
inductive Cl where
 |val (d:D)|own (ds:List D)|ow (o:Ow)
noncomputable abbrev Ad:=List (Option Cl)
inductive M (α:Type) where
 |ok (a:α)|ex (c:Str)|bad
abbrev M.bind {α β:Type}(m:M α)(k:α->M β):M β:=match m with
 | .ok a=>k a
 | .ex c=>.ex c
 | .bad=>.bad
@[simp] theorem M.A9 {α β:Type}(a:α) (k:α->M β):(M.ok a).bind k=k a:=rfl
def XO {α β:Type}{m:M α}{k:α->M β}{G:M β->Prop}{R:M α->Prop}(h:G (m.bind k))(hk:∀a,G (k a)->R (.ok a))(hb:G .bad->R .bad:=by exact λ h=>h)(hx:∀x,G (.ex x)->R (.ex x):=by exact λ _ h=>h):R m:=by
 cases m with
 |ok a=>exact hk a h
 |ex x=>exact hx x h
 |bad=>exact hb h
abbrev del (H:Hp)(P:Addr->Prop):Hp:=λ a=>open Classical in if P a then none else H a
def Av {H:Hp}{P:Addr->Prop}{a:Addr}(h:¬ P a):del H P a=H a:=by unfold del;rw[if_neg h]
def D8 {H:Hp}{P:Addr->Prop}{a:Addr}(h:P a):del H P a=none:=by unfold del;rw[if_pos h]
def Ao {H:Hp}{P:Addr->Prop}{a:Addr}{o:HO}(h:del H P a=some o):¬ P a/\H a=some o:=by
 by_cases hp:P a
 ·rw[D8 hp] at h;cases h
 ·rw[Av hp] at h;exact⟨hp,h⟩
def Rd.B7 {H:Hp}{P:Addr->Prop}{a:Addr}{u:HO}(r:Rd (del H P) a u):Rd H a u:=r.elim (λ h=>.inl (Ao h).2) λ⟨o,h⟩=>.inr ⟨o,(Ao h).2⟩
def Ae.del {H H':Hp}{P:Addr->Prop}(e:Ae H H'):Ae (del H P) (del H' P):=λ b o h=>by
 obtain⟨h1,h2⟩:=Ao h;rw[Av h1];exact e b o h2
def CS {H:Hp}{P P':Addr->Prop}(h:∀a,P' a->P a):Ae (L2.del H P) (L2.del H P'):=λ b o e=>by
 obtain⟨h1,h2⟩:=Ao e;rw[Av λ z=>h1 (h b z)];exact h2
def E7 {H:Hp}{P:Addr->Prop}:Ae (L2.del H P) H:=λ b o e=>(Ao e).2
abbrev Dv (H:Hp)(a:Addr):Prop:=∃o,H a=some o/\∀xs,o≠.tup xs/\∀z,o≠.XH z (.tup xs)
def Dv.same {H H':Hp}{a:Addr}(h:Dv H a)(e:Ae H H'):Dv H' a:=let ⟨o,q,r⟩:=h;⟨o,e a o q,r⟩
def Dv.no {H:Hp}{a:Addr}(h:Dv H a)(e:H a=none):False:=by
 obtain⟨o,q,r⟩:=h;rw[e] at q;cases q
def Dv.lst {H:Hp}{a:Addr}{xs:List V}(h:H a=some (.lst xs)):Dv H a:=⟨_,h,λ _=>⟨λ z=>(by cases z),λ _ z=>by cases z⟩⟩
mutual
inductive C7 (K:za) (H:Hp) (P:Addr->Prop):V->OT->List Addr->Prop
 |sh {v d}:BX K (del H P) v d->C7 K H P v (.sh d) []
 |lst {p xs ts fp}:H p=some (.lst xs)->AG K H P xs ts fp->C7 K H P (.ref p) (.lst ts) (p::fp)
 |tup {p xs ts fp}:del H P p=some (.tup xs)->AG K H P xs ts fp->C7 K H P (.ref p) (.tup ts) fp
 |dK {p kvs ts fp}:H p=some (.dK kvs)->AG K H P (kvs.map yZ) ts fp->C7 K H P (.ref p) (.Bq false (kvs.map λ kv=>Cy kv.1) ts) (p::fp)
 |dT {p kvs ts fp}:H p=some (.dT kvs)->AG K H P (kvs.map yZ) ts fp->C7 K H P (.ref p) (.Bq true (kvs.map λ kv=>.tup (kv.1.map Cy)) ts) (p::fp)
 |ins {p C dx fs ts fp x}:zH K mainGlobals x=some (some (.ref C))->H p=some (.ins C dx fs)->AG K H P (fs.map yZ) ts fp->C7 K H P (.ref p) (.ins x (fs.map zJ) ts) (p::fp)
inductive AG (K:za) (H:Hp) (P:Addr->Prop):List V->List OT->List Addr->Prop
 |nil:AG K H P [] [] []
 |cons {v t fp vs ts fq}:C7 K H P v t fp->AG K H P vs ts fq->AG K H P (v::vs) (t::ts) (fp++fq)
end
mutual
noncomputable def er:OT->D
 | .sh d=>d
 | .lst ts=>.lst (OP ts)
 | .tup ts=>.tup (OP ts)
 | .Bq t ks ts=>.Bq t ks (OP ts)
 | .ins x ns ts=>.ins x ns (OP ts)
noncomputable def OP:List OT->List D
 |[]=>[]
 |t::r=>er t::OP r
end
def Qg:∀ts:List OT,OP ts=ts.map er
 |[]=>rfl
 |t::r=>by rw[OP,Qg r,zf]
mutual
theorem C7.move {K:za}{H H':Hp}{P P':Addr->Prop}(sm:Ae (del H P) (del H' P')):∀ {v:V}{t:OT}{fp:List Addr},(∀a∈fp,H' a=H a)->C7 K H P v t fp->C7 K H' P' v t fp:=by
 intro _ _ _ k x_;cases x_ with
 |sh h=>exact .sh (h.mono sm)
 |lst h r=>exact .lst ((k _ zd).trans h) (AG.move sm (λ a ha=>k a (ze _ ha)) r)
 |tup h r=>exact .tup (sm _ _ h) (AG.move sm k r)
 |dK h r=>exact .dK ((k _ zd).trans h) (AG.move sm (λ a ha=>k a (ze _ ha)) r)
 |dT h r=>exact .dT ((k _ zd).trans h) (AG.move sm (λ a ha=>k a (ze _ ha)) r)
 |ins n h r=>exact .ins n ((k _ zd).trans h) (AG.move sm (λ a ha=>k a (ze _ ha)) r)
theorem AG.move {K:za}{H H':Hp}{P P':Addr->Prop}(sm:Ae (del H P) (del H' P')):∀ {v:List V}{t:List OT}{fp:List Addr},(∀a∈fp,H' a=H a)->AG K H P v t fp->AG K H' P' v t fp:=by
 intro _ _ _ k x_;cases x_ with
 |nil=>exact .nil
 |cons h r=>exact .cons (C7.move sm (λ a ha=>k a (zM _ ha)) h) (AG.move sm (λ a ha=>k a (zl _ ha)) r)
end
mutual
theorem C7.C8 {K:za}{H:Hp}{P:Addr->Prop}:∀ {v:V}{t:OT}{fp:List Addr},C7 K H P v t fp->∀a∈fp,Dv H a:=by
 intro _ _ _ x_ a ha;cases x_ with
 |sh h=>cases ha
 |lst h r =>
  rcases zp.mp ha with rfl|ha
  ·exact .lst h
  ·exact AG.C8 r a ha
 |tup h r=>exact AG.C8 r a ha
 |dK h r =>
  rcases zp.mp ha with rfl|ha
  ·exact⟨_,h,λ _=>⟨λ z=>(by cases z),λ _ z=>by cases z⟩⟩
  ·exact AG.C8 r a ha
 |dT h r =>
  rcases zp.mp ha with rfl|ha
  ·exact⟨_,h,λ _=>⟨λ z=>(by cases z),λ _ z=>by cases z⟩⟩
  ·exact AG.C8 r a ha
 |ins n h r =>
  rcases zp.mp ha with rfl|ha
  ·exact⟨_,h,λ _=>⟨λ z=>(by cases z),λ _ z=>by cases z⟩⟩
  ·exact AG.C8 r a ha
theorem AG.C8 {K:za}{H:Hp}{P:Addr->Prop}:∀ {v:List V}{t:List OT}{fp:List Addr},AG K H P v t fp->∀a∈fp,Dv H a:=by
 intro _ _ _ x_ a ha;cases x_ with
 |nil=>cases ha
 |cons h r =>
  rcases zy.mp ha with ha|ha
  ·exact C7.C8 h a ha
  ·exact AG.C8 r a ha
end
mutual
theorem C7.Cg {K:za}{H:Hp}{P P':Addr->Prop}:∀ {v:V}{t:OT}{fp ag:List Addr},C7 K H P v t fp->C7 K H P' v t ag->fp=ag
 |_,_,_,_,.sh _,.sh _=>rfl
 |_,_,_,_,.lst h r,.lst h' r'=>by
  rw[h] at h';cases h';rw[AG.Cg r r']
 |_,_,_,_,.tup h r,.tup h' r'=>by
  have e:=(Ao h).2.symm.trans (Ao h').2;cases e;exact AG.Cg r r'
 |_,_,_,_,.dK (kvs:=kvs) (ts:=ts) h r,x=>by
  generalize ht:OT.Bq false (kvs.map λ kv=>Cy kv.1) ts=t at x;cases x with
  |dK h' r' =>
   rw[h] at h';cases h';injection ht with _ _ e
   subst e;rw[AG.Cg r r']
  |dT h' r'=>rw[h] at h';cases h'
  |_=>cases ht
 |_,_,_,_,.dT (kvs:=kvs) (ts:=ts) h r,x=>by
  generalize ht:OT.Bq true (kvs.map λ kv=>D.tup (kv.1.map Cy)) ts=t at x;cases x with
  |dT h' r' =>
   rw[h] at h';cases h';injection ht with _ _ e
   subst e;rw[AG.Cg r r']
  |dK h' r'=>rw[h] at h';cases h'
  |_=>cases ht
 |_,_,_,_,.ins (fs:=fs) (ts:=ts) (x:=y) n h r,x=>by
  generalize ht:OT.ins y (fs.map zJ) ts=t at x;cases x with
  |ins n' h' r' =>
   rw[h] at h';cases h';injection ht with _ _ e
   subst e;rw[AG.Cg r r']
  |_=>cases ht
theorem AG.Cg {K:za}{H:Hp}{P P':Addr->Prop}:∀ {v:List V}{t:List OT}{fp ag:List Addr},AG K H P v t fp->AG K H P' v t ag->fp=ag
 |_,_,_,_,.nil,.nil=>rfl
 |_,_,_,_,.cons h r,.cons h' r'=>by rw[C7.Cg h h',AG.Cg r r']
end
mutual
theorem C7.has {K:za}{H:Hp}{P P0:Addr->Prop}(hs:∀a,P0 a->P a):∀ {v:V}{t:OT}{fp:List Addr},(∀a∈fp,¬ P0 a)->C7 K H P v t fp->BX K (del H P0) v (er t):=by
 intro _ _ _ k x_;cases x_ with
 |sh h=>rw[er];exact h.mono (CS hs)
 |lst h r=>rw[er];exact .lst (.of (show del H P0 _=_ by rw[Av (k _ zd)];exact h)) (AG.has hs (λ a ha=>k a (ze _ ha)) r)
 |tup h r=>rw[er];exact .tup (CS hs _ _ h) (AG.has hs k r)
 |dK h r=>rw[er];exact .Vd (.inl (show del H P0 _=_ by rw[Av (k _ zd)];exact h)) (AG.has hs (λ a ha=>k a (ze _ ha)) r)
 |dT h r=>rw[er];exact .Ve (.inl (show del H P0 _=_ by rw[Av (k _ zd)];exact h)) (AG.has hs (λ a ha=>k a (ze _ ha)) r)
 |ins n h r=>rw[er];exact .ins n (show del H P0 _=_ by rw[Av (k _ zd)];exact h) (AG.has hs (λ a ha=>k a (ze _ ha)) r)
theorem AG.has {K:za}{H:Hp}{P P0:Addr->Prop}(hs:∀a,P0 a->P a):∀ {v:List V}{t:List OT}{fp:List Addr},(∀a∈fp,¬ P0 a)->AG K H P v t fp->Ag K (del H P0) v (OP t):=by
 intro _ _ _ k x_;cases x_ with
 |nil=>rw[OP];exact .nil
 |cons h r=>rw[OP];exact .cons (C7.has hs (λ a ha=>k a (zM _ ha)) h) (AG.has hs (λ a ha=>k a (zl _ ha)) r)
end
inductive BI (K:za) (H:Hp) (P:Addr->Prop):List Addr->List (List D)->Prop
 |nil:BI K H P [] []
 |cons {q:Addr} {xs:List V} {ds:List D} {ps:List Addr} {C4:List (List D)}:H q=some (.lst xs)->Ag K (del H P) xs ds->BI K H P ps C4->BI K H P (q::ps) (ds::C4)
abbrev Dq (K:za)(H:Hp)(P:Addr->Prop):Cl->V->List Addr->Prop
 | .own ds,v,fp=>∃p xs,v=.ref p/\fp=[p]/\H p=some (.lst xs)/\Ag K (del H P) xs ds
 | .ow (.rows C4),v,fp=>∃p ps,v=.ref p/\fp=p::ps/\H p=some (.lst (ps.map V.ref))/\BI K H P ps C4
 | .ow (.LN _ ds),v,fp=>∃p xs,v=.ref p/\fp=[p]/\H p=some (.lst xs)/\Ag K (del H P) xs ds
 | .ow (.tree _ t),v,fp=>C7 K H P v t fp
 | .val _,_,_=>False
abbrev HX:Cl->Bool
 | .val _=>false
 |_=>true
def BI.move {K:za}{H H':Hp}{P P':Addr->Prop}(sm:Ae (del H P) (del H' P')):∀ {ps:List Addr}{C4:List (List D)},(∀a∈ps,H' a=H a)->BI K H P ps C4->BI K H' P' ps C4:=by
 intro _ _ k x_;cases x_ with
 |nil=>exact .nil
 |cons h r t=>exact .cons ((k _ zd).trans h) (r.mono sm) (BI.move sm (λ a ha=>k a (ze _ ha)) t)
def BI.at {K:za}{H:Hp}{P:Addr->Prop}:∀ {ps:List Addr}{C4:List (List D)},BI K H P ps C4->∀a∈ps,∃xs,H a=some (.lst xs)
 |_,_,.nil,a,h=>by cases h
 |_,_,.cons h r t,a,ha=>by
  rcases zp.mp ha with rfl|ha
  ·exact⟨_,h⟩
  ·exact t.at a ha
def BI.length {K:za}{H:Hp}{P:Addr->Prop}:∀ {ps:List Addr}{C4:List (List D)},BI K H P ps C4->ps.length=C4.length:=by
 intro _ _ x_;cases x_ with
 |nil=>exact rfl
 |cons h r t=>rw[zj,zj,t.length]
def BI.get {K:za}{H:Hp}{P:Addr->Prop}:∀ {ps:List Addr}{C4:List (List D)}{i:Nat}{ds:List D},BI K H P ps C4->C4[i]?=some ds->∃q xs,ps[i]?=some q/\H q=some (.lst xs)/\Ag K (del H P) xs ds
 |_,_,_,_,.nil,e=>by simp at e
 |_,_,0,_,.cons h r _,e=>by simp at e;subst e;exact⟨_,_,rfl,h,r⟩
 |_,_,i+1,ds,.cons _ _ t,e=>by
  obtain⟨q,xs,h1,h2⟩:=BI.get (i:=i) (ds:=ds) t (by simpa using e);exact⟨q,xs,by simpa using h1,h2⟩
def RS:∀ {ps qs:List Addr},ps.map V.ref=qs.map V.ref->ps=qs
 |[],[],_=>rfl
 |[],_::_,h|_::_,[],h=>by cases h
 |p::ps,q::qs,h=>by
  rw[zf,zf] at h;injection h with h1 h2
  injection h1 with h1
  rw[h1,RS h2]
def Dq.move {K:za}{H H':Hp}{P P':Addr->Prop}(sm:Ae (del H P) (del H' P')){c:Cl}{v:V}{fp:List Addr}(k:∀a∈fp,H' a=H a)(h:Dq K H P c v fp):Dq K H' P' c v fp:=by
 cases c with
 |val d=>exact h
 |own ds =>
  obtain⟨p,xs,rfl,rfl,h1,h2⟩:=h;exact⟨p,xs,rfl,rfl,(k p zd).trans h1,h2.mono sm⟩
 |ow o =>
  cases o with
  |rows C4 =>
   obtain⟨p,ps,rfl,rfl,h1,h2⟩:=h;exact⟨p,ps,rfl,rfl,(k p zd).trans h1,h2.move sm λ a ha=>k a (ze _ ha)⟩
  |LN p ds =>
   obtain⟨p,xs,rfl,rfl,h1,h2⟩:=h;exact⟨p,xs,rfl,rfl,(k p zd).trans h1,h2.mono sm⟩
  |tree p t=>exact C7.move sm k h
def Dq.at {K:za}{H:Hp}{P:Addr->Prop}{c:Cl}{v:V}{fp:List Addr}(h:Dq K H P c v fp):∀a∈fp,∃o,H a=some o:=by
 cases c with
 |val d=>exact h.elim
 |own ds =>
  obtain⟨p,xs,rfl,rfl,h1,h2⟩:=h;exact λ a ha=>⟨.lst xs,by rw[zg.mp ha];exact h1⟩
 |ow o =>
  cases o with
  |rows C4 =>
   obtain⟨p,ps,rfl,rfl,h1,h2⟩:=h;intro a ha;rcases zp.mp ha with rfl|ha
   ·exact⟨_,h1⟩
   ·obtain⟨xs,q⟩:=h2.at a ha;exact⟨_,q⟩
  |LN p ds =>
   obtain⟨p,xs,rfl,rfl,h1,h2⟩:=h;exact λ a ha=>⟨.lst xs,by rw[zg.mp ha];exact h1⟩
  |tree p t =>
   intro a ha;obtain⟨o,q,_⟩:=C7.C8 h a ha;exact⟨o,q⟩
def Dq.same {K:za}{H H':Hp}{P:Addr->Prop}(e:Ae H H'){c:Cl}{v:V}{fp:List Addr}(h:Dq K H P c v fp):Dq K H' P c v fp:=
 h.move e.del λ a ha=>by obtain⟨xs,q⟩:=h.at a ha;rw[q];exact e _ _ q
def Dq.Cg {K:za}{H:Hp}{P P':Addr->Prop}{c:Cl}{v:V}{fp ag:List Addr}(h:Dq K H P c v fp)(h':Dq K H P' c v ag):fp=ag:=by
 cases c with
 |val d=>exact h.elim
 |own ds =>
  obtain⟨p,xs,rfl,rfl,h1,h2⟩:=h;obtain⟨p',dh,e,rfl,lf,e8⟩:=h';cases e;rfl
 |ow o =>
  cases o with
  |rows C4 =>
   obtain⟨p,ps,rfl,rfl,h1,h2⟩:=h;obtain⟨p',yt,e,rfl,lf,e8⟩:=h';cases e;rw[h1] at lf;injection lf with e
   injection e with e
   rw[RS e]
  |LN p ds =>
   obtain⟨p,xs,rfl,rfl,h1,h2⟩:=h;obtain⟨p',dh,e,rfl,lf,e8⟩:=h';cases e;rfl
  |tree p t=>exact C7.Cg h h'
structure E8 where
 pr:Addr->Prop
 g:Nat->Addr
instance:CoeFun E8 (λ _=>Addr->Prop):=⟨E8.pr⟩
instance:Coe E8 (Addr->Prop):=⟨E8.pr⟩
abbrev OQ:Cl->Option Nat
 | .ow (.LN n _)=>some n
 | .ow (.tree (some n) _)=>some n
 |_=>none
structure An (K:za)(P0:E8)(P:Addr->Prop)(H:Hp)(σ:St)(ρ:Ad):Prop where
 sub:∀a,P0 a->P a
 C8:∀a,P a->Dv H a
 val:∀(i:Nat) d,ρ[i]?=some (some (.val d))->∃v,σ[i]?=some (some v)/\BX K (del H P) v d
 ows:∀(i:Nat) c,ρ[i]?=some (some c)->HX c=true->∃v fp,σ[i]?=some (some v)/\Dq K H P c v fp/\(∀a∈fp,P a/\¬ P0 a)/\fp.Nodup
 apart:∀(i j:Nat) c c' v v' fp ag,ρ[i]?=some (some c)->ρ[j]?=some (some c')->σ[i]?=some (some v)->σ[j]?=some (some v')->Dq K H P c v fp->Dq K H P c' v' ag->i≠j->∀a∈fp,a∉ag
 len:σ.length=ρ.length
 pin:∀(i:Nat) c n,ρ[i]?=some (some c)->OQ c=some n->σ[i]?=some (some (.ref (P0.g n)))
def An.own {K:za}{P0:E8}{P:Addr->Prop}{H:Hp}{σ:St}{ρ:Ad}(E:An K P0 P H σ ρ)(i:Nat)(ds:List D)(h:ρ[i]?=some (some (.own ds))):
 ∃p xs,σ[i]?=some (some (.ref p))/\H p=some (.lst xs)/\P p/\¬ P0 p/\Ag K (del H P) xs ds:=by
 obtain⟨v,fp,h1,⟨p,xs,rfl,rfl,h2,h3⟩,h4,_⟩:=E.ows i _ h rfl;exact⟨p,xs,h1,h2,(h4 p zd).1,(h4 p zd).2,h3⟩
def An.YB {K:za}{P0:E8}{P P':Addr->Prop}{H H':Hp}{σ:St}{ρ:Ad}(E:An K P0 P H σ ρ)(sm:Ae (del H P) (del H' P')){i j:Nat}{c c':Cl}{v v':V}{fp ag:List Addr}
 (ki:∀v fp,σ[i]?=some (some v)->Dq K H P c v fp->∀a∈fp,H' a=H a) (kj:∀v fp,σ[j]?=some (some v)->Dq K H P c' v fp->∀a∈fp,H' a=H a)
 (hi:ρ[i]?=some (some c)) (hj:ρ[j]?=some (some c')) (si:σ[i]?=some (some v)) (sj:σ[j]?=some (some v')) (h:Dq K H' P' c v fp) (h':Dq K H' P' c' v' ag) (ae:i≠j):∀a∈fp,a∉ag:=by
 have key:∀(k:Nat) (d:Cl) (w:V) (fq:List Addr),ρ[k]?=some (some d)->σ[k]?=some (some w)->(∀v fp,σ[k]?=some (some v)->Dq K H P d v fp->∀a∈fp,H' a=H a)->Dq K H' P' d w fq->Dq K H P d w fq:=λ k d w fq hk sk kk ho=>by
  have io:HX d=true:=by cases d<;>first|rfl|exact ho.elim
  obtain⟨w',bK,s2,o2,_⟩:=E.ows k d hk io;rw[sk] at s2;cases s2;have o3:=o2.move sm (kk _ _ sk o2);rw[ho.Cg o3];exact o2
 exact E.apart i j c c' v v' fp ag hi hj si sj (key i c v fp hi si ki h) (key j c' v' ag hj sj kj h') ae
def An.same {K:za}{P0:E8}{P:Addr->Prop}{H H':Hp}{σ:St}{ρ:Ad}(E:An K P0 P H σ ρ)(e:Ae H H'):An K P0 P H' σ ρ:=
 ⟨E.sub,λ a h=>(E.C8 a h).same e,λ i d h=>let ⟨v,h1,h2⟩:=E.val i d h;⟨v,h1,h2.mono e.del⟩,
  λ i c h io=>let ⟨v,fp,h1,h2,h3,h4⟩:=E.ows i c h io;⟨v,fp,h1,h2.same e,h3,h4⟩,
  λ i j c c' v v' fp ag hi hj si sj h h' ae=>E.YB e.del (λ v fp _ o a ha=>by obtain⟨xs,q⟩:=o.at a ha;rw[q];exact e _ _ q) (λ v fp _ o a ha=>by obtain⟨xs,q⟩:=o.at a ha;rw[q];exact e _ _ q) hi hj si sj h h' ae,E.len,E.pin⟩
abbrev gV (K:za)(WX:Str->Hp->Prop)(P:Addr->Prop)(H:Hp)(Q:VK):M D->Prop
 | .ok d=>∀v H',Ae H H'->BX K (del H' P) v d->Q v H'
 | .ex x=>∀H',Ae H H'->WX x H'
 | .bad=>False
abbrev gA (K:za)(WX:Str->Hp->Prop)(P:Addr->Prop)(H:Hp)(Q:List V->Hp->Prop):M (List D)->Prop
 | .ok d=>∀v H',Ae H H'->Ag K (del H' P) v d->Q v H'
 | .ex x=>∀H',Ae H H'->WX x H'
 | .bad=>False
abbrev gT (WX:Str->Hp->Prop)(H:Hp)(Q:Bool->Hp->Prop):M Bool->Prop
 | .ok b=>∀H',Ae H H'->Q b H'
 | .ex x=>∀H',Ae H H'->WX x H'
 | .bad=>False
section
variable {K:za}{WX:Str->Hp->Prop}{P:Addr->Prop}{H H':Hp}
def gV.same {Q:VK}{m:M D}(h:gV K WX P H Q m)(e:Ae H H'):gV K WX P H' Q m:=by
 cases m with
 |ok d=>exact λ v H2 q hv=>h v H2 (e.trans q) hv
 |ex x=>exact λ H2 q=>h H2 (e.trans q)
 |bad=>exact h
def gA.same {Q:List V->Hp->Prop}{m:M (List D)}(h:gA K WX P H Q m)(e:Ae H H'):gA K WX P H' Q m:=by
 cases m with
 |ok d=>exact λ v H2 q hv=>h v H2 (e.trans q) hv
 |ex x=>exact λ H2 q=>h H2 (e.trans q)
 |bad=>exact h
def gT.same {Q:Bool->Hp->Prop}{m:M Bool}(h:gT WX H Q m)(e:Ae H H'):gT WX H' Q m:=by
 cases m with
 |ok d|ex x=>exact λ H2 q=>h H2 (e.trans q)
 |bad=>exact h
end
abbrev Lv (c:Bool)(P0:E8)(P:Addr->Prop):Addr->Prop:=if c=true then P else P0.pr
abbrev DE (X:Cx)(WX:Str->Hp->Prop)(c:Bool)(e:Expr)(f:Ad->M D):Prop:=
 ∃t,PE X e t/\∀P0 P σ H Q ρ,An X.K P0 P H σ ρ->gV X.K WX (Lv c P0 P) H Q (f ρ)->t σ H Q
abbrev DA (X:Cx)(WX:Str->Hp->Prop)(c:Bool)(es:List Expr)(f:Ad->M (List D)):Prop:=
 ∃t,PA X es t/\(∀P0 P σ H Q ρ,An X.K P0 P H σ ρ->gA X.K WX (Lv c P0 P) H Q (f ρ)->t σ H Q)/\∀ρ ds,f ρ=.ok ds->ds.length=es.length
abbrev DT (X:Cx)(WX:Str->Hp->Prop)(e:Expr)(f:Ad->M Bool):Prop:=
 ∃t,PT X e t/\∀P0 P σ H Q ρ,An X.K P0 P H σ ρ->gT WX H Q (f ρ)->t σ H Q
abbrev DW (X:Cx)(WX:Str->Hp->Prop)(e:Expr)(f:Ad->M Bool):Prop:=
 ∃t,PW X e t/\∀P0 P σ H Q ρ,An X.K P0 P H σ ρ->gT WX H Q (f ρ)->t σ H Q
def DW.dt {X:Cx}{WX:Str->Hp->Prop}{e:Expr}{f:Ad->M Bool}(h:DW X WX e f):DT X WX e f:=let ⟨t,h1,h2⟩:=h;⟨t,h1.pt,h2⟩
section
variable {X:Cx}{WX:Str->Hp->Prop}{c:Bool}{P0:E8}{P:Addr->Prop}{H:Hp}{σ:St}{ρ:Ad}
def An.lv (E:An X.K P0 P H σ ρ)(c:Bool):∀a,Lv c P0 P a->P a:=λ a h=>by
 cases c with
 |true=>exact h
 |false=>exact E.sub a h
def An.rW (E:An X.K P0 P H σ ρ)(c:Bool):∀a,Lv c P0 P a->Dv H a:=λ a h=>E.C8 a (E.lv c a h)
def U4 {e:Expr}{f:Ad->M D}(h:DE X WX true e f):DE X WX false e f:=by
 obtain⟨t,h1,h2⟩:=h;refine⟨t,h1,λ P0 P σ H Q ρ E g=>h2 P0 P σ H Q ρ E ?_⟩;cases e:f ρ with
 |ok d=>rw[e] at g;exact λ v H' s hv=>g v H' s (hv.mono (CS E.sub))
 |ex x|bad=>rw[e] at g;exact g
abbrev rX:D->Bool
 | .tup _ | .lst _ | .EW _ | .Bq _ _ _ | .ins _ _ _=>false
 |_=>true
abbrev fl (m:M D):M D:=m.bind λ d=>if rX d=true then .ok d else .bad
abbrev rv (i:Nat)(ρ:Ad):M D:=match ρ[i]? with | some (some (.val d))=>.ok d | _=>.bad
abbrev ra (i:Nat)(ρ:Ad):M D:=match ρ[i]? with | some (some (.val d))=>.ok d | some (some (.own ds))=>.ok (.lst ds) | some (some (.ow (.rows C4)))=>.ok (.lst (C4.map D.lst)) | some (some (.ow (.LN _ ds)))=>.ok (.lst ds) | some (some (.ow (.tree _ t)))=>.ok (er t) | _=>.bad
def A1 (i:Nat){x:Str}{pos:Pos}(h:PE X (.Name x pos) (LK i)):DE X WX true (.Name x pos) (rv i):=by
 refine⟨_,h,λ P0 P σ H Q ρ E g=>?_⟩;unfold rv at g;split at g
 ·rename_i d e;obtain⟨v,h1,h2⟩:=E.val i d e;exact⟨v,h1,g v H (Ae.refl H) h2⟩
 ·exact g.elim
def A8 {i j pos}:DE X WX c (.Constant (.int i) j pos) (λ _=>.ok (.int i)):=⟨_,lH,λ P0 P σ H Q ρ E g=>g _ H (Ae.refl H) (.int i)⟩
def Cv {b j pos}:DE X WX c (.Constant (.bool b) j pos) (λ _=>.ok (.bl b)):=⟨_,qJ,λ P0 P σ H Q ρ E g=>g _ H (Ae.refl H) (.bl b)⟩
def D9 {j pos}:DE X WX c (.Constant .none j pos) (λ _=>.ok .AK):=⟨_,lI,λ P0 P σ H Q ρ E g=>g _ H (Ae.refl H) .AK⟩
abbrev Vj (K:za)(WX:Str->Hp->Prop)(r:R2)(aL:D->D->M D):Prop:=
 ∀(P:Addr->Prop) (H:Hp) (x y:D) (v w:V) (Q:VK),(∀a,P a->Dv H a)->BX K (del H P) v x->BX K (del H P) w y->gV K WX P H Q (aL x y)->r v w H Q
variable {a b:Expr}{f g:Ad->M D}{pos:Pos}
def RT {ta tb:TE}{r:R2}{aL:D->D->M D}(ha:∀P0 P σ H Q ρ,An X.K P0 P H σ ρ->gV X.K WX (Lv c P0 P) H Q (f ρ)->ta σ H Q)(hb:∀P0 P σ H Q ρ,An X.K P0 P H σ ρ->gV X.K WX (Lv c P0 P) H Q (g ρ)->tb σ H Q)
 (hr:Vj X.K WX r aL) {Q:VK} (E:An X.K P0 P H σ ρ) (h:gV X.K WX (Lv c P0 P) H Q ((f ρ).bind λ x=>(g ρ).bind λ y=>aL x y)):pO r ta tb σ H Q:=by
 refine ha P0 P σ H _ ρ E ?_;cases e:f ρ with
 |bad|ex x=>rw[e] at h;exact h
 |ok x =>
  rw[e] at h;intro v H1 s1 hv;refine hb P0 P σ H1 _ ρ (E.same s1) ?_;cases e2:g ρ with
  |bad=>rw[e2] at h;exact h
  |ex y=>rw[e2] at h;exact gV.same (m:=.ex y) h s1
  |ok y =>
   rw[e2] at h;intro w H2 s2 hw;exact hr _ H2 x y v w Q (λ a q=>((E.same s1).same s2).rW c a q) (hv.mono s2.del) hw ((gV.same h s1).same s2)
def OR {op:Operator}{r:R2}{aL:D->D->M D}(ho:Gi X (binaryOp op) r)(hr:Vj X.K WX r aL)(ha:DE X WX c a f)(hb:DE X WX c b g):DE X WX c (.BinOp a op b pos) (λ ρ=>(f ρ).bind λ x=>(g ρ).bind λ y=>aL x y):=by
 obtain⟨ta,a1,a2⟩:=ha;obtain⟨tb,b1,b2⟩:=hb;exact⟨_,Y8 ho a1 b1,λ P0 P σ H Q ρ E h=>RT a2 b2 hr E h⟩
def YC {op:CmpOp}{r:R2}{aL:D->D->M D}(ho:Gi X (compareOp op) r)(hr:Vj X.K WX r aL)(ha:DE X WX c a f)(hb:DE X WX c b g)(hm:behindInMarks op b=false):DE X WX c (.Compare a [op] [b] pos) (λ ρ=>(f ρ).bind λ x=>(g ρ).bind λ y=>aL x y):=by
 obtain⟨ta,a1,a2⟩:=ha;obtain⟨tb,b1,b2⟩:=hb;exact⟨_,eB ho a1 b1 hm,λ P0 P σ H Q ρ E h=>RT a2 b2 hr E h⟩
def rY {r:R2}{aL:D->D->M D}(ho:eL X r)(hr:Vj X.K WX r aL)(ha:DE X WX c a f)(hb:DE X WX c b g)(hs:Hr b):DE X WX c (.Subscript a b pos) (λ ρ=>(f ρ).bind λ x=>(g ρ).bind λ y=>aL x y):=by
 obtain⟨ta,a1,a2⟩:=ha;obtain⟨tb,b1,b2⟩:=hb;exact⟨_,V8 ho a1 b1 hs,λ P0 P σ H Q ρ E h=>RT a2 b2 hr E h⟩
abbrev BF (k:Int->Int->M D)(x y:D):M D:=match x,y with | .int i,.int j=>k i j | _,_=>.bad
def BX.int_inv {K:za}{H:Hp}{v:V}{i:Int}(h:BX K H v (.int i)):v=.int i:=by cases h;rfl
def BX.ML {K:za}{H:Hp}{v:V}{i:Bool}(h:BX K H v (.bl i)):v=.bl i:=by cases h;rfl
def Qh {C:Int->Int->Prop}{gv:Int->Int->V}{gd:Int->Int->D}[∀i j,Decidable (C i j)](hg:∀i j K H,BX K H (gv i j) (gd i j)):Vj X.K WX (rI C gv) (BF λ i j=>if C i j then .ok (gd i j) else .bad):=by
 intro P H x y v w Q ht hx hy h;unfold BF at h;split at h
 ·rename_i i j;rw[hx.int_inv,hy.int_inv];dsimp only at h;by_cases hc:C i j
  ·rw[if_pos hc] at h;exact⟨i,j,rfl,rfl,hc,h _ H (Ae.refl H) (hg i j _ _)⟩
  ·rw[if_neg hc] at h;exact h.elim
 ·exact h.elim
def LV {gv:Int->Int->V}{gd:Int->Int->D}(hg:∀i j K H,BX K H (gv i j) (gd i j)):Vj X.K WX (dE gv) (BF λ i j=>.ok (gd i j)):=by
 intro P H x y v w Q ht hx hy h;unfold BF at h;split at h
 ·rename_i i j;rw[hx.int_inv,hy.int_inv];exact⟨i,j,rfl,rfl,h _ H (Ae.refl H) (hg i j _ _)⟩
 ·exact h.elim
instance (i j:Int):Decidable (Y9 i j):=by unfold Y9;infer_instance
instance (i j:Int):Decidable (dZ i j):=by unfold dZ;infer_instance
instance (i j:Int):Decidable (Yb i j):=by unfold Yb;infer_instance
abbrev rZ:=BF λ i j=>.ok (.int (i+j))
abbrev sA:=BF λ i j=>.ok (.int (i-j))
abbrev Fj:=BF λ i j=>if 0<j then .ok (.int (i%j)) else .bad
abbrev MM:=BF λ i j=>if Y9 i j then .ok (.int (i / j)) else .bad
abbrev Wz:=BF λ i j=>if dZ i j then .ok (.int (i^j.toNat)) else .bad
abbrev wU:=BF λ i j=>.ok (.bl (decide (i<j)))
abbrev xV:=BF λ i j=>.ok (.bl (decide (i<=j)))
abbrev wV:=BF λ i j=>.ok (.bl (decide (j<i)))
abbrev xW:=BF λ i j=>.ok (.bl (decide (j<=i)))
def Cq (ha:DE X WX c a f)(hb:DE X WX c b g):DE X WX c (.BinOp a .Add b pos) (λ ρ=>(f ρ).bind λ x=>(g ρ).bind λ y=>rZ x y):=OR lV (LV λ _ _ _ _=>.int _) ha hb
def mX (ha:DE X WX c a f)(hb:DE X WX c b g):DE X WX c (.BinOp a .Sub b pos) (λ ρ=>(f ρ).bind λ x=>(g ρ).bind λ y=>sA x y):=OR lW (LV λ _ _ _ _=>.int _) ha hb
def Cr (ha:DE X WX c a f)(hb:DE X WX c b g):DE X WX c (.BinOp a .Mod b pos) (λ ρ=>(f ρ).bind λ x=>(g ρ).bind λ y=>Fj x y):=OR lX (Qh λ _ _ _ _=>.int _) ha hb
def J7 (ha:DE X WX c a f)(hb:DE X WX c b g):DE X WX c (.BinOp a .FloorDiv b pos) (λ ρ=>(f ρ).bind λ x=>(g ρ).bind λ y=>MM x y):=OR eA (Qh λ _ _ _ _=>.int _) ha hb
def YD (ha:DE X WX c a f)(hb:DE X WX c b g):DE X WX c (.BinOp a .Pow b pos) (λ ρ=>(f ρ).bind λ x=>(g ρ).bind λ y=>Wz x y):=OR lY (Qh λ _ _ _ _=>.int _) ha hb
abbrev YE (n:Nat)(x y:D):M D:=if Qe x<=n/\Cu x=true/\Cu y=true then .ok (.bl (Bl x y)) else .bad
abbrev dG (n:Nat)(x y:D):M D:=if Qe x<=n/\Cu x=true/\Cu y=true then .ok (.bl (!Bl x y)) else .bad
def YF {n:Nat}(hu:X.A.units+n<cLine):Vj X.K WX (fG X.K X.A false) (YE n):=by
 intro P H x y v w Q ht hx hy h;unfold YE at h;by_cases hd:Qe x<=n/\Cu x=true/\Cu y=true
 ·rw[if_pos hd] at h;exact⟨x,y,hx.mono E7,hy.mono E7,by omega,hd.2.1,hd.2.2,h _ H (Ae.refl H) (.bl _)⟩
 ·rw[if_neg hd] at h;exact h.elim
def mY {n:Nat}(hu:X.A.units+n<cLine):Vj X.K WX (fG X.K X.A true) (dG n):=by
 intro P H x y v w Q ht hx hy h;unfold dG at h;by_cases hd:Qe x<=n/\Cu x=true/\Cu y=true
 ·rw[if_pos hd] at h;exact⟨x,y,hx.mono E7,hy.mono E7,by omega,hd.2.1,hd.2.2,h _ H (Ae.refl H) (.bl _)⟩
 ·rw[if_neg hd] at h;exact h.elim
def jX {n:Nat}(hu:X.A.units+n<cLine)(ha:DE X WX c a f)(hb:DE X WX c b g):DE X WX c (.Compare a [.Eq] [b] pos) (λ ρ=>(f ρ).bind λ x=>(g ρ).bind λ y=>YE n x y):=YC YA (YF hu) ha hb (Ip _)
abbrev BV:D->Bool
 | .AK=>true
 |_=>false
def BX.vU {K:za}{H:Hp}{v:V}{d:D}(h:BX K H v d):decide (v=.AK)=BV d:=by
 cases h<;>simp[BV]
def mZ {j pos'}(ha:DE X WX c a f):DE X WX c (.Compare a [.Is] [.Constant .none j pos'] pos) (λ ρ=>(f ρ).bind λ x=>.ok (.bl (BV x))):=by
 obtain⟨ta,a1,a2⟩:=ha;refine⟨_,lJ (XX a1),λ P0 P σ H Q ρ E h=>?_⟩;dsimp only at h;refine a2 P0 P σ H _ ρ E ?_;cases e:f ρ with
 |bad|ex x=>rw[e] at h;exact h
 |ok x=>rw[e] at h;exact λ v H1 s1 hv=>h _ H1 s1 (by rw[hv.vU];exact .bl _)
abbrev dH (x y:D):M D:=match x,y with
 | .tup ds,.int i| .lst ds,.int i=>(match Q4 ds i with|some d=>.ok d|none=>.bad)
 |_,_=>.bad
def Ag.Q4 {K:za}{H:Hp}{xs:List V}{ds:List D}{i:Int}{d:D}(h:Ag K H xs ds)(e:L2.Q4 ds i=some d):∃v,L2.Q4 xs i=some v/\BX K H v d:=by
 unfold L2.Q4 at e ⊢;rw[<-h.length] at e;cases q:NZ xs.length i with
 |none=>rw[q] at e;cases e
 |some j =>
  rw[q] at e;exact h.get e
def Di.B7 {K:za}{H:Hp}{P:Addr->Prop}{a:Addr}{xs:List V}(h:Di K (del H P) a xs):Di K H a xs:=E7.seq h
def Fe.B7 {K:za}{H:Hp}{P:Addr->Prop}{a:Addr}{xs:List V}(h:Fe K (del H P) a xs):Fe K H a xs:=E7.vT h
def Gs:Vj X.K WX (λ x y H Q=>mI X.K x y H Q\/mJ X.K x y H Q) dH:=by
 intro P H x y v w Q ht hx hy h;unfold dH at h;split at h
 ·rename_i ds i;split at h
  ·rename_i d e;cases hy;cases hx with
   |tup hs hl =>
    obtain⟨u,h1,h2⟩:=hl.Q4 e;exact .inr ⟨_,_,i,u,rfl,rfl,Fe.of (Ao hs).2,h1,h _ H (Ae.refl H) h2⟩
  ·exact h.elim
 ·rename_i ds i;split at h
  ·rename_i d e;cases hy;cases hx with
   |lst hs hl =>
    obtain⟨u,h1,h2⟩:=hl.Q4 e;exact .inl ⟨_,_,i,u,rfl,rfl,hs.B7,h1,h _ H (Ae.refl H) h2⟩
  ·exact h.elim
 ·exact h.elim
def A6:DA X WX c [] (λ _=>.ok []):=⟨_,Cn,λ P0 P σ H Q ρ E h=>h [] H (Ae.refl H) .nil,λ ρ ds h=>by cases h;rfl⟩
def A2 {e:Expr}{es:List Expr}{f:Ad->M D}{fs:Ad->M (List D)}(he:DE X WX c e f)(hr:DA X WX c es fs)(hs: ~~~(starEach (e::es) X.env=(false,eval e X.env)::starEach es X.env)):
 DA X WX c (e::es) (λ ρ=>(f ρ).bind λ d=>(fs ρ).bind λ ds=>.ok (d::ds)):=by
 obtain⟨te,e1,e2⟩:=he;obtain⟨tr,r1,r2,r3⟩:=hr;refine⟨_,Bp e1 r1 hs,λ P0 P σ H Q ρ E h=>?_,λ ρ ds h=>?_⟩
 rotate_left
 ·dsimp only at h;cases q:f ρ with
  |bad|ex x=>rw[q] at h;cases h
  |ok x =>
   rw[q] at h;cases q2:fs ρ with
   |bad|ex x=>rw[q2] at h;cases h
   |ok xs =>
    rw[q2] at h;cases h;rw[zj,zj,r3 ρ xs q2]
 dsimp only at h;refine e2 P0 P σ H _ ρ E ?_;cases q:f ρ with
 |bad|ex x=>rw[q] at h;exact h
 |ok x =>
  rw[q] at h;intro v H1 s1 hv;refine r2 P0 P σ H1 _ ρ (E.same s1) ?_;cases q2:fs ρ with
  |bad=>rw[q2] at h;exact h
  |ex y=>rw[q2] at h;exact gA.same (m:=.ex y) h s1
  |ok ds =>
   rw[q2] at h;exact λ vs H2 s2 a4=>h _ H2 (s1.trans s2) (.cons (hv.mono s2.del) a4)
def J8 {H:Hp}{P:Addr->Prop}{p:Addr}{o:HO}(hn:H p=none)(ht:∀a,P a->Dv H a):del (upd H p o) P p=some o:=by
 rw[Av λ z=>(ht p z).no hn];exact Aq
def AH {es:List Expr}{fs:Ad->M (List D)}{x1}(ha:DA X WX c es fs)(hz:es.length<=1000:=by decide):DE X WX c (.Tuple es x1 pos) (λ ρ=>(fs ρ).bind λ ds=>if ds.length<=1000 then .ok (.tup ds) else .bad):=by
 obtain⟨ta,a1,a2,a3⟩:=ha;refine⟨_,Yh a1,λ P0 P σ H Q ρ E h=>?_⟩;dsimp only at h;refine a2 P0 P σ H _ ρ E ?_;cases q:fs ρ with
 |bad|ex y=>rw[q] at h;exact h
 |ok ds =>
  rw[q] at h;simp only[M.A9] at h;by_cases hd:ds.length<=1000
  ·rw[if_pos hd] at h;intro vs H1 s1 a4;refine⟨yQ (AD (by rw[a4.length];exact hd)),λ p hp=>h _ _ (s1.trans (AQ hp _)) (.tup (J8 hp λ a q=>(E.same s1).rW c a q) (a4.mono (AQ hp _).del))⟩
  ·rw[if_neg hd] at h;exact h.elim
def Fl {es:List Expr}{fs:Ad->M (List D)}(ha:DA X WX c es fs):DE X WX c (.List es pos) (λ ρ=>(fs ρ).bind λ ds=>if ds.length<=1000 then .ok (.lst ds) else .bad):=by
 obtain⟨ta,a1,a2,a3⟩:=ha;refine⟨_,Q1 a1,λ P0 P σ H Q ρ E h=>?_⟩;dsimp only at h;refine a2 P0 P σ H _ ρ E ?_;cases q:fs ρ with
 |bad|ex y=>rw[q] at h;exact h
 |ok ds =>
  rw[q] at h;simp only[M.A9] at h;by_cases hd:ds.length<=1000
  ·rw[if_pos hd] at h;intro vs H1 s1 a4;refine⟨yQ (AD (by rw[a4.length];exact hd)),λ p hp=>h _ _ (s1.trans (AQ hp _)) (.lst (.of (J8 hp λ a q=>(E.same s1).rW c a q)) (a4.mono (AQ hp _).del))⟩
  ·rw[if_neg hd] at h;exact h.elim
end
abbrev OS (d:D):M Bool:=match d with | .bl b=>.ok b | _=>.bad
section
variable {X:Cx}{WX:Str->Hp->Prop}{c:Bool}{P0:E8}{P:Addr->Prop}{H:Hp}{σ:St}{ρ:Ad}{a b e:Expr}{f g:Ad->M D}{ft gt:Ad->M Bool}{pos:Pos}
def sC {WX:Str->Hp->Prop}{P:Addr->Prop}{K:za}{H:Hp}{Q:Bool->Hp->Prop}{m:M D}(h:gT WX H Q (m.bind OS)):gV K WX P H (λ x H'=>∃k,x=.bl k/\Q k H') m:=by
 cases m with
 |bad|ex x=>exact h
 |ok d =>
  intro v H' s hv;simp only[M.A9] at h;unfold OS at h;split at h
  ·rename_i b;exact⟨b,hv.ML,h H' s⟩
  ·exact h.elim
def Fm {op:CmpOp}{r:R2}{aL:D->D->M D}(ho:Gi X (compareOp op) r)(hr:Vj X.K WX r aL)(ha:DE X WX c a f)(hb:DE X WX c b g)(hm:behindInMarks op b=false):DT X WX (.Compare a [op] [b] pos) (λ ρ=>((f ρ).bind λ x=>(g ρ).bind λ y=>aL x y).bind OS):=by
 obtain⟨ta,a1,a2⟩:=ha;obtain⟨tb,b1,b2⟩:=hb;exact⟨_,eC ho a1 b1 hm,λ P0 P σ H Q ρ E h=>RT a2 b2 hr E (sC h)⟩
def sD (ha:DE X WX c a f)(hb:DE X WX c b g):DT X WX (.Compare a [.Lt] [b] pos) (λ ρ=>((f ρ).bind λ x=>(g ρ).bind λ y=>wU x y).bind OS):=Fm jR (LV λ _ _ _ _=>.bl _) ha hb (Ip _)
def Vk (ha:DE X WX c a f)(hb:DE X WX c b g):DT X WX (.Compare a [.Gt] [b] pos) (λ ρ=>((f ρ).bind λ x=>(g ρ).bind λ y=>wV x y).bind OS):=Fm qZ (LV λ _ _ _ _=>.bl _) ha hb (Ip _)
def Lc {n:Nat}(hu:X.A.units+n<cLine)(ha:DE X WX c a f)(hb:DE X WX c b g):DT X WX (.Compare a [.Eq] [b] pos) (λ ρ=>((f ρ).bind λ x=>(g ρ).bind λ y=>YE n x y).bind OS):=Fm YA (YF hu) ha hb (Ip _)
def J9 {n:Nat}(hu:X.A.units+n<cLine)(ha:DE X WX c a f)(hb:DE X WX c b g):DT X WX (.Compare a [.NotEq] [b] pos) (λ ρ=>((f ρ).bind λ x=>(g ρ).bind λ y=>dG n x y).bind OS):=Fm mW (mY hu) ha hb (Ip _)
def Fn {j pos'}(ha:DE X WX c a f):DT X WX (.Compare a [.Is] [.Constant .none j pos'] pos) (λ ρ=>(f ρ).bind λ x=>.ok (BV x)):=by
 obtain⟨ta,a1,a2⟩:=ha;refine⟨_,XY (XX a1),λ P0 P σ H Q ρ E h=>?_⟩;dsimp only at h;refine a2 P0 P σ H _ ρ E ?_;cases e:f ρ with
 |bad|ex x=>rw[e] at h;exact h
 |ok x=>rw[e] at h;exact λ v H1 s1 hv=>⟨_,rfl,by rw[hv.vU];exact h H1 s1⟩
def Hs {j pos'}(ha:DE X WX c a f):DT X WX (.Compare a [.IsNot] [.Constant .none j pos'] pos) (λ ρ=>(f ρ).bind λ x=>.ok (!BV x)):=by
 obtain⟨ta,a1,a2⟩:=ha;refine⟨_,XY (dU a1),λ P0 P σ H Q ρ E h=>?_⟩;dsimp only at h;refine a2 P0 P σ H _ ρ E ?_;cases e:f ρ with
 |bad|ex x=>rw[e] at h;exact h
 |ok x=>rw[e] at h;exact λ v H1 s1 hv=>⟨_,rfl,by rw[hv.vU];exact h H1 s1⟩
def CF (ha:DT X WX a ft):DT X WX (.UnaryOp .Not a pos) (λ ρ=>(ft ρ).bind λ b=>.ok (!b)):=by
 obtain⟨ta,a1,a2⟩:=ha;refine⟨_,lK a1,λ P0 P σ H Q ρ E h=>?_⟩;dsimp only at h;refine a2 P0 P σ H _ ρ E ?_;cases e:ft ρ with
 |bad|ex x=>rw[e] at h;exact h
 |ok x=>rw[e] at h;exact λ H1 s1=>h H1 s1
def Ja (ha:DT X WX a ft):DW X WX (.BoolOp .And [a] pos) ft:=let ⟨ta,a1,a2⟩:=ha;⟨_,pw_and1 a1,a2⟩
def E9 (ha:DT X WX a ft):DW X WX (.BoolOp .Or [a] pos) ft:=let ⟨ta,a1,a2⟩:=ha;⟨_,pw_or1 a1,a2⟩
def Ky {rest:List Expr}(ha:DT X WX a ft)(hb:DW X WX (.BoolOp .And (b::rest) pos) gt):DW X WX (.BoolOp .And (a::b::rest) pos) (λ ρ=>(ft ρ).bind λ k=>if k=true then gt ρ else .ok false):=by
 obtain⟨ta,a1,a2⟩:=ha;obtain⟨tb,b1,b2⟩:=hb;refine⟨_,pw_and a1 b1,λ P0 P σ H Q ρ E h=>?_⟩;dsimp only at h;refine a2 P0 P σ H _ ρ E ?_;cases e:ft ρ with
 |bad|ex x=>rw[e] at h;exact h
 |ok k =>
  rw[e] at h;intro H1 s1;cases k with
  |true =>
   simp only[M.A9,if_true] at h ⊢;exact b2 P0 P σ H1 _ ρ (E.same s1) (h.same s1)
  |false =>
   simp only[M.A9,zG,if_false] at h ⊢;exact h H1 s1
def FT {rest:List Expr}(ha:DT X WX a ft)(hb:DW X WX (.BoolOp .Or (b::rest) pos) gt):DW X WX (.BoolOp .Or (a::b::rest) pos) (λ ρ=>(ft ρ).bind λ k=>if k=true then .ok true else gt ρ):=by
 obtain⟨ta,a1,a2⟩:=ha;obtain⟨tb,b1,b2⟩:=hb;refine⟨_,pw_or a1 b1,λ P0 P σ H Q ρ E h=>?_⟩;dsimp only at h;refine a2 P0 P σ H _ ρ E ?_;cases e:ft ρ with
 |bad|ex x=>rw[e] at h;exact h
 |ok k =>
  rw[e] at h;intro H1 s1;cases k with
  |true =>
   simp only[M.A9,if_true] at h ⊢;exact h H1 s1
  |false =>
   simp only[M.A9,zG,if_false] at h ⊢;exact b2 P0 P σ H1 _ ρ (E.same s1) (h.same s1)
def U5 {op}(ha:DE X WX c a f):DE X WX c (.BoolOp op [a] pos) f:=let ⟨ta,a1,a2⟩:=ha;⟨_,lL a1,a2⟩
def U6 {rest:List Expr}(ha:DE X WX c a f)(hb:DE X WX c (.BoolOp .And (b::rest) pos) g):DE X WX c (.BoolOp .And (a::b::rest) pos) (λ ρ=>((f ρ).bind OS).bind λ k=>if k=true then g ρ else .ok (.bl false)):=by
 obtain⟨ta,a1,a2⟩:=ha;obtain⟨tb,b1,b2⟩:=hb;refine⟨_,lM a1 b1,λ P0 P σ H Q ρ E h=>?_⟩;dsimp only at h;refine a2 P0 P σ H _ ρ E ?_;cases e:f ρ with
 |bad|ex x=>rw[e] at h;exact h
 |ok d =>
  rw[e] at h;simp only[M.A9] at h;unfold OS at h;split at h
  ·rename_i k;intro v H1 s1 hv;refine⟨k,hv.ML,?_⟩;cases k with
   |true =>
    simp only[M.A9,if_true] at h ⊢;exact b2 P0 P σ H1 _ ρ (E.same s1) (h.same s1)
   |false =>
    simp only[M.A9,zG,if_false] at h ⊢;exact h _ H1 s1 (.bl _)
  ·exact h.elim
def sE {rest:List Expr}(ha:DE X WX c a f)(hb:DE X WX c (.BoolOp .Or (b::rest) pos) g):DE X WX c (.BoolOp .Or (a::b::rest) pos) (λ ρ=>((f ρ).bind OS).bind λ k=>if k=true then .ok (.bl true) else g ρ):=by
 obtain⟨ta,a1,a2⟩:=ha;obtain⟨tb,b1,b2⟩:=hb;refine⟨_,qN a1 b1,λ P0 P σ H Q ρ E h=>?_⟩;dsimp only at h;refine a2 P0 P σ H _ ρ E ?_;cases e:f ρ with
 |bad|ex x=>rw[e] at h;exact h
 |ok d =>
  rw[e] at h;simp only[M.A9] at h;unfold OS at h;split at h
  ·rename_i k;intro v H1 s1 hv;refine⟨k,hv.ML,?_⟩;cases k with
   |true =>
    simp only[M.A9,if_true] at h ⊢;exact h _ H1 s1 (.bl _)
   |false =>
    simp only[M.A9,zG,if_false] at h ⊢;exact b2 P0 P σ H1 _ ρ (E.same s1) (h.same s1)
  ·exact h.elim
def nA (ha:DE X WX c a f):DE X WX c (.UnaryOp .Not a pos) (λ ρ=>((f ρ).bind OS).bind λ k=>.ok (.bl (!k))):=by
 obtain⟨ta,a1,a2⟩:=ha;refine⟨_,lN a1,λ P0 P σ H Q ρ E h=>?_⟩;dsimp only at h;refine a2 P0 P σ H _ ρ E ?_;cases e:f ρ with
 |bad|ex x=>rw[e] at h;exact h
 |ok d =>
  rw[e] at h;simp only[M.A9] at h;unfold OS at h;split at h
  ·rename_i k;exact λ v H1 s1 hv=>⟨k,hv.ML,h _ H1 s1 (.bl _)⟩
  ·exact h.elim
def nB (ha:DE X WX c a f):DE X WX c (.UnaryOp .USub a pos) (λ ρ=>(f ρ).bind λ d=>match d with | .int i=>.ok (.int (-i)) | _=>.bad):=by
 obtain⟨ta,a1,a2⟩:=ha;refine⟨_,qW lZ a1,λ P0 P σ H Q ρ E h=>?_⟩;dsimp only at h;refine a2 P0 P σ H _ ρ E ?_;cases e:f ρ with
 |bad|ex x=>rw[e] at h;exact h
 |ok d =>
  rw[e] at h;simp only[M.A9] at h;split at h
  ·rename_i i;exact λ v H1 s1 hv=>⟨i,hv.int_inv,h _ H1 s1 (.int _)⟩
  ·exact h.elim
def WA {d:Expr}{h:Ad->M D}{op d5:CmpOp}{p q:Int->Int->Bool}(ho:Gi X (compareOp op) (dE λ i j=>.bl (p i j)))(bi:Gi X (compareOp d5) (dE λ i j=>.bl (q i j)))(ha:DE X WX c a f)(hb:DE X WX c b g)(hd:DE X WX c d h)
 (hm:lastMarks [op,d5] [b,d]=false:=by with_unfolding_all rfl):DE X WX c (.Compare a [op,d5] [b,d] pos) (λ ρ=>(f ρ).bind λ x=>(g ρ).bind λ y=>BF (λ i j=>if p i j=true then (h ρ).bind λ z=>BF (λ _ k=>.ok (.bl (q j k))) (.int 0) z else .ok (.bl false)) x y):=by
 obtain⟨ta,a1,a2⟩:=ha;obtain⟨tb,b1,b2⟩:=hb;obtain⟨td,d1,d2⟩:=hd;refine⟨_,Yc ho bi a1 b1 d1 hm,λ P0 P σ H Q ρ E hh=>?_⟩;dsimp only at hh;refine a2 P0 P σ H _ ρ E ?_;cases e:f ρ with
 |bad|ex x=>rw[e] at hh;exact hh
 |ok x =>
  rw[e] at hh;intro v H1 s1 hv;refine b2 P0 P σ H1 _ ρ (E.same s1) ?_;cases e2:g ρ with
  |bad=>rw[e2] at hh;exact hh
  |ex y=>rw[e2] at hh;exact gV.same (m:=.ex y) hh s1
  |ok y =>
   rw[e2] at hh;simp only[M.A9] at hh;unfold BF at hh;split at hh
   ·rename_i i j;intro w H2 s2 hw;refine⟨i,j,hv.int_inv,hw.int_inv,p i j,rfl,?_⟩;dsimp only at hh;by_cases hp:p i j=true
    ·rw[if_pos hp] at hh ⊢;refine d2 P0 P σ H2 _ ρ ((E.same s1).same s2) ?_;cases e3:h ρ with
     |bad=>rw[e3] at hh;exact hh
     |ex z=>rw[e3] at hh;exact gV.same (gV.same (m:=.ex z) hh s1) s2
     |ok z =>
      rw[e3] at hh;simp only[M.A9] at hh;cases z with
      |int k=>exact λ u H3 s3 hu=>⟨j,k,hw.int_inv,hu.int_inv,hh _ H3 ((s1.trans s2).trans s3) (.bl _)⟩
      |_=>exact hh.elim
    ·rw[if_neg hp] at hh ⊢;exact hh _ H2 (s1.trans s2) (.bl _)
   ·exact hh.elim
abbrev Ld (K:za)(WX:Str->Hp->Prop)(r:List V->Hp->VK->Prop)(dF:List D->M D):Prop:=
 ∀(P:Addr->Prop) (H:Hp) (ds:List D) (vs:List V) (Q:VK),(∀a,P a->Dv H a)->Ag K (del H P) vs ds->gV K WX P H Q (dF ds)->r vs H Q
variable {x:Str}{p:Pos}{es:List Expr}{fs:Ad->M (List D)}{id T:String}{r:List V->Hp->VK->Prop}{dF:List D->M D}
def YG {ta:TA}(ha:∀P0 P σ H Q ρ,An X.K P0 P H σ ρ->gA X.K WX (Lv c P0 P) H Q (fs ρ)->ta σ H Q)(hr:Ld X.K WX r dF){Q:VK}(E:An X.K P0 P H σ ρ)(h:gV X.K WX (Lv c P0 P) H Q ((fs ρ).bind dF)):vM r ta σ H Q:=by
 refine ha P0 P σ H _ ρ E ?_;cases e:fs ρ with
 |bad|ex x=>rw[e] at h;exact h
 |ok ds =>
  rw[e] at h;exact λ vs H1 s1 a4=>hr _ H1 ds vs Q (λ a q=>(E.same s1).rW c a q) a4 (h.same s1)
def Jb (hc:Gj X (.builtin id) r)(hr:Ld X.K WX r dF)(hg:Gl X x)(hm:X.mg x=none)(hv:bootBuiltins x=some (.builtin id))(ha:DA X WX c (e::es) fs)(hn:x ≠ "__name__" := by decide)(aP:(x==("__debug__" : Str))=false:=by decide)(he: ~~~(starEach (e::es) X.env=(false,eval e X.env)::starEach es X.env))(ao: ~~~((backTo pos (starEach es X.env)).any (·.1)=false)):DE X WX c (.Call (.Name x p) (e::es) [] pos) (λ ρ=>(fs ρ).bind dF):=by
 obtain⟨ta,a1,a2,a3⟩:=ha;exact⟨_,RE hc hg hm hv a1 hn aP he ao,λ P0 P σ H Q ρ E h=>YG a2 hr E h⟩
def WB (hc:Gj X (.type T) r)(hr:Ld X.K WX r dF)(hg:Gl X x)(hm:X.mg x=none)(hv:bootBuiltins x=some (.type T))(ha:DA X WX c (e::es) fs)(hn:x ≠ "__name__" := by decide)(aP:(x==("__debug__" : Str))=false:=by decide)(he: ~~~(starEach (e::es) X.env=(false,eval e X.env)::starEach es X.env))(ao: ~~~((backTo pos (starEach es X.env)).any (·.1)=false)):DE X WX c (.Call (.Name x p) (e::es) [] pos) (λ ρ=>(fs ρ).bind dF):=by
 obtain⟨ta,a1,a2,a3⟩:=ha;exact⟨_,OJ hc hg hm hv a1 hn aP he ao,λ P0 P σ H Q ρ E h=>YG a2 hr E h⟩
abbrev WC (ds:List D):M D:=match ds with
 |[.lst xs]|[.tup xs]=>.ok (.int xs.length)
 |_=>.bad
def Ag.one {K:za}{H:Hp}{vs:List V}{d:D}(h:Ag K H vs [d]):∃v,vs=[v]/\BX K H v d:=by
 cases h with
 |cons h t=>cases t;exact⟨_,rfl,h⟩
def Ag.two {K:za}{H:Hp}{vs:List V}{d e:D}(h:Ag K H vs [d,e]):∃v w,vs=[v,w]/\BX K H v d/\BX K H w e:=by
 cases h with
 |cons h t =>
  obtain⟨w,rfl,hw⟩:=t.one;exact⟨_,w,rfl,h,hw⟩
def nE:Ld X.K WX (λ xs H Q=>∃p ys,xs=[.ref p]/\(Di X.K H p ys\/Fe X.K H p ys)/\Q (.int ys.length) H) WC:=by
 intro P H ds vs Q ht hl h;unfold WC at h;split at h
 ·obtain⟨v,rfl,hv⟩:=hl.one;cases hv with
  |lst hs hh=>exact⟨_,_,rfl,.inl hs.B7,by rw[hh.length];exact h _ H (Ae.refl H) (.int _)⟩
 ·obtain⟨v,rfl,hv⟩:=hl.one;cases hv with
  |tup hs hh=>exact⟨_,_,rfl,.inr (Fe.of (Ao hs).2),by rw[hh.length];exact h _ H (Ae.refl H) (.int _)⟩
 ·exact h.elim
def Dw (hg:Gl X "len")(hm:X.mg "len" = none)(ha:DE X WX c e f)(hs: ~~~(starEach [e] X.env=[(false,eval e X.env)])):DE X WX c (.Call (.Name "len" p) [e] [] pos) (λ ρ=>((f ρ).bind λ d=>(M.ok []).bind λ ds=>.ok (d::ds)).bind WC):=
 Jb Q7 nE hg hm PySem.boot_len (A2 ha A6 hs) (he:=hs)
abbrev U7 (ds:List D):M D:=match ds with
 |[.lst xs]|[.tup xs]=>.ok (.tup xs)
 |_=>.bad
def YH:Ld X.K WX (λ xs H Q=>∃p ys,xs=[.ref p]/\((Di X.K H p ys/\∀l,H l=none->Q (.ref l) (upd H l (.tup ys)))\/(Fe X.K H p ys/\Q (.ref p) H))) U7:=by
 intro P H ds vs Q ht hl h;unfold U7 at h;split at h
 ·obtain⟨v,rfl,hv⟩:=hl.one;cases hv with
  |lst hs hh=>exact⟨_,_,rfl,.inl ⟨hs.B7,λ l hn=>h _ _ (AQ hn _) (.tup (J8 hn ht) (hh.mono (AQ hn _).del))⟩⟩
 ·obtain⟨v,rfl,hv⟩:=hl.one;cases hv with
  |tup hs hh=>exact⟨_,_,rfl,.inr ⟨Fe.of (Ao hs).2,h _ H (Ae.refl H) (.tup hs hh)⟩⟩
 ·exact h.elim
def YI (hg:Gl X "tuple")(hm:X.mg "tuple" = none)(ha:DE X WX c e f)(hb:bootBuiltins "tuple" = some (.type "tuple"):=by decide +kernel)(hs: ~~~(starEach [e] X.env=[(false,eval e X.env)])):DE X WX c (.Call (.Name "tuple" p) [e] [] pos) (λ ρ=>((f ρ).bind λ d=>(M.ok []).bind λ ds=>.ok (d::ds)).bind U7):=
 WB O7 YH hg hm hb (A2 ha A6 hs) (he:=hs)
abbrev jY:D->String
 | .AK => "NoneType"
 | .bl _ => "bool"
 | .int _ => "int"
 | .str _ => "str"
 | .tup _ => "tuple"
 | .lst _ => "list"
 | .EW _ => "NoneType"
 | .Bq _ _ _ => "dict"
 | .ins _ _ _ => "NoneType"
abbrev EB (T:String)(d:D):Bool:=(jY d==T)||(jY d == "bool" && T == "int")
abbrev Jc (T:String)(d:D):M D:=match d with
 | .EW _| .ins _ _ _=>.bad
 |d=>.ok (.bl (EB T d))
abbrev sF:D->Bool
 | .EW _| .ins _ _ _=>true
 |_=>false
def YJ {T:String}{d:D}(h:sF d=false):Jc T d=.ok (.bl (EB T d)):=by cases d<;>first | rfl | cases h
abbrev vV (K:za)(T:String):List V->Hp->VK->Prop:=λ xs H Q=>∃x d,xs=[x,.ty T]/\BX K H x d/\sF d=false/\Q (.bl (EB T d)) H
def YK {T:String}(hk:∀d:D,PySem.W.kitOne X.K (.type (jY d)) (.type T)=some (EB T d)):Gj X (.builtin "isinstance") (vV X.K T):=by
 intro pins s σ H xs us Q I r h;obtain⟨x,d,rfl,hd,hx,q⟩:=h;obtain⟨u,w,rfl,rx,aZ⟩:=r.two;cases aZ;have fin:∀tk,EP X pins σ Q (.bool (EB T d)) {s with toks:=tk}:=λ tk=>⟨.bl _,H,I.tok tk,rfl,q⟩;have e:=hk d;cases hd with
 |EW _ _|ins _ _ _=>cases hx
 |Vd hs hl =>
  cases rx;obtain⟨⟨o,h1,h2⟩,_,_⟩:=U1 I (.inl ⟨_,hs⟩);exact zaj PySem.W.kitx_dict I.Mt ⟨o,h1,h2⟩ e (λ z=>nomatch z) fin
 |Ve hs hl =>
  cases rx;obtain⟨⟨o,h1,h2⟩,_,_⟩:=U1 I (.inr ⟨_,hs⟩);exact zaj PySem.W.kitx_dict I.Mt ⟨o,h1,h2⟩ e (λ z=>nomatch z) fin
 |AK=>cases rx;exact zaj PySem.W.kitx_none I.Mt zav e (λ z=>nomatch z) fin
 |bl b=>cases rx;exact zaj PySem.W.kitx_bool I.Mt zav e (λ z=>nomatch z) fin
 |int b=>obtain⟨t,rfl⟩:=rx;exact zaj PySem.W.kitx_int I.Mt zav e (λ z=>nomatch z) fin
 |str b=>obtain⟨t,rfl⟩:=rx;exact zaj PySem.W.kitx_str I.Mt zav e (λ z=>nomatch z) fin
 |tup hs hl =>
  cases rx;obtain⟨_,_,⟨o,h1,h2,_⟩,_⟩:=I.tuple (.of hs);exact zaj PySem.W.kitx_tuple I.Mt ⟨o,h1,h2⟩ e (λ z=>nomatch z) fin
 |lst hs hl =>
  cases rx;obtain⟨_,_,⟨o,n,h1,h2,_⟩,_⟩:=I.list hs;exact zaj PySem.W.kitx_list I.Mt ⟨o,h1,h2⟩ e (λ z=>nomatch z) fin
def Kz {T:String}{x2:Str}{p2:Pos}(hk:∀d:D,PySem.W.kitOne X.K (.type (jY d)) (.type T)=some (EB T d))(hg:Gl X "isinstance")(hm:X.mg "isinstance" = none)(i9:Gl X x2)(aN:X.mg x2=none)(u5:bootBuiltins x2=some (.type T))(ha:DE X WX c e f)(hb:bootBuiltins "isinstance" = some (.builtin "isinstance"):=by decide +kernel)(a9:x2 ≠ "__name__" := by decide)(nr:(x2==("__debug__" : Str))=false:=by decide)(hs: ~~~(starEach [e,.Name x2 p2] X.env=(false,eval e X.env)::starEach [.Name x2 p2] X.env))(aO: ~~~(starEach [.Name x2 p2] X.env=[(false,eval (.Name x2 p2) X.env)]))(ao: ~~~((backTo pos (starEach [.Name x2 p2] X.env)).any (·.1)=false)):
 DE X WX c (.Call (.Name "isinstance" p) [e,.Name x2 p2] [] pos) (λ ρ=>(f ρ).bind λ d=>Jc T d):=by
 obtain⟨ta,a1,a2⟩:=ha;refine⟨_,RE (YK hk) hg hm hb (Bp a1 (Bp (dS (v:=.ty T) i9 aN u5 rfl a9 nr) Cn aO) hs) (by decide) (by decide) hs ao,λ P0 P σ H Q ρ E h=>?_⟩;dsimp only at h;refine a2 P0 P σ H _ ρ E ?_;refine XO h λ d h=>?_;cases hx:sF d with
 |true=>cases d<;>first|exact h.elim|cases hx
 |false =>
  rw[YJ hx] at h;exact λ v H1 s1 hv=>⟨v,d,rfl,hv.mono E7,hx,h _ H1 s1 (.bl _)⟩
def MN (K:za)(d:D):PySem.W.kitOne K (.type (jY d)) (.type "tuple")=some (EB "tuple" d):=by cases d<;>rfl
def OU (K:za)(d:D):PySem.W.kitOne K (.type (jY d)) (.type "list")=some (EB "list" d):=by cases d<;>rfl
def WD (K:za)(d:D):PySem.W.kitOne K (.type (jY d)) (.type "bool")=some (EB "bool" d):=by cases d<;>rfl
def YL (K:za)(d:D):PySem.W.kitOne K (.type (jY d)) (.type "int")=some (EB "int" d):=by cases d<;>rfl
abbrev pR (lo hi:Option Int)(d:D):M D:=match d with
 | .lst ds=>.ok (.lst ((ds.drop (HT.Mz ds.length 0 lo)).take (HT.Mz ds.length ds.length hi-HT.Mz ds.length 0 lo)))
 |_=>.bad
abbrev DO (X:Cx)(WX:Str->Hp->Prop)(c:Bool)(e:Option Expr)(f:Ad->M (Option Int)):Prop:=
 ∃t,PO X e t/\∀P0 P σ H Q ρ,An X.K P0 P H σ ρ->(match f ρ with | .ok o=>∀H',Ae H H'->Q o H' | .ex x=>∀H',Ae H H'->WX x H' | .bad=>False)->t σ H Q
def Vl:DO X WX c none (λ _=>.ok none):=⟨_,eJ,λ P0 P σ H Q ρ E h=>h H (Ae.refl H)⟩
abbrev wW (d:D):M (Option Int):=match d with | .int i=>.ok (some i) | _=>.bad
def LW (ha:DE X WX c e f):DO X WX c (some e) (λ ρ=>(f ρ).bind wW):=by
 obtain⟨ta,a1,a2⟩:=ha;refine⟨_,eK a1,λ P0 P σ H Q ρ E h=>?_⟩;dsimp only at h;refine a2 P0 P σ H _ ρ E ?_;cases q:f ρ with
 |bad|ex x=>rw[q] at h;exact h
 |ok d =>
  rw[q] at h;cases d with
  |int i=>exact λ v H1 s1 hv=>⟨i,hv.int_inv,h H1 s1⟩
  |_=>exact h.elim
end
inductive Out where
 |ret (d:D)|next (ρ:Ad)|brk (ρ:Ad)|cont (ρ:Ad)|CQ (c:Cl)|EY (t:OT) (ρ:Ad)
abbrev Tr (P0 P:Addr->Prop)(H:Hp)(P':Addr->Prop)(H':Hp):Prop:=Ae (del H P) (del H' P')/\∀a,P0 a->H' a=H a
def Tr.refl {P0 P:Addr->Prop}{H:Hp}:Tr P0 P H P H:=⟨Ae.refl _,λ _ _=>rfl⟩
def Tr.trans {P0 P P1 P2:Addr->Prop}{H H1 H2:Hp}(a:Tr P0 P H P1 H1)(b:Tr P0 P1 H1 P2 H2):Tr P0 P H P2 H2:=⟨a.1.trans b.1,λ x h=>(b.2 x h).trans (a.2 x h)⟩
def An.tr {K:za}{P0:E8}{P:Addr->Prop}{H H':Hp}{σ:St}{ρ:Ad}(E:An K P0 P H σ ρ)(e:Ae H H'):Tr P0 P H P H':=
 ⟨e.del,λ a h=>by obtain⟨o,q,_⟩:=E.C8 a (E.sub a h);rw[e a o q,q]⟩
abbrev gS (K:za)(WX:Str->Hp->Prop)(P0:E8)(P:Addr->Prop)(H:Hp)(Z:Ends):M Out->Prop
 | .ok (.ret d)=>∀v H' P',Tr P0 P H P' H'->BX K (del H' P0) v d->Z.rt v H'
 | .ok (.next ρ)=>∀σ' H' P',Tr P0 P H P' H'->An K P0 P' H' σ' ρ->Z.nx σ' H'
 | .ok (.brk ρ)=>∀σ' H' P',Tr P0 P H P' H'->An K P0 P' H' σ' ρ->Z.bk σ' H'
 | .ok (.cont ρ)=>∀σ' H' P',Tr P0 P H P' H'->An K P0 P' H' σ' ρ->Z.ct σ' H'
 | .ok (.CQ c)=>∀v fp H' P',Tr P0 P H P' H'->(∀a,P0 a->P' a)->(∀a,P' a->Dv H' a)->Dq K H' P' c v fp->(∀a∈fp,P' a/\¬ P0 a)->fp.Nodup->Z.rt v H'
 | .ok (.EY t ρ)=>∀v fp σ' H' P',Tr P0 P H P' H'->An K P0 P' H' σ' ρ->C7 K H' P' v t fp->fp.Nodup->(∀a∈fp,P' a/\¬ P0 a/\∀(j:Nat) c v' fq,ρ[j]?=some (some c)->σ'[j]?=some (some v')->Dq K H' P' c v' fq->a∉fq)->Z.rt v H'
 | .ex x=>∀H' P',Tr P0 P H P' H'->WX x H'
 | .bad=>False
def gS.tr {K:za}{WX:Str->Hp->Prop}{P0:E8}{P P':Addr->Prop}{H H':Hp}{Z:Ends}{m:M Out}(h:gS K WX P0 P H Z m)(t:Tr P0 P H P' H'):gS K WX P0 P' H' Z m:=by
 cases m with
 |bad=>exact h
 |ex x=>exact λ H2 P2 t2=>h H2 P2 (t.trans t2)
 |ok o =>
  cases o with
  |ret d=>exact λ v H2 P2 t2 hv=>h v H2 P2 (t.trans t2) hv
  |next ρ|brk ρ|cont ρ=>exact λ σ2 H2 P2 t2 hv=>h σ2 H2 P2 (t.trans t2) hv
  |CQ c=>exact λ v fp H2 P2 t2=>h v fp H2 P2 (t.trans t2)
  |EY c ρ=>exact λ v fp σ2 H2 P2 t2=>h v fp σ2 H2 P2 (t.trans t2)
abbrev DS (X:Cx)(WX:Str->Hp->Prop)(st:Stmt)(g:Ad->M Out):Prop:=
 ∃t,PS X st t/\∀P0 P σ H Z ρ,An X.K P0 P H σ ρ->gS X.K WX P0 P H Z (g ρ)->t Z σ H
abbrev Tu (X:Cx)(WX:Str->Hp->Prop)(st:List Stmt)(g:Ad->M Out):Prop:=
 ∃t,UY X st t/\∀P0 P σ H Z ρ,An X.K P0 P H σ ρ->gS X.K WX P0 P H Z (g ρ)->t Z σ H
abbrev RU (m:M Out)(k:Ad->M Out):M Out:=match m with
 | .ok (.next ρ)=>k ρ
 |m=>m
section
variable {X:Cx}{WX:Str->Hp->Prop}{c:Bool}{P0:E8}{P:Addr->Prop}{H:Hp}{σ:St}{ρ:Ad}{a b e:Expr}{f g:Ad->M D}{ft gt:Ad->M Bool}{pos:Pos}{st:Stmt}{rest:List Stmt}{g1 g2:Ad->M Out}
def As:Tu X WX [] (λ ρ=>.ok (.next ρ)):=⟨_,dW,λ P0 P σ H Z ρ E h=>h σ H P Tr.refl E⟩
def A4 (h:DS X WX st g1):Tu X WX [st] g1:=let ⟨t,h1,h2⟩:=h;⟨_,dX h1,h2⟩
def A3 (h:DS X WX st g1)(hr:Tu X WX rest g2):Tu X WX (st::rest) (λ ρ=>RU (g1 ρ) g2):=by
 obtain⟨t,h1,h2⟩:=h;obtain⟨u,r1,r2⟩:=hr;refine⟨_,XZ h1 r1,λ P0 P σ H Z ρ E h=>?_⟩;dsimp only at h;refine h2 P0 P σ H {Z with nx:=u Z} ρ E ?_;cases q:g1 ρ with
 |bad|ex x=>rw[q] at h;exact h
 |ok o =>
  rw[q] at h;cases o with
  |ret d|brk d|cont d|CQ d|EY d ρ2=>exact h
  |next ρ'=>exact λ σ' H' P' t E'=>r2 P0 P' σ' H' Z ρ' E' (gS.tr h t)
def YM (ha:DE X WX false e f):DS X WX (.Return (some e) pos) (λ ρ=>(f ρ).bind λ d=>.ok (.ret d)):=by
 obtain⟨ta,a1,a2⟩:=ha;refine⟨_,TF a1,λ P0 P σ H Z ρ E h=>?_⟩;dsimp only at h;refine a2 P0 P σ H _ ρ E ?_;cases q:f ρ with
 |bad=>rw[q] at h;exact h
 |ex x=>rw[q] at h;exact λ H' s=>h H' P (E.tr s)
 |ok d=>rw[q] at h;exact λ v H' s hv=>h v H' P (E.tr s) hv
def B0 {c:Expr}{sa sb:List Stmt}(hc:DT X WX c ft)(ha:Tu X WX sa g1)(hb:Tu X WX sb g2):DS X WX (.If c sa sb pos) (λ ρ=>(ft ρ).bind λ k=>if k=true then g1 ρ else g2 ρ):=by
 obtain⟨tc,c1,c2⟩:=hc;obtain⟨ta,a1,a2⟩:=ha;obtain⟨tb,b1,b2⟩:=hb;refine⟨_,qR c1 a1 b1,λ P0 P σ H Z ρ E h=>?_⟩;dsimp only at h;refine c2 P0 P σ H _ ρ E ?_;cases q:ft ρ with
 |bad=>rw[q] at h;exact h
 |ex x=>rw[q] at h;exact λ H' s=>h H' P (E.tr s)
 |ok k =>
  rw[q] at h;intro H1 s1;cases k with
  |true =>
   simp only[M.A9,if_true] at h ⊢;exact a2 P0 P σ H1 Z ρ (E.same s1) (h.tr (E.tr s1))
  |false =>
   simp only[M.A9,zG,if_false] at h ⊢;exact b2 P0 P σ H1 Z ρ (E.same s1) (h.tr (E.tr s1))
def get_set {α:Type}{l:List α}{i j:Nat}{x y:α}(h:(l.set i x)[j]?=some y):(i=j/\i<l.length/\x=y)\/(i≠j/\l[j]?=some y):=by
 by_cases e:i=j
 ·subst e;rw[List.getElem?_set_self'] at h;cases q:l[i]? with
  |none=>rw[q] at h;cases h
  |some z =>
   rw[q] at h;exact .inl ⟨rfl,(z3.mp q).1,by simpa using h⟩
 ·rw[yV e] at h;exact .inr ⟨e,h⟩
def An.WE {K:za}(E:An K P0 P H σ ρ){i:Nat}{v:V}{d:D}(hv:BX K (del H P) v d):An K P0 P H (σ.set i (some v)) (ρ.set i (some (.val d))):=by
 have gs:∀ {j:Nat},i≠j->(σ.set i (some v))[j]?=σ[j]? :=λ h=>yV h;refine⟨E.sub,E.C8,λ j e h=>?_,λ j c h io=>?_,λ j k c c' u u' fp ag h1 h2 h3 h4 h5 h6 ae=>?_,by rw[yS,yS];exact E.len,λ j c n h hp=>?_⟩
 rotate_left 3
 ·rcases get_set h with ⟨rfl,hl,e1⟩|⟨ae,h⟩
  ·cases e1;cases hp
  ·rw[gs ae];exact E.pin j c n h hp
 ·rcases get_set h with ⟨rfl,hl,e1⟩|⟨ae,h⟩
  ·cases e1;exact⟨v,zN (by rw[E.len];exact hl),hv⟩
  ·obtain⟨w,h1,h2⟩:=E.val j e h;exact⟨w,by rw[gs ae];exact h1,h2⟩
 ·rcases get_set h with ⟨rfl,hl,e1⟩|⟨ae,h⟩
  ·cases e1;cases io
  ·obtain⟨w,fp,h1,h2⟩:=E.ows j c h io;exact⟨w,fp,by rw[gs ae];exact h1,h2⟩
 ·rcases get_set h1 with ⟨rfl,hl,e1⟩|⟨bG,h1⟩
  ·cases e1;exact h5.elim
  ·rcases get_set h2 with ⟨rfl,hl,e1⟩|⟨a9,h2⟩
   ·cases e1;exact h6.elim
   ·rw[gs bG] at h3;rw[gs a9] at h4;exact E.apart j k c c' u u' fp ag h1 h2 h3 h4 h5 h6 ae
def An.WG {K:za}(E:An K P0 P H σ ρ){P':Addr->Prop}{H':Hp}{i:Nat}{v:V}{c:Cl}{fp:List Addr}(hs:∀a,P a->P' a)(ht:∀a,P' a->Dv H' a)(sm:Ae (del H P) (del H' P'))
 (keep:∀(j:Nat) c' v' ag,i≠j->ρ[j]?=some (some c')->σ[j]?=some (some v')->Dq K H P c' v' ag->∀a∈ag,H' a=H a/\a∉fp)
 (new:Dq K H' P' c v fp) (hp:∀a∈fp,P' a/\¬ P0 a) (nd:fp.Nodup) (e9:∀n,OQ c=some n->v=.ref (P0.g n):=by intro n z;cases z):An K P0 P' H' (σ.set i (some v)) (ρ.set i (some c)):=by
 have gs:∀ {j:Nat},i≠j->(σ.set i (some v))[j]?=σ[j]? :=λ h=>yV h;refine⟨λ a h=>hs a (E.sub a h),ht,λ j e h=>?_,λ j c' h io=>?_,λ j k c1 c2 u u' ay bK h1 h2 h3 h4 h5 h6 ae=>?_,by rw[yS,yS];exact E.len,λ j c' n h hp=>?_⟩
 rotate_left 3
 ·rcases get_set h with ⟨rfl,hl,e1⟩|⟨ae,h⟩
  ·cases e1;rw[zN (by rw[E.len];exact hl),e9 n hp]
  ·rw[gs ae];exact E.pin j c' n h hp
 ·rcases get_set h with ⟨rfl,hl,e1⟩|⟨ae,h⟩
  ·cases e1;exact new.elim
  ·obtain⟨w,h1,h2⟩:=E.val j e h;exact⟨w,by rw[gs ae];exact h1,h2.mono sm⟩
 ·rcases get_set h with ⟨rfl,hl,e1⟩|⟨ae,h⟩
  ·cases e1;exact⟨v,fp,zN (by rw[E.len];exact hl),new,hp,nd⟩
  ·obtain⟨w,fq,h1,h2,h3,h4⟩:=E.ows j c' h io;exact⟨w,fq,by rw[gs ae];exact h1,h2.move sm λ a ha=>(keep j c' w fq ae h h1 h2 a ha).1,λ a ha=>⟨hs a (h3 a ha).1,(h3 a ha).2⟩,h4⟩
 ·have back:∀(l:Nat) (d:Cl) (w:V) (fq:List Addr),i≠l->ρ[l]?=some (some d)->σ[l]?=some (some w)->Dq K H' P' d w fq->∃fr,Dq K H P d w fr/\fr=fq:=λ l d w fq hn hk sk ho=>by
   have io:HX d=true:=by cases d<;>first|rfl|exact ho.elim
   obtain⟨w',bK,s2,o2,_⟩:=E.ows l d hk io;rw[sk] at s2;cases s2;exact⟨bK,o2,(o2.move sm λ a ha=>(keep l d w bK hn hk sk o2 a ha).1).Cg ho⟩
  rcases get_set h1 with ⟨rfl,hl,e1⟩|⟨bG,h1⟩
  ·cases e1;rw[zN (by rw[E.len];exact hl)] at h3;cases h3;rcases get_set h2 with ⟨e,_⟩|⟨a9,h2⟩
   ·exact (ae e).elim
   ·rw[gs a9] at h4;obtain⟨fr,o,rfl⟩:=back k c2 u' bK a9 h2 h4 h6;intro a ha hb;rw[new.Cg h5] at keep;exact (keep k c2 u' fr a9 h2 h4 o a hb).2 ha
  ·rw[gs bG] at h3;obtain⟨fr,o,rfl⟩:=back j c1 u ay bG h1 h3 h5;rcases get_set h2 with ⟨rfl,hl,e1⟩|⟨a9,h2⟩
   ·cases e1;rw[zN (by rw[E.len];exact hl)] at h4;cases h4;intro a ha;rw[new.Cg h6] at keep;exact (keep j c1 u fr bG h1 h3 o a ha).2
   ·rw[gs a9] at h4;obtain⟨nu,o2,rfl⟩:=back k c2 u' bK a9 h2 h4 h6;exact E.apart j k c1 c2 u u' fr nu h1 h2 h3 h4 o o2 ae
def An.sG {K:za}(E:An K P0 P H σ ρ){P':Addr->Prop}{H':Hp}{i:Nat}{v:V}{c:Cl}{fp:List Addr}(hs:∀a,P0 a->P' a)(ht:∀a,P' a->Dv H' a)(sm:Ae (del H P) (del H' P'))
 (keep:∀(j:Nat) c' v' ag,i≠j->ρ[j]?=some (some c')->σ[j]?=some (some v')->Dq K H P c' v' ag->∀a∈ag,H' a=H a/\a∉fp/\P' a)
 (new:Dq K H' P' c v fp) (hp:∀a∈fp,P' a/\¬ P0 a) (nd:fp.Nodup) (e9:∀n,OQ c=some n->v=.ref (P0.g n):=by intro n z;cases z):An K P0 P' H' (σ.set i (some v)) (ρ.set i (some c)):=by
 have gs:∀ {j:Nat},i≠j->(σ.set i (some v))[j]?=σ[j]? :=λ h=>yV h;refine⟨hs,ht,λ j e h=>?_,λ j c' h io=>?_,λ j k c1 c2 u u' ay bK h1 h2 h3 h4 h5 h6 ae=>?_,by rw[yS,yS];exact E.len,λ j c' n h hp=>?_⟩
 rotate_left 3
 ·rcases get_set h with ⟨rfl,hl,e1⟩|⟨ae,h⟩
  ·cases e1;rw[zN (by rw[E.len];exact hl),e9 n hp]
  ·rw[gs ae];exact E.pin j c' n h hp
 ·rcases get_set h with ⟨rfl,hl,e1⟩|⟨ae,h⟩
  ·cases e1;exact new.elim
  ·obtain⟨w,h1,h2⟩:=E.val j e h;exact⟨w,by rw[gs ae];exact h1,h2.mono sm⟩
 ·rcases get_set h with ⟨rfl,hl,e1⟩|⟨ae,h⟩
  ·cases e1;exact⟨v,fp,zN (by rw[E.len];exact hl),new,hp,nd⟩
  ·obtain⟨w,fq,h1,h2,h3,h4⟩:=E.ows j c' h io;exact⟨w,fq,by rw[gs ae];exact h1,h2.move sm λ a ha=>(keep j c' w fq ae h h1 h2 a ha).1,λ a ha=>⟨(keep j c' w fq ae h h1 h2 a ha).2.2,(h3 a ha).2⟩,h4⟩
 ·have back:∀(l:Nat) (d:Cl) (w:V) (fq:List Addr),i≠l->ρ[l]?=some (some d)->σ[l]?=some (some w)->Dq K H' P' d w fq->∃fr,Dq K H P d w fr/\fr=fq:=λ l d w fq hn hk sk ho=>by
   have io:HX d=true:=by cases d<;>first|rfl|exact ho.elim
   obtain⟨w',bK,s2,o2,_⟩:=E.ows l d hk io;rw[sk] at s2;cases s2;exact⟨bK,o2,(o2.move sm λ a ha=>(keep l d w bK hn hk sk o2 a ha).1).Cg ho⟩
  rcases get_set h1 with ⟨rfl,hl,e1⟩|⟨bG,h1⟩
  ·cases e1;rw[zN (by rw[E.len];exact hl)] at h3;cases h3;rcases get_set h2 with ⟨e,_⟩|⟨a9,h2⟩
   ·exact (ae e).elim
   ·rw[gs a9] at h4;obtain⟨fr,o,rfl⟩:=back k c2 u' bK a9 h2 h4 h6;intro a ha hb;rw[new.Cg h5] at keep;exact (keep k c2 u' fr a9 h2 h4 o a hb).2.1 ha
  ·rw[gs bG] at h3;obtain⟨fr,o,rfl⟩:=back j c1 u ay bG h1 h3 h5;rcases get_set h2 with ⟨rfl,hl,e1⟩|⟨a9,h2⟩
   ·cases e1;rw[zN (by rw[E.len];exact hl)] at h4;cases h4;intro a ha;rw[new.Cg h6] at keep;exact (keep j c1 u fr bG h1 h3 o a ha).2.1
   ·rw[gs a9] at h4;obtain⟨nu,o2,rfl⟩:=back k c2 u' bK a9 h2 h4 h6;exact E.apart j k c1 c2 u u' fr nu h1 h2 h3 h4 o o2 ae
def KA {α:Type}:∀ {l:List α}{i:Nat}{x:α},l[i]?=some x->l.set i x=l
 |[],_,_,h=>by cases h
 |y::r,0,x,h=>by cases h;rfl
 |y::r,i+1,x,h=>by rw[zk,KA (by simpa using h)]
def An.mut {K:za}(E:An K P0 P H σ ρ){i p:Nat}{xs:List V}{ds ja:List D}(ho:ρ[i]?=some (some (.own ds)))(hs:σ[i]?=some (some (.ref p)))(pP:P p)(lg:¬ P0 p)(hx:Ag K (del H P) xs ja):
 An K P0 P (upd H p (.lst xs)) σ (ρ.set i (some (.own ja)))/\Tr P0 P H P (upd H p (.lst xs)):=by
 have sd:del (upd H p (.lst xs)) P=del H P:=by
  funext b;by_cases hb:P b
  ·rw[D8 hb,D8 hb]
  ·rw[Av hb,Av hb,Aj (λ z=>hb (by rw[z];exact pP))]
 have sm:Ae (del H P) (del (upd H p (.lst xs)) P):=by rw[sd];exact Ae.refl _
 obtain⟨v,fp,s1,o1,_⟩:=E.ows i _ ho rfl;rw[hs] at s1;cases s1;have key:=E.WG (P':=P) (H':=upd H p (.lst xs)) (i:=i) (v:=.ref p) (c:=.own ja) (fp:=[p]) (λ a h=>h) (λ a h=>?_) sm (λ j c' v' ag ae h1 h2 h3 a ha=>?_) ⟨p,xs,rfl,rfl,Aq,by rw[sd];exact hx⟩ (λ a ha=>by rw[zg.mp ha];exact⟨pP,lg⟩) (by simp)
 ·rw[KA hs] at key;exact⟨key,sm,λ a h=>by rw[Aj (λ z=>lg (by rw[<-z];exact h))]⟩
 ·by_cases ha:a=p
  ·subst ha;exact Dv.lst Aq
  ·unfold Dv;rw[Aj ha];exact E.C8 a h
 ·obtain⟨p',dh,e,rfl,_⟩:=o1;cases e;have hn:a≠p:=λ z=>E.apart j i c' _ v' _ ag [p] h1 ho h2 hs h3 ⟨p,dh,rfl,rfl,by assumption⟩ (zY ae) a ha (by rw[z];exact zg.mpr rfl);exact⟨Aj hn,λ z=>hn (zg.mp z)⟩
def An.grow {K:za}(E:An K P0 P H σ ρ){i p:Nat}{xs:List V}{ds:List D}{v:V}{d:D}(ho:ρ[i]?=some (some (.own ds)))(hs:σ[i]?=some (some (.ref p)))(hp:H p=some (.lst xs))(pP:P p)(lg:¬ P0 p)(hx:Ag K (del H P) xs ds)(hv:BX K (del H P) v d):
 An K P0 P (upd H p (.lst (xs++[v]))) σ (ρ.set i (some (.own (ds++[d]))))/\Tr P0 P H P (upd H p (.lst (xs++[v]))):=E.mut ho hs pP lg (hx.snoc hv)
def AM (i:Nat){x:Str}{pos':Pos}(hN:X.N.Nodup)(hi:X.N[i]?=some x)(hx:Loc X.env.scope x)(ha:DE X WX true e f)(hs: ~~~(swapsWith e (some (.Name x pos')) pos.line X.env=pure false))(hf:X.fn x=true\/X.env.scope.names.lookup x=some .local:=by first | exact .inl rfl | exact .inr rfl | assumption):
 DS X WX (.Assign [.Name x pos'] e pos) (λ ρ=>(f ρ).bind λ d=>.ok (.next (ρ.set i (some (.val d))))):=by
 obtain⟨ta,a1,a2⟩:=ha;refine⟨_,TH hN hi hx a1 hs hf,λ P0 P σ H Z ρ E h=>?_⟩;dsimp only at h;refine a2 P0 P σ H _ ρ E ?_;cases q:f ρ with
 |bad=>rw[q] at h;exact h
 |ex x=>rw[q] at h;exact λ H' s=>h H' P (E.tr s)
 |ok d=>rw[q] at h;exact λ v H' s hv=>h _ H' P (E.tr s) ((E.same s).WE hv)
def dI {K:za}{WX:Str->Hp->Prop}{P0:E8}{P:Addr->Prop}{H:Hp}{Z:Ends}{σ:St}{ρ:Ad}{α:Type}{m:M α}{k:α->M Out}{R:M α->Prop}(h:gS K WX P0 P H Z (m.bind k))(E:An K P0 P H σ ρ)(hk:∀a,gS K WX P0 P H Z (k a)->R (.ok a))(hb:False->R .bad:=by exact λ h=>h)(hx:∀x,(∀H',Ae H H'->WX x H')->R (.ex x):=by exact λ _ h=>h):R m:=by
 cases m with
 |ok a=>exact hk a h
 |ex x=>exact hx x λ H' s=>h H' P (E.tr s)
 |bad=>exact hb h
abbrev WH (i:Nat)(ρ:Ad)(m:M D):M Out:=match ρ[i]? with
 |some (some (.own ds))=>m.bind λ d=>if ds.length<1000 then .ok (.next (ρ.set i (some (.own (ds++[d]))))) else .bad
 |_=>.bad
def DQ (i:Nat){x:Str}{p1 apos ad:Pos}(hv:PE X (.Name x p1) (LK i))(ha:DE X WX true e f)(hs: ~~~(starEach [e] X.env=[(false,eval e X.env)]))(ba: ~~~(swapsWith (.Call (.Attribute (.Name x p1) "append" apos) [e] [] ad) none pos.line X.env=pure false))(ar: ~~~(attributeBase (.Name x p1) "append" X.env (eval (.Name x p1) X.env)=eval (.Name x p1) X.env))(aB: ~~~(((backTo ad (starEach [e] X.env)).all (λ x => !x.1)&&(backToKw ad (keywordEach [] X.env)).all (λ x=>x.1.isSome)&&decide (([e]:List Expr).length+([]:List Keyword).length+(if ([]:List Keyword).isEmpty then 0 else 1)<30))=true))(au: ~~~((apos.endLine==ad.line)=true))(ak: ~~~((backTo ad (starEach [] X.env)).any (·.1)=false)):
 DS X WX (.Expr (.Call (.Attribute (.Name x p1) "append" apos) [e] [] ad) pos) (λ ρ=>WH i ρ (f ρ)):=by
 obtain⟨ta,a1,a2⟩:=ha;refine⟨_,Ff (OK za7 PySem.F.slot_list_append PySem.F.type_list_append Kt hv (Bp a1 Cn hs) ar aB au hs ak) ba,λ P0 P σ H Z ρ E h=>?_⟩;dsimp only at h;unfold WH at h;split at h
 ·rename_i ds e1;obtain⟨p,xs,h1,h2,h3,h4,h5⟩:=E.own i ds e1;refine⟨_,h1,.inl ⟨rfl,xs,.of h2⟩,?_⟩;refine a2 P0 P σ H _ ρ E ?_;refine dI h E λ d h=>?_;by_cases hl:ds.length<1000
  ·rw[if_pos hl] at h;intro v H1 s1 hv;have E1:=E.same s1;have e8:H1 p=some (.lst xs):=s1 _ _ h2;refine⟨p,xs,v,rfl,rfl,e8,AD (by rw[h5.length];omega),?_⟩;obtain⟨E2,t2⟩:=E1.grow e1 h1 e8 h3 h4 (h5.mono s1.del) hv;exact h _ _ _ ((E.tr s1).trans t2) E2
  ·rw[if_neg hl] at h;exact h.elim
 ·exact h.elim
end
abbrev gG (K:za)(P0:E8)(P:Addr->Prop)(H:Hp)(Q:St->Hp->Prop):M Ad->Prop
 | .ok ρ=>∀σ',An K P0 P H σ' ρ->Q σ' H
 |_=>False
abbrev DG (X:Cx)(tg:Expr)(gt:D->Ad->M Ad):Prop:=
 ∃g:TG,PG X tg g/\∀P0 P σ H Q ρ v d,An X.K P0 P H σ ρ->BX X.K (del H P) v d->gG X.K P0 P H Q (gt d ρ)->g v σ H Q
abbrev uC (X:Cx)(u6:List Expr)(gt:List D->Ad->M Ad):Prop:=
 ∃g:XM,pN X u6 g/\∀P0 P σ H Q ρ v d,An X.K P0 P H σ ρ->Ag X.K (del H P) v d->gG X.K P0 P H Q (gt d ρ)->g v σ H Q
structure fH (K:za)(J:It)(P:Addr->Prop)(H:Hp)(ds:List D):Prop where
 go:∀(i:Nat) P' H',Ae (del H P) (del H' P')->i<ds.length->J.go i H'
 stop:∀(i:Nat) P' H',Ae (del H P) (del H' P')->ds.length<=i->J.stop i H'
 jQ:∀(i:Nat) P' H' v fc d,Ae (del H P) (del H' P')->(∀a,P' a->Dv H' a)->ds[i]?=some d->J.jQ i H' v fc->Ae H' fc/\BX K (del fc P') v d
abbrev DI (X:Cx)(WX:Str->Hp->Prop)(tg iter:Expr)(f:Ad->M (List D)):Prop:=
 ∃wi,PI X tg iter wi/\∀P0 P σ H R ρ,An X.K P0 P H σ ρ->(match f ρ with | .ok ds=>∀J H',Ae H H'->fH X.K J P H' ds->R J H' | .ex x=>∀H',Ae H H'->WX x H' | .bad=>False)->wi σ H R
abbrev forM (gt:D->Ad->M Ad)(body:Ad->M Out):List D->Ad->M Out
 |[],ρ=>.ok (.next ρ)
 |d::r,ρ=>match gt d ρ with
  | .ok ρ1=>(match body ρ1 with
   | .ok (.next ρ2)| .ok (.cont ρ2)=>forM gt body r ρ2
   | .ok (.brk ρ2)=>.ok (.next ρ2)
   |m=>m)
  |_=>.bad
section
variable {X:Cx}{WX:Str->Hp->Prop}{c:Bool}{P0:E8}{P:Addr->Prop}{H:Hp}{σ:St}{ρ:Ad}{a b e tg iter:Expr}{f g:Ad->M D}{ft:Ad->M Bool}{pos:Pos}{gt:D->Ad->M Ad}{cv:List D->Ad->M Ad}{gb:Ad->M Out}{fi:Ad->M (List D)}
def Az (i:Nat){x:Str}(hN:X.N.Nodup)(hi:X.N[i]?=some x)(hx:Loc X.env.scope x)(hf:X.fn x=true\/X.env.scope.names.lookup x=some .local:=by first | exact .inl rfl | exact .inr rfl | assumption):DG X (.Name x pos) (λ d ρ=>.ok (ρ.set i (some (.val d)))):=
 ⟨_,PZ hN hi hx hf,λ P0 P σ H Q ρ v d E hv h=>h _ (E.WE hv)⟩
def Jd:uC X [] (λ ds ρ=>match ds with | []=>.ok ρ | _=>.bad):=⟨_,UZ,λ P0 P σ H Q ρ v d E hv h=>by
 cases hv with
 |nil=>exact⟨rfl,h σ E⟩
 |cons _ _=>exact h.elim⟩
def Cw {es:List Expr}(h1:DG X e gt)(h2:uC X es cv)(hs: ~~~((assignEach (e::es) X.env).map (·.2)=assign e X.env::(assignEach es X.env).map (·.2))):
 uC X (e::es) (λ ds ρ=>match ds with|d::r=>(gt d ρ).bind (cv r)|[]=>.bad):=by
 obtain⟨t,a1,a2⟩:=h1;obtain⟨u,b1,b2⟩:=h2;refine⟨_,RB a1 b1 hs,λ P0 P σ H Q ρ v d E hv h=>?_⟩;cases hv with
 |nil=>exact h.elim
 | @cons x d xs ds hx cf =>
  refine⟨x,xs,rfl,a2 P0 P σ H _ ρ x d E hx ?_⟩;dsimp only at h;cases q:gt d ρ with
  |bad|ex y=>rw[q] at h;exact h
  |ok ρ1=>rw[q] at h;exact λ σ' E'=>b2 P0 P σ' H Q ρ1 xs ds E' cf h
def MO {es:List Expr}{k n:Nat}(hc:X.calm=true)(h:uC X es cv)(hn: ~~~((assignEach es X.env).length=n))(aJ: ~~~((assignEach es X.env).findIdx? (·.1)=none)):
 DG X (.Tuple es k pos) (λ d ρ=>match d with | .tup ds=>if ds.length=n then cv ds ρ else .bad|_=>.bad):=by
 obtain⟨t,a1,a2⟩:=h;refine⟨_,Y1 hc a1 hn aJ,λ P0 P σ H Q ρ v d E hv h=>?_⟩;cases hv with
 | @tup a xs ds hs hl =>
  dsimp only at h;by_cases hd:ds.length=n
  ·rw[if_pos hd] at h;exact⟨a,xs,rfl,Fe.of (Ao hs).2,by rw[hl.length];exact hd,a2 P0 P σ H Q ρ xs ds E hl h⟩
  ·rw[if_neg hd] at h;exact h.elim
 |_=>exact h.elim
def AN (ha:DE X WX true e f):DI X WX tg e (λ ρ=>(f ρ).bind λ d=>match d with | .lst ds=>.ok ds | _=>.bad):=by
 obtain⟨ta,a1,a2⟩:=ha;refine⟨_,dY a1,λ P0 P σ H R ρ E h=>?_⟩;dsimp only at h;refine a2 P0 P σ H _ ρ E ?_;cases q:f ρ with
 |bad|ex x=>rw[q] at h;exact h
 |ok d =>
  rw[q] at h;cases d with
  |lst ds =>
   intro v H1 s1 hv;cases hv with
   | @lst a xs _ hs hl =>
    refine⟨a,rfl,⟨xs,hs.B7⟩,h _ H1 s1 ⟨λ i P' H' s hi=>?_,λ i P' H' s hi=>?_,λ i P' H' v fc d s ht hd y=>?_⟩⟩
    ·obtain⟨x,hx,_⟩:=hl.get (zi hi);exact⟨xs,x,(s.seq hs).B7,hx⟩
    ·exact⟨xs,(s.seq hs).B7,by rw[hl.length];exact hi⟩
    ·obtain⟨rfl,y⟩:=y;obtain⟨x,hx,bj⟩:=hl.get hd;have e:=y xs (s.seq hs).B7;rw[hx] at e;cases e;exact⟨Ae.refl _,bj.mono s⟩
  |_=>exact h.elim
abbrev C2 (lo:Int):Nat->List D
 |0=>[]
 |n+1=>.int lo::C2 (lo+1) n
def Bd (lo:Int):∀n:Nat,(C2 lo n).length=n:=by
 intro n;induction n generalizing lo with
 |zero=>rfl
 |succ n ih=>rw[C2,zj,ih]
def Be {lo:Int}{n i:Nat}{d:D}(h:(C2 lo n)[i]?=some d):d=.int (lo+i)/\i<n:=by
 have hi:i<n:=by
  have:=(z3.mp h).1;rw[Bd] at this;exact this
 refine⟨?_,hi⟩;induction n generalizing lo i with
 |zero=>omega
 |succ n ih =>
  cases i with
  |zero=>rw[C2] at h;simp at h;rw[<-h];simp
  |succ i =>
   rw[C2,zL] at h;rw[ih h (by omega)];congr 1;omega
def U8 {K:za}{P:Addr->Prop}{H:Hp}(lo:Int)(n:Nat):fH K (tW lo n) P H (C2 lo n):=
 ⟨λ i P' H' _ hi=>by rw[Bd] at hi;exact hi,λ i P' H' _ hi=>by rw[Bd] at hi;exact hi,λ i P' H' v fc d _ _ hd y=>by
  obtain⟨rfl,rfl⟩:=y;obtain⟨rfl,_⟩:=Be hd;exact⟨Ae.refl _,.int _⟩⟩
abbrev Qi:D->M (List D)
 | .int j=>@ite _ (-(2^62)<=j/\j<2^62) (zbd _) (.ok (C2 0 j.toNat)) .bad
 |_=>.bad
def RV {j:Int}(h1 : -(2^62)<=j)(h2:j<2^62):Qi (.int j)=.ok (C2 0 j.toNat):=if_pos ⟨h1,h2⟩
def Ea {n:Nat}(h:n<=1000):Qi (.int (n:Int))=.ok (C2 0 n):=by
 rw[RV (by omega) (by omega),yO]
def Bb {p:Pos}(hg:Gl X "range")(hm:X.mg "range" = none)(ha:DE X WX c a f)(hs: ~~~(starEach [a] X.env=[(false,eval a X.env)])):
 DI X WX tg (.Call (.Name "range" p) [a] [] pos) (λ ρ=>(f ρ).bind Qi):=by
 obtain⟨ta,a1,a2⟩:=ha;refine⟨_,Wj hg hm (Bp a1 Cn hs) hs,λ P0 P σ H R ρ E h=>?_⟩;dsimp only at h;refine a2 P0 P σ H _ ρ E ?_;cases q:f ρ with
 |bad|ex x=>rw[q] at h;exact h
 |ok d =>
  rw[q] at h;cases d with
  |int j =>
   simp only[M.A9] at h;by_cases hj : -(2^62)<=j/\j<2^62
   ·rw[RV hj.1 hj.2] at h;exact λ v H1 s1 hv=>⟨j,by rw[hv.int_inv],hj.1,hj.2,h _ H1 s1 (U8 0 _)⟩
   ·have e:Qi (.int j)=.bad:=if_neg hj;rw[e] at h;exact h.elim
  |_=>exact h.elim
abbrev Le (k:Nat):List D->List D
 |[]=>[]
 |d::r=>.tup [.int k,d]::Le (k+1) r
def Ht (k:Nat)(ds:List D):(Le k ds).length=ds.length:=by
 induction ds generalizing k with
 |nil=>rfl
 |cons d r ih=>rw[Le,zj,zj,ih]
def KC {k i:Nat}{ds:List D}{e:D}(h:(Le k ds)[i]?=some e):∃d,ds[i]?=some d/\e=.tup [.int ((k+i:Nat):Int),d]:=by
 induction ds generalizing k i with
 |nil=>rw[Le] at h;simp at h
 |cons d r ih =>
  cases i with
  |zero=>rw[Le] at h;simp at h;exact⟨d,rfl,by rw[<-h];rfl⟩
  |succ i =>
   rw[Le,zL] at h;obtain⟨d',h1,h2⟩:=ih h;refine⟨d',by simpa using h1,?_⟩;rw[h2];congr 3;omega
def Vm {bS:List Expr}{x1}{bu p:Pos}(hg:Gl X "enumerate")(hm:X.mg "enumerate" = none)(ha:DE X WX true a f)(hb:bootBuiltins "enumerate" = some (.type "enumerate"):=by decide +kernel)(hs: ~~~(starEach [a] X.env=[(false,eval a X.env)])):
 DI X WX (.Tuple bS x1 bu) (.Call (.Name "enumerate" p) [a] [] pos) (λ ρ=>(f ρ).bind λ d=>match d with | .lst ds=>.ok (Le 0 ds)|_=>.bad):=by
 obtain⟨ta,a1,a2⟩:=ha;refine⟨_,fD hg hm (Bp a1 Cn hs) hb hs,λ P0 P σ H R ρ E h=>?_⟩;dsimp only at h;refine a2 P0 P σ H _ ρ E ?_;cases q:f ρ with
 |bad|ex x=>rw[q] at h;exact h
 |ok d =>
  rw[q] at h;cases d with
  |lst ds =>
   intro v H1 s1 hv;cases hv with
   | @lst a xs _ hs hl =>
    refine⟨a,rfl,⟨xs,hs.B7⟩,h _ H1 s1 ⟨λ i P' H' s hi=>?_,λ i P' H' s hi=>?_,λ i P' H' v fc d s ht hd y=>?_⟩⟩
    ·rw[Ht] at hi;obtain⟨x,hx,_⟩:=hl.get (zi hi);exact⟨xs,x,(s.seq hs).B7,hx⟩
    ·rw[Ht] at hi;exact⟨xs,(s.seq hs).B7,by rw[hl.length];exact hi⟩
    ·obtain⟨p,x,hn,rfl,y,rfl⟩:=y;obtain⟨d',az,rfl⟩:=KC hd;obtain⟨x',hx,bj⟩:=hl.get az;have e:=y xs (s.seq hs).B7;rw[hx] at e;cases e;refine⟨AQ hn _,.tup (J8 hn ht) (.cons ?_ (.cons ((bj.mono s).mono (AQ hn _).del) .nil))⟩;rw[Nat.zero_add];exact .int _
  |_=>exact h.elim
def Je {α:Type}{l:List α}{i:Nat}(h:i<l.length):l.drop i=l[i]::l.drop (i+1):=zai h
def B5 {body:List Stmt}(hp:PassesOwn (model X.prog X.w) X.A X.env X.xe)(hc:X.calm=true)(hi:DI X WX tg iter fi)(hg:DG X tg gt)(hb:Tu X WX body gb)(hs:∀x,foldedSetIterable iter X.env x=pure x:=by intro _;rfl):
 DS X WX (.For tg iter body [] pos) (λ ρ=>(fi ρ).bind λ ds=>forM gt gb ds ρ):=by
 obtain⟨wi,i1,i2⟩:=hi;obtain⟨t,a1,a2⟩:=hg;obtain⟨tb,b1,b2⟩:=hb;refine⟨_,lS hp hc i1 a1 b1 hs,λ P0 P σ H Z ρ E h=>?_⟩;dsimp only at h;refine i2 P0 P σ H _ ρ E ?_;cases q:fi ρ with
 |bad=>rw[q] at h;exact h
 |ex x=>rw[q] at h;exact λ H' s=>h H' P (E.tr s)
 |ok ds =>
  rw[q] at h;simp only[M.A9] at h;intro J H1 s1 ok;refine⟨λ i m σ' H'=>m=ds.length-i/\i<=ds.length/\∃P' ρ',Tr P0 P H1 P' H'/\An X.K P0 P' H' σ' ρ'/\gS X.K WX P0 P' H' Z (forM gt gb (ds.drop i) ρ'),
   ⟨ds.length,by simp,zR _,P,ρ,Tr.refl,E.same s1,by rw[List.drop_zero];exact h.tr (E.tr s1)⟩,?_⟩
  rintro i m σ' H' ⟨rfl,hi,P',ρ',t',E',g'⟩;by_cases af:i<ds.length
  ·refine .inr ⟨ok.go i P' H' t'.1 af,λ σ2 H2=>i+1<=ds.length/\∃P2 ρ2,Tr P0 P H1 P2 H2/\An X.K P0 P2 H2 σ2 ρ2/\gS X.K WX P0 P2 H2 Z (forM gt gb (ds.drop (i+1)) ρ2),λ σ2 H2 hq=>⟨ds.length-(i+1),by omega,rfl,hq.1,hq.2⟩,λ v H2 y=>?_⟩;obtain⟨s2,hv⟩:=ok.jQ i P' H' v H2 ds[i] t'.1 E'.C8 (zi af) y;rw[Je af,forM] at g';have E2:=E'.same s2;refine a2 P0 P' σ' H2 _ ρ' v ds[i] E2 hv ?_;cases q1:gt ds[i] ρ' with
   |bad=>rw[q1] at g';exact g'
   |ex x=>rw[q1] at g';exact g'.elim
   |ok ρ1 =>
    rw[q1] at g';dsimp only at g';intro σ3 E3;refine b2 P0 P' σ3 H2 _ ρ1 E3 ?_;have tt:Tr P0 P H1 P' H2:=t'.trans (E'.tr s2);cases q2:gb ρ1 with
    |bad=>rw[q2] at g';exact g'
    |ex x=>rw[q2] at g';exact gS.tr (m:=.ex x) g' (E'.tr s2)
    |ok o =>
     rw[q2] at g';cases o with
     |ret d=>exact gS.tr (m:=.ok (.ret d)) g' (E'.tr s2)
     |CQ d=>exact gS.tr (m:=.ok (.CQ d)) g' (E'.tr s2)
     |EY d ρ2=>exact gS.tr (m:=.ok (.EY d ρ2)) g' (E'.tr s2)
     |next ρ2|cont ρ2=>exact λ σ4 H4 P4 t4 E4=>⟨af,P4,ρ2,tt.trans t4,E4,gS.tr g' ((E'.tr s2).trans t4)⟩
     |brk ρ2=>exact λ σ4 H4 P4 t4 E4=>g' σ4 H4 P4 ((E'.tr s2).trans t4) E4
  ·have e:i=ds.length:=by omega
   subst e;refine .inl ⟨ok.stop _ P' H' t'.1 (zu _),?_⟩;rw[List.drop_length,forM] at g';exact g' σ' H' P' Tr.refl E'
end
abbrev U9 (K:za)(n:Nat)(F:List D->M D):Sp:=λ vs H Q _=>vs.length=n/\∃P ds,(∀a,P a->Dv H a)/\Ag K (del H P) vs ds/\gV K (λ _ _=>False) P H Q (F ds)
abbrev AE (N:List Str)(ds:List D):Ad:=ds.map (λ d=>some (.val d))++zr (N.length-ds.length) none
abbrev vW:Cl->M D
 | .val d=>.ok d
 | .own ds=>.ok (.lst ds)
 | .ow (.rows C4)=>.ok (.lst (C4.map D.lst))
 | .ow (.LN _ _)=>.bad
 | .ow (.tree _ t)=>.ok (er t)
abbrev fin (m:M Out):M D:=match m with
 | .ok (.ret d)=>.ok d
 | .ok (.CQ c)=>vW c
 | .ok (.next _)=>.ok .AK
 |_=>.bad
def OV {K:za}{P:Addr->Prop}{H:Hp}{N:List Str}{vs:List V}{ds:List D}(ht:∀a,P a->Dv H a)(h:Ag K (del H P) vs ds):An K ⟨P,λ _=>0⟩ P H (start N vs) (AE N ds):=by
 have hl:=h.length;have key:∀(i:Nat) (c:Cl),(AE N ds)[i]?=some (some c)->∃d,ds[i]?=some d/\c=.val d:=λ i c e=>by
  unfold AE at e;by_cases hi:i<ds.length
  ·rw[yU (by simpa using hi),z7] at e;cases q:ds[i]? with
   |none=>rw[q] at e;cases e
   |some d=>rw[q] at e;cases e;exact⟨d,rfl,rfl⟩
  ·rw[yX (by simpa using hi),zaa] at e;split at e<;>cases e
 refine⟨λ _ h=>h,ht,λ i d e=>?_,λ i es e io=>?_,λ i j c c' v v' fp ag e _ _ _ ho _ _=>?_,?_,λ i c n e hp=>?_⟩
 rotate_left 4
 ·obtain⟨d',q,z⟩:=key i _ e;cases z;cases hp
 ·obtain⟨d',q,z⟩:=key i _ e;cases z;obtain⟨v,hv,hd⟩:=h.get q;refine⟨v,?_,hd⟩;unfold start;rw[yU (by rw[zc];exact (z3.mp hv).1),z7,hv];rfl
 ·obtain⟨d',q,z⟩:=key i _ e;cases z;cases io
 ·obtain⟨d',q,z⟩:=key i _ e;cases z;exact ho.elim
 ·unfold start AE;simp[hl]
def DC {P:Addr->Prop}{H H':Hp}{P':Addr->Prop}(t:Tr P P H P' H'):Ae H H':=λ b o e=>by
 by_cases hb:P b
 ·rw[t.2 b hb];exact e
 ·exact (Ao (t.1 b o (by rw[Av hb];exact e))).2
def BI.nF {K:za}{H:Hp}{P P0:Addr->Prop}(hs:∀a,P0 a->P a):∀ {ps:List Addr}{C4:List (List D)},(∀a∈ps,¬ P0 a)->BI K H P ps C4->Ag K (del H P0) (ps.map V.ref) (C4.map D.lst)
 |_,_,_,.nil=>.nil
 |_,_,k,.cons h r t=>.cons (.lst (.of (show del H P0 _=_ by rw[Av (k _ zd)];exact h)) (r.mono (CS hs))) (BI.nF hs (λ a ha=>k a (ze _ ha)) t)
def fI {K:za}{WX:Str->Hp->Prop}{P P2:Addr->Prop}{H H':Hp}{Q:VK}{c:Cl}{v:V}{fp:List Addr}(h:gV K WX P H Q (vW c))(t':Tr P P H P2 H')(hs:∀a,P a->P2 a)(ht:∀a,P2 a->Dv H' a)(ho:Dq K H' P2 c v fp)(hp:∀a∈fp,P2 a/\¬ P a):Q v H':=by
 cases c with
 |val d=>exact ho.elim
 |own ds =>
  obtain⟨p,xs,rfl,rfl,h1,h2⟩:=ho;exact h _ H' (DC t') (.lst (.of (show del H' P p=_ by rw[Av (hp p zd).2];exact h1)) (h2.mono (CS hs)))
 |ow o =>
  cases o with
  |rows C4 =>
   obtain⟨p,ps,rfl,rfl,h1,h2⟩:=ho;exact h _ H' (DC t') (.lst (.of (show del H' P p=_ by rw[Av (hp p zd).2];exact h1)) (h2.nF hs λ a ha=>(hp a (ze _ ha)).2))
  |LN p ds=>exact h.elim
  |tree p t=>exact h _ H' (DC t') (C7.has hs (λ a ha=>(hp a ha).2) ho)
section
variable {P:Program}{w:World}{K:za}{mg:Str->Option Value}{base:Heap}
def sH {x qual:Str}{st:Stmt}{f:Addr}{fd:FuncData}{N ps:List Str}{k:Nat}(F:XN K x qual st f fd)(S:Ac N ps (A5 st))(g:Ad->M Out)
 (hb:∀(B4:Value) (A:Around) (outer:List Env) (s:Shared) (H:Hp) (E:XK),BE k (A.deeper (envOfC qual (A5 st) s.heap.objs.size f B4))->Tu (RC eT P w K mg base N qual (A5 st) f B4 A outer s H E).qO (λ _ _=>False) (AR st) g):
 Dn P w K mg base eT (k+1) f fd ps (U9 K ps.length λ ds=>fin (g (AE N ds))):=by
 refine F.ok S (λ vs H Q E h=>h.1) λ B4 A outer s H vs Q E hr h=>?_;obtain⟨hl,P',ds,ht,hv,hq⟩:=h;obtain⟨t,h1,h2⟩:=hb B4 A outer s H E hr;refine⟨t,h1,h2 ⟨P',λ _=>0⟩ P' _ H _ _ (OV ht hv) ?_⟩;dsimp only at hq;revert hq;cases g (AE N ds) with
 |bad|ex x=>exact λ h=>h.elim
 |ok o =>
  cases o with
  |ret d=>exact λ h v H' P2 t hv=>h v H' (DC t) hv
  |next ρ=>exact λ h σ' H' P2 t E=>h .AK H' (DC t) .AK
  |brk ρ|cont ρ=>exact λ h=>h.elim
  |CQ c=>exact λ h v fp H' P2 t hs ht ho hp nd=>fI h t hs ht ho hp
  |EY d ρ=>exact λ h=>h.elim
end
section
variable {X:Cx}{WX:Str->Hp->Prop}{c:Bool}{P0:E8}{P:Addr->Prop}{H:Hp}{σ:St}{ρ:Ad}{a b e tg iter:Expr}{f g:Ad->M D}{ft:Ad->M Bool}{pos:Pos}{gt:D->Ad->M Ad}{fi:Ad->M (List D)}{es:List Expr}{fs:Ad->M (List D)}
abbrev BJ (μ:List (Option Nat))(ρ:Ad):Ad:=μ.map λ o=>o.bind λ i=>match ρ[i]? with | some (some (.val d))=>some (.val d) | _=>none
def Hu {μ:List (Option Nat)}{ρ:Ad}{j:Nat}{cl:Cl}(h:(BJ μ ρ)[j]?=some (some cl)):∃i d,μ[j]?=some (some i)/\ρ[i]?=some (some (.val d))/\cl=.val d:=by
 unfold BJ at h;rw[z7] at h;cases q:μ[j]? with
 |none=>rw[q] at h;cases h
 |some o =>
  rw[q] at h;cases o with
  |none=>cases h
  |some i =>
   simp only[zae,Option.bind_some,Option.some.injEq] at h;split at h
   ·rename_i d e;cases h;exact⟨i,d,rfl,e,rfl⟩
   ·cases h
def An.block {K:za}(E:An K P0 P H σ ρ)(μ:List (Option Nat)):An K P0 P H (EJ μ σ) (BJ μ ρ):=by
 refine⟨E.sub,E.C8,λ j d h=>?_,λ j ds h io=>?_,λ j k c c' v v' fp ag h _ _ _ ho _ _=>?_,by unfold EJ BJ;simp,λ j c n h hp=>by obtain⟨i,d',h1,h2,h3⟩:=Hu h;subst h3;cases hp⟩
 ·obtain⟨i,d',h1,h2,h3⟩:=Hu h;cases h3;obtain⟨v,h4,h5⟩:=E.val i d h2;refine⟨v,?_,h5⟩;unfold EJ;rw[z7,h1];simp[h4]
 ·obtain⟨i,d',h1,h2,h3⟩:=Hu h;cases h3;cases io
 ·obtain⟨i,d',h1,h2,h3⟩:=Hu h;cases h3;exact ho.elim
abbrev Bv (gt:D->Ad->M Ad)(ft:Ad->M Bool)(fe:Ad->M D):List D->Ad->M (List D)
 |[],_=>.ok []
 |d::r,ρ=>match gt d ρ with
  | .ok ρ1=>(match ft ρ1 with
   | .ok k=>if k=true then (match fe ρ1 with
    | .ok y=>(match Bv gt ft fe r ρ with | .ok ys=>.ok (y::ys)|_=>.bad)
    |_=>.bad) else Bv gt ft fe r ρ
   |_=>.bad)
  |_=>.bad
abbrev sI (X:Cx)(scope:Scope)(NB:List Str)(μ:List (Option Nat))(tg:Expr)(gt:D->Ad->M Ad):Prop:=
 ∃g:TG,(∀s H C ex,PG (blockOf X s H scope C NB ex) tg g)/\Kv μ g/\∀P0 P σ H Q ρ v d,An X.K P0 P H σ ρ->BX X.K (del H P) v d->gG X.K P0 P H Q (gt d ρ)->g v σ H Q
def Bw {scope:Scope}{NB:List Str}{μ:List (Option Nat)}(i:Nat){x:Str}(hN:NB.Nodup)(hi:NB[i]?=some x)(hx:(relabel scope X.env).names.lookup x=some .local)(hm:μ[i]?=some none):sI X scope NB μ (.Name x pos) (λ d ρ=>.ok (ρ.set i (some (.val d)))):=
 ⟨OD i,λ s H C ex=>PZ (X:=blockOf X s H scope C NB ex) hN hi (.inl hx) (.inr hx),fB hm,λ P0 P σ H Q ρ v d E hv h=>h _ (E.WE hv)⟩
abbrev sJ (X:Cx)(cs:List Expr)(f:Ad->M Bool):Prop:=
 ∃t,pQ X cs t/\∀P0 P σ H Q ρ,An X.K P0 P H σ ρ->gT (λ _ _=>False) H Q (f ρ)->t σ H Q
def Dk:sJ X [] (λ _=>.ok true):=⟨_,eZ,λ P0 P σ H Q ρ E h=>h H (Ae.refl H)⟩
def ED (h:DT X (λ _ _=>False) a ft):sJ X [a] ft:=let ⟨t,h1,h2⟩:=h;⟨_,fA h1,h2⟩
abbrev Jf (m:M (List D)):M D:=match m with | .ok ys=>.ok (.lst ys) | _=>.bad
def nG {μ:List (Option Nat)}{wi:TI}{gg:TG}{tc:Shared->Hp->Addr->List Addr->TT}{te:Shared->Hp->Addr->List Addr->TE}{fe:Ad->M D}
 (i2:∀P0 P σ H R ρ,An X.K P0 P H σ ρ->(match fi ρ with | .ok ds=>∀J H',Ae H H'->fH X.K J P H' ds->R J H' | .ex x=>∀H',Ae H H'->WX x H' | .bad=>False)->wi σ H R)
 (g2:∀P0 P σ H Q ρ v d,An X.K P0 P H σ ρ->BX X.K (del H P) v d->gG X.K P0 P H Q (gt d ρ)->gg v σ H Q)
 (t2:∀s H' C ex P0 P σ H Q ρ,An X.K P0 P H σ ρ->gT (λ _ _=>False) H Q (ft ρ)->tc s H' C ex σ H Q)
 (e2:∀s H' C ex P0 P σ H Q ρ,An X.K P0 P H σ ρ->gV X.K (λ _ _=>False) (Lv c P0 P) H Q (fe ρ)->te s H' C ex σ H Q) {Q:VK}
 (E:An X.K P0 P H σ ρ) (h:gV X.K WX (Lv c P0 P) H Q ((fi ρ).bind λ ds=>if ds.length<=1000 then Jf (Bv gt ft fe ds (BJ μ ρ)) else .bad)):Vb wi μ gg tc te σ H Q:=by
 refine i2 P0 P σ H _ ρ E ?_;cases q:fi ρ with
 |bad|ex x=>rw[q] at h;exact h
 |ok ds =>
  rw[q] at h;simp only[M.A9] at h;by_cases hd:¬ ds.length<=1000
  ·rw[if_neg hd] at h;exact h.elim
  have hd:ds.length<=1000:=by omega
  rw[if_pos hd] at h;intro J H1 s1 ok s C ex;cases qc:Bv gt ft fe ds (BJ μ ρ) with
  |bad|ex x=>rw[qc] at h;exact h.elim
  |ok total =>
   rw[qc] at h;unfold Jf at h;dsimp only at h;have E1:=E.same s1;refine⟨λ i m ys H2=>m=ds.length-i/\i<=ds.length/\ys.length<=i/\Ae H1 H2/\∃es rest,Ag X.K (del H2 (Lv c P0 P)) ys es/\Bv gt ft fe (ds.drop i) (BJ μ ρ)=.ok rest/\es++rest=total,
    ⟨ds.length,by simp,zR _,zu _,Ae.refl _,[],total,.nil,by rw[List.drop_zero];exact qc,rfl⟩,?_⟩
   rintro i m ys H2 ⟨rfl,hi,hy,s2,es,rest,ff,aj,aR⟩;by_cases af:i<ds.length
   ·refine .inr ⟨ok.go i P H2 s2.del af,Nat.lt_of_le_of_lt hy (AD (by omega)),λ bn H'=>i+1<=ds.length/\bn.length<=i+1/\Ae H1 H'/\∃es rest,Ag X.K (del H' (Lv c P0 P)) bn es/\Bv gt ft fe (ds.drop (i+1)) (BJ μ ρ)=.ok rest/\es++rest=total,λ bn H' hq=>⟨ds.length-(i+1),by omega,rfl,hq.1,hq.2.1,hq.2.2.1,hq.2.2.2⟩,λ v H3 y=>?_⟩;have E2:=E1.same s2;obtain⟨s3,hv⟩:=ok.jQ i P H2 v H3 ds[i] s2.del E2.C8 (zi af) y;rw[Je af,Bv] at aj;have E3:=(E2.same s3).block μ;refine g2 P0 P _ H3 _ (BJ μ ρ) v ds[i] E3 hv ?_;cases q1:gt ds[i] (BJ μ ρ) with
    |bad|ex x=>rw[q1] at aj;cases aj
    |ok ρ1 =>
     rw[q1] at aj;dsimp only at aj;intro σ4 E4;refine t2 s H1 C ex P0 P σ4 H3 _ ρ1 E4 ?_;cases q2:ft ρ1 with
     |bad|ex x=>rw[q2] at aj;cases aj
     |ok k =>
      rw[q2] at aj;dsimp only at aj;intro H5 s5;cases k with
      |false =>
       simp only[zG,if_false] at aj ⊢;exact⟨af,by omega,(s2.trans s3).trans s5,es,rest,(ff.mono s3.del).mono s5.del,aj,aR⟩
      |true =>
       simp only[if_true] at aj ⊢;refine e2 s H1 C ex P0 P σ4 H5 _ ρ1 (E4.same s5) ?_;cases q3:fe ρ1 with
       |bad|ex x=>rw[q3] at aj;cases aj
       |ok y' =>
        rw[q3] at aj;dsimp only at aj;cases q4:Bv gt ft fe (ds.drop (i+1)) (BJ μ ρ) with
        |bad|ex x=>rw[q4] at aj;cases aj
        |ok nv =>
         rw[q4] at aj;cases aj;intro w H6 s6 hw;refine⟨af,by rw[zA,yP];omega,((s2.trans s3).trans s5).trans s6,es++[y'],nv,(((ff.mono s3.del).mono s5.del).mono s6.del).snoc hw,rfl,?_⟩;rw[zO];exact aR
   ·have e:i=ds.length:=by omega
    subst e;rw[List.drop_length,Bv] at aj;cases aj;rw[zI] at aR;subst aR;refine .inl ⟨ok.stop _ P H2 s2.del (zu _),λ D0 hn=>h _ _ ((s1.trans s2).trans (AQ hn _)) (.lst (.of (J8 hn λ a q=>(E1.same s2).rW c a q)) (ff.mono (AQ hn _).del))⟩
def Jg {scope:Scope}{NB:List Str}{ifs:List Expr}{elt:Expr}{fe:Ad->M D}(i:Nat){x:Str}{px al:Pos}(μ:List (Option Nat))(hN:X.N.Nodup)(i6:X.N[i]?=some x)(hx:Loc X.env.scope x)(hc:X.calm=true)(hi:DI X WX tg iter fi)(a7:Gp scope X.env.scope=true)(bw:Qb X.N NB scope μ=true)(hg:sI X scope NB μ tg gt)(ht:∀s H C ex,sJ (blockOf X s H scope C NB ex) ifs ft)(he:∀s H C ex,DE (blockOf X s H scope C NB ex) (λ _ _=>False) true elt fe)(ba: ~~~(swapsWith (.ListComp elt [⟨tg,iter,ifs,0⟩] scope pos) (some (.Name x px)) al.line X.env=pure true))(hs:∀x,foldedSetIterable iter X.env x=pure x:=by intro _;rfl)(hf:X.fn x=true\/X.env.scope.names.lookup x=some .local:=by first|exact .inl rfl|exact .inr rfl|assumption):
 DS X WX (.Assign [.Name x px] (.ListComp elt [⟨tg,iter,ifs,0⟩] scope pos) al) (λ ρ=>((fi ρ).bind λ ds=>if ds.length<=1000 then Jf (Bv gt ft fe ds (BJ μ ρ)) else .bad).bind λ d=>.ok (.next (ρ.set i (some (.val d))))):=by
 obtain⟨wi,i1,i2⟩:=hi;obtain⟨gg,g1,gk,g2⟩:=hg;refine⟨_,Vc hN i6 hx hc i1 a7 bw gk (λ s H C ex=>⟨g1 s H C ex,(zb (ht s H C ex)).1,(zb (he s H C ex)).1⟩) ba hs hf,λ P0 P σ H Z ρ E h=>?_⟩;refine nG (c:=true) i2 g2 (λ s H' C ex P0 P σ H Q ρ E h=>(zb (ht s H' C ex)).2 P0 P σ H Q ρ E h) (λ s H' C ex P0 P σ H Q ρ E h=>(zb (he s H' C ex)).2 P0 P σ H Q ρ E h) E ?_;dsimp only at h;revert h;cases ((fi ρ).bind λ ds=>if ds.length<=1000 then Jf (Bv gt ft fe ds (BJ μ ρ)) else .bad) with
 |bad=>exact λ h=>h
 |ex y=>exact λ h H' s=>h H' P (E.tr s)
 |ok d=>exact λ h v H' s hv=>h _ H' P (E.tr s) ((E.same s).WE hv)
end
section
variable {X:Cx}{WX:Str->Hp->Prop}{c:Bool}{P0:E8}{P:Addr->Prop}{H:Hp}{σ:St}{ρ:Ad}{a b e k:Expr}{f g:Ad->M D}{te tk:TE}{pos p2:Pos}
abbrev xX (x y:D):M D:=match x,y with | .lst ds,.int i=>if i = -1 then .ok (.lst ds.reverse) else .bad | _,_=>.bad
abbrev CT:List D->Option (List Int)
 |[]=>some []
 | .int i::r=>(CT r).map (i::·)
 |_=>none
abbrev YN:D->Option (List Int)
 | .tup ds=>CT ds
 |_=>none
abbrev Gu:List D->Option (List (D×List Int))
 |[]=>some []
 |d::r=>(YN d).bind λ k=>(Gu r).map ((d,k)::·)
abbrev Vn (l d:D):M D:=match l with
 | .lst ds=>(match Gu ds with|some ks=>.ok (match Ba ks with|none=>d|some b=>b.1)|none=>.bad)
 |_=>.bad
def KD {K:za}{H:Hp}:∀ {xs:List V}{ds:List D}{ns:List Int},Ag K H xs ds->CT ds=some ns->xs=ns.map V.int
 |_,_,_,.nil,e=>by simp only[CT] at e;cases e;rfl
 |_,_,_,.cons (d:=d) h t,e=>by
  cases d with
  |int i =>
   simp only[CT] at e;cases q:CT _ with
   |none=>rw[q] at e;cases e
   |some ns =>
    rw[q] at e;cases e;rw[h.int_inv,KD t q];rfl
  |_=>simp[CT] at e
noncomputable abbrev Alike (K:za)(H:Hp):List (Addr×List Int)->List (D×List Int)->Prop:=Paired λ p q=>p.2=q.2/\BX K H (.ref p.1) q.1
def IA {K:za}{H:Hp}:∀ {xs:List V}{ds:List D}{ks:List (D×List Int)},Ag K H xs ds->Gu ds=some ks->∃bs:List (Addr×List Int),xs=bs.map (λ b=>V.ref b.1)/\(∀b∈bs,Fe K H b.1 (b.2.map V.int))/\Alike K H bs ks
 |_,_,_,.nil,e=>by simp only[Gu] at e;cases e;exact⟨[],rfl,by simp,.nil⟩
 |_,_,_,.cons (d:=d) h t,e=>by
  simp only[Gu] at e;cases q:YN d with
  |none=>rw[q] at e;cases e
  |some k =>
   rw[q] at e;simp only[Option.bind_some] at e;cases q2:Gu _ with
   |none=>rw[q2] at e;cases e
   |some ks =>
    rw[q2] at e;cases e;obtain⟨bs,h1,h2,h3⟩:=IA t q2;cases d with
    |tup es =>
     have h':=h;cases h with
     | @tup a xs _ hs hl =>
      simp only[YN] at q;have e1:=KD hl q;subst e1;refine⟨(a,k)::bs,by rw[h1];rfl,λ b hb=>?_,.cons ⟨rfl,h'⟩ h3⟩;rcases zp.mp hb with z|z
      ·subst z;exact Fe.of hs
      ·exact h2 b z
    |_=>simp[YN] at q
def MQ {K:za}{H:Hp}{bs:List (Addr×List Int)}{ks:List (D×List Int)}(h:Alike K H bs ks):(Ba bs=none/\Ba ks=none)\/∃b k,Ba bs=some b/\Ba ks=some k/\b.2=k.2/\BX K H (.ref b.1) k.1:=by
 unfold Ba
 suffices z:∀(o:Option (Addr×List Int)) (o':Option (D×List Int)),((o=none/\o'=none)\/∃b k,o=some b/\o'=some k/\b.2=k.2/\BX K H (.ref b.1) k.1)->
  ((bs.foldl BU o=none/\ks.foldl BU o'=none) \/
   ∃b k,bs.foldl BU o=some b/\ks.foldl BU o'=some k/\b.2=k.2/\BX K H (.ref b.1) k.1) from z none none (.inl ⟨rfl,rfl⟩)
 induction h with
 |nil=>intro o o' h;exact h
 | @cons b k bs ks hh t ih =>
  intro o o' h;rw[zB,zB];refine ih _ _ ?_;rcases h with ⟨rfl,rfl⟩|⟨b',k',rfl,rfl,e1,e2⟩
  ·exact .inr ⟨b,k,rfl,rfl,hh⟩
  ·unfold BU;dsimp only;rw[hh.1,e1];by_cases hl:HT.lexLt k.2 k'.2=true
   ·rw[if_pos hl,if_pos hl];exact .inr ⟨b,k,rfl,rfl,hh⟩
   ·rw[if_neg hl,if_neg hl];exact .inr ⟨b',k',rfl,rfl,e1,e2⟩
def Vo {p kp:Pos}{e2:Expr}(hc:X.calm=true)(hu:X.A.units+1<cLine)(hg:Gl X "min")(hm:X.mg "min" = none)(ha:DE X WX c e f)(hb:DE X WX c e2 g)(aJ: ~~~(starEach [e] X.env=[(false,eval e X.env)]))(a6: ~~~((backToKw pos (keywordEach [⟨some "default",e2,kp⟩] X.env)).all (·.1.isSome)=true))(nk: ~~~((backToKw pos (keywordEach [⟨some "default",e2,kp⟩] X.env)).filterMap (·.1)=([("default" : Str)]:List Str)))(np: ~~~((backToKw pos (keywordEach [⟨some "default",e2,kp⟩] X.env)).any (·.1.isNone)=false))(be: ~~~(backTo pos (starEach [e] X.env)=(false,eval e X.env)::backTo pos (starEach [] X.env)))(ao: ~~~((backTo pos (starEach [e] X.env)).any (·.1)=false)):
 DE X WX c (.Call (.Name "min" p) [e] [⟨some "default",e2,kp⟩] pos) (λ ρ=>(f ρ).bind λ x=>(g ρ).bind λ y=>Vn x y):=by
 obtain⟨ta,a1,a2⟩:=ha;obtain⟨tb,b1,b2⟩:=hb;refine⟨_,fE hc hu hg hm a1 b1 aJ a6 nk np be ao,λ P0 P σ H Q ρ E h=>RT (r:=λ x d H2 Q=>∃(a:Addr) (bs:List (Addr×List Int)),x=.ref a/\Di X.K H2 a (bs.map λ b=>V.ref b.1)/\(∀b∈bs,Fe X.K H2 b.1 (b.2.map V.int))/\Q (match Ba bs with|none=>d|some b=>.ref b.1) H2) a2 b2 ?_ E h⟩;intro P H x y v w Q ht hx hy h;unfold Vn at h;split at h
 ·rename_i ds;split at h
  ·rename_i ks e1;cases hx with
   | @lst a xs _ hs hl =>
    obtain⟨bs,rfl,h2,h3⟩:=IA hl e1;refine⟨a,bs,rfl,hs.B7,λ b hb=>(h2 b hb).B7,?_⟩;rcases MQ h3 with ⟨q1,q2⟩|⟨b,k,q1,q2,_,q3⟩
    ·rw[q1];rw[q2] at h;exact h _ H (Ae.refl H) hy
    ·rw[q1];rw[q2] at h;exact h _ H (Ae.refl H) q3
  ·exact h.elim
 ·exact h.elim
end
def AO {A:Around}{k:Nat}(hr:BE k A)(n:Nat)(hn:n<=64):A.units+n<cLine:=by have:=hr.units;omega
structure AI (K:za)(mg:Str->Option Value)(x:Str)(st:Stmt)(ps:List Str):Prop where
 ex:∃f fd,XN K x x st f fd/\mg x=some (.ref f)/\Binds K fd ps []
abbrev Ua (P:Program)(w:World)(base:Heap):V0:=λ _ _ _ _ _ _=>False
noncomputable abbrev jZ (P:Program)(w:World)(K:za)(mg:Str->Option Value)(base:Heap)(N:List Str)(qual:Str)(scope:Scope)(f:Addr)(cd:Value)(A:Around)(outer:List Env)(s:Shared)(H:Hp)(E:XK):Cx:=
 RC (Ua P w base) P w K mg base N qual scope f cd A outer s H E
structure FU (X:Cx)(E:XK):Prop where
 call:Gk (Ua X.prog X.w X.base) X E
 own:PassesOwn (model X.prog X.w) X.A X.env X.xe
def A7 {P:Program}{w:World}{K:za}{mg:Str->Option Value}{base:Heap}{N:List Str}{qual:Str}{scope:Scope}{f:Addr}{cd:Value}{A:Around}{outer:List Env}{s:Shared}{H:Hp}{E:XK}:
 FU (jZ P w K mg base N qual scope f cd A outer s H E) E:=⟨λ _ _ _ _ _ _ _ h=>h.elim,PassesOwn.leaving⟩
def Bs {X:Cx}(h:X.xe=λ _ _=>False):FU X E0:=⟨λ _ _ _ _ _ _ _ h=>h.elim,by rw[h];exact PassesOwn.never⟩
def FU.toXCall {X:Cx}{E:XK}(h:FU X E):FU X E:=h
abbrev D2 (K:za)(E:XK):Str->Hp->Prop:=λ x H=>∃c,zH K mainGlobals x=some (some (.ref c))/\E (.ref c) none H
section
variable {X:Cx}{WX:Str->Hp->Prop}{c:Bool}{a b e:Expr}{f g:Ad->M D}{pos p:Pos}
abbrev kA (K:za):R2:=λ x y H Q=>∃l b xs zs,x=.ref l/\y=.ref b/\Di K H l xs/\Di K H b zs/\xs.length+zs.length<=sizeLine/\∀p,H p=none->Q (.ref p) (upd H p (.lst (xs++zs)))
def fJ:Gi X (binaryOp .Add) (kA X.K):=by
 intro pins s σ H x y v u Q I rx ry h;obtain⟨l,b,xs,zs,rfl,rfl,h1,h2,hz,q⟩:=h;cases rx;cases ry;obtain⟨ac,r,⟨⟨c1,d1,t1,u7⟩,n,e1,q1,q2,q3⟩,bo⟩:=I.list h1;obtain⟨aK,r2,⟨⟨c2,d2,t2,iq⟩,n2,e2,q4,q5,q6⟩,ny⟩:=I.list h2;dsimp only at q1 q2 q3 q4 q5 q6;subst q1 q2 q3 q4 q5 q6;have l1:=r.length;have l2:=r2.length;refine concat_meets ⟨_,e1,rfl⟩ ⟨_,e2,rfl⟩ noFill_list_add seq_list_add PySem.F.slot_list_add PySem.F.entry_list_add (PySem.F.args_list_add_2 _ _) (list_addW l b ac.toArray aK.toArray n n2 none none u7 iq (by rw[zm,zm];omega)) ⟨e1,e2,?_⟩;rw[show ac.toArray++aK.toArray=(ac++aK).toArray by simp];exact⟨.ref _,_,I.rK (t':=s.toks) (r.append r2) (by rw[zA];omega),rfl,q _ I.fresh⟩
abbrev wX (x y:D):M D:=match x,y with
 | .int i,.int j=>.ok (.int (i+j))
 | .lst ds,.lst es=>if ds.length+es.length<=1000 then .ok (.lst (ds++es)) else .bad
 |_,_=>.bad
def Ag.wY {K:za}{H:Hp}:∀ {xs ys:List V}{ds es:List D},Ag K H xs ds->Ag K H ys es->Ag K H (xs++ys) (ds++es)
 |_,_,_,_,.nil,h=>h
 |_,_,_,_,.cons a t,h=>.cons a (t.wY h)
abbrev uD (neg:Bool)(x y:D):M D:=match x,y with
 | .int i,.lst ds=>(match CT ds with|some ns=>.ok (.bl (if neg then !ns.contains i else ns.contains i))|none=>.bad)
 |_,_=>.bad
def YO (i:Int)(ns:List Int):tY (.int i) (ns.map V.int)=ns.contains i:=by
 unfold tY;induction ns with
 |nil=>rfl
 |cons n r ih =>
  rw[zf,zab,ih,List.contains_cons];congr 1;show (n==i)=(i==n);rw[zap,beq_iff_eq,beq_iff_eq];exact eq_comm
def WI (ns:List Int):(ns.map V.int).all J2=true:=by
 induction ns with
 |nil=>rfl
 |cons n r ih=>rw[zf,List.all_cons,ih];rfl
def Gv {neg:Bool}:Vj X.K WX (tZ X.K neg) (uD neg):=by
 intro P H x y v w Q ht hx hy h;unfold uD at h;split at h
 ·rename_i i ds;split at h
  ·rename_i ns hn;cases hx;cases hy with
   |lst h1 h2 =>
    have e:=KD h2 hn;subst e;refine⟨_,_,rfl,.inl h1.B7,rfl,WI ns,?_⟩;rw[YO];exact h _ H (Ae.refl H) (.bl _)
  ·exact h.elim
 ·exact h.elim
end
section
variable {X:Cx}{WX:Str->Hp->Prop}
def Ub {st:Stmt}:DS X WX st (λ _=>.bad):=⟨λ _ _ _=>False,λ _ _ _ _ _ _ h=>h.elim,λ _ _ _ _ _ _ _ h=>h.elim⟩
end
abbrev RW (i j:Int):Prop:=(i.natAbs<2^1000/\j.natAbs<2^1000)\/Yb i j
instance (i j:Int):Decidable (RW i j):=by unfold RW;infer_instance
def OW {i:Int}(h:i.natAbs<2^1000):zP i<=2^20:=by
 unfold zP;split
 ·exact zR _
 ·rename_i z;have h0:i.natAbs≠0:=λ q=>z (by rw[Int.natAbs_eq_zero.mp q];rfl);have:=(Nat.log2_lt h0).mpr h;have h3:(1000:Nat)<=2^20:=by decide
  exact yJ this h3
def RW.ok {i j:Int}(h:RW i j):IntMulOk i j:=by
 rcases h with ⟨h1,h2⟩|h
 ·exact IntMulOk.of_bits (OW h1) (OW h2)
 ·exact h.ok
def Fo (n:Nat):C2 0 n=(zw n).map λ i:Nat=>D.int (i:Int):=by
 apply List.ext_getElem?;intro i;rw[z7];by_cases h:i<n
 ·have hi:i<(C2 0 n).length:=by rw[Bd];exact h
  have e:=zi hi;obtain⟨h1,_⟩:=Be e;rw[e,h1,List.getElem?_range h,zah];rfl
 ·rw[List.getElem?_eq_none (by rw[Bd];omega),List.getElem?_eq_none (by simp;omega)];rfl
def EZ (ns:List Int):CT (ns.map D.int)=some ns:=by
 induction ns with
 |nil=>rfl
 |cons n r ih=>rw[zf,CT,ih];rfl
def YQ (ds:List D)(n:Nat):pR (some (n:Int)) none (.lst ds)=.ok (.lst (ds.drop n)):=by
 unfold pR;dsimp only;rw[HT.Yl,HT.Q3];congr 2;by_cases h:n<=ds.length
 ·rw[Nat.min_eq_left h,zaw (by rw[zb9];exact zu _)]
 ·rw[Nat.min_eq_right (by omega),List.drop_of_length_le (zu _),List.drop_of_length_le (by omega),List.take_nil]
abbrev Pl (n:Nat)(d:D):Prop:=Qe d<=n/\Cu d=true
def Qj {n:Nat}:∀ {ds:List D},(∀d∈ds,Qe d<=n)->Qf ds<=n
 |[],_=>by rw[Qf];exact zR _
 |d::r,h=>by
  rw[Qf];exact Nat.max_le.mpr ⟨h d zd,Qj λ d hd=>h d (ze _ hd)⟩
def Qk:∀ {ds:List D},(∀d∈ds,Cu d=true)->Kx ds=true
 |[],_=>by rw[Kx]
 |d::r,h=>by
  rw[Kx,h d zd,Qk λ d hd=>h d (ze _ hd)];rfl
def Gw {n:Nat}(i:Int):Pl n (.int i):=⟨by rw[Qe];exact zR _;all_goals simp,by rw[Cu];all_goals simp⟩
def nI {n:Nat}:Pl n .AK:=⟨by rw[Qe];exact zR _;all_goals simp,by rw[Cu];all_goals simp⟩
def YR {n:Nat}{ds:List D}(h:∀d∈ds,Pl n d):Pl (n+1) (.tup ds):=
 ⟨by rw[Qe];exact Nat.succ_le_succ (Qj λ d hd=>(h d hd).1),by rw[Cu];exact Qk λ d hd=>(h d hd).2⟩
def nJ {n:Nat}{ds:List D}(h:∀d∈ds,Pl n d):Pl (n+1) (.lst ds):=
 ⟨by rw[Qe];exact Nat.succ_le_succ (Qj λ d hd=>(h d hd).1),by rw[Cu];exact Qk λ d hd=>(h d hd).2⟩
def Vp {n:Nat}(ns:List Int):Pl (n+1) (.lst (ns.map D.int)):=nJ λ d hd=>by
 obtain⟨i,_,rfl⟩:=zC.mp hd;exact Gw i
def Pl.le {n m:Nat}{d:D}(h:Pl n d)(k:n<=m):Pl m d:=⟨yJ h.1 k,h.2⟩
def YS {n:Nat}:∀d∈([]:List D),Pl n d:=λ d h=>by cases h
def LX {n:Nat}{d:D}{ds:List D}(h:Pl n d)(t:∀d∈ds,Pl n d):∀e∈d::ds,Pl n e:=λ e he=>by
 rcases zp.mp he with rfl|he
 ·exact h
 ·exact t e he
def Uc {n:Nat}{x y:D}(h:Pl n x)(k:Pl n y):YE n x y=.ok (.bl (Bl x y)):=by
 unfold YE;rw[if_pos ⟨h.1,h.2,k.2⟩]
def Ud {n:Nat}{x y:D}(h:Pl n x)(k:Pl n y):dG n x y=.ok (.bl (!Bl x y)):=by
 unfold dG;rw[if_pos ⟨h.1,h.2,k.2⟩]
def YT {n:Nat}{x:D}(h:Pl n x):dG n x x=.ok (.bl false):=by rw[Ud h h,RP];rfl
def fK (ds:List D)(a b:Nat):pR (some (a:Int)) (some (b:Int)) (.lst ds)=.ok (.lst ((ds.drop a).take (b-a))):=by
 unfold pR;dsimp only;rw[HT.Q3,HT.Q3];congr 2;by_cases h:a<=ds.length
 ·rw[Nat.min_eq_left h];by_cases h2:b<=ds.length
  ·rw[Nat.min_eq_left h2]
  ·rw[Nat.min_eq_right (by omega),zaw (by rw[zb9];exact zu _),zaw (by rw[zb9];omega)]
 ·rw[Nat.min_eq_right (show ds.length<=a by omega),List.drop_of_length_le (zu _),List.drop_of_length_le (show ds.length<=a by omega),List.take_nil,List.take_nil]
section
variable {X:Cx}{WX:Str->Hp->Prop}{c:Bool}{P0:E8}{P:Addr->Prop}{H:Hp}{σ:St}{ρ:Ad}{a b e:Expr}{f g:Ad->M D}{ft gt:Ad->M Bool}{pos:Pos}{st:Stmt}{rest:List Stmt}{g1 g2:Ad->M Out}
def RX {K:za}{H:Hp}{v:V}{d:D}(h:BX K H v d):∀n:Nat,Ag K H (zr n v) (zr n d)
 |0=>.nil
 |n+1=>by rw[za5,za5];exact .cons h (RX h n)
def MR {K:za}{H:Hp}{v:V}{d:D}(h:BX K H v d):∀ {vs:List V}{ds:List D}(n:Nat),Ag K H vs ds->Ag K H (vs.set n v) (ds.set n d)
 |_,_,_,.nil=>.nil
 |_,_,0,.cons _ t=>.cons h t
 |_,_,n+1,.cons a t=>.cons a (MR h n t)
abbrev xY (i:Nat)(ρ:Ad)(d k:D):M Out:=match k with
 | .int j=>if 0<=j/\j.toNat<=1000 then .ok (.next (ρ.set i (some (.own (zr j.toNat d))))) else .bad
 |_=>.bad
def OX {α:Type}(v:α):∀n:Nat,(zr n [v]).flatten=zr n v
 |0=>rfl
 |n+1=>by rw[za5,List.flatten_cons,OX v n];rfl
abbrev nK (i:Nat)(ρ:Ad)(ds:List D)(d k:D):M Out:=match k with
 | .int j=>(match NZ ds.length j with|some n=>.ok (.next (ρ.set i (some (.own (ds.set n d)))))|none=>.bad)
 |_=>.bad
abbrev fL (i:Nat)(ρ:Ad)(m:M D)(d:D):M Out:=match ρ[i]? with
 |some (some (.own ds))=>m.bind (nK i ρ ds d)
 |_=>.bad
def MS (i:Nat){x:Str}{p1 al:Pos}(hv:PE X (.Name x p1) (LK i))(ha:DE X WX true a f)(hk:DE X WX true b g)(hs: ~~~(swapsWithSole [.Subscript (.Name x p1) b al] a pos.line X.env=pure false))(hw: ~~~(swappedStores [.Subscript (.Name x p1) b al] a X.env=pure none))(h1: ~~~((assignEach [.Subscript (.Name x p1) b al] X.env).map (·.2)=[assign (.Subscript (.Name x p1) b al) X.env]))(fg:∀v,assign (.Subscript (.Name x p1) b al) X.env v=(do
  let ov <-holding [v] (eval (.Name x p1) X.env);let iv <-holding [v,ov] (eval b X.env)
  standAt al
  holding [v,ov,iv] (setItem ov iv v)
  release [v,ov,iv] []):=by intro _;rfl):
 DS X WX (.Assign [.Subscript (.Name x p1) b al] a pos) (λ ρ=>(f ρ).bind (fL i ρ (g ρ))):=by
 obtain⟨ta,a1,a2⟩:=ha;obtain⟨tb,b1,b2⟩:=hk;refine⟨_,Y3 a1 (Y2 hv b1 set_list fg) hs hw h1,λ P0 P σ H Z ρ E h=>?_⟩;dsimp only at h;refine a2 P0 P σ H _ ρ E ?_;refine dI h E λ d h=>?_;intro v H1 s1 hv;have E1:=E.same s1;unfold fL at h;split at h
 ·rename_i ds e1;obtain⟨p,xs,h1,h2,h3,h4,h5⟩:=E1.own i ds e1;refine⟨_,h1,b2 P0 P σ H1 _ ρ E1 ?_⟩;cases q2:g ρ with
  |bad=>rw[q2] at h;exact h.elim
  |ex x=>rw[q2] at h;exact λ H' s2=>h H' P ((E.tr s1).trans (E1.tr s2))
  |ok k =>
   rw[q2] at h;simp only[M.A9] at h;unfold nK at h;intro w H2 s2 hw;split at h
   ·rename_i j;cases hw;split at h
    ·rename_i n en;have E2:=E1.same s2;refine⟨p,xs,j,n,rfl,rfl,s2 _ _ h2,by rw[h5.length];exact en,?_⟩;obtain⟨E3,t3⟩:=E2.mut e1 h1 h3 h4 (MR (hv.mono s2.del) n (h5.mono s2.del));exact h _ _ _ ((E.tr s1).trans ((E1.tr s2).trans t3)) E3
    ·exact h.elim
   ·exact h.elim
 ·exact h.elim
abbrev Aw (c:Ad->M Bool)(b:Ad->M Out):Nat->Ad->M Out
 |0,_=>.bad
 |n+1,ρ=>match c ρ with
  | .ok true=>(match b ρ with
   | .ok (.next ρ')| .ok (.cont ρ')=>Aw c b n ρ'
   | .ok (.brk ρ')=>.ok (.next ρ')
   |r=>r)
  | .ok false=>.ok (.next ρ)
  | .ex x=>.ex x
  | .bad=>.bad
abbrev Lf (c:Ad->M Bool)(b:Ad->M Out)(ρ:Ad):M Out:=
 @dite _ (∃n,Aw c b n ρ≠.bad) (zbd _) (λ h=>Aw c b (zh h) ρ) (λ _=>.bad)
def CL {c:Ad->M Bool}{b:Ad->M Out}:∀ {n:Nat}{ρ:Ad},Aw c b n ρ≠.bad->∀m,Aw c b (n+m) ρ=Aw c b n ρ
 |0,ρ,h,m=>(h rfl).elim
 |n+1,ρ,h,m=>by
  rw[show n+1+m=(n+m)+1 by omega];rw[Aw] at h;rw[Aw,Aw];cases q:c ρ with
  |bad|ex x=>rfl
  |ok k =>
   rw[q] at h;cases k with
   |false=>rfl
   |true =>
    dsimp only at h ⊢;cases q2:b ρ with
    |bad|ex x=>rfl
    |ok o =>
     rw[q2] at h;cases o with
     |next ρ'=>dsimp only at h ⊢;exact CL h m
     |cont ρ'=>dsimp only at h ⊢;exact CL h m
     |brk ρ'=>rfl
     |ret d|CQ d|EY d ρ2=>rfl
def YU {c:Ad->M Bool}{b:Ad->M Out}{n:Nat}{ρ:Ad}(h:Aw c b n ρ≠.bad):Lf c b ρ=Aw c b n ρ:=by
 unfold Lf;have hx:∃n,Aw c b n ρ≠.bad:=⟨n,h⟩;rw[dif_pos hx];have hc:=zb hx;have e1:=CL h (zh hx);have e2:=CL hc n;rw[Nat.add_comm] at e2;rw[<-e1,e2]
def WJ {c:Ad->M Bool}{b:Ad->M Out}{ρ:Ad}(h:Lf c b ρ≠.bad):∃n,Aw c b n ρ≠.bad/\Lf c b ρ=Aw c b n ρ:=by
 by_cases hx:∃n,Aw c b n ρ≠.bad
 ·obtain⟨n,hn⟩:=hx;exact⟨n,hn,YU hn⟩
 ·exact (h (by unfold Lf;rw[dif_neg hx])).elim
def kB {K:za}{Z:Ends}{m:M Out}(h:gS K WX P0 P H Z m):m≠.bad:=λ e=>by rw[e] at h;exact h
def RY {body:List Stmt}(hp:PassesOwn (model X.prog X.w) X.A X.env X.xe)(hc:DT X WX a ft)(hb:Tu X WX body g1):DS X WX (.While a body [] pos) (Lf ft g1):=by
 obtain⟨tc,c1,c2⟩:=hc;obtain⟨tb,b1,b2⟩:=hb;refine⟨_,Y4 hp c1 b1,λ P0 P σ H Z ρ E h=>?_⟩;obtain⟨n,hn,en⟩:=WJ (kB h);rw[en] at h;refine⟨λ m σ' H'=>∃ρ' P',An X.K P0 P' H' σ' ρ'/\Tr P0 P H P' H'/\gS X.K WX P0 P' H' Z (Aw ft g1 m ρ'),⟨n,ρ,P,E,Tr.refl,h⟩,?_⟩;rintro m σ1 H1 ⟨ρ1,P1,E1,t1,h1⟩;cases m with
 |zero=>exact h1.elim
 |succ m =>
  rw[Aw] at h1;refine c2 P0 P1 σ1 H1 _ ρ1 E1 ?_;cases q:ft ρ1 with
  |bad=>rw[q] at h1;exact h1
  |ex x=>rw[q] at h1;exact λ H2 s2=>h1 H2 P1 (E1.tr s2)
  |ok k =>
   rw[q] at h1;intro H2 s2;have E2:=E1.same s2;cases k with
   |false =>
    rw[if_neg (by simp)];exact h1 σ1 H2 P1 (E1.tr s2) E2
   |true =>
    rw[if_pos rfl];dsimp only at h1;refine⟨λ σ' H'=>∃ρ' P',An X.K P0 P' H' σ' ρ'/\Tr P0 P H P' H'/\gS X.K WX P0 P' H' Z (Aw ft g1 m ρ'),λ σ' H' z=>⟨m,Nat.lt_succ_self m,z⟩,?_⟩;refine b2 P0 P1 σ1 H2 _ ρ1 E2 ?_;cases q2:g1 ρ1 with
    |bad=>rw[q2] at h1;exact h1
    |ex x=>rw[q2] at h1;exact λ H3 P3 t3=>h1 H3 P3 ((E1.tr s2).trans t3)
    |ok o =>
     rw[q2] at h1;have t2:=t1.trans (E1.tr s2);cases o with
     |next ρ'=>exact λ σ3 H3 P3 t3 E3=>⟨ρ',P3,E3,t2.trans t3,h1.tr ((E1.tr s2).trans t3)⟩
     |cont ρ'=>exact λ σ3 H3 P3 t3 E3=>⟨ρ',P3,E3,t2.trans t3,h1.tr ((E1.tr s2).trans t3)⟩
     |brk ρ'=>exact λ σ3 H3 P3 t3 E3=>h1 σ3 H3 P3 ((E1.tr s2).trans t3) E3
     |ret d=>exact λ v H3 P3 t3 hv=>h1 v H3 P3 ((E1.tr s2).trans t3) hv
     |CQ d=>exact λ v fp H3 P3 t3=>h1 v fp H3 P3 ((E1.tr s2).trans t3)
     |EY d ρ2=>exact λ v fp σ3 H3 P3 t3=>h1 v fp σ3 H3 P3 ((E1.tr s2).trans t3)
abbrev wZ (ds:List D):M D:=match ds with
 |[.int i]=>.ok (.int i)
 |[.bl b]=>.ok (.int (if b then 1 else 0))
 |_=>.bad
abbrev Gx:List D->Option (List Bool)
 |[]=>some []
 | .bl b::r=>(Gx r).map (b::·)
 |_=>none
def MT (bs:List Bool):Gx (bs.map D.bl)=some bs:=by
 induction bs with
 |nil=>rfl
 |cons b r ih=>rw[zf,Gx,ih];rfl
def IB:∀ {ds:List D}{bs:List Bool},Gx ds=some bs->ds=bs.map D.bl
 |[],bs,h=>by cases h;rfl
 | .bl b::r,bs,h=>by
  rw[Gx] at h;cases q:Gx r with
  |none=>rw[q] at h;cases h
  |some u8=>rw[q] at h;cases h;rw[IB q];rfl
 | .AK::r,bs,h| .int _::r,bs,h| .str _::r,bs,h| .tup _::r,bs,h| .lst _::r,bs,h| .EW _::r,bs,h| .Bq _ _ _::r,bs,h| .ins _ _ _::r,bs,h=>by cases h
def IC {K:za}{H:Hp}:∀ {vs:List V}{bs:List Bool},Ag K H vs (bs.map D.bl)->vs=bs.map V.bl
 |_,[],.nil=>rfl
 |_,b::r,.cons h t=>by cases h;rw[IC t];rfl
def ID:∀ {bs:List Bool}{us:List Value},Vals (bs.map V.bl) us->LSm.BoolsAre us bs
 |[],_,.nil=>.nil
 |b::r,_,.cons h t=>by cases h;exact .cons b (ID t)
def MU (hc:X.calm=true):Gj X (.builtin "all") (λ xs H Q=>∃p bs,xs=[.ref p]/\Di X.K H p (List.map V.bl bs)/\Q (.bl (bs.all id)) H):=by
 intro pins s σ H xs us Q I r h;obtain⟨p,bs,rfl,hq,q⟩:=h;obtain⟨u,rfl,rx⟩:=vals1 r;cases rx;obtain⟨ac,r',pl,hz⟩:=I.list hq;have hl:=pl.isList;have hb:=ID r';have af:p<s.heap.objs.size:=by obtain⟨_,e,_⟩:=hl;exact zt e
 refine call_all_walk (wpAny_pyIter_list hl ?_);refine⟨s.heap.objs.size,[s.heap.objs.size,p],[s.heap.objs.size],ac.toArray.size,_,_,λ i=>(bs[i]?).getD true,rfl,Walks.list (A:=X.A.in1) (I.ok.hd hc) _ p (z6 af) ac.toArray,
  ⟨⟨_,zE _ rfl,rfl,rfl⟩,hl.push _⟩,λ i v s' Q' E' hP hQ=>?_,λ h' tk hk=>?_⟩
 ·obtain⟨b,e,rfl⟩:=hb.get i v (by simpa using hP);simp only[e,Option.getD_some] at hQ;exact wpAny_truthy_bool hQ
 ·have e:((zw ac.toArray.size).all λ i=>(bs[i]?).getD true)=bs.all id:=by
   rw[zm,hb.length];exact LSm.range_all bs
  rw[e];exact⟨.bl _,H,I.kept (t':=tk) (LSm.kept_iter hk),rfl,q⟩
abbrev WK (ds:List D):M D:=match ds with
 |[.lst xs]=>(match Gx xs with|some bs=>.ok (.bl (bs.all id))|none=>.bad)
 |_=>.bad
def nL:Ld X.K WX (λ xs H Q=>∃p bs,xs=[.ref p]/\Di X.K H p (List.map V.bl bs)/\Q (.bl (bs.all id)) H) WK:=by
 intro P H ds vs Q ht hl h;unfold WK at h;split at h
 ·rename_i xs;obtain⟨v,rfl,hv⟩:=hl.one;split at h
  ·rename_i bs eb;have:=IB eb;subst this;cases hv with
   |lst hs hh =>
    have:=IC hh;subst this;exact⟨_,bs,rfl,hs.B7,h _ H (Ae.refl H) (.bl _)⟩
  ·exact h.elim
 ·exact h.elim
def YV {p:Pos}(hc:X.calm=true)(hg:Gl X "all")(hm:X.mg "all" = none)(ha:DE X WX c e f)(hb:bootBuiltins "all" = some (.builtin "all"):=by decide +kernel)(hs: ~~~(starEach [e] X.env=[(false,eval e X.env)])):DE X WX c (.Call (.Name "all" p) [e] [] pos) (λ ρ=>((f ρ).bind λ d=>(M.ok []).bind λ ds=>.ok (d::ds)).bind WK):=
 Jb (MU hc) nL hg hm hb (A2 ha A6 hs) (he:=hs)
end
abbrev Sm (n:Int):Prop:=zP n<=2^20
def YW:∀ {ns:List Int},W.WData.weightAll (ns.map W.WData.int)<=2^20->∀n∈ns,Sm n
 |m::r,h,n,hn=>by
  rw[zf,W.WData.weightAll,W.WData.weight] at h;rcases zp.mp hn with rfl|hn
  ·unfold Sm zP;omega
  ·exact YW (by omega) n hn
def sL {ns:List Int}(h:W.WData.layableAll [W.WData.list (ns.map W.WData.int)]=true):∀n∈ns,Sm n:=by
 unfold W.WData.layableAll at h;rw[List.all_cons,zF] at h;have h1:=h.1;unfold W.WData.layable at h1;rw[zF,decide_eq_true_eq,W.WData.weight] at h1;exact YW h1.2
end L2
namespace HT
open PySem PySem.W PyProof.Rows Spec Calls re
def OY {l:OpenLaw}{n:Nat}{q:Program}{loose:List Str}{XP:(Str->Option Value)->Heap->Prop}{YP:World->Heap->Prop}{d:DefRec}
 (hn:l.most=some n) (fj:d.params.defaults=[])
 (run:∀(w:World) (s₀ s₁:Shared) (mg mb:Str->Option Value) (fa:Addr) (o:Obj) (pm cd doc:Value) (a:Addr) (vs:List Value) (ns:List Int),(∀n∈ns,L2.Sm n)->
  Ground q loose [] XP w s₀ mg mb s₁.heap->YP w s₁.heap->s₁.heap.get? fa=some o->o.data=.func (docDef d.name d.params d.body d.scope pm cd doc)->s₁.heap.CodeRec cd d.name->mg d.name=some (.ref fa)->
  s₁.heap.get? a=some {cls:=.type "list",data:=.seq vs.toArray}->IntsAre vs ns->ns.length<=n->s₁.gens=#[]->
  codeAny (model l.prog w) callerA (.call (.ref fa) ⟨[.ref a],[]⟩) (λ r s'=>r=.ok (.ret (.bool true))/\OldK s₁.heap s'.heap/\s'.os=s₁.os/\AllBare s'.gens) s₁):
 WalkO q loose XP YP l.row.toRowW d [] (λ f vs=>PySem.call f vs):=by
 intro w s₀ s₁ mg mb G Y fa o pm cd doc dV kV ho hd aX hD fm hg args vals as cp nz ci mt g8;obtain rfl:dV=.none:=Dflts.none hD fj;obtain rfl:kV=.none:=Dflts.noKw hD;obtain⟨a,vs,ns,rfl,rfl,bV,bf,hlen⟩:=Wt hn cp mt;refine enter_call (codeAny_mono (run w s₀ s₁ mg mb fa o pm cd doc a vs ns (L2.sL nz) G Y ho (fd_plain hd) aX fm bV bf hlen hg) λ r s' hq=>?_);obtain⟨rfl,h2,h3,h4⟩:=hq;exact⟨.inl ⟨.bool true,.bool true,[],rfl,λ _=>rfl,.bool true,Wu l _,λ _=>⟨List.Pairwise.nil,λ _ hm=>(nomatch hm)⟩⟩,h2,h3,h4⟩
end HT
namespace L2
open PySem PySem.Spec PyProof.Rows
def uE {l:PySem.W.OpenLaw}{n k:Nat}{q:Program}{loose:List Str}{XP:(Str->Option Value)->Heap->Prop}{YP:World->Heap->Prop}{d:DefRec}{K:Params->za}{CX:World->V0}{sp:World->Sp}{x:Str}
 (hn:l.most=some n) (a9:n<=sizeLine) (fj:d.params.defaults=[]) (hr:BE k callerA) (hY:∀(w:World) (h:Heap),YP w h->(K w.params).In h)
 (F:∀(w:World) (mg:Str->Option Value) (fa:Addr) (h:Heap),(K w.params).In h->h.Ns mainGlobals mg->mg d.name=some (.ref fa)->∃fd:FuncData,(∀(s:Shared) (u:Value),BindsTo s fd ⟨[u],[]⟩ [(x,u)])/\
  ∀base:Heap,(K w.params).In base->base.Ns mainGlobals mg->Dn l.prog w (K w.params) mg base (CX w) k fa fd [x] (sp w))
 (bE:∀(w:World) (H:Hp) (a:Addr) (ns:List Int),(∀n∈ns,Sm n)->ns.length<=n->eS H->Di (K w.params) H a (ns.map V.int)->sp w [.ref a] H (λ v _=>v=.bl true) λ _ _ _=>False)
 (ix:∀(w:World) (H:Hp) (s:Shared) (e:Value) (s':Shared),CX w [] H s (λ _ _ _=>False) e s'->False):PySem.W.WalkO q loose XP YP l.row.toRowW d [] (λ f vs=>PySem.call f vs):=by
 refine HT.OY hn fj λ w s₀ s₁ mg mb fa o pm cd doc a vs ns bp G Y ho hd aX fm bV bf hlen hg=>?_;have KX:=hY w _ Y;obtain⟨fd,hb,hF⟩:=F w mg fa _ KX G.T.g fm;exact RH KX G.T.g G.T.b G.T.builtins G.T.nolimit hg bV bf (yJ hlen a9) hr hF hb (λ H hO hS=>bE w H a ns bp hlen hO hS) λ H e s'=>ix w H s₁ e s'
def fM {F:List D->M D}(h:∀ns:List Int,ns.length<=63->(∀n∈ns,Sm n)->F [.lst (ns.map D.int)]=.ok (.bl true))(K:za)(H:Hp)(a:Addr)(ns:List Int)(bp:∀n∈ns,Sm n)(hl:ns.length<=63)(hS:Di K H a (ns.map V.int)):U9 K 1 F [.ref a] H (λ v _=>v=.bl true) λ _ _ _=>False:=by
 refine⟨rfl,λ _=>False,[.lst (ns.map D.int)],λ _ z=>z.elim,.cons (.lst ?_ (Ag.ints ns)) .nil,?_⟩
 ·have e:del H (λ _=>False)=H:=by funext b;exact Av (λ z=>z)
  rw[e];exact hS
 ·rw[h ns hl bp];exact λ v H' s hv=>hv.ML
abbrev OZ (i j:Int):Prop:=(zP i<=2^20+1/\zP j<=2^10)\/RW i j
def WL {a b:Int}(h:zP a+zP b<=2^21):IntMulOk a b:=by
 have e:(2:Nat)^21=2097152:=by decide
 have h2:Builtin.Int.intTooBig (zP a+zP b)=false:=by
  unfold Builtin.Int.intTooBig bitsLine;exact decide_eq_false (by omega)
 unfold IntMulOk;rw[h2];simp
def OZ.ok {i j:Int}(h:OZ i j):IntMulOk i j:=by
 rcases h with ⟨h1,h2⟩|h
 ·exact WL (by omega)
 ·exact h.ok
def fN {X:Cx}:Gi X (binaryOp .Mult) (rI OZ λ i j=>.int (i*j)):=tX λ _ _ _ _ _ _ _ hc q=>mul_int q hc.ok
noncomputable instance (i j:Int):Decidable (OZ i j):=zbd _
abbrev I9:=BF λ i j=>if OZ i j then .ok (.int (i*j)) else .bad
def Eb {i j:Int}(h:OZ i j):I9 (.int i) (.int j)=.ok (.int (i*j)):=by
 unfold I9 BF;dsimp only;rw[if_pos h]
def Fp {X:Cx}{WX:Str->Hp->Prop}{c:Bool}{a b:Expr}{f g:Ad->M D}{pos:Pos}(ha:DE X WX c a f)(hb:DE X WX c b g):DE X WX c (.BinOp a .Mult b pos) (λ ρ=>(f ρ).bind λ x=>(g ρ).bind λ y=>I9 x y):=OR fN (Qh λ _ _ _ _=>.int _) ha hb
def bits_le {n:Int}{k:Nat}(h:n.natAbs<2^k):zP n<=k:=by
 unfold zP;split
 ·exact zR _
 ·rename_i hn;have hp:n.natAbs≠0:=by simpa using hn
  exact (Nat.log2_lt hp).mpr h
def WM {c x:Int}(h:Sm c)(hx:x.natAbs<2^20):zP (c+x)<=2^20+1:=by
 refine bits_le ?_;have h1:=natAbs_lt_pow_bits c;have h2:(2:Nat)^zP c<=2^(2^20):=Nat.pow_le_pow_right (by omega) h;have h3:(2:Nat)^20<=2^(2^20):=Nat.pow_le_pow_right (by omega) (by omega);have h4:(c+x).natAbs<=c.natAbs+x.natAbs:=Int.natAbs_add_le c x;rw[Nat.pow_succ];omega
mutual
noncomputable def Jh:D->Bool
 | .tup a=>Ji a
 | .lst _| .EW _| .Bq _ _ _| .ins _ _ _=>false
 |_=>true
noncomputable def Ji:List D->Bool
 |[]=>true
 |a::r=>Jh a&&Ji r
end
def Vq {H:Hp}{P0 P:Addr->Prop}{a:Addr}{xs:List V}(ht:∀a,P a->Dv H a)(h:del H P0 a=some (.tup xs)):del H P a=some (.tup xs):=by
 obtain⟨h1,h2⟩:=Ao h;rw[Av λ z=>by
  obtain⟨o',q,r⟩:=ht a z;rw[h2] at q;cases q;exact (r xs).1 rfl]
 exact h2
mutual
theorem BX.Jh {K:za}{H:Hp}{P0 P:Addr->Prop}(ht:∀a,P a->Dv H a):∀ {v:V}{d:D},Jh d=true->BX K (del H P0) v d->BX K (del H P) v d
 |_,_,_,.AK=>.AK
 |_,_,_,.bl b=>.bl b
 |_,_,_,.int i=>.int i
 |_,_,_,.str x=>.str x
 |_,_,n,.tup h r=>.tup (Vq ht h) (Ag.Jh ht (by rw[L2.Jh] at n;exact n) r)
 |_,_,n,.lst h r|_,_,n,.EW h r|_,_,n,.Vd h r|_,_,n,.Ve h r|_,_,n,.ins _ h r=>by rw[L2.Jh] at n;cases n
theorem Ag.Jh {K:za}{H:Hp}{P0 P:Addr->Prop}(ht:∀a,P a->Dv H a):∀ {vs:List V}{ds:List D},Ji ds=true->Ag K (del H P0) vs ds->Ag K (del H P) vs ds:=by
 intro _ _ n x_;cases x_ with
 |nil=>exact .nil
 |cons h t =>
  rw[Ji,zF] at n;exact .cons (BX.Jh ht n.1 h) (Ag.Jh ht n.2 t)
end
abbrev dp (m:M D):M D:=m.bind λ d=>if Jh d=true then .ok d else .bad
def fO {X:Cx}{WX:Str->Hp->Prop}{e:Expr}{f:Ad->M D}(h:DE X WX false e f):DE X WX true e (λ ρ=>dp (f ρ)):=by
 obtain⟨t,h1,h2⟩:=h;refine⟨t,h1,λ P0 P σ H Q ρ E g=>h2 P0 P σ H Q ρ E ?_⟩;unfold dp at g;dsimp only at g;cases e:f ρ with
 |ok d =>
  rw[e] at g;simp only[M.A9] at g;by_cases hf:Jh d=true
  ·rw[if_pos hf] at g;exact λ v H' s hv=>g v H' s (hv.Jh (E.same s).C8 hf)
  ·rw[if_neg hf] at g;exact g.elim
 |ex x|bad=>rw[e] at g;exact g
section
variable {α:Type}(lt:α->α->Prop)
abbrev O0:List α->List α->Prop
 |y::ys,x::xs=>(lt y x/\ys.length=xs.length)\/(y=x/\O0 ys xs)
 |_,_=>False
def O0.len:∀ {ys xs:List α},O0 lt ys xs->ys.length=xs.length
 |y::ys,x::xs,h=>by
  rcases h with ⟨_,h⟩|⟨_,h⟩
  ·rw[zj,zj,h]
  ·rw[zj,zj,O0.len h]
 |[],[],h|[],_::_,h|_::_,[],h=>h.elim
def YX (n:Nat)(ih:∀xs:List α,xs.length=n->Acc (O0 lt) xs){x:α}(hx:Acc lt x):∀ {xs:List α},xs.length=n->Acc (O0 lt) xs->Acc (O0 lt) (x::xs):=by
 induction hx with
 |intro x _ u9 =>
  intro xs hl cf;induction cf with
  |intro xs _ n4 =>
   refine .intro _ λ zs h=>?_;cases zs with
   |nil=>exact h.elim
   |cons y ys =>
    rcases h with ⟨h1,h2⟩|⟨h1,h2⟩
    ·exact u9 y h1 (h2.trans hl) (ih ys (h2.trans hl))
    ·subst h1;exact n4 ys h2 ((O0.len lt h2).trans hl)
def MV (h:∀x,Acc lt x):∀(n:Nat) (xs:List α),xs.length=n->Acc (O0 lt) xs
 |0,[],_=>.intro _ λ zs h=>by cases zs<;>exact h.elim
 |n+1,x::xs,e=>YX lt n (MV h n) (h x) (by simpa using e) (MV h n xs (by simpa using e))
def Vr:∀ {xs:List α}{i:Nat}{y:α}{x:α},xs[i]?=some x->lt y x->O0 lt (xs.set i y) xs
 |[],_,_,_,h,_=>by cases h
 |z::zs,0,y,x,h,hl=>by
  cases h;exact .inl ⟨hl,rfl⟩
 |z::zs,i+1,y,x,h,hl=>.inr ⟨rfl,Vr (by simpa using h) hl⟩
def O0.trans (ht:∀a b c,lt a b->lt b c->lt a c):∀ {xs ys zs:List α},O0 lt xs ys->O0 lt ys zs->O0 lt xs zs
 |x::xs,y::ys,z::zs,h1,h2=>by
  rcases h1 with ⟨a,b⟩|⟨rfl,b⟩
  ·rcases h2 with ⟨c,d⟩|⟨rfl,d⟩
   ·exact .inl ⟨ht _ _ _ a c,b.trans d⟩
   ·exact .inl ⟨a,b.trans (O0.len lt d)⟩
  ·rcases h2 with ⟨c,d⟩|⟨rfl,d⟩
   ·exact .inl ⟨c,(O0.len lt b).trans d⟩
   ·exact .inr ⟨rfl,O0.trans ht b d⟩
 |[],_,_,h,_|_::_,[],_,h,_|_::_,_::_,[],_,h=>by cases h
end
section
variable {X:Cx}{WX:Str->Hp->Prop}{c:Bool}{P0:E8}{P:Addr->Prop}{H:Hp}{σ:St}{ρ:Ad}{a b e:Expr}{f g g2:Ad->M D}{pos:Pos}
def An.forget {K:za}(E:An K P0 P H σ ρ)(k:Nat):An K P0 P H σ (ρ.set k none):=by
 have key:∀(j:Nat) (cl:Cl),(ρ.set k none)[j]?=some (some cl)->k≠j/\ρ[j]?=some (some cl):=λ j cl h=>by
  rcases get_set h with ⟨_,_,z⟩|z
  ·cases z
  ·exact z
 exact⟨E.sub,E.C8,λ j d h=>E.val j d (key j _ h).2,λ j d h io=>E.ows j d (key j _ h).2 io,λ i j c c' v v' fp ag h1 h2=>E.apart i j c c' v v' fp ag (key i _ h1).2 (key j _ h2).2,by rw[yS];exact E.len,λ j c n h hp=>E.pin j c n (key j _ h).2 hp⟩
def fP (i:Nat){x:Str}{pos' cz:Pos}(hN:X.N.Nodup)(hi:X.N[i]?=some x)(hx:Loc X.env.scope x)(hs: ~~~(swapsWith (.List [] cz) (some (.Name x pos')) pos.line X.env=pure false))(hf:X.fn x=true\/X.env.scope.names.lookup x=some .local:=by first | exact .inl rfl | exact .inr rfl | assumption):
 DS X WX (.Assign [.Name x pos'] (.List [] cz) pos) (λ ρ=>.ok (.next (ρ.set i (some (.ow (.rows [])))))):=by
 refine⟨_,TH hN hi hx (Q1 Cn) hs hf,λ P0 P σ H Z ρ E h=>?_⟩;refine⟨zR _,λ p hp=>?_⟩;have nP:¬ P p:=λ z=>(E.C8 p z).no hp;have sm:Ae (del H P) (del (upd H p (.lst [])) (λ a=>P a\/a=p)):=λ b o e=>by
  obtain⟨h1,h2⟩:=Ao e;have hb:b≠p:=Ay h2 hp;rw[Av (λ z=>z.elim h1 hb),Aj hb];exact h2
 refine h _ _ (λ a=>P a\/a=p) ⟨sm,λ a ha=>by rw[Aj (λ z=>nP (by rw[<-z];exact E.sub a ha))]⟩ (E.WG (fp:=[p]) (λ a h=>.inl h) (λ a h=>?_) sm (λ j c' v' ag ae h1 h2 h3 a ha=>?_) ⟨p,[],rfl,rfl,Aq,.nil⟩ (λ a ha=>?_) (by simp))
 ·by_cases ha:a=p
  ·subst ha;exact Dv.lst Aq
  ·rcases h with h|h
   ·unfold Dv;rw[Aj ha];exact E.C8 a h
   ·exact absurd h ha
 ·obtain⟨ys,q⟩:=h3.at a ha;have hn:a≠p:=Ay q hp;exact⟨Aj hn,λ z=>hn (zg.mp z)⟩
 ·rw[zg.mp ha];exact⟨.inr rfl,λ z=>nP (E.sub p z)⟩
def BI.snoc {K:za}{H:Hp}{P:Addr->Prop}{q:Addr}{xs:List V}{ds:List D}(hq:H q=some (.lst xs))(hx:Ag K (del H P) xs ds):∀ {ps:List Addr}{C4:List (List D)},BI K H P ps C4->BI K H P (ps++[q]) (C4++[ds]):=by
 intro _ _ x_;cases x_ with
 |nil=>exact .cons hq hx .nil
 |cons h r t=>exact .cons h r (t.snoc hq hx)
abbrev YY (i k:Nat)(ρ:Ad):M Out:=match ρ[i]?,ρ[k]? with
 |some (some (.ow (.rows C4))),some (some (.own ds))=>if C4.length<1000/\i≠k then .ok (.next ((ρ.set k none).set i (some (.ow (.rows (C4++[ds])))))) else .bad
 |_,_=>.bad
def fQ (i k:Nat){x y:Str}{p1 p2 apos ad:Pos}(hv:PE X (.Name x p1) (LK i))(hw:PE X (.Name y p2) (LK k))(hs: ~~~(starEach [.Name y p2] X.env=[(false,eval (.Name y p2) X.env)]))(ba: ~~~(swapsWith (.Call (.Attribute (.Name x p1) "append" apos) [.Name y p2] [] ad) none pos.line X.env=pure false))(ar: ~~~(attributeBase (.Name x p1) "append" X.env (eval (.Name x p1) X.env)=eval (.Name x p1) X.env))(aB: ~~~(((backTo ad (starEach [.Name y p2] X.env)).all (λ x => !x.1)&&(backToKw ad (keywordEach [] X.env)).all (λ x=>x.1.isSome)&&decide (([.Name y p2]:List Expr).length+([]:List Keyword).length+(if ([]:List Keyword).isEmpty then 0 else 1)<30))=true))(au: ~~~((apos.endLine==ad.line)=true))(ak: ~~~((backTo ad (starEach [] X.env)).any (·.1)=false)):
 DS X WX (.Expr (.Call (.Attribute (.Name x p1) "append" apos) [.Name y p2] [] ad) pos) (YY i k):=by
 refine⟨_,Ff (OK za7 PySem.F.slot_list_append PySem.F.type_list_append Kt hv (Bp hw Cn hs) ar aB au hs ak) ba,λ P0 P σ H Z ρ E h=>?_⟩;unfold YY at h;split at h
 ·rename_i C4 ds e1 e2;by_cases hl:C4.length<1000/\i≠k
  ·rw[if_pos hl] at h;obtain⟨v,fp,h1,o1,h4,nd⟩:=E.ows i _ e1 rfl;obtain⟨w,fq,k1,o2,k4,_⟩:=E.ows k _ e2 rfl;have oa:=o1;have ob:=o2;obtain⟨p,ps,rfl,rfl,h2,h3⟩:=o1;obtain⟨q,xs,rfl,rfl,k2,k3⟩:=o2;refine⟨_,h1,.inl ⟨rfl,_,.of h2⟩,⟨_,k1,p,_,_,rfl,rfl,h2,AD (by rw[zc,h3.length];exact yQ hl.1),?_⟩⟩;have pP:=h4 p zd;have sd:del (upd H p (.lst (ps.map V.ref++[V.ref q]))) P=del H P:=by
    funext b;by_cases hb:P b
    ·rw[D8 hb,D8 hb]
    ·rw[Av hb,Av hb,Aj (λ z=>hb (by rw[z];exact pP.1))]
   have sm:Ae (del H P) (del (upd H p (.lst (ps.map V.ref++[V.ref q]))) P):=by rw[sd];exact Ae.refl _
   have qn:q∉p::ps:=λ z=>E.apart i k _ _ _ _ _ _ e1 e2 h1 k1 oa ob hl.2 q z (zg.mpr rfl);have qp:q≠p:=λ z=>qn (by rw[z];exact zd);have key:=(E.forget k).WG (P':=P) (H':=upd H p (.lst (ps.map V.ref++[V.ref q]))) (i:=i) (v:=.ref p) (c:=.ow (.rows (C4++[ds]))) (fp:=p::(ps++[q])) (λ a h=>h) (λ a h=>?_) sm (λ j c' v' ag ae g1 g2 g3 a ha=>?_)
    ⟨p,ps++[q],rfl,rfl,by rw[z4];exact Aq,?_⟩ (λ a ha=>?_) ?_
   ·rw[KA h1] at key;exact h _ _ _ ⟨sm,λ a h=>by rw[Aj (λ z=>pP.2 (by rw[<-z];exact h))]⟩ key
   ·by_cases ha:a=p
    ·subst ha;exact Dv.lst Aq
    ·unfold Dv;rw[Aj ha];exact E.C8 a h
   ·have hj:k≠j/\ρ[j]?=some (some c'):=by
     rcases get_set g1 with ⟨_,_,z⟩|z
     ·cases z
     ·exact z
    have n1:=E.apart j i _ _ _ _ _ _ hj.2 e1 g2 h1 g3 oa (zY ae) a ha;have n2:=E.apart j k _ _ _ _ _ _ hj.2 e2 g2 k1 g3 ob (zY hj.1) a ha;have ap:a≠p:=λ z=>n1 (by rw[z];exact zd);refine⟨Aj ap,λ z=>?_⟩;rcases zp.mp z with z|z
    ·exact ap z
    ·rcases zy.mp z with z|z
     ·exact n1 (ze _ z)
     ·exact n2 z
   ·refine BI.snoc (xs:=xs) (by rw[Aj qp];exact k2) (by rw[sd];exact k3) (h3.move sm λ a ha=>Aj λ z=>?_);rw[zW] at nd;exact nd.1 (by rw[<-z];exact ha)
   ·rcases zp.mp ha with rfl|ha
    ·exact pP
    ·rcases zy.mp ha with ha|ha
     ·exact h4 a (ze _ ha)
     ·exact k4 a ha
   ·rw[zW] at nd ⊢;refine⟨λ z=>?_,?_⟩
    ·rcases zy.mp z with z|z
     ·exact nd.1 z
     ·exact qp (zg.mp z).symm
    ·rw[z9];refine⟨nd.2,by simp,λ x hx y hy z=>?_⟩;rw[zg.mp hy] at z;exact qn (ze _ (z▸hx))
  ·rw[if_neg hl] at h;exact h.elim
 ·exact h.elim
def YZ {α:Type}{l:List α}{k:Int}{n:Nat}(h:NZ l.length k=some n):Q4 l k=l[n]? :=by
 unfold Q4;rw[h];rfl
abbrev rowAt (C4:List (List D))(ka:D):M (List D):=match ka with
 | .int j=>(match NZ C4.length j with|some n=>(match C4[n]? with|some ds=>.ok ds|none=>.bad)|none=>.bad)
 |_=>.bad
def P5 {C4:List (List D)}{ka:D}{m:M (List D)}(h:rowAt C4 ka=m)(hb:m≠.bad):∃j n ds,ka=.int j/\NZ C4.length j=some n/\C4[n]?=some ds/\m=.ok ds:=by
 subst h;unfold rowAt at hb ⊢;split at hb
 ·rename_i j;split at hb
  ·rename_i n en;split at hb
   ·rename_i ds ed;exact⟨j,n,ds,rfl,en,ed,by simp only[en,ed]⟩
   ·exact (hb rfl).elim
  ·exact (hb rfl).elim
 ·exact (hb rfl).elim
abbrev fR (i:Nat)(ρ:Ad)(ma mb:M D):M D:=match ρ[i]? with
 |some (some (.ow (.rows C4)))=>ma.bind λ ka=>(rowAt C4 ka).bind λ ds=>mb.bind λ kb=>dH (.lst ds) kb
 |_=>.bad
def sM {K:za}{P:Addr->Prop}{Q:VK}{m:M D}(h:gV K WX P H Q m):m≠.bad:=λ e=>by rw[e] at h;exact h
def Vs {α β:Type}{m:M α}{k:α->M β}(h:m.bind k≠.bad):m≠.bad:=λ e=>by rw[e] at h;exact h rfl
def Ue (i:Nat){x:Str}{p1 p2:Pos}(hv:PE X (.Name x p1) (LK i))(ha:DE X WX true a f)(hb:DE X WX true b g)(hs:Hr a:=by exact λ _ _=>rfl)(aO:Hr b:=by exact λ _ _=>rfl):
 DE X WX true (.Subscript (.Subscript (.Name x p1) a p2) b pos) (λ ρ=>fR i ρ (f ρ) (g ρ)):=by
 obtain⟨ta,a1,a2⟩:=ha;obtain⟨tb,b1,b2⟩:=hb;refine⟨_,V8 LU (V8 LU hv a1 hs) b1 aO,λ P0 P σ H Q ρ E h=>?_⟩;dsimp only at h;unfold fR at h;split at h
 ·rename_i C4 e1;obtain⟨v,fp,h1,⟨p,ps,rfl,rfl,h2,h3⟩,h4,nd⟩:=E.ows i _ e1 rfl;refine⟨_,h1,a2 P0 P σ H _ ρ E ?_⟩;refine XO h λ ka h=>?_;intro w H1 s1 hw;obtain⟨j,n,ds,rfl,en,ed,em⟩:=P5 rfl (Vs (sM h));rw[em] at h;simp only[M.A9] at h;cases hw;obtain⟨r,xs,r1,r2,r3⟩:=h3.get ed;have hl:NZ (ps.map V.ref).length j=some n:=by rw[zc,h3.length];exact en
  refine⟨p,_,j,.ref r,rfl,rfl,.of (s1 _ _ h2),by rw[YZ hl,z7,r1];rfl,?_⟩;refine b2 P0 P σ H1 _ ρ (E.same s1) ?_;cases q2:g ρ with
  |bad=>rw[q2] at h;exact h.elim
  |ex x=>rw[q2] at h;exact λ H' s'=>h H' (s1.trans s')
  |ok kb =>
   rw[q2] at h;simp only[M.A9] at h;intro u H2 s2 hu;unfold dH at h;split at h
   ·rename_i be;cases be
   ·rename_i ja j' be;cases be;split at h
    ·rename_i d e;cases hu;obtain⟨z,k1,k2⟩:=(r3.mono (s1.trans s2).del).Q4 e;exact⟨r,xs,j',z,rfl,rfl,.of (s2 _ _ (s1 _ _ r2)),k1,h _ H2 (s1.trans s2) k2⟩
    ·exact h.elim
   ·exact h.elim
 ·exact h.elim
def BI.set {K:za}{H H':Hp}{P:Addr->Prop}(sm:Ae (del H P) (del H' P)){r:Addr}{xs:List V}{ds:List D}(hr:H' r=some (.lst xs))(hx:Ag K (del H' P) xs ds)(k:∀a,a≠r->H' a=H a):∀ {ps:List Addr}{C4:List (List D)}{n:Nat},ps.Nodup->ps[n]?=some r->BI K H P ps C4->BI K H' P ps (C4.set n ds)
 |_,_,_,_,e,.nil=>by simp at e
 |_,_,0,nd,e,.cons h1 h2 t=>by
  simp at e;subst e;rw[zW] at nd;exact .cons hr hx (t.move sm λ a ha=>k a λ z=>nd.1 (by rw[<-z];exact ha))
 |q::ps,d::C4,n+1,nd,e,.cons h1 h2 t=>by
  rw[zW] at nd;have e':ps[n]?=some r:=by simpa using e
  refine .cons ((k q λ z=>nd.1 (by rw[z];exact zv e')).trans h1) (h2.mono sm) (t.set sm hr hx k nd.2 e')
abbrev fS (i:Nat)(ρ:Ad)(C4:List (List D))(d ka:D)(ds:List D)(kb:D):M Out:=match ka,kb with
 | .int j,.int l=>(match NZ C4.length j,NZ ds.length l with|some n,some m=>.ok (.next (ρ.set i (some (.ow (.rows (C4.set n (ds.set m d)))))))|_,_=>.bad)
 |_,_=>.bad
abbrev Vt (i:Nat)(ρ:Ad)(ma mb:M D)(d:D):M Out:=match ρ[i]? with
 |some (some (.ow (.rows C4)))=>ma.bind λ ka=>(rowAt C4 ka).bind λ ds=>mb.bind λ kb=>fS i ρ C4 d ka ds kb
 |_=>.bad
def fT (i:Nat){x:Str}{p1 p2 al:Pos}(hv:PE X (.Name x p1) (LK i))(he:DE X WX true e g2)(ha:DE X WX true a f)(hb:DE X WX true b g)(va:Hr a:=by exact λ _ _=>rfl)(hs: ~~~(swapsWithSole [.Subscript (.Subscript (.Name x p1) a p2) b al] e pos.line X.env=pure false))(hw: ~~~(swappedStores [.Subscript (.Subscript (.Name x p1) a p2) b al] e X.env=pure none))(h1: ~~~((assignEach [.Subscript (.Subscript (.Name x p1) a p2) b al] X.env).map (·.2)=[assign (.Subscript (.Subscript (.Name x p1) a p2) b al) X.env]))(fg:∀v,assign (.Subscript (.Subscript (.Name x p1) a p2) b al) X.env v=(do
  let ov <-holding [v] (eval (.Subscript (.Name x p1) a p2) X.env);let iv <-holding [v,ov] (eval b X.env)
  standAt al
  holding [v,ov,iv] (setItem ov iv v)
  release [v,ov,iv] []):=by intro _;rfl):
 DS X WX (.Assign [.Subscript (.Subscript (.Name x p1) a p2) b al] e pos) (λ ρ=>(g2 ρ).bind (Vt i ρ (f ρ) (g ρ))):=by
 obtain⟨te,e1,e2⟩:=he;obtain⟨ta,a1,a2⟩:=ha;obtain⟨tb,b1,b2⟩:=hb;refine⟨_,Y3 e1 (Y2 (V8 LU hv a1 va) b1 set_list fg) hs hw h1,λ P0 P σ H Z ρ E h=>?_⟩;dsimp only at h;refine e2 P0 P σ H _ ρ E ?_;refine dI h E λ d h=>?_;intro v H0 s0 n5;have E0:=E.same s0;unfold Vt at h;split at h
 ·rename_i C4 r9;obtain⟨v',fp,h1,o1,h4,nd⟩:=E0.ows i _ r9 rfl;have oa:=o1;obtain⟨p,ps,rfl,rfl,h2,h3⟩:=o1;refine⟨_,h1,a2 P0 P σ H0 _ ρ E0 ?_⟩;cases q:f ρ with
  |bad=>rw[q] at h;exact h.elim
  |ex x=>rw[q] at h;exact λ H' s=>h H' P ((E.tr s0).trans (E0.tr s))
  |ok ka =>
   rw[q] at h;simp only[M.A9] at h;intro w H1 s1 hw;obtain⟨j,n,ds,rfl,en,ed,em⟩:=P5 rfl (Vs (kB h));rw[em] at h;simp only[M.A9] at h;cases hw;obtain⟨r,xs,r1,r2,r3⟩:=h3.get ed;have hl:NZ (ps.map V.ref).length j=some n:=by rw[zc,h3.length];exact en
   refine⟨p,_,j,.ref r,rfl,rfl,.of (s1 _ _ h2),by rw[YZ hl,z7,r1];rfl,?_⟩;have E1:=E0.same s1;refine b2 P0 P σ H1 _ ρ E1 ?_;cases q2:g ρ with
   |bad=>rw[q2] at h;exact h.elim
   |ex x=>rw[q2] at h;exact λ H' s'=>h H' P ((E.tr s0).trans ((E0.tr s1).trans (E1.tr s')))
   |ok kb =>
    rw[q2] at h;simp only[M.A9] at h;intro u H2 s2 hu;unfold fS at h;split at h
    ·rename_i j' l be;cases be;cases hu;split at h
     ·rename_i n' m em vb;rw[en] at em;cases em;have E2:=E1.same s2;have bW:=s1.trans s2;have rm:r∈ps:=zv r1;have rP:=h4 r (ze _ rm);have di:=zW.mp nd;have rp:r≠p:=λ z=>di.1 (by rw[<-z];exact rm);have sd:del (upd H2 r (.lst (xs.set m v))) P=del H2 P:=by
       funext b;by_cases hb:P b
       ·rw[D8 hb,D8 hb]
       ·rw[Av hb,Av hb,Aj (λ z=>hb (by rw[z];exact rP.1))]
      have sm:Ae (del H2 P) (del (upd H2 r (.lst (xs.set m v))) P):=by rw[sd];exact Ae.refl _
      have ob:=oa.same bW;refine⟨r,xs,l,m,rfl,rfl,bW _ _ r2,by rw[r3.length];exact vb,?_⟩;have key:=E2.WG (P':=P) (H':=upd H2 r (.lst (xs.set m v))) (i:=i) (v:=.ref p) (c:=.ow (.rows (C4.set n (ds.set m d)))) (fp:=p::ps) (λ a h=>h) (λ a h=>?_) sm (λ j2 c' v' ag ae g1 g2 g3 a ha=>?_)
       ⟨p,ps,rfl,rfl,by rw[Aj (zY rp)];exact bW _ _ h2,?_⟩ h4 nd
      ·rw[KA h1] at key;exact h _ _ _ ((E.tr s0).trans ((E0.tr bW).trans ⟨sm,λ a h=>by rw[Aj (λ z=>rP.2 (by rw[<-z];exact h))]⟩)) key
      ·by_cases ha:a=r
       ·subst ha;exact Dv.lst Aq
       ·unfold Dv;rw[Aj ha];exact E2.C8 a h
      ·have n1:=E2.apart j2 i _ _ _ _ _ _ g1 r9 g2 h1 g3 ob (zY ae) a ha;exact⟨Aj λ z=>n1 (by rw[z];exact ze _ rm),n1⟩
      ·have vc:BI X.K H2 P ps C4:=h3.move bW.del λ a ha=>by obtain⟨ys,z⟩:=h3.at a ha;rw[z];exact bW _ _ z
       refine vc.set sm Aq ?_ (λ a ha=>Aj ha) di.2 r1;rw[sd];exact MR ((n5.mono s1.del).mono s2.del) m (r3.mono bW.del)
     ·exact h.elim
    ·exact h.elim
 ·exact h.elim
end
section
variable {X:Cx}{WX:Str->Hp->Prop}{c:Bool}{P0:E8}{P:Addr->Prop}{H:Hp}{σ:St}{ρ:Ad}{a b e:Expr}{f g g2:Ad->M D}{pos:Pos}
def F0:∀ {ds:List D}{ns:List Int},CT ds=some ns->ds=ns.map D.int
 |[],ns,h=>by cases h;rfl
 | .int b::r,bs,h=>by
  rw[CT] at h;cases q:CT r with
  |none=>rw[q] at h;cases h
  |some u8=>rw[q] at h;cases h;rw[F0 q];rfl
 | .AK::r,bs,h| .bl _::r,bs,h| .str _::r,bs,h| .tup _::r,bs,h| .lst _::r,bs,h| .EW _::r,bs,h| .Bq _ _ _::r,bs,h| .ins _ _ _::r,bs,h=>by cases h
def Ec {K:za}{H:Hp}:∀ {vs:List V}{bs:List Int},Ag K H vs (bs.map D.int)->vs=bs.map V.int
 |_,[],.nil=>rfl
 |_,b::r,.cons h t=>by cases h;rw[Ec t];rfl
end
def nM {P P2:Addr->Prop}{H H':Hp}(t:Tr P P H P2 H'){a:Addr}(h:P2 a)(hn:¬ P a):H a=none:=by
 cases q:H a with
 |none=>rfl
 |some o =>
  have:=t.1 a o (by rw[Av hn];exact q);exact ((Ao this).1 h).elim
section
variable {X:Cx}{WX:Str->Hp->Prop}{c:Bool}{P0:E8}{P:Addr->Prop}{H:Hp}{σ:St}{ρ:Ad}{a b e:Expr}{f g:Ad->M D}{pos:Pos}
abbrev fU:V->List V->Hp->VK->Prop:=λ x vs H Q=>∃(l:Addr) (xs:List V) (k:Nat) (y:V),x=.ref l/\vs=[.int (k:Int),y]/\H l=some (.lst xs)/\k<=xs.length/\xs.length<sizeLine/\Q .AK (upd H l (.lst (xs.take k++y::xs.drop k)))
def RZ:∀ {xs:List V}{us:List Value}{y:V}{w:Value},Vals xs us->∀k:Nat,RelV y w->Vals (xs.take k++y::xs.drop k) (us.take k++w::us.drop k)
 |_,_,_,_,r,0,h=>.cons h r
 |_,_,_,_,.nil,k+1,h=>.cons h .nil
 |_,_,_,_,.cons a t,k+1,h=>.cons a (RZ t k h)
def Z0 {prog:Program}{wd:World}{A:Around}{E:Value->Shared->Prop}{s:Shared}{Q:Value->Shared->Prop}{l:Addr}{items:Array Value}{n:Nat}(x:Int)(u:Tok)(y:Value)(hc:¬(!Builtin.List.listFitsIndex x)=true)(hs:items.size<=sizeLine)
 (e:s.heap.get? l=some {cls:=.type "list",data:=.seq items n})
 (h:Q .none {s with heap:=s.heap.update l (Obj.mapSeq λ xs=>(xs.extract 0 (if x<0 then (x+(xs.size:Int)).toNat else min x.toNat xs.size)).push y++xs.extract (if x<0 then (x+(xs.size:Int)).toNat else min x.toNat xs.size)),toks:=s.toks}):wpAny (model prog wd) A (call (.builtin "list.insert") [.ref l,.int x u,y]) Q E s:=by
 have hm:=PySem.AutoSeq1.list_insert_list_int_val_1 l items n x u y hc hs;have ha:=PySem.F.args_list_insert_3 (.ref l) (.int x u) y;exact call_meets PySem.F.slot_list_insert ⟨_,e,rfl⟩ PySem.F.entry_list_insert ha hm ⟨e,h⟩
def WN:uA X "list.insert" fU:=by
 intro pins s σ H x vs v us Q I rx rv h;obtain⟨l,xs,k,y,rfl,rfl,hH,hk,hz,q⟩:=h;cases rx;obtain⟨u,w,rfl,ru,aZ⟩:=rv.two;obtain⟨tk,rfl⟩:=ru;obtain⟨z,ac,n,r,hl,e⟩:=I.Wr hH;have hlen:=r.length;have yu:=Kr;have d8:¬ (!Builtin.List.listFitsIndex (k:Int))=true:=by
  unfold Builtin.List.listFitsIndex;simp;omega
 have hsz:ac.toArray.size<=sizeLine:=by rw[zm,<-hl];exact yQ hz
 refine Z0 (k:Int) tk w d8 hsz e ?_;refine⟨.AK,_,I.eN (its':=ac.take k++w::ac.drop k) hH e ?_ ?_ ?_,rfl,q⟩
 ·have e1:¬ ((k:Int)<0):=by omega
  have e2:min (k:Int).toNat ac.toArray.size=k:=by rw[yO,zm];omega
  simp only[e1,if_false,e2];apply Array.toList_inj.mp;simp;rw[zaw (by rw[zb9];exact zu _)]
 ·exact RZ r k aZ
 ·rw[zA,zj,yM,zb9];omega
abbrev WO (i:Nat)(ρ:Ad)(mk md:M D):M Out:=match ρ[i]? with
 |some (some (.own ds))=>mk.bind λ k=>md.bind λ d=>match k with
  | .int j=>if 0<=j/\j.toNat<=ds.length/\ds.length<1000 then .ok (.next (ρ.set i (some (.own (ds.take j.toNat++d::ds.drop j.toNat))))) else .bad
  |_=>.bad
 |_=>.bad
def P6 {K:za}{H:Hp}:∀ {vs:List V}{ds:List D}(n:Nat),Ag K H vs ds->Ag K H (vs.take n) (ds.take n)
 |_,_,0,_=>by rw[List.take_zero,List.take_zero];exact .nil
 |_,_,_+1,.nil=>.nil
 |_,_,n+1,.cons h t=>by rw[List.take_succ_cons,List.take_succ_cons];exact .cons h (P6 n t)
def P7 {K:za}{H:Hp}:∀ {vs:List V}{ds:List D}(n:Nat),Ag K H vs ds->Ag K H (vs.drop n) (ds.drop n)
 |_,_,0,h=>h
 |_,_,_+1,.nil=>.nil
 |_,_,n+1,.cons h t=>by rw[List.drop_succ_cons,List.drop_succ_cons];exact P7 n t
def S0 {K:za}{H:Hp}:∀ {vs ws:List V}{ds es:List D},Ag K H vs ds->Ag K H ws es->Ag K H (vs++ws) (ds++es)
 |_,_,_,_,.nil,k=>k
 |_,_,_,_,.cons h t,k=>.cons h (S0 t k)
def WQ (i:Nat){x:Str}{p1 apos ad:Pos}(hv:PE X (.Name x p1) (LK i))(hk:DE X WX true a f)(hd:DE X WX true b g)(hs: ~~~(starEach [a,b] X.env=(false,eval a X.env)::starEach [b] X.env))(aO: ~~~(starEach [b] X.env=[(false,eval b X.env)]))(ba: ~~~(swapsWith (.Call (.Attribute (.Name x p1) "insert" apos) [a,b] [] ad) none pos.line X.env=pure false))(ar: ~~~(attributeBase (.Name x p1) "insert" X.env (eval (.Name x p1) X.env)=eval (.Name x p1) X.env))(aB: ~~~(((backTo ad (starEach [a,b] X.env)).all (λ x => !x.1)&&(backToKw ad (keywordEach [] X.env)).all (λ x=>x.1.isSome)&&decide (([a,b]:List Expr).length+([]:List Keyword).length+(if ([]:List Keyword).isEmpty then 0 else 1)<30))=true))(au: ~~~((apos.endLine==ad.line)=true))(ak: ~~~((backTo ad (starEach [b] X.env)).any (·.1)=false)):
 DS X WX (.Expr (.Call (.Attribute (.Name x p1) "insert" apos) [a,b] [] ad) pos) (λ ρ=>WO i ρ (f ρ) (g ρ)):=by
 obtain⟨ta,a1,a2⟩:=hk;obtain⟨tb,b1,b2⟩:=hd;refine⟨_,Ff (OK za7 PySem.F.slot_list_insert PySem.F.type_list_insert WN hv (Bp a1 (Bp b1 Cn aO) hs) ar aB au hs ak) ba,λ P0 P σ H Z ρ E h=>?_⟩;dsimp only at h;unfold WO at h;split at h
 ·rename_i ds e1;obtain⟨p,xs,h1,h2,h3,h4,h5⟩:=E.own i ds e1;refine⟨_,h1,.inl ⟨rfl,xs,.of h2⟩,a2 P0 P σ H _ ρ E ?_⟩;refine dI h E λ k h=>?_;intro w H1 s1 hw;have E1:=E.same s1;refine b2 P0 P σ H1 _ ρ E1 ?_;cases q2:g ρ with
  |bad=>rw[q2] at h;exact h
  |ex y=>rw[q2] at h;exact λ H' s=>h H' P ((E.tr s1).trans (E1.tr s))
  |ok d =>
   rw[q2] at h;simp only[M.A9] at h;intro v H2 s2 n5;have E2:=E1.same s2;have bW:=s1.trans s2;split at h
   ·rename_i j;cases hw;by_cases hj:0<=j/\j.toNat<=ds.length/\ds.length<1000
    ·rw[if_pos hj] at h;have vd:((j.toNat:Nat):Int)=j:=Int.toNat_of_nonneg hj.1;have se:=h5.mono bW.del;refine⟨p,xs,j.toNat,v,rfl,by rw[vd],bW _ _ h2,by rw[h5.length];exact hj.2.1,AD (by rw[h5.length];exact yQ hj.2.2),?_⟩;obtain⟨E3,t3⟩:=E2.mut e1 h1 h3 h4 (S0 (P6 j.toNat se) (.cons n5 (P7 j.toNat se)));exact h _ _ _ ((E.tr bW).trans t3) E3
    ·rw[if_neg hj] at h;exact h.elim
   ·exact h.elim
 ·exact h.elim
abbrev xA (ds:List D):M D:=match ds with
 |[.int i]=>if i.natAbs.log2<1920 then .ok (.str (toString i)) else .bad
 |_=>.bad
def MW (hc:X.calm=true):Gj X (.builtin "any") (λ xs H Q=>∃p bs,xs=[.ref p]/\Di X.K H p (List.map V.bl bs)/\Q (.bl (bs.any id)) H):=by
 intro pins s σ H xs us Q I r h;obtain⟨p,bs,rfl,hq,q⟩:=h;obtain⟨u,rfl,rx⟩:=vals1 r;cases rx;obtain⟨ac,r',pl,hz⟩:=I.list hq;have hl:=pl.isList;have hb:=ID r';have af:p<s.heap.objs.size:=by obtain⟨_,e,_⟩:=hl;exact zt e
 refine call_any_walk (wpAny_pyIter_list hl ?_);refine⟨s.heap.objs.size,[s.heap.objs.size,p],[s.heap.objs.size],ac.toArray.size,_,_,λ i=>(bs[i]?).getD false,rfl,Walks.list (A:=X.A.in1) (I.ok.hd hc) _ p (z6 af) ac.toArray,
  ⟨⟨_,zE _ rfl,rfl,rfl⟩,hl.push _⟩,λ i v s' Q' E' hP hQ=>?_,λ h' tk hk=>?_⟩
 ·obtain⟨b,e,rfl⟩:=hb.get i v (by simpa using hP);simp only[e,Option.getD_some] at hQ;exact wpAny_truthy_bool hQ
 ·have e:((zw ac.toArray.size).any λ i=>(bs[i]?).getD false)=bs.any id:=by
   rw[zm,hb.length];exact LSm.range_any bs
  rw[e];exact⟨.bl _,H,I.kept (t':=tk) (LSm.kept_iter hk),rfl,q⟩
abbrev Z3 (ds:List D):M D:=match ds with
 |[.lst xs]=>(match Gx xs with|some bs=>.ok (.bl (bs.any id))|none=>.bad)
 |_=>.bad
def nN:Ld X.K WX (λ xs H Q=>∃p bs,xs=[.ref p]/\Di X.K H p (List.map V.bl bs)/\Q (.bl (bs.any id)) H) Z3:=by
 intro P H ds vs Q ht hl h;unfold Z3 at h;split at h
 ·rename_i xs;obtain⟨v,rfl,hv⟩:=hl.one;split at h
  ·rename_i bs eb;have:=IB eb;subst this;cases hv with
   |lst hs hh =>
    have:=IC hh;subst this;exact⟨_,bs,rfl,hs.B7,h _ H (Ae.refl H) (.bl _)⟩
  ·exact h.elim
 ·exact h.elim
def fV {p:Pos}(hc:X.calm=true)(hg:Gl X "any")(hm:X.mg "any" = none)(ha:DE X WX c e f)(hb:bootBuiltins "any" = some (.builtin "any"):=by decide +kernel)(hs: ~~~(starEach [e] X.env=[(false,eval e X.env)])):DE X WX c (.Call (.Name "any" p) [e] [] pos) (λ ρ=>((f ρ).bind λ d=>(M.ok []).bind λ ds=>.ok (d::ds)).bind Z3):=
 Jb (MW hc) nN hg hm hb (A2 ha A6 hs) (he:=hs)
end
abbrev kids:OT->List OT
 | .sh _=>[]
 | .lst ts| .tup ts| .Bq _ _ ts| .ins _ _ ts=>ts
abbrev LY:OT->List OT->OT
 | .sh d,_=>.sh d
 | .lst _,ts=>.lst ts
 | .tup _,ts=>.tup ts
 | .Bq b ks _,ts=>.Bq b ks ts
 | .ins x ns _,ts=>.ins x ns ts
abbrev KG:OT->List Nat->Option OT
 |t,[]=>some t
 |t,j::π=>match (kids t)[j]? with|some s=>KG s π|none=>none
abbrev EK:OT->List Nat->OT->OT
 |_,[],u=>u
 |t,j::π,u=>match (kids t)[j]? with|some s=>LY t ((kids t).set j (EK s π u))|none=>t
@[simp] theorem S1 (t:OT):KG t []=some t:=by unfold KG;rfl
@[simp] theorem Ed (t u:OT):EK t [] u=u:=by unfold EK;rfl
def WR {t s:OT}{j:Nat}{π:List Nat}(h:(kids t)[j]?=some s):KG t (j::π)=KG s π:=by rw[KG,h]
def WS {t s u:OT}{j:Nat}{π:List Nat}(h:(kids t)[j]?=some s):EK t (j::π) u=LY t ((kids t).set j (EK s π u)):=by rw[EK,h]
section
variable {K:za}{H H':Hp}{P P':Addr->Prop}
abbrev CM (K:za)(H:Hp)(P:Addr->Prop)(v:V)(t:OT)(q:List Addr)(xs:List V):Prop:=match t with
 | .sh _=>False
 | .lst ts=>∃p,v=.ref p/\q=[p]/\H p=some (.lst xs)
 | .tup ts=>∃p,v=.ref p/\q=[]/\del H P p=some (.tup xs)
 | .Bq false ks ts=>∃p kvs,v=.ref p/\q=[p]/\H p=some (.dK kvs)/\ks=(kvs.map λ kv=>Cy kv.1)/\xs=kvs.map yZ
 | .Bq true ks ts=>∃p kvs,v=.ref p/\q=[p]/\H p=some (.dT kvs)/\ks=(kvs.map λ kv=>.tup (kv.1.map Cy))/\xs=kvs.map yZ
 | .ins x ns ts=>∃p C dx fs,v=.ref p/\q=[p]/\zH K mainGlobals x=some (some (.ref C))/\H p=some (.ins C dx fs)/\ns=fs.map zJ/\xs=fs.map yZ
def CM.own {v:V}{t:OT}{q:List Addr}{xs:List V}{fp:List Addr}(h:CM K H P v t q xs)(r:AG K H P xs (kids t) fp):C7 K H P v t (q++fp):=by
 cases t with
 |sh d=>exact h.elim
 |lst ts=>obtain⟨p,rfl,rfl,h⟩:=h;exact .lst h r
 |tup ts=>obtain⟨p,rfl,rfl,h⟩:=h;exact .tup h r
 |Bq b ks ts =>
  cases b with
  |false=>obtain⟨p,kvs,rfl,rfl,h,rfl,rfl⟩:=h;exact .dK h r
  |true=>obtain⟨p,kvs,rfl,rfl,h,rfl,rfl⟩:=h;exact .dT h r
 |ins x ns ts=>obtain⟨p,C,dx,fs,rfl,rfl,n,h,rfl,rfl⟩:=h;exact .ins n h r
def C7.node {v:V}{t:OT}{fp:List Addr}(h:C7 K H P v t fp)(hk:kids t≠[]\/∀d,t≠.sh d):∃q xs fq,fp=q++fq/\CM K H P v t q xs/\AG K H P xs (kids t) fq:=by
 cases h with
 |sh h=>rcases hk with hk|hk;exact (hk rfl).elim;exact (hk _ rfl).elim
 |lst h r=>exact⟨[_],_,_,rfl,⟨_,rfl,rfl,h⟩,r⟩
 |tup h r=>exact⟨[],_,_,rfl,⟨_,rfl,rfl,h⟩,r⟩
 |dK h r|dT h r=>exact⟨[_],_,_,rfl,⟨_,_,rfl,rfl,h,rfl,rfl⟩,r⟩
 |ins n h r=>exact⟨[_],_,_,rfl,⟨_,_,_,_,rfl,rfl,n,h,rfl,rfl⟩,r⟩
def CM.move (sm:Ae (del H P) (del H' P')){v:V}{t:OT}{q:List Addr}{xs:List V}(k:∀a∈q,H' a=H a)(h:CM K H P v t q xs):CM K H' P' v t q xs:=by
 cases t with
 |sh d=>exact h.elim
 |lst ts=>obtain⟨p,rfl,rfl,h⟩:=h;exact⟨p,rfl,rfl,(k p zd).trans h⟩
 |tup ts=>obtain⟨p,rfl,rfl,h⟩:=h;exact⟨p,rfl,rfl,sm _ _ h⟩
 |Bq b ks ts =>
  cases b with
  |false|true=>obtain⟨p,kvs,rfl,rfl,h,rfl,rfl⟩:=h;exact⟨p,kvs,rfl,rfl,(k p zd).trans h,rfl,rfl⟩
 |ins x ns ts=>obtain⟨p,C,dx,fs,rfl,rfl,n,h,rfl,rfl⟩:=h;exact⟨p,C,dx,fs,rfl,rfl,n,(k p zd).trans h,rfl,rfl⟩
def CM.kids {v:V}{t:OT}{q:List Addr}{xs:List V}(h:CM K H P v t q xs)(ts:List OT):CM K H P v (LY t ts) q xs:=by
 cases t with
 |sh d=>exact h.elim
 |lst us|tup us=>exact h
 |Bq b ks us=>cases b<;>exact h
 |ins x ns us=>exact h
def Ql {v:V}{t:OT}{q:List Addr}{xs:List V}(h:CM K H P v t q xs)(ts:List OT):L2.kids (LY t ts)=ts:=by
 cases t with
 |sh d=>exact h.elim
 |lst us|tup us|Bq b ks us|ins x ns us=>rfl
def CM.inj {v:V}{t:OT}{q q':List Addr}{xs dh:List V}(h:CM K H P v t q xs)(h':CM K H P v t q' dh):q=q'/\xs=dh:=by
 cases t with
 |sh d=>exact h.elim
 |lst ts|tup ts=>obtain⟨p,rfl,rfl,h⟩:=h;obtain⟨p',e,rfl,h'⟩:=h';cases e;rw[h] at h';cases h';exact⟨rfl,rfl⟩
 |Bq b ks ts =>
  cases b with
  |false|true=>obtain⟨p,kvs,rfl,rfl,h,_,rfl⟩:=h;obtain⟨p',n6,e,rfl,h',_,rfl⟩:=h';cases e;rw[h] at h';cases h';exact⟨rfl,rfl⟩
 |ins x ns ts=>obtain⟨p,C,dx,fs,rfl,rfl,n,h,_,rfl⟩:=h;obtain⟨p',C',yv,bL,e,rfl,n',h',_,rfl⟩:=h';cases e;rw[h] at h';cases h';exact⟨rfl,rfl⟩
inductive Jj (K:za) (H:Hp) (P:Addr->Prop):V->OT->List Nat->V->OT->Prop
 |nil {v t}:Jj K H P v t [] v t
 |cons {v t q xs j x s π v1 t1}:CM K H P v t q xs->xs[j]?=some x->(kids t)[j]?=some s->Jj K H P x s π v1 t1->Jj K H P v t (j::π) v1 t1
def Jj.sub {v v1:V}{t t1:OT}{π:List Nat}(h:Jj K H P v t π v1 t1):KG t π=some t1:=by
 induction h with
 |nil=>exact S1 _
 |cons _ _ hs _ ih=>rw[WR hs];exact ih
def AG.get:∀ {xs:List V}{ts:List OT}{fp:List Addr}{j:Nat}{x:V}{s:OT},AG K H P xs ts fp->xs[j]?=some x->ts[j]?=some s->∃pre fs post,fp=pre++fs++post/\C7 K H P x s fs
 |_,_,_,_,_,_,.nil,e,_=>by simp at e
 |_,_,_,0,_,_,.cons h r,e,e'=>by
  simp at e e';subst e;subst e';exact⟨[],_,_,rfl,h⟩
 |_,_,_,j+1,_,_,.cons (fp:=f1) h r,e,e'=>by
  obtain⟨pre,fs,post,z,q⟩:=AG.get r (by simpa using e) (by simpa using e');exact⟨f1++pre,fs,post,by rw[z];simp,q⟩
def AG.len:∀ {xs:List V}{ts:List OT}{fp:List Addr},AG K H P xs ts fp->xs.length=ts.length
 |_,_,_,.nil=>rfl
 |_,_,_,.cons _ r=>by rw[zj,zj,r.len]
def C7.part {v v1:V}{t t1:OT}{π:List Nat}{fp:List Addr}(h:C7 K H P v t fp)(s:Jj K H P v t π v1 t1):∃ay,C7 K H P v1 t1 ay/\(∀a∈ay,a∈fp)/\(fp.Nodup->ay.Nodup):=by
 induction s generalizing fp with
 |nil=>exact⟨fp,h,λ _ h=>h,λ h=>h⟩
 |cons n hx hs _ ih =>
  obtain⟨q,xs,fq,rfl,n',r⟩:=h.node (.inl λ z=>by rw[z] at hs;cases hs);obtain⟨rfl,rfl⟩:=n.inj n';obtain⟨pre,fs,post,rfl,o⟩:=r.get hx hs;obtain⟨ay,o1,k,kn⟩:=ih o;exact⟨ay,o1,λ a ha=>zl _ (zM _ (zl _ (k a ha))),λ nd=>kn (z9.mp (z9.mp (z9.mp nd).2.1).1).2.1⟩
def AG.put (sm:Ae (del H P) (del H' P')):∀ {xs:List V}{ts:List OT}{fp:List Addr}{j:Nat}{x:V}{s s':OT}{fs bL:List Addr},AG K H P xs ts fp->xs[j]?=some x->ts[j]?=some s->C7 K H P x s fs->C7 K H' P' x s' bL->(∀a∈fp,a∉fs->H' a=H a)->fp.Nodup->bL.Nodup->(∀a∈bL,a∈fp->a∈fs)->
 ∃ag,AG K H' P' xs (ts.set j s') ag/\ag.Nodup/\∀a∈ag,a∈bL\/(a∈fp/\a∉fs)
 |_,_,_,_,_,_,_,_,_,.nil,e,_,_,_,_,_,_,_=>by simp at e
 |_,_,_,0,x,s,s',fs,bL,.cons (fp:=f1) (fq:=f2) h r,e,e',o,o',k,nd,di,dj=>by
  simp at e e';subst e;subst e';have:=h.Cg o;subst this;have aS:=z9.mp nd;have k2:∀a∈f2,a∉f1:=λ a ha hb=>aS.2.2 a hb a ha rfl;refine⟨bL++f2,.cons o' (r.move sm λ a ha=>k a (zl _ ha) (k2 a ha)),z9.mpr ⟨di,aS.2.1,λ a ha b hb z=>?_⟩,λ a ha=>?_⟩
  ·subst z;exact k2 a hb (dj a ha (zl _ hb))
  ·rcases zy.mp ha with ha|ha
   ·exact .inl ha
   ·exact .inr ⟨zl _ ha,k2 a ha⟩
 |_,_,_,j+1,x,s,s',fs,bL,.cons (vs:=rh) (ts:=ve) (fp:=f1) (fq:=f2) h r,e,e',o,o',k,nd,di,dj=>by
  have aS:=z9.mp nd;have e2:rh[j]?=some x:=by simpa using e
  have e3:ve[j]?=some s:=by simpa using e'
  obtain⟨pre,fx,post,hf,ox⟩:=r.get e2 e3;have:=ox.Cg o;subst this;have k1:∀a∈f1,a∉fx:=λ a ha hb=>aS.2.2 a ha a (by rw[hf];exact zM _ (zl _ hb)) rfl;obtain⟨ag,q1,q2,q3⟩:=AG.put sm r e2 e3 o o' (λ a ha hn=>k a (zl _ ha) hn) aS.2.1 di (λ a ha hb=>dj a ha (zl _ hb));refine⟨f1++ag,.cons (h.move sm λ a ha=>k a (zM _ ha) (k1 a ha)) q1,z9.mpr ⟨aS.1,q2,λ a ha b hb z=>?_⟩,λ a ha=>?_⟩
  ·subst z;rcases q3 a hb with z|z
   ·exact k1 a ha (dj a z (zM _ ha))
   ·exact aS.2.2 a ha a z.1 rfl
  ·rcases zy.mp ha with ha|ha
   ·exact .inr ⟨zM _ ha,k1 a ha⟩
   ·rcases q3 a ha with z|z
    ·exact .inl z
    ·exact .inr ⟨zl _ z.1,z.2⟩
def C7.put (sm:Ae (del H P) (del H' P')){v v1:V}{t t1 u:OT}{π:List Nat}{fp ay fu:List Addr}(h:C7 K H P v t fp)(s:Jj K H P v t π v1 t1)(o:C7 K H P v1 t1 ay)(o':C7 K H' P' v1 u fu)(k:∀a∈fp,a∉ay->H' a=H a)(nd:fp.Nodup)(di:fu.Nodup)(dj:∀a∈fu,a∈fp->a∈ay):
 ∃ag,C7 K H' P' v (EK t π u) ag/\ag.Nodup/\∀a∈ag,a∈fu\/(a∈fp/\a∉ay):=by
 induction s generalizing fp with
 |nil =>
  rw[Ed];exact⟨fu,o',di,λ a ha=>.inl ha⟩
 | @cons v t q xs j x s π v1 t1 n hx hs s1 ih =>
  obtain⟨q',dh,fq,rfl,n',r⟩:=h.node (.inl λ z=>by rw[z] at hs;cases hs);obtain⟨rfl,rfl⟩:=n.inj n';have jb:=z9.mp nd;obtain⟨pre,fs,post,hf,ox⟩:=r.get hx hs;have sub:∀a∈fs,a∈fq:=λ a ha=>by rw[hf];exact zM _ (zl _ ha)
  have vg:fs.Nodup:=by
   have:=jb.2.1;rw[hf] at this;exact (z9.mp (z9.mp this).1).2.1
  obtain⟨fz,oz,kz,_⟩:=ox.part s1;have:=oz.Cg o;subst this;obtain⟨bL,q1,q2,q3⟩:=ih ox o o' (λ a ha hn=>k a (zl _ (sub a ha)) hn) vg (λ a ha hb=>dj a ha (zl _ (sub a hb)));have qf:∀a∈q,a∉fs:=λ a ha hb=>jb.2.2 a ha a (sub a hb) rfl;have kq:∀a∈q,H' a=H a:=λ a ha=>k a (zM _ ha) λ z=>qf a ha (kz a z);obtain⟨ag,p1,p2,p3⟩:=r.put sm hx hs ox q1 (λ a ha hn=>k a (zl _ ha) λ z=>hn (kz a z)) jb.2.1 q2 (λ a ha hb=>by
   rcases q3 a ha with z|z
   ·exact kz a (dj a z (zl _ hb))
   ·exact z.1)
  rw[WS hs];have n2:=(n.move sm kq).kids ((kids t).set j (EK s π u));have o2:=n2.own (fp:=ag) (by rw[Ql n];exact p1);refine⟨q++ag,o2,z9.mpr ⟨jb.1,p2,λ a ha b hb z=>?_⟩,λ a ha=>?_⟩
  ·subst z;rcases p3 a hb with z|z
   ·rcases q3 a z with y|y
    ·exact qf a ha (kz a (dj a y (zM _ ha)))
    ·exact qf a ha y.1
   ·exact jb.2.2 a ha a z.1 rfl
  ·rcases zy.mp ha with ha|ha
   ·exact .inr ⟨zM _ ha,λ z=>qf a ha (kz a z)⟩
   ·rcases p3 a ha with z|z
    ·rcases q3 a z with y|y
     ·exact .inl y
     ·exact .inr ⟨zl _ (sub a y.1),y.2⟩
    ·exact .inr ⟨zl _ z.1,λ y=>z.2 (kz a y)⟩
end
abbrev PU (P:Addr->Prop)(fp:List Addr):Addr->Prop:=λ a=>P a\/a∈fp
def KH {P:Addr->Prop}{fp:List Addr}:∀a,P a->PU P fp a:=λ a h=>.inl h
def Cz {P:Addr->Prop}{fp:List Addr}{H H':Hp}(s:Ae H H')(hn:∀a∈fp,H a=none):Ae (del H P) (del H' (PU P fp)):=λ b o e=>by
 obtain⟨h1,h2⟩:=Ao e;rw[Av λ z=>z.elim h1 λ w=>by rw[hn b w] at h2;cases h2];exact s b o h2
def Ug {P:Addr->Prop}{H:Hp}:del H (PU P [])=del H P:=by
 funext b;by_cases h:P b
 ·rw[D8 h,D8 (.inl h)]
 ·rw[Av h,Av λ z=>z.elim h λ w=>by cases w]
def IE {P:Addr->Prop}{fp:List Addr}{K:za}{H':Hp}{Q:Addr->Prop}{v:V}{t:OT}(hP:∀a,P a->Dv H' a)(o:C7 K H' Q v t fp):∀a,PU P fp a->Dv H' a:=λ a h=>h.elim (hP a) (o.C8 a)
def Vu {P:Addr->Prop}{fp:List Addr}{K:za}{H':Hp}{Q:Addr->Prop}{v:List V}{t:List OT}(hP:∀a,P a->Dv H' a)(o:AG K H' Q v t fp):∀a,PU P fp a->Dv H' a:=λ a h=>h.elim (hP a) (o.C8 a)
def An.more {K:za}{P0:E8}{P P':Addr->Prop}{H H':Hp}{σ:St}{ρ:Ad}(E:An K P0 P H σ ρ)(e:Ae H H')(hs:∀a,P a->P' a)(ht:∀a,P' a->Dv H' a)(sm:Ae (del H P) (del H' P')):An K P0 P' H' σ ρ:=by
 have keep:∀(c:Cl) (v:V) (fp:List Addr),Dq K H P c v fp->∀a∈fp,H' a=H a:=λ c v fp o a ha=>by
  obtain⟨xs,q⟩:=o.at a ha;rw[q];exact e _ _ q
 exact⟨λ a h=>hs a (E.sub a h),ht,λ i d h=>let ⟨v,h1,h2⟩:=E.val i d h;⟨v,h1,h2.mono sm⟩,
  λ i c h io=>let ⟨v,fp,h1,h2,h3,h4⟩:=E.ows i c h io;⟨v,fp,h1,h2.move sm (keep c v fp h2),λ a ha=>⟨hs a (h3 a ha).1,(h3 a ha).2⟩,h4⟩,
  λ i j c c' v v' fp ag hi hj si sj h h' ae=>E.YB sm (λ v fp _ o a ha=>keep _ _ _ o a ha) (λ v fp _ o a ha=>keep _ _ _ o a ha) hi hj si sj h h' ae,E.len,E.pin⟩
abbrev WT (K:za)(WX:Str->Hp->Prop)(P:Addr->Prop)(H:Hp)(Q:VK):M OT->Prop
 | .ok t=>∀v fp H',Ae H H'->(∀a∈fp,H a=none)->fp.Nodup->C7 K H' (PU P fp) v t fp->Q v H'
 | .ex x=>∀H',Ae H H'->WX x H'
 | .bad=>False
abbrev xZ (K:za)(WX:Str->Hp->Prop)(P:Addr->Prop)(H:Hp)(Q:List V->Hp->Prop):M (List OT)->Prop
 | .ok t=>∀v fp H',Ae H H'->(∀a∈fp,H a=none)->fp.Nodup->AG K H' (PU P fp) v t fp->Q v H'
 | .ex x=>∀H',Ae H H'->WX x H'
 | .bad=>False
def DR {H H':Hp}(s:Ae H H'){a:Addr}(h:H' a=none):H a=none:=by
 cases q:H a with
 |none=>rfl
 |some o=>rw[s a o q] at h;cases h
section
variable {K:za}{WX:Str->Hp->Prop}{P:Addr->Prop}{H H':Hp}
def WT.same {Q:VK}{m:M OT}(h:WT K WX P H Q m)(e:Ae H H'):WT K WX P H' Q m:=by
 cases m with
 |ok d=>exact λ v fp H2 q hn nd o=>h v fp H2 (e.trans q) (λ a ha=>DR e (hn a ha)) nd o
 |ex x=>exact λ H2 q=>h H2 (e.trans q)
 |bad=>exact h
end
abbrev DN (X:Cx)(WX:Str->Hp->Prop)(e:Expr)(f:Ad->M OT):Prop:=
 ∃t,PE X e t/\∀P0 P σ H Q ρ,An X.K P0 P H σ ρ->WT X.K WX P H Q (f ρ)->t σ H Q
abbrev sN (X:Cx)(WX:Str->Hp->Prop)(es:List Expr)(f:Ad->M (List OT)):Prop:=
 ∃t,PA X es t/\(∀P0 P σ H Q ρ,An X.K P0 P H σ ρ->xZ X.K WX P H Q (f ρ)->t σ H Q)/\∀ρ ts,f ρ=.ok ts->ts.length=es.length
abbrev sO (d:D):M OT:=.ok (.sh d)
abbrev pS (t:OT):M D:=.ok (er t)
section
variable {X:Cx}{WX:Str->Hp->Prop}{c:Bool}{P0:E8}{P:Addr->Prop}{H:Hp}{σ:St}{ρ:Ad}{a b e:Expr}{f g:Ad->M D}{fn:Ad->M OT}{pos:Pos}{es:List Expr}
def AX (h:DE X WX true e f):DN X WX e (λ ρ=>(f ρ).bind sO):=by
 obtain⟨t,h1,h2⟩:=h;refine⟨t,h1,λ P0 P σ H Q ρ E g=>h2 P0 P σ H Q ρ E ?_⟩;dsimp only at g;cases q:f ρ with
 |bad|ex x=>rw[q] at g;exact g
 |ok d=>rw[q] at g;exact λ v H' s hv=>g v [] H' s (λ a ha=>by cases ha) yY (.sh (by rw[Ug];exact hv))
def Ai (h:DN X WX e fn):DE X WX c e (λ ρ=>(fn ρ).bind pS):=by
 suffices z:DE X WX true e (λ ρ=>(fn ρ).bind pS) by
  cases c with
  |true=>exact z
  |false=>exact U4 z
 obtain⟨t,h1,h2⟩:=h;refine⟨t,h1,λ P0 P σ H Q ρ E g=>h2 P0 P σ H Q ρ E ?_⟩;dsimp only at g;cases q:fn ρ with
 |bad|ex x=>rw[q] at g;exact g
 |ok d =>
  rw[q] at g;exact λ v fp H' s hn nd o=>g v H' s (o.has KH λ a ha z=>(E.C8 a z).no (hn a ha))
def CU:sN X WX [] (λ _=>.ok []):=⟨_,Cn,λ P0 P σ H Q ρ E h=>h [] [] H (Ae.refl H) (λ a ha=>by cases ha) yY .nil,λ ρ ds h=>by cases h;rfl⟩
def Jk {es:List Expr}{fs:Ad->M (List OT)}(he:DN X WX e fn)(hr:sN X WX es fs)(hs: ~~~(starEach (e::es) X.env=(false,eval e X.env)::starEach es X.env)):
 sN X WX (e::es) (λ ρ=>(fn ρ).bind λ d=>(fs ρ).bind λ ds=>.ok (d::ds)):=by
 obtain⟨te,e1,e2⟩:=he;obtain⟨tr,r1,r2,r3⟩:=hr;refine⟨_,Bp e1 r1 hs,λ P0 P σ H Q ρ E h=>?_,λ ρ ds h=>?_⟩
 rotate_left
 ·dsimp only at h;cases q:fn ρ with
  |bad|ex x=>rw[q] at h;cases h
  |ok x =>
   rw[q] at h;cases q2:fs ρ with
   |bad|ex x=>rw[q2] at h;cases h
   |ok xs =>
    rw[q2] at h;cases h;rw[zj,zj,r3 ρ xs q2]
 dsimp only at h;refine e2 P0 P σ H _ ρ E ?_;cases q:fn ρ with
 |bad|ex x=>rw[q] at h;exact h
 |ok x =>
  rw[q] at h;intro v fp H1 s1 n1 fv o1;have E1:An X.K P0 (PU P fp) H1 σ ρ:=E.more s1 KH (IE (E.same s1).C8 o1) (Cz s1 n1);refine r2 P0 (PU P fp) σ H1 _ ρ E1 ?_;cases q2:fs ρ with
  |bad=>rw[q2] at h;exact h
  |ex y=>rw[q2] at h;exact λ H' s=>h H' (s1.trans s)
  |ok ds =>
   rw[q2] at h;intro vs fq H2 s2 n2 aS o2;have dj:∀a∈fp,a∉fq:=λ a ha hb=>(o1.C8 a ha).no (n2 a hb);have eP:PU (PU P fp) fq=PU P (fp++fq):=by
    funext a;simp only[PU,zy,or_assoc]
   have sm:Ae (del H1 (PU P fp)) (del H2 (PU P (fp++fq))):=by rw[<-eP];exact Cz s2 n2
   refine h _ (fp++fq) H2 (s1.trans s2) (λ a ha=>?_) (z9.mpr ⟨fv,aS,λ a ha b hb z=>dj a ha (by rw[z];exact hb)⟩) (.cons (o1.move sm λ a ha=>?_) (by rw[<-eP];exact o2))
   ·rcases zy.mp ha with ha|ha
    ·exact n1 a ha
    ·exact DR s1 (n2 a ha)
   ·obtain⟨o,z,_⟩:=o1.C8 a ha;rw[z];exact s2 _ _ z
def nO {P:Addr->Prop}{fp:List Addr}{p:Addr}{H:Hp}{o:HO}(hn:H p=none)(hP:∀a,PU P fp a->Dv H a):Ae (del H (PU P fp)) (del (upd H p o) (PU P (p::fp))):=λ b u e=>by
 obtain⟨h1,h2⟩:=Ao e;have hb:b≠p:=Ay h2 hn;rw[Av λ z=>z.elim (λ z=>h1 (.inl z)) λ w=>(zp.mp w).elim hb λ w=>h1 (.inr w),Aj hb];exact h2
def Fq {fs:Ad->M (List OT)}(ha:sN X WX es fs)(hz:es.length<=1000:=by decide):DN X WX (.List es pos) (λ ρ=>(fs ρ).bind λ ts=>.ok (.lst ts)):=by
 obtain⟨ta,a1,a2,a3⟩:=ha;refine⟨_,Q1 a1,λ P0 P σ H Q ρ E h=>?_⟩;dsimp only at h;refine a2 P0 P σ H _ ρ E ?_;cases q:fs ρ with
 |bad|ex y=>rw[q] at h;exact h
 |ok ts =>
  rw[q] at h;simp only[M.A9] at h;intro vs fp H1 s1 n1 fv o1;have hP:=Vu (E.same s1).C8 o1;refine⟨yQ (AD (by rw[o1.len,a3 ρ ts q];exact hz)),λ p hp=>?_⟩;have ae:∀a∈fp,a≠p:=λ a ha z=>(o1.C8 a ha).no (by rw[z];exact hp);exact h _ (p::fp) _ (s1.trans (AQ hp _)) (λ a ha=>(zp.mp ha).elim (λ z=>by rw[z];exact DR s1 hp) (n1 a)) (zW.mpr ⟨λ z=>ae p z rfl,fv⟩) (.lst Aq (o1.move (nO hp hP) λ a ha=>Aj (ae a ha)))
def fW {P:Addr->Prop}{fp:List Addr}{p:Addr}{H:Hp}{o:HO}(hn:H p=none)(hP:∀a,PU P fp a->Dv H a):Ae (del H (PU P fp)) (del (upd H p o) (PU P fp)):=λ b u e=>by
 obtain⟨h1,h2⟩:=Ao e;have hb:b≠p:=Ay h2 hn;rw[Av h1,Aj hb];exact h2
def Z4 {fs:Ad->M (List OT)}{x1}(ha:sN X WX es fs)(hz:es.length<=1000:=by decide):DN X WX (.Tuple es x1 pos) (λ ρ=>(fs ρ).bind λ ts=>.ok (.tup ts)):=by
 obtain⟨ta,a1,a2,a3⟩:=ha;refine⟨_,Yh a1,λ P0 P σ H Q ρ E h=>?_⟩;dsimp only at h;refine a2 P0 P σ H _ ρ E ?_;cases q:fs ρ with
 |bad|ex y=>rw[q] at h;exact h
 |ok ts =>
  rw[q] at h;simp only[M.A9] at h;intro vs fp H1 s1 n1 fv o1;have hP:=Vu (E.same s1).C8 o1;refine⟨yQ (AD (by rw[o1.len,a3 ρ ts q];exact hz)),λ p hp=>?_⟩;have ae:∀a∈fp,a≠p:=λ a ha z=>(o1.C8 a ha).no (by rw[z];exact hp);refine h _ fp _ (s1.trans (AQ hp _)) n1 fv (.tup ?_ (o1.move (fW hp hP) λ a ha=>Aj (ae a ha)));rw[Av λ z=>(hP p z).no hp];exact Aq
def Ag.ows {K:za}{H:Hp}{P:Addr->Prop}:∀ {xs:List V}{ds:List D},Ag K (del H P) xs ds->AG K H P xs (ds.map .sh) []:=by
 intro _ _ x_;cases x_ with
 |nil=>exact .nil
 |cons h t=>exact .cons (.sh h) t.ows
def WT.KI {K:za}{WX:Str->Hp->Prop}{P:Addr->Prop}{H H1:Hp}{Q:VK}{xs:List V}{ds:List D}(h:WT K WX P H Q (.ok (.lst (ds.map .sh))))(s1:Ae H H1)(hx:Ag K (del H1 P) xs ds):∀p,H1 p=none->Q (.ref p) (upd H1 p (.lst xs)):=λ p hp=>by
 have hn:∀a∈[p],H1 a=none:=λ a ha=>by rw[zg.mp ha];exact hp
 exact h _ [p] _ (s1.trans (AQ hp _)) (λ a ha=>DR s1 (hn a ha)) (by simp) (.lst Aq (hx.mono (Cz (AQ hp _) hn)).ows)
def AG.nQ {K:za}{H:Hp}{P:Addr->Prop}:∀ {xs:List V}{ds:List D}{fp:List Addr},AG K H P xs (ds.map .sh) fp->fp=[]/\Ag K (del H P) xs ds
 |_,[],_,.nil=>⟨rfl,.nil⟩
 |_,d::ds,_,.cons (.sh h) r=>by
  obtain⟨rfl,q⟩:=AG.nQ r;exact⟨rfl,.cons h q⟩
abbrev Jl:Cl->Cl
 | .val d=>.val d
 | .own ds=>.val (.lst ds)
 | .ow (.rows C4)=>.val (.lst (C4.map D.lst))
 | .ow (.LN _ ds)=>.val (.lst ds)
 | .ow (.tree _ t)=>.val (er t)
abbrev EC (ρ:Ad):Ad:=ρ.map λ o=>o.map Jl
@[simp] theorem Jm:EC []=[]:=rfl
@[simp] theorem Hv (ρ:Ad):EC (none::ρ)=none::EC ρ:=rfl
@[simp] theorem Hw (c:Cl) (ρ:Ad):EC (some c::ρ)=some (Jl c)::EC ρ:=rfl
def An.low {K:za}{P0:E8}{P:Addr->Prop}{H:Hp}{σ:St}{ρ:Ad}(E:An K P0 P H σ ρ):An K P0 P0 H σ (EC ρ):=by
 have key:∀(i:Nat) (c:Cl),(EC ρ)[i]?=some (some c)->∃c',ρ[i]?=some (some c')/\c=Jl c':=λ i c h=>by
  unfold EC at h;rw[z7] at h;cases q:ρ[i]? with
  |none=>rw[q] at h;cases h
  |some o =>
   rw[q] at h;cases o with
   |none=>cases h
   |some c'=>cases h;exact⟨c',rfl,rfl⟩
 have n9:∀c,HX (Jl c)=false:=λ c=>by
  cases c with
  |val d|own ds=>rfl
  |ow o=>cases o<;>rfl
 have jc:∀c,OQ (Jl c)=none:=λ c=>by
  cases c with
  |val d|own ds=>rfl
  |ow o=>cases o<;>rfl
 have vh:∀c v fp,¬ Dq K H P0 (Jl c) v fp:=λ c v fp h=>by
  cases c with
  |val d|own ds=>exact h
  |ow o=>cases o<;>exact h
 refine⟨λ _ h=>h,λ a h=>E.C8 a (E.sub a h),λ i d h=>?_,λ i c h io=>?_,λ i j c c' v v' fp ag hi hj si sj h h' ae=>?_,by unfold EC;rw[zc];exact E.len,λ i c n h hp=>by obtain⟨c',h1,rfl⟩:=key i _ h;rw[jc] at hp;cases hp⟩
 ·obtain⟨c,h1,h2⟩:=key i _ h;cases c with
  |val d' =>
   cases h2;obtain⟨v,q1,q2⟩:=E.val i d h1;exact⟨v,q1,q2.mono (CS E.sub)⟩
  |own ds =>
   cases h2;obtain⟨p,xs,q1,q2,q3,q4,q5⟩:=E.own i ds h1;exact⟨_,q1,.lst (.of (show del H P0 p=_ by rw[Av q4];exact q2)) (q5.mono (CS E.sub))⟩
  |ow o =>
   obtain⟨v,fp,q1,q2,q3,q4⟩:=E.ows i _ h1 rfl;cases o with
   |rows C4 =>
    cases h2;obtain⟨p,ps,rfl,rfl,q5,q6⟩:=q2;exact⟨_,q1,.lst (.of (show del H P0 p=_ by rw[Av (q3 p zd).2];exact q5)) (q6.nF E.sub λ a ha=>(q3 a (ze _ ha)).2)⟩
   |LN p ds =>
    cases h2;obtain⟨p,xs,rfl,rfl,q5,q6⟩:=q2;exact⟨_,q1,.lst (.of (show del H P0 p=_ by rw[Av (q3 p zd).2];exact q5)) (q6.mono (CS E.sub))⟩
   |tree p t =>
    cases h2;exact⟨_,q1,C7.has E.sub (λ a ha=>(q3 a ha).2) q2⟩
 ·obtain⟨c',h1,rfl⟩:=key i _ h;rw[n9] at io;cases io
 ·obtain⟨c1,h1,rfl⟩:=key i _ hi;exact (vh _ _ _ h).elim
def nR {c:Bool}(h:DE X WX c e f):DE X WX false e (λ ρ=>f (EC ρ)):=by
 obtain⟨t,h1,h2⟩:=h;refine⟨t,h1,λ P0 P σ H Q ρ E g=>h2 P0 P0 σ H Q (EC ρ) E.low ?_⟩;have e:Lv c P0 P0=P0:=by cases c<;>rfl
 rw[e];exact g
def KJ {ft:Ad->M Bool}(h:DT X WX e ft):DT X WX e (λ ρ=>ft (EC ρ)):=by
 obtain⟨t,h1,h2⟩:=h;exact⟨t,h1,λ P0 P σ H Q ρ E g=>h2 P0 P0 σ H Q (EC ρ) E.low g⟩
mutual
noncomputable def Gy:OT->Bool
 | .sh d=>Jh d
 | .lst ts| .tup ts| .Bq _ _ ts| .ins _ _ ts=>FV ts
noncomputable def FV:List OT->Bool
 |[]=>true
 |t::r=>Gy t&&FV r
end
mutual
theorem C7.clean {K:za}{H:Hp}{P P':Addr->Prop}(ht:∀a,P' a->Dv H a):∀ {v:V}{t:OT}{fp:List Addr},Gy t=true->C7 K H P v t fp->C7 K H P' v t fp:=by
 intro _ _ _ n x_;cases x_ with
 |sh h=>exact .sh (h.Jh ht (by rw[Gy] at n;exact n))
 |lst h r=>exact .lst h (AG.clean ht (by rw[Gy] at n;exact n) r)
 |tup h r=>exact .tup (Vq ht h) (AG.clean ht (by rw[Gy] at n;exact n) r)
 |dK h r=>exact .dK h (AG.clean ht (by rw[Gy] at n;exact n) r)
 |dT h r=>exact .dT h (AG.clean ht (by rw[Gy] at n;exact n) r)
 |ins x h r=>exact .ins x h (AG.clean ht (by rw[Gy] at n;exact n) r)
theorem AG.clean {K:za}{H:Hp}{P P':Addr->Prop}(ht:∀a,P' a->Dv H a):∀ {v:List V}{t:List OT}{fp:List Addr},FV t=true->AG K H P v t fp->AG K H P' v t fp:=by
 intro _ _ _ n x_;cases x_ with
 |nil=>exact .nil
 |cons h r =>
  rw[FV,zF] at n;exact .cons (C7.clean ht n.1 h) (AG.clean ht n.2 r)
end
abbrev Tv (m:M OT):M OT:=m.bind λ t=>if Gy t=true then .ok t else .bad
def Ee (h:DN X WX e fn):DN X WX e (λ ρ=>Tv (fn (EC ρ))):=by
 obtain⟨t,h1,h2⟩:=h;refine⟨t,h1,λ P0 P σ H Q ρ E g=>h2 P0 P0 σ H Q (EC ρ) E.low ?_⟩;unfold Tv at g;dsimp only at g;cases q:fn (EC ρ) with
 |bad|ex x=>rw[q] at g;exact g
 |ok t =>
  rw[q] at g;simp only[M.A9] at g;by_cases hf:Gy t=true
  ·rw[if_pos hf] at g;exact λ v fp H' s hn nd o=>g v fp H' s hn nd (o.clean (IE (E.same s).C8 o) hf)
  ·rw[if_neg hf] at g;exact g.elim
abbrev KI (d:D):M OT:=match d with
 | .lst ds| .tup ds=>.ok (.lst (ds.map .sh))
 |_=>.bad
def Hx {p:Pos}(hg:Gl X "list")(hm:X.mg "list" = none)(ha:DE X WX true e f)(hb:bootBuiltins "list" = some (.type "list"):=by decide +kernel)(aJ: ~~~(starEach [e] X.env=[(false,eval e X.env)])):
 DN X WX (.Call (.Name "list" p) [e] [] pos) (λ ρ=>(f ρ).bind KI):=by
 obtain⟨ta,a1,a2⟩:=ha;refine⟨_,OJ Q8 hg hm hb (Bp a1 Cn aJ) (he:=aJ),λ P0 P σ H Q ρ E h=>?_⟩;dsimp only at h;refine a2 P0 P σ H _ ρ E ?_;refine XO h λ d h=>?_;intro v H1 s1 hv;unfold KI at h;split at h
 ·cases hv with
  |lst hs hh=>exact⟨_,_,rfl,.inl hs.B7,h.KI s1 hh⟩
 ·cases hv with
  |tup hs hh=>exact⟨_,_,rfl,.inr (Fe.of (Ao hs).2),h.KI s1 hh⟩
 ·exact h.elim
abbrev xB (K:za)(WX:Str->Hp->Prop)(r:R2)(aL:D->D->M OT):Prop:=
 ∀(P:Addr->Prop) (H:Hp) (x y:D) (v w:V) (Q:VK),(∀a,P a->Dv H a)->BX K (del H P) v x->BX K (del H P) w y->WT K WX P H Q (aL x y)->r v w H Q
def sP {ta tb:TE}{r:R2}{aL:D->D->M OT}(ha:∀P0 P σ H Q ρ,An X.K P0 P H σ ρ->gV X.K WX (Lv true P0 P) H Q (f ρ)->ta σ H Q)(hb:∀P0 P σ H Q ρ,An X.K P0 P H σ ρ->gV X.K WX (Lv true P0 P) H Q (g ρ)->tb σ H Q)
 (hr:xB X.K WX r aL) {Q:VK} (E:An X.K P0 P H σ ρ) (h:WT X.K WX P H Q ((f ρ).bind λ x=>(g ρ).bind λ y=>aL x y)):pO r ta tb σ H Q:=by
 refine ha P0 P σ H _ ρ E ?_;cases e:f ρ with
 |bad|ex x=>rw[e] at h;exact h
 |ok x =>
  rw[e] at h;intro v H1 s1 hv;refine hb P0 P σ H1 _ ρ (E.same s1) ?_;cases e2:g ρ with
  |bad=>rw[e2] at h;exact h
  |ex y=>rw[e2] at h;exact λ H' s=>h H' (s1.trans s)
  |ok y =>
   rw[e2] at h;intro w H2 s2 hw;exact hr _ H2 x y v w Q ((E.same s1).same s2).C8 (hv.mono s2.del) hw ((h.same s1).same s2)
abbrev S2 (x y:D):M OT:=match x,y with
 | .lst a,.lst b=>if a.length+b.length<=1000 then .ok (.lst ((a++b).map .sh)) else .bad
 |_,_=>.bad
end
abbrev spT (K:za)(n:Nat)(F:List D->M OT):Sp:=λ vs H Q E=>vs.length=n/\∃P ds,(∀a,P a->Dv H a)/\Ag K (del H P) vs ds/\WT K (D2 K E) P H Q (F ds)
abbrev sQ:Cl->M OT
 | .val d=>.ok (.sh d)
 | .own ds=>.ok (.lst (ds.map .sh))
 | .ow (.rows C4)=>.ok (.lst (C4.map λ ds=>.lst (ds.map .sh)))
 | .ow (.LN _ _)=>.bad
 | .ow (.tree none t)=>.ok t
 | .ow (.tree (some _) _)=>.bad
abbrev Z5 (m:M Out):M OT:=match m with
 | .ok (.ret d)=>.ok (.sh d)
 | .ok (.CQ c)=>sQ c
 | .ok (.next _)=>.ok (.sh .AK)
 | .ex x=>.ex x
 |_=>.bad
def BI.ows {K:za}{H:Hp}{P:Addr->Prop}:∀ {ps:List Addr}{C4:List (List D)},BI K H P ps C4->AG K H P (ps.map V.ref) (C4.map λ ds=>.lst (ds.map .sh)) ps:=by
 intro _ _ x_;cases x_ with
 |nil=>exact .nil
 |cons h r t=>exact .cons (.lst h r.ows) t.ows
def Dq.tree {K:za}{H:Hp}{P:Addr->Prop}{c:Cl}{v:V}{fp:List Addr}{t:OT}(h:Dq K H P c v fp)(e:sQ c=.ok t):C7 K H P v t fp:=by
 cases c with
 |val d=>exact h.elim
 |own ds =>
  cases e;obtain⟨p,xs,rfl,rfl,h1,h2⟩:=h;exact .lst h1 h2.ows
 |ow o =>
  cases o with
  |rows C4 =>
   cases e;obtain⟨p,ps,rfl,rfl,h1,h2⟩:=h;exact .lst h1 h2.ows
  |LN p ds=>cases e
  |tree p t' =>
   cases p with
   |none=>cases e;exact h
   |some q=>cases e
section
variable {P:Program}{w:World}{K:za}{mg:Str->Option Value}{base:Heap}
def fX {WX:Str->Hp->Prop}{P P2:Addr->Prop}{H H':Hp}{Q:VK}{c:Cl}{v:V}{fp:List Addr}(h:WT K WX P H Q (sQ c))(t:Tr P P H P2 H')(hs:∀a,P a->P2 a)(ho:Dq K H' P2 c v fp)(hp:∀a∈fp,P2 a/\¬ P a)(nd:fp.Nodup):Q v H':=by
 cases q:sQ c with
 |bad=>rw[q] at h;exact h.elim
 |ex x=>cases c with
  |val d|own ds=>cases q
  |ow o =>
   cases o with
   |rows C4|LN p ds=>cases q
   |tree p t'=>cases p<;>cases q
 |ok u =>
  rw[q] at h;have o:=ho.tree q;refine h v fp H' (DC t) (λ a ha=>nM t (hp a ha).1 (hp a ha).2) nd (o.move (CS λ a ha=>ha.elim (hs a) λ z=>(hp a z).1) λ _ _=>rfl)
def sR {x qual:Str}{st:Stmt}{f:Addr}{fd:FuncData}{N ps:List Str}{k:Nat}(F:XN K x qual st f fd)(S:Ac N ps (A5 st))(g:Ad->M Out)
 (hb:∀(B4:Value) (A:Around) (outer:List Env) (s:Shared) (H:Hp) (E:XK),BE k (A.deeper (envOfC qual (A5 st) s.heap.objs.size f B4))->Tu (jZ P w K mg base N qual (A5 st) f B4 A outer s H E) (D2 K E) (AR st) g):
 Dn P w K mg base (Ua P w base) (k+1) f fd ps (spT K ps.length λ ds=>Z5 (g (AE N ds))):=by
 obtain⟨oc,od,kV,doc,pm,an,B4,ct,Tt,rfl,lk,aX⟩:=F.ex;refine V5 lk aX S (λ vs H Q E h=>h.1) λ A outer s H vs Q E hr h=>?_;obtain⟨hl,P',ds,ht,hv,hq⟩:=h;obtain⟨t,h1,h2⟩:=hb B4 A outer s H E hr;refine⟨t,h1,h2 ⟨P',λ _=>0⟩ P' _ H _ _ (OV ht hv) ?_⟩;dsimp only at hq;revert hq;cases g (AE N ds) with
 |bad=>exact λ h=>h.elim
 |ex x=>exact λ h H' P2 t=>h H' (DC t)
 |ok o =>
  cases o with
  |ret d=>exact λ h v H' P2 t hv=>h v [] H' (DC t) (λ a ha=>by cases ha) yY (.sh (by rw[Ug];exact hv))
  |next ρ=>exact λ h σ' H' P2 t E=>h .AK [] H' (DC t) (λ a ha=>by cases ha) yY (.sh .AK)
  |brk ρ|cont ρ=>exact λ h=>h.elim
  |CQ c=>exact λ h v fp H' P2 t hs ht ho hp nd=>fX h t hs ho hp nd
  |EY d ρ=>exact λ h=>h.elim
end
structure BD (P:Program)(w:World)(K:za)(mg:Str->Option Value)(base:Heap)(x:Str)(k n:Nat)(F:List D->M OT):Prop where
 ex:∃fa fd ps,Dn P w K mg base (Ua P w base) k fa fd ps (spT K n F)/\mg x=some (.ref fa)/\zX K (.ref fa)=true/\Binds K fd ps []
def Ax {P:Program}{w:World}{K:za}{mg:Str->Option Value}{base:Heap}{x:Str}{st:Stmt}{N ps:List Str}{k n:Nat}(T:AI K mg x st ps)(S:Ac N ps (A5 st))(g:Ad->M Out)(hb:∀(f:Addr) (B4:Value) (A:Around) (outer:List Env) (s:Shared) (H:Hp) (E:XK),BE k (A.deeper (envOfC x (A5 st) s.heap.objs.size f B4))->Tu (jZ P w K mg base N x (A5 st) f B4 A outer s H E) (D2 K E) (AR st) g)(hn: ~~~(ps.length=n)):
 BD P w K mg base x (k+1) n (λ ds=>Z5 (g (AE N ds))):=by
 obtain⟨f,fd,F,hm,hB⟩:=T.ex;subst hn;exact⟨⟨f,fd,ps,sR F S g (hb f),hm,F.kp,hB⟩⟩
section
variable {X:Cx}{E:XK}{WX:Str->Hp->Prop}{c:Bool}{e:Expr}{es:List Expr}{fs:Ad->M (List D)}{f:Ad->M D}{fn:Ad->M OT}{ft:Ad->M Bool}{pos:Pos}
def Ab {k n:Nat}{F:List D->M OT}{x:Str}{p:Pos}(xo:FU X E)(G:BD X.prog X.w X.K X.mg X.base x k n F)(hr:BE k X.A)(hg:Gl X x)(ha:DA X (D2 X.K E) true (e::es) fs)(hn:(e::es).length=n)(aP:(x==("__debug__" : Str))=false:=by decide)(he: ~~~(starEach (e::es) X.env=(false,eval e X.env)::starEach es X.env))(ao: ~~~((backTo pos (starEach es X.env)).any (·.1)=false)):
 DN X (D2 X.K E) (.Call (.Name x p) (e::es) [] pos) (λ ρ=>(fs ρ).bind F):=by
 obtain⟨fa,fd,ps,hF,hm,hk,hb⟩:=G.ex;obtain⟨ta,a1,a2,a3⟩:=ha;refine⟨_,V3 hF hr hg hm hk hb .nil xo.call a1 aP he ao,λ P0 P σ H Q ρ E h=>?_⟩;dsimp only at h;refine a2 P0 P σ H _ ρ E ?_;cases q:fs ρ with
 |bad|ex x=>rw[q] at h;exact h
 |ok ds =>
  rw[q] at h;simp only[M.A9] at h;intro vs H1 s1 a4;rw[zI];exact⟨by rw[a4.length,a3 ρ ds q];exact hn,P,ds,(E.same s1).C8,a4,h.same s1⟩
def C9 (h:DN X WX e fn):DN X (λ _ _=>False) e fn:=by
 obtain⟨t,h1,h2⟩:=h;refine⟨t,h1,λ P0 P σ H Q ρ E g=>h2 P0 P σ H Q ρ E ?_⟩;cases q:fn ρ with
 |bad=>rw[q] at g;exact g
 |ex x=>rw[q] at g;exact (g H (Ae.refl H)).elim
 |ok t=>rw[q] at g;exact g
abbrev Z6 (t:OT):M Out:=match t with
 | .sh d=>.ok (.ret d)
 |t=>.ok (.CQ (.ow (.tree none t)))
end
section
variable {X:Cx}{WX:Str->Hp->Prop}{c:Bool}{P0:E8}{P:Addr->Prop}{H:Hp}{σ:St}{ρ:Ad}{a b e:Expr}{f g:Ad->M D}{fn:Ad->M OT}{pos:Pos}
def An.uF {K:za}{H':Hp}{fp:List Addr}(E:An K P0 P H σ ρ)(s:Ae H H')(hn:∀a∈fp,H a=none):Tr P0 P H (PU P fp) H':=
 ⟨Cz s hn,λ a ha=>by obtain⟨o,q,_⟩:=E.C8 a (E.sub a ha);rw[q];exact s _ _ q⟩
def Ak (ha:DN X WX e fn):DS X WX (.Return (some e) pos) (λ ρ=>(fn ρ).bind Z6):=by
 obtain⟨ta,a1,a2⟩:=ha;refine⟨_,TF a1,λ P0 P σ H Z ρ E h=>?_⟩;dsimp only at h;refine a2 P0 P σ H _ ρ E ?_;refine dI h E λ t h=>?_;intro v fp H' s hn nd o;have key:gS X.K WX P0 P H Z (.ok (.CQ (.ow (.tree none t))))->Z.rt v H':=λ h =>
  h v fp H' (PU P fp) (E.uF s hn) (λ a ha=>.inl (E.sub a ha)) (IE (E.same s).C8 o) o (λ a ha=>⟨.inr ha,λ z=>(E.C8 a (E.sub a z)).no (hn a ha)⟩) nd
 cases t with
 |sh d =>
  cases o with
  |sh hv=>exact h v H' P (E.tr s) (hv.mono (CS λ a ha=>.inl (E.sub a ha)))
 |lst ts|tup ts|Bq b ks ts|ins x ns ts=>exact key h
abbrev Dz:List OT->Option (List D)
 |[]=>some []
 | .sh d::r=>(Dz r).map (d::·)
 |_::_=>none
def CN:∀ds:List D,Dz (ds.map .sh)=some ds
 |[]=>rfl
 |d::r=>by rw[zf,Dz,CN r];rfl
def CG:∀ {ts:List OT}{ds:List D},Dz ts=some ds->ts=ds.map .sh
 |[],ds,h=>by cases h;rfl
 | .sh d::r,ds,h=>by
  rw[Dz] at h;cases q:Dz r with
  |none=>rw[q] at h;cases h
  |some es=>rw[q] at h;cases h;rw[zf,<-CG q]
 | .lst _::r,ds,h| .tup _::r,ds,h| .Bq _ _ _::r,ds,h| .ins _ _ _::r,ds,h=>by cases h
abbrev toCl (p:Option Nat)(t:OT):Cl:=match t with
 | .lst ts=>(match Dz ts with
  |some ds=>(match p with|none=>.own ds|some q=>.ow (.LN q ds))
  |none=>.ow (.tree p (.lst ts)))
 |t=>.ow (.tree p t)
@[simp] theorem toCl_list (ds:List D):toCl none (.lst (ds.map .sh))=.own ds:=by unfold toCl;simp only[CN]
@[simp] theorem toCl_listP (q:Nat) (ds:List D):toCl (some q) (.lst (ds.map .sh))=.ow (.LN q ds):=by unfold toCl;simp only[CN]
@[simp] theorem toCl_dct (p:Option Nat) (b:Bool) (ks:List D) (ts:List OT):toCl p (.Bq b ks ts)=.ow (.tree p (.Bq b ks ts)):=rfl
abbrev treeOf:Cl->Option (Option Nat×OT)
 | .own ds=>some (none,.lst (ds.map .sh))
 | .ow (.LN p ds)=>some (some p,.lst (ds.map .sh))
 | .ow (.rows C4)=>some (none,.lst (C4.map λ ds=>.lst (ds.map .sh)))
 | .ow (.tree p t)=>some (p,t)
 | .val _=>none
def Dq.toT {K:za}{H:Hp}{P:Addr->Prop}{c:Cl}{v:V}{fp:List Addr}{p:Option Nat}{t:OT}(h:Dq K H P c v fp)(e:treeOf c=some (p,t)):C7 K H P v t fp:=by
 cases c with
 |val d=>exact h.elim
 |own ds =>
  cases e;obtain⟨p,xs,rfl,rfl,h1,h2⟩:=h;exact .lst h1 h2.ows
 |ow o =>
  cases o with
  |rows C4 =>
   cases e;obtain⟨p,ps,rfl,rfl,h1,h2⟩:=h;exact .lst h1 h2.ows
  |LN p ds =>
   cases e;obtain⟨p,xs,rfl,rfl,h1,h2⟩:=h;exact .lst h1 h2.ows
  |tree p t'=>cases e;exact h
def Dq.toCl {K:za}{H:Hp}{P:Addr->Prop}{v:V}{fp:List Addr}{p:Option Nat}{t:OT}(h:C7 K H P v t fp):Dq K H P (toCl p t) v fp:=by
 unfold L2.toCl;split
 ·rename_i ts;cases q:Dz ts with
  |none=>exact h
  |some ds =>
   have e:=CG q;subst e;cases h with
   |lst h1 h2 =>
    obtain⟨rfl,h3⟩:=h2.nQ;cases p with
    |none|some q=>exact⟨_,_,rfl,rfl,h1,h3⟩
 ·exact h
def IF (p:Option Nat)(t:OT):OQ (toCl p t)=p:=by
 unfold toCl;split
 ·rename_i ts;cases q:Dz ts with
  |none|some ds=>cases p<;>rfl
 ·cases p<;>rfl
def IG {c:Cl}{p:Option Nat}{t:OT}(h:treeOf c=some (p,t)):OQ c=p:=by
 cases c with
 |val d=>cases h
 |own ds=>cases h;rfl
 |ow o =>
  cases o with
  |rows C4|LN p ds=>cases h;rfl
  |tree p t=>cases h;cases p<;>rfl
abbrev S3 (i:Nat)(ρ:Ad)(t:OT):M Out:=match t with
 | .sh d=>.ok (.next (ρ.set i (some (.val d))))
 |t=>.ok (.next (ρ.set i (some (toCl none t))))
def kC {K:za}{i:Nat}{t:OT}{v:V}{fp:List Addr}{H':Hp}{Z:Ends}(E:An K P0 P H σ ρ)(s:Ae H H')(hn:∀a∈fp,H a=none)(nd:fp.Nodup)(o:C7 K H' (PU P fp) v t fp)(h:gS K WX P0 P H Z (S3 i ρ t)):Z.nx (σ.set i (some v)) H':=by
 have key:gS K WX P0 P H Z (.ok (.next (ρ.set i (some (toCl none t)))))->Z.nx (σ.set i (some v)) H':=λ h=>by
  refine h _ H' (PU P fp) (E.uF s hn) (E.WG KH (IE (E.same s).C8 o) (Cz s hn) (λ j c' v' ag ae g1 g2 g3 a ha=>?_) (Dq.toCl o) (λ a ha=>⟨.inr ha,λ z=>(E.C8 a (E.sub a z)).no (hn a ha)⟩) nd (λ n z=>by rw[IF] at z;cases z));obtain⟨xs,z⟩:=g3.at a ha;exact⟨by rw[z];exact s _ _ z,λ w=>by rw[hn a w] at z;cases z⟩
 cases t with
 |sh d =>
  cases o with
  |sh hv=>exact h _ H' P (E.tr s) ((E.same s).WE (by rw[Ug] at hv;exact hv))
 |lst ts|tup ts|Bq b ks ts|ins x ns ts=>exact key h
def Bx (i:Nat){x:Str}{pos':Pos}(hN:X.N.Nodup)(hi:X.N[i]?=some x)(hx:Loc X.env.scope x)(ha:DN X WX e fn)(hs: ~~~(swapsWith e (some (.Name x pos')) pos.line X.env=pure false))(hf:X.fn x=true\/X.env.scope.names.lookup x=some .local:=by first | exact .inl rfl | exact .inr rfl | assumption):
 DS X WX (.Assign [.Name x pos'] e pos) (λ ρ=>(fn ρ).bind (S3 i ρ)):=by
 obtain⟨ta,a1,a2⟩:=ha;refine⟨_,TH hN hi hx a1 hs hf,λ P0 P σ H Z ρ E h=>?_⟩;dsimp only at h;refine a2 P0 P σ H _ ρ E ?_;cases q:fn ρ with
 |bad=>rw[q] at h;exact h
 |ex x=>rw[q] at h;exact λ H' s=>h H' P (E.tr s)
 |ok t =>
  rw[q] at h;exact λ v fp H' s hn nd o=>kC E s hn nd o h
abbrev Uh (i:Nat)(ρ:Ad):M Out:=match ρ[i]? with
 |some (some (.val d))=>.ok (.ret d)
 |some (some c)=>.ok (.CQ c)
 |_=>.bad
def Ci (i:Nat){x:Str}{p1:Pos}(hv:PE X (.Name x p1) (LK i)):DS X WX (.Return (some (.Name x p1)) pos) (Uh i):=by
 refine⟨_,TF hv,λ P0 P σ H Z ρ E h=>?_⟩;unfold Uh at h;split at h
 ·rename_i d e1;obtain⟨v,h1,h2⟩:=E.val i d e1;exact⟨v,h1,h v H P Tr.refl (h2.mono (CS E.sub))⟩
 ·rename_i c hc e1;have io:HX c=true:=by
   cases c with
   |val d=>exact (hc d rfl).elim
   |own ds|ow o=>rfl
  obtain⟨v,fp,h1,h2,h3,h4⟩:=E.ows i _ e1 io;exact⟨v,h1,h v fp H P Tr.refl E.sub E.C8 h2 h3 h4⟩
 ·exact h.elim
def IH:∀ds:List D,OP (ds.map .sh)=ds
 |[]=>rfl
 |d::r=>by rw[zf,OP,er,IH r]
def WU {c:Cl}{p:Option Nat}{t:OT}(e:treeOf c=some (p,t)):Jl c=.val (er t):=by
 cases c with
 |val d=>cases e
 |own ds=>cases e;rw[er,IH];rfl
 |ow o =>
  cases o with
  |rows C4 =>
   cases e;rw[er,Qg,zT];have:(er ∘ λ ds:List D=>OT.lst (ds.map .sh))=D.lst:=by funext ds;rw[Function.comp,er,IH]
   rw[this];rfl
  |LN p ds=>cases e;rw[er,IH];rfl
  |tree p t'=>cases e;rfl
abbrev Z7 (i:Nat)(ρ:Ad):Ad:=match ρ[i]? with
 |some (some c)=>ρ.set i (some (Jl c))
 |_=>ρ
end
section
variable {K:za}{H H':Hp}{P P':Addr->Prop}
def CM.same {v:V}{t:OT}{q:List Addr}{xs:List V}(e:Ae H H')(h:CM K H P v t q xs):CM K H' P v t q xs:=by
 cases t with
 |sh d=>exact h.elim
 |lst ts=>obtain⟨p,rfl,rfl,h⟩:=h;exact⟨p,rfl,rfl,e _ _ h⟩
 |tup ts=>obtain⟨p,rfl,rfl,h⟩:=h;exact⟨p,rfl,rfl,e.del _ _ h⟩
 |Bq b ks ts =>
  cases b with
  |false|true=>obtain⟨p,kvs,rfl,rfl,h,rfl,rfl⟩:=h;exact⟨p,kvs,rfl,rfl,e _ _ h,rfl,rfl⟩
 |ins x ns ts=>obtain⟨p,C,dx,fs,rfl,rfl,n,h,rfl,rfl⟩:=h;exact⟨p,C,dx,fs,rfl,rfl,n,e _ _ h,rfl,rfl⟩
def Jj.same {v v1:V}{t t1:OT}{π:List Nat}(e:Ae H H')(h:Jj K H P v t π v1 t1):Jj K H' P v t π v1 t1:=by
 induction h with
 |nil=>exact .nil
 |cons n hx hs _ ih=>exact .cons (n.same e) hx hs ih
def CM.more {v:V}{t:OT}{q:List Addr}{xs:List V}(sm:Ae (del H P) (del H' P'))(e:Ae H H')(h:CM K H P v t q xs):CM K H' P' v t q xs:=by
 cases t with
 |sh d=>exact h.elim
 |lst ts=>obtain⟨p,rfl,rfl,h⟩:=h;exact⟨p,rfl,rfl,e _ _ h⟩
 |tup ts=>obtain⟨p,rfl,rfl,h⟩:=h;exact⟨p,rfl,rfl,sm _ _ h⟩
 |Bq b ks ts =>
  cases b with
  |false|true=>obtain⟨p,kvs,rfl,rfl,h,rfl,rfl⟩:=h;exact⟨p,kvs,rfl,rfl,e _ _ h,rfl,rfl⟩
 |ins x ns ts=>obtain⟨p,C,dx,fs,rfl,rfl,n,h,rfl,rfl⟩:=h;exact⟨p,C,dx,fs,rfl,rfl,n,e _ _ h,rfl,rfl⟩
def Jj.more {v v1:V}{t t1:OT}{π:List Nat}(sm:Ae (del H P) (del H' P'))(e:Ae H H')(h:Jj K H P v t π v1 t1):Jj K H' P' v t π v1 t1:=by
 induction h with
 |nil=>exact .nil
 |cons n hx hs _ ih=>exact .cons (n.more sm e) hx hs ih
end
abbrev Tw (i:Nat)(ρ:Ad)(π:List Nat):Option OT:=match ρ[i]? with
 |some (some c)=>(match treeOf c with|some (_,t)=>KG t π|none=>none)
 |_=>none
structure Bh (K:za)(P:Addr->Prop)(H:Hp)(σ:St)(ρ:Ad)(i:Nat)(π:List Nat)(v:V)(t1:OT):Prop where
 ex:∃v0 c p t,ρ[i]?=some (some c)/\treeOf c=some (p,t)/\σ[i]?=some (some v0)/\Jj K H P v0 t π v t1
def Bh.at {K:za}{P:Addr->Prop}{H:Hp}{σ:St}{ρ:Ad}{i:Nat}{π:List Nat}{v:V}{t1:OT}(h:Bh K P H σ ρ i π v t1):Tw i ρ π=some t1:=by
 obtain⟨v0,c,p,t,h1,h2,h3,h4⟩:=h.ex;unfold Tw;simp only[h1,h2];exact h4.sub
def Bh.same {K:za}{P:Addr->Prop}{H H':Hp}{σ:St}{ρ:Ad}{i:Nat}{π:List Nat}{v:V}{t1:OT}(e:Ae H H')(h:Bh K P H σ ρ i π v t1):Bh K P H' σ ρ i π v t1:=by
 obtain⟨v0,c,p,t,h1,h2,h3,h4⟩:=h.ex;exact⟨v0,c,p,t,h1,h2,h3,h4.same e⟩
def Bh.more {K:za}{P P':Addr->Prop}{H H':Hp}{σ:St}{ρ:Ad}{i:Nat}{π:List Nat}{v:V}{t1:OT}(sm:Ae (del H P) (del H' P'))(e:Ae H H')(h:Bh K P H σ ρ i π v t1):Bh K P' H' σ ρ i π v t1:=by
 obtain⟨v0,c,p,t,h1,h2,h3,h4⟩:=h.ex;exact⟨v0,c,p,t,h1,h2,h3,h4.more sm e⟩
def Bh.own {K:za}{P0:E8}{P:Addr->Prop}{H:Hp}{σ:St}{ρ:Ad}{i:Nat}{π:List Nat}{v:V}{t1:OT}(h:Bh K P H σ ρ i π v t1)(E:An K P0 P H σ ρ):∃ay,C7 K H P v t1 ay/\(∀a∈ay,P a/\¬ P0 a)/\ay.Nodup:=by
 obtain⟨v0,c,p,t,h1,h2,h3,h4⟩:=h.ex;have io:HX c=true:=by cases c<;>first|rfl|cases h2
 obtain⟨w,fp,k1,k2,k3,k4⟩:=E.ows i c h1 io;rw[h3] at k1;cases k1;obtain⟨ay,o1,hk,kn⟩:=(k2.toT h2).part h4;exact⟨ay,o1,λ a ha=>k3 a (hk a ha),kn k4⟩
abbrev gP (K:za)(WX:Str->Hp->Prop)(P:Addr->Prop)(H:Hp)(σ:St)(ρ:Ad)(i:Nat)(Q:VK):M (List Nat)->Prop
 | .ok π=>∀v t1 H',Ae H H'->Bh K P H' σ ρ i π v t1->Q v H'
 | .ex x=>∀H',Ae H H'->WX x H'
 | .bad=>False
abbrev DP (X:Cx)(WX:Str->Hp->Prop)(e:Expr)(i:Nat)(f:Ad->M (List Nat)):Prop:=
 ∃t,PE X e t/\∀P0 P σ H Q ρ,An X.K P0 P H σ ρ->gP X.K WX P H σ ρ i Q (f ρ)->t σ H Q
section
variable {X:Cx}{WX:Str->Hp->Prop}{c:Bool}{P0:E8}{P:Addr->Prop}{H:Hp}{σ:St}{ρ:Ad}{a b e:Expr}{f g:Ad->M D}{fn:Ad->M OT}{fp:Ad->M (List Nat)}{pos:Pos}{i:Nat}
abbrev O9 (i:Nat)(ρ:Ad):M (List Nat):=match Tw i ρ [] with | some _=>.ok [] | none=>.bad
def BW (i:Nat){x:Str}{p1:Pos}(hv:PE X (.Name x p1) (LK i)):DP X WX (.Name x p1) i (O9 i):=by
 refine⟨_,hv,λ P0 P σ H Q ρ E h=>?_⟩;unfold O9 at h;split at h
 ·rename_i t e;unfold Tw at e;split at e
  ·rename_i cl e1;split at e
   ·rename_i p t0 e2;have io:HX cl=true:=by cases cl<;>first|rfl|cases e2
    obtain⟨v,fp,h1,h2,h3,h4⟩:=E.ows i cl e1 io;exact⟨v,h1,h v t0 H (Ae.refl H) ⟨v,cl,p,t0,e1,e2,h1,.nil⟩⟩
   ·cases e
  ·cases e
 ·exact h.elim
abbrev vX (i:Nat)(ρ:Ad)(π:List Nat):M D:=match Tw i ρ π with
 |some (.sh d)=>.ok d
 |_=>.bad
def An.sS {K:za}{P':Addr->Prop}{H':Hp}{π:List Nat}{v1:V}{t1 u:OT}{ay fu:List Addr}(E:An K P0 P H σ ρ)(pl:Bh K P H σ ρ i π v1 t1)(o:C7 K H P v1 t1 ay)(hs:∀a,P a->P' a)(ht:∀a,P' a->Dv H' a)(sm:Ae (del H P) (del H' P'))(keep:∀a,P a->a∉ay->H' a=H a)
 (o':C7 K H' P' v1 u fu) (nd:fu.Nodup) (hf:∀a∈fu,a∈ay\/(P' a/\¬ P0 a/\∀(j:Nat) c v fp,ρ[j]?=some (some c)->σ[j]?=some (some v)->Dq K H P c v fp->a∉fp)):
 ∃c p t,ρ[i]?=some (some c)/\treeOf c=some (p,t)/\An K P0 P' H' σ (ρ.set i (some (toCl p (EK t π u))))/\Tr P0 P H P' H':=by
 obtain⟨v0,c,p,t,h1,h2,h3,h4⟩:=pl.ex;have io:HX c=true:=by cases c<;>first|rfl|cases h2
 obtain⟨w,fp,k1,k2,k3,k4⟩:=E.ows i c h1 io;rw[h3] at k1;cases k1;have ot:=k2.toT h2;obtain⟨fz,oz,kz,_⟩:=ot.part h4;have:=oz.Cg o;subst this;obtain⟨ag,q1,q2,q3⟩:=ot.put sm h4 o o' (λ a ha hn=>keep a (k3 a ha).1 hn) k4 nd (λ a ha hb=>(hf a ha).elim id λ z=>(z.2.2 i c v0 fp h1 h3 k2 hb).elim);refine⟨c,p,t,h1,h2,?_,sm,λ a ha=>keep a (E.sub a ha) λ z=>(k3 a (kz a z)).2 ha⟩;have key:=E.WG (P':=P') (H':=H') (i:=i) (v:=v0) (c:=toCl p (EK t π u)) (fp:=ag) hs ht sm (λ j c' v' fq ae g1 g2 g3 a ha=>?_) (Dq.toCl q1) (λ a ha=>?_) q2 (λ n z=>by rw[IF] at z;subst z;have:=E.pin i c n h1 (IG h2);rw[h3] at this;cases this;rfl)
 ·rw[KA h3] at key;exact key
 ·have oe:a∉fp:=E.apart j i c' c v' v0 fq fp g1 h1 g2 h3 g3 k2 (zY ae) a ha;have jd:HX c'=true:=by cases c'<;>first|rfl|exact g3.elim
  obtain⟨w',fr,m1,m2,m3,m4⟩:=E.ows j c' g1 jd;rw[g2] at m1;cases m1;have:=m2.Cg g3;subst this;refine⟨keep a (m3 a ha).1 λ z=>oe (kz a z),λ z=>?_⟩;rcases q3 a z with y|y
  ·rcases hf a y with x|x
   ·exact oe (kz a x)
   ·exact x.2.2 j c' v' fr g1 g2 g3 ha
  ·exact oe y.1
 ·rcases q3 a ha with y|y
  ·rcases hf a y with x|x
   ·exact⟨hs a (k3 a (kz a x)).1,(k3 a (kz a x)).2⟩
   ·exact⟨x.1,x.2.1⟩
  ·exact⟨hs a (k3 a y.1).1,(k3 a y.1).2⟩
def An.sT {K:za}{π:List Nat}{l:Addr}{xs ys:List V}{ts us:List OT}{fq fu:List Addr}(E:An K P0 P H σ ρ)(pl:Bh K P H σ ρ i π (.ref l) (.lst ts))(hH:H l=some (.lst xs))(o:AG K H P xs ts fq)(o':AG K H P ys us fu)(nd:fu.Nodup)(hl:l∉fu)
 (hf:∀a∈fu,a∈fq\/(P a/\¬ P0 a/\∀(j:Nat) c v fp,ρ[j]?=some (some c)->σ[j]?=some (some v)->Dq K H P c v fp->a∉fp)):
 ∃c p t,ρ[i]?=some (some c)/\treeOf c=some (p,t)/\An K P0 P (upd H l (.lst ys)) σ (ρ.set i (some (toCl p (EK t π (.lst us)))))/\Tr P0 P H P (upd H l (.lst ys)):=by
 have ot:C7 K H P (.ref l) (.lst ts) (l::fq):=.lst hH o;obtain⟨ay,o1,hp,_⟩:=pl.own E;have:=o1.Cg ot;subst this;have pP:P l:=(hp l zd).1;have sd:del (upd H l (.lst ys)) P=del H P:=by
  funext b;by_cases hb:P b
  ·rw[D8 hb,D8 hb]
  ·rw[Av hb,Av hb,Aj (λ z=>hb (by rw[z];exact pP))]
 have sm:Ae (del H P) (del (upd H l (.lst ys)) P):=by rw[sd];exact Ae.refl _
 refine E.sS pl ot (λ _ h=>h) (λ a h=>?_) sm (λ a ha hn=>Aj λ z=>hn (by rw[z];exact zd)) (.lst Aq (o'.move sm λ a ha=>Aj λ z=>hl (by rw[<-z];exact ha))) (zW.mpr ⟨hl,nd⟩) (λ a ha=>?_)
 ·by_cases ha:a=l
  ·subst ha;exact Dv.lst Aq
  ·unfold Dv;rw[Aj ha];exact E.C8 a h
 ·rcases zp.mp ha with z|z
  ·exact .inl (by rw[z];exact zd)
  ·rcases hf a z with y|y
   ·exact .inl (ze _ y)
   ·exact .inr y
end
abbrev kd:D->Option Key
 | .int i=>some (.inl i)
 | .str x=>some (.inr x)
 |_=>none
abbrev pT:List D->Option (List Key)
 |[]=>some []
 |d::r=>match kd d,pT r with|some k,some ks=>some (k::ks)|_,_=>none
def kD {d:D}{k:Key}(h:kd d=some k):d=Cy k:=by
 cases d<;>simp[kd] at h<;>subst h<;>rfl
def Z8:∀ {ds:List D}{ks:List Key},pT ds=some ks->ds=ks.map Cy
 |[],ks,h=>by cases h;rfl
 |d::r,ks,h=>by
  rw[pT] at h;cases q:kd d with
  |none=>rw[q] at h;cases h
  |some k =>
   cases q2:pT r with
   |none=>rw[q,q2] at h;cases h
   |some vi =>
    rw[q,q2] at h;cases h;rw[zf,<-kD q,<-Z8 q2]
inductive fY:Bool->D->Prop
 |k (κ:Key):fY false (Cy κ)
 |t (κ:List Key):fY true (.tup (κ.map Cy))
abbrev keyOk (b:Bool)(d:D):Bool:=match b,d with
 |false,d=>(kd d).isSome
 |true,.tup ds=>(pT ds).isSome
 |_,_=>false
def Ef {b:Bool}{d:D}(h:keyOk b d=true):fY b d:=by
 cases b with
 |false =>
  obtain⟨k,hk⟩:=zam.mp (show (kd d).isSome=true from h);rw[kD hk];exact .k k
 |true =>
  cases d with
  |tup ds =>
   obtain⟨k,hk⟩:=zam.mp (show (pT ds).isSome=true from h);rw[Z8 hk];exact .t k
  |_=>cases h
def Gz (a b:Key):Bl (Cy a) (Cy b)=decide (a=b):=by
 cases a with
 |inl i =>
  cases b with
  |inl j=>simp only[Cy,Bl];rw[zap];simp
  |inr y=>simp[Cy,Bl]
 |inr x =>
  cases b with
  |inl j=>simp[Cy,Bl]
  |inr y=>simp only[Cy,Bl];rw[zap];simp
def LZ:∀a b:List Key,Cp (a.map Cy) (b.map Cy)=decide (a=b)
 |[],[]|[],_::_|_::_,[]=>by simp[Cp]
 |a::r,b::t=>by
  rw[zf,zf,Cp,Gz,LZ r t,zap];simp
abbrev G8 {α:Type}:List D->List α->D->Option α
 |k::ks,v::vs,y=>if Bl k y=true then some v else G8 ks vs y
 |_,_,_=>none
abbrev II {α:Type}:List D->List α->D->α->List α
 |k::ks,v::vs,y,z=>(if Bl k y=true then z else v)::II ks vs y z
 |_,vs,_,_=>vs
abbrev LO (ks:List D)(y:D):Bool:=ks.any λ k=>Bl k y
section
variable {κ:Type} [DecidableEq κ] {fk:κ->D}(hf:∀a b,Bl (fk a) (fk b)=decide (a=b))
include hf
def MX {α:Type}:∀(kvs:List (κ×α)) (k:κ),G8 (kvs.map λ kv=>fk kv.1) (kvs.map yZ) (fk k)=(kvs.find? λ kv=>decide (kv.1=k)).map (·.2)
 |[],k=>rfl
 |p::r,k=>by
  rw[zf,zf,G8,hf,zb2];by_cases e:p.1=k
  ·rw[decide_eq_true e];rfl
  ·rw[decide_eq_false e];simp only[zG,if_false];exact MX r k
def Jn {α:Type}(kvs:List (κ×α))(k:κ):LO (kvs.map λ kv=>fk kv.1) (fk k)=kvs.any λ kv=>decide (kv.1=k):=by
 unfold LO;rw[List.any_map];congr 1;funext kv;exact hf _ _
def GA (k:κ)(v:V):∀(kvs:List (κ×V)),II (kvs.map λ kv=>fk kv.1) (kvs.map yZ) (fk k) v=(kvs.map λ kv=>if kv.1=k then (kv.1,v) else kv).map yZ
 |[]=>rfl
 |p::r=>by
  rw[zf,zf,II,hf,zf,zf,GA k v r];by_cases e:p.1=k
  ·rw[decide_eq_true e,if_pos e];rfl
  ·rw[decide_eq_false e,if_neg e];rfl
def GB (k:κ)(v:V):∀(kvs:List (κ×V)),(kvs.map λ kv=>if kv.1=k then (kv.1,v) else kv).map (λ kv=>fk kv.1)=kvs.map λ kv=>fk kv.1
 |[]=>rfl
 |p::r=>by
  rw[zf,zf,zf,GB k v r];by_cases e:p.1=k
  ·rw[if_pos e]
  ·rw[if_neg e]
end
def MY {K:za}{H:Hp}:∀ {ks:List D}{xs:List V}{ds:List D}{y d:D},Ag K H xs ds->G8 ks ds y=some d->∃x,G8 ks xs y=some x/\BX K H x d
 |[],_,_,_,_,_,e|_::_,_,_,_,_,.nil,e=>by simp[G8] at e
 |k::ks,_,_,y,d,.cons h t,e=>by
  rw[G8] at e ⊢;by_cases q:Bl k y=true
  ·rw[if_pos q] at e ⊢;cases e;exact⟨_,rfl,h⟩
  ·rw[if_neg q] at e ⊢;exact MY t e
def Hy {α:Type}:∀ {ks:List D}{xs:List α}{y:D},xs.length=ks.length->LO ks y=(G8 ks xs y).isSome
 |[],[],y,_=>rfl
 |k::ks,x::xs,y,h=>by
  unfold LO;rw[zab,G8];cases q:Bl k y with
  |true=>rfl
  |false =>
   simp only[Bool.false_or,zG,if_false];exact Hy (by simpa using h)
 |[],_::_,_,h|_::_,[],_,h=>by cases h
def GC {K:za}{H:Hp}{P:Addr->Prop}{y d:D}{v:V}(hv:BX K (del H P) v d):∀ {ks:List D}{xs:List V}{ds:List D},Ag K (del H P) xs ds->Ag K (del H P) (II ks xs y v) (II ks ds y d)
 |[],_,_,h=>by simp only[II];exact h
 |_::_,_,_,.nil=>by simp only[II];exact .nil
 |k::ks,_,_,.cons h t=>by
  rw[II,II];refine .cons ?_ (GC hv t);by_cases q:Bl k y=true
  ·rw[if_pos q,if_pos q];exact hv
  ·rw[if_neg q,if_neg q];exact h
section
variable {K:za}{H:Hp}{P:Addr->Prop}
def Ag.keys:∀ {xs:List V}(κ:List Key),Ag K H xs (κ.map Cy)->xs=κ.map kV
 |_,[],.nil=>rfl
 |_,k::r,.cons h t=>by
  rw[zf,<-Ag.keys r t];congr 1;cases k with
  |inl i=>exact h.int_inv
  |inr x=>cases h;rfl
def BX.fZ {y:V}{κ:Key}(h:BX K H y (Cy κ)):y=kV κ:=by
 cases κ with
 |inl i=>exact h.int_inv
 |inr x=>cases h;rfl
def Qm {v y:V}{b:Bool}{ks vs:List D}{k:D}(hv:BX K (del H P) v (.Bq b ks vs))(hy:BX K (del H P) y k)(hk:fY b k):∃a xs,v=.ref a/\Q9 H a y (G8 ks xs k)/\Ag K (del H P) xs vs/\xs.length=ks.length:=by
 cases hv with
 |Vd hh hl =>
  cases hk with
  |k κ =>
   refine⟨_,_,rfl,?_,hl,by simp⟩;rw[hy.fZ,MX Gz];exact .inl ⟨_,κ,hh.B7,rfl,rfl⟩
 |Ve hh hl =>
  cases hk with
  |t κ =>
   cases hy with
   |tup ht aF =>
    have e:=Ag.keys κ aF;subst e;refine⟨_,_,rfl,?_,hl,by simp⟩;rw[MX (fk:=λ κ:List Key=>D.tup (κ.map Cy)) (λ a b=>by simp only[Bl];exact LZ a b)];exact .inr ⟨_,κ,_,hh.B7,rfl,(Ao ht).2,rfl⟩
end
section
variable {X:Cx}{WX:Str->Hp->Prop}{c:Bool}{P0:E8}{P:Addr->Prop}{H:Hp}{σ:St}{ρ:Ad}{a b e:Expr}{f g:Ad->M D}{fn:Ad->M OT}{fp:Ad->M (List Nat)}{pos:Pos}{i:Nat}
abbrev sU:R2:=λ x y H Q=>∃a v,x=.ref a/\Q9 H a y (some v)/\Q v H
def gB (hu:X.A.units+1<cLine):eL X sU:=by
 intro value slice pins s σ H x y v u Q I rx ry h hs;obtain⟨a,z,rfl,g,q⟩:=h;cases rx;have hT:=RJ I g;have h₂:wpAny (model X.prog X.w) X.A (getItem (.ref a) u) (EP X pins σ Q) X.xe s:=Wv hu I g ry λ w' s3 I3 aZ=>⟨z,H,I3,aZ,q⟩;unfold subscriptTail;refine wpAny_bind ?_;rw[getitemInPython_of_ne hT.not_modules];refine wpAny_bind (wpAny_specialOf hT PySem.F.slot_dict_getitem.lookup ?_);have fin:wpAny (model X.prog X.w) X.A (subscripted slice false (.ref a) u) (λ r s₃=>wpAny (model X.prog X.w) X.A (letTemporaryGo value (.ref a) r >>= λ _=>pure r) (EP X pins σ Q) X.xe s₃) X.xe s:=by
  rw[hs];exact wpAny_operating (wpAny_mono h₂ (λ r s₃ h₃=>wpAny_bind (wpAny_letTemporaryGo (wpAny_pure h₃))) λ _ _ x=>x)
 first
  |exact wpAny_pure (wpAny_bind fin)
  |exact wpAny_bind (wpAny_pure (wpAny_bind fin))
  |exact wpAny_bind fin
abbrev AY (x y:D):M D:=match x with
 | .Bq b ks vs=>if keyOk b y=true then (match G8 ks vs y with|some d=>.ok d|none=>.bad) else .bad
 |x=>dH x y
def gC:Vj X.K WX (λ x y H Q=>(mI X.K x y H Q\/mJ X.K x y H Q)\/sU x y H Q) AY:=by
 intro P H x y v w Q ht hx hy h;cases x with
 |Bq b ks vs =>
  simp only[AY] at h;by_cases hk:keyOk b y=true
  ·rw[if_pos hk] at h;obtain⟨a,xs,rfl,g,hl,_⟩:=Qm hx hy (Ef hk);split at h
   ·rename_i d e;obtain⟨u,e1,e2⟩:=MY hl e;rw[e1] at g;exact .inr ⟨a,u,rfl,g,h _ H (Ae.refl H) e2⟩
   ·exact h.elim
  ·rw[if_neg hk] at h;exact h.elim
 |AK|bl b|int b|str b|tup b|lst b|EW b|ins b _ _=>exact .inl (Gs P H _ y v w Q ht hx hy h)
def Aa {n:Nat}(hu:X.A.units+n<cLine)(ha:DE X WX c a f)(hb:DE X WX c b g)(hs:Hr b:=by exact λ _ _=>rfl)(hn:1<=n:=by decide):DE X WX c (.Subscript a b pos) (λ ρ=>(f ρ).bind λ x=>(g ρ).bind λ y=>AY x y):=rY ((LU.or mK).or (gB (by omega))) gC ha hb hs
abbrev nS (neg:Bool):R2:=λ y x H Q=>∃a o,x=.ref a/\Q9 H a y o/\Q (.bl (if neg=true then !o.isSome else o.isSome)) H
def Ui (hu:X.A.units+1<cLine):Gi X (compareOp .In) (nS false):=by
 intro pins s σ H x y v u Q I rx ry h;obtain⟨a,o,rfl,g,q⟩:=h;cases ry;exact vQ hu I g rx λ s3 I3=>⟨.bl o.isSome,H,I3,rfl,q⟩
def Oa (hu:X.A.units+1<cLine):Gi X (compareOp .NotIn) (nS true):=by
 intro pins s σ H x y v u Q I rx ry h;obtain⟨a,o,rfl,g,q⟩:=h;cases ry;exact eU hu I g rx λ s3 I3=>⟨.bl (!o.isSome),H,I3,rfl,q⟩
abbrev Jo (neg:Bool)(y x:D):M D:=match x with
 | .Bq b ks vs=>if keyOk b y=true then .ok (.bl (if neg=true then !LO ks y else LO ks y)) else .bad
 |x=>uD neg y x
def Vv {neg:Bool}:Vj X.K WX (λ x y H Q=>tZ X.K neg x y H Q\/nS neg x y H Q) (Jo neg):=by
 intro P H x y v w Q ht hx hy h;cases y with
 |Bq b ks vs =>
  simp only[Jo] at h;by_cases hk:keyOk b x=true
  ·rw[if_pos hk] at h;obtain⟨a,xs,rfl,g,hl,hn⟩:=Qm hy hx (Ef hk);rw[Hy (xs:=xs) hn] at h;exact .inr ⟨a,_,rfl,g,h _ H (Ae.refl H) (.bl _)⟩
  ·rw[if_neg hk] at h;exact h.elim
 |AK|bl b|int b|str b|tup b|lst b|EW b|ins b _ _=>exact .inl (Gv P H x _ v w Q ht hx hy h)
def IJ {n:Nat}(hu:X.A.units+n<cLine)(ha:DE X WX c a f)(hb:DE X WX c b g)(hm: ~~~(behindInMarks .In b=false))(hn:1<=n:=by decide):DT X WX (.Compare a [.In] [b] pos) (λ ρ=>((f ρ).bind λ x=>(g ρ).bind λ y=>Jo false x y).bind OS):=Fm (Wq.or (Ui (by omega))) Vv ha hb hm
def M2 {n:Nat}(hu:X.A.units+n<cLine)(ha:DE X WX c a f)(hb:DE X WX c b g)(hm: ~~~(behindInMarks .NotIn b=false))(hn:1<=n:=by decide):DT X WX (.Compare a [.NotIn] [b] pos) (λ ρ=>((f ρ).bind λ x=>(g ρ).bind λ y=>Jo true x y).bind OS):=Fm (Q6.or (Oa (by omega))) Vv ha hb hm
abbrev GD:D->M Bool
 | .AK=>.ok false
 | .bl b=>.ok b
 | .int i=>.ok (i != 0)
 | .tup ds| .lst ds=>.ok (!ds.isEmpty)
 |_=>.bad
def Jp {K:za}{H:Hp}{xs:List V}{ds:List D}(h:Ag K H xs ds):(!ds.isEmpty) = !xs.isEmpty:=by cases h<;>rfl
def Ca (h:DE X WX c e f)(he:∀whole,isTrue e X.env whole=(do let v <-whole;standAt e.pos;holding [v] (truthy v)):=by intro _;rfl):DT X WX e (λ ρ=>(f ρ).bind GD):=by
 obtain⟨t,h1,h2⟩:=h;refine⟨_,Yd h1 he,λ P0 P σ H Q ρ E h=>h2 P0 P σ H _ ρ E ?_⟩;dsimp only at h;refine XO h λ d h=>?_;intro v H' s hv;cases hv with
 |AK=>exact⟨false,rfl,h H' s⟩
 |bl b=>exact⟨b,rfl,h H' s⟩
 |int i=>exact⟨_,rfl,h H' s⟩
 |tup hs hl=>exact⟨_,.inr (.inl ⟨_,Fe.of (Ao hs).2,rfl⟩),by rw[<-Jp hl];exact h H' s⟩
 |lst hs hl=>exact⟨_,.inl ⟨_,hs.B7,rfl⟩,by rw[<-Jp hl];exact h H' s⟩
 |_=>exact h.elim
end
abbrev Jq (m:M (List D)):M OT:=match m with | .ok ys=>.ok (.lst (ys.map .sh)) | _=>.bad
section
variable {X:Cx}{WX:Str->Hp->Prop}{c:Bool}{P0:E8}{P:Addr->Prop}{H:Hp}{σ:St}{ρ:Ad}{a b e tg iter:Expr}{f g:Ad->M D}{ft:Ad->M Bool}{pos:Pos}{gt:D->Ad->M Ad}{fi:Ad->M (List D)}{es:List Expr}{fs:Ad->M (List D)}
def Z9 {μ:List (Option Nat)}{wi:TI}{gg:TG}{tc:Shared->Hp->Addr->List Addr->TT}{te:Shared->Hp->Addr->List Addr->TE}{fe:Ad->M D}
 (i2:∀P0 P σ H R ρ,An X.K P0 P H σ ρ->(match fi ρ with | .ok ds=>∀J H',Ae H H'->fH X.K J P H' ds->R J H' | .ex x=>∀H',Ae H H'->WX x H' | .bad=>False)->wi σ H R)
 (g2:∀P0 P σ H Q ρ v d,An X.K P0 P H σ ρ->BX X.K (del H P) v d->gG X.K P0 P H Q (gt d ρ)->gg v σ H Q)
 (t2:∀s H' C ex P0 P σ H Q ρ,An X.K P0 P H σ ρ->gT (λ _ _=>False) H Q (ft ρ)->tc s H' C ex σ H Q)
 (e2:∀s H' C ex P0 P σ H Q ρ,An X.K P0 P H σ ρ->gV X.K (λ _ _=>False) (Lv true P0 P) H Q (fe ρ)->te s H' C ex σ H Q) {Q:VK}
 (E:An X.K P0 P H σ ρ) (h:WT X.K WX P H Q ((fi ρ).bind λ ds=>if ds.length<=1000 then Jq (Bv gt ft fe ds (BJ μ ρ)) else .bad)):Vb wi μ gg tc te σ H Q:=by
 refine i2 P0 P σ H _ ρ E ?_;cases q:fi ρ with
 |bad|ex x=>rw[q] at h;exact h
 |ok ds =>
  rw[q] at h;simp only[M.A9] at h;by_cases hd:¬ ds.length<=1000
  ·rw[if_neg hd] at h;exact h.elim
  have hd:ds.length<=1000:=by omega
  rw[if_pos hd] at h;intro J H1 s1 ok s C ex;cases qc:Bv gt ft fe ds (BJ μ ρ) with
  |bad|ex x=>rw[qc] at h;exact h.elim
  |ok total =>
   rw[qc] at h;unfold Jq at h;dsimp only at h;have E1:=E.same s1;refine⟨λ i m ys H2=>m=ds.length-i/\i<=ds.length/\ys.length<=i/\Ae H1 H2/\∃es rest,Ag X.K (del H2 P) ys es/\Bv gt ft fe (ds.drop i) (BJ μ ρ)=.ok rest/\es++rest=total,
    ⟨ds.length,by simp,zR _,zu _,Ae.refl _,[],total,.nil,by rw[List.drop_zero];exact qc,rfl⟩,?_⟩
   rintro i m ys H2 ⟨rfl,hi,hy,s2,es,rest,ff,aj,aR⟩;by_cases af:i<ds.length
   ·refine .inr ⟨ok.go i P H2 s2.del af,Nat.lt_of_le_of_lt hy (AD (by omega)),λ bn H'=>i+1<=ds.length/\bn.length<=i+1/\Ae H1 H'/\∃es rest,Ag X.K (del H' P) bn es/\Bv gt ft fe (ds.drop (i+1)) (BJ μ ρ)=.ok rest/\es++rest=total,λ bn H' hq=>⟨ds.length-(i+1),by omega,rfl,hq.1,hq.2.1,hq.2.2.1,hq.2.2.2⟩,λ v H3 y=>?_⟩;have E2:=E1.same s2;obtain⟨s3,hv⟩:=ok.jQ i P H2 v H3 ds[i] s2.del E2.C8 (zi af) y;rw[Je af,Bv] at aj;have E3:=(E2.same s3).block μ;refine g2 P0 P _ H3 _ (BJ μ ρ) v ds[i] E3 hv ?_;cases q1:gt ds[i] (BJ μ ρ) with
    |bad|ex x=>rw[q1] at aj;cases aj
    |ok ρ1 =>
     rw[q1] at aj;dsimp only at aj;intro σ4 E4;refine t2 s H1 C ex P0 P σ4 H3 _ ρ1 E4 ?_;cases q2:ft ρ1 with
     |bad|ex x=>rw[q2] at aj;cases aj
     |ok k =>
      rw[q2] at aj;dsimp only at aj;intro H5 s5;cases k with
      |false =>
       simp only[zG,if_false] at aj ⊢;exact⟨af,by omega,(s2.trans s3).trans s5,es,rest,(ff.mono s3.del).mono s5.del,aj,aR⟩
      |true =>
       simp only[if_true] at aj ⊢;refine e2 s H1 C ex P0 P σ4 H5 _ ρ1 (E4.same s5) ?_;cases q3:fe ρ1 with
       |bad|ex x=>rw[q3] at aj;cases aj
       |ok y' =>
        rw[q3] at aj;dsimp only at aj;cases q4:Bv gt ft fe (ds.drop (i+1)) (BJ μ ρ) with
        |bad|ex x=>rw[q4] at aj;cases aj
        |ok nv =>
         rw[q4] at aj;cases aj;intro w H6 s6 hw;refine⟨af,by rw[zA,yP];omega,((s2.trans s3).trans s5).trans s6,es++[y'],nv,(((ff.mono s3.del).mono s5.del).mono s6.del).snoc hw,rfl,?_⟩;rw[zO];exact aR
   ·have e:i=ds.length:=by omega
    subst e;rw[List.drop_length,Bv] at aj;cases aj;rw[zI] at aR;subst aR;exact .inl ⟨ok.stop _ P H2 s2.del (zu _),λ D0 hn=>h.KI (s1.trans s2) ff D0 hn⟩
def CB {scope:Scope}{NB:List Str}{ifs:List Expr}{elt:Expr}{fe:Ad->M D}(μ:List (Option Nat))(hc:X.calm=true)(hi:DI X WX tg iter fi)(a7:Gp scope X.env.scope=true)(bw:Qb X.N NB scope μ=true)(hg:sI X scope NB μ tg gt)
 (ht:∀s H C ex,sJ (blockOf X s H scope C NB ex) ifs ft) (he:∀s H C ex,DE (blockOf X s H scope C NB ex) (λ _ _=>False) true elt fe) (hs:∀x,foldedSetIterable iter X.env x=pure x:=by intro _;rfl):
 DN X WX (.ListComp elt [⟨tg,iter,ifs,0⟩] scope pos) (λ ρ=>(fi ρ).bind λ ds=>if ds.length<=1000 then Jq (Bv gt ft fe ds (BJ μ ρ)) else .bad):=by
 obtain⟨wi,i1,i2⟩:=hi;obtain⟨gg,g1,gk,g2⟩:=hg;refine⟨_,fC hc i1 a7 bw gk (λ s H C ex=>⟨g1 s H C ex,(zb (ht s H C ex)).1,(zb (he s H C ex)).1⟩) hs,λ P0 P σ H Q ρ E h=>?_⟩;exact Z9 i2 g2 (λ s H' C ex P0 P σ H Q ρ E h=>(zb (ht s H' C ex)).2 P0 P σ H Q ρ E h) (λ s H' C ex P0 P σ H Q ρ E h=>(zb (he s H' C ex)).2 P0 P σ H Q ρ E h) E h
def Za {scope:Scope}{NB:List Str}{ifs:List Expr}{elt:Expr}{fe:Ad->M D}(i:Nat){x:Str}{px al:Pos}(μ:List (Option Nat))(hN:X.N.Nodup)(i6:X.N[i]?=some x)(hx:Loc X.env.scope x)(hc:X.calm=true)(hi:DI X WX tg iter fi)(a7:Gp scope X.env.scope=true)(bw:Qb X.N NB scope μ=true)(hg:sI X scope NB μ tg gt)(ht:∀s H C ex,sJ (blockOf X s H scope C NB ex) ifs ft)(he:∀s H C ex,DE (blockOf X s H scope C NB ex) (λ _ _=>False) true elt fe)(ba: ~~~(swapsWith (.ListComp elt [⟨tg,iter,ifs,0⟩] scope pos) (some (.Name x px)) al.line X.env=pure true))(hs:∀x,foldedSetIterable iter X.env x=pure x:=by intro _;rfl)(hf:X.fn x=true\/X.env.scope.names.lookup x=some .local:=by first|exact .inl rfl|exact .inr rfl|assumption):
 DS X WX (.Assign [.Name x px] (.ListComp elt [⟨tg,iter,ifs,0⟩] scope pos) al) (λ ρ=>(Tv ((fi (EC ρ)).bind λ ds=>if ds.length<=1000 then Jq (Bv gt ft fe ds (BJ μ (EC ρ))) else .bad)).bind (S3 i ρ)):=by
 obtain⟨wi,i1,i2⟩:=hi;obtain⟨gg,g1,gk,g2⟩:=hg;refine⟨_,Vc hN i6 hx hc i1 a7 bw gk (λ s H C ex=>⟨g1 s H C ex,(zb (ht s H C ex)).1,(zb (he s H C ex)).1⟩) ba hs hf,λ P0 P σ H Z ρ E h=>?_⟩;refine Z9 (P0:=P0) (P:=P0) i2 g2 (λ s H' C ex P0 P σ H Q ρ E h=>(zb (ht s H' C ex)).2 P0 P σ H Q ρ E h) (λ s H' C ex P0 P σ H Q ρ E h=>(zb (he s H' C ex)).2 P0 P σ H Q ρ E h) E.low ?_;dsimp only at h;revert h;cases ((fi (EC ρ)).bind λ ds=>if ds.length<=1000 then Jq (Bv gt ft fe ds (BJ μ (EC ρ))) else .bad) with
 |bad=>exact λ h=>h
 |ex y=>exact λ h H' s=>h H' P (E.tr s)
 |ok t =>
  unfold Tv;simp only[M.A9];by_cases hf:Gy t=true
  ·rw[if_pos hf];exact λ h v fp H' s hn nd o=>kC E s hn nd (o.clean (IE (E.same s).C8 o) hf) h
  ·rw[if_neg hf];exact λ h=>h.elim
end
abbrev vY (K:za)(WX:Str->Hp->Prop)(P:Addr->Prop)(p:Addr)(fp:List Addr)(H:Hp)(Q:VK):M (OT×OT)->Prop
 | .ok (t,r)=>∀v H' P' ag fr,(∀a,P a->a∉fp->P' a/\H' a=H a)->(∀a,P' a->Dv H' a)->Ae (del H P) (del H' P')->C7 K H' P' (.ref p) t ag->ag.Nodup->C7 K H' P' v r fr->fr.Nodup->(∀a∈fr,a∉ag)->
  (∀a∈ag,P' a/\(P a->a∈fp))->(∀a∈fr,P' a/\(P a->a∈fp))->Q v H'
 | .ex _| .bad=>False
abbrev P8 (K:za)(n:Nat)(F:OT->List D->M (OT×OT)):Sp:=λ vs H Q E=>vs.length=n/\∃P p t fp rest aw,vs=.ref p::rest/\(∀a,P a->Dv H a)/\(∀a∈fp,P a)/\fp.Nodup/\C7 K H P (.ref p) t fp/\Ag K (del H P) rest aw/\vY K (D2 K E) P p fp H Q (F t aw)
abbrev D4 (N:List Str)(t:OT)(aw:List D):Ad:=some (toCl (some 0) t)::(aw.map (λ d=>some (.val d))++zr (N.length-(aw.length+1)) none)
abbrev GF (ρ:Ad):Option OT:=match ρ[0]? with
 |some (some c)=>(match treeOf c with|some (some 0,t)=>some t|_=>none)
 |_=>none
abbrev Eg (m:M Out):M (OT×OT):=match m with
 | .ok (.next ρ)=>(match GF ρ with|some t=>.ok (t,.sh .AK)|none=>.bad)
 | .ok (.EY r ρ)=>(match GF ρ with|some t=>.ok (t,r)|none=>.bad)
 |_=>.bad
def S4 (p:Option Nat)(t:OT):treeOf (toCl p t)=some (p,t):=by
 unfold toCl;split
 ·rename_i ts;cases q:Dz ts with
  |none=>rfl
  |some ds =>
   have e:=CG q;subst e;cases p<;>rfl
 ·rfl
def WV (p:Option Nat)(t:OT):HX (toCl p t)=true:=by
 unfold toCl;split
 ·rename_i ts;cases q:Dz ts with
  |none=>rfl
  |some ds=>cases p<;>rfl
 ·rfl
def Jr {K:za}{P:Addr->Prop}{H:Hp}{N:List Str}{p:Addr}{t:OT}{fp:List Addr}{rest:List V}{aw:List D}(ht:∀a,P a->Dv H a)(hp:∀a∈fp,P a)(nd:fp.Nodup)(o:C7 K H P (.ref p) t fp)(h:Ag K (del H P) rest aw):
 An K ⟨λ a=>P a/\a∉fp,λ _=>p⟩ P H (start N (.ref p::rest)) (D4 N t aw):=by
 have hl:=h.length;have key:∀(i:Nat) (c:Cl),(aw.map (λ d=>some (Cl.val d))++zr (N.length-(aw.length+1)) none)[i]?=some (some c)->∃d,aw[i]?=some d/\c=.val d:=λ i c e=>by
  by_cases hi:i<aw.length
  ·rw[yU (by simpa using hi),z7] at e;cases q:aw[i]? with
   |none=>rw[q] at e;cases e
   |some d=>rw[q] at e;cases e;exact⟨d,rfl,rfl⟩
  ·rw[yX (by simpa using hi),zaa] at e;split at e<;>cases e
 have sf:(start N (.ref p::rest))[0]?=some (some (.ref p)):=by unfold start;rfl
 refine⟨λ a h=>h.1,ht,λ i d e=>?_,λ i c e io=>?_,λ i j c c' v v' fp ag e1 e2 _ _ o1 o2 ae=>?_,?_,λ i c n e vj=>?_⟩
 rotate_left 4
 ·cases i with
  |zero=>exact sf
  |succ i =>
   obtain⟨d',q,z⟩:=key i _ (by unfold D4 at e;simpa using e);cases z;cases vj
 ·cases i with
  |zero =>
   have e':some (toCl (some 0) t)=some (.val d):=by simpa [D4] using e
   have:=WV (some 0) t;rw[zD e'] at this;cases this
  |succ i =>
   obtain⟨d',q,z⟩:=key i _ (by unfold D4 at e;simpa using e);cases z;obtain⟨v,hv,hd⟩:=h.get q;refine⟨v,?_,hd⟩;unfold start;rw[zf,zau,zL,yU (by rw[zc];exact (z3.mp hv).1),z7,hv];rfl
 ·cases i with
  |zero =>
   have e':toCl (some 0) t=c:=by simpa [D4] using e
   subst e';exact⟨_,fp,sf,Dq.toCl o,λ a ha=>⟨hp a ha,λ z=>z.2 ha⟩,nd⟩
  |succ i =>
   obtain⟨d',q,z⟩:=key i _ (by unfold D4 at e;simpa using e);cases z;cases io
 ·cases i with
  |zero =>
   cases j with
   |zero=>exact (ae rfl).elim
   |succ j =>
    obtain⟨d',q,z⟩:=key j _ (by unfold D4 at e2;simpa using e2);cases z;exact o2.elim
  |succ i =>
   obtain⟨d',q,z⟩:=key i _ (by unfold D4 at e1;simpa using e1);cases z;exact o1.elim
 ·unfold start D4;simp[hl]
section
variable {P:Program}{w:World}{K:za}{mg:Str->Option Value}{base:Heap}
def M3 {P0:E8}{P':Addr->Prop}{H':Hp}{σ':St}{ρ:Ad}{t:OT}(E:An K P0 P' H' σ' ρ)(h:GF ρ=some t):∃c ag,ρ[0]?=some (some c)/\σ'[0]?=some (some (.ref (P0.g 0)))/\Dq K H' P' c (.ref (P0.g 0)) ag/\C7 K H' P' (.ref (P0.g 0)) t ag/\ag.Nodup/\∀a∈ag,P' a/\¬ P0 a:=by
 unfold GF at h;split at h
 ·rename_i c e;split at h
  ·rename_i t' e2;cases h;have io:HX c=true:=by cases c<;>first|rfl|cases e2
   obtain⟨v,fp,k1,k2,k3,k4⟩:=E.ows 0 c e io;have:=E.pin 0 c 0 e (IG e2);rw[k1] at this;cases this;exact⟨c,fp,e,k1,k2,k2.toT e2,k4,k3⟩
  ·cases h
 ·cases h
def nT {x qual:Str}{st:Stmt}{f:Addr}{fd:FuncData}{N ps:List Str}{k:Nat}(F:XN K x qual st f fd)(S:Ac N ps (A5 st))(g:Ad->M Out)
 (hb:∀(B4:Value) (A:Around) (outer:List Env) (s:Shared) (H:Hp) (E:XK),BE k (A.deeper (envOfC qual (A5 st) s.heap.objs.size f B4))->Tu (jZ P w K mg base N qual (A5 st) f B4 A outer s H E) (D2 K E) (AR st) g):
 Dn P w K mg base (Ua P w base) (k+1) f fd ps (P8 K ps.length λ t aw=>Eg (g (D4 N t aw))):=by
 obtain⟨oc,od,kV,doc,pm,an,B4,ct,Tt,rfl,lk,aX⟩:=F.ex;refine V5 lk aX S (λ vs H Q E h=>h.1) λ A outer s H vs Q E hr h=>?_;obtain⟨hl,P',p,t,fp,rest,aw,rfl,ht,hp,nd,ho,hv,hq⟩:=h;obtain⟨tt,h1,h2⟩:=hb B4 A outer s H E hr;refine⟨tt,h1,h2 ⟨λ a=>P' a/\a∉fp,λ _=>p⟩ P' _ H _ _ (Jr ht hp nd ho hv) ?_⟩;dsimp only at hq;revert hq;cases g (D4 N t aw) with
 |bad|ex x=>exact λ h=>h.elim
 |ok o =>
  have sub:∀ {P2:Addr->Prop} {H2:Hp} {σ2:St} {ρ:Ad},An K ⟨λ a=>P' a/\a∉fp,λ _=>p⟩ P2 H2 σ2 ρ->∀a,P2 a/\¬ (P' a/\a∉fp)->P2 a/\(P' a->a∈fp):=λ E a ha=>⟨ha.1,λ z=>zaf λ w=>ha.2 ⟨z,w⟩⟩;cases o with
  |ret d|CQ d=>exact λ h=>h.elim
  |next ρ =>
   intro hq σ' H' P2 t2 E2;unfold Eg at hq;dsimp only at hq;split at hq
   ·rename_i t' e;obtain⟨c,ag,k1,k2,k3,k4,k5,k6⟩:=M3 E2 e;exact hq .AK H' P2 ag [] (λ a ha hn=>⟨E2.sub a ⟨ha,hn⟩,t2.2 a ⟨ha,hn⟩⟩) E2.C8 t2.1 k4 k5 (.sh .AK) yY (λ a ha=>by cases ha) (λ a ha=>sub E2 a (k6 a ha)) (λ a ha=>by cases ha)
   ·exact hq.elim
  |EY r ρ =>
   intro hq v fr σ' H' P2 t2 E2 o2 aS hf;unfold Eg at hq;dsimp only at hq;split at hq
   ·rename_i t' e;obtain⟨c,ag,k1,k2,k3,k4,k5,k6⟩:=M3 E2 e;exact hq v H' P2 ag fr (λ a ha hn=>⟨E2.sub a ⟨ha,hn⟩,t2.2 a ⟨ha,hn⟩⟩) E2.C8 t2.1 k4 k5 o2 aS (λ a ha=>(hf a ha).2.2 0 c _ ag k1 k2 k3) (λ a ha=>sub E2 a (k6 a ha)) (λ a ha=>sub E2 a ⟨(hf a ha).1,(hf a ha).2.1⟩)
   ·exact hq.elim
  |brk ρ|cont ρ=>exact λ h=>h.elim
end
structure P9 (P:Program)(w:World)(K:za)(mg:Str->Option Value)(base:Heap)(x:Str)(k n:Nat)(F:OT->List D->M (OT×OT)):Prop where
 ex:∃fa fd ps,Dn P w K mg base (Ua P w base) k fa fd ps (P8 K n F)/\mg x=some (.ref fa)/\zX K (.ref fa)=true/\Binds K fd ps []
def S5 {P:Program}{w:World}{K:za}{mg:Str->Option Value}{base:Heap}{x:Str}{st:Stmt}{N ps:List Str}{k n:Nat}(T:AI K mg x st ps)(S:Ac N ps (A5 st))(g:Ad->M Out)(hb:∀(f:Addr) (B4:Value) (A:Around) (outer:List Env) (s:Shared) (H:Hp) (E:XK),BE k (A.deeper (envOfC x (A5 st) s.heap.objs.size f B4))->Tu (jZ P w K mg base N x (A5 st) f B4 A outer s H E) (D2 K E) (AR st) g)(hn: ~~~(ps.length=n)):
 P9 P w K mg base x (k+1) n (λ t aw=>Eg (g (D4 N t aw))):=by
 obtain⟨f,fd,F,hm,hB⟩:=T.ex;subst hn;exact⟨⟨f,fd,ps,nT F S g (hb f),hm,F.kp,hB⟩⟩
section
variable {X:Cx}{WX:Str->Hp->Prop}{c:Bool}{P0:E8}{P:Addr->Prop}{H:Hp}{σ:St}{ρ:Ad}{a b e:Expr}{f g:Ad->M D}{fn:Ad->M OT}{fp:Ad->M (List Nat)}{pos:Pos}{i:Nat}{es:List Expr}{fs:Ad->M (List D)}
def An.new {K:za}{P':Addr->Prop}{H':Hp}(E:An K P0 P H σ ρ)(s:Ae H H')(sm:Ae (del H P) (del H' P')){a:Addr}(hn:H a=none):∀(j:Nat) c v fq,ρ[j]?=some (some c)->σ[j]?=some (some v)->Dq K H' P' c v fq->a∉fq:=λ j c v fq h1 h2 h3 ha=>by
 have io:HX c=true:=by cases c<;>first|rfl|exact h3.elim
 obtain⟨w,fr,k1,k2,k3,k4⟩:=E.ows j c h1 io;rw[h2] at k1;cases k1;have m:=k2.move sm λ b hb=>by obtain⟨o,q⟩:=k2.at b hb;rw[q];exact s _ _ q
 rw[h3.Cg m] at ha;obtain⟨o,q⟩:=k2.at a ha;rw[hn] at q;cases q
def An.sV {K:za}{P':Addr->Prop}{H':Hp}{π:List Nat}{v1 v2:V}{t1 u r:OT}{ay fu fr:List Addr}(E:An K P0 P H σ ρ)(pl:Bh K P H σ ρ i π v1 t1)(o:C7 K H P v1 t1 ay)(hs:∀a,P a->a∉ay->P' a/\H' a=H a)(ht:∀a,P' a->Dv H' a)(sm:Ae (del H P) (del H' P'))
 (o':C7 K H' P' v1 u fu) (nd:fu.Nodup) (hf:∀a∈fu,P' a/\(P a->a∈ay)) (or:C7 K H' P' v2 r fr) (yw:fr.Nodup) (hr:∀a∈fr,P' a/\(P a->a∈ay)) (dj:∀a∈fr,a∉fu):
 ∃c p t,ρ[i]?=some (some c)/\treeOf c=some (p,t)/\An K P0 P' H' σ (ρ.set i (some (toCl p (EK t π u))))/\Tr P0 P H P' H'/\
  ∀a∈fr,P' a/\¬ P0 a/\∀(j:Nat) c' v fq,(ρ.set i (some (toCl p (EK t π u))))[j]?=some (some c')->σ[j]?=some (some v)->Dq K H' P' c' v fq->a∉fq:=by
 obtain⟨v0,c,p,t,h1,h2,h3,h4⟩:=pl.ex;have io:HX c=true:=by cases c<;>first|rfl|cases h2
 obtain⟨w,fp,k1,k2,k3,k4⟩:=E.ows i c h1 io;rw[h3] at k1;cases k1;have ot:=k2.toT h2;obtain⟨fz,oz,kz,_⟩:=ot.part h4;have:=oz.Cg o;subst this;obtain⟨ag,q1,q2,q3⟩:=ot.put sm h4 o o' (λ a ha hn=>(hs a (k3 a ha).1 hn).2) k4 nd (λ a ha hb=>(hf a ha).2 (k3 a hb).1);have sg:∀(j:Nat) c' v' fq,i≠j->ρ[j]?=some (some c')->σ[j]?=some (some v')->Dq K H P c' v' fq->∀a∈fq,P a/\a∉fp:=λ j c' v' fq ae g1 g2 g3 a ha=>by
  have jd:HX c'=true:=by cases c'<;>first|rfl|exact g3.elim
  obtain⟨w',og,m1,m2,m3,m4⟩:=E.ows j c' g1 jd;rw[g2] at m1;cases m1;have:=m2.Cg g3;subst this;exact⟨(m3 a ha).1,E.apart j i c' c v' v0 og fp g1 h1 g2 h3 g3 k2 (zY ae) a ha⟩
 have key:=E.sG (P':=P') (H':=H') (i:=i) (v:=v0) (c:=toCl p (EK t π u)) (fp:=ag) (λ a ha=>(hs a (E.sub a ha) λ z=>(k3 a (kz a z)).2 ha).1) ht sm (λ j c' v' fq ae g1 g2 g3 a ha=>?_) (Dq.toCl q1) (λ a ha=>?_) q2 (λ n z=>by rw[IF] at z;subst z;have:=E.pin i c n h1 (IG h2);rw[h3] at this;cases this;rfl)
 ·rw[KA h3] at key;refine⟨c,p,t,h1,h2,key,⟨sm,λ a ha=>(hs a (E.sub a ha) λ z=>(k3 a (kz a z)).2 ha).2⟩,λ a ha=>⟨(hr a ha).1,λ z=>(k3 a (kz a ((hr a ha).2 (E.sub a z)))).2 z,λ j c' v fq g1 g2 g3 hb=>?_⟩⟩;rcases get_set g1 with ⟨rfl,hl,z⟩|⟨ae,g1⟩
  ·cases z;rw[h3] at g2;cases g2;rw[g3.Cg (Dq.toCl q1)] at hb;rcases q3 a hb with y|y
   ·exact dj a ha y
   ·exact y.2 ((hr a ha).2 (k3 a y.1).1)
  ·have jd:HX c'=true:=by cases c'<;>first|rfl|exact g3.elim
   obtain⟨w',og,m1,m2,m3,m4⟩:=E.ows j c' g1 jd;rw[g2] at m1;cases m1;have o2:=sg j c' v og ae g1 g2 m2;have mv:=m2.move sm λ b aA=>(hs b (o2 b aA).1 λ z=>(o2 b aA).2 (kz b z)).2;rw[g3.Cg mv] at hb;exact (o2 a hb).2 (kz a ((hr a ha).2 (o2 a hb).1))
 ·have o2:=sg j c' v' fq ae g1 g2 g3 a ha;have hk:=hs a o2.1 λ z=>o2.2 (kz a z);refine⟨hk.2,λ z=>?_,hk.1⟩;rcases q3 a z with y|y
  ·exact o2.2 (kz a ((hf a y).2 o2.1))
  ·exact o2.2 y.1
 ·rcases q3 a ha with y|y
  ·exact⟨(hf a y).1,λ z=>(k3 a (kz a ((hf a y).2 (E.sub a z)))).2 z⟩
  ·exact⟨(hs a (k3 a y.1).1 y.2).1,(k3 a y.1).2⟩
end
abbrev G9 (i:Nat)(ρ:Ad)(π:List Nat)(u:OT):M Out:=match ρ[i]? with
 |some (some c)=>(match treeOf c with|some (p,t)=>.ok (.next (ρ.set i (some (toCl p (EK t π u)))))|none=>.bad)
 |_=>.bad
abbrev Eh (i:Nat)(ρ:Ad)(π:List Nat):M (List OT):=match Tw i ρ π with | some (.lst ts)=>.ok ts | _=>.bad
def Hz {i:Nat}{ρ:Ad}{π:List Nat}{u:OT}{c:Cl}{p:Option Nat}{t:OT}(h:ρ[i]?=some (some c))(ht:treeOf c=some (p,t)):G9 i ρ π u=.ok (.next (ρ.set i (some (toCl p (EK t π u))))):=by
 unfold G9;simp only[h,ht]
def AG.append {K:za}{H:Hp}{P:Addr->Prop}:∀ {xs ys:List V}{ts us:List OT}{fp fq:List Addr},AG K H P xs ts fp->AG K H P ys us fq->AG K H P (xs++ys) (ts++us) (fp++fq)
 |_,_,_,_,_,_,.nil,h=>h
 |_,_,_,_,_,_,.cons a t,h=>by rw[zO];exact .cons a (t.append h)
section
variable {X:Cx}{WX:Str->Hp->Prop}{c:Bool}{P0:E8}{P:Addr->Prop}{H:Hp}{σ:St}{ρ:Ad}{a b e:Expr}{f g:Ad->M D}{fn:Ad->M OT}{fp:Ad->M (List Nat)}{pos:Pos}{i:Nat}{es:List Expr}{fs:Ad->M (List D)}
def Bh.lst {K:za}{π:List Nat}{v:V}{t1:OT}{ts:List OT}(pl:Bh K P H σ ρ i π v t1)(E:An K P0 P H σ ρ)(h:Eh i ρ π=.ok ts):t1=.lst ts/\∃l xs fq,v=.ref l/\H l=some (.lst xs)/\AG K H P xs ts fq/\l∉fq/\fq.Nodup:=by
 unfold Eh at h;rw[pl.at] at h;split at h
 ·rename_i oh e;cases e;cases h;obtain⟨ay,o1,hp,nd⟩:=pl.own E;cases o1 with
  |lst hh hr=>exact⟨rfl,_,_,_,rfl,hh,hr,(zW.mp nd).1,(zW.mp nd).2⟩
 ·cases h
def nU (ha:DP X WX a i fp)(he:DN X WX e fn){apos ad:Pos}(hs: ~~~(starEach [e] X.env=[(false,eval e X.env)]))(ba: ~~~(swapsWith (.Call (.Attribute a "append" apos) [e] [] ad) none pos.line X.env=pure false))(ar: ~~~(attributeBase a "append" X.env (eval a X.env)=eval a X.env))(aB: ~~~(((backTo ad (starEach [e] X.env)).all (λ x => !x.1)&&(backToKw ad (keywordEach [] X.env)).all (λ x=>x.1.isSome)&&decide (([e]:List Expr).length+([]:List Keyword).length+(if ([]:List Keyword).isEmpty then 0 else 1)<30))=true))(au: ~~~((apos.endLine==ad.line)=true))(ak: ~~~((backTo ad (starEach [] X.env)).any (·.1)=false)):
 DS X WX (.Expr (.Call (.Attribute a "append" apos) [e] [] ad) pos) (λ ρ=>(fp ρ).bind λ π=>(Eh i ρ π).bind λ ts=>(fn ρ).bind λ t=>if ts.length<1000 then G9 i ρ π (.lst (ts++[t])) else .bad):=by
 obtain⟨ta,a1,a2⟩:=ha;obtain⟨te,e1,e2⟩:=he;refine⟨_,Ff (OK za7 PySem.F.slot_list_append PySem.F.type_list_append Kt a1 (Bp e1 Cn hs) ar aB au hs ak) ba,λ P0 P σ H Z ρ E h=>?_⟩;dsimp only at h;refine a2 P0 P σ H _ ρ E ?_;refine dI h E λ π h=>?_;intro v t1 H1 s1 pl;have E1:=E.same s1;cases q1:Eh i ρ π with
 |bad=>rw[q1] at h;exact h.elim
 |ex x=>unfold Eh at q1;split at q1<;>cases q1
 |ok ts =>
  rw[q1] at h;simp only[M.A9] at h;obtain⟨rfl,l,xs,fq,rfl,hl,ol,nl,vn⟩:=pl.lst E1 q1;refine⟨.inl ⟨rfl,xs,.of hl⟩,e2 P0 P σ H1 _ ρ E1 ?_⟩;cases q2:fn ρ with
  |bad=>rw[q2] at h;exact h
  |ex y=>rw[q2] at h;exact λ H' s=>h H' P ((E.tr s1).trans (E1.tr s))
  |ok t =>
   rw[q2] at h;simp only[M.A9] at h;by_cases hz:ts.length<1000
   ·rw[if_pos hz] at h;intro w fw H2 s2 n2 aS o2;have sm:=Cz (P:=P) s2 n2;have E2:An X.K P0 (PU P fw) H2 σ ρ:=E1.more s2 KH (IE (E1.same s2).C8 o2) sm;have keep:∀b∈fq,H2 b=H1 b:=λ b hb=>by obtain⟨o,z,_⟩:=ol.C8 b hb;rw[z];exact s2 _ _ z
    have dk:=ol.move sm keep;have aF:=s2 _ _ hl;have dj:∀b∈fq,b∉fw:=λ b hb hc=>(ol.C8 b hb).no (n2 b hc);obtain⟨c,p,t0,g1,g2,E3,t3⟩:=E2.sT (pl.more sm s2) aF dk (us:=ts++[t]) (ys:=xs++[w]) (dk.append (.cons o2 .nil)) (by rw[zI];exact z9.mpr ⟨vn,aS,λ b hb d hd z=>dj b hb (by rw[z];exact hd)⟩) (by
     rw[zI];intro z;rcases zy.mp z with z|z
     ·exact nl z
     ·rw[n2 l z] at hl;cases hl) (by
     intro b hb;rw[zI] at hb;rcases zy.mp hb with z|z
     ·exact .inl z
     ·exact .inr ⟨.inr z,λ y=>(E1.C8 b (E1.sub b y)).no (n2 b z),E1.new s2 sm (n2 b z)⟩)
    rw[Hz g1 g2] at h;exact⟨l,xs,w,rfl,rfl,aF,AD (by rw[ol.len];exact yQ hz),h _ _ _ (((E.tr s1).trans (E1.uF s2 n2)).trans t3) E3⟩
   ·rw[if_neg hz] at h;exact h.elim
abbrev gD {α:Type}(o:Option α):M α:=match o with | some x=>.ok x | none=>.bad
abbrev Tx (i:Nat)(ρ:Ad)(π:List Nat):M (List D):=match Tw i ρ π with | some (.lst ts)=>(match Dz ts with | some ds=>.ok ds | none=>.bad) | _=>.bad
def Bh.shl {K:za}{π:List Nat}{v:V}{t1:OT}{ds:List D}(pl:Bh K P H σ ρ i π v t1)(E:An K P0 P H σ ρ)(h:Tx i ρ π=.ok ds):t1=.lst (ds.map .sh)/\∃l xs,v=.ref l/\H l=some (.lst xs)/\Ag K (del H P) xs ds:=by
 unfold Tx at h;rw[pl.at] at h;split at h
 ·rename_i oh e;split at h
  ·rename_i ja e';cases e;cases h;have z:=CG e';subst z;obtain⟨ay,o1,hp,nd⟩:=pl.own E;cases o1 with
   |lst hh hr=>exact⟨rfl,_,_,rfl,hh,hr.nQ.2⟩
  ·cases h
 ·cases h
def Zb {π:List Nat}{x:Str}(h:Tx i ρ π=.ex x):False:=by
 unfold Tx at h;split at h
 ·split at h<;>cases h
 ·cases h
def An.sW {K:za}{π:List Nat}{l:Addr}{xs ys:List V}{ds es:List D}(E:An K P0 P H σ ρ)(pl:Bh K P H σ ρ i π (.ref l) (.lst (ds.map .sh)))(hH:H l=some (.lst xs))(o:Ag K (del H P) xs ds)(o':Ag K (del H P) ys es):
 ∃c p t,ρ[i]?=some (some c)/\treeOf c=some (p,t)/\An K P0 P (upd H l (.lst ys)) σ (ρ.set i (some (toCl p (EK t π (.lst (es.map .sh))))))/\Tr P0 P H P (upd H l (.lst ys)):=
 E.sT pl hH o.ows o'.ows yY (λ z=>by cases z) (λ a ha=>by cases ha)
abbrev gE (t:OT):M (List D):=match t with | .lst us=>gD (Dz us) | _=>.bad
def Zc (ha:DP X WX a i fp)(he:DN X WX e fn){apos ad:Pos}(hs: ~~~(starEach [e] X.env=[(false,eval e X.env)]))(ba: ~~~(swapsWith (.Call (.Attribute a "extend" apos) [e] [] ad) none pos.line X.env=pure false))(ar: ~~~(attributeBase a "extend" X.env (eval a X.env)=eval a X.env))(aB: ~~~(((backTo ad (starEach [e] X.env)).all (λ x => !x.1)&&(backToKw ad (keywordEach [] X.env)).all (λ x=>x.1.isSome)&&decide (([e]:List Expr).length+([]:List Keyword).length+(if ([]:List Keyword).isEmpty then 0 else 1)<30))=true))(au: ~~~((apos.endLine==ad.line)=true))(ak: ~~~((backTo ad (starEach [] X.env)).any (·.1)=false)):
 DS X WX (.Expr (.Call (.Attribute a "extend" apos) [e] [] ad) pos) (λ ρ=>(fp ρ).bind λ π=>(Tx i ρ π).bind λ ds=>((fn ρ).bind gE).bind λ es=>if ds.length+es.length<=1000 then G9 i ρ π (.lst ((ds++es).map .sh)) else .bad):=by
 obtain⟨ta,a1,a2⟩:=ha;obtain⟨te,e1,e2⟩:=he;refine⟨_,Ff (OK za7 PySem.F.slot_list_extend PySem.F.type_list_extend Ws a1 (Bp e1 Cn hs) ar aB au hs ak) ba,λ P0 P σ H Z ρ E h=>?_⟩;dsimp only at h;refine a2 P0 P σ H _ ρ E ?_;refine dI h E λ π h=>?_;intro v t1 H1 s1 pl;have E1:=E.same s1;cases q1:Tx i ρ π with
 |bad=>rw[q1] at h;exact h.elim
 |ex x=>exact (Zb q1).elim
 |ok ds =>
  rw[q1] at h;simp only[M.A9] at h;obtain⟨rfl,l,xs,rfl,hl,ol⟩:=pl.shl E1 q1;refine⟨.inl ⟨rfl,xs,.of hl⟩,e2 P0 P σ H1 _ ρ E1 ?_⟩;cases q2:fn ρ with
  |bad=>rw[q2] at h;exact h
  |ex y=>rw[q2] at h;exact λ H' s=>h H' P ((E.tr s1).trans (E1.tr s))
  |ok t =>
   rw[q2] at h;simp only[M.A9] at h;intro w fw H2 s2 n2 aS o2;have sm:=Cz (P:=P) s2 n2;have E2:An X.K P0 (PU P fw) H2 σ ρ:=E1.more s2 KH (IE (E1.same s2).C8 o2) sm;cases t with
   |lst us =>
    simp only[gE] at h;cases q3:Dz us with
    |none=>rw[q3] at h;exact h.elim
    |some es =>
     rw[q3] at h;simp only[gD,M.A9] at h;have z:=CG q3;subst z;cases o2 with
     |lst hb hr =>
      by_cases hz:ds.length+es.length<=1000
      ·rw[if_pos hz] at h;have he:=hr.nQ.2;have dk:=ol.mono sm;have aF:=s2 _ _ hl;obtain⟨c,p,t0,g1,g2,E3,t3⟩:=E2.sW (pl.more sm s2) aF dk (dk.append he);rw[Hz g1 g2] at h;exact⟨l,_,xs,_,rfl,rfl,aF,hb,yQ (AD (by rw[ol.length,he.length];exact hz)),h _ _ _ (((E.tr s1).trans (E1.uF s2 n2)).trans t3) E3⟩
      ·rw[if_neg hz] at h;exact h.elim
   |_=>exact h.elim
end
abbrev gX (K:za)(WX:Str->Hp->Prop)(P0:E8)(P:Addr->Prop)(H:Hp)(σ:St)(Q:VK):M (Ad×OT)->Prop
 | .ok (ρ,t)=>∀v fp H' P',Tr P0 P H P' H'->An K P0 P' H' σ ρ->C7 K H' P' v t fp->fp.Nodup->(∀a∈fp,P' a/\¬ P0 a/\∀(j:Nat) c v' fq,ρ[j]?=some (some c)->σ[j]?=some (some v')->Dq K H' P' c v' fq->a∉fq)->Q v H'
 | .ex x=>∀H' P',Tr P0 P H P' H'->WX x H'
 | .bad=>False
abbrev DX (X:Cx)(WX:Str->Hp->Prop)(e:Expr)(f:Ad->M (Ad×OT)):Prop:=
 ∃t,PE X e t/\∀P0 P σ H Q ρ,An X.K P0 P H σ ρ->gX X.K WX P0 P H σ Q (f ρ)->t σ H Q
abbrev Zd:OT->Bool
 | .sh _=>false
 |_=>true
abbrev S6 (i:Nat)(F:OT->List D->M (OT×OT))(ρ:Ad)(π:List Nat)(aw:List D):M (Ad×OT):=match ρ[i]? with
 |some (some c)=>(match treeOf c with
  |some (p,t)=>(match KG t π with
   |some t1=>if Zd t1=true then (match F t1 aw with | .ok (t2,r)=>.ok (ρ.set i (some (toCl p (EK t π t2))),r)|_=>.bad) else .bad
   |none=>.bad)
  |none=>.bad)
 |_=>.bad
section
variable {X:Cx}{E:XK}{WX:Str->Hp->Prop}{c:Bool}{P0:E8}{P:Addr->Prop}{H:Hp}{σ:St}{ρ:Ad}{a b e:Expr}{f g:Ad->M D}{fn:Ad->M OT}{fx:Ad->M (Ad×OT)}{fp:Ad->M (List Nat)}{pos:Pos}{i:Nat}{es:List Expr}{fs:Ad->M (List D)}
def Ze {F:OT->List D->M (OT×OT)}{π:List Nat}{aw:List D}{c:Cl}{p:Option Nat}{t t1 t2 r:OT}(h:ρ[i]?=some (some c))(ht:treeOf c=some (p,t))(hs:KG t π=some t1)(hN:Zd t1=true)(hF:F t1 aw=.ok (t2,r)):S6 i F ρ π aw=.ok (ρ.set i (some (toCl p (EK t π t2))),r):=by
 unfold S6;simp only[h,ht,hs,hN,if_true,hF]
def Zf {k n:Nat}{F:OT->List D->M (OT×OT)}{x:Str}{p:Pos}(xo:FU X E)(G:P9 X.prog X.w X.K X.mg X.base x k n F)(hr:BE k X.A)(hg:Gl X x)(hp:DP X (D2 X.K E) a i fp)(ha:DA X (D2 X.K E) true es fs)(hn:es.length+1=n)(aP:(x==("__debug__" : Str))=false:=by decide)(he: ~~~(starEach (a::es) X.env=(false,eval a X.env)::starEach es X.env))(ao: ~~~((backTo pos (starEach es X.env)).any (·.1)=false)):
 DX X (D2 X.K E) (.Call (.Name x p) (a::es) [] pos) (λ ρ=>(fp ρ).bind λ π=>(fs ρ).bind λ aw=>S6 i F ρ π aw):=by
 obtain⟨fa,fd,ps,hF,hm,hk,hb⟩:=G.ex;obtain⟨tp,p1,p2⟩:=hp;obtain⟨ta,a1,a2,a3⟩:=ha;refine⟨_,V3 hF hr hg hm hk hb .nil xo.call (Bp p1 a1 he) aP he ao,λ P0 P σ H Q ρ Ev h=>?_⟩;dsimp only at h;refine p2 P0 P σ H _ ρ Ev ?_;cases q:fp ρ with
 |bad=>rw[q] at h;exact h
 |ex x=>rw[q] at h;exact λ H' s=>h H' P (Ev.tr s)
 |ok π =>
  rw[q] at h;simp only[M.A9] at h;intro v t1 H1 s1 pl;have E1:=Ev.same s1;refine a2 P0 P σ H1 _ ρ E1 ?_;cases q2:fs ρ with
  |bad=>rw[q2] at h;exact h
  |ex y=>rw[q2] at h;exact λ H' s=>h H' P ((Ev.tr s1).trans (E1.tr s))
  |ok aw =>
   rw[q2] at h;simp only[M.A9] at h;intro vs H2 s2 a4;have E2:=E1.same s2;have c4:=pl.same s2;show P8 X.K n F ((v::vs)++[]) H2 Q E;rw[zI];obtain⟨v0,c,pp,t,g1,g2,g3,g4⟩:=c4.ex;unfold S6 at h;simp only[g1,g2,g4.sub] at h;by_cases hx:Zd t1=true
   ·rw[if_pos hx] at h;obtain⟨ay,o1,vo,fv⟩:=c4.own E2;have je:∃l,v=.ref l:=by
     cases o1 with
     |sh hv=>exact absurd hx (by simp[Zd])
     |lst _ _|tup _ _|dK _ _|dT _ _|ins _ _ _=>exact⟨_,rfl⟩
    obtain⟨l,rfl⟩:=je;refine⟨by rw[zj,a4.length,a3 ρ aw q2];exact hn,P,l,t1,ay,vs,aw,rfl,E2.C8,λ b hb=>(vo b hb).1,fv,o1,a4,?_⟩;cases qF:F t1 aw with
    |bad|ex x=>rw[qF] at h;exact h.elim
    |ok z =>
    obtain⟨t2,r⟩:=z;rw[qF] at h;intro w H' P' fu fr k1 k2 k3 k4 k5 k6 k7 k8 k9 oj;obtain⟨c',p',t',m1,m2,m3,m4,m5⟩:=E2.sV c4 o1 k1 k2 k3 k4 k5 k9 k6 k7 oj k8;rw[g1] at m1;cases m1;rw[g2] at m2;cases m2;exact h w fr H' P' (((Ev.tr s1).trans (E1.tr s2)).trans m4) m3 k6 k7 m5
   ·rw[if_neg hx] at h;exact h.elim
def MZ (he:DX X WX e fx)(hs: ~~~(swapsWith e none pos.line X.env=pure false)):DS X WX (.Expr e pos) (λ ρ=>(fx ρ).bind λ z=>.ok (.next z.1)):=by
 obtain⟨te,e1,e2⟩:=he;refine⟨_,Ff e1 hs,λ P0 P σ H Z ρ E h=>?_⟩;dsimp only at h;refine e2 P0 P σ H _ ρ E ?_;cases q:fx ρ with
 |bad|ex x=>rw[q] at h;exact h
 |ok z=>rw[q] at h;exact λ v fp H' P' t E' o nd hf=>h σ H' P' t E'
end
abbrev FX (i:Nat)(ρ:Ad)(π:List Nat):M (Bool×List D×List D):=match Tw i ρ π with
 |some (.Bq b ks ts)=>(match Dz ts with|some vs=>.ok (b,ks,vs)|none=>.bad)
 |_=>.bad
abbrev putD (ks vs:List D)(k v:D):List D×List D:=if LO ks k=true then (ks,II ks vs k v) else (ks++[k],vs++[v])
section
variable {X:Cx}{E:XK}{WX:Str->Hp->Prop}{c:Bool}{P0:E8}{P:Addr->Prop}{H:Hp}{σ:St}{ρ:Ad}{a b e:Expr}{f g:Ad->M D}{fn:Ad->M OT}{fx:Ad->M (Ad×OT)}{fp:Ad->M (List Nat)}{pos:Pos}{i:Nat}{es:List Expr}{fs:Ad->M (List D)}
def Bh.Bq {K:za}{π:List Nat}{v:V}{t1:OT}{bl:Bool}{ks vs:List D}(pl:Bh K P H σ ρ i π v t1)(E:An K P0 P H σ ρ)(h:FX i ρ π=.ok (bl,ks,vs)):t1=.Bq bl ks (vs.map .sh)/\∃l xs,v=.ref l/\P l/\Ag K (del H P) xs vs/\C7 K H P (.ref l) (.Bq bl ks (vs.map .sh)) [l]/\
 ((bl=false/\∃kvs,H l=some (.dK kvs)/\ks=(kvs.map λ kv=>Cy kv.1)/\xs=kvs.map yZ)\/(bl=true/\∃kvs,H l=some (.dT kvs)/\ks=(kvs.map λ kv=>.tup (kv.1.map Cy))/\xs=kvs.map yZ)):=by
 unfold FX at h;rw[pl.at] at h;split at h
 ·rename_i b' vi oh e;split at h
  ·rename_i aE e';cases e;cases h;have z:=CG e';subst z;obtain⟨ay,o1,hp,nd⟩:=pl.own E;generalize ht:OT.Bq bl ks (vs.map .sh)=t at o1;cases o1 with
   |dK hh hr =>
    injection ht with h1 h2 h3
    subst h1 h2 h3;obtain⟨rfl,hs⟩:=hr.nQ;exact⟨rfl,_,_,rfl,(hp _ zd).1,hs,.dK hh hr,.inl ⟨rfl,_,hh,rfl,rfl⟩⟩
   |dT hh hr =>
    injection ht with h1 h2 h3
    subst h1 h2 h3;obtain⟨rfl,hs⟩:=hr.nQ;exact⟨rfl,_,_,rfl,(hp _ zd).1,hs,.dT hh hr,.inr ⟨rfl,_,hh,rfl,rfl⟩⟩
   |_=>cases ht
  ·cases h
 ·cases h
def Zg {π:List Nat}{x:Str}(h:FX i ρ π=.ex x):False:=by
 unfold FX at h;split at h
 ·split at h<;>cases h
 ·cases h
def An.nV {K:za}{π:List Nat}{l:Addr}{t1 u:OT}{o':HO}(E:An K P0 P H σ ρ)(pl:Bh K P H σ ρ i π (.ref l) t1)(ot:C7 K H P (.ref l) t1 [l])(hn:∀xs,o'≠.tup xs/\∀z,o'≠.XH z (.tup xs))(new:Ae (del H P) (del (upd H l o') P)->C7 K (upd H l o') P (.ref l) u [l]):
 ∃c p t,ρ[i]?=some (some c)/\treeOf c=some (p,t)/\An K P0 P (upd H l o') σ (ρ.set i (some (toCl p (EK t π u))))/\Tr P0 P H P (upd H l o'):=by
 obtain⟨ay,o1,hp,_⟩:=pl.own E;have:=o1.Cg ot;subst this;have pP:P l:=(hp l zd).1;have sd:del (upd H l o') P=del H P:=by
  funext b;by_cases hb:P b
  ·rw[D8 hb,D8 hb]
  ·rw[Av hb,Av hb,Aj (λ z=>hb (by rw[z];exact pP))]
 have sm:Ae (del H P) (del (upd H l o') P):=by rw[sd];exact Ae.refl _
 refine E.sS pl ot (λ _ h=>h) (λ a h=>?_) sm (λ a ha hn=>Aj λ z=>hn (by rw[z];exact zd)) (new sm) (by simp) (λ a ha=>.inl ha);by_cases ha:a=l
 ·subst ha;exact⟨_,Aq,hn⟩
 ·unfold Dv;rw[Aj ha];exact E.C8 a h
def M4 {n:Nat}(hu:X.A.units+n<cLine)(ha:DP X WX a i fp)(hk:DE X WX true b g)(hv:DE X WX true e f){pos':Pos}(hs: ~~~(swapsWith e (some (.Subscript a b pos')) pos.line X.env=pure false))(hn:1<=n:=by decide):
 DS X WX (.Assign [.Subscript a b pos'] e pos) (λ ρ=>(f ρ).bind λ v=>(fp ρ).bind λ π=>(g ρ).bind λ k=>(FX i ρ π).bind λ z=>if keyOk z.1 k=true/\z.2.1.length<1000 then G9 i ρ π (.Bq z.1 (putD z.2.1 z.2.2 k v).1 ((putD z.2.1 z.2.2 k v).2.map .sh)) else .bad):=by
 obtain⟨ta,a1,a2⟩:=ha;obtain⟨tk,k1,k2⟩:=hk;obtain⟨tv,v1,v2⟩:=hv;refine⟨_,eV (by omega) a1 k1 v1 hs,λ P0 P σ H Z ρ E h=>?_⟩;dsimp only at h;refine v2 P0 P σ H _ ρ E ?_;refine dI h E λ d h=>?_;intro w H0 s0 hw;have E0:=E.same s0;refine a2 P0 P σ H0 _ ρ E0 ?_;cases q:fp ρ with
 |bad=>rw[q] at h;exact h
 |ex x=>rw[q] at h;exact λ H' s=>h H' P ((E.tr s0).trans (E0.tr s))
 |ok π =>
  rw[q] at h;simp only[M.A9] at h;intro v t1 H1 s1 pl;have E1:=E0.same s1;refine k2 P0 P σ H1 _ ρ E1 ?_;cases q2:g ρ with
  |bad=>rw[q2] at h;exact h
  |ex y=>rw[q2] at h;exact λ H' s=>h H' P (((E.tr s0).trans (E0.tr s1)).trans (E1.tr s))
  |ok k =>
   rw[q2] at h;simp only[M.A9] at h;intro y H2 s2 hy;have E2:=E1.same s2;have c4:=pl.same s2;have lh:=(hw.mono s1.del).mono s2.del;have sn:=((E.tr s0).trans (E0.tr s1)).trans (E1.tr s2);cases q3:FX i ρ π with
   |bad=>rw[q3] at h;exact h.elim
   |ex x=>exact (Zg q3).elim
   |ok z =>
    obtain⟨bb,ks,vs⟩:=z;rw[q3] at h;simp only[M.A9] at h;by_cases hc:keyOk bb k=true/\ks.length<1000
    ·rw[if_pos hc] at h;obtain⟨rfl,l,xs,rfl,hP,cf,ot,jf⟩:=c4.Bq E2 q3;have hK:=Ef hc.1;rcases jf with ⟨rfl,kvs,hH,rfl,rfl⟩|⟨rfl,kvs,hH,rfl,rfl⟩
     ·cases hK with
      |k κ =>
       have ey:=hy.fZ;refine⟨l,_,rfl,.inl ⟨kvs,κ,hH,ey,AD (by have:=hc.2;rw[zc] at this;omega),rfl⟩,?_⟩;have aQ:∃aE,(putD (kvs.map λ kv=>Cy kv.1) vs (Cy κ) d)=((putK kvs κ w).map (λ kv=>Cy kv.1),aE)/\Ag X.K (del H2 P) ((putK kvs κ w).map yZ) aE:=by
        unfold putD putK;rw[Jn Gz];by_cases hh:(kvs.any λ kv=>decide (kv.1=κ))=true
        ·rw[if_pos hh,if_pos hh];refine⟨_,by rw[GB (fk:=Cy) Gz],?_⟩;rw[<-GA (fk:=Cy) Gz];exact GC lh cf
        ·rw[if_neg hh,if_neg hh];refine⟨_,by rw[z4];rfl,?_⟩;rw[z4];exact cf.snoc lh
       obtain⟨aE,e1,e2⟩:=aQ;obtain⟨c,p,t0,g1,g2,E3,t3⟩:=E2.nV (o':=.dK (putK kvs κ w)) (u:=.Bq false ((putK kvs κ w).map λ kv=>Cy kv.1) (aE.map .sh)) c4 ot (λ _=>⟨λ z=>(by cases z),λ _ z=>by cases z⟩) (λ mv=>.dK Aq (e2.mono mv).ows);rw[e1,Hz g1 g2] at h;exact h _ _ _ (sn.trans t3) E3
     ·cases hK with
      |t κ =>
       cases hy with
       |tup ht aF =>
        have ey:=Ag.keys κ aF;subst ey;refine⟨l,_,rfl,.inr ⟨kvs,κ,_,hH,rfl,(Ao ht).2,AD (by have:=hc.2;rw[zc] at this;omega),rfl⟩,?_⟩;have hf:∀a b:List Key,Bl (.tup (a.map Cy)) (.tup (b.map Cy))=decide (a=b):=λ a b=>by simp only[Bl];exact LZ a b
        have aQ:∃aE,(putD (kvs.map λ kv=>.tup (kv.1.map Cy)) vs (.tup (κ.map Cy)) d)=((putK kvs κ w).map (λ kv=>.tup (kv.1.map Cy)),aE)/\Ag X.K (del H2 P) ((putK kvs κ w).map yZ) aE:=by
         unfold putD putK;rw[Jn (fk:=λ κ:List Key=>D.tup (κ.map Cy)) hf];by_cases hh:(kvs.any λ kv=>decide (kv.1=κ))=true
         ·rw[if_pos hh,if_pos hh];refine⟨_,by rw[GB (fk:=λ κ:List Key=>D.tup (κ.map Cy)) hf],?_⟩;rw[<-GA (fk:=λ κ:List Key=>D.tup (κ.map Cy)) hf];exact GC lh cf
         ·rw[if_neg hh,if_neg hh];refine⟨_,by rw[z4];rfl,?_⟩;rw[z4];exact cf.snoc lh
        obtain⟨aE,e1,e2⟩:=aQ;obtain⟨c,p,t0,g1,g2,E3,t3⟩:=E2.nV (o':=.dT (putK kvs κ w)) (u:=.Bq true ((putK kvs κ w).map λ kv=>.tup (kv.1.map Cy)) (aE.map .sh)) c4 ot (λ _=>⟨λ z=>(by cases z),λ _ z=>by cases z⟩) (λ mv=>.dT Aq (e2.mono mv).ows);rw[e1,Hz g1 g2] at h;exact h _ _ _ (sn.trans t3) E3
    ·rw[if_neg hc] at h;exact h.elim
def S7 (tk:Bool):DN X WX (.Dict [] [] pos) (λ _=>.ok (.Bq tk [] [])):=by
 cases tk with
 |false =>
  refine⟨_,Ys,λ P0 P σ H Q ρ E h p hp=>?_⟩;exact h _ [p] _ (AQ hp _) (λ a ha=>by rw[zg.mp ha];exact hp) (by simp) (.dK (kvs:=[]) Aq .nil)
 |true =>
  refine⟨_,Yt,λ P0 P σ H Q ρ E h p hp=>?_⟩;exact h _ [p] _ (AQ hp _) (λ a ha=>by rw[zg.mp ha];exact hp) (by simp) (.dT (kvs:=[]) Aq .nil)
end
section
variable {X:Cx}{WX:Str->Hp->Prop}{c:Bool}{e:Expr}{f:Ad->M D}{pos:Pos}
abbrev kE (K:za):List V->Hp->VK->Prop:=λ xs H Q=>∃(a:Addr) (bs:List (Addr×List Int)) (b:Addr×List Int),xs=[.ref a]/\Di K H a (bs.map λ b=>V.ref b.1)/\(∀b∈bs,Fe K H b.1 (b.2.map V.int))/\Ba bs=some b/\Q (.ref b.1) H
def WW (hc:X.calm=true)(hu:X.A.units+1<cLine):Gj X (.builtin "min") (kE X.K):=by
 intro pins s σ H xs us Q I r h;obtain⟨a,bs,b0,rfl,hl,hb,he,q⟩:=h;obtain⟨ua,rfl,ra⟩:=r.one;cases ra;obtain⟨ac,rv,pl,hz⟩:=I.list hl;have ei:=Kw rv;subst ei;have tv:∀a:Addr,∃t:Array Value,∀b∈bs,b.1=a->IsTup s.heap a t/\IntsAre t.toList b.2:=λ a=>by
  by_cases bU:∃b∈bs,b.1=a
  ·obtain⟨b,bU,rfl⟩:=bU;obtain⟨ts,rt,pt,_⟩:=I.tuple (hb b bU);refine⟨ts.toArray,λ b' aA e=>⟨pt,?_⟩⟩;have q2:=hb b' aA;rw[e] at q2;have e2:=I.Hq q2 (hb b bU);rw[<-e2] at rt;simpa using intsAre_of rt
  ·exact⟨#[],λ b aA e=>absurd ⟨b,aA,e⟩ bU⟩
 have ae:bs≠[]:=λ z=>by subst z;cases he
 refine MK bs (λ b=>zh (tv b)) a none (λ _=>ae) (I.ok.hd hc) hu pl.isList (λ b aA=>(zb (tv b.1) b aA rfl).1) (λ b aA=>(zb (tv b.1) b aA rfl).2) λ h' tk hk=>?_;rw[he];exact⟨.ref b0.1,H,I.kept (t':=tk) hk,rfl,q⟩
abbrev Vw (ds:List D):M D:=match ds with
 |[.lst xs]=>(match Gu xs with|some ks=>(match Ba ks with|some k=>.ok k.1|none=>.bad)|none=>.bad)
 |_=>.bad
def gF:Ld X.K WX (kE X.K) Vw:=by
 intro P H ds vs Q ht hl h;unfold Vw at h;split at h
 ·rename_i xs;obtain⟨v,rfl,hv⟩:=hl.one;split at h
  ·rename_i ks e1;cases hv with
   |lst hs hh =>
    obtain⟨bs,rfl,h2,h3⟩:=IA hh e1;split at h
    ·rename_i k e2;rcases MQ h3 with ⟨q1,q2⟩|⟨b,k',q1,q2,_,q3⟩
     ·rw[q2] at e2;cases e2
     ·rw[q2] at e2;cases e2;exact⟨_,bs,b,rfl,hs.B7,λ b hb=>(h2 b hb).B7,q1,h _ H (Ae.refl H) q3⟩
    ·exact h.elim
  ·exact h.elim
 ·exact h.elim
def gH {p:Pos}{n:Nat}(hc:X.calm=true)(hu:X.A.units+n<cLine)(hg:Gl X "min")(hm:X.mg "min" = none)(ha:DE X WX c e f)(hb:bootBuiltins "min" = some (.builtin "min"):=by decide +kernel)(hs: ~~~(starEach [e] X.env=[(false,eval e X.env)]))(hn:1<=n:=by decide):DE X WX c (.Call (.Name "min" p) [e] [] pos) (λ ρ=>((f ρ).bind λ d=>(M.ok []).bind λ ds=>.ok (d::ds)).bind Vw):=
 Jb (WW hc (by omega)) gF hg hm hb (A2 ha A6 hs) (he:=hs)
end
section
variable {X:Cx}{E:XK}{WX:Str->Hp->Prop}{c:Bool}{P0:E8}{P:Addr->Prop}{H:Hp}{σ:St}{ρ:Ad}{a b e:Expr}{f g:Ad->M D}{fn:Ad->M OT}{fp:Ad->M (List Nat)}{pos:Pos}{i:Nat}
abbrev gI:V->List V->Hp->VK->Prop:=λ x vs H Q=>∃(l:Addr) (ns:List Int) (k:Int),x=.ref l/\vs=[.int k]/\H l=some (.lst (ns.map V.int))/\k∈ns/\Q .AK (upd H l (.lst ((ns.erase k).map V.int)))
def Pa {α β:Type}(f:α->β):∀(l:List α) (k:Nat),(l.eraseIdx k).map f=(l.map f).eraseIdx k
 |[],_|_::_,0=>rfl
 |x::r,k+1=>by rw[List.eraseIdx_cons_succ,zf,zf,List.eraseIdx_cons_succ,Pa f r k]
abbrev Uj (k:Int):Value->Bool
 | .int i _=>i==k
 |_=>false
def WY:uA X "list.remove" gI:=by
 intro pins s σ H x vs v us Q I rx rv h;obtain⟨l,ns,k,rfl,rfl,hH,hk,q⟩:=h;cases rx;obtain⟨u,rfl,ru⟩:=rv.one;obtain⟨tk,rfl⟩:=ru;obtain⟨z,ac,n,r,hl,e⟩:=I.Wr hH;have hlen:=r.length;have f6:ns.idxOf k<ns.length:=List.idxOf_lt_length_iff.mpr hk;have f7:∀m (hm:m<ac.toArray.size) (so:m<ns.length),∃t,ac.toArray[m]=Value.int ns[m] t:=λ m hm so=>by
  have hx:(ns.map V.int)[m]?=some (V.int ns[m]):=by rw[z7,zi so];rfl
  obtain⟨w,hw,aZ⟩:=r.get hx;obtain⟨t,rfl⟩:=aZ;refine⟨t,?_⟩;have:ac[m]?=some ac[m]:=zi (by simpa using hm);rw[hw] at this;simpa using (zD this).symm
 have hsz:ac.toArray.size=ns.length:=by rw[zm,<-hlen,zc]
 have hm:=MeetsSeq.list_remove l ac.toArray n (.int k tk) (Uj k) (λ y hy=>by
  obtain⟨m,hm,rfl⟩:=Array.mem_iff_getElem.mp hy;obtain⟨t,ht⟩:=f7 m hm (by rw[<-hsz];exact hm);rw[ht];exact MeetsSeq.EqGives.int _ _ _ _) (ns.idxOf k) (by rw[hsz];exact f6) (by
  obtain⟨t,ht⟩:=f7 (ns.idxOf k) (by rw[hsz];exact f6) f6;rw[ht];simp[Uj]) (λ m hm af=>by
  obtain⟨t,ht⟩:=f7 m hm (by omega);rw[ht];have:=List.not_of_lt_findIdx (p:=(· == k)) (xs:=ns) (i:=m) af;simpa [Uj] using this) (by rw[zm];omega)
 refine call_meets F.slot_list_remove ⟨_,e,rfl⟩ F.entry_list_remove (F.args_list_remove_2 _ _) hm ⟨e,?_⟩;refine⟨.AK,_,I.eN (its':=ac.eraseIdx (ns.idxOf k)) hH e ?_ ?_ ?_,rfl,q⟩
 ·show ac.toArray.eraseIdxIfInBounds _=_;rw[List.eraseIdxIfInBounds_toArray]
 ·rw[show ns.erase k=ns.eraseIdx (ns.idxOf k) from List.erase_eq_eraseIdx_of_idxOf rfl,Pa];exact r.eraseIdx _
 ·rw[zc];have:=List.length_erase_le (a:=k) (l:=ns);rw[zc] at z;omega
def WZ (ha:DP X WX a i fp)(he:DE X WX true e f){apos ad:Pos}(hs: ~~~(starEach [e] X.env=[(false,eval e X.env)]))(ba: ~~~(swapsWith (.Call (.Attribute a "remove" apos) [e] [] ad) none pos.line X.env=pure false))(ar: ~~~(attributeBase a "remove" X.env (eval a X.env)=eval a X.env))(aB: ~~~(((backTo ad (starEach [e] X.env)).all (λ x => !x.1)&&(backToKw ad (keywordEach [] X.env)).all (λ x=>x.1.isSome)&&decide (([e]:List Expr).length+([]:List Keyword).length+(if ([]:List Keyword).isEmpty then 0 else 1)<30))=true))(au: ~~~((apos.endLine==ad.line)=true))(ak: ~~~((backTo ad (starEach [] X.env)).any (·.1)=false)):
 DS X WX (.Expr (.Call (.Attribute a "remove" apos) [e] [] ad) pos) (λ ρ=>(fp ρ).bind λ π=>(Tx i ρ π).bind λ ds=>(f ρ).bind λ d=>match d,CT ds with
  | .int k,some ns=>if k∈ns then G9 i ρ π (.lst (((ns.erase k).map D.int).map .sh)) else .bad
  |_,_=>.bad):=by
 obtain⟨ta,a1,a2⟩:=ha;obtain⟨te,e1,e2⟩:=he;refine⟨_,Ff (OK za7 PySem.F.slot_list_remove PySem.F.type_list_remove WY a1 (Bp e1 Cn hs) ar aB au hs ak) ba,λ P0 P σ H Z ρ E h=>?_⟩;dsimp only at h;refine a2 P0 P σ H _ ρ E ?_;refine dI h E λ π h=>?_;intro v t1 H1 s1 pl;have E1:=E.same s1;cases q1:Tx i ρ π with
 |bad=>rw[q1] at h;exact h.elim
 |ex x=>exact (Zb q1).elim
 |ok ds =>
  rw[q1] at h;simp only[M.A9] at h;obtain⟨rfl,l,xs,rfl,hl,ol⟩:=pl.shl E1 q1;refine⟨.inl ⟨rfl,xs,.of hl⟩,e2 P0 P σ H1 _ ρ E1 ?_⟩;cases q2:f ρ with
  |bad=>rw[q2] at h;exact h
  |ex y=>rw[q2] at h;exact λ H' s=>h H' P ((E.tr s1).trans (E1.tr s))
  |ok d =>
   rw[q2] at h;simp only[M.A9] at h;intro w H2 s2 hw;have E2:=E1.same s2;have c4:=pl.same s2;cases d with
   |int k =>
    cases q3:CT ds with
    |none=>rw[q3] at h;exact h.elim
    |some ns =>
     rw[q3] at h;dsimp only at h;by_cases hk:k∈ns
     ·rw[if_pos hk] at h;have:=F0 q3;subst this;have dk:=ol.mono s2.del;have ex:=Ec dk;subst ex;have aF:=s2 _ _ hl;obtain⟨c,p,t0,g1,g2,E3,t3⟩:=E2.sW (ys:=(ns.erase k).map V.int) (es:=(ns.erase k).map D.int) c4 aF dk (Ag.ints _);rw[Hz g1 g2] at h;exact⟨l,ns,k,rfl,by rw[hw.int_inv],aF,hk,h _ _ _ (((E.tr s1).trans (E1.tr s2)).trans t3) E3⟩
     ·rw[if_neg hk] at h;exact h.elim
   |_=>exact h.elim
end
section
variable {X:Cx}{WX:Str->Hp->Prop}{c:Bool}{P0:E8}{P:Addr->Prop}{H:Hp}{σ:St}{ρ:Ad}{a b e:Expr}{f g:Ad->M D}{fn:Ad->M OT}{pos:Pos}{te:TE}
abbrev sX (ds:List D):M D:=match ds with
 |[.lst xs]=>(match CT xs with|some ns=>.ok (.int ns.sum)|none=>.bad)
 |_=>.bad
abbrev vZ (te:TE):TE:=λ σ H Q=>te σ H λ x H1=>∃n:Nat,x=.int (n:Int)/\n<=1000/\∀r,H1 r=none->Q (.ref r) (upd H1 r (.lst ((zw n).map λ i:Nat=>V.int (i:Int))))
def X0 {acc:Array Value}{n:Nat}(h:ItemsOf (λ i v=>∃t,v=Value.int (0+(i:Int)*1) t) acc n):Vals ((zw n).map λ i:Nat=>V.int (i:Int)) acc.toList:=by
 obtain⟨h1,h2⟩:=h;have key:∀(l:List Value) (k:Nat),(∀i v,l[i]?=some v->∃t,v=Value.int ((k+i:Nat):Int) t)->Vals ((List.range' k l.length).map λ i:Nat=>V.int (i:Int)) l:=by
  intro l;induction l with
  |nil=>intro k _;exact .nil
  |cons v r ih =>
   intro k hk;rw[zj,List.range'_succ,zf];refine .cons (by obtain⟨t,e⟩:=hk 0 v rfl;exact⟨t,by simpa using e⟩) (ih (k+1) λ i w hw=>?_);obtain⟨t,e⟩:=hk (i+1) w (by simpa using hw);exact⟨t,by rw[e];congr 1;omega⟩
 have:=key acc.toList 0 (λ i v hv=>by
  obtain⟨t,e⟩:=h2 i v (by rw[<-Array.getElem?_toList];exact hv);exact⟨t,by rw[e];congr 1;omega⟩)
 rw[Array.length_toList,h1] at this;rw[List.range_eq_range'];exact this
def Qn {p p2 b8:Pos}(hc:X.calm=true)(hg:Gl X "list")(hm:X.mg "list" = none)(i9:Gl X "range")(aN:X.mg "range" = none)(he:PE X e te)(hv:bootBuiltins "list" = some (.type "list"):=by decide +kernel)(hs: ~~~(starEach [.Call (.Name "range" p2) [e] [] b8] X.env=[(false,eval (.Call (.Name "range" p2) [e] [] b8) X.env)]))(aO: ~~~(starEach [e] X.env=[(false,eval e X.env)])):
 PE X (.Call (.Name "list" p) [.Call (.Name "range" p2) [e] [] b8] [] pos) (vZ te):=by
 intro pins s σ H Q I h;refine wpAny_Call_Name_kw (Du I hg hm hv ?_);refine zZ ?_ hs;rw[hs];refine zag ?_;refine wpAny_Call_Name_kw (Du I i9 aN boot_range ?_);refine zZ ?_ aO;rw[aO];refine zag (Bj (he pins s σ H _ I h) λ u s1 zz=>?_);obtain⟨x,H1,I1,r1,q1⟩:=zz;obtain⟨n,rfl,hn,q⟩:=q1;obtain⟨t,rfl⟩:=r1;refine zao ?_;refine call_range_1 ?_;refine zao ?_;have h4:((n:Nat):Int)<2^62:=by omega
 refine call_list_range (n:=n) (I1.ok.hd hc) (IsRange.new ..) (small_one (by omega) (by omega) (by omega) h4) (by rw[rangeSize_one];split<;>omega) (by omega) λ h' tk om c' hk bd on=>?_;have kp:∀b o,s1.heap.get? b=some o->h'.get? b=some o:=λ b o e=>hk b o (zo _ e);have rv:=X0 on;have dl:∀o:Obj,s1.heap.objs.size<=(s1.heap.push o).objs.size:=λ o=>by simp[Heap.push]
 refine⟨.ref _,_,I1.laid (t':=tk) (o:=.lst ((zw n).map λ i:Nat=>V.int (i:Int))) kp (dl _) ⟨?_,om.toList,c',rv,by simpa using bd⟩,rfl,q _ (I1.Au.fresh (dl _))⟩;rw[zc,List.length_range];exact yQ (AD hn)
abbrev uG (d:D):M OT:=match d with
 | .int j=>@ite _ (0<=j/\j<=1000) (zbd _) (.ok (.lst ((C2 0 j.toNat).map .sh))) .bad
 |_=>.bad
def Qo {n:Nat}(h:n<=1000):uG (.int (n:Int))=.ok (.lst (((zw n).map λ i:Nat=>D.int (i:Int)).map .sh)):=by
 unfold uG;dsimp only;rw[if_pos ⟨by omega,by omega⟩,yO,Fo]
def Js {p p2 b8:Pos}(hc:X.calm=true)(hg:Gl X "list")(hm:X.mg "list" = none)(i9:Gl X "range")(aN:X.mg "range" = none)(he:DE X WX true e f)(hv:bootBuiltins "list" = some (.type "list"):=by decide +kernel)(hs: ~~~(starEach [.Call (.Name "range" p2) [e] [] b8] X.env=[(false,eval (.Call (.Name "range" p2) [e] [] b8) X.env)]))(aO: ~~~(starEach [e] X.env=[(false,eval e X.env)])):
 DN X WX (.Call (.Name "list" p) [.Call (.Name "range" p2) [e] [] b8] [] pos) (λ ρ=>(f ρ).bind uG):=by
 obtain⟨te,e1,e2⟩:=he;refine⟨_,Qn hc hg hm i9 aN e1 hv hs aO,λ P0 P σ H Q ρ E h=>?_⟩;refine e2 P0 P σ H _ ρ E ?_;dsimp only at h;refine XO h λ d h=>?_;intro v H1 s1 hv;cases d with
 |int j =>
  by_cases hj:0<=j/\j<=1000
  ·obtain⟨n,rfl⟩:∃n:Nat,j=n:=⟨j.toNat,by omega⟩;rw[Qo (by omega)] at h;refine⟨n,hv.int_inv,by omega,λ r hr=>h.KI s1 (xs:=(zw n).map λ i:Nat=>V.int (i:Int)) ?_ r hr⟩;have:∀l:List Nat,Ag X.K (del H1 P) (l.map λ i:Nat=>V.int (i:Int)) (l.map λ i:Nat=>D.int (i:Int)):=λ l=>by
    induction l with
    |nil=>exact .nil
    |cons x r ih=>exact .cons (.int _) ih
   exact this _
  ·have e:uG (.int j)=.bad:=if_neg hj;rw[e] at h;exact h.elim
 |_=>exact h.elim
abbrev gJ (lo hi:Option Int)(d:D):M OT:=match d with
 | .lst ds=>.ok (.lst (((ds.drop (HT.Mz ds.length 0 lo)).take (HT.Mz ds.length ds.length hi-HT.Mz ds.length 0 lo)).map .sh))
 |_=>.bad
def N0 {lo hi:Option Expr}{oq fh:Ad->M (Option Int)}{p2:Pos}(ha:DE X WX true e f)(hl:DO X WX true lo oq)(hh:DO X WX true hi fh):DN X WX (.Subscript e (.Slice lo hi none p2) pos) (λ ρ=>(f ρ).bind λ d=>(oq ρ).bind λ l=>(fh ρ).bind λ u=>gJ l u d):=by
 obtain⟨ta,a1,a2⟩:=ha;obtain⟨tl,l1,l2⟩:=hl;obtain⟨th,h1,h2⟩:=hh;refine⟨_,Ym eM a1 l1 h1,λ P0 P σ H Q ρ E h=>?_⟩;dsimp only at h;refine a2 P0 P σ H _ ρ E ?_;cases q:f ρ with
 |bad|ex x=>rw[q] at h;exact h
 |ok d =>
  rw[q] at h;intro v H1 s1 hv;refine l2 P0 P σ H1 _ ρ (E.same s1) ?_;cases q2:oq ρ with
  |bad=>rw[q2] at h;exact h
  |ex y=>rw[q2] at h;exact λ H' s=>h H' (s1.trans s)
  |ok l =>
   rw[q2] at h;intro H2 s2;refine h2 P0 P σ H2 _ ρ ((E.same s1).same s2) ?_;cases q3:fh ρ with
   |bad=>rw[q3] at h;exact h
   |ex y=>rw[q3] at h;exact λ H' s=>h H' ((s1.trans s2).trans s)
   |ok u =>
    rw[q3] at h;simp only[M.A9] at h;intro H3 s3;unfold gJ at h;split at h
    ·cases hv with
     |lst hs hl =>
      refine⟨_,_,rfl,(s3.seq (s2.seq hs.B7)),λ p hp=>h.KI ((s1.trans s2).trans s3) ?_ p hp⟩;unfold Yn;rw[hl.length];exact ((((hl.drop _).take _).mono s2.del).mono s3.del)
    ·exact h.elim
def Zh:xB X.K WX (kA X.K) S2:=by
 intro P H x y v w Q ht hx hy h;unfold S2 at h;split at h
 ·rename_i ds es;by_cases hl:ds.length+es.length<=1000
  ·rw[if_pos hl] at h;cases hx with
   |lst h1 h2 =>
    cases hy with
    |lst h3 h4=>exact⟨_,_,_,_,rfl,rfl,h1.B7,h3.B7,yQ (AD (by rw[h2.length,h4.length];exact hl)),h.KI (Ae.refl _) (h2.wY h4)⟩
  ·rw[if_neg hl] at h;exact h.elim
 ·exact h.elim
def gK (ha:DE X WX true a f)(hb:DE X WX true b g):DN X WX (.BinOp a .Add b pos) (λ ρ=>(f ρ).bind λ x=>(g ρ).bind λ y=>S2 x y):=by
 obtain⟨ta,a1,a2⟩:=ha;obtain⟨tb,b1,b2⟩:=hb;exact⟨_,Y8 fJ a1 b1,λ P0 P σ H Q ρ E h=>sP a2 b2 Zh E h⟩
abbrev GK (μ:List (Option Nat))(g:TG):Prop:=∀σ0 σ x H Q,(∀(j:Nat) v,(EJ μ σ0)[j]?=some (some v)->σ[j]?=some (some v))->g x σ H Q->g x σ H λ σ' H'=>Q σ' H'/\∀(j:Nat) v,(EJ μ σ0)[j]?=some (some v)->σ'[j]?=some (some v)
abbrev sY (μ:List (Option Nat))(g:XM):Prop:=∀σ0 σ x H Q,(∀(j:Nat) v,(EJ μ σ0)[j]?=some (some v)->σ[j]?=some (some v))->g x σ H Q->g x σ H λ σ' H'=>Q σ' H'/\∀(j:Nat) v,(EJ μ σ0)[j]?=some (some v)->σ'[j]?=some (some v)
def GK.keeps {μ:List (Option Nat)}{g:TG}(h:GK μ g):Kv μ g:=λ σ x H Q q=>h σ (EJ μ σ) x H Q (λ _ _ z=>z) q
def gL {μ:List (Option Nat)}{i:Nat}(h:μ[i]?=some none):GK μ (OD i):=λ σ0 σ x H Q hk q=>by
 refine⟨q,λ j v hj=>?_⟩;have ae:i≠j:=λ z=>by
  subst z;unfold EJ at hj;rw[z7,h] at hj;cases hj
 rw[yV ae];exact hk j v hj
def gM {μ:List (Option Nat)}:sY μ lP:=λ σ0 σ x H Q hk q=>⟨q.1,q.2,hk⟩
def Zi {μ:List (Option Nat)}{t:TG}{u:XM}(mono:∀v σ H Q Q',(∀σ' H',Q σ' H'->Q' σ' H')->t v σ H Q->t v σ H Q')(ht:GK μ t)(hu:sY μ u):sY μ (Y0 t u):=λ σ0 σ x H Q hk q=>by
 obtain⟨v,r,rfl,q⟩:=q;exact⟨v,r,rfl,mono _ _ _ _ _ (λ σ' H' z=>hu σ0 σ' r H' Q z.2 z.1) (ht σ0 σ v H _ hk q)⟩
def nW {K:za}{μ:List (Option Nat)}{n:Nat}{t:XM}(h:sY μ t):GK μ (lQ K n t):=λ σ0 σ x H Q hk q=>by
 obtain⟨a,xs,rfl,h1,h2,q⟩:=q;exact⟨a,xs,rfl,h1,h2,h σ0 σ xs H Q hk q⟩
variable {cv:List D->Ad->M Ad}{gt:D->Ad->M Ad}{es:List Expr}
abbrev gN (X:Cx)(scope:Scope)(NB:List Str)(μ:List (Option Nat))(es:List Expr)(gt:List D->Ad->M Ad):Prop:=
 ∃g:XM,(∀s H C ex,pN (blockOf X s H scope C NB ex) es g)/\sY μ g/\∀P0 P σ H Q ρ vs ds,An X.K P0 P H σ ρ->Ag X.K (del H P) vs ds->gG X.K P0 P H Q (gt ds ρ)->g vs σ H Q
def Jt {scope:Scope}{NB:List Str}{μ:List (Option Nat)}:gN X scope NB μ [] (λ ds ρ=>match ds with | []=>.ok ρ | _=>.bad):=
 ⟨lP,λ s H C ex=>UZ,gM,λ P0 P σ H Q ρ vs ds E hv h=>by
  cases hv with
  |nil=>exact⟨rfl,h σ E⟩
  |cons _ _=>exact h.elim⟩
def CO {scope:Scope}{NB:List Str}{μ:List (Option Nat)}(i:Nat){x:Str}{px:Pos}(hN:NB.Nodup)(hi:NB[i]?=some x)(hx:(relabel scope X.env).names.lookup x=some .local)(hm:μ[i]?=some none)(hr:gN X scope NB μ es cv)
 (hs:∀s H C ex,(assignEach (.Name x px::es) (blockOf X s H scope C NB ex).env).map (·.2)=assign (.Name x px) (blockOf X s H scope C NB ex).env::(assignEach es (blockOf X s H scope C NB ex).env).map (·.2):=by intro _ _ _ _;rfl):
 gN X scope NB μ (.Name x px::es) (λ ds ρ=>match ds with|d::r=>cv r (ρ.set i (some (.val d)))|[]=>.bad):=by
 obtain⟨gr,r1,r2,r3⟩:=hr;refine⟨Y0 (OD i) gr,λ s H C ex=>RB (PZ (X:=blockOf X s H scope C NB ex) hN hi (.inl hx) (.inr hx)) (r1 s H C ex) (hs s H C ex),Zi (λ v σ H Q Q' hq h=>hq _ _ h) (gL hm) r2,λ P0 P σ H Q ρ vs ds E hv h=>?_⟩;cases hv with
 |nil=>exact h.elim
 |cons h1 h2=>exact⟨_,_,rfl,r3 P0 P _ H Q _ _ _ (E.WE h1) h2 h⟩
def M5 {scope:Scope}{NB:List Str}{μ:List (Option Nat)}{k n:Nat}{pt:Pos}(hc:X.calm=true)(h:gN X scope NB μ es cv)
 (hn:∀s H C ex,(assignEach es (blockOf X s H scope C NB ex).env).length=n:=by intro _ _ _ _;rfl) (aJ:∀s H C ex,(assignEach es (blockOf X s H scope C NB ex).env).findIdx? (·.1)=none:=by intro _ _ _ _;rfl):
 sI X scope NB μ (.Tuple es k pt) (λ d ρ=>match d with | .tup ds=>if ds.length=n then cv ds ρ else .bad|_=>.bad):=by
 obtain⟨t,a1,a2,a3⟩:=h;refine⟨lQ X.K n t,λ s H C ex=>Y1 (X:=blockOf X s H scope C NB ex) hc (a1 s H C ex) (hn s H C ex) (aJ s H C ex),(nW a2).keeps,λ P0 P σ H Q ρ v d E hv h=>?_⟩;cases hv with
 | @tup a xs ds hs hl =>
  dsimp only at h;by_cases hd:ds.length=n
  ·rw[if_pos hd] at h;exact⟨a,xs,rfl,Fe.of (Ao hs).2,by rw[hl.length];exact hd,a3 P0 P σ H Q ρ xs ds E hl h⟩
  ·rw[if_neg hd] at h;exact h.elim
 |_=>exact h.elim
end
abbrev WP (m:M Out)(nx:Ad->Prop)(rt:Out->Prop)(ex:Str->Prop):Prop:=match m with
 | .ok (.next ρ)=>nx ρ
 | .ok o=>rt o
 | .ex x=>ex x
 | .bad=>False
section
variable {nx:Ad->Prop}{rt:Out->Prop}{ex:Str->Prop}{m:M Out}{k:Ad->M Out}{ρ ρ':Ad}
def AV (h:m=.ok (.next ρ'))(hn:nx ρ'):WP m nx rt ex:=by rw[h];exact hn
def WP.mono {sq:Ad->Prop}{sr:Out->Prop}{lx:Str->Prop}(h:WP m nx rt ex)(h1:∀ρ,nx ρ->sq ρ)(h2:∀o,rt o->sr o)(h3:∀x,ex x->lx x):WP m sq sr lx:=by
 cases m with
 |bad=>exact h
 |ex x=>exact h3 x h
 |ok o =>
  cases o with
  |next ρ=>exact h1 ρ h
  |ret d|brk d|cont d|CQ d|EY d ρ=>exact h2 _ h
def wp_seq (h:WP m (λ ρ=>WP (k ρ) nx rt ex) rt ex):WP (RU m k) nx rt ex:=by
 cases m with
 |bad|ex x=>exact h
 |ok o =>
  cases o with
  |next ρ|ret d|brk d|cont d|CQ d|EY d ρ=>exact h
def wp_step (h:m=.ok (.next ρ'))(hk:WP (k ρ') nx rt ex):WP (RU m k) nx rt ex:=by rw[h];exact hk
def Bm {I:Ad->Prop}(h:WP m I rt ex)(hk:∀ρ,I ρ->WP (k ρ) nx rt ex):WP (RU m k) nx rt ex:=wp_seq (h.mono hk (λ _ h=>h) λ _ h=>h)
abbrev inLoop (I:Ad->Prop)(nx:Ad->Prop)(rt:Out->Prop)(o:Out):Prop:=match o with
 | .cont ρ=>I ρ
 | .brk ρ=>nx ρ
 |o=>rt o
def B6 {gt:D->Ad->M Ad}{gb:Ad->M Out}{ds:List D}(I:Nat->Ad->Prop)(h0:I 0 ρ)
 (step:∀i d ρ,ds[i]?=some d->I i ρ->∃ρ1,gt d ρ=.ok ρ1/\WP (gb ρ1) (I (i+1)) (inLoop (I (i+1)) nx rt) ex) (done:∀ρ,I ds.length ρ->nx ρ):WP (forM gt gb ds ρ) nx rt ex:=by
 have key:∀(n i:Nat) (ρ:Ad),i+n=ds.length->I i ρ->WP (forM gt gb (ds.drop i) ρ) nx rt ex:=by
  intro n;induction n with
  |zero =>
   intro i ρ hi h;have e:i=ds.length:=by omega
   subst e;rw[List.drop_length,forM];exact done ρ h
  |succ n ih =>
   intro i ρ hi h;have af:i<ds.length:=by omega
   obtain⟨ρ1,h1,h2⟩:=step i ds[i] ρ (zi af) h;rw[Je af,forM,h1];dsimp only;cases q:gb ρ1 with
   |bad|ex x=>rw[q] at h2;exact h2
   |ok o =>
    rw[q] at h2;cases o with
    |next ρ2=>exact ih (i+1) ρ2 (by omega) h2
    |ret d|CQ d|EY d ρ2=>exact h2
    |cont ρ2=>exact ih (i+1) ρ2 (by omega) h2
    |brk ρ2=>exact h2
 have:=key ds.length 0 ρ (by omega) h0;rw[List.drop_zero] at this;exact this
def S8 {α:Type}{c:Ad->M Bool}{b:Ad->M Out}{lt:α->α->Prop}(J:α->Ad->Prop){x:α}(hx:Acc lt x)(h0:J x ρ)
 (step:∀x ρ,J x ρ->(c ρ=.ok false/\nx ρ)\/(c ρ=.ok true/\WP (b ρ) (λ ρ2=>∃y,lt y x/\J y ρ2) (inLoop (λ ρ2=>∃y,lt y x/\J y ρ2) nx rt) ex)):WP (Lf c b ρ) nx rt ex:=by
 have key:∀x,Acc lt x->∀ρ,J x ρ->∃n,Aw c b n ρ≠.bad/\WP (Aw c b n ρ) nx rt ex:=by
  intro x hx;induction hx with
  |intro x _ ih =>
   intro ρ h;rcases step x ρ h with ⟨h1,h2⟩|⟨h1,h2⟩
   ·refine⟨1,?_,?_⟩
    ·rw[Aw,h1];intro z;cases z
    ·rw[Aw,h1];exact h2
   ·cases q:b ρ with
    |bad=>rw[q] at h2;exact h2.elim
    |ex y =>
     rw[q] at h2;refine⟨1,?_,?_⟩
     ·rw[Aw,h1];dsimp only;rw[q];intro z;cases z
     ·rw[Aw,h1];dsimp only;rw[q];exact h2
    |ok o =>
     rw[q] at h2;have go:∀ρ2,(∃y,lt y x/\J y ρ2)->(∀n,Aw c b (n+1) ρ=Aw c b n ρ2)->∃n,Aw c b n ρ≠.bad/\WP (Aw c b n ρ) nx rt ex:=by
      rintro ρ2 ⟨y,hy,hJ⟩ e;obtain⟨n,h3,h4⟩:=ih y hy ρ2 hJ;exact⟨n+1,by rw[e];exact h3,by rw[e];exact h4⟩
     cases o with
     |next ρ2|cont ρ2=>exact go ρ2 h2 λ n=>by rw[Aw,h1];dsimp only;rw[q]
     |brk ρ2 =>
      refine⟨1,?_,?_⟩
      ·rw[Aw,h1];dsimp only;rw[q];intro z;cases z
      ·rw[Aw,h1];dsimp only;rw[q];exact h2
     |ret d =>
      refine⟨1,?_,?_⟩
      ·rw[Aw,h1];dsimp only;rw[q];intro z;cases z
      ·rw[Aw,h1];dsimp only;rw[q];exact h2
     |CQ d =>
      refine⟨1,?_,?_⟩
      ·rw[Aw,h1];dsimp only;rw[q];intro z;cases z
      ·rw[Aw,h1];dsimp only;rw[q];exact h2
     |EY d ρ2 =>
      refine⟨1,?_,?_⟩
      ·rw[Aw,h1];dsimp only;rw[q];intro z;cases z
      ·rw[Aw,h1];dsimp only;rw[q];exact h2
 obtain⟨n,h1,h2⟩:=key x hx ρ h0;unfold Lf;have hx:∃n,Aw c b n ρ≠.bad:=⟨n,h1⟩;rw[dif_pos hx];have e:Aw c b (zh hx) ρ=Aw c b n ρ:=by
  have a:=CL (zb hx) n;have b':=CL h1 (zh hx);rw[Nat.add_comm] at b';rw[<-a,<-b']
 rw[e];exact h2
abbrev xC (Q:OT->Prop)(o:Out):Prop:=match o with
 | .ret d=>Q (.sh d)
 | .CQ c=>∃t,sQ c=.ok t/\Q t
 |_=>False
def Lg {Q:OT->Prop}(h:WP m (λ _=>Q (.sh .AK)) (xC Q) (λ _=>False)):∃t,Z5 m=.ok t/\Q t:=by
 cases m with
 |bad|ex x=>exact h.elim
 |ok o =>
  cases o with
  |next ρ|ret d=>exact⟨_,rfl,h⟩
  |CQ c=>exact h
  |EY c ρ|brk ρ|cont ρ=>exact h.elim
def B9 {t:OT}(h:WP m (λ _=>OT.sh .AK=t) (xC (·=t)) (λ _=>False)):Z5 m=.ok t:=by
 obtain⟨u,h1,h2⟩:=Lg (Q:=(·=t)) h;rw[h1,h2]
abbrev xD (Q:D->Prop)(o:Out):Prop:=match o with
 | .ret d=>Q d
 | .CQ c=>∃t,vW c=.ok t/\Q t
 |_=>False
def sZ {Q:D->Prop}(h:WP m (λ _=>Q .AK) (xD Q) (λ _=>False)):∃t,fin m=.ok t/\Q t:=by
 cases m with
 |bad|ex x=>exact h.elim
 |ok o =>
  cases o with
  |next ρ|ret d=>exact⟨_,rfl,h⟩
  |CQ c=>exact h
  |EY c ρ|brk ρ|cont ρ=>exact h.elim
def tD {d:D}(h:WP m (λ _=>D.AK=d) (xD (·=d)) (λ _=>False)):fin m=.ok d:=by
 obtain⟨u,h1,h2⟩:=sZ (Q:=(·=d)) h;rw[h1,h2]
end
section
variable {d:D}{ds es:List D}{ρ ρ':Ad}{o:Option Cl}{i n:Nat}{p:Option Nat}{t u:OT}{π:List Nat}{b:Bool}{ks vs:List D}{ts:List OT}{m:M D}
def uH:rv 0 (some (.val d)::ρ)=.ok d:=rfl
def uI:rv (i+1) (o::ρ)=rv i ρ:=rfl
abbrev S9 (f:Ad->Ad)(m:M Out):M Out:=match m with
 | .ok (.next ρ)=>.ok (.next (f ρ))
 |m=>m
def Ju {f:Ad->Ad}:S9 f (.ok (.next ρ))=.ok (.next (f ρ)):=rfl
def Jv:O9 0 (some (.own ds)::ρ)=.ok []:=rfl
def Jw:O9 0 (some (.ow (.LN n ds))::ρ)=.ok []:=rfl
def HA:O9 0 (some (.ow (.tree p t))::ρ)=.ok []:=by unfold O9 Tw;simp[treeOf]
def Vx:O9 (i+1) (o::ρ)=O9 i ρ:=rfl
def Vy:Tw 0 (some (.own ds)::ρ) π=KG (.lst (ds.map .sh)) π:=rfl
def Vz:Tw 0 (some (.ow (.LN n ds))::ρ) π=KG (.lst (ds.map .sh)) π:=rfl
def N1:Tw 0 (some (.ow (.tree p t))::ρ) π=KG t π:=rfl
def M6:Tx 0 (some (.own ds)::ρ) []=.ok ds:=by unfold Tx;simp[Vy,CN]
def M7:Tx 0 (some (.ow (.LN n ds))::ρ) []=.ok ds:=by unfold Tx;simp[Vz,CN]
def Jx:Tx 0 (some (.ow (.tree p (.lst (ds.map .sh))))::ρ) []=.ok ds:=by unfold Tx;simp[N1,CN]
def gO:Tx (i+1) (o::ρ) π=Tx i ρ π:=rfl
def HB:Eh 0 (some (.own ds)::ρ) []=.ok (ds.map .sh):=by unfold Eh;simp[Vy]
def HC:Eh 0 (some (.ow (.LN n ds))::ρ) []=.ok (ds.map .sh):=by unfold Eh;simp[Vz]
def Fs:Eh 0 (some (.ow (.tree p (.lst ts)))::ρ) []=.ok ts:=by unfold Eh;simp[N1]
def Qp:Eh (i+1) (o::ρ) π=Eh i ρ π:=rfl
def Dc:FX 0 (some (.ow (.tree p (.Bq b ks (vs.map .sh))))::ρ) []=.ok (b,ks,vs):=by unfold FX;simp[N1,CN]
def Qq:FX (i+1) (o::ρ) π=FX i ρ π:=rfl
def Jy:G9 0 (some (.own ds)::ρ) [] u=.ok (.next (some (toCl none u)::ρ)):=by unfold G9;simp[treeOf]
def Jz:G9 0 (some (.ow (.LN n ds))::ρ) [] u=.ok (.next (some (toCl (some n) u)::ρ)):=by unfold G9;simp[treeOf]
def HD:G9 0 (some (.ow (.tree p t))::ρ) π u=.ok (.next (some (toCl p (EK t π u))::ρ)):=by unfold G9;simp[treeOf]
def VA:G9 (i+1) (o::ρ) π u=S9 (o::·) (G9 i ρ π u):=by
 unfold G9 S9;simp only[zL,zk];split
 ·rename_i c e;split<;>simp_all
 ·simp_all
def JA:WH 0 (some (.own ds)::ρ) (.ok d)=if ds.length<1000 then .ok (.next (some (.own (ds++[d]))::ρ)) else .bad:=rfl
def VB:WH (i+1) (o::ρ) m=S9 (o::·) (WH i ρ m):=by
 unfold WH;rw[zL];cases q:ρ[i]? with
 |none=>rfl
 |some oo =>
  cases oo with
  |none=>rfl
  |some c =>
   cases c with
   |own ds =>
    cases m with
    |ok d =>
     simp only[M.A9,zk];by_cases h:ds.length<1000
     ·rw[if_pos h,if_pos h];rfl
     ·rw[if_neg h,if_neg h];rfl
    |ex x|bad=>rfl
   |val d|ow w=>rfl
def JB {j:Int}:WO 0 (some (.own ds)::ρ) (.ok (.int j)) (.ok d)=if 0<=j/\j.toNat<=ds.length/\ds.length<1000 then .ok (.next (some (.own (ds.take j.toNat++d::ds.drop j.toNat))::ρ)) else .bad:=rfl
def VC {m2:M D}:WO (i+1) (o::ρ) m m2=S9 (o::·) (WO i ρ m m2):=by
 unfold WO;rw[zL];cases q:ρ[i]? with
 |none=>rfl
 |some oo =>
  cases oo with
  |none=>rfl
  |some c =>
   cases c with
   |own ds =>
    cases m with
    |ok d =>
     cases m2 with
     |ok d2 =>
      simp only[M.A9,zk];cases d with
      |int j =>
       dsimp only;by_cases h:0<=j/\j.toNat<=ds.length/\ds.length<1000
       ·rw[if_pos h,if_pos h];rfl
       ·rw[if_neg h,if_neg h];rfl
      |_=>rfl
     |ex x|bad=>rfl
    |ex x|bad=>rfl
   |val d|ow w=>rfl
def JC:Uh 0 (some (.val d)::ρ)=.ok (.ret d):=rfl
def JD:Uh 0 (some (.own ds)::ρ)=.ok (.CQ (.own ds)):=rfl
def M8 {w:Ow}:Uh 0 (some (.ow w)::ρ)=.ok (.CQ (.ow w)):=rfl
def VD:Uh (i+1) (o::ρ)=Uh i ρ:=rfl
def xE:vX i ρ π=match Tw i ρ π with | some (.sh d)=>.ok d | _=>.bad:=rfl
def gQ:Z7 (i+1) (o::ρ)=o::Z7 i ρ:=by
 unfold Z7;simp only[zL,zk];split<;>simp_all
def gR {c:Cl}:Z7 0 (some c::ρ)=some (Jl c)::ρ:=rfl
def JE:Jl (.val d)=.val d:=rfl
def JF:Jl (.own ds)=.val (.lst ds):=rfl
def JG:Jl (.ow (.LN n ds))=.val (.lst ds):=rfl
def M9:Jl (.ow (.tree p t))=.val (er t):=rfl
def IK:er (.Bq b ks (vs.map .sh))=.Bq b ks vs:=by rw[er,IH]
def IL:er (.lst (ds.map .sh))=.lst ds:=by rw[er,IH]
def Pb:er (.sh d)=d:=rfl
def uJ {l:List (Option Nat)}:BJ (none::l) ρ=none::BJ l ρ:=rfl
def uK:BJ [] ρ=[]:=rfl
def gU {l:List (Option Nat)}:BJ (some i::l) ρ=(match ρ[i]? with | some (some (.val d))=>some (.val d) | _=>none)::BJ l ρ:=rfl
def gW {α:Type}{x y:α}:(if ([]:List D).length<=1000 then x else y)=x:=if_pos (by show 0<=1000;decide)
def gY {α:Type}{x y:α}{a:D}:(if [a].length<=1000 then x else y)=x:=if_pos (by show 1<=1000;decide)
def gZ {α:Type}{x y:α}{a b:D}:(if [a,b].length<=1000 then x else y)=x:=if_pos (by show 2<=1000;decide)
def hV {α:Type}{x y:α}{a b c:D}:(if [a,b,c].length<=1000 then x else y)=x:=if_pos (by show 3<=1000;decide)
def hX {α:Type}{x y:α}{a b c d:D}:(if [a,b,c,d].length<=1000 then x else y)=x:=if_pos (by show 4<=1000;decide)
def toCl_nil:toCl none (.lst [])=.own []:=rfl
def Cb {α:Type}{gt:D->Ad->M Ad}{ft:Ad->M Bool}{fe:Ad->M D}{g:α->D}(p:α->Bool)(f:α->D):∀ {l:List α},(∀x∈l,∃ρ1,gt (g x) ρ=.ok ρ1/\ft ρ1=.ok (p x)/\(p x=true->fe ρ1=.ok (f x)))->Bv gt ft fe (l.map g) ρ=.ok ((l.filter p).map f)
 |[],_=>rfl
 |x::r,h=>by
  obtain⟨ρ1,h1,h2,h3⟩:=h x zd;have ih:=Cb (gt:=gt) (ft:=ft) (fe:=fe) (g:=g) p f (l:=r) λ y hy=>h y (ze _ hy);rw[zf,Bv,h1];dsimp only;rw[h2];dsimp only;rw[List.filter_cons];cases hp:p x with
  |true =>
   rw[if_pos rfl,h3 hp];dsimp only;rw[ih];simp
  |false=>simp[ih]
def BG {α:Type}{gt:D->Ad->M Ad}{ft:Ad->M Bool}{fe:Ad->M D}{g:α->D}(f:α->D){l:List α}(h:∀x∈l,∃ρ1,gt (g x) ρ=.ok ρ1/\ft ρ1=.ok true/\fe ρ1=.ok (f x)):Bv gt ft fe (l.map g) ρ=.ok (l.map f):=by
 have:=Cb (gt:=gt) (ft:=ft) (fe:=fe) (ρ:=ρ) (g:=g) (λ _=>true) f (l:=l) λ x hx=>by
  obtain⟨ρ1,h1,h2,h3⟩:=h x hx;exact⟨ρ1,h1,h2,λ _=>h3⟩
 rw[this,List.filter_eq_self.mpr (λ _ _=>rfl)]
def BM {α:Type}{g:α->D}{l:List α}{i:Nat}{d:D}(h:(l.map g)[i]?=some d):∃x,l[i]?=some x/\d=g x:=by
 rw[z7] at h;cases q:l[i]? with
 |none=>rw[q] at h;cases h
 |some x=>rw[q] at h;cases h;exact⟨x,rfl,rfl⟩
def Qr:gE (.lst (ds.map .sh))=.ok ds:=by unfold gE;simp[CN,gD]
def HE {α:Type}{x:α}:gD (some x)=.ok x:=rfl
def Ma:S3 i ρ (.sh d)=.ok (.next (ρ.set i (some (.val d)))):=rfl
def JH:S3 i ρ (.lst ts)=.ok (.next (ρ.set i (some (toCl none (.lst ts))))):=rfl
def JI:S3 i ρ (.tup ts)=.ok (.next (ρ.set i (some (.ow (.tree none (.tup ts)))))):=rfl
def JJ:S3 i ρ (.Bq b ks ts)=.ok (.next (ρ.set i (some (.ow (.tree none (.Bq b ks ts)))))):=rfl
def JK {x:Str}{ns:List Str}:S3 i ρ (.ins x ns ts)=.ok (.next (ρ.set i (some (.ow (.tree none (.ins x ns ts)))))):=rfl
def Mb:Z6 (.sh d)=.ok (.ret d):=rfl
def JL:Z6 (.lst ts)=.ok (.CQ (.ow (.tree none (.lst ts)))):=rfl
def JM:Z6 (.tup ts)=.ok (.CQ (.ow (.tree none (.tup ts)))):=rfl
def JN:Z6 (.Bq b ks ts)=.ok (.CQ (.ow (.tree none (.Bq b ks ts)))):=rfl
def Sa {α:Type}{f:α->D}(h:∀x,Jh (f x)=true):∀l:List α,Ji (l.map f)=true
 |[]=>by simp[Ji]
 |x::r=>by rw[zf,Ji,h x,Sa h r];rfl
def Sb:∀ds:List D,FV (ds.map .sh)=Ji ds
 |[]=>by simp[Ji,FV]
 |d::r=>by rw[zf,FV,Gy,Sb r,Ji]
def nX (h:Jh d=true):Tv (.ok (.sh d))=.ok (.sh d):=by unfold Tv;simp[Gy,h]
def hZ (h:Ji ds=true):Tv (.ok (.lst (ds.map .sh)))=.ok (.lst (ds.map .sh)):=by unfold Tv;simp[Gy,Sb,h]
def iA {i:Int}:Jh (.int i)=true:=by simp[Jh]
def Zj:GD (.lst ds)=.ok (!ds.isEmpty):=rfl
def nY {a s m:Int}(h0:0<=a)(h1:a<m)(s0:1<=s)(s1:s<m):(a+s)%m≠a:=by
 by_cases h:a+s<m
 ·rw[Int.emod_eq_of_lt (by omega) h];omega
 ·have e:(a+s)%m=(a+s-m)%m:=by rw[Int.sub_emod_right]
  rw[e,Int.emod_eq_of_lt (by omega) (by omega)];omega
def Mc {k:Nat}(i j:Int):YE k (.int i) (.int j)=.ok (.bl (decide (i=j))):=by
 rw[Uc (Gw _) (Gw _)];simp only[Bl,Bool.beq_eq_decide_eq]
def Md {k:Nat}(i j:Int):dG k (.int i) (.int j)=.ok (.bl (!decide (i=j))):=by
 rw[Ud (Gw _) (Gw _)];simp only[Bl,Bool.beq_eq_decide_eq]
def JO {i j:Int}:rZ (.int i) (.int j)=.ok (.int (i+j)):=rfl
def JP {i j:Int}:sA (.int i) (.int j)=.ok (.int (i-j)):=rfl
def Me {i j:Int}:wU (.int i) (.int j)=.ok (.bl (decide (i<j))):=rfl
def Mf {i j:Int}:xV (.int i) (.int j)=.ok (.bl (decide (i<=j))):=rfl
def Mg {i j:Int}:wV (.int i) (.int j)=.ok (.bl (decide (j<i))):=rfl
def Mh {i j:Int}:xW (.int i) (.int j)=.ok (.bl (decide (j<=i))):=rfl
def Mi {i:Int}:wW (.int i)=.ok (some i):=rfl
def JQ:WC [.lst ds]=.ok (.int ds.length):=rfl
def JR:WC [.tup ds]=.ok (.int ds.length):=rfl
def ite_tt {α:Type}{x y:α}:(if true=true then x else y)=x:=rfl
def ite_ff {α:Type}{x y:α}:(if false=true then x else y)=y:=rfl
def Zk {lo hi:Option Int}{x:D}(h:pR lo hi x=.ok (.lst ds)):gJ lo hi x=.ok (.lst (ds.map .sh)):=by
 unfold pR at h;unfold gJ;cases x with
 |lst xs=>dsimp only at h ⊢;injection h with h;injection h with h;rw[h]
 |_=>cases h
def Sd (xs:List D)(k:Nat):gJ (some (k:Int)) none (.lst xs)=.ok (.lst ((xs.drop k).map .sh)):=Zk (YQ xs k)
def iB (xs:List D)(a b:Nat):gJ (some (a:Int)) (some (b:Int)) (.lst xs)=.ok (.lst (((xs.drop a).take (b-a)).map .sh)):=Zk (fK xs a b)
def JS:KI (.lst ds)=.ok (.lst (ds.map .sh)):=rfl
def JT:KI (.tup ds)=.ok (.lst (ds.map .sh)):=rfl
def HF {ns:List Int}:sX [.lst (ns.map D.int)]=.ok (.int ns.sum):=by unfold sX;dsimp only;rw[EZ]
def HG {T:String}:Jc T (.lst ds)=.ok (.bl (EB T (.lst ds))):=rfl
def HH {T:String}:Jc T (.tup ds)=.ok (.bl (EB T (.tup ds))):=rfl
def HI {T:String}{k:Int}:Jc T (.int k)=.ok (.bl (EB T (.int k))):=rfl
def HJ {T:String}:Jc T .AK=.ok (.bl (EB T .AK)):=rfl
def JU {T:String}{k:Bool}:Jc T (.bl k)=.ok (.bl (EB T (.bl k))):=rfl
def HK {T:String}{k:Str}:Jc T (.str k)=.ok (.bl (EB T (.str k))):=rfl
def HL {T:String}:Jc T (.Bq b ks vs)=.ok (.bl (EB T (.Bq b ks vs))):=rfl
def VE:EB "list" (.lst ds)=true:=rfl
def VF:EB "tuple" (.tup ds)=true:=rfl
def VG {k:Int}:EB "int" (.int k)=true:=rfl
def VH {k:Int}:EB "bool" (.int k)=false:=rfl
def VI:EB "dict" (.Bq b ks vs)=true:=rfl
def HM {neg:Bool}{k:Int}{ns:List Int}:Jo neg (.int k) (.lst (ns.map D.int))=.ok (.bl (if neg then !ns.contains k else ns.contains k)):=by
 unfold Jo uD;dsimp only;rw[EZ]
abbrev vO (s:Option D):Option Cl:=s.map .val
def Mj {s:Option D}:EC (vO s::ρ)=vO s::EC ρ:=by cases s<;>rfl
end
abbrev Uk (x:Int):List Int->List Int
 |[]=>[x]
 |y::r=>if x<=y then x::y::r else y::Uk x r
abbrev GG:List Int->List Int
 |[]=>[]
 |x::r=>Uk x (GG r)
def KL (x:Int):∀l:List Int,(Uk x l).Perm (x::l)
 |[]=>.refl _
 |y::r=>by
  unfold Uk;split
  ·exact .refl _
  ·exact ((KL x r).cons y).trans (.swap x y r)
def Ei:∀l:List Int,(GG l).Perm l
 |[]=>.refl _
 |x::r=>(KL x (GG r)).trans ((Ei r).cons x)
def Lh (x:Int):∀l:List Int,l.Pairwise (·<=·)->(Uk x l).Pairwise (·<=·)
 |[],_=>by simp[Uk]
 |y::r,h=>by
  unfold Uk;have hy:=List.pairwise_cons.mp h;split
  ·rename_i bX;exact List.pairwise_cons.mpr ⟨λ z hz=>by
    rcases zp.mp hz with rfl|hz
    ·exact bX
    ·exact Int.le_trans bX (hy.1 z hz),h⟩
  ·rename_i bX;exact List.pairwise_cons.mpr ⟨λ z hz=>by
    rcases zp.mp ((KL x r).mem_iff.mp hz) with rfl|hz
    ·omega
    ·exact hy.1 z hz,Lh x r hy.2⟩
def Ft:∀l:List Int,(GG l).Pairwise (·<=·)
 |[]=>.nil
 |x::r=>Lh x _ (Ft r)
def GH:∀ {a b:List Int},a.Perm b->a.Pairwise (·<=·)->b.Pairwise (·<=·)->a=b
 |[],b,hp,_,_=>(List.nil_perm.mp hp).symm
 |x::r,[],hp,_,_=>by have:=hp.length_eq;simp at this
 |x::r,y::t,hp,ha,hb=>by
  have bY:=List.pairwise_cons.mp ha;have aA:=List.pairwise_cons.mp hb;have e:x=y:=by
   have h1:x∈y::t:=hp.mem_iff.mp (zd ..);have h2:y∈x::r:=hp.mem_iff.mpr (zd ..);rcases zp.mp h1 with e|h1
   ·exact e
   rcases zp.mp h2 with e|h2
   ·exact e.symm
   have:=bY.1 _ h2;have:=aA.1 _ h1;omega
  subst e;rw[GH (List.Perm.cons_inv hp) bY.2 aA.2]
def JV:∀ {us:List Value}{ns:List Int},IntsAre us ns->Vals (ns.map V.int) us
 |_,_,.nil=>.nil
 |_,_,.cons n t h=>.cons ⟨t,rfl⟩ (JV h)
def N2 {K:za}{H:Hp}:∀l:List Int,Ag K H (l.map V.int) (l.map D.int)
 |[]=>.nil
 |x::r=>.cons (.int _) (N2 r)
section
variable {X:Cx}{WX:Str->Hp->Prop}{c:Bool}{P0:E8}{P:Addr->Prop}{H:Hp}{σ:St}{ρ:Ad}{a b e:Expr}{f g:Ad->M D}{fn:Ad->M OT}{pos:Pos}{te:TE}
abbrev wA (X:Cx)(te:TE):TE:=λ σ H Q=>te σ H λ x H1=>∃p ns,x=.ref p/\Di X.K H1 p (List.map V.int ns)/\ns.length<64/\∀r,H1 r=none->Q (.ref r) (upd H1 r (.lst ((GG ns).map V.int)))
def X1 {p:Pos}(hc:X.calm=true)(hg:Gl X "sorted")(hm:X.mg "sorted" = none)(he:PE X e te)(hv:bootBuiltins "sorted" = some (.builtin "sorted"):=by decide +kernel)(hs: ~~~(starEach [e] X.env=[(false,eval e X.env)])):
 PE X (.Call (.Name "sorted" p) [e] [] pos) (wA X te):=by
 intro pins s σ H Q I h;refine wpAny_Call_Name_kw (Du I hg hm hv ?_);refine PyProof.Rows.callWith_builtin1 ?_ hs;rw[hs];refine zag (Bj (he pins s σ H _ I h) λ u s1 zz=>?_);obtain⟨x,H1,I1,r1,q1⟩:=zz;obtain⟨q,ns,rfl,hq,vp,h⟩:=q1;cases r1;refine zao ?_;obtain⟨ac,r',pl,hz⟩:=I1.list hq;have hi:=intsAre_of r';have jg:=r'.length;rw[zc] at jg;refine sorted_ints pl.isList hi (by omega) λ out cn b1 b2 b3=>?_;obtain⟨c',bd⟩:=sortedAll_at s1.heap ac out;have e:cn=GG ns:=GH (b2.trans (Ei ns).symm) b3 (Ft ns);subst e;refine⟨.ref _,_,I1.laid (t':=s1.toks) (o:=.lst ((GG ns).map V.int)) (λ b o e=>sortedAll_old e) (Nat.le_succ _) ⟨?_,out.toList,c',JV b1,by simpa using bd⟩,rfl,h _ (I1.Au.fresh (Nat.le_succ _))⟩;rw[zc,(Ei ns).length_eq];exact yQ (AD (by omega))
abbrev iC (d:D):M OT:=match d with
 | .lst xs=>(match CT xs with|some ns=>if ns.length<64 then .ok (.lst (((GG ns).map .int).map .sh)) else .bad|none=>.bad)
 |_=>.bad
def X2 {ns:List Int}(h:ns.length<64):iC (.lst (ns.map .int))=.ok (.lst (((GG ns).map .int).map .sh)):=by
 unfold iC;dsimp only;rw[EZ];dsimp only;rw[if_pos h]
def X3 {p:Pos}(hc:X.calm=true)(hg:Gl X "sorted")(hm:X.mg "sorted" = none)(he:DE X WX true e f)(hv:bootBuiltins "sorted" = some (.builtin "sorted"):=by decide +kernel)(hs: ~~~(starEach [e] X.env=[(false,eval e X.env)])):
 DN X WX (.Call (.Name "sorted" p) [e] [] pos) (λ ρ=>(f ρ).bind iC):=by
 obtain⟨te,e1,e2⟩:=he;refine⟨_,X1 hc hg hm e1 hv hs,λ P0 P σ H Q ρ E h=>?_⟩;refine e2 P0 P σ H _ ρ E ?_;dsimp only at h;refine XO h λ d h=>?_;intro v H1 s1 hv;unfold iC at h;split at h
 ·rename_i xs;split at h
  ·rename_i ns eb;have:=F0 eb;subst this;split at h
   ·rename_i hl;cases hv with
    |lst hs hh =>
     have:=Ec hh;subst this;exact⟨_,ns,rfl,hs.B7,hl,h.KI s1 (N2 _)⟩
   ·exact h.elim
  ·exact h.elim
 ·exact h.elim
abbrev iD (d k:D):M OT:=match k with
 | .int j=>if 0<=j/\j.toNat<=1000 then .ok (.lst ((zr j.toNat d).map .sh)) else .bad
 |_=>.bad
def N3 {d:D}{n:Nat}(h:n<=1000):iD d (.int (n:Int))=.ok (.lst ((zr n d).map .sh)):=by
 unfold iD;dsimp only;rw[if_pos ⟨by omega,by omega⟩,yO]
def Ul {cz:Pos}(ha:DE X WX true a f)(hb:DE X WX true b g)(aJ: ~~~(starEach [a] X.env=[(false,eval a X.env)])):
 DN X WX (.BinOp (.List [a] cz) .Mult b pos) (λ ρ=>(f ρ).bind λ d=>(g ρ).bind λ k=>iD d k):=by
 obtain⟨ta,a1,a2⟩:=ha;obtain⟨tb,b1,b2⟩:=hb;refine⟨_,Y8 mO (Q1 (Bp a1 Cn aJ)) b1,λ P0 P σ H Q ρ E h=>?_⟩;dsimp only at h;refine a2 P0 P σ H _ ρ E ?_;refine XO h λ d h=>?_;intro v H1 s1 hv;have E1:=E.same s1;refine⟨yQ (AD (by simp)),λ p hp=>?_⟩;have s2:Ae H1 (upd H1 p (.lst [v])):=AQ hp _;have E2:=E1.same s2;refine b2 P0 P σ _ _ ρ E2 ?_;cases q2:g ρ with
 |bad=>rw[q2] at h;exact h
 |ex x=>rw[q2] at h;exact λ H' s3=>h H' ((s1.trans s2).trans s3)
 |ok k =>
  rw[q2] at h;simp only[M.A9] at h;unfold iD at h;intro w H3 s3 hw;cases k with
  |int j =>
   dsimp only at h;by_cases hj:0<=j/\j.toNat<=1000
   ·rw[if_pos hj] at h;cases hw;refine⟨p,j,[v],rfl,rfl,s3 _ _ Aq,by omega,by omega,yQ (AD (by simp;omega)),?_⟩;rw[OX];exact h.KI ((s1.trans s2).trans s3) (RX ((hv.mono s2.del).mono s3.del) j.toNat)
   ·rw[if_neg hj] at h;exact h.elim
  |_=>exact h.elim
end
abbrev iE (f:Str):List Str->List D->Option D
 |n::ns,d::ds=>if f==n then some d else iE f ns ds
 |_,_=>none
def Se {K:za}{H:Hp}{f:Str}:∀ {fs:List (Str×V)}{ds:List D}{d:D},Ag K H (fs.map yZ) ds->iE f (fs.map zJ) ds=some d->∃v,fs.lookup f=some v/\BX K H v d
 |[],ds,d,_,h=>by simp[iE] at h
 |(n,v)::fs,_,d,.cons hv ht,h=>by
  rw[zf,iE] at h;rw[za2];cases q:f==n with
  |true=>rw[q,if_pos rfl] at h;cases h;exact⟨v,rfl,hv⟩
  |false=>rw[q,if_neg (by simp)] at h;exact Se ht h
def N4 {K:za}{H:Hp}{f:Str}:∀ {fs:List (Str×V)}{ds:List D},Ag K H (fs.map yZ) ds->iE f (fs.map zJ) ds=none->fs.lookup f=none
 |[],ds,_,h=>rfl
 |(n,v)::fs,_,.cons hv ht,h=>by
  rw[zf,iE] at h;rw[za2];cases q:f==n with
  |true=>rw[q,if_pos rfl] at h;cases h
  |false=>rw[q,if_neg (by simp)] at h;exact N4 ht h
structure Ia (K:za)(x f:Str):Prop where
 ex:∃C,zH K mainGlobals x=some (some (.ref C))/\Wn K C/\Iq K C f
abbrev Ob (cs:List Str)(f:Str)(d:D):M D:=match d with
 | .ins x ns ds=>if x∈cs then (match iE f ns ds with|some e=>.ok e|none=>.bad) else .bad
 |_=>.bad
section
variable {X:Cx}{E:XK}{WX:Str->Hp->Prop}{c:Bool}{P0:E8}{P:Addr->Prop}{H:Hp}{σ:St}{ρ:Ad}{a b e:Expr}{es:List Expr}{f g:Ad->M D}{fs:Ad->M (List D)}{fn:Ad->M OT}{pos:Pos}{te:TE}
def EL (cs:List Str){fl:Str}(oy:∀x∈cs,Ia X.K x fl)(ha:DE X WX c a f)(hb: ~~~(attributeBase a fl X.env (eval a X.env)=eval a X.env)):DE X WX c (.Attribute a fl pos) (λ ρ=>(f ρ).bind (Ob cs fl)):=by
 obtain⟨ta,a1,a2⟩:=ha;refine⟨_,mD a1 hb,λ P0 P σ H Q ρ E h=>?_⟩;dsimp only at h;refine a2 P0 P σ H _ ρ E ?_;cases e:f ρ with
 |bad|ex x=>rw[e] at h;exact h
 |ok d =>
  rw[e] at h;simp only[M.A9] at h;intro v H1 s1 hv;unfold Ob at h;split at h
  ·rename_i x ns ds;split at h
   ·rename_i hx;split at h
    ·rename_i d' el;cases hv with
     |ins hn ha hl =>
      obtain⟨C,bm,hc,dm⟩:=(oy x hx).ex;rw[hn] at bm;cases bm;obtain⟨v',l1,l2⟩:=Se hl el;exact⟨_,_,_,_,v',rfl,(Ao ha).2,hc,dm,l1,h v' H1 s1 l2⟩
    ·exact h.elim
   ·exact h.elim
  ·exact h.elim
structure Pc (K:za)(x m qual:Str)(st:Stmt)(ps:List Str):Prop where
 ex:∃C f fd,zH K mainGlobals x=some (some (.ref C))/\Wn K C/\Meth K C m f/\XN K m qual st f fd/\Binds K fd ps []
structure IM (P:Program)(w:World)(K:za)(mg:Str->Option Value)(base:Heap)(x m:Str)(k n:Nat)(F:List D->M OT):Prop where
 ex:∃C fa fd ps,zH K mainGlobals x=some (some (.ref C))/\Wn K C/\Meth K C m fa/\Dn P w K mg base (Ua P w base) k fa fd ps (spT K n F)/\Binds K fd ps []
def Ml {P:Program}{w:World}{K:za}{mg:Str->Option Value}{base:Heap}{x m qual:Str}{st:Stmt}{N ps:List Str}{k n:Nat}(T:Pc K x m qual st ps)(S:Ac N ps (A5 st))(g:Ad->M Out)(hb:∀(f:Addr) (B4:Value) (A:Around) (outer:List Env) (s:Shared) (H:Hp) (E:XK),BE k (A.deeper (envOfC qual (A5 st) s.heap.objs.size f B4))->Tu (jZ P w K mg base N qual (A5 st) f B4 A outer s H E) (D2 K E) (AR st) g)(hn: ~~~(ps.length=n)):
 IM P w K mg base x m (k+1) n (λ ds=>Z5 (g (AE N ds))):=by
 obtain⟨C,f,fd,h1,h2,h3,F,hB⟩:=T.ex;subst hn;exact⟨⟨C,f,fd,ps,h1,h2,h3,sR F S g (hb f),hB⟩⟩
abbrev uL (x:Str):List (Str×(List D->M OT))->Option (List D->M OT)
 |[]=>none
 |(y,F)::r=>if x=y then some F else uL x r
def VJ {x:Str}{F:List D->M OT}:∀ {ms:List (Str×(List D->M OT))},uL x ms=some F->(x,F)∈ms
 |[],h=>by cases h
 |(y,G)::r,h=>by
  unfold uL at h;split at h
  ·rename_i e;cases h;subst e;exact zd
  ·exact ze _ (VJ h)
abbrev GI (ms:List (Str×(List D->M OT)))(m:Str)(d:D):M (List D->M OT):=match d with
 | .ins x ns es=>(match uL x ms with
  |some F=>(match iE m ns es with|none=>.ok F|some _=>.bad)
  |none=>.bad)
 |_=>.bad
def Sf {ms:List (Str×(List D->M OT))}{m:Str}{d:D}{F:List D->M OT}(h:GI ms m d=.ok F):∃x ns es,d=.ins x ns es/\(x,F)∈ms/\iE m ns es=none:=by
 unfold GI at h;split at h
 ·rename_i x ns es;split at h
  ·rename_i G e;split at h
   ·rename_i e2;cases h;exact⟨x,ns,es,rfl,VJ e,e2⟩
   ·cases h
  ·cases h
 ·cases h
def Pd {ms:List (Str×(List D->M OT))}{m:Str}{d:D}{x:Str}:GI ms m d≠.ex x:=λ h=>by
 unfold GI at h;split at h
 ·split at h
  ·split at h<;>cases h
  ·cases h
 ·cases h
abbrev Zl (X:Cx)(m:Str)(k:Nat)(E:XK)(ta:TE)(t:TA):TE:=λ σ H Q=>ta σ H λ x H1=>∃a C dx fs f fd ps n F,x=.ref a/\H1 a=some (.ins C dx fs)/\fs.lookup m=none/\Wn X.K C/\Meth X.K C m f/\Dn X.prog X.w X.K X.mg X.base (Ua X.prog X.w X.base) k f fd ps (spT X.K n F)/\Binds X.K fd ps []/\
 t σ H1 λ vs H2=>spT X.K n F (x::vs) H2 Q E
def Zm {pl:Sem Bool}{o:Expr}{m:Str}{k:Nat}{ta:TE}{t:TA}{apos:Pos}(he:PE X o ta)(hr:BE k X.A)(hx:Gk (Ua X.prog X.w X.base) X E)(ha:PA X (e::es) t)(aJ: ~~~(starEach (e::es) X.env=(false,eval e X.env)::starEach es X.env))(ao: ~~~((backTo pos (starEach es X.env)).any (·.1)=false))(ht: ~~~(eval (.Call (.Attribute o m apos) (e::es) [] pos) X.env=(do
  let ov <-eval o X.env
  standAt apos.atName
  let (f,first) <-holding [ov] (getMethod ov m pl)
  callWith pos f first (backTo pos (starEach (e::es) X.env)) (backToKw pos (keywordEach [] X.env))))):
 PE X (.Call (.Attribute o m apos) (e::es) [] pos) (Zl X m k E ta t):=by
 intro pins s σ H Q I h;refine PySem.W.methodCall_KW (pl:=pl) (Bj (he pins s σ H _ I h) λ u s1 zz=>?_) ht;obtain⟨x,H1,I1,rx,a,C,dx,fs,f,fd,ps,n,F,ex,ea,l,c,hm,hF,hb,q⟩:=zz;subst ex;obtain rfl:u=yL a:=rx;refine Mv I1 ea c hm l ?_;refine PySem.W.callWith_K (first:=[.ref a]) (h₀:=X.base) I.ok.mod.XI hm.kp (Bj (ha pos pins s1 σ H1 _ I1 q) λ us s2 ⟨vs,H2,I2,r,q2⟩=>⟨I2.Mt,?_⟩) aJ ao;exact Q2 (us:=.ref a::us) (vs:=.ref a::vs) hF hr hb .nil hx I2 (.cons rfl r) (by rw[zI];exact q2)
def X4 {pl:Sem Bool}{o:Expr}{m:Str}{k:Nat}{ta:TE}{apos:Pos}(he:PE X o ta)(hr:BE k X.A)(hx:Gk (Ua X.prog X.w X.base) X E)(ht: ~~~(eval (.Call (.Attribute o m apos) [] [] pos) X.env=(do
  let ov <-eval o X.env
  standAt apos.atName
  let (f,first) <-holding [ov] (getMethod ov m pl)
  callWith pos f first (backTo pos (starEach [] X.env)) (backToKw pos (keywordEach [] X.env))))):
 PE X (.Call (.Attribute o m apos) [] [] pos) (Zl X m k E ta mF):=by
 intro pins s σ H Q I h;refine PySem.W.methodCall_KW (pl:=pl) (Bj (he pins s σ H _ I h) λ u s1 zz=>?_) ht;obtain⟨x,H1,I1,rx,a,C,dx,fs,f,fd,ps,n,F,ex,ea,l,c,hm,hF,hb,q⟩:=zz;subst ex;obtain rfl:u=yL a:=rx;refine Mv I1 ea c hm l ?_;exact PySem.W.callWith_K0 (first:=[.ref a]) I1.Mt hm.kp (Q2 (us:=[.ref a]) (vs:=[.ref a]) hF hr hb .nil hx I1 (.cons rfl .nil) q)
def VL {P:Program}{w:World}{K:za}{mg:Str->Option Value}{base:Heap}{CX:V0}{k k':Nat}{f:Addr}{fd:FuncData}{ps:List Str}{sp:Sp}(h:k<=k')(F:Dn P w K mg base CX k f fd ps sp):Dn P w K mg base CX k' f fd ps sp:=
 ⟨F.len,λ A stack s H args us vs Q E hr=>F.run A stack s H args us vs Q E (hr.mono h)⟩
def Qs {o:Expr}{fo:Ad->M D}{m:Str}{k n:Nat}{apos:Pos}{pl:Sem Bool}(ms:List (Str×(List D->M OT)))(xo:FU X E)(g9:∀p∈ms,∃k',k'<=k/\IM X.prog X.w X.K X.mg X.base p.1 m k' n p.2)(hr:BE k X.A)(ho:DE X (D2 X.K E) true o fo)(ha:DA X (D2 X.K E) true (e::es) fs)(aG:(e::es).length+1=n)(aJ: ~~~(starEach (e::es) X.env=(false,eval e X.env)::starEach es X.env))(ao: ~~~((backTo pos (starEach es X.env)).any (·.1)=false))(ht: ~~~(eval (.Call (.Attribute o m apos) (e::es) [] pos) X.env=(do
  let ov <-eval o X.env
  standAt apos.atName
  let (f,first) <-holding [ov] (getMethod ov m pl)
  callWith pos f first (backTo pos (starEach (e::es) X.env)) (backToKw pos (keywordEach [] X.env))))):
 DN X (D2 X.K E) (.Call (.Attribute o m apos) (e::es) [] pos) (λ ρ=>(fo ρ).bind λ d=>(GI ms m d).bind λ F=>(fs ρ).bind λ ds=>F (d::ds)):=by
 obtain⟨ta,a1,a2⟩:=ho;obtain⟨tb,b1,b2,b3⟩:=ha;refine⟨_,Zm (pl:=pl) a1 hr xo.call b1 aJ ao ht,λ P0 P σ H Q ρ Ev h=>?_⟩;dsimp only at h;refine a2 P0 P σ H _ ρ Ev ?_;refine XO h λ d h=>?_;intro v H1 s1 hv;cases q2:GI ms m d with
 |bad=>rw[q2] at h;exact h.elim
 |ex y=>exact (Pd q2).elim
 |ok F =>
  rw[q2] at h;simp only[M.A9] at h;obtain⟨x,ns,vq,rfl,aM,o5⟩:=Sf q2;obtain⟨k',e7,M0⟩:=g9 _ aM;obtain⟨C,fa,fd,ps,h1,h2,h3,h4,h5⟩:=M0.ex;cases hv with
  |ins hn hH hl =>
   rw[hn] at h1;cases h1;refine⟨_,_,_,_,fa,fd,ps,n,F,rfl,(Ao hH).2,N4 hl o5,h2,h3,VL e7 h4,h5,?_⟩;refine b2 P0 P σ H1 _ ρ (Ev.same s1) ?_;cases q3:fs ρ with
   |bad=>rw[q3] at h;exact h
   |ex y=>rw[q3] at h;exact λ H' s=>h H' (s1.trans s)
   |ok ds =>
    rw[q3] at h;simp only[M.A9] at h;intro vs H2 s2 a4;have jh:=(BX.ins hn hH hl).mono s2.del;exact⟨by rw[zj,a4.length,b3 ρ ds q3];exact aG,P,_,((Ev.same s1).same s2).C8,.cons jh a4,h.same (s1.trans s2)⟩
def F3 {o:Expr}{fo:Ad->M D}{m:Str}{k:Nat}{apos:Pos}{pl:Sem Bool}(ms:List (Str×(List D->M OT)))(xo:FU X E)(g9:∀p∈ms,∃k',k'<=k/\IM X.prog X.w X.K X.mg X.base p.1 m k' 1 p.2)(hr:BE k X.A)(ho:DE X (D2 X.K E) true o fo)(ht: ~~~(eval (.Call (.Attribute o m apos) [] [] pos) X.env=(do
  let ov <-eval o X.env
  standAt apos.atName
  let (f,first) <-holding [ov] (getMethod ov m pl)
  callWith pos f first (backTo pos (starEach [] X.env)) (backToKw pos (keywordEach [] X.env))))):
 DN X (D2 X.K E) (.Call (.Attribute o m apos) [] [] pos) (λ ρ=>(fo ρ).bind λ d=>(GI ms m d).bind λ F=>F [d]):=by
 obtain⟨ta,a1,a2⟩:=ho;refine⟨_,X4 (pl:=pl) a1 hr xo.call ht,λ P0 P σ H Q ρ Ev h=>?_⟩;dsimp only at h;refine a2 P0 P σ H _ ρ Ev ?_;refine XO h λ d h=>?_;intro v H1 s1 hv;cases q2:GI ms m d with
 |bad=>rw[q2] at h;exact h.elim
 |ex y=>exact (Pd q2).elim
 |ok F =>
  rw[q2] at h;simp only[M.A9] at h;obtain⟨x,ns,vq,rfl,aM,o5⟩:=Sf q2;obtain⟨k',e7,M0⟩:=g9 _ aM;obtain⟨C,fa,fd,ps,h1,h2,h3,h4,h5⟩:=M0.ex;cases hv with
  |ins hn hH hl =>
   rw[hn] at h1;cases h1;refine⟨_,_,_,_,fa,fd,ps,1,F,rfl,(Ao hH).2,N4 hl o5,h2,h3,VL e7 h4,h5,?_⟩;exact⟨rfl,P,_,(Ev.same s1).C8,.cons (BX.ins hn hH hl) .nil,h.same s1⟩
end
section
variable {X:Cx}{E:XK}{WX:Str->Hp->Prop}{c:Bool}{P0:E8}{P:Addr->Prop}{H:Hp}{σ:St}{ρ:Ad}{a b e:Expr}{es:List Expr}{f g:Ad->M D}{fs:Ad->M (List D)}{fn:Ad->M OT}{pos:Pos}{te:TE}
structure nZ (K:za)(mg:Str->Option Value)(x:Str)(C:Addr):Prop where
 ns:zH K mainGlobals x=some (some (.ref C))
 xF:mg x=some (.ref C)
def Pe {p dx C:Addr}(hp:H p=none)(hd:H dx=none):Ae H (upd (upd H dx (.own p)) p (.ins C dx [])):=λ b u q=>by
 rw[Aj (Ay q hp),Aj (Ay q hd)];exact q
structure tE (P:Program)(w:World)(K:za)(mg:Str->Option Value)(base:Heap)(x:Str)(k n:Nat)(F:OT->List D->M (OT×OT)):Prop where
 ex:∃C fa fd ps,nZ K mg x C/\Mk K C fa/\Dn P w K mg base (Ua P w base) k fa fd ps (P8 K n F)/\Binds K fd ps []
abbrev Pf (m:M (OT×OT)):M OT:=match m with
 | .ok (t,.sh .AK)=>.ok t
 |_=>.bad
def iF {x:Str}{k n:Nat}{F:OT->List D->M (OT×OT)}{p:Pos}(xo:FU X E)(G:tE X.prog X.w X.K X.mg X.base x k n F)(hr:BE (k+1) X.A)(hg:Gl X x)(ha:DA X (D2 X.K E) true (e::es) fs)(aG:(e::es).length+1=n)(aP:(x==("__debug__" : Str))=false:=by decide)(he: ~~~(starEach (e::es) X.env=(false,eval e X.env)::starEach es X.env))(ao: ~~~((backTo pos (starEach es X.env)).any (·.1)=false)):
 DN X (D2 X.K E) (.Call (.Name x p) (e::es) [] pos) (λ ρ=>(fs ρ).bind λ ds=>Pf (F (.ins x [] []) ds)):=by
 obtain⟨C,fa,fd,ps,hT,hM,hF,hb⟩:=G.ex;obtain⟨ta,a1,a2,a3⟩:=ha;refine⟨_,V4 hM hF hr hg hT.xF hb .nil xo.call a1 aP he ao,λ P0 P σ H Q ρ Ev h=>?_⟩;dsimp only at h;refine a2 P0 P σ H _ ρ Ev ?_;cases q:fs ρ with
 |bad|ex x=>rw[q] at h;exact h
 |ok ds =>
  rw[q] at h;simp only[M.A9] at h;intro vs H1 s1 a4 y dx hy hd ae;rw[zI];have E1:=Ev.same s1;have sm:=Pe (C:=C) hy hd;have bG:∀a∈[y],H1 a=none:=λ a ha=>by rw[zg.mp ha];exact hy
  refine⟨by rw[zj,a4.length,a3 ρ ds q];exact aG,PU P [y],y,.ins x [] [],[y],vs,ds,rfl,λ a ha=>?_,λ a ha=>.inr ha,by simp,C7.ins (fs:=[]) hT.ns Aq .nil,a4.mono (Cz sm bG),?_⟩
  ·rcases ha with ha|ha
   ·exact (E1.C8 a ha).same sm
   ·rw[zg.mp ha];exact⟨_,Aq,λ xs=>⟨(λ z=>by cases z),(λ z w=>by cases w)⟩⟩
  ·cases q2:F (.ins x [] []) ds with
   |bad|ex z=>rw[q2] at h;exact h
   |ok tr =>
    obtain⟨t,r⟩:=tr;rw[q2] at h;simp only[Pf] at h;intro v H' P' ag fr k1 k2 k3 k4 k5 k6 k7 k8 k9 oj;cases r with
    |sh d =>
     cases d with
     |AK =>
      cases k6 with
      |sh hv =>
       cases hv;refine⟨rfl,h _ ag H' ?_ ?_ k5 ?_⟩
       ·intro b u eb;have e1:=s1 b u eb;have bq:b≠y:=λ z=>by rw[z,hy] at e1;cases e1
        have e2:=sm b u e1;by_cases hP:P b
        ·exact (k1 b (.inl hP) (by simp[bq])).2.trans e2
        ·exact (Ao (k3 b u (by rw[Av λ z=>z.elim hP λ w=>bq (zg.mp w)];exact e2))).2
       ·intro b ji;cases eb:H b with
        |none=>rfl
        |some u =>
         exfalso;have e1:=s1 b u eb;have bq:b≠y:=λ z=>by rw[z,hy] at e1;cases e1
         have e2:=sm b u e1;have hn:=λ z=>bq (zg.mp ((k9 b ji).2 z));exact (Ao (k3 b u (by rw[Av hn];exact e2))).1 (k9 b ji).1
       ·refine k4.move (λ b u eb=>?_) λ _ _=>rfl;obtain⟨g1,g2⟩:=Ao eb;rw[Av]
        ·exact g2
        ·rintro (z|z)
         ·have bq:b≠y:=λ w=>by
           obtain⟨o,e1,_⟩:=E1.C8 b z;rw[w,hy] at e1;cases e1
          exact g1 (k1 b (.inl z) (by simp[bq])).1
         ·exact g1 (k9 b z).1
     |_=>exact h.elim
    |_=>exact h.elim
end
abbrev Pg (i:Nat)(ρ:Ad)(π:List Nat):M (Str×List Str×List D):=match Tw i ρ π with
 |some (.ins x ns ts)=>(match Dz ts with|some vs=>.ok (x,ns,vs)|none=>.bad)
 |_=>.bad
def Zn {i:Nat}{ρ:Ad}{π:List Nat}{x:Str}(h:Pg i ρ π=.ex x):False:=by
 unfold Pg at h;split at h
 ·split at h<;>cases h
 ·cases h
abbrev Zo (f:Str):List Str->List Str
 |[]=>[f]
 |g::r=>if g=f then g::r else g::Zo f r
abbrev Zp (f:Str)(d:D):List Str->List D->List D
 |[],_=>[d]
 |g::r,e::t=>if g=f then d::t else e::Zp f d r t
 |_::_,[]=>[]
def Sg (f:Str)(v:V):∀fs:List (Str×V),(E6 f v fs).map zJ=Zo f (fs.map zJ)
 |[]=>rfl
 |(g,x)::r=>by
  rw[zf,Zo,E6];split
  ·rfl
  ·rw[zf,Sg f v r]
def Sh {K:za}{H:Hp}{f:Str}{v:V}{d:D}(hv:BX K H v d):∀ {fs:List (Str×V)}{ds:List D},Ag K H (fs.map yZ) ds->Ag K H ((E6 f v fs).map yZ) (Zp f d (fs.map zJ) ds)
 |[],_,.nil=>.cons hv .nil
 |(g,x)::r,_,.cons hx ht=>by
  rw[zf,Zp,E6];split
  ·exact .cons hv ht
  ·exact .cons hx (Sh hv ht)
section
variable {X:Cx}{E:XK}{WX:Str->Hp->Prop}{c:Bool}{P0:E8}{P:Addr->Prop}{H:Hp}{σ:St}{ρ:Ad}{a b e:Expr}{f g:Ad->M D}{fn:Ad->M OT}{fp:Ad->M (List Nat)}{pos:Pos}{i:Nat}{es:List Expr}{fs:Ad->M (List D)}
def Bh.ins {K:za}{π:List Nat}{v:V}{t1:OT}{x:Str}{ns:List Str}{vs:List D}(pl:Bh K P H σ ρ i π v t1)(E:An K P0 P H σ ρ)(h:Pg i ρ π=.ok (x,ns,vs)):
 t1=.ins x ns (vs.map .sh)/\∃l C dx fs,v=.ref l/\Ag K (del H P) (fs.map yZ) vs/\C7 K H P (.ref l) (.ins x ns (vs.map .sh)) [l]/\zH K mainGlobals x=some (some (.ref C))/\H l=some (.ins C dx fs)/\ns=fs.map zJ:=by
 unfold Pg at h;rw[pl.at] at h;split at h
 ·rename_i x' cn oh e;split at h
  ·rename_i aE e';cases e;cases h;have z:=CG e';subst z;obtain⟨ay,o1,hp,nd⟩:=pl.own E;generalize ht:OT.ins x ns (vs.map .sh)=t at o1;cases o1 with
   |ins hn hh hr =>
    injection ht with h1 h2 h3
    subst h1 h2 h3;obtain⟨rfl,hs⟩:=hr.nQ;exact⟨rfl,_,_,_,_,rfl,hs,.ins hn hh hr,hn,hh,rfl⟩
   |_=>cases ht
  ·cases h
 ·cases h
def Mm (cs:List Str){fl:Str}(oy:∀x∈cs,Ia X.K x fl)(ha:DP X WX a i fp)(hv:DE X WX true e f){pos':Pos}(hs: ~~~(swapsWith e (some (.Attribute a fl pos')) pos.line X.env=pure false)):
 DS X WX (.Assign [.Attribute a fl pos'] e pos) (λ ρ=>(f ρ).bind λ v=>(fp ρ).bind λ π=>(Pg i ρ π).bind λ z=>if z.1∈cs/\z.2.1.length<1000 then G9 i ρ π (.ins z.1 (Zo fl z.2.1) ((Zp fl v z.2.1 z.2.2).map .sh)) else .bad):=by
 obtain⟨ta,a1,a2⟩:=ha;obtain⟨tv,v1,v2⟩:=hv;refine⟨_,mE a1 v1 hs,λ P0 P σ H Z ρ E h=>?_⟩;dsimp only at h;refine v2 P0 P σ H _ ρ E ?_;refine dI h E λ d h=>?_;intro w H0 s0 hw;have E0:=E.same s0;refine a2 P0 P σ H0 _ ρ E0 ?_;cases q:fp ρ with
 |bad=>rw[q] at h;exact h
 |ex x=>rw[q] at h;exact λ H' s=>h H' P ((E.tr s0).trans (E0.tr s))
 |ok π =>
  rw[q] at h;simp only[M.A9] at h;intro v t1 H1 s1 pl;have E1:=E0.same s1;have vt:=(E.tr s0).trans (E0.tr s1);cases q3:Pg i ρ π with
  |bad=>rw[q3] at h;exact h.elim
  |ex x=>exact (Zn q3).elim
  |ok z =>
   obtain⟨x,ns,vs⟩:=z;rw[q3] at h;simp only[M.A9] at h;by_cases hc:x∈cs/\ns.length<1000
   ·rw[if_pos hc] at h;obtain⟨rfl,l,C,dx,fs,rfl,cf,ot,hn,hH,rfl⟩:=pl.ins E1 q3;obtain⟨C',bm,bP,dm⟩:=(oy x hc.1).ex;rw[hn] at bm;cases bm;have vw:=hw.mono s1.del;obtain⟨c,p,t0,g1,g2,E3,t3⟩:=E1.nV (o':=.ins C dx (E6 fl w fs)) (u:=.ins x (Zo fl (fs.map zJ)) ((Zp fl d (fs.map zJ) vs).map .sh)) pl ot (λ _=>⟨λ z=>(by cases z),λ _ z=>by cases z⟩) (λ mv=>by
     have:=C7.ins (K:=X.K) (H:=upd H1 l (.ins C dx (E6 fl w fs))) (P:=P) (p:=l) (fs:=E6 fl w fs) (x:=x) hn Aq (((Sh vw cf).mono mv).ows);rw[Sg] at this;exact this)
    rw[Hz g1 g2] at h;exact⟨l,C,dx,fs,rfl,hH,bP,dm,by have:=hc.2;rw[zc] at this;exact this,h _ _ _ (vt.trans t3) E3⟩
   ·rw[if_neg hc] at h;exact h.elim
end
def C5 {K:za}{f:Str}:∀y∈([]:List Str),Ia K y f:=λ y h=>by cases h
def By {K:za}{f x:Str}{xs:List Str}(h:Ia K x f)(t:∀y∈xs,Ia K y f):∀y∈x::xs,Ia K y f:=λ y hy=>by
 rcases zp.mp hy with rfl|hy
 ·exact h
 ·exact t y hy
def DD {P:Program}{w:World}{K:za}{mg:Str->Option Value}{base:Heap}{m:Str}{k n:Nat}:∀p∈([]:List (Str×(List D->M OT))),∃k',k'<=k/\IM P w K mg base p.1 m k' n p.2:=λ p h=>by cases h
def CV {P:Program}{w:World}{K:za}{mg:Str->Option Value}{base:Heap}{m x:Str}{k k' n:Nat}{F:List D->M OT}{ms:List (Str×(List D->M OT))}(hk:k'<=k)(h:IM P w K mg base x m k' n F)(t:∀p∈ms,∃k',k'<=k/\IM P w K mg base p.1 m k' n p.2):
 ∀p∈(x,F)::ms,∃k',k'<=k/\IM P w K mg base p.1 m k' n p.2:=λ p hp=>by
 rcases zp.mp hp with rfl|hp
 ·exact⟨k',hk,h⟩
 ·exact t p hp
end L2
set_option maxRecDepth 1000000
set_option maxHeartbeats 0
namespace L2
open PySem
def HN:entryFor table "dict.update.loop" = some Builtin.«dict.update.loop»:=by unfold entryFor;rfl
open PySem PySem.Spec PySem.Calls PyProof.Rows PySem.W PySem.Builtin PySem.Builtin.ObjectAttr
section
variable {prog:Program}{w:World}{A:Around}{E:Value->Shared->Prop}{s:Shared}
def call_meets {T id:String}{nm:Str}{B:Builtin}{self:Value}{rest:List Value}{Sp:PySem.Spec}{Q:Value->Shared->Prop}(SL:Slot T nm id)(hB:entryFor table id=some B)(ht:s.TypeIs self T)(ha:argsOk id ⟨self::rest,[]⟩)(m:Meets (B ⟨self::rest,[]⟩) Sp)
 (h:Sp A (λ r s'=>match r with | .ok (.ret v)=>Q v s' | .ok _=>False | .error e=>E e s') s):wpAny (model prog w) A (call (.builtin id) (self::rest)) Q E s:=
 wpAny_call (codeAny_call_builtin SL.plain hB (SL.check _ _ _ _ _ _ _ _ ht ha (m prog w A _ s h)))
def Li {l:Addr}{xs:Array Value}{k:Nat}{sl:Array (Option Value)}{Q:Option Value->Shared->Prop}(hh:A.handled=none)(hl:s.heap.get? l=some {cls:=.type "list",data:=.seq xs k,slots:=sl})
 (h:∀h' tk,(∀b o,s.heap.get? b=some o->h'.get? b=some o)->Q none {s with heap:=h',toks:=tk}):wpAny (model prog w) A (getAttr? (.ref l) "keys") Q E s:=by
 have miss:typeLookup (.type "list") "keys" = pure none:=am_miss_of_fast (by decide +kernel);have T0:∀hp:Heap,hp.get? l=some {cls:=.type "list",data:=.seq xs k,slots:=sl}->Looks (model prog w) hp (typeOf (.ref l)) (.type "list"):=λ hp e=>(Looks.ld e).andThen .now;have SL:=PySem.F.slot_list_getattribute;have aD:(onTheHeap (Value.type "list")&&Value.builtin "list.__getattribute__" == Value.builtin "object.__getattribute__")=false:=rfl;have o6:(false&&onTheHeap (Value.builtin "list.__getattribute__"))=false:=rfl;unfold getAttr? getAttrBy?;refine wpAny_bind (wpAny_mkText (wpAny_bind (wpAny_attempt ?_)));unfold getAttrBy;refine wpAny_holding (wpAny_bind ((T0 _ hl).at (wpAny_bind ?_)));rw[SL.lookup];refine wpAny_pure ?_;dsimp only;rw[aD,if_neg z8];unfold getAttrByItsOwn hookBefore;rw[if_neg (show ¬ onTheHeap (Value.type "list")=true from z8)];refine wpAny_bind (wpAny_pure (wpAny_bind (wpAny_attempt (wpAny_holding ?_))));unfold callGetattribute;rw[o6,if_neg z8];unfold boundAndCalled;rw[SL.bind];refine wpAny_bind (wpAny_pure ?_);dsimp only;refine call_meets SL am_entry_list_getattribute ⟨_,hl,rfl⟩ (PySem.F.args_list_getattribute_2 _ _) (meets_getattribute_miss_list l xs k sl "keys" s.toks miss rfl (by decide)) ⟨hl,hh,λ h' tk e ne=>?_⟩;dsimp only;obtain⟨kp,nw,t,u,he⟩:=ne;have T1:Looks (model prog w) h' (typeOf (.ref e)) (.type "AttributeError"):=(Looks.ld he).andThen .now;unfold getattributeRaised isInstance;refine wpAny_bind (wpAny_bind (T1.at ?_));rw[sub_AttributeError];refine wpAny_pure ?_;rw[if_pos rfl];unfold hookBehind;rw[if_neg (show ¬ onTheHeap (Value.type "list")=true from z8),am_list_getattr_none];refine wpAny_bind (wpAny_pure ?_);unfold hookOrError attributeErrorLeaves;dsimp only;rw[if_pos (show (!false)=true from rfl)];refine wpAny_bind (wpAny_throw ?_);refine wpAny_bind (wpAny_bind (T1.at ?_));rw[sub_AttributeError];refine wpAny_pure ?_;rw[if_pos rfl];exact wpAny_pure (h h' tk kp)
def Ph {t:Addr}{ac:Array Value}{Q:List Value->Shared->Prop}(ht:IsTup s.heap t ac)(h:Q ac.toList s):wpAny (model prog w) A (Dict.pairItems (.ref t)) Q E s:=by
 obtain⟨o,h1,h2,n,h3⟩:=ht;have T0:Looks (model prog w) s.heap (typeOf (.ref t)) (.type "tuple"):=h2▸(Looks.ld h1).andThen .now;unfold Dict.pairItems;refine wpAny_bind (T0.at ?_);have hx:(Value.type "tuple" == Value.type "list" || Value.type "tuple" == Value.type "tuple")=true:=by decide
 rw[if_pos hx];exact wpAny_bind (wpAny_seqItems h1 h3 (wpAny_pure h))
def CP:plainId "dict.update.loop" = true:=by decide +kernel
def N5 {K:Type}[DecidableEq K]{knd:KeyKind prog w K}{h h':Heap}{d I l:Addr}{i:Nat}{xs:List (List K×Addr×Value)}(hd:h.DictOfH (tupleKind knd) d xs)(hit:h.IsListIter I l i)(sb:∀b o,b≠I->h.get? b=some o->h'.get? b=some o):
 h'.DictOfH (tupleKind knd) d xs:=by
 obtain⟨o,es,ep,h1,h2,h3,h4,h5,h6⟩:=hd;obtain⟨oi,i1,i2,i3⟩:=hit;refine⟨o,es,ep,sb d o (λ z=>?_) h1,h2,h3,h4,λ x hx=>?_,h6⟩
 ·subst z;rw[i1] at h1;cases h1;rw[i3] at h3;cases h3
 ·obtain⟨ok,ac,n,k1,k2,k3,k4⟩:=h5 x hx;refine⟨ok,ac,n,sb _ _ (λ z=>?_) k1,k2,k3,k4⟩;rw[z,i1] at k1;cases k1;rw[i3] at k3;cases k3
def Um {K:Type}[DecidableEq K]{knd:KeyKind prog w K}{R:Result->Shared->Prop}{d I l:Addr}{items:Array Value}{h0:Heap}(ps:List (List K×Addr×Value))(hh:A.handled=none)(bg:A.in1.units<cLine)(ez:l≠I)(o7:d≠I)(jj:l≠d)
 (jk:ps.length=items.size) (hsz:items.size+1<=sizeLine) (hl:h0.IsList l items)
 (hp:∀(j:Nat) p,ps[j]?=some p->(p.2.1≠d/\p.2.1≠I/\(tupleKind knd).is h0 p.1 p.2.1)/\∃t,items[j]?=some (.ref t)/\t≠d/\t≠I/\IsTup h0 t #[.ref p.2.1,p.2.2]):
 ∀(m i:Nat) (xs:List (List K×Addr×Value)) (s:Shared),items.size-i=m->i<=items.size->xs.length<=i->s.heap.IsListIter I l i->s.heap.DictOfH (tupleKind knd) d xs->(∀b o,b≠d->b≠I->h0.get? b=some o->s.heap.get? b=some o)->
  (∀h' tk,h'.DictOfH (tupleKind knd) d ((ps.drop i).foldl (λ acc p=>storedH acc p.1 p.2.1 p.2.2) xs)->(∀b o,b≠d->b≠I->h0.get? b=some o->h'.get? b=some o)->R (.ok (.ret .none)) {s with heap:=h',toks:=tk})->
  codeAny (model prog w) A (.builtin "dict.update.loop" ⟨[.ref d,.ref I,rawInt i,.none],[]⟩) R s:=by
 intro m;induction m with
 |zero =>
  intro i xs s hm hi o8 hit hd hf h;have b6:i=items.size:=by omega
  refine codeAny_builtin HN ?_;rw[zal CP _];show wpAny _ A.in1 (pyNext (.ref I) >>= _) _ _ s;refine wpAny_bind (wpAny_pyNext_list_end (A:=A.in1) hh hit (hl.at λ o e=>hf l o jj ez e) (by simp[b6]) λ h' eb=>?_);have hd2:=N5 hd hit λ b o hb e=>eb b o hb e;show wpAny _ A.in1 (Dict.addKeywords d [] >>= _) _ _ _;unfold Dict.addKeywords;refine wpAny_bind (wpAny_bind ?_);refine wpAny_pure (wpAny_pure (wpAny_pure ?_));have ed:ps.drop i=[]:=by rw[List.drop_eq_nil_iff];omega
  rw[ed] at h;exact h h' s.toks hd2 λ b o h1 h2 e=>eb b o h2 (hf b o h1 h2 e)
 |succ m ih =>
  intro i xs s hm hi o8 hit hd hf h;have af:i<items.size:=by omega
  obtain⟨p,c5⟩:∃p,ps[i]?=some p:=⟨ps[i]'(by omega),zi _⟩;obtain⟨⟨p1,p2,p3⟩,t,ht,t1,t2,t3⟩:=hp i p c5;refine codeAny_builtin HN ?_;rw[zal CP _];show wpAny _ A.in1 (pyNext (.ref I) >>= _) _ _ s;refine wpAny_bind (wpAny_pyNext_list_item (A:=A.in1) hit (hl.at λ o e=>hf l o jj ez e) ht λ h' b7 sb=>?_);have hd2:h'.DictOfH (tupleKind knd) d xs:=N5 hd hit λ b o hb e=>(sb.2 b hb).trans e;have h7:∀b o,b≠d->b≠I->h0.get? b=some o->h'.get? b=some o:=λ b o h1 h2 e=>(sb.2 b h2).trans (hf b o h1 h2 e);have t4:IsTup h' t #[.ref p.2.1,p.2.2]:=by
   obtain⟨o,e1,e2⟩:=t3;exact⟨o,h7 t o t1 t2 e1,e2⟩
  have p4:(tupleKind knd).is h' p.1 p.2.1:=by
   obtain⟨o,ac,n,e1,e2⟩:=p3;exact⟨o,ac,n,h7 _ o p1 p2 e1,e2⟩
  dsimp only;refine wpAny_bind (wpAny_holding (wpAny_bind (wpAny_tryCatch (Ph t4 ?_))));show wpAny _ A.in1 (holding [.ref p.2.1,p.2.2] (dictSet d (.ref p.2.1) p.2.2)) _ _ _;refine wpAny_holding (wpAny_dictSet_heap (knd:=tupleKind knd) (hsz:=by omega) bg p4 hd2 λ h3 f8 jl=>?_);refine wpAny_pure ⟨plainId_quiet CP _,?_⟩;have f9:h3.IsListIter I l (i+1):=by
   obtain⟨o,e1,e2⟩:=b7;exact⟨o,(jl.2 I (zY o7)).trans e1,e2⟩
  have ed:ps.drop i=p::ps.drop (i+1):=by
   rw[zai (by omega:i<ps.length)];rw[zi (by omega:i<ps.length)] at c5;rw[zD c5]
  rw[ed,zB] at h;have jg:(storedH xs p.1 p.2.1 p.2.2).length<=i+1:=by
   unfold storedH;split
   ·rw[zc];omega
   ·rw[zA,yP];omega
  have q:=ih (i+1) (storedH xs p.1 p.2.1 p.2.2) {s with heap:=h3,toks:=s.toks+(tupleKind knd).draws p.1} (by omega) (by omega) jg f9 f8 (λ b o h1 h2 e=>(jl.2 b h1).trans (h7 b o h1 h2 e)) h;exact q
def LP {K:Type}[DecidableEq K]{knd:KeyKind prog w K}{Q:Value->Shared->Prop}{l:Addr}{items:Array Value}{n:Nat}{sl:Array (Option Value)}(ps:List (List K×Addr×Value))(hh:A.handled=none)(bg:A.units+2<cLine)
 (jk:ps.length=items.size) (hsz:items.size+1<=sizeLine) (hl:s.heap.get? l=some {cls:=.type "list",data:=.seq items n,slots:=sl})
 (hp:∀(j:Nat) p,ps[j]?=some p->(tupleKind knd).is s.heap p.1 p.2.1/\∃t,items[j]?=some (.ref t)/\IsTup s.heap t #[.ref p.2.1,p.2.2])
 (h:∀h' tk,h'.DictOfH (tupleKind knd) s.heap.objs.size (ps.foldl (λ acc p=>storedH acc p.1 p.2.1 p.2.2) [])->(∀b o,s.heap.get? b=some o->h'.get? b=some o)->Q (.ref s.heap.objs.size) {s with heap:=h',toks:=tk}):
 wpAny (model prog w) A (call (.type "dict") [.ref l]) Q E s:=by
 refine callType_codes (Q₁:=λ obj s₁=>obj=.ref s.heap.objs.size/\s₁={s with heap:=s.heap.push {cls:=.type "dict",data:=.dict #[]} }) PySem.F.kt_called_dict (PySem.F.kt_typeCall_dict_1 _) PySem.F.entry_dict_init
  (kt_code_dict_new _ ⟨rfl,rfl⟩) λ obj s₁ h₁=>?_
 obtain⟨rfl,rfl⟩:=h₁;have hS:(s.heap.push {cls:=.type "dict",data:=.dict #[]}).get? s.heap.objs.size=some {cls:=.type "dict",data:=.dict #[]}:=zE _ rfl;have ll:l<s.heap.objs.size:=zt hl;have bZ:(s.heap.push {cls:=.type "dict",data:=.dict #[]}).get? l=some {cls:=.type "list",data:=.seq items n,slots:=sl}:=zo _ hl;refine⟨⟨_,hS,rfl⟩,PySem.F.args_dict_init_2 _ _,?_⟩;have TD:Looks (model prog w) (s.heap.push {cls:=.type "dict",data:=.dict #[]}) (typeOf (.ref s.heap.objs.size)) (.type "dict"):=(Looks.ld hS).andThen .now;have TL:Looks (model prog w) (s.heap.push {cls:=.type "dict",data:=.dict #[]}) (typeOf (.ref l)) (.type "list"):=(Looks.ld bZ).andThen .now;unfold Builtin.«dict.__init__» Dict.selfAndRest Dict.notOrdered;dsimp only;rw[if_pos (by decide)];refine wpAny_bind (wpAny_bind (wpAny_bind (TD.at ?_)));rw[if_neg (by decide)];refine wpAny_pure ?_;unfold Dict.addrOf;refine wpAny_bind (wpAny_pure (wpAny_pure ?_));unfold Dict.updateCommon Dict.updateFrom;dsimp only;refine wpAny_bind (TL.at ?_);rw[if_pos (by decide)];refine wpAny_bind (Li (A:=A.in1.in1) hh bZ λ h2 vx ga=>?_);rw[if_pos (show (none:Option Value).isNone=true from rfl)];refine wpAny_bind (wpAny_rule ?_);have aF:h2.IsList l items:=⟨_,ga _ _ bZ,rfl,n,rfl⟩;have jm:=ga _ _ hS;refine wpAny_bind (wpAny_pyIter_list aF ?_);refine wpAny_pure ⟨plainId_quiet CP _,?_⟩;have lz:s.heap.objs.size<h2.objs.size:=zt jm;have o9:∀b o,s.heap.get? b=some o->(h2.push {cls:=.type "list_iterator",data:=.fields #[.ref l,.int 0 0]}).get? b=some o:=λ b o e=>zo _ (ga _ _ (zo _ e));have f8:(h2.push {cls:=.type "list_iterator",data:=.fields #[.ref l,.int 0 0]}).DictOfH (tupleKind knd) s.heap.objs.size []:=
  ⟨_,#[],0,zo _ jm,⟨rfl,rfl,rfl⟩,rfl,rfl,λ x hx=>absurd hx List.not_mem_nil,yY⟩
 have af:∀b o,s.heap.get? b=some o->b≠s.heap.objs.size/\b≠h2.objs.size:=λ b o e=>by
  have:=zt e;exact⟨z6 this,z6 (Nat.lt_trans this lz)⟩
 refine Um (A:=A.in1) (knd:=knd) (l:=l) (h0:=s.heap) ps hh bg (z6 (Nat.lt_trans ll lz)) (z6 lz) (z6 ll) jk hsz ⟨_,hl,rfl,n,rfl⟩ (λ j p hj=>?_) items.size 0 [] _ (by omega) (by omega) (by simp) ⟨_,zE _ rfl,rfl,rfl⟩ f8 (λ b o h1 e8 e=>o9 b o e) λ h' tk bj pc=>?_
 ·obtain⟨q1,t,q2,q3⟩:=hp j p hj;obtain⟨o1,_,_,e1,_⟩:=id q1;obtain⟨o2,e2,_⟩:=id q3;exact⟨⟨(af _ _ e1).1,(af _ _ e1).2,q1⟩,t,q2,(af _ _ e2).1,(af _ _ e2).2,q3⟩
 ·exact⟨rfl,h h' tk bj λ b o e=>pc b o (af _ _ e).1 (af _ _ e).2 e⟩
end
structure X5 where
 (t:Addr) (κ:List Key) (b:Addr) (v:V)
abbrev iG (H:Hp)(p:X5):Prop:=H p.t=some (.tup [.ref p.b,p.v])/\H p.b=some (.tup (p.κ.map kV))
abbrev uM (ps:List X5):List (List Key×V):=ps.foldl (λ acc p=>putK acc p.κ p.v) []
abbrev yA (X:Cx)(te:TE):TE:=λ σ H Q=>te σ H λ x H1=>∃(l:Addr) (ps:List X5),x=.ref l/\Di X.K H1 l (ps.map λ p=>V.ref p.t)/\(∀p∈ps,iG H1 p)/\ps.length<=1000/\∀r,H1 r=none->Q (.ref r) (upd H1 r (.dT (uM ps)))
def Si:∀ {ps:List X5}{us:List Value},Vals (ps.map λ p=>V.ref p.t) us->us=ps.map λ p=>yL p.t
 |[],_,.nil=>rfl
 |p::ps,_,.cons h t=>by
  cases h;rw[zf,<-Si t]
def kF {H:Hp}:∀ {ps:List X5}{qs:List (List Key×Addr×Value)}{kvs:List (List Key×V)}{xs:List (List Key×Addr×Value)},(∀p∈ps,iG H p)->Paired (λ(p:X5) (q:List Key×Addr×Value)=>p.κ=q.1/\p.b=q.2.1/\RelV p.v q.2.2) ps qs->KT H kvs xs->KT H (ps.foldl (λ acc p=>putK acc p.κ p.v) kvs) (qs.foldl (λ acc p=>storedH acc p.1 p.2.1 p.2.2) xs)
 |[],_,_,_,_,.nil,h=>h
 |p::ps,_,_,_,ho,.cons (b:=q) hq t,h=>by
  obtain⟨q1,q2,q3⟩:=q;obtain⟨e1,e2,e3⟩:=hq;dsimp only at e1 e2 e3;subst e1 e2;have r:=kF (ps:=ps) (λ p' hp=>ho p' (ze _ hp)) t (h.put p.κ (ho p zd).2 e3);exact r
def Zq:∀(ps:List X5) (kvs:List (List Key×V)),(ps.foldl (λ acc p=>putK acc p.κ p.v) kvs).length<=kvs.length+ps.length
 |[],kvs=>zu _
 |p::ps,kvs=>by
  have h1:=Zq ps (putK kvs p.κ p.v);have h2:=Dp kvs p.κ p.v;rw[zB,zj];omega
def VM {h:Heap}{H:Hp}{P:Program}{w:World}(ok:G7 P w H h):∀ {ps:List X5},(∀p∈ps,iG H p)->∃qs:List (List Key×Addr×Value),Paired (λ(p:X5) (q:List Key×Addr×Value)=>p.κ=q.1/\p.b=q.2.1/\RelV p.v q.2.2) ps qs/\
 ∀(j:Nat) q,qs[j]?=some q->(tupleKind (B3 P w)).is h q.1 q.2.1/\∃t,(ps.map λ p=>yL p.t)[j]?=some (.ref t)/\IsTup h t #[.ref q.2.1,q.2.2]
 |[],_=>⟨[],.nil,λ j q e=>by simp at e⟩
 |p::ps,ho=>by
  obtain⟨qs,h1,h2⟩:=VM ok λ p hp=>ho p (ze _ hp);obtain⟨o1,o2⟩:=ho p zd;obtain⟨_,ac,r,it⟩:=(show BS P w H h p.t (.tup [.ref p.b,p.v]) from ok p.t _ o1);obtain⟨u,v,rfl,ru,rv⟩:=r.two;cases ru;refine⟨(p.κ,p.b,v)::qs,.cons ⟨rfl,rfl,rv⟩ h1,λ j q e=>?_⟩;cases j with
  |zero =>
   rw[yW] at e;cases e;exact⟨Ir ok o2,p.t,by simp,it⟩
  |succ j =>
   rw[zL] at e;obtain⟨a1,t,a2,a3⟩:=h2 j q e;exact⟨a1,t,by simpa using a2,a3⟩
section
variable {X:Cx}{WX:Str->Hp->Prop}{c:Bool}{P0:E8}{P:Addr->Prop}{H:Hp}{σ:St}{ρ:Ad}{a b e:Expr}{f g:Ad->M D}{fn:Ad->M OT}{pos:Pos}{te:TE}
def Zr {p:Pos}{n:Nat}(hc:X.calm=true)(hu:X.A.units+n<cLine)(hg:Gl X "dict")(hm:X.mg "dict" = none)(he:PE X e te)(hv:bootBuiltins "dict" = some (.type "dict"):=by decide +kernel)(hs: ~~~(starEach [e] X.env=[(false,eval e X.env)]))(hn:2<=n:=by decide):
 PE X (.Call (.Name "dict" p) [e] [] pos) (yA X te):=by
 intro pins s σ H Q I h;refine wpAny_Call_Name_kw (Du I hg hm hv ?_);refine zZ ?_ hs;rw[hs];refine zag (Bj (he pins s σ H _ I h) λ u s1 zz=>?_);obtain⟨x,H1,I1,r1,q1⟩:=zz;obtain⟨l,ps,rfl,hq,ho,hlen,q⟩:=q1;cases r1;refine zao ?_;obtain⟨ac,r',pl,hz⟩:=I1.list hq;have hits:=Si r';subst hits;obtain⟨⟨pd,jn,jo,gc⟩,n0,o1,o2,o3,o4⟩:=pl;dsimp only at o2 o3 o4;subst o2 o3 o4;obtain⟨qs,h1,h2⟩:=VM I1.Au ho;refine LP (knd:=B3 X.prog X.w) qs (I1.ok.hd hc) (by omega) (by rw[zm,zc,<-h1.length]) (AD (by rw[zm,zc];omega)) o1 (λ j p hj=>?_) λ h' tk hd kp=>?_
 ·obtain⟨a1,t,a2,a3⟩:=h2 j p hj;exact⟨a1,t,by rw[List.getElem?_toArray];exact a2,a3⟩
 ·have pe:=kF ho h1 (show KT H1 [] [] from .nil);have dl:s1.heap.objs.size<=s1.heap.objs.size:=zu _;have bB:=I1.Au.fresh dl;have pf:=Zq ps [];obtain⟨o,es,ep,g1,g2,g3,g4,g5,g6⟩:=hd;refine⟨.ref _,_,I1.laid (t':=tk) (o:=.dT (uM ps)) kp dl ⟨yQ (AD (by unfold uM;simp at pf;omega)),beq_eq_false_iff_ne.mpr (zY (z6 I1.big)),_,pe.keeps (λ b ys eb=>by rw[Aj (λ z=>by rw[z,bB] at eb;cases eb)];exact eb),o,es,ep,g1,g2,g3,g4,g6⟩,rfl,q _ bB⟩
abbrev Qt:List D->Option (List (D×D))
 |[]=>some []
 | .tup [k,v]::r=>(Qt r).map ((k,v)::·)
 |_=>none
abbrev kG (l:List (D×D)):List D×List D:=l.foldl (λ z kv=>putD z.1 z.2 kv.1 kv.2) ([],[])
abbrev iH (d:D):M OT:=match d with
 | .lst xs=>(match Qt xs with|some l=>if l.length<=1000/\(l.all λ kv=>keyOk true kv.1)=true then .ok (.Bq true (kG l).1 ((kG l).2.map .sh)) else .bad|none=>.bad)
 |_=>.bad
def VN {K:za}{H:Hp}{P:Addr->Prop}:∀ {xs:List V}{ds:List D}{l:List (D×D)},Ag K (del H P) xs ds->Qt ds=some l->(l.all λ kv=>keyOk true kv.1)=true->
 ∃ps:List X5,xs=ps.map (λ p=>V.ref p.t)/\(∀p∈ps,iG H p)/\Paired (λ(p:X5) (kv:D×D)=>kv.1=.tup (p.κ.map Cy)/\BX K (del H P) p.v kv.2) ps l
 |_,[],l,.nil,e,_=>by cases e;exact⟨[],rfl,λ p hp=>(by cases hp),.nil⟩
 |_,d::ds,l,.cons hd ht,e,hk=>by
  unfold Qt at e;split at e
  ·rename_i be;cases be
  ·rename_i k v r be;cases be;obtain⟨l',e1,e2⟩:=yT.mp e;subst e2;rw[List.all_cons,zF] at hk;obtain⟨ps,q1,q2,q3⟩:=VN ht e1 hk.2;have hK:=Ef hk.1;cases hK with
   |t κ =>
    cases hd with
    |tup h1 h2 =>
     obtain⟨x,y,rfl,hx,hy⟩:=h2.two;cases hx with
     |tup g1 g2 =>
      rename_i tt bb dh;have ey:=Ag.keys κ g2;subst ey;refine⟨⟨tt,κ,bb,y⟩::ps,by rw[zf,q1],λ p hp=>?_,.cons ⟨rfl,hy⟩ q3⟩;rcases zp.mp hp with rfl|hp
      ·exact⟨(Ao h1).2,(Ao g1).2⟩
      ·exact q2 p hp
  ·cases e
def Zs {K:za}{H:Hp}{P:Addr->Prop}:∀ {ps:List X5}{l:List (D×D)}{kvs:List (List Key×V)}{vs:List D},Paired (λ(p:X5) (kv:D×D)=>kv.1=.tup (p.κ.map Cy)/\BX K (del H P) p.v kv.2) ps l->Ag K (del H P) (kvs.map yZ) vs->
 ∃aE,l.foldl (λ z kv=>putD z.1 z.2 kv.1 kv.2) (kvs.map (λ kv=>D.tup (kv.1.map Cy)),vs)=((ps.foldl (λ acc p=>putK acc p.κ p.v) kvs).map (λ kv=>D.tup (kv.1.map Cy)),aE)/\Ag K (del H P) ((ps.foldl (λ acc p=>putK acc p.κ p.v) kvs).map yZ) aE
 |[],_,kvs,vs,.nil,h=>⟨vs,rfl,h⟩
 |p::ps,_,kvs,vs,.cons (b:=kv) hq t,h=>by
  obtain⟨k,d⟩:=kv;obtain⟨e1,e2⟩:=hq;dsimp only at e1 e2;subst e1;have hf:∀a b:List Key,Bl (.tup (a.map Cy)) (.tup (b.map Cy))=decide (a=b):=λ a b=>by simp only[Bl];exact LZ a b
  have aQ:∃aE,(putD (kvs.map λ kv=>.tup (kv.1.map Cy)) vs (.tup (p.κ.map Cy)) d)=((putK kvs p.κ p.v).map (λ kv=>.tup (kv.1.map Cy)),aE)/\Ag K (del H P) ((putK kvs p.κ p.v).map yZ) aE:=by
   unfold putD putK;rw[Jn (fk:=λ κ:List Key=>D.tup (κ.map Cy)) hf];by_cases hh:(kvs.any λ kv=>decide (kv.1=p.κ))=true
   ·rw[if_pos hh,if_pos hh];refine⟨_,by rw[GB (fk:=λ κ:List Key=>D.tup (κ.map Cy)) hf],?_⟩;rw[<-GA (fk:=λ κ:List Key=>D.tup (κ.map Cy)) hf];exact GC e2 h
   ·rw[if_neg hh,if_neg hh];refine⟨_,by rw[z4];rfl,?_⟩;rw[z4];exact h.snoc e2
  obtain⟨vy,g1,g2⟩:=aQ;obtain⟨ph,g3,g4⟩:=Zs t g2;refine⟨ph,?_,g4⟩;rw[zB];dsimp only;rw[g1];exact g3
def Sj {p:Pos}{n:Nat}(hc:X.calm=true)(hu:X.A.units+n<cLine)(hg:Gl X "dict")(hm:X.mg "dict" = none)(he:DE X WX true e f)(hv:bootBuiltins "dict" = some (.type "dict"):=by decide +kernel)(hs: ~~~(starEach [e] X.env=[(false,eval e X.env)]))(hn:2<=n:=by decide):
 DN X WX (.Call (.Name "dict" p) [e] [] pos) (λ ρ=>(f ρ).bind iH):=by
 obtain⟨te,e1,e2⟩:=he;refine⟨_,Zr hc hu hg hm e1 hv hs hn,λ P0 P σ H Q ρ E h=>?_⟩;refine e2 P0 P σ H _ ρ E ?_;dsimp only at h;refine XO h λ d h=>?_;intro v H1 s1 hv;unfold iH at h;split at h
 ·rename_i xs;split at h
  ·rename_i l eb;split at h
   ·rename_i hl;cases hv with
    |lst hs hh =>
     obtain⟨ps,q1,q2,q3⟩:=VN hh eb hl.2;subst q1;obtain⟨aE,g1,g2⟩:=Zs (kvs:=[]) q3 .nil;refine⟨_,ps,rfl,hs.B7,q2,by rw[q3.length];exact hl.1,λ r hr=>?_⟩;have e3:kG l=((uM ps).map (λ kv=>D.tup (kv.1.map Cy)),aE):=g1;rw[e3] at h;have bm:∀a∈[r],H1 a=none:=λ a ha=>by rw[zg.mp ha];exact hr
     exact h _ [r] _ (s1.trans (AQ hr _)) (λ a ha=>DR s1 (bm a ha)) (by simp) (.dT Aq (g2.mono (Cz (AQ hr _) bm)).ows)
   ·exact h.elim
  ·exact h.elim
 ·exact h.elim
end
open PySem PySem.Spec PyProof.Rows
section
variable {X:Cx}{WX:Str->Hp->Prop}{c:Bool}{P0:E8}{P:Addr->Prop}{H:Hp}{σ:St}{ρ:Ad}{a b e:Expr}{f g:Ad->M D}{fn:Ad->M OT}{pos:Pos}{te:TE}
abbrev Zt (x y:D):M D:=match x,y with
 | .tup xs,.tup ys=>(match CT xs,CT ys with|some ns,some ms=>.ok (.bl (HT.lexLt ns ms))|_,_=>.bad)
 |_,_=>.bad
def VO:Vj X.K WX (rH X.K) Zt:=by
 intro P H x y v w Q ht hx hy h;unfold Zt at h;split at h
 ·rename_i xs ys;split at h
  ·rename_i ns ms e1 e2;have:=F0 e1;subst this;have:=F0 e2;subst this;cases hx with
   |tup h1 h2 =>
    cases hy with
    |tup h3 h4 =>
     have:=Ec h2;subst this;have:=Ec h4;subst this;exact⟨_,_,ns,ms,rfl,rfl,Fe.of (Ao h1).2,Fe.of (Ao h3).2,h _ H (Ae.refl H) (.bl _)⟩
  ·exact h.elim
 ·exact h.elim
def wB {n:Nat}(hu:X.A.units+n<cLine)(ha:DE X WX c a f)(hb:DE X WX c b g):DE X WX c (.Compare a [.Lt] [b] pos) (λ ρ=>(f ρ).bind λ x=>(g ρ).bind λ y=>Zt x y):=YC (Yo (by omega)) VO ha hb (Ip _)
def Zu {n:Nat}(hu:X.A.units+n<cLine)(ha:DE X WX c a f)(hb:DE X WX c b g):DT X WX (.Compare a [.Lt] [b] pos) (λ ρ=>((f ρ).bind λ x=>(g ρ).bind λ y=>Zt x y).bind OS):=Fm (Yo (by omega)) VO ha hb (Ip _)
def Zv (hk:DE X WX true a f)(hv:DE X WX true b g):DN X WX (.Dict [some a] [b] pos) (λ ρ=>(f ρ).bind λ k=>(g ρ).bind λ v=>if keyOk false k=true then .ok (.Bq false [k] [.sh v]) else .bad):=by
 obtain⟨tk,k1,k2⟩:=hk;obtain⟨tv,v1,v2⟩:=hv;refine⟨_,eX (Yu k1 v1 eW) rfl rfl (by simp) (by simp),λ P0 P σ H Q ρ E h p hp=>?_⟩;dsimp only at h;have hn:∀a∈[p],H a=none:=λ a ha=>by rw[zg.mp ha];exact hp
 have s0:Ae H (upd H p (.dK [])):=AQ hp _;have E1:An X.K P0 (PU P [p]) (upd H p (.dK [])) σ ρ:=E.more s0 KH (λ a ha=>ha.elim (λ z=>(E.C8 a z).same s0) λ z=>by
  rw[zg.mp z];exact⟨_,Aq,λ _=>⟨λ z=>(by cases z),λ _ z=>by cases z⟩⟩) (Cz s0 hn)
 refine k2 P0 (PU P [p]) σ _ _ ρ E1 ?_;cases q:f ρ with
 |bad=>rw[q] at h;exact h
 |ex x=>rw[q] at h;exact λ H' s=>h H' (s0.trans s)
 |ok k =>
  rw[q] at h;simp only[M.A9] at h;intro y H2 s2 hy;have E2:=E1.same s2;refine v2 P0 (PU P [p]) σ H2 _ ρ E2 ?_;cases q2:g ρ with
  |bad=>rw[q2] at h;exact h
  |ex x=>rw[q2] at h;exact λ H' s=>h H' ((s0.trans s2).trans s)
  |ok d =>
   rw[q2] at h;simp only[M.A9] at h;intro w H3 s3 hw;by_cases hc:keyOk false k=true
   ·rw[if_pos hc] at h;have hK:=Ef hc;cases hK with
    |k κ =>
     have ey:=hy.fZ;subst ey;refine⟨s3 _ _ (s2 _ _ Aq),[(κ,w)],rfl,by simp,?_⟩;have s4:Ae H (upd H3 p (.dK (Gn [] [(κ,w)]))):=λ a o ha=>by
      rw[Aj (λ z=>by rw[z,hp] at ha;cases ha)];exact s3 _ _ (s2 _ _ (s0 _ _ ha))
     have s5:Ae (del H3 (PU P [p])) (del (upd H3 p (.dK (Gn [] [(κ,w)]))) (PU P [p])):=λ a o ha=>by
      obtain⟨n1,n2⟩:=Ao ha;rw[Av n1,Aj (λ z=>n1 (.inr (by rw[z];exact zg.mpr rfl)))];exact n2
     refine h _ [p] _ s4 hn (by simp) ?_;have e1:Gn [] [(κ,w)]=[(κ,w)]:=rfl;rw[e1] at s5 ⊢;exact .dK (kvs:=[(κ,w)]) Aq (.cons (.sh (hw.mono s5)) .nil)
   ·rw[if_neg hc] at h;exact h.elim
abbrev Pj (x:D)(m:M D):M D:=match x with
 | .Bq b ks vs=>m.bind λ y=>if keyOk b y=true then .ok ((G8 ks vs y).getD .AK) else .bad
 |_=>.bad
def iI {K:za}{v:V}{bb:Bool}{ks vs:List D}{P:Addr->Prop}(h:BX K (del H P) v (.Bq bb ks vs)):∃a,v=.ref a/\vR H a:=by
 cases h with
 |Vd h1 h2=>exact⟨_,rfl,.inl ⟨_,h1.B7⟩⟩
 |Ve h1 h2=>exact⟨_,rfl,.inr ⟨_,h1.B7⟩⟩
def N6 {n:Nat}{o k:Expr}{apos ad:Pos}(hu:X.A.units+n<cLine)(ha:DE X WX c o f)(hb:DE X WX c k g)(m:M1 X o "get" apos k ad:=by exact⟨rfl,rfl,rfl,rfl⟩)(hn:1<=n:=by decide):
 DE X WX c (.Call (.Attribute o "get" apos) [k] [] ad) (λ ρ=>(f ρ).bind λ x=>Pj x (g ρ)):=by
 obtain⟨ta,a1,a2⟩:=ha;obtain⟨tb,b1,b2⟩:=hb;refine⟨_,Yv (by omega) a1 b1 m,λ P0 P σ H Q ρ E h=>?_⟩;dsimp only at h;refine a2 P0 P σ H _ ρ E ?_;refine XO h λ x h=>?_;intro v H1 s1 hv;unfold Pj at h;split at h
 ·rename_i bb ks vs;obtain⟨a,rfl,hD⟩:=iI hv;refine⟨a,rfl,hD,b2 P0 P σ H1 _ ρ (E.same s1) ?_⟩;cases e2:g ρ with
  |bad=>rw[e2] at h;exact h
  |ex y=>rw[e2] at h;exact gV.same (m:=.ex y) h s1
  |ok y =>
   rw[e2] at h;simp only[M.A9] at h;intro w H2 s2 hw;by_cases hk:keyOk bb y=true
   ·rw[if_pos hk] at h;obtain⟨a',xs,ea,g',hl,bm⟩:=Qm (hv.mono s2.del) hw (Ef hk);cases ea;refine⟨_,g',?_⟩;refine gV.same (gV.same h s1) s2 _ H2 (Ae.refl _) ?_;cases eg:G8 ks vs y with
    |none =>
     have:G8 ks xs y=none:=by
      cases vz:G8 ks xs y with
      |none=>rfl
      |some z =>
       have h1:=Hy (xs:=xs) (y:=y) bm;have h2:=Hy (ks:=ks) (xs:=vs) (y:=y) (by rw[<-hl.length,bm]);rw[h1,vz,eg] at h2;cases h2
     rw[this];exact .AK
    |some d =>
     obtain⟨x,e3,e4⟩:=MY hl eg;rw[e3];exact e4
   ·rw[if_neg hk] at h;exact h.elim
 ·exact h.elim
end
abbrev xG (K:za)(a:Addr)(n:Nat):It:=
 ⟨λ i H=>∃xs x,Di K H a xs/\xs.length=n/\i<n/\xs[n-1-i]?=some x,λ i H x H'=>H'=H/\∀xs,Di K H a xs->xs[n-1-i]?=some x,λ i H=>∃xs,Di K H a xs/\xs.length=n/\n<=i⟩
def Zw {h:Heap}{it a:Addr}{i:Int}{xs:Array Value}(h1:h.IsRevIter it a i)(h2:h.IsList a xs):a≠it:=λ z=>by
 subst z;obtain⟨o,e1,e2,_⟩:=h1;obtain⟨o2,e3,e4,_⟩:=h2;rw[e1] at e3;cases e3;rw[e2] at e4;exact absurd (Value.type.inj e4) (by decide)
def Zx {P:Program}{w:World}{K:za}{tg:Expr}(a it:Addr)(n:Nat):Turn P w K tg (xG K a n) [it] it (λ i h=>i<=n/\h.IsRevIter it a ((n:Int)-1-i)) where
 mem:=by simp
 obj:=λ i h st b hb=>by
  have e:b=it:=by simpa using hb
  subst e;obtain⟨_,o,e,c,d⟩:=st;exact⟨o,e,λ v z=>by rw[d] at z;cases z⟩
 keep:=λ i h h' st k=>⟨st.1,st.2.at λ o e=>k it (by simp) o e⟩
 item:=by
  intro X hP hw hK hc i pins s σ H E I hf st hg;subst hP hw hK;obtain⟨xs,x,hq,pi,b6,hx⟩:=hg;obtain⟨ac,rv,p,hz⟩:=I.list hq;obtain⟨u,hu,ru⟩:=rv.get hx;obtain⟨f0,f1,f2,f3,f4,f5⟩:=hf it (by simp);have hl:=rv.length;have pk:ac.toArray.size=n:=by rw[zm,<-hl,pi]
  have W:=Walks.listRev (prog:=X.prog) (w:=X.w) (A:=X.A) (I.ok.hd hc) it a (Zw st.2 p.isList) ac.toArray;rw[pk] at W;refine W.item i s _ _ b6 ⟨st.1,st.2,p.isList⟩ λ v h' tk hv bM kp=>?_;have ev:v=u:=by
   rw[List.getElem?_toArray,hu] at hv;exact (zD hv).symm
  subst ev;have I1:Inv X pins σ H {s with heap:=h',toks:=tk}:=I.turned (t':=tk) (λ b o hb e=>kp b o (by simpa using hb) e) f0 f1 f3 f4 f5;obtain⟨o,e,c,d⟩:=id bM.2.1;exact⟨v,rfl,Y6 (s:={s with heap:=h',toks:=tk}) e c d (by decide) ⟨x,H,I1,ru,⟨rfl,λ ys hy=>by rw[I.Gg hy hq];exact hx⟩,⟨bM.1,bM.2.1⟩,λ b hb=>(hf b hb).1⟩⟩
 done:=by
  intro X hP hw hK hc i pins s σ H E I hf st hg;subst hP hw hK;obtain⟨xs,hq,pi,b6⟩:=hg;obtain⟨ac,rv,p,hz⟩:=I.list hq;obtain⟨f0,f1,f2,f3,f4,f5⟩:=hf it (by simp);have hl:=rv.length;have pk:ac.toArray.size=n:=by rw[zm,<-hl,pi]
  have W:=Walks.listRev (prog:=X.prog) (w:=X.w) (A:=X.A) (I.ok.hd hc) it a (Zw st.2 p.isList) ac.toArray;rw[pk] at W;have v3:i=n:=Nat.le_antisymm st.1 b6;subst v3;exact W.done s _ _ ⟨st.1,st.2,p.isList⟩ λ h' tk kp=>⟨rfl,I.turned (t':=tk) (λ b o hb e=>kp b o (by simpa using hb) e) f0 f1 f3 f4 f5⟩
 self:=λ _ _ _ _ _ st h=>wpAny_pyIter_revIter st.2 h
section
variable {X:Cx}{WX:Str->Hp->Prop}{tg a:Expr}{f:Ad->M D}{pos p:Pos}{te:TE}
abbrev wC (K:za)(ta:TA):TI:=λ σ H R=>ta σ H λ vs H1=>∃a xs,vs=[.ref a]/\Di K H1 a xs/\R (xG K a xs.length) H1
def oA {ta:TA}(hg:Gl X "reversed")(hm:X.mg "reversed" = none)(ha:PA X [a] ta)(hb:bootBuiltins "reversed" = some (.type "reversed"):=by decide +kernel)(hs: ~~~(starEach [a] X.env=[(false,eval a X.env)])):
 PI X tg (.Call (.Name "reversed" p) [a] [] pos) (wC X.K ta):=by
 intro pins s σ H R I h;refine Call_ (Du I hg hm hb (zZ (Bj (ha pos pins s σ H _ I h) λ us s1 zz=>?_) hs rfl));obtain⟨vs,H1,I1,r1,q1⟩:=zz;obtain⟨j,xs,e,hq,q⟩:=q1;subst e;cases r1 with
 |cons r rr =>
  cases rr;cases r;obtain⟨ac,rv,p,hz⟩:=I1.list hq;have hl:=rv.length;refine call_reversed_list p.isList ?_;have hit:(s1.heap.push (revObj j ((ac.toArray.size:Int)-1))).IsRevIter s1.heap.objs.size j ((xs.length:Int)-1-(0:Nat)):=by
   rw[zm,<-hl];exact⟨_,zE _ rfl,rfl,by simp[revObj]⟩
  refine wpAny_pyIter_revIter (s:={s1 with heap:=s1.heap.push (revObj j ((ac.toArray.size:Int)-1))}) hit ?_;refine⟨s1.heap.objs.size,[s1.heap.objs.size],_,_,H1,rfl,I1.kept (t':=s1.toks) λ b o e=>zo _ e,Zx j _ xs.length,⟨zR _,hit⟩,λ b hb=>?_,q⟩;have e:b=s1.heap.objs.size:=by simpa using hb
  subst e;exact I1.Y5 (zu _) (I1.Au.fresh (zu _))
def Zy (hg:Gl X "reversed")(hm:X.mg "reversed" = none)(ha:DE X WX true a f)(hb:bootBuiltins "reversed" = some (.type "reversed"):=by decide +kernel)(hs: ~~~(starEach [a] X.env=[(false,eval a X.env)])):
 DI X WX tg (.Call (.Name "reversed" p) [a] [] pos) (λ ρ=>(f ρ).bind λ d=>match d with | .lst ds=>.ok ds.reverse|_=>.bad):=by
 obtain⟨ta,a1,a2⟩:=ha;refine⟨_,oA hg hm (Bp a1 Cn hs) hb hs,λ P0 P σ H R ρ E h=>?_⟩;dsimp only at h;refine a2 P0 P σ H _ ρ E ?_;cases q:f ρ with
 |bad|ex x=>rw[q] at h;exact h
 |ok d =>
  rw[q] at h;cases d with
  |lst ds =>
   intro v H1 s1 hv;cases hv with
   | @lst a xs _ hs hl =>
    have hlen:=hl.length;refine⟨a,xs,rfl,hs.B7,h _ H1 s1 ⟨λ i P' H' s hi=>?_,λ i P' H' s hi=>?_,λ i P' H' v fc d s ht hd y=>?_⟩⟩
    ·rw[yR] at hi;obtain⟨x,hx,_⟩:=hl.get (zi (show xs.length-1-i<ds.length by omega));exact⟨xs,x,(s.seq hs).B7,rfl,by omega,hx⟩
    ·rw[yR] at hi;exact⟨xs,(s.seq hs).B7,rfl,by omega⟩
    ·obtain⟨rfl,y⟩:=y;have af:=(z3.mp hd).1;rw[yR] at af;rw[List.getElem?_reverse af] at hd;obtain⟨x,hx,bj⟩:=hl.get hd;have e:=y xs (s.seq hs).B7;rw[hlen,hx] at e;cases e;exact⟨Ae.refl _,bj.mono s⟩
  |_=>exact h.elim
end
structure oB (K:za)(x qual:Str)(st:Stmt)(f:Addr)(fd:FuncData):Prop where
 ex:∃(oc:Value) (od:Option Addr) (dV kV doc pm:Value) (an:Option Addr) (B4 ct:Value) (Tt:Array (Option Value)),
  fd=yI x qual (Bo st) (AR st) (A5 st) dV kV doc pm an B4 ct/\K.lookup f=some ⟨oc,od,.func fd,Tt⟩/\za4 K B4 qual=true
 kp:zX K (.ref f)=true
section
variable {P:Program}{w:World}{K:za}{mg:Str->Option Value}{base:Heap}
def iJ {x qual:Str}{st:Stmt}{f:Addr}{fd:FuncData}{N ps:List Str}{k:Nat}(F:oB K x qual st f fd)(S:Ac N ps (A5 st))(g:Ad->M Out)
 (hb:∀(B4:Value) (A:Around) (outer:List Env) (s:Shared) (H:Hp) (E:XK),BE k (A.deeper (envOfC qual (A5 st) s.heap.objs.size f B4))->Tu (jZ P w K mg base N qual (A5 st) f B4 A outer s H E) (D2 K E) (AR st) g):
 Dn P w K mg base (Ua P w base) (k+1) f fd ps (P8 K ps.length λ t aw=>Eg (g (D4 N t aw))):=by
 obtain⟨oc,od,dV,kV,doc,pm,an,B4,ct,Tt,rfl,lk,aX⟩:=F.ex;refine V5 lk aX S (λ vs H Q E h=>h.1) λ A outer s H vs Q E hr h=>?_;obtain⟨hl,P',p,t,fp,rest,aw,rfl,ht,hp,nd,ho,hv,hq⟩:=h;obtain⟨tt,h1,h2⟩:=hb B4 A outer s H E hr;refine⟨tt,h1,h2 ⟨λ a=>P' a/\a∉fp,λ _=>p⟩ P' _ H _ _ (Jr ht hp nd ho hv) ?_⟩;dsimp only at hq;revert hq;cases g (D4 N t aw) with
 |bad|ex x=>exact λ h=>h.elim
 |ok o =>
  have sub:∀ {P2:Addr->Prop} {H2:Hp} {σ2:St} {ρ:Ad},An K ⟨λ a=>P' a/\a∉fp,λ _=>p⟩ P2 H2 σ2 ρ->∀a,P2 a/\¬ (P' a/\a∉fp)->P2 a/\(P' a->a∈fp):=λ E a ha=>⟨ha.1,λ z=>zaf λ w=>ha.2 ⟨z,w⟩⟩;cases o with
  |ret d|CQ d=>exact λ h=>h.elim
  |next ρ =>
   intro hq σ' H' P2 t2 E2;unfold Eg at hq;dsimp only at hq;split at hq
   ·rename_i t' e;obtain⟨c,ag,k1,k2,k3,k4,k5,k6⟩:=M3 E2 e;exact hq .AK H' P2 ag [] (λ a ha hn=>⟨E2.sub a ⟨ha,hn⟩,t2.2 a ⟨ha,hn⟩⟩) E2.C8 t2.1 k4 k5 (.sh .AK) yY (λ a ha=>by cases ha) (λ a ha=>sub E2 a (k6 a ha)) (λ a ha=>by cases ha)
   ·exact hq.elim
  |EY r ρ =>
   intro hq v fr σ' H' P2 t2 E2 o2 aS hf;unfold Eg at hq;dsimp only at hq;split at hq
   ·rename_i t' e;obtain⟨c,ag,k1,k2,k3,k4,k5,k6⟩:=M3 E2 e;exact hq v H' P2 ag fr (λ a ha hn=>⟨E2.sub a ⟨ha,hn⟩,t2.2 a ⟨ha,hn⟩⟩) E2.C8 t2.1 k4 k5 o2 aS (λ a ha=>(hf a ha).2.2 0 c _ ag k1 k2 k3) (λ a ha=>sub E2 a (k6 a ha)) (λ a ha=>sub E2 a ⟨(hf a ha).1,(hf a ha).2.1⟩)
   ·exact hq.elim
  |brk ρ|cont ρ=>exact λ h=>h.elim
end
def iK {K:za}{x qual:Str}{st:Stmt}{f:Addr}{oc:Value}{od an:Option Addr}{Tt:Array (Option Value)}{dV kV doc pm B4 ct:Value}(l:K.lookup f=some ⟨oc,od,.func (yI x qual (Bo st) (AR st) (A5 st) dV kV doc pm an B4 ct),Tt⟩)
 (c:za4 K B4 qual=true) (k:zX K (.ref f)=true):oB K x qual st f (yI x qual (Bo st) (AR st) (A5 st) dV kV doc pm an B4 ct):=⟨⟨oc,od,dV,kV,doc,pm,an,B4,ct,Tt,rfl,l,c⟩,k⟩
structure Pk (P:Program)(w:World)(K:za)(mg:Str->Option Value)(base:Heap)(x:Str)(k n:Nat)(F:OT->List D->M (OT×OT)):Prop where
 ex:∃C fa fd ps,nZ K mg x C/\Mk K C fa/\Dn P w K mg base (Ua P w base) k fa fd ps (P8 K n F)/\Binds K fd ps []/\Binds K fd ps [.none]
def Pk.yB {P:Program}{w:World}{K:za}{mg:Str->Option Value}{base:Heap}{x:Str}{k n:Nat}{F:OT->List D->M (OT×OT)}(G:Pk P w K mg base x k n F):tE P w K mg base x k n F:=by
 obtain⟨C,fa,fd,ps,h1,h2,h3,h4,_⟩:=G.ex;exact⟨⟨C,fa,fd,ps,h1,h2,h3,h4⟩⟩
structure Uo (K:za)(mg:Str->Option Value)(x qual:Str)(st:Stmt)(ps:List Str):Prop where
 ex:∃C f fd,nZ K mg x C/\Mk K C f/\oB K "__init__" qual st f fd/\Binds K fd ps []/\Binds K fd ps [.none]
def Zz {P:Program}{w:World}{K:za}{mg:Str->Option Value}{base:Heap}{x qual:Str}{st:Stmt}{N ps:List Str}{k n:Nat}(T:Uo K mg x qual st ps)(S:Ac N ps (A5 st))(g:Ad->M Out)(hb:∀(f:Addr) (B4:Value) (A:Around) (outer:List Env) (s:Shared) (H:Hp) (E:XK),BE k (A.deeper (envOfC qual (A5 st) s.heap.objs.size f B4))->Tu (jZ P w K mg base N qual (A5 st) f B4 A outer s H E) (D2 K E) (AR st) g)(hn: ~~~(ps.length=n)):
 Pk P w K mg base x (k+1) n (λ t aw=>Eg (g (D4 N t aw))):=by
 obtain⟨C,f,fd,h1,h2,F,hB⟩:=T.ex;subst hn;exact⟨⟨C,f,fd,ps,h1,h2,iJ F S g (hb f),hB⟩⟩
section
variable {X:Cx}{E:XK}{WX:Str->Hp->Prop}{c:Bool}{e:Expr}{es:List Expr}{fs:Ad->M (List D)}{pos:Pos}{H:Hp}
def ZA {x:Str}{k n:Nat}{F:OT->List D->M (OT×OT)}{p:Pos}(xo:FU X E)(G:Pk X.prog X.w X.K X.mg X.base x k n F)(hr:BE (k+1) X.A)(hg:Gl X x)(ha:DA X (D2 X.K E) true (e::es) fs)(aG:(e::es).length+2=n)(aP:(x==("__debug__" : Str))=false:=by decide)(he: ~~~(starEach (e::es) X.env=(false,eval e X.env)::starEach es X.env))(ao: ~~~((backTo pos (starEach es X.env)).any (·.1)=false)):
 DN X (D2 X.K E) (.Call (.Name x p) (e::es) [] pos) (λ ρ=>(fs ρ).bind λ ds=>Pf (F (.ins x [] []) (ds++[.AK]))):=by
 obtain⟨C,fa,fd,ps,hT,hM,hF,_,hb⟩:=G.ex;obtain⟨ta,a1,a2,a3⟩:=ha;refine⟨_,V4 hM hF hr hg hT.xF hb (show Vals [.AK] [.none] from .cons (show RelV .AK .none from rfl) .nil) xo.call a1 aP he ao,λ P0 P σ H Q ρ Ev h=>?_⟩;dsimp only at h;refine a2 P0 P σ H _ ρ Ev ?_;cases q:fs ρ with
 |bad|ex x=>rw[q] at h;exact h
 |ok ds =>
  rw[q] at h;simp only[M.A9] at h;intro vs H1 s1 a4 y dx hy hd ae;have E1:=Ev.same s1;have sm:=Pe (C:=C) hy hd;have bG:∀a∈[y],H1 a=none:=λ a ha=>by rw[zg.mp ha];exact hy
  refine⟨by rw[zj,zA,a4.length,a3 ρ ds q];exact aG,PU P [y],y,.ins x [] [],[y],vs++[.AK],ds++[.AK],rfl,λ a ha=>?_,λ a ha=>.inr ha,by simp,C7.ins (fs:=[]) hT.ns Aq .nil,(a4.mono (Cz sm bG)).append (.cons .AK .nil),?_⟩
  ·rcases ha with ha|ha
   ·exact (E1.C8 a ha).same sm
   ·rw[zg.mp ha];exact⟨_,Aq,λ xs=>⟨(λ z=>by cases z),(λ z w=>by cases w)⟩⟩
  ·cases q2:F (.ins x [] []) (ds++[.AK]) with
   |bad|ex z=>rw[q2] at h;exact h
   |ok tr =>
    obtain⟨t,r⟩:=tr;rw[q2] at h;simp only[Pf] at h;intro v H' P' ag fr k1 k2 k3 k4 k5 k6 k7 k8 k9 oj;cases r with
    |sh d =>
     cases d with
     |AK =>
      cases k6 with
      |sh hv =>
       cases hv;refine⟨rfl,h _ ag H' ?_ ?_ k5 ?_⟩
       ·intro b u eb;have e1:=s1 b u eb;have bq:b≠y:=λ z=>by rw[z,hy] at e1;cases e1
        have e2:=sm b u e1;by_cases hP:P b
        ·exact (k1 b (.inl hP) (by simp[bq])).2.trans e2
        ·exact (Ao (k3 b u (by rw[Av λ z=>z.elim hP λ w=>bq (zg.mp w)];exact e2))).2
       ·intro b ji;cases eb:H b with
        |none=>rfl
        |some u =>
         exfalso;have e1:=s1 b u eb;have bq:b≠y:=λ z=>by rw[z,hy] at e1;cases e1
         have e2:=sm b u e1;have hn:=λ z=>bq (zg.mp ((k9 b ji).2 z));exact (Ao (k3 b u (by rw[Av hn];exact e2))).1 (k9 b ji).1
       ·refine k4.move (λ b u eb=>?_) λ _ _=>rfl;obtain⟨g1,g2⟩:=Ao eb;rw[Av]
        ·exact g2
        ·rintro (z|z)
         ·have bq:b≠y:=λ w=>by
           obtain⟨o,e1,_⟩:=E1.C8 b z;rw[w,hy] at e1;cases e1
          exact g1 (k1 b (.inl z) (by simp[bq])).1
         ·exact g1 (k9 b z).1
     |_=>exact h.elim
    |_=>exact h.elim
end
def yC {P:List Value->Prop}(h:P [])(us:List Value)(hl:us.length=0):P us:=by
 cases us with
 |nil=>exact h
 |cons _ _=>cases hl
def uN {P:List Value->Prop}(h:∀a,P [a])(us:List Value)(hl:us.length=1):P us:=by
 cases us with
 |nil=>cases hl
 |cons a us=>exact yC (P:=λ l=>P (a::l)) (h a) us (Nat.succ.inj hl)
def ln2 {P:List Value->Prop}(h:∀a b,P [a,b])(us:List Value)(hl:us.length=2):P us:=by
 cases us with
 |nil=>cases hl
 |cons a us=>exact uN (P:=λ l=>P (a::l)) (λ b=>h a b) us (Nat.succ.inj hl)
def wD {P:List Value->Prop}(h:∀a b c,P [a,b,c])(us:List Value)(hl:us.length=3):P us:=by
 cases us with
 |nil=>cases hl
 |cons a us=>exact ln2 (P:=λ l=>P (a::l)) (λ b c=>h a b c) us (Nat.succ.inj hl)
def xH {P:List Value->Prop}(h:∀a b c d,P [a,b,c,d])(us:List Value)(hl:us.length=4):P us:=by
 cases us with
 |nil=>cases hl
 |cons a us=>exact wD (P:=λ l=>P (a::l)) (λ b c d=>h a b c d) us (Nat.succ.inj hl)
def AS {K:za}{mg:Str->Option Value}{h:Heap}{x:Str}{st:Stmt}{ps:List Str}(X:K.In h)(G:h.Ns mainGlobals mg)(p:FP K x st)(hb:∀(kV dc pm:Value) (an:Option Addr) (cd ct:Value) (us:List Value),us.length=ps.length->bindArgs (yI x x (Bo st) (AR st) (A5 st) .none kV dc pm an cd ct) ⟨us,[]⟩=pure (ps.zip us):=by first | exact (λ _ _ _ _ _ _=>uN λ _=>rfl) | exact (λ _ _ _ _ _ _=>ln2 λ _ _=>rfl) | exact (λ _ _ _ _ _ _=>wD λ _ _ _=>rfl) | exact (λ _ _ _ _ _ _=>xH λ _ _ _ _=>rfl)):AI K mg x st ps:=by
 obtain⟨f,oc,od,an,sl,kV,dc,pm,cd,ct,a,l,c,k⟩:=p.ex;have F:=TZ (st:=st) l c k;exact⟨⟨_,_,F,PySem.W.mg_of X G a,F.binds hb⟩⟩
def VP {K:za}{C:Addr}{x m qual:Str}{st:Stmt}{ps:List Str}(aC:zH K mainGlobals x=some (some (.ref C)))(cl:Wn K C)(p:MP K C m qual st)(hb:∀(kV dc pm:Value) (an:Option Addr) (cd ct:Value) (us:List Value),us.length=ps.length->bindArgs (yI m qual (Bo st) (AR st) (A5 st) .none kV dc pm an cd ct) ⟨us,[]⟩=pure (ps.zip us):=by first | exact (λ _ _ _ _ _ _=>uN λ _=>rfl) | exact (λ _ _ _ _ _ _=>ln2 λ _ _=>rfl) | exact (λ _ _ _ _ _ _=>wD λ _ _ _=>rfl) | exact (λ _ _ _ _ _ _=>xH λ _ _ _ _=>rfl)):Pc K x m qual st ps:=by
 obtain⟨f,oc,od,an,sl,kV,dc,pm,cd,ct,a,i,l,c,k⟩:=p.ex;have F:=TZ (st:=st) l c k;exact⟨⟨_,_,_,aC,cl,⟨a,i,k⟩,F,F.binds hb⟩⟩
open PySem PySem.W PySem.Calls PyProof.Rows
abbrev R0:Rn:=⟨topRun,Heap.nsMap,importEnds,fenceModules?,PySem.start,treeTable⟩
def oC:R0=R1:=by
 unfold R0 R1;rw[PySem.W.Fast.te14082659384304107361,PySem.W.Fast.te8920871248978507458,PySem.W.Fast.te10274390034422433532,PySem.W.Fast.te14289696077712309145,PySem.W.Fast.te1435165496053646825,PySem.W.Fast.te14364793385576792824]
def VQ (p:Program)(w:World)(N:Nat):openEnds treeTable p w N=Ms R0 p w N:=by
 unfold openEnds fencedOpening Ms;rfl
def N7 {h:Heap}{a:Addr}{o:Obj}:∀ {as:List Addr},(tT h as).lookup a=some o->h.get? a=some o
 |[],e=>by cases e
 |b::r,e=>by
  unfold tT at e;rw[za0] at e;cases q:h.get? b with
  |none=>rw[q] at e;exact N7 (as:=r) e
  |some u =>
   rw[q] at e;dsimp only [zae] at e;rw[za2] at e;cases c:a==b with
   |true=>rw[c] at e;cases e;rw[eq_of_beq c];exact q
   |false=>rw[c] at e;exact N7 (as:=r) e
abbrev tF (h h':Heap):Prop:=∀(b:Addr) (o:Obj),h.get? b=some o->h'.get? b=some o
def oE {h h':Heap}{as:List Addr}(s:tF h h'):(tT h as).In h':=λ a o e=>s a o (N7 e)
def iL {p q:Program}{Xt:Shared->Bool}{N:Nat}(h:∀w:World,(openEnds treeTable p w N).map (λ s=>openSeen q [] (importedModules p.main.body) Xt true s)=some (openGood q [])):LeftO p q [] Xt (λ s=>s.heap) (λ w=>XS R0 p w N) N:=λ w=>by
 have e:=h w;unfold XS;dsimp only;rw[<-VQ];cases q':openEnds treeTable p w N with
 |none=>rw[q'] at e;cases e
 |some s =>
  rw[q'] at e;rw[zae] at e ⊢;dsimp only;rw[zD e]
def Qu {α β γ:Type}{o:Option γ}{f:γ->α×β}{a:α×β}(h:o.map (λ s=>(f s).1)=some a.1)(k:o.map (λ s=>(f s).2)=some a.2):o.map f=some a:=by
 cases o with
 |none=>cases h
 |some s =>
  rw[zae] at h k ⊢;exact congrArg some (Prod.ext (zD h) (zD k))
def tG {l:PySem.W.OpenLaw}{n k:Nat}{q:Program}{loose:List Str}{XP:(Str->Option Value)->Heap->Prop}{YP:World->Heap->Prop}{d:DefRec}{K:World->za}{CX:World->V0}{sp:World->Sp}{x:Str}
 (hn:l.most=some n) (a9:n<=sizeLine) (fj:d.params.defaults=[]) (hr:BE k callerA) (hY:∀(w:World) (h:Heap),YP w h->(K w).In h)
 (F:∀(w:World) (mg:Str->Option Value) (fa:Addr) (h:Heap),(K w).In h->h.Ns mainGlobals mg->mg d.name=some (.ref fa)->∃fd:FuncData,(∀(s:Shared) (u:Value),BindsTo s fd ⟨[u],[]⟩ [(x,u)])/\
  ∀base:Heap,(K w).In base->base.Ns mainGlobals mg->Dn l.prog w (K w) mg base (CX w) k fa fd [x] (sp w))
 (bE:∀(w:World) (H:Hp) (a:Addr) (ns:List Int),(∀n∈ns,Sm n)->ns.length<=n->eS H->Di (K w) H a (ns.map V.int)->sp w [.ref a] H (λ v _=>v=.bl true) λ _ _ _=>False)
 (ix:∀(w:World) (H:Hp) (s:Shared) (e:Value) (s':Shared),CX w [] H s (λ _ _ _=>False) e s'->False):PySem.W.WalkO q loose XP YP l.row.toRowW d [] (λ f vs=>PySem.call f vs):=by
 refine HT.OY hn fj λ w s₀ s₁ mg mb fa o pm cd doc a vs ns bp G Y ho hd aX fm bV bf hlen hg=>?_;have KX:=hY w _ Y;obtain⟨fd,hb,hF⟩:=F w mg fa _ KX G.T.g fm;exact RH KX G.T.g G.T.b G.T.builtins G.T.nolimit hg bV bf (yJ hlen a9) hr hF hb (λ H hO hS=>bE w H a ns bp hlen hO hS) λ H e s'=>ix w H s₁ e s'
abbrev cst:Option (Int×Int)->D
 |none=>.AK
 |some p=>.tup [.int p.1,.int p.2]
abbrev Ah:Option (Int×Int)->Option (Int×Int)->Option (Int×Int)
 |some p,some q=>some (p.1+q.1,p.2+q.2)
 |_,_=>none
abbrev kH (p q:Int×Int):Int×Int:=if p.1<q.1\/(p.1=q.1/\p.2<=q.2) then p else q
abbrev DF:Option (Int×Int)->Option (Int×Int)->Option (Int×Int)
 |none,b=>b
 |some p,none=>some p
 |some p,some q=>some (kH p q)
abbrev Fu (cs:List (Option (Int×Int))):Option (Int×Int):=cs.foldl DF none
def GJ (cs:List (Option (Int×Int))):Bv (λ d ρ=>.ok (ρ.set 0 (some (.val d)))) (λ ρ=>(rv 0 ρ).bind λ x=>.ok (!BV x)) (rv 0) (cs.map cst) [none]=.ok ((cs.filterMap id).map λ p=>cst (some p)):=by
 induction cs with
 |nil=>rfl
 |cons c r ih =>
  rw[zf,Bv];cases c with
  |none =>
   show Bv _ _ _ (r.map cst) [none]=_;rw[ih];rfl
  |some p =>
   show (match Bv _ _ _ (r.map cst) [none] with | .ok ys=>M.ok (cst (some p)::ys)|_=>.bad)=_;rw[ih];rfl
def X6 (ps:List (Int×Int)):Gu (ps.map λ p=>cst (some p))=some (ps.map λ p=>(cst (some p),[p.1,p.2])):=by
 induction ps with
 |nil=>rfl
 |cons p r ih=>rw[zf,Gu,ih];rfl
def ZC (cs:List (Option (Int×Int))):Ba ((cs.filterMap id).map λ p=>(cst (some p),[p.1,p.2]))=(Fu cs).map λ p=>(cst (some p),[p.1,p.2]):=by
 have key:∀(cs:List (Option (Int×Int))) (z:Option (Int×Int)),((cs.filterMap id).map λ p=>(cst (some p),[p.1,p.2])).foldl BU (z.map λ p=>(cst (some p),[p.1,p.2]))=(cs.foldl DF z).map λ p=>(cst (some p),[p.1,p.2]):=by
  intro cs;induction cs with
  |nil=>intro z;rfl
  |cons c r ih =>
   intro z;cases c with
   |none =>
    rw[show List.filterMap id (none::r)=List.filterMap id r from rfl,zB,ih z];cases z<;>rfl
   |some q =>
    rw[show List.filterMap id (some q::r)=q::List.filterMap id r from rfl,zf,zB,zB,<-ih (DF z (some q))];congr 1;cases z with
    |none=>rfl
    |some p =>
     simp only[zae,BU,HT.Fh,HT.EI,DF,kH];by_cases h1:q.1=p.1
     ·by_cases h2:q.2=p.2
      ·rw[if_pos (show p.1<q.1\/(p.1=q.1/\p.2<=q.2) by omega)];simp[h1,h2]
      ·by_cases h3:q.2<p.2
       ·rw[if_neg (show ¬ (p.1<q.1\/(p.1=q.1/\p.2<=q.2)) by omega)];simp[h1,h2,h3]
       ·rw[if_pos (show p.1<q.1\/(p.1=q.1/\p.2<=q.2) by omega)];simp[h1,h2,h3]
     ·by_cases h3:q.1<p.1
      ·rw[if_neg (show ¬ (p.1<q.1\/(p.1=q.1/\p.2<=q.2)) by omega)];simp[h1,h3]
      ·rw[if_pos (show p.1<q.1\/(p.1=q.1/\p.2<=q.2) by omega)];simp[h1,h3]
 exact key cs none
def VR (cs:List (Option (Int×Int))):Vn (.lst ((cs.filterMap id).map λ p=>cst (some p))) .AK=.ok (cst (Fu cs)):=by
 simp only[Vn,X6,ZC];cases Fu cs<;>rfl
def Sk (cs:List (Option (Int×Int))):Jf (Bv (λ d ρ=>.ok (ρ.set 0 (some (.val d)))) (λ ρ=>(rv 0 ρ).bind λ x=>.ok (!BV x)) (rv 0) (cs.map cst) [none])=.ok (.lst ((cs.filterMap id).map λ p=>cst (some p))):=by
 rw[GJ];rfl
noncomputable abbrev Co:=Option (Int×Int)
abbrev BK:Co->Co->Prop
 |_,none=>True
 |none,some _=>False
 |some p,some q=>p.1<q.1\/(p.1=q.1/\p.2<=q.2)
def Cc:∀a:Co,BK a a
 |none=>trivial
 |some p=>.inr ⟨rfl,Int.le_refl _⟩
def Ap:∀ {a b c:Co},BK a b->BK b c->BK a c
 |_,_,none,_,_=>trivial
 |none,none,some _,_,h|some _,none,some _,_,h|none,some _,some _,h,_=>h.elim
 |some p,some q,some r,h1,h2=>by simp only[BK] at *;omega
def JW:∀ {a b:Co},BK a b->BK b a->a=b
 |none,none,_,_=>rfl
 |none,some _,h,_|some _,none,_,h=>h.elim
 |some p,some q,h1,h2=>by
  obtain⟨p1,p2⟩:=p;obtain⟨q1,q2⟩:=q;simp only[BK] at h1 h2;have e1:p1=q1:=by omega
  have e2:p2=q2:=by omega
  rw[e1,e2]
def Bt:∀a b:Co,(DF a b=a/\BK a b)\/(DF a b=b/\BK b a/\a≠b)
 |none,none=>.inl ⟨rfl,trivial⟩
 |none,some q=>.inr ⟨rfl,trivial,λ h=>by cases h⟩
 |some p,none=>.inl ⟨rfl,trivial⟩
 |some p,some q=>by
  unfold DF kH;by_cases h:p.1<q.1\/(p.1=q.1/\p.2<=q.2)
  ·dsimp only;rw[if_pos h];exact .inl ⟨rfl,h⟩
  ·dsimp only;rw[if_neg h];refine .inr ⟨rfl,?_,λ e=>?_⟩
   ·simp only[BK];omega
   ·cases e;exact h (.inr ⟨rfl,Int.le_refl _⟩)
def EE (a b:Co):BK (DF a b) a:=by
 rcases Bt a b with ⟨e,h⟩|⟨e,h,_⟩
 ·rw[e];exact Cc a
 ·rw[e];exact h
def EF (a b:Co):BK (DF a b) b:=by
 rcases Bt a b with ⟨e,h⟩|⟨e,h,_⟩
 ·rw[e];exact h
 ·rw[e];exact Cc b
def Sl (cs:List Co):∀z:Co,BK (cs.foldl DF z) z/\(∀x∈cs,BK (cs.foldl DF z) x)/\(cs.foldl DF z=z\/cs.foldl DF z∈cs):=by
 induction cs with
 |nil=>intro z;exact⟨Cc z,(λ x h=>by cases h),.inl rfl⟩
 |cons c r ih =>
  intro z;obtain⟨h1,h2,h3⟩:=ih (DF z c);rw[zB];refine⟨Ap h1 (EE z c),λ x hx=>?_,?_⟩
  ·rcases zp.mp hx with rfl|hx
   ·exact Ap h1 (EF z x)
   ·exact h2 x hx
  ·rcases h3 with h3|h3
   ·rw[h3];rcases Bt z c with ⟨e,_⟩|⟨e,_⟩
    ·exact .inl e
    ·rw[e];exact .inr zd
   ·exact .inr (ze _ h3)
def Mn {cs:List Co}{x:Co}(h:x∈cs):BK (Fu cs) x:=(Sl cs none).2.1 x h
def JX (cs:List Co):Fu cs=none\/Fu cs∈cs:=(Sl cs none).2.2
def iM {cs:List Co}{v:Co}(h1:∀x∈cs,BK v x)(h2:v≠none->∃x∈cs,BK x v):Fu cs=v:=by
 refine JW ?_ ?_
 ·cases v with
  |none=>cases Fu cs<;>exact trivial
  |some p =>
   obtain⟨x,hx,hl⟩:=h2 (by intro z;cases z);exact Ap (Mn hx) hl
 ·rcases JX cs with h|h
  ·rw[h];cases v<;>exact trivial
  ·exact h1 _ h
def Bc:∀a b:Co,Ah a b=Ah b a
 |none,none=>rfl
 |none,some _|some _,none=>rfl
 |some p,some q=>by simp only[Ah];rw[Int.add_comm,Int.add_comm p.2]
def C1:∀ {a b:Co}(c:Co),BK a b->BK (Ah a c) (Ah b c)
 |_,none,c,_=>by cases c<;>exact trivial
 |none,some _,c,h=>h.elim
 |some p,some q,none,h=>trivial
 |some p,some q,some r,h=>by simp only[Ah,BK] at *;omega
abbrev NN:Co->Prop
 |none=>True
 |some p=>0<=p.1/\0<=p.2
def N8:∀ {a b:Co},NN a->NN b->NN (Ah a b)
 |none,none,_,_=>trivial
 |none,some _,_,_|some _,none,_,_=>trivial
 |some p,some q,h1,h2=>by simp only[Ah,NN] at *;omega
def ZD {a b:Co}(h1:NN a)(h2:NN b):NN (DF a b):=by
 rcases Bt a b with ⟨e,_⟩|⟨e,_⟩
 ·rw[e];exact h1
 ·rw[e];exact h2
abbrev ltN (a b:Co):Prop:=NN a/\BK a b/\a≠b
def X7 (a b c:Co)(h1:ltN a b)(h2:ltN b c):ltN a c:=
 ⟨h1.1,Ap h1.2.1 h2.2.1,λ e=>by subst e;exact h1.2.2 (JW h1.2.1 h2.2.1)⟩
abbrev rank:Co->Nat×Nat×Nat
 |none=>(1,0,0)
 |some p=>(0,p.1.toNat,p.2.toNat)
def oF:∀a:Co,NN a->Acc ltN a:=by
 have wf:WellFounded (InvImage (Prod.Lex (· < ·) (Prod.Lex (· < ·) (· < ·))) rank):=InvImage.wf rank (Prod.lex Nat.lt_wfRel (Prod.lex Nat.lt_wfRel Nat.lt_wfRel)).wf;intro a;induction a using wf.induction with
 |h a ih =>
  intro ha;refine .intro _ λ b ⟨hb,hl,ae⟩=>ih b ?_ hb;cases b with
  |none=>cases a with
   |none=>exact (ae rfl).elim
   |some p=>exact hl.elim
  |some q=>cases a with
   |none=>exact Prod.Lex.left _ _ (by decide)
   |some p =>
    obtain⟨p1,p2⟩:=p;obtain⟨q1,q2⟩:=q;simp only[BK,NN] at hl ha hb;show Prod.Lex _ _ (0,q1.toNat,q2.toNat) (0,p1.toNat,p2.toNat);refine Prod.Lex.right _ ?_;by_cases h:q1<p1
    ·exact Prod.Lex.left _ _ (by omega)
    ·have e:q1=p1:=by omega
     subst e;have h2:q2≠p2:=λ e=>ae (by rw[e]);exact Prod.Lex.right _ (by omega)
def iN (a:Co):Acc ltN a:=.intro _ λ b h=>oF b h.1
def X8 (cs:List Co):Acc (O0 ltN) cs:=MV ltN iN cs.length cs rfl
structure Road where
 a:Int
 b:Int
 l:Option Int
 w:Int
abbrev GL:Option Int->D
 |none=>.AK
 |some i=>.int i
abbrev Bk (r:Road):D:=.tup [.int r.a,.int r.b,GL r.l,.int r.w]
abbrev Ar (m:Int)(rs:List Road):D:=.tup [.int m,.lst (rs.map Bk)]
abbrev Cd (r:Road):Co:=match r.l with | none=>none | some l=>some (l,1)
structure Gd (m:Nat)(r:Road):Prop where
 a0:0<=r.a
 a1:r.a<m
 b0:0<=r.b
 b1:r.b<m
 l0:∀l,r.l=some l->0<=l
abbrev JY (r:Road):Road:=⟨r.b,r.a,r.l,r.w⟩
def VS {m:Nat}{r:Road}(h:Gd m r):NN (Cd r):=by
 unfold Cd;split
 ·trivial
 ·rename_i l e;exact⟨h.l0 l e,by show (0:Int)<=1;decide⟩
abbrev atC (cs:List Co)(i:Int):Co:=cs.getD i.toNat none
def DH {cs:List Co}{i:Int}(h0:0<=i)(h1:i<cs.length):cs[i.toNat]?=some (atC cs i):=by
 unfold atC;rw[zx,zi (show i.toNat<cs.length by omega)];rfl
def set_same {α:Type}:∀ {l:List α}{i:Nat}{x:α},l[i]?=some x->l.set i x=l
 |[],_,_,h=>by cases h
 |y::r,0,x,h=>by cases h;rfl
 |y::r,i+1,x,h=>by rw[zk,set_same (by simpa using h)]
abbrev Dd (r:Road)(cs:List Co):List Co:=cs.set r.b.toNat (DF (atC cs r.b) (Ah (atC cs r.a) (Cd r)))
def HP {cs:List Co}{i j:Int}{v:Co}(hi:0<=i)(hj:0<=j)(h1:i<cs.length):atC (cs.set i.toNat v) j=if j=i then v else atC cs j:=by
 unfold atC;rw[zx,zx];by_cases h:j=i
 ·subst h;rw[if_pos rfl,zN (by omega)];rfl
 ·rw[if_neg h,yV (by omega)]
structure Good (m s:Nat)(rs:List Road)(cs:List Co):Prop where
 len:cs.length=m
 st:atC cs s=some (0,0)
 nn:∀c∈cs,NN c
 sup:∀p:Int,0<=p->p<m->p≠s->atC cs p≠none->∃r∈rs,r.b=p/\BK (Ah (atC cs r.a) (Cd r)) (atC cs p)
def Good.kI {m s:Nat}{rs:List Road}{cs:List Co}(g:Good m s rs cs){i:Int}(h0:0<=i)(h1:i<m):NN (atC cs i):=
 g.nn _ (zv (DH h0 (by rw[g.len];exact h1)))
def X9 {m s:Nat}{rs:List Road}{cs:List Co}{r:Road}(g:Good m s rs cs)(hr:r∈rs)(Au:∀r∈rs,Gd m r):
 Good m s rs (Dd r cs)/\(∀i:Int,0<=i->BK (atC (Dd r cs) i) (atC cs i))/\(DF (atC cs r.b) (Ah (atC cs r.a) (Cd r))=atC cs r.b->Dd r cs=cs)/\
 (DF (atC cs r.b) (Ah (atC cs r.a) (Cd r))≠atC cs r.b->O0 ltN (Dd r cs) cs):=by
 have ok:=Au r hr;have br:r.b<cs.length:=by rw[g.len];exact ok.b1
 have hx:NN (Ah (atC cs r.a) (Cd r)):=N8 (g.kI ok.a0 ok.a1) (VS ok);have hv:NN (DF (atC cs r.b) (Ah (atC cs r.a) (Cd r))):=ZD (g.kI ok.b0 ok.b1) hx;have aT:∀i:Int,0<=i->atC (Dd r cs) i=if i=r.b then DF (atC cs r.b) (Ah (atC cs r.a) (Cd r)) else atC cs i:=λ i hi=>HP ok.b0 hi br
 have le:∀i:Int,0<=i->BK (atC (Dd r cs) i) (atC cs i):=λ i hi=>by
  rw[aT i hi];by_cases h:i=r.b
  ·rw[if_pos h,h];exact EE _ _
  ·rw[if_neg h];exact Cc _
 refine⟨⟨by unfold Dd;rw[yS];exact g.len,?_,λ c hc=>?_,λ p h0 h1 hp hn=>?_⟩,le,λ h=>?_,λ h=>?_⟩
 ·rw[aT s (by omega)];by_cases h:(s:Int)=r.b
  ·rw[if_pos h,<-h,g.st];cases q:Ah (atC cs r.a) (Cd r) with
   |none=>rfl
   |some x =>
    rw[q] at hx;unfold DF kH;dsimp only;rw[if_pos (by simp only[NN] at hx;omega)]
  ·rw[if_neg h];exact g.st
 ·unfold Dd at hc;rcases zb7 hc with h|h
  ·exact g.nn c h
  ·rw[h];exact hv
 ·rw[aT p h0] at hn ⊢;by_cases h:p=r.b
  ·rw[if_pos h] at hn ⊢;rcases Bt (atC cs r.b) (Ah (atC cs r.a) (Cd r)) with ⟨e,_⟩|⟨e,_⟩
   ·rw[e] at hn ⊢;subst h;obtain⟨r',h2,h3,h4⟩:=g.sup r.b h0 h1 hp hn;exact⟨r',h2,h3,Ap (C1 _ (le r'.a (Au r' h2).a0)) h4⟩
   ·rw[e];exact⟨r,hr,h.symm,C1 _ (le r.a ok.a0)⟩
  ·rw[if_neg h] at hn ⊢;obtain⟨r',h2,h3,h4⟩:=g.sup p h0 h1 hp hn;exact⟨r',h2,h3,Ap (C1 _ (le r'.a (Au r' h2).a0)) h4⟩
 ·unfold Dd;rw[h];exact set_same (DH ok.b0 br)
 ·unfold Dd;exact Vr ltN (DH ok.b0 br) ⟨hv,EE _ _,h⟩
abbrev Right (m s:Nat)(rs:List Road)(cs:List Co):Prop:=
 cs.length=m/\atC cs s=some (0,0)/\(∀c∈cs,NN c)/\∀p:Int,0<=p->p<m->p≠s->atC cs p=Fu ((rs.filter λ r=>decide (r.b=p)).map λ r=>Ah (Cd r) (atC cs r.a))
def right_of {m s:Nat}{rs:List Road}{cs:List Co}(g:Good m s rs cs)(h:∀r∈rs,DF (atC cs r.b) (Ah (atC cs r.a) (Cd r))=atC cs r.b):Right m s rs cs:=by
 refine⟨g.len,g.st,g.nn,λ p h0 h1 hp=>?_⟩;symm;refine iM (λ x hx=>?_) λ hn=>?_
 ·obtain⟨r,hr,rfl⟩:=zC.mp hx;obtain⟨h2,h3⟩:=yN.mp hr;have e:r.b=p:=by simpa using h3
  have:=EF (atC cs r.b) (Ah (atC cs r.a) (Cd r));rw[h r h2,e] at this;rw[Bc];exact this
 ·obtain⟨r,h2,h3,h4⟩:=g.sup p h0 h1 hp hn;refine⟨_,zC.mpr ⟨r,yN.mpr ⟨h2,by simpa using h3⟩,rfl⟩,?_⟩;rw[Bc];exact h4
def N9 {m s:Nat}(rs:List Road)(h:s<m):Good m s rs ((zr m none).set s (some (0,0))):=by
 have hl:(zr m (none:Co)).length=m:=zb0;have aT:∀i:Int,0<=i->atC ((zr m none).set s (some (0,0))) i=if i=s then some (0,0) else none:=λ i hi=>by
  have:=HP (cs:=zr m none) (i:=(s:Int)) (j:=i) (v:=some (0,0)) (by omega) hi (by rw[hl];omega);rw[yO] at this;rw[this];by_cases h:i=s
  ·rw[if_pos h,if_pos h]
  ·rw[if_neg h,if_neg h];unfold atC;rw[zx,zaa];split<;>rfl
 refine⟨by rw[yS,hl],?_,λ c hc=>?_,λ p h0 h1 hp hn=>?_⟩
 ·rw[aT s (by omega),if_pos rfl]
 ·rcases zb7 hc with h|h
  ·rw[List.eq_of_mem_replicate h];trivial
  ·rw[h];exact⟨Int.le_refl _,Int.le_refl _⟩
 ·rw[aT p h0,if_neg hp] at hn;exact (hn rfl).elim
def oG {α:Type}{l:List α}{n:Int}(h:0<=n/\n<l.length):Q4 l n=l[n.toNat]? :=by
 unfold Q4 NZ;obtain⟨h1,h2⟩:=h;simp[h1,h2]
def Mo {n:Nat}{j:Int}(h:0<=j/\j<n):NZ n j=some j.toNat:=by
 unfold NZ;obtain⟨h1,h2⟩:=h;simp[h1,h2]
def DJ {α:Type}{f:α->D}{l:List α}{n:Int}{x:α}(h0:0<=n)(h:l[n.toNat]?=some x):dH (.lst (l.map f)) (.int n)=.ok (f x):=by
 have h1:=(z3.mp h).1;unfold dH;dsimp only;rw[oG (by rw[zc];omega),z7,h];rfl
def BN {cs:List Co}{i:Int}(h0:0<=i)(h1:i<cs.length):dH (.lst (cs.map cst)) (.int i)=.ok (cst (atC cs i)):=DJ h0 (DH h0 h1)
def Na {n:Nat}(c:Co):Pl (n+1) (cst c):=by
 cases c with
 |none=>exact nI
 |some p=>exact YR (LX (Gw _) (LX (Gw _) YS))
def VT (a b:Co):Bl (cst a) (cst b)=decide (a=b):=by
 rcases a with _|⟨a1,a2⟩<;>rcases b with _|⟨b1,b2⟩
 ·simp[cst,Bl]
 ·simp[cst,Bl]
 ·simp[cst,Bl]
 ·rw[zap];simp[cst,Bl,Cp]
def Qv (a b:Co):dG 16 (cst a) (cst b)=.ok (.bl (!decide (a=b))):=by rw[Ud (Na (n:=15) a) (Na (n:=15) b),VT]
def Qw (a b:Co):YE 16 (cst a) (cst b)=.ok (.bl (decide (a=b))):=by rw[Uc (Na (n:=15) a) (Na (n:=15) b),VT]
def VU (c:Co):Jh (cst c)=true:=by
 cases c<;>simp[cst,Jh,Ji]
def Qx (c:Co):dp (.ok (cst c))=.ok (cst c):=by
 unfold dp;rw[M.A9,if_pos (VU c)]
def Bf {a b:Int}(h:0<b):Fj (.int a) (.int b)=.ok (.int (a%b)):=by
 unfold Fj BF;dsimp only;rw[if_pos h]
def HQ {a b:Int}(h:Y9 a b):MM (.int a) (.int b)=.ok (.int (a / b)):=by
 unfold MM BF;dsimp only;rw[if_pos h]
inductive Wk (rs:List Road):Int->Int->Int×Int->Prop
 |nil (u:Int):Wk rs u u (0,0)
 |cons {r:Road} {l:Int} {w:Int} {c:Int×Int}:r∈rs->r.l=some l->Wk rs r.b w c->Wk rs r.a w (l+c.1,1+c.2)
def Wk.trans {rs:List Road}{u v w:Int}{c d:Int×Int}(h:Wk rs u v c)(k:Wk rs v w d):Wk rs u w (c.1+d.1,c.2+d.2):=by
 induction h with
 |nil u=>simpa using k
 |cons hr hl _ ih =>
  have:=Wk.cons hr hl (ih k);simpa [zb6] using this
def Wk.one {rs:List Road}{r:Road}{l:Int}(hr:r∈rs)(hl:r.l=some l):Wk rs r.a r.b (l,1):=by
 have:=Wk.cons hr hl (Wk.nil (rs:=rs) r.b);simpa using this
abbrev Bz (rs:List Road)(u w:Int)(x:Co):Prop:=(∀c,Wk rs u w c->BK x (some c))/\∀p,x=some p->Wk rs u w p
def Bz.Cg {rs:List Road}{u w:Int}{x y:Co}(h:Bz rs u w x)(k:Bz rs u w y):x=y:=by
 refine JW ?_ ?_
 ·cases y with
  |none=>cases x<;>exact trivial
  |some q=>exact h.1 q (k.2 q rfl)
 ·cases x with
  |none=>cases y<;>exact trivial
  |some q=>exact k.1 q (h.2 q rfl)
def JZ {r:Road}{c:Int×Int}(h:Cd r=some c):∃l,r.l=some l/\c=(l,1):=by
 unfold Cd at h;split at h
 ·cases h
 ·rename_i l e;cases h;exact⟨l,e,rfl⟩
def DU {a b:Co}{c:Int×Int}(h:Ah a b=some c):∃p q,a=some p/\b=some q/\c=(p.1+q.1,p.2+q.2):=by
 cases a with
 |none=>cases h
 |some p=>cases b with
  |none=>cases h
  |some q=>cases h;exact⟨p,q,rfl,rfl,rfl⟩
def Right.min_le {m s:Nat}{rs:List Road}{cs:List Co}(h:Right m s rs cs){r:Road}(hr:r∈rs)(Au:Gd m r):BK (atC cs r.b) (Ah (Cd r) (atC cs r.a)):=by
 obtain⟨h1,h2,h3,h4⟩:=h;by_cases hs:r.b=s
 ·rw[hs,h2];have hn:NN (Ah (Cd r) (atC cs r.a)):=N8 (VS Au) (h3 _ (zv (DH Au.a0 (by rw[h1];exact Au.a1))));cases q:Ah (Cd r) (atC cs r.a) with
  |none=>exact trivial
  |some p=>rw[q] at hn;simp only[NN] at hn;simp only[BK];omega
 ·rw[h4 r.b Au.b0 Au.b1 hs];exact Mn (zC.mpr ⟨r,yN.mpr ⟨hr,by simp⟩,rfl⟩)
def Xa {m s:Nat}{rs:List Road}{cs:List Co}(h:Right m s rs cs)(Au:∀r∈rs,Gd m r){u w:Int}{c:Int×Int}(k:Wk rs u w c):BK (atC cs w) (Ah (atC cs u) (some c)):=by
 induction k with
 |nil u =>
  cases atC cs u with
  |none=>exact trivial
  |some p=>simp only[Ah,BK];omega
 | @cons r l w c hr hl _ ih =>
  refine Ap ih ?_;have h1:=h.min_le hr (Au r hr);have e:Cd r=some (l,1):=by unfold Cd;rw[hl]
  rw[e] at h1;cases q:atC cs r.a with
  |none=>exact trivial
  |some p =>
   rw[q] at h1;cases q2:atC cs r.b with
   |none=>rw[q2] at h1;exact h1.elim
   |some p2=>rw[q2] at h1;simp only[Ah,BK] at *;omega
def Xb {m s:Nat}{rs:List Road}{cs:List Co}(h:Right m s rs cs)(Au:∀r∈rs,Gd m r):∀(n:Nat) (w:Int) (p:Int×Int),0<=w->w<m->atC cs w=some p->p.2.toNat=n->Wk rs s w p:=by
 obtain⟨h1,h2,h3,h4⟩:=h;intro n;induction n with
 |zero =>
  intro w p h0 hw hp hn;by_cases hs:w=s
  ·rw[hs,h2] at hp;cases hp;rw[hs];exact .nil _
  ·exfalso;have e:=h4 w h0 hw hs;rw[hp] at e;rcases JX ((rs.filter λ r=>decide (r.b=w)).map λ r=>Ah (Cd r) (atC cs r.a)) with z|z
   ·rw[z] at e;cases e
   ·rw[<-e] at z;obtain⟨r,hr,e2⟩:=zC.mp z;have bg:=(yN.mp hr).1;obtain⟨p1,p2,e3,e4,e5⟩:=DU e2;obtain⟨l,hl,rfl⟩:=JZ e3;have ok:=Au r bg;have nn:=h3 _ (zv (DH ok.a0 (by rw[h1];exact ok.a1)));rw[e4] at nn;simp only[NN] at nn;rw[e5] at hn;simp only at hn;omega
 |succ n ih =>
  intro w p h0 hw hp hn;by_cases hs:w=s
  ·rw[hs,h2] at hp;cases hp;rw[hs];exact .nil _
  ·have e:=h4 w h0 hw hs;rw[hp] at e;rcases JX ((rs.filter λ r=>decide (r.b=w)).map λ r=>Ah (Cd r) (atC cs r.a)) with z|z
   ·rw[z] at e;cases e
   ·rw[<-e] at z;obtain⟨r,hr,e2⟩:=zC.mp z;obtain⟨bg,pq⟩:=yN.mp hr;have pq:r.b=w:=by simpa using pq
    obtain⟨p1,p2,e3,e4,e5⟩:=DU e2;obtain⟨l,hl,rfl⟩:=JZ e3;have ok:=Au r bg;have nn:=h3 _ (zv (DH ok.a0 (by rw[h1];exact ok.a1)));rw[e4] at nn;simp only[NN] at nn;subst e5;simp only at hn;have w1:=ih r.a p2 ok.a0 ok.a1 e4 (by omega);have w2:=w1.trans (Wk.one bg hl);rw[pq] at w2;have e6:((l+p2.1,1+p2.2):Int×Int)=(p2.1+l,p2.2+1):=by rw[Int.add_comm l,Int.add_comm 1]
    show Wk rs s w (l+p2.1,1+p2.2);rw[e6];exact w2
def Right.ZE {m s:Nat}{rs:List Road}{cs:List Co}(h:Right m s rs cs)(Au:∀r∈rs,Gd m r){w:Int}(h0:0<=w)(hw:w<m):Bz rs s w (atC cs w):=by
 refine⟨λ c k=>?_,λ p hp=>Xb h Au _ w p h0 hw hp rfl⟩;have:=Xa h Au k;rw[h.2.1] at this;have e:Ah (some (0,0)) (some c)=some c:=by simp[Ah]
 rw[e] at this;exact this
def Up {a b c d:Co}(h:BK a b)(k:BK c d):BK (Ah a c) (Ah b d):=by
 refine Ap (C1 c h) ?_;rw[Bc b c,Bc b d];exact C1 b k
def De:∀a b c:Co,Ah (Ah a b) c=Ah a (Ah b c)
 |none,b,c=>by cases b<;>cases c<;>rfl
 |some p,none,c=>by cases c<;>rfl
 |some p,some q,none=>rfl
 |some p,some q,some r=>by simp only[Ah];rw[zb6,zb6]
def Pm:∀a:Co,Ah a (some (0,0))=a
 |none=>rfl
 |some p=>by simp[Ah]
def Pn (a:Co):Ah (some (0,0)) a=a:=by rw[Bc];exact Pm a
def Sn (a:Co):DF a a=a:=by rcases Bt a a with ⟨e,_⟩ | ⟨e,_⟩<;>exact e
def ZF {a b:Co}(h:NN b):BK a (Ah a b):=by
 cases a with
 |none=>exact trivial
 |some p=>cases b with
  |none=>exact trivial
  |some q=>simp only[NN] at h;simp only[Ah,BK];omega
structure FW (m k:Nat)(rs:List Road)(A:Int->Int->Co):Prop where
 dg:∀x:Int,0<=x->x<m->A x x=some (0,0)
 nn:∀x y:Int,0<=x->x<m->0<=y->y<m->NN (A x y)
 sd:∀x y:Int,0<=x->x<m->0<=y->y<m->∀p,A x y=some p->Wk rs x y p
 ed:∀r∈rs,BK (A r.a r.b) (Cd r)
 tr:∀v x y:Int,0<=v->v<k->0<=x->x<m->0<=y->y<m->BK (A x y) (Ah (A x v) (A v y))
abbrev over (k:Int)(A:Int->Int->Co):Int->Int->Co:=λ x y=>DF (A x y) (Ah (A x k) (A k y))
def So {m k:Nat}{rs:List Road}{A:Int->Int->Co}(F:FW m k rs A)(hk:k<m)(x:Int):over k A x k=A x k:=by
 unfold over;rw[F.dg k (by omega) (by omega),Pm,Sn]
def Sq {m k:Nat}{rs:List Road}{A:Int->Int->Co}(F:FW m k rs A)(hk:k<m)(y:Int):over k A k y=A k y:=by
 unfold over;rw[F.dg k (by omega) (by omega),Pn,Sn]
def ZG {m k:Nat}{rs:List Road}{A:Int->Int->Co}(F:FW m k rs A)(hk:k<m):FW m (k+1) rs (over k A):=by
 have k0:(0:Int)<=k:=by omega
 have k1:(k:Int)<m:=by omega
 refine⟨λ x h0 h1=>?_,λ x y h0 h1 h2 h3=>ZD (F.nn x y h0 h1 h2 h3) (N8 (F.nn x k h0 h1 k0 k1) (F.nn k y k0 k1 h2 h3)),λ x y h0 h1 h2 h3 p hp=>?_,λ r hr=>Ap (EE _ _) (F.ed r hr),λ v x y v0 v1 h0 h1 h2 h3=>?_⟩
 ·unfold over;rw[F.dg x h0 h1];have hn:NN (Ah (A x k) (A k x)):=N8 (F.nn x k h0 h1 k0 k1) (F.nn k x k0 k1 h0 h1);cases q:Ah (A x k) (A k x) with
  |none=>rfl
  |some z =>
   rw[q] at hn;simp only[NN] at hn;unfold DF kH;dsimp only;rw[if_pos (by omega)]
 ·unfold over at hp;rcases Bt (A x y) (Ah (A x k) (A k y)) with ⟨e,_⟩|⟨e,_⟩
  ·rw[e] at hp;exact F.sd x y h0 h1 h2 h3 p hp
  ·rw[e] at hp;obtain⟨p1,p2,e1,e2,rfl⟩:=DU hp;exact (F.sd x k h0 h1 k0 k1 p1 e1).trans (F.sd k y k0 k1 h2 h3 p2 e2)
 ·by_cases hv:v=k
  ·subst hv;rw[So F hk,Sq F hk];exact EF _ _
  ·have vk:v<k:=by omega
   have vm:v<m:=by omega
   have v4:=F.tr v x y v0 vk h0 h1 h2 h3;have v6:=F.tr v k y v0 vk k0 k1 h2 h3;have v7:=F.tr v x k v0 vk h0 h1 k0 k1;have g1:BK (over k A x y) (A x y):=EE _ _;have g2:BK (over k A x y) (Ah (A x k) (A k y)):=EF _ _;have v8:=F.nn k v k0 k1 v0 vm;have v9:=F.nn v k v0 vm k0 k1;have e1:over k A x v=DF (A x v) (Ah (A x k) (A k v)):=rfl;have e2:over k A v y=DF (A v y) (Ah (A v k) (A k y)):=rfl;rw[e1,e2];rcases Bt (A x v) (Ah (A x k) (A k v)) with ⟨e,_⟩|⟨e,_⟩<;>rcases Bt (A v y) (Ah (A v k) (A k y)) with ⟨e',_⟩|⟨e',_⟩<;>rw[e,e']
   ·exact Ap g1 v4
   ·refine Ap g2 ?_;rw[<-De];exact C1 _ v7
   ·refine Ap g2 ?_;rw[De,Bc (A x k),Bc (A x k)];exact C1 _ v6
   ·refine Ap g2 ?_;have e3:Ah (Ah (A x k) (A k v)) (Ah (A v k) (A k y))=Ah (Ah (A x k) (A k y)) (Ah (A k v) (A v k)):=by
     rw[De,De,<-De (A k v),Bc (Ah (A k v) (A v k))]
    rw[e3];exact ZF (N8 v8 v9)
def oH {m:Nat}{rs:List Road}{A:Int->Int->Co}(F:FW m m rs A)(Au:∀r∈rs,Gd m r){x y:Int}(h0:0<=x)(h1:x<m)(h2:0<=y)(h3:y<m):Bz rs x y (A x y):=by
 refine⟨λ c k=>?_,F.sd x y h0 h1 h2 h3⟩;induction k with
 |nil u=>rw[F.dg u h0 h1];exact Cc _
 | @cons r l w c hr hl k' ih =>
  have ok:=Au r hr;have i1:=ih ok.b0 ok.b1 h2 h3;have t:=F.tr r.b r.a w ok.b0 (by have:=ok.b1;omega) h0 h1 h2 h3;have e:=F.ed r hr;have e':Cd r=some (l,1):=by unfold Cd;rw[hl]
  rw[e'] at e;refine Ap t (Ap (Up e i1) ?_);exact Cc _
structure Nb (m:Nat)(rs:List Road)(u:Int)(n:Nat)(R:List Co):Prop where
 len:R.length=m
 st:atC R u=some (0,0)
 nn:∀c∈R,NN c
 sd:∀y:Int,0<=y->y<m->∀p,atC R y=some p->Wk rs u y p
 ed:∀r∈rs.take n,r.a=u->BK (atC R r.b) (Cd r)
def Xc {m u:Nat}(rs:List Road)(h:u<m):Nb m rs u 0 ((zr m none).set u (some (0,0))):=by
 have g:=N9 (m:=m) (s:=u) rs h;refine⟨g.len,g.st,g.nn,λ y h0 h1 p hp=>?_,λ r hr=>by rw[List.take_zero] at hr;cases hr⟩;by_cases hy:y=u
 ·rw[hy,g.st] at hp;cases hp;rw[hy];exact .nil _
 ·have:=HP (cs:=zr m none) (i:=(u:Int)) (j:=y) (v:=some (0,0)) (by omega) h0 (by rw[zb0];omega);rw[yO,if_neg hy] at this;rw[this] at hp;unfold atC at hp;rw[zx,zaa] at hp;split at hp<;>cases hp
def ZH {m:Nat}{rs:List Road}{u:Int}{n:Nat}{R:List Co}{r:Road}(g:Nb m rs u n R)(hr:rs[n]?=some r)(hu:r.a≠u):Nb m rs u (n+1) R:=
 ⟨g.len,g.st,g.nn,g.sd,λ r' aU ai=>by
  rw[zV,hr] at aU;rcases zy.mp aU with h|h
  ·exact g.ed r' h ai
  ·have:r'=r:=by simpa using h
   rw[this] at ai;exact (hu ai).elim⟩
def ZI {m:Nat}{rs:List Road}{u:Int}{n:Nat}{R:List Co}{r:Road}(g:Nb m rs u n R)(hr:rs[n]?=some r)(hu:r.a=u)(Au:∀r∈rs,Gd m r):Nb m rs u (n+1) (R.set r.b.toNat (DF (atC R r.b) (Cd r))):=by
 have hm:=zv hr;have ok:=Au r hm;have br:r.b<R.length:=by rw[g.len];exact ok.b1
 have aT:∀i:Int,0<=i->atC (R.set r.b.toNat (DF (atC R r.b) (Cd r))) i=if i=r.b then DF (atC R r.b) (Cd r) else atC R i:=λ i hi=>HP ok.b0 hi br
 have nb:NN (atC R r.b):=g.nn _ (zv (DH ok.b0 br));refine⟨by rw[yS];exact g.len,?_,λ c hc=>?_,λ y h0 h1 p hp=>?_,λ r' aU ai=>?_⟩
 ·rw[aT u (by rw[<-hu];exact ok.a0)];by_cases h:u=r.b
  ·rw[if_pos h,<-h,g.st];have hx:=VS ok;cases q:Cd r with
   |none=>rfl
   |some z =>
    rw[q] at hx;simp only[NN] at hx;unfold DF kH;dsimp only;rw[if_pos (by omega)]
  ·rw[if_neg h];exact g.st
 ·rcases zb7 hc with h|h
  ·exact g.nn c h
  ·rw[h];exact ZD nb (VS ok)
 ·rw[aT y h0] at hp;by_cases h:y=r.b
  ·rw[if_pos h] at hp;rcases Bt (atC R r.b) (Cd r) with ⟨e,_⟩|⟨e,_⟩
   ·rw[e] at hp;rw[h];exact g.sd r.b ok.b0 ok.b1 p hp
   ·rw[e] at hp;obtain⟨l,hl,rfl⟩:=JZ hp;rw[h,<-hu];exact Wk.one hm hl
  ·rw[if_neg h] at hp;exact g.sd y h0 h1 p hp
 ·have pw:r'∈rs:=yK aU;rw[aT r'.b (Au r' pw).b0];rw[zV,hr] at aU;rcases zy.mp aU with h|h
  ·by_cases hb:r'.b=r.b
   ·rw[if_pos hb];have:=g.ed r' h ai;rw[hb] at this;exact Ap (EE _ _) this
   ·rw[if_neg hb];exact g.ed r' h ai
  ·have e:r'=r:=by simpa using h
   rw[e,if_pos rfl];exact EF _ _
abbrev at2 (aa:List (List Co))(x y:Int):Co:=atC (aa.getD x.toNat []) y
abbrev Al (aa:List (List Co)):List (List D):=aa.map λ R=>R.map cst
structure LQ (m:Nat)(aa:List (List Co)):Prop where
 len:aa.length=m
 row:∀R∈aa,R.length=m
def LQ.get {m:Nat}{aa:List (List Co)}(h:LQ m aa){x:Int}(h0:0<=x)(h1:x<m):aa[x.toNat]?=some (aa.getD x.toNat [])/\(aa.getD x.toNat []).length=m:=by
 have hl:x.toNat<aa.length:=by rw[h.len];omega
 have e:aa[x.toNat]?=some (aa.getD x.toNat []):=by rw[zx,zi hl];rfl
 exact⟨e,h.row _ (zv e)⟩
abbrev put2 (aa:List (List Co))(x y:Int)(v:Co):List (List Co):=aa.set x.toNat ((aa.getD x.toNat []).set y.toNat v)
def LQ.put {m:Nat}{aa:List (List Co)}(h:LQ m aa){x y:Int}(h0:0<=x)(h1:x<m)(h2:0<=y)(h3:y<m)(v:Co):LQ m (put2 aa x y v)/\∀x' y':Int,0<=x'->0<=y'->at2 (put2 aa x y v) x' y'=if x'=x/\y'=y then v else at2 aa x' y':=by
 obtain⟨e,hl⟩:=h.get h0 h1;refine⟨⟨by unfold put2;rw[yS];exact h.len,λ R hR=>?_⟩,λ x' y' hx hy=>?_⟩
 ·unfold put2 at hR;rcases zb7 hR with z|z
  ·exact h.row R z
  ·rw[z,yS];exact hl
 ·unfold at2 put2;by_cases ss:x'=x
  ·subst ss;have e2:(aa.set x'.toNat ((aa.getD x'.toNat []).set y.toNat v)).getD x'.toNat []=(aa.getD x'.toNat []).set y.toNat v:=by
    rw[zx (l:=aa.set _ _),zN (by rw[h.len];omega)];rfl
   rw[e2,HP h2 hy (by rw[hl];exact h3)];by_cases li:y'=y
   ·rw[if_pos li,if_pos ⟨rfl,li⟩]
   ·rw[if_neg li,if_neg (λ z=>li z.2)]
  ·have e2:(aa.set x.toNat ((aa.getD x.toNat []).set y.toNat v)).getD x'.toNat []=aa.getD x'.toNat []:=by
    rw[zx,yV (by omega),zx]
   rw[e2,if_neg (λ z=>ss z.1)]
def Sr {m:Nat}{aa:List (List Co)}(h:LQ m aa){x:Int}(h0:0<=x)(h1:x<m):rowAt (Al aa) (.int x)=.ok ((aa.getD x.toNat []).map cst):=by
 obtain⟨e,hl⟩:=h.get h0 h1;have e1:NZ (Al aa).length x=some x.toNat:=Mo ⟨h0,by unfold Al;rw[zc,h.len];exact h1⟩;have e2:(Al aa)[x.toNat]?=some ((aa.getD x.toNat []).map cst):=by unfold Al;rw[z7,e];rfl
 unfold rowAt;simp only[e1,e2]
def iO {m:Nat}{aa:List (List Co)}(h:LQ m aa){x y:Int}(h0:0<=x)(h1:x<m)(h2:0<=y)(h3:y<m):dH (.lst ((aa.getD x.toNat []).map cst)) (.int y)=.ok (cst (at2 aa x y)):=
 BN h2 (by rw[(h.get h0 h1).2];exact h3)
def iP {m:Nat}{aa:List (List Co)}(h:LQ m aa){x y:Int}(h0:0<=x)(h1:x<m)(h2:0<=y)(h3:y<m)(i:Nat)(ρ:Ad)(v:Co):fS i ρ (Al aa) (cst v) (.int x) ((aa.getD x.toNat []).map cst) (.int y)=.ok (.next (ρ.set i (some (.ow (.rows (Al (put2 aa x y v))))))):=by
 have e1:NZ (Al aa).length x=some x.toNat:=Mo ⟨h0,by unfold Al;rw[zc,h.len];exact h1⟩;have e2:NZ ((aa.getD x.toNat []).map cst).length y=some y.toNat:=Mo ⟨h2,by rw[zc,(h.get h0 h1).2];exact h3⟩;unfold fS;simp only[e1,e2];unfold Al put2;rw[List.map_set,List.map_set]
def FW.congr {m k:Nat}{rs:List Road}{A B:Int->Int->Co}(F:FW m k rs A)(hk:k<=m)(Au:∀r∈rs,Gd m r)(h:∀x y:Int,0<=x->x<m->0<=y->y<m->B x y=A x y):FW m k rs B:=by
 refine⟨λ x h0 h1=>?_,λ x y h0 h1 h2 h3=>?_,λ x y h0 h1 h2 h3 p hp=>?_,λ r hr=>?_,λ v x y v0 v1 h0 h1 h2 h3=>?_⟩
 ·rw[h x x h0 h1 h0 h1];exact F.dg x h0 h1
 ·rw[h x y h0 h1 h2 h3];exact F.nn x y h0 h1 h2 h3
 ·rw[h x y h0 h1 h2 h3] at hp;exact F.sd x y h0 h1 h2 h3 p hp
 ·have ok:=Au r hr;rw[h r.a r.b ok.a0 ok.a1 ok.b0 ok.b1];exact F.ed r hr
 ·rw[h x y h0 h1 h2 h3,h x v h0 h1 v0 (by omega),h v y v0 (by omega) h2 h3];exact F.tr v x y v0 v1 h0 h1 h2 h3
def ZJ {m:Nat}{rs:List Road}{aa:List (List Co)}(hM:LQ m aa)(Au:∀r∈rs,Gd m r)(h:∀u:Nat,u<m->Nb m rs u rs.length (aa.getD u [])):FW m 0 rs (at2 aa):=by
 have key:∀x:Int,0<=x->x<m->Nb m rs x rs.length (aa.getD x.toNat []):=λ x h0 h1=>by
  have:=h x.toNat (by omega);rw[Int.toNat_of_nonneg h0] at this;exact this
 refine⟨λ x h0 h1=>(key x h0 h1).st,λ x y h0 h1 h2 h3=>(key x h0 h1).nn _ (zv (DH h2 (by rw[(key x h0 h1).len];exact h3))),λ x y h0 h1 h2 h3 p hp=>(key x h0 h1).sd y h2 h3 p hp,λ r hr=>?_,λ v x y v0 v1=>by omega⟩;have ok:=Au r hr;exact (key r.a ok.a0 ok.a1).ed r (by rw[zU];exact hr) rfl
abbrev hit (rs:List Road)(cs:List Co)(p:Nat)(k:Nat):Bool:=match rs[k]? with
 |some r=>decide (r.b=(p:Int))&&decide (Ah (atC cs r.a) (Cd r)≠none)&&decide (Ah (atC cs r.a) (Cd r)=atC cs (p:Int))
 |none=>false
def Wk.nn {m:Nat}{rs:List Road}(Au:∀r∈rs,Gd m r){u w:Int}{c:Int×Int}(h:Wk rs u w c):0<=c.1/\0<=c.2:=by
 induction h with
 |nil=>exact⟨Int.le_refl _,Int.le_refl _⟩
 |cons hr hl _ ih =>
  have:=(Au _ hr).l0 _ hl;simp only;omega
abbrev pD (p:Int×Int):D:=.tup [.int p.1,.int p.2]
def GN (p q:Int×Int):Bl (pD p) (pD q)=decide (p=q):=by
 obtain⟨a,b⟩:=p;obtain⟨c,d⟩:=q;unfold pD;simp only[Bl,Cp,Bool.and_true];rw[zap];simp
def GO (p:Int×Int):keyOk true (pD p)=true:=rfl
def VW (B:List (Int×Int))(p:Int×Int):LO (B.map pD) (pD p)=decide (p∈B):=by
 unfold LO;rw[List.any_map,zap];simp only[zbb,Function.comp,GN,decide_eq_true_eq];constructor
 ·rintro ⟨x,hx,rfl⟩;exact hx
 ·intro h;exact⟨p,h,rfl⟩
def Qy (B:List (Int×Int))(vs:List D)(neg:Bool)(a b:Int):Jo neg (.tup [.int a,.int b]) (.Bq true (B.map pD) vs)=.ok (.bl (if neg=true then !decide ((a,b)∈B) else decide ((a,b)∈B))):=by
 unfold Jo;dsimp only;have h1:keyOk true (D.tup [D.int a,D.int b])=true:=rfl;have h2:LO (B.map pD) (D.tup [D.int a,D.int b])=decide ((a,b)∈B):=VW B (a,b);rw[if_pos h1,h2]
abbrev KN (B:List (Int×Int))(p:Int×Int):List (Int×Int):=if p∈B then B else B++[p]
abbrev D5 {α:Type}(B:List α):List D:=B.map λ _=>.bl true
def Po {α:Type}(f:α->D)(y:D):∀B:List α,II (B.map f) (D5 B) y (.bl true)=D5 B
 |[]=>rfl
 |b::r=>by
  show II (f b::r.map f) (.bl true::D5 r) y (.bl true)=.bl true::D5 r;rw[II,Po f y r];split<;>rfl
def VX (B:List (Int×Int))(p:Int×Int):putD (B.map pD) (D5 B) (pD p) (.bl true)=((KN B p).map pD,D5 (KN B p)):=by
 unfold putD KN;rw[VW];by_cases h:p∈B
 ·rw[decide_eq_true h,if_pos rfl,if_pos h,Po]
 ·rw[decide_eq_false h,if_neg (by simp),if_neg h];unfold D5;simp
def Ss {B:List (Int×Int)}{p q:Int×Int}:q∈KN B p↔q∈B\/q=p:=by
 unfold KN;split
 ·constructor
  ·exact .inl
  ·rintro (h|rfl)
   ·exact h
   ·assumption
 ·simp
def Uq {B:List (Int×Int)}{p:Int×Int}(h:B.Nodup):(KN B p).Nodup:=by
 unfold KN;split
 ·exact h
 ·rename_i hn;exact z9.mpr ⟨h,by simp,λ a ha b hb z=>by simp at hb;subst hb;subst z;exact hn ha⟩
def KO {α:Type}[DecidableEq α]:∀ {l u:List α},l.Nodup->(∀x∈l,x∈u)->l.length<=u.length
 |[],_,_,_=>zR _
 |x::r,u,nd,h=>by
  have aS:=zW.mp nd;have hx:=h x zd;have ih:=KO (l:=r) (u:=u.erase x) aS.2 λ y hy=>(List.mem_erase_of_ne (λ z=>aS.1 (by rw[<-z];exact hy))).mpr (h y (ze _ hy));have e:=List.length_erase_of_mem hx;have:0<u.length:=List.length_pos_of_mem hx;rw[zj];omega
def ZK (p:Int×Int):Jh (pD p)=true:=by simp[pD,Jh,Ji]
abbrev AW (m:Nat):List Int:=(zw m).map λ i:Nat=>(i:Int)
def Nc (m:Nat):((zw m).map λ i:Nat=>D.int (i:Int))=(AW m).map D.int:=by unfold AW;rw[zT];rfl
def F4 (m:Nat):(AW m).length=m:=by unfold AW;simp
def GP {m:Nat}{p:Int}:p∈AW m↔0<=p/\p<m:=by
 unfold AW;constructor
 ·intro h;obtain⟨i,hi,rfl⟩:=zC.mp h;have:=zac.mp hi;omega
 ·rintro ⟨h0,h1⟩;exact zC.mpr ⟨p.toNat,zac.mpr (by omega),by omega⟩
abbrev B8 (B:List (Int×Int))(L:List Int)(v:Int):List (Int×Int):=(L.filter λ u=>decide ((u,v)∈B)).flatMap λ u=>((L.filter λ w=>decide ((v,w)∈B)).filter λ w=>decide (u≠w) && !decide ((u,w)∈B)).map λ w=>(u,w)
abbrev oI (B:List (Int×Int)):Prop:=∀x,(x,x)∉B
def Xd (B:List (Int×Int))(L:List Int)(v:Int):(B8 B L v).length<=L.length*L.length:=by
 unfold B8;rw[List.length_flatMap];have key:∀l:List Int,(l.map λ u=>(((L.filter λ w=>decide ((v,w)∈B)).filter λ w=>decide (u≠w) && !decide ((u,w)∈B)).map λ w=>(u,w)).length).sum<=l.length*L.length:=by
  intro l;induction l with
  |nil=>simp
  |cons u r ih =>
   rw[zf,List.sum_cons,zj,Nat.succ_mul];have:(((L.filter λ w=>decide ((v,w)∈B)).filter λ w=>decide (u≠w) && !decide ((u,w)∈B)).map λ w=>(u,w)).length<=L.length:=by
    rw[zc];exact yJ (zb1 _ _) (zb1 _ _)
   omega
 exact yJ (key _) (Nat.mul_le_mul_right _ (zb1 _ _))
def Pp {α:Type}(f:α->List Int):∀l:List α,Gu (l.map λ x=>D.tup ((f x).map D.int))=some (l.map λ x=>(D.tup ((f x).map D.int),f x))
 |[]=>rfl
 |x::r=>by
  rw[zf,Gu,Pp f r];simp[YN,EZ]
def Pq {B:List (Int×Int)}{L:List Int}{v:Int}{p:Int×Int}(h:p∈B8 B L v):p.1∈L/\p.2∈L/\p.1≠p.2:=by
 unfold B8 at h;obtain⟨u,hu,h⟩:=List.mem_flatMap.mp h;obtain⟨w,hw,rfl⟩:=zC.mp h;have h1:=yN.mp hw;have h2:=yN.mp h1.1;have h3:=yN.mp hu;simp at h1;exact⟨h3.1,h2.1,h1.2.1⟩
abbrev Cs (B ps:List (Int×Int)):List (Int×Int):=ps.foldl KN B
structure Ct (m:Nat)(B:List (Int×Int)):Prop where
 nd:B.Nodup
 no:oI B
 xI:∀p∈B,(0<=p.1/\p.1<m)/\(0<=p.2/\p.2<m)
def Ct.add {m:Nat}{B:List (Int×Int)}(h:Ct m B){p:Int×Int}(hp:p.1≠p.2)(h1:0<=p.1/\p.1<m)(h2:0<=p.2/\p.2<m):Ct m (KN B p):=by
 refine⟨Uq h.nd,λ x hx=>?_,λ q hq=>?_⟩
 ·rcases Ss.mp hx with z|z
  ·exact h.no x z
  ·subst z;exact hp rfl
 ·rcases Ss.mp hq with z|z
  ·exact h.xI q z
  ·subst z;exact⟨h1,h2⟩
def Ct.Cs {m:Nat}{B:List (Int×Int)}(h:Ct m B):∀ {ps:List (Int×Int)},(∀p∈ps,p.1≠p.2/\(0<=p.1/\p.1<m)/\(0<=p.2/\p.2<m))->Ct m (L2.Cs B ps):=by
 intro ps;induction ps generalizing B with
 |nil=>intro _;exact h
 |cons p r ih =>
  intro hp;have:=hp p zd;exact ih (h.add this.1 this.2.1 this.2.2) λ q hq=>hp q (ze _ hq)
def Ct.len {m:Nat}{B:List (Int×Int)}(h:Ct m B)(hm:m<=20):B.length<1000:=by
 have key:=KO (l:=B) (u:=(zw m).flatMap λ i:Nat=>(zw m).map λ j:Nat=>((i:Int),(j:Int))) h.nd λ p hp=>by
  obtain⟨h1,h2⟩:=h.xI p hp;refine List.mem_flatMap.mpr ⟨p.1.toNat,zac.mpr (by omega),zC.mpr ⟨p.2.toNat,zac.mpr (by omega),?_⟩⟩;rw[Int.toNat_of_nonneg h1.1,Int.toNat_of_nonneg h2.1]
 have e:((zw m).flatMap λ i:Nat=>(zw m).map λ j:Nat=>((i:Int),(j:Int))).length=m*m:=by
  rw[List.length_flatMap];simp[List.map_const',List.sum_replicate_nat]
 rw[e] at key;have:m*m<=20*20:=Nat.mul_le_mul hm hm;omega
def EM (a b c d:Int):HT.lexLt [a,b] [c,d]=decide (a<c\/(a=c/\b<d)):=by
 rw[HT.Fh,HT.Fh,HT.EI,zap];by_cases h1:a=c
 ·subst h1;by_cases h2:b=d
  ·subst h2;simp
  ·simp[h2]
 ·simp[h1]
def Xe {α β:Type}(f:α->β):∀bs:List (α×List Int),Ba (bs.map λ b=>(f b.1,b.2))=(Ba bs).map λ b=>(f b.1,b.2):=by
 intro bs;unfold Ba
 suffices z:∀o:Option (α×List Int),(bs.map λ b=>(f b.1,b.2)).foldl BU (o.map λ b=>(f b.1,b.2))=(bs.foldl BU o).map λ b=>(f b.1,b.2) from z none
 induction bs with
 |nil=>intro o;rfl
 |cons b r ih =>
  intro o;rw[zf,zB,zB,<-ih];congr 1;cases o with
  |none=>rfl
  |some c =>
   unfold BU;dsimp only [zae];split<;>rfl
def ZL {α:Type}:∀(bs:List (α×List Int)) (o:Option (α×List Int)) (b:α×List Int),bs.foldl BU o=some b->b∈bs\/o=some b:=by
 intro bs;induction bs with
 |nil=>intro o b h;exact .inr h
 |cons x r ih =>
  intro o b h;rw[zB] at h;rcases ih _ _ h with q|q
  ·exact .inl (ze _ q)
  ·cases o with
   |none=>cases q;exact .inl zd
   |some c =>
    unfold BU at q;dsimp only at q;split at q
    ·cases q;exact .inl zd
    ·exact .inr q
def Xf {α:Type}{bs:List (α×List Int)}(h2:∀b∈bs,∃x y:Int,b.2=[x,y]){b:α×List Int}(hb:Ba bs=some b):∀c∈bs,HT.lexLt c.2 b.2=false:=by
 unfold Ba at hb
 suffices z:∀(bs:List (α×List Int)) (o:Option (α×List Int)),(∀b∈bs,∃x y:Int,b.2=[x,y])->(∀b,o=some b->∃x y:Int,b.2=[x,y])->∀b,bs.foldl BU o=some b->(∀c∈bs,HT.lexLt c.2 b.2=false)/\(∀c,o=some c->HT.lexLt c.2 b.2=false) from (z bs none h2 (λ b h=>by cases h) b hb).1
 intro bs;induction bs with
 |nil =>
  intro o _ ho b h;refine⟨λ c hc=>(by cases hc),λ c hc=>?_⟩;have e:o=some b:=h;rw[hc] at e;cases e;obtain⟨x,y,e⟩:=ho _ hc;rw[e,EM];simp
 |cons d r ih =>
  intro o h2 ho b h;rw[zB] at h;have hd:=h2 d zd;have aJ:∀b,BU o d=some b->∃x y:Int,b.2=[x,y]:=λ b hb=>by
   unfold BU at hb;cases o with
   |none=>cases hb;exact hd
   |some c =>
    dsimp only at hb;split at hb
    ·cases hb;exact hd
    ·cases hb;exact ho _ rfl
  obtain⟨i1,i2⟩:=ih (BU o d) (λ c hc=>h2 c (ze _ hc)) aJ b h;have wa:=Iy o d;obtain⟨k,hk⟩:∃k,BU o d=some k:=by
   cases q:BU o d with
   |none=>exact (wa q).elim
   |some k=>exact⟨k,rfl⟩
  have wb:=i2 k hk;obtain⟨kx,ky,ek⟩:=aJ k hk;have fb:∃x y:Int,b.2=[x,y]:=by
   have:=ZL r (BU o d) b h;rcases this with z|z
   ·exact h2 b (ze _ z)
   ·exact aJ b z
  obtain⟨bx,yx,eb⟩:=fb;obtain⟨dx,dy,ed⟩:=hd;rw[ek,eb,EM,decide_eq_false_iff_not] at wb;have ca:HT.lexLt d.2 b.2=false/\∀c,o=some c->HT.lexLt c.2 b.2=false:=by
   unfold BU at hk;cases o with
   |none =>
    cases hk;rw[ed] at ek;injection ek with e1 e2
    injection e2 with e2 _
    refine⟨?_,λ c hc=>by cases hc⟩;rw[ed,eb,EM,decide_eq_false_iff_not];omega
   |some c =>
    obtain⟨cx,cy,ec⟩:=ho c rfl;dsimp only at hk;rw[ed,ec,EM] at hk;by_cases hl:dx<cx\/(dx=cx/\dy<cy)
    ·rw[if_pos (decide_eq_true hl)] at hk;cases hk;rw[ed] at ek;injection ek with e1 e2
     injection e2 with e2 _
     refine⟨?_,λ c' aY=>?_⟩
     ·rw[ed,eb,EM,decide_eq_false_iff_not];omega
     ·cases aY;rw[ec,eb,EM,decide_eq_false_iff_not];omega
    ·rw[if_neg (by simpa using hl)] at hk;cases hk;rw[ec] at ek;injection ek with e1 e2
     injection e2 with e2 _
     refine⟨?_,λ c' aY=>?_⟩
     ·rw[ed,eb,EM,decide_eq_false_iff_not];omega
     ·cases aY;rw[ec,eb,EM,decide_eq_false_iff_not];omega
  refine⟨λ c hc=>?_,ca.2⟩;rcases zp.mp hc with z|z
  ·rw[z];exact ca.1
  ·exact i1 c z
abbrev Br (B:List (Int×Int))(L:List Int):Int:=match Ba (L.map λ p=>(p,[((B8 B L p).length:Int),p])) with
 |some k=>k.1
 |none=>0
def Pr {B:List (Int×Int)}{L:List Int}(h:L≠[]):Br B L∈L/\∀p∈L,¬ (((B8 B L p).length:Int)<(B8 B L (Br B L)).length\/(((B8 B L p).length:Int)=(B8 B L (Br B L)).length/\p<Br B L)):=by
 unfold Br;cases q:Ba (L.map λ p=>(p,[((B8 B L p).length:Int),p])) with
 |none=>exact (MJ (λ z=>h (List.map_eq_nil_iff.mp z)) q).elim
 |some k =>
  obtain⟨p,hp,rfl⟩:=zC.mp (OO _ _ q);refine⟨hp,λ p' i5=>?_⟩;have:=Xf (λ b hb=>by obtain⟨x,_,rfl⟩:=zC.mp hb;exact⟨_,_,rfl⟩) q _ (zC.mpr ⟨p',i5,rfl⟩);rw[EM,decide_eq_false_iff_not] at this;exact this
abbrev Qz:Nat->List (Int×Int)->List Int->List Int
 |0,_,_=>[]
 |n+1,B,L=>if L=[] then [] else Br B L::Qz n (Cs B (B8 B L (Br B L))) (L.erase (Br B L))
abbrev Bn (rs:List Road):List (Int×Int):=rs.foldl (λ B r=>match r.l with | none=>B | some _=>KN B (r.a,r.b)) []
def Su {m:Nat}:∀ {rs:List Road},(∀r∈rs,Gd m r/\r.a≠r.b)->Ct m (Bn rs):=by
 intro rs
 suffices z:∀(rs:List Road) (B:List (Int×Int)),Ct m B->(∀r∈rs,Gd m r/\r.a≠r.b)->Ct m (rs.foldl (λ B r=>match r.l with|none=>B|some _=>KN B (r.a,r.b)) B) from λ h=>z rs [] ⟨yY,λ x h=>(by cases h),λ p h=>(by cases h)⟩ h
 intro rs;induction rs with
 |nil=>intro B h _;exact h
 |cons r t ih =>
  intro B h hr;rw[zB];refine ih _ ?_ λ r' h'=>hr r' (ze _ h');have:=hr r zd;cases r.l with
  |none=>exact h
  |some l=>exact h.add this.2 ⟨this.1.a0,this.1.a1⟩ ⟨this.1.b0,this.1.b1⟩
def F5 {f:Int->Int->M D}{a b:Int}:BF f (.int a) (.int b)=f a b:=rfl
def GQ {bs:List Bool}:WK [.lst (bs.map D.bl)]=.ok (.bl (bs.all id)):=by unfold WK;dsimp only;rw[MT]
def K1 {bs:List Bool}:Z3 [.lst (bs.map D.bl)]=.ok (.bl (bs.any id)):=by unfold Z3;dsimp only;rw[MT]
def iQ {a b:List D}(h:a.length+b.length<=1000):S2 (.lst a) (.lst b)=.ok (.lst ((a++b).map .sh)):=if_pos h
def Sv (m:Nat):(AW m).Pairwise (·<=·):=by
 unfold AW;rw[List.pairwise_map];exact (List.pairwise_lt_range (n:=m)).imp λ h=>by omega
def Nd (m:Nat):(AW m).Nodup:=by
 unfold AW List.Nodup;rw[List.pairwise_map];exact (List.pairwise_lt_range (n:=m)).imp λ h=>by omega
def Xg {m:Nat}{L:List Int}:GG L=AW m↔L.Perm (AW m):=
 ⟨λ h=>by rw[<-h];exact (Ei L).symm,λ h=>GH ((Ei L).trans h) (Ft L) (Sv m)⟩
def F6 {m:Nat}{L:List Int}(h:L.Perm (AW m)):L.length=m:=by rw[h.length_eq,F4]
def AZ {m:Nat}{L:List Int}(h:L.Perm (AW m)){p:Int}:p∈L↔0<=p/\p<m:=by rw[h.mem_iff,GP]
def Fv {m:Nat}{L:List Int}(h:L.Perm (AW m)):L.Nodup:=h.nodup_iff.mpr (Nd m)
def Pt:∀ {a b:List Int},Cp (a.map D.int) (b.map D.int)=decide (a=b)
 |[],[]=>by simp[Cp]
 |[],y::t=>by simp[Cp]
 |x::r,[]=>by simp[Cp]
 |x::r,y::t=>by
  rw[zf,zf,Cp,Pt,Bl];by_cases h:x=y<;>by_cases k:r=t<;>simp[h,k]
def ZM {a b:List Int}:Bl (.lst (a.map D.int)) (.lst (b.map D.int))=decide (a=b):=by rw[Bl];exact Pt
def Sw {a b:List Int}:YE 16 (.lst (a.map D.int)) (.lst (b.map D.int))=.ok (.bl (decide (a=b))):=by rw[Uc (Vp (n:=15) a) (Vp (n:=15) b),ZM]
def Xh {i:Nat}{L:List Int}(h:L.Perm (AW i))(n:Nat):(L.take n++(i:Int)::L.drop n).Perm (AW (i+1)):=by
 have e:AW (i+1)=AW i++[(i:Int)]:=by unfold AW;rw[List.range_succ,z4];rfl
 rw[e];refine List.perm_middle.trans ?_;rw[za6];exact ((h.cons _).trans (List.perm_append_singleton _ _).symm)
def K2 {i:Nat}{ρ:Ad}{ds:List D}{d:D}{p:Int}(hi:ρ[i]?=some (some (.own ds)))(h0:0<=p)(h1:p<ds.length):fL i ρ (.ok (.int p)) d=.ok (.next (ρ.set i (some (.own (ds.set p.toNat d))))):=by
 unfold fL;rw[hi];dsimp only;rw[M.A9];unfold nK;dsimp only;rw[Mo ⟨h0,h1⟩]
def iR {ρ:Ad}:Z7 0 (none::ρ)=none::ρ:=rfl
def ZN:∃T Q:Int,Wz (.int 10) (.int 60)=.ok (.int T)/\Wz (.int 982451653) (.int 7)=.ok (.int Q)/\1000000<T/\T.natAbs<2^200/\0<Q/\Q.natAbs<2^250:=⟨10^60,982451653^7,rfl,rfl,by decide,by decide,by decide,by decide⟩
abbrev O1:Int:=zh ZN
def kJ:∃Q:Int,Wz (.int 10) (.int 60)=.ok (.int O1)/\Wz (.int 982451653) (.int 7)=.ok (.int Q)/\1000000<O1/\O1.natAbs<2^200/\0<Q/\Q.natAbs<2^250:=zb ZN
def kK:Wz (.int 10) (.int 60)=.ok (.int O1):=(zb kJ).1
def QA:1000000<O1:=(zb kJ).2.2.1
def iS {i:Int}:Fj (.int i) (.int O1)=.ok (.int (i%O1)):=Bf (by have:=QA;omega)
abbrev cl:Nat->D->Prop
 |0,d=>sF d=false
 |n+1,d=>sF d=false/\∀ds,(d=.tup ds\/d=.lst ds)->∀e∈ds,cl n e
structure GR (m:Nat)(r:Road):Prop where
 a0:0<=r.a
 a1:r.a<m
 b0:0<=r.b
 b1:r.b<m
 ab:r.a≠r.b
 l0:∀l,r.l=some l->0<=l/\l<O1
 w0:0<=r.w
 w1:r.w<O1
def ZO {S:List D}{q:Int}(h:0<S.length)(h0:0<=q):Fj (.int q) (.int (S.length:Int))=.ok (.int (q%S.length))/\∃y,y∈S/\AY (.lst S) (.int (q%(S.length:Int)))=.ok y:=by
 have bE:(0:Int)<(S.length:Int):=by omega
 have b0:0<=q%(S.length:Int):=zb3 _ (by omega);have b1:q%(S.length:Int)<S.length:=zaz _ bE;refine⟨Bf bE,S[(q%(S.length:Int)).toNat]'(by omega),zba _,?_⟩;have:=DJ (f:=λ d:D=>d) (l:=S) b0 (zi (by omega));rw[List.map_id'] at this;exact this
def iT {a b:OT}:er (.tup [a,b])=.tup [er a,er b]:=by simp[er,OP]
section
variable {α β:Type}{a b c d e f g:α}{x y:β}
def iU:(if [a,b,c,d,e].length<=1000 then x else y)=x:=rfl
def iV:(if [a,b,c,d,e,f].length<=1000 then x else y)=x:=rfl
def iW:(if [a,b,c,d,e,f,g].length<=1000 then x else y)=x:=rfl
def Mp {t:Bool}:er (.Bq t [] [])=.Bq t [] []:=by simp[er,OP]
end
structure Tz (m:Nat)(rs:List Road)(rk:Int->Nat)(Af:Int->Int->Co):Prop where
 snd:∀x y c,Af x y=some c->Wk rs x y c/\x≠y/\(0<=x/\x<m)/\0<=y/\y<m
 road:∀r∈rs,BK (Af r.a r.b) (Cd r)
 xJ:∀p x y,x≠y->rk p<rk x->rk p<rk y->BK (Af x y) (Ah (Af x p) (Af p y))
 inj:∀x y:Int,0<=x->x<m->0<=y->y<m->rk x=rk y->x=y
 nn:∀x y c,Wk rs x y c->0<=c.1/\0<=c.2
inductive Oc (Af:Int->Int->Co) (rk:Int->Nat) (s:Int):Int->Int×Int->Prop
 |nil:Oc Af rk s s (0,0)
 |snoc {x y:Int} {c d:Int×Int}:Oc Af rk s x c->rk x<rk y->Af x y=some d->Oc Af rk s y (c.1+d.1,c.2+d.2)
inductive Sx (Af:Int->Int->Co) (rk:Int->Nat) (t:Int):Nat->Int->Int×Int->Prop
 |nil:Sx Af rk t 0 t (0,0)
 |snoc {n:Nat} {x y:Int} {c d:Int×Int}:Sx Af rk t n x c->rk y<rk x->Af x y=some d->Sx Af rk t (n+1) y (c.1+d.1,c.2+d.2)
abbrev TB (p q:Int×Int):Prop:=p.1<q.1\/(p.1=q.1/\p.2<=q.2)
def ZP {a:Co}{q:Int×Int}(h:BK a (some q)):∃p,a=some p/\TB p q:=by
 cases a with
 |none=>exact h.elim
 |some p=>exact⟨p,rfl,h⟩
abbrev UD (Af:Int->Int->Co)(rk:Int->Nat)(s w:Int)(c:Int×Int):Prop:=∃t n c1 c2,Oc Af rk s t c1/\Sx Af rk t n w c2/\TB (c1.1+c2.1,c1.2+c2.2) c
section
variable {m:Nat}{rs:List Road}{rk:Int->Nat}{Af Cf:Int->Int->Co}{s w:Int}
def Oc.walk (L:Tz m rs rk Af){t:Int}{c:Int×Int}(h:Oc Af rk s t c):Wk rs s t c:=by
 induction h with
 |nil=>exact .nil s
 |snoc _ _ ha ih=>exact ih.trans (L.snd _ _ _ ha).1
def Sx.walk (L:Tz m rs rk Af){t x:Int}{n:Nat}{c:Int×Int}(h:Sx Af rk t n x c):Wk rs t x c:=by
 induction h with
 |nil=>exact .nil t
 |snoc _ _ ha ih=>exact ih.trans (L.snd _ _ _ ha).1
def oJ (L:Tz m rs rk Af):∀(n:Nat){t x y:Int}{c1 c2 d:Int×Int},Oc Af rk s t c1->Sx Af rk t n x c2->Af x y=some d->UD Af rk s y (c1.1+c2.1+d.1,c1.2+c2.2+d.2):=by
 intro n;induction n with
 |zero =>
  intro t x y c1 c2 d hu hd ha;obtain⟨_,ae,hx,hy⟩:=L.snd _ _ _ ha;cases hd with
  |nil =>
   by_cases h:rk y<rk t
   ·exact⟨t,1,c1,_,hu,.snoc .nil h ha,by simp only[TB];omega⟩
   ·have h2:rk t<rk y:=by
     have hq:rk t≠rk y:=λ e=>ae (L.inj t y hx.1 hx.2 hy.1 hy.2 e);omega
    exact⟨y,0,_,_,.snoc hu h2 ha,.nil,by simp only[TB];omega⟩
 |succ n ih =>
  intro t x y c1 c2 d hu hd ha;obtain⟨hw,ae,hx,hy⟩:=L.snd _ _ _ ha;by_cases h:rk y<rk x
  ·exact⟨t,n+2,c1,_,hu,.snoc hd h ha,by simp only[TB];omega⟩
  ·have h2:rk x<rk y:=by
    have hq:rk x≠rk y:=λ e=>ae (L.inj x y hx.1 hx.2 hy.1 hy.2 e);omega
   cases hd with
   | @snoc _ z _ c e bj hr bY =>
    have n1:=L.nn _ _ _ hw;have n2:=L.nn _ _ _ (L.snd _ _ _ bY).1;by_cases hz:z=y
    ·subst hz;exact⟨t,n,c1,c,hu,bj,by simp only[TB];omega⟩
    ·have q:=L.xJ x z y hz hr h2;rw[bY,ha] at q;obtain⟨f,hf,hle⟩:=ZP q;obtain⟨t',n',pz,p6,g1,g2,g3⟩:=ih hu bj hf;refine⟨t',n',pz,p6,g1,g2,?_⟩;simp only[TB] at *;omega
def iX (L:Tz m rs rk Af){u:Int}{c:Int×Int}(h:Wk rs u w c):∀ {c0:Int×Int},UD Af rk s u c0->UD Af rk s w (c0.1+c.1,c0.2+c.2):=by
 induction h with
 |nil u =>
  intro c0 h;simpa using h
 | @cons r l w c hr hl _ ih =>
  intro c0 h0;obtain⟨t,n,c1,c2,g1,g2,g3⟩:=h0;have q:=L.road r hr;unfold Cd at q;rw[hl] at q;obtain⟨d,hd,hle⟩:=ZP q;obtain⟨t',n',pz,p6,k1,k2,k3⟩:=oJ L n g1 g2 hd;have r1:=@ih (c0.1+l,c0.2+1) ⟨t',n',pz,p6,k1,k2,by simp only[TB] at *;omega⟩;simpa [zb6] using r1
abbrev Kept (rs:List Road)(Af Cf:Int->Int->Co):Prop:=∀x y c,Cf x y=some c↔(Af x y=some c/\Bz rs x y (some c))
def iY (L:Tz m rs rk Af)(K:Kept rs Af Cf){t:Int}{c1:Int×Int}(h:Oc Af rk s t c1):∀ {c2:Int×Int},Wk rs t w c2->(∀c,Wk rs s w c->TB (c1.1+c2.1,c1.2+c2.2) c)->Oc Cf rk s t c1:=by
 induction h with
 |nil=>exact λ _ _=>.nil
 | @snoc x y c d hu hr ha ih =>
  intro c2 hw hm;have bY:=(L.snd _ _ _ ha).1;refine .snoc (ih (c2:=(d.1+c2.1,d.2+c2.2)) (bY.trans hw) λ c' aY=>?_) hr ((K x y d).mpr ⟨ha,λ e he=>?_,λ p hp=>by cases hp;exact bY⟩)
  ·have:=hm c' aY;simp only[TB] at *;omega
  ·have:=hm _ (((hu.walk L).trans he).trans hw);simp only[TB,BK] at *;omega
def iZ (L:Tz m rs rk Af)(K:Kept rs Af Cf){t x:Int}{n:Nat}{c2:Int×Int}{c1:Int×Int}(hs:Wk rs s t c1)(h:Sx Af rk t n x c2):(∀c,Wk rs s x c->TB (c1.1+c2.1,c1.2+c2.2) c)->Sx Cf rk t n x c2:=by
 induction h with
 |nil=>exact λ _=>.nil
 | @snoc n x y c d hd hr ha ih =>
  intro hm;have bY:=(L.snd _ _ _ ha).1;refine .snoc (ih λ c' aY=>?_) hr ((K x y d).mpr ⟨ha,λ e he=>?_,λ p hp=>by cases hp;exact bY⟩)
  ·have:=hm _ (aY.trans bY);simp only[TB] at *;omega
  ·have:=hm _ ((hs.trans (hd.walk L)).trans he);simp only[TB,BK] at *;omega
def ZQ (L:Tz m rs rk Af)(K:Kept rs Af Cf){c:Int×Int}(h:Bz rs s w (some c)):∃t n c1 c2,Oc Cf rk s t c1/\Sx Cf rk t n w c2/\c=(c1.1+c2.1,c1.2+c2.2):=by
 obtain⟨t,n,c1,c2,g1,g2,g3⟩:=iX L (h.2 c rfl) (c0:=(0,0)) ⟨s,0,_,_,.nil,.nil,by simp[TB]⟩;have hw:=(g1.walk L).trans (g2.walk L);have q:=h.1 _ hw;have e:c=(c1.1+c2.1,c1.2+c2.2):=by
  obtain⟨a,b⟩:=c;simp only[TB,BK] at *;refine Prod.ext ?_ ?_<;>dsimp only<;>omega
 refine⟨t,n,c1,c2,iY L K g1 (g2.walk L) λ c' aY=>?_,iZ L K (g1.walk L) g2 λ c' aY=>?_,e⟩
 ·have:=h.1 _ aY;rw[e] at this;exact this
 ·have:=h.1 _ aY;rw[e] at this;exact this
structure uO (rk:Int->Nat)(Cf:Int->Int->Co)(s:Int)(R:Int->Co):Prop where
 st:BK (R s) (some (0,0))
 cl:∀x y,rk x<rk y->BK (R y) (Ah (R x) (Cf x y))
 sd:∀x c,R x=some c->Oc Cf rk s x c
def uO.le {R:Int->Co}(h:uO rk Cf s R){t:Int}{c:Int×Int}(u:Oc Cf rk s t c):BK (R t) (some c):=by
 induction u with
 |nil=>exact h.st
 | @snoc x y c d hu hr ha ih =>
  refine Ap (h.cl x y hr) ?_;rw[ha];exact C1 (some d) ih
structure tH (rk:Int->Nat)(Cf:Int->Int->Co)(s:Int)(R T:Int->Co)(m:Nat):Prop where
 top:∀x:Int,0<=x->x<m->BK (T x) (R x)
 cl:∀x y:Int,0<=x->x<m->0<=y->y<m->rk y<rk x->BK (T y) (Ah (T x) (Cf x y))
 sd:∀x c,T x=some c->∃t n c1 c2,Oc Cf rk s t c1/\Sx Cf rk t n x c2/\c=(c1.1+c2.1,c1.2+c2.2)
def Kept.kL (K:Kept rs Af Cf){x y:Int}{c:Int×Int}(h:Cf x y=some c):Af x y=some c:=((K x y c).mp h).1
def Oc.of_kept (K:Kept rs Af Cf){t:Int}{c:Int×Int}(h:Oc Cf rk s t c):Oc Af rk s t c:=by
 induction h with
 |nil=>exact .nil
 |snoc _ hr ha ih=>exact .snoc ih hr (K.kL ha)
def Sx.of_kept (K:Kept rs Af Cf){t x:Int}{n:Nat}{c:Int×Int}(h:Sx Cf rk t n x c):Sx Af rk t n x c:=by
 induction h with
 |nil=>exact .nil
 |snoc _ hr ha ih=>exact .snoc ih hr (K.kL ha)
def tI (L:Tz m rs rk Af)(K:Kept rs Af Cf){t x:Int}{n:Nat}{c:Int×Int}(h:Sx Cf rk t n x c)(ht:0<=t/\t<m):0<=x/\x<m:=by
 cases h with
 |nil=>exact ht
 |snoc _ hr ha=>exact (L.snd _ _ _ (K.kL ha)).2.2.2
def tJ (L:Tz m rs rk Af)(K:Kept rs Af Cf){t:Int}{c:Int×Int}(h:Oc Cf rk s t c)(ht:0<=s/\s<m):0<=t/\t<m:=by
 cases h with
 |nil=>exact ht
 |snoc _ hr ha=>exact (L.snd _ _ _ (K.kL ha)).2.2.2
def tH.le (L:Tz m rs rk Af)(K:Kept rs Af Cf){R T:Int->Co}(h:tH rk Cf s R T m){t x:Int}{n:Nat}{c1 c2:Int×Int}(ht:0<=t/\t<m)(hT:BK (T t) (some c1))(u:Sx Cf rk t n x c2):BK (T x) (some (c1.1+c2.1,c1.2+c2.2)):=by
 induction u with
 |nil=>simpa using hT
 | @snoc n x y c d hd hr ha ih =>
  have hx:=tI L K hd ht;have hy:=(L.snd _ _ _ (K.kL ha)).2.2.2;refine Ap (h.cl x y hx.1 hx.2 hy.1 hy.2 hr) ?_;rw[ha];have:=C1 (some d) ih;simp only[Ah,zb6] at this;exact this
def Pu (L:Tz m rs rk Af)(K:Kept rs Af Cf){R T:Int->Co}(hs:0<=s/\s<m)(hR:uO rk Cf s R)(hT:tH rk Cf s R T m){x:Co}(hx:Bz rs s w x):Bz rs s w (T w):=by
 have key:BK (T w) x:=by
  cases x with
  |none=>cases T w<;>exact trivial
  |some c =>
   obtain⟨t,n,c1,c2,g1,g2,e⟩:=ZQ L K hx;have ht:=tJ L K g1 hs;rw[e];exact hT.le L K ht (Ap (hT.top t ht.1 ht.2) (hR.le g1)) g2
 refine⟨λ c hc=>Ap key (hx.1 c hc),λ p hp=>?_⟩;obtain⟨t,n,c1,c2,g1,g2,rfl⟩:=hT.sd w p hp;exact ((g1.of_kept K).walk L).trans ((g2.of_kept K).walk L)
end
def Wk.turn {rs:List Road}{u w:Int}{c:Int×Int}(h:Wk rs u w c):Wk (rs.map JY) w u c:=by
 induction h with
 |nil u=>exact .nil u
 | @cons r l w c hr hl _ ih =>
  have h1:Wk (rs.map JY) (JY r).a (JY r).b (l,1):=Wk.one (zC.mpr ⟨r,hr,rfl⟩) hl;have:=ih.trans h1;have e:(c.1+l,c.2+1)=(l+c.1,1+c.2):=by rw[Int.add_comm,Int.add_comm c.2]
  rw[<-e];exact this
def HR (rs:List Road):(rs.map JY).map JY=rs:=by
 rw[zT];exact (zar λ r _=>rfl).trans (List.map_id rs)
def Bz.turn {rs:List Road}{u w:Int}{x:Co}(h:Bz rs u w x):Bz (rs.map JY) w u x:=by
 refine⟨λ c hc=>h.1 c ?_,λ p hp=>(h.2 p hp).turn⟩;have:=hc.turn;rw[HR] at this;exact this
def Tz.turn {m:Nat}{rs:List Road}{rk:Int->Nat}{Af:Int->Int->Co}(L:Tz m rs rk Af):Tz m (rs.map JY) rk (λ x y=>Af y x):=by
 refine⟨λ x y c h=>?_,λ r hr=>?_,λ p x y ae h1 h2=>?_,L.inj,λ x y c h=>?_⟩
 ·obtain⟨a,b,c,d⟩:=L.snd _ _ _ h;exact⟨a.turn,zY b,d,c⟩
 ·obtain⟨r',aU,rfl⟩:=zC.mp hr;exact L.road r' aU
 ·rw[Bc];exact L.xJ p y x (zY ae) h2 h1
 ·have:=h.turn;rw[HR] at this;exact L.nn _ _ _ this
def Kept.turn {rs:List Road}{Af Cf:Int->Int->Co}(K:Kept rs Af Cf):Kept (rs.map JY) (λ x y=>Af y x) (λ x y=>Cf y x):=λ x y c=>by
 refine (K y x c).trans ⟨λ h=>⟨h.1,h.2.turn⟩,λ h=>⟨h.1,?_⟩⟩;have:=h.2.turn;rw[HR] at this;exact this
section
variable {κ β:Type} [DecidableEq κ]
abbrev AF:List (κ×β)->κ->Option β
 |[],_=>none
 |(k,v)::r,x=>if k=x then some v else AF r x
abbrev Df (A:List (κ×β))(k:κ)(v:β):List (κ×β):=if (AF A k).isSome=true then A.map λ kv=>if kv.1=k then (kv.1,v) else kv else A++[(k,v)]
def QB (k j:κ)(v:β):∀A:List (κ×β),AF (A.map λ kv=>if kv.1=k then (kv.1,v) else kv) j=if j=k then (AF A j).map λ _=>v else AF A j
 |[]=>by simp[AF]
 |(k',v')::r=>by
  rw[zf];by_cases h1:k'=k
  ·rw[if_pos h1];subst h1;simp only[AF];by_cases h2:k'=j
   ·subst h2;simp
   ·rw[if_neg h2,if_neg h2,QB k' j v r]
  ·rw[if_neg h1];simp only[AF];by_cases h2:k'=j
   ·subst h2;rw[if_pos rfl,if_pos rfl,if_neg h1]
   ·rw[if_neg h2,if_neg h2,QB k j v r]
def Sy (k j:κ)(v:β):∀A:List (κ×β),AF A k=none->AF (A++[(k,v)]) j=if j=k then some v else AF A j
 |[],_=>by
  simp only[List.nil_append,AF];by_cases h:k=j
  ·subst h;simp
  ·rw[if_neg h,if_neg (zY h)]
 |(k',v')::r,h=>by
  simp only[AF] at h;by_cases h1:k'=k
  ·rw[if_pos h1] at h;cases h
  ·rw[if_neg h1] at h;rw[zau];simp only[AF];rw[Sy k j v r h];by_cases h2:k'=j
   ·subst h2;rw[if_pos rfl,if_pos rfl,if_neg h1]
   ·rw[if_neg h2,if_neg h2]
def HS (A:List (κ×β))(k j:κ)(v:β):AF (Df A k v) j=if j=k then some v else AF A j:=by
 unfold Df;by_cases h:(AF A k).isSome=true
 ·rw[if_pos h,QB];by_cases hj:j=k
  ·subst hj;rw[if_pos rfl,if_pos rfl];obtain⟨x,hx⟩:=zam.mp h;rw[hx];rfl
  ·rw[if_neg hj,if_neg hj]
 ·rw[if_neg h];exact Sy k j v A (by cases e:AF A k with|none=>rfl|some x=>rw[e] at h;exact (h rfl).elim)
def HU:∀ {A:List (κ×β)}{k:κ},(AF A k).isSome=true↔k∈A.map zJ
 |[],k=>by simp[AF]
 |(k',v')::r,k=>by
  simp only[AF,zf,zp];by_cases h:k'=k
  ·rw[if_pos h];simp[h]
  ·rw[if_neg h,HU];simp[zY h]
def Sz {A:List (κ×β)}{k:κ}:AF A k=none↔k∉A.map zJ:=by
 rw[<-HU];cases AF A k<;>simp
def SA (A:List (κ×β))(k:κ)(v:β):(Df A k v).map zJ=if (AF A k).isSome=true then A.map zJ else A.map zJ++[k]:=by
 unfold Df;split
 ·rw[zT];refine zar λ kv _=>?_;dsimp only [Function.comp];split<;>rfl
 ·rw[z4];rfl
def KQ {A:List (κ×β)}{k:κ}{v:β}(h:(A.map zJ).Nodup):((Df A k v).map zJ).Nodup:=by
 rw[SA];split
 ·exact h
 ·rename_i hn;rw[HU] at hn;rw[z9];exact⟨h,by simp,λ x hx y hy=>by rw[zg.mp hy];exact λ e=>hn (e▸hx)⟩
def Nf {A:List (κ×β)}{k x:κ}{v:β}(h:x∈(Df A k v).map zJ):x∈A.map zJ\/x=k:=by
 rw[SA] at h;split at h
 ·exact .inl h
 ·rcases zy.mp h with h|h
  ·exact .inl h
  ·exact .inr (zg.mp h)
def QC:∀ {A:List (κ×β)}{k:κ}{v:β},AF A k=some v->(k,v)∈A
 |(k',v')::r,k,v,h=>by
  simp only[AF] at h;split at h
  ·rename_i e;cases h;subst e;exact zd
  ·exact ze _ (QC h)
def ZR:∀ {A:List (κ×β)}{k:κ}{v:β},(A.map zJ).Nodup->(k,v)∈A->AF A k=some v
 |(k',v')::r,k,v,hn,h=>by
  rw[zf,zW] at hn;simp only[AF];rcases zp.mp h with e|h
  ·cases e;rw[if_pos rfl]
  ·have:k'≠k:=λ e=>hn.1 (e▸zC.mpr ⟨_,h,rfl⟩);rw[if_neg this];exact ZR hn.2 h
variable {kf:κ->D}{vf:β->D}(he:∀a b,Bl (kf a) (kf b)=decide (a=b))
include he
def K3 (A:List (κ×β))(k:κ):LO (A.map λ kv=>kf kv.1) (kf k)=(AF A k).isSome:=by
 induction A with
 |nil=>rfl
 |cons kv r ih =>
  obtain⟨k',v'⟩:=kv;unfold LO at ih ⊢;rw[zf,zab,ih,he];simp only[AF];by_cases h:k'=k
  ·rw[if_pos h,decide_eq_true h];rfl
  ·rw[if_neg h,decide_eq_false h];rfl
def GS (A:List (κ×β))(k:κ):G8 (A.map λ kv=>kf kv.1) (A.map λ kv=>vf kv.2) (kf k)=(AF A k).map vf:=by
 induction A with
 |nil=>rfl
 |cons kv r ih =>
  obtain⟨k',v'⟩:=kv;rw[zf,zf,G8,he,ih];simp only[AF];by_cases h:k'=k
  ·rw[decide_eq_true h,if_pos rfl,if_pos h];rfl
  ·rw[decide_eq_false h,if_neg z8,if_neg h]
def ZS (k:κ)(v:β)(A:List (κ×β)):II (A.map λ kv=>kf kv.1) (A.map λ kv=>vf kv.2) (kf k) (vf v)=(A.map λ kv=>if kv.1=k then (kv.1,v) else kv).map λ kv=>vf kv.2:=by
 induction A with
 |nil=>rfl
 |cons kv r ih =>
  obtain⟨k',v'⟩:=kv;rw[zf,zf,II,he,ih,zf,zf];by_cases h:k'=k
  ·rw[decide_eq_true h,if_pos rfl,if_pos h]
  ·rw[decide_eq_false h,if_neg z8,if_neg h]
def K4 (A:List (κ×β))(k:κ)(v:β):putD (A.map λ kv=>kf kv.1) (A.map λ kv=>vf kv.2) (kf k) (vf v)=((Df A k v).map (λ kv=>kf kv.1),(Df A k v).map λ kv=>vf kv.2):=by
 unfold putD Df;rw[K3 he];by_cases h:(AF A k).isSome=true
 ·rw[if_pos h,if_pos h,ZS he];refine Prod.ext ?_ rfl;dsimp only;rw[zT];refine zar λ kv _=>?_;dsimp only [Function.comp];split<;>rfl
 ·rw[if_neg h,if_neg h,z4,z4];rfl
end
def GU (a b:Int):Bl (.int a) (.int b)=decide (a=b):=by
 simp only[Bl];by_cases h:a=b
 ·subst h;simp
 ·simp[h]
noncomputable abbrev LA:=List ((Int×Int)×((Int×Int)×Option Int))
abbrev Xi (v:(Int×Int)×Option Int):D:=.tup [cst (some v.1),GL v.2]
abbrev Lj (A:LA):D:=.Bq true (A.map λ kv=>pD kv.1) (A.map λ kv=>Xi kv.2)
abbrev IZ (A:LA):OT:=.Bq true (A.map λ kv=>pD kv.1) ((A.map λ kv=>Xi kv.2).map .sh)
abbrev Am (A:LA)(p:Int×Int):Co:=(AF A p).map zJ
abbrev layA (A:LA)(p:Int×Int)(c:Co)(mid:Option Int):LA:=match c with
 |none=>A
 |some c=>(match AF A p with
  |none=>Df A p (c,mid)
  |some z=>if c.1<z.1.1\/(c.1=z.1.1/\c.2<z.1.2) then Df A p (c,mid) else A)
def GV (A:LA)(p q:Int×Int)(c:Co)(mid:Option Int):Am (layA A p c mid) q=if q=p then DF (Am A p) c else Am A q:=by
 unfold layA Am;cases c with
 |none =>
  by_cases h:q=p
  ·subst h;rw[if_pos rfl];cases AF A q<;>rfl
  ·rw[if_neg h]
 |some c =>
  cases e:AF A p with
  |none =>
   dsimp only;rw[HS];by_cases h:q=p
   ·rw[if_pos h,if_pos h];rfl
   ·rw[if_neg h,if_neg h]
  |some z =>
   dsimp only;by_cases hc:c.1<z.1.1\/(c.1=z.1.1/\c.2<z.1.2)
   ·rw[if_pos hc,HS];by_cases h:q=p
    ·rw[if_pos h,if_pos h];simp only[zae,DF,kH];rw[if_neg (by omega)]
    ·rw[if_neg h,if_neg h]
   ·rw[if_neg hc];by_cases h:q=p
    ·subst h;rw[if_pos rfl,e];simp only[zae,DF,kH];rw[if_pos (by omega)]
    ·rw[if_neg h]
def Ur (A:LA)(p q:Int×Int)(c:Co)(mid:Option Int):BK (Am (layA A p c mid) q) (Am A q):=by
 rw[GV];split
 ·rename_i h;subst h;exact EE _ _
 ·exact Cc _
def ZT {A:LA}{p x:Int×Int}{c:Co}{mid:Option Int}(h:x∈(layA A p c mid).map zJ):x∈A.map zJ\/x=p:=by
 unfold layA at h;split at h
 ·exact .inl h
 ·split at h
  ·exact Nf h
  ·split at h
   ·exact Nf h
   ·exact .inl h
def Xj {A:LA}{p:Int×Int}{c:Co}{mid:Option Int}(h:(A.map zJ).Nodup):((layA A p c mid).map zJ).Nodup:=by
 unfold layA;split
 ·exact h
 ·split
  ·exact KQ h
  ·split
   ·exact KQ h
   ·exact h
abbrev QD (p u:Int)(A:LA)(w:Int):LA:=if u=w then A else layA A (u,w) (Ah (Am A (u,p)) (Am A (p,w))) (some p)
abbrev jA (p:Int)(H:List Int)(A:LA)(u:Int):LA:=H.foldl (QD p u) A
abbrev oK (A:LA)(p:Int)(H:List Int):LA:=H.foldl (jA p H) A
abbrev Us:LA->List Int->LA
 |A,[]=>A
 |A,p::r=>Us (oK A p r) r
abbrev lay0 (rs:List Road):LA:=rs.foldl (λ A r=>layA A (r.a,r.b) (Cd r) none) []
abbrev BY (rs:List Road)(L:List Int):LA:=Us (lay0 rs) L
structure Fd (m:Nat)(A:LA):Prop where
 nd:(A.map zJ).Nodup
 rg:∀p∈A.map zJ,p.1≠p.2/\(0<=p.1/\p.1<m)/\0<=p.2/\p.2<m
def Fd.lay {m:Nat}{A:LA}(h:Fd m A){p:Int×Int}{c:Co}{mid:Option Int}(hp:p.1≠p.2/\(0<=p.1/\p.1<m)/\0<=p.2/\p.2<m):Fd m (layA A p c mid):=
 ⟨Xj h.nd,λ q hq=>(ZT hq).elim (h.rg q) λ e=>e▸hp⟩
def Fd.len {m:Nat}{A:LA}(h:Fd m A)(hm:m<=20):A.length<1000:=by
 have:=Ct.len (B:=A.map zJ) (m:=m) ⟨h.nd,λ x hx=>(h.rg _ hx).1 rfl,λ q hq=>⟨(h.rg q hq).2.1,(h.rg q hq).2.2⟩⟩ hm;rwa[zc] at this
def K5 {α β:Type}{f:β->α->β}(P:List α->β->Prop):∀ {L pre:List α}{b:β},P pre b->(∀a∈L,∀pre b,P pre b->P (pre++[a]) (f b a))->P (pre++L) (L.foldl f b)
 |[],pre,b,h,_=>by rw[zI];exact h
 |a::L,pre,b,h,hs=>by
  have:=K5 P (L:=L) (hs a zd pre b h) λ x hx=>hs x (ze _ hx);rw[zO] at this;exact this
abbrev jB (rs:List Road)(A:LA):Prop:=∀x y c,Am A (x,y)=some c->Wk rs x y c
def jB.lay {rs:List Road}{A:LA}(h:jB rs A){x y:Int}{c:Co}{mid:Option Int}(hc:∀p,c=some p->Wk rs x y p):jB rs (layA A (x,y) c mid):=λ u w d hd=>by
 rw[GV] at hd;split at hd
 ·rename_i e;cases e;rcases Bt (Am A (x,y)) c with ⟨e,_⟩|⟨e,_⟩
  ·rw[e] at hd;exact h _ _ _ hd
  ·rw[e] at hd;exact hc d hd
 ·exact h _ _ _ hd
structure Over (m:Nat)(rs:List Road)(p:Int)(H:List Int)(A0 A:LA):Prop where
 ok:Fd m A
 sd:jB rs A
 le:∀q,BK (Am A q) (Am A0 q)
 sm:∀x y,(x∉H\/y∉H)->Am A (x,y)=Am A0 (x,y)
def Xk {m:Nat}{rs:List Road}{p:Int}{H:List Int}{A0 A:LA}(hp:p∉H)(hH:∀x∈H,0<=x/\x<m)(h:Over m rs p H A0 A){u w:Int}(hu:u∈H)(hw:w∈H):Over m rs p H A0 (QD p u A w)/\(u≠w->BK (Am (QD p u A w) (u,w)) (Ah (Am A0 (u,p)) (Am A0 (p,w)))):=by
 unfold QD;by_cases e:u=w
 ·rw[if_pos e];exact⟨h,λ z=>(z e).elim⟩
 ·rw[if_neg e];have e1:=h.sm u p (.inr hp);have e2:=h.sm p w (.inl hp);refine⟨⟨h.ok.lay ⟨e,hH u hu,hH w hw⟩,h.sd.lay λ c hc=>?_,λ q=>Ap (Ur _ _ _ _ _) (h.le q),λ x y bX=>?_⟩,λ _=>?_⟩
  ·obtain⟨a,b,ha,hb,rfl⟩:=DU hc;exact (h.sd _ _ _ ha).trans (h.sd _ _ _ hb)
  ·rw[GV,if_neg (λ z=>by cases z;exact bX.elim (λ q=>q hu) λ q=>q hw)];exact h.sm x y bX
  ·rw[GV,if_pos rfl,e1,e2];exact EF _ _
def kM {p u:Int}{A:LA}{w:Int}(q:Int×Int):BK (Am (QD p u A w) q) (Am A q):=by
 unfold QD;split
 ·exact Cc _
 ·exact Ur _ _ _ _ _
def kN {p u:Int}(q:Int×Int):∀(H:List Int) (A:LA),BK (Am (H.foldl (QD p u) A) q) (Am A q)
 |[],A=>Cc _
 |w::H,A=>Ap (kN q H (QD p u A w)) (kM q)
def oM {m:Nat}{rs:List Road}{p:Int}{H:List Int}{A0 A:LA}(hp:p∉H)(hH:∀x∈H,0<=x/\x<m)(h:Over m rs p H A0 A){u:Int}(hu:u∈H):Over m rs p H A0 (jA p H A u)/\∀w∈H,u≠w->BK (Am (jA p H A u) (u,w)) (Ah (Am A0 (u,p)) (Am A0 (p,w))):=by
 unfold jA;have:=K5 (L:=H) (pre:=[]) (f:=QD p u) (b:=A) (λ W A=>Over m rs p H A0 A/\∀w∈W,u≠w->BK (Am A (u,w)) (Ah (Am A0 (u,p)) (Am A0 (p,w)))) ⟨h,λ w hw=>by cases hw⟩ λ w hw W B hB=>by
  obtain⟨b1,b2⟩:=hB;obtain⟨c1,c2⟩:=Xk hp hH b1 hu hw;refine⟨c1,λ x hx ae=>?_⟩;rcases zy.mp hx with hx|hx
  ·exact Ap (kM _) (b2 x hx ae)
  ·rw[zg.mp hx] at ae ⊢;exact c2 ae
 exact this
def ZU {m:Nat}{rs:List Road}{p:Int}{H:List Int}{A:LA}(hp:p∉H)(hH:∀x∈H,0<=x/\x<m)(h1:Fd m A)(h2:jB rs A):Over m rs p H A (oK A p H)/\∀u∈H,∀w∈H,u≠w->BK (Am (oK A p H) (u,w)) (Ah (Am A (u,p)) (Am A (p,w))):=by
 unfold oK;have:=K5 (L:=H) (pre:=[]) (f:=jA p H) (b:=A) (λ U B=>Over m rs p H A B/\∀u∈U,∀w∈H,u≠w->BK (Am B (u,w)) (Ah (Am A (u,p)) (Am A (p,w)))) ⟨⟨h1,h2,λ q=>Cc _,λ x y _=>rfl⟩,λ u hu=>by cases hu⟩ λ u hu U B hB=>by
  obtain⟨b1,b2⟩:=hB;obtain⟨c1,c2⟩:=oM hp hH b1 hu;refine⟨c1,λ x hx w hw ae=>?_⟩;rcases zy.mp hx with hx|hx
  ·exact Ap (kN _ H B) (b2 x hx w hw ae)
  ·rw[zg.mp hx] at ae ⊢;exact c2 w hw ae
 exact this
def QE {m:Nat}{rs:List Road}(Au:∀r∈rs,Gd m r/\r.a≠r.b):Fd m (lay0 rs)/\jB rs (lay0 rs)/\∀r∈rs,BK (Am (lay0 rs) (r.a,r.b)) (Cd r):=by
 unfold lay0;have:=K5 (L:=rs) (pre:=[]) (f:=λ A r=>layA A (r.a,r.b) (Cd r) none) (b:=[]) (λ W A=>Fd m A/\jB rs A/\∀r∈W,BK (Am A (r.a,r.b)) (Cd r)) ⟨⟨by simp,λ p hp=>by cases hp⟩,⟨(λ _ _ _ h=>by cases h),λ r hr=>by cases hr⟩⟩ λ r hr W B hB=>by
  obtain⟨b1,b2,b3⟩:=hB;obtain⟨o1,o2⟩:=Au r hr;refine⟨b1.lay ⟨o2,⟨o1.a0,o1.a1⟩,o1.b0,o1.b1⟩,b2.lay λ c hc=>?_,λ x hx=>?_⟩
  ·obtain⟨l,hl,rfl⟩:=JZ hc;exact Wk.one hr hl
  ·rcases zy.mp hx with hx|hx
   ·exact Ap (Ur _ _ _ _ _) (b3 x hx)
   ·rw[zg.mp hx,GV,if_pos rfl];exact EF _ _
 exact this
abbrev DK:List Int->Int->Nat
 |[],_=>0
 |a::l,x=>if a=x then 0 else DK l x+1
def VY:∀ {pre post:List Int}{p:Int},p∉pre->DK (pre++p::post) p=pre.length
 |[],post,p,_=>by simp[DK]
 |a::pre,post,p,h=>by
  rw[zp,not_or] at h;rw[zau,DK,if_neg (zY h.1),VY h.2];rfl
def Ut:∀ {pre post:List Int}{x:Int},x∈pre->DK (pre++post) x<pre.length
 |a::pre,post,x,h=>by
  rw[zau,DK];by_cases e:a=x
  ·rw[if_pos e];simp
  ·rw[if_neg e,zj];have:=Ut (post:=post) ((zp.mp h).resolve_left (zY e));omega
def QF:∀ {pre post:List Int}{x:Int},x∉pre->pre.length<=DK (pre++post) x
 |[],post,x,_=>zR _
 |a::pre,post,x,h=>by
  rw[zp,not_or] at h;rw[zau,DK,if_neg (zY h.1),zj];have:=QF (post:=post) h.2;omega
def QG:∀ {L:List Int}{x y:Int},x∈L->y∈L->DK L x=DK L y->x=y
 |a::l,x,y,hx,hy,e=>by
  rw[DK,DK] at e;by_cases h1:a=x
  ·by_cases h2:a=y
   ·rw[<-h1,<-h2]
   ·rw[if_pos h1,if_neg h2] at e;omega
  ·by_cases h2:a=y
   ·rw[if_neg h1,if_pos h2] at e;omega
   ·rw[if_neg h1,if_neg h2] at e;exact QG ((zp.mp hx).resolve_left (zY h1)) ((zp.mp hy).resolve_left (zY h2)) (by omega)
def Uu {L:List Int}{x:Int}(h:DK L x<L.length):x∈L:=by
 refine zaf λ hn=>?_;have:=QF (pre:=L) (post:=[]) hn;rw[zI] at this;omega
def ZV:∀(L:List Int) (x:Int),DK L x<=L.length
 |[],_=>zu _
 |a::l,x=>by
  rw[DK,zj];split
  ·omega
  ·have:=ZV l x;omega
def Lk:∀ {L:List Int}{p:Int},p∈L->∃pre post,L=pre++p::post/\p∉pre
 |a::l,p,h=>by
  by_cases ha:a=p
  ·subst ha;exact⟨[],l,rfl,by simp⟩
  ·obtain⟨pre,post,e2,hn⟩:=Lk ((zp.mp h).resolve_left (zY ha));exact⟨a::pre,post,by rw[zau,<-e2],by simp[zY ha,hn]⟩
def ZW {L:List Int}{p:Int}(h:DK L p<L.length):∃pre post,L=pre++p::post/\p∉pre/\∀x,DK L p<DK L x->x∈L->x∈post:=by
 obtain⟨pre,post,e,hn⟩:=Lk (Uu h);refine⟨pre,post,e,hn,λ x hr hx=>?_⟩;subst e;rw[VY hn] at hr;rcases zy.mp hx with hx|hx
 ·have:=Ut (post:=p::post) hx;omega
 ·rcases zp.mp hx with rfl|hx
  ·rw[VY hn] at hr;omega
  ·exact hx
def oN {m:Nat}{rs:List Road}{L:List Int}(hL:L.Nodup)(hr:∀x∈L,0<=x/\x<m):∀(post pre:List Int) (A:LA),L=pre++post->Fd m A->jB rs A->(∀r∈rs,BK (Am A (r.a,r.b)) (Cd r))->
 (∀pa p pb,L=pa++p::pb->pa.length<pre.length->∀x∈pb,∀y∈pb,x≠y->BK (Am A (x,y)) (Ah (Am A (x,p)) (Am A (p,y))))->
 Fd m (Us A post)/\jB rs (Us A post)/\(∀r∈rs,BK (Am (Us A post) (r.a,r.b)) (Cd r))/\∀pa p pb,L=pa++p::pb->∀x∈pb,∀y∈pb,x≠y->BK (Am (Us A post) (x,y)) (Ah (Am (Us A post) (x,p)) (Am (Us A post) (p,y))):=by
 intro post;induction post with
 |nil =>
  intro pre A e h1 h2 h3 h4;rw[zI] at e;refine⟨h1,h2,h3,λ pa p pb e2=>h4 pa p pb e2 ?_⟩;rw[<-e,e2,zA,zj];omega
 |cons p post ih =>
  intro pre A e h1 h2 h3 h4;rw[Us];have hn:(pre++p::post).Nodup:=e▸hL;rw[z9,zW] at hn;have b6:∀x∈post,0<=x/\x<m:=λ x hx=>hr x (by rw[e];simp[hx]);obtain⟨o,ov⟩:=ZU (p:=p) hn.2.1.1 b6 h1 h2;refine ih (pre++[p]) (oK A p post) (by rw[e];simp) o.ok o.sd (λ r aU=>Ap (o.le _) (h3 r aU)) λ pa q pb e2 af x hx y hy ae=>?_;rw[zA,yP] at af;by_cases hq:pa.length<pre.length
  ·-- an lj one
   have su:q∉post:=λ d6=>by
    have e3:pre++p::post=pa++q::pb:=by rw[<-e,e2]
    have q1:q∈pre:=by
     have:=congrArg (λ l=>l[pa.length]?) e3;rw[yU hq,yX (zu _),Nat.sub_self] at this;exact zv this
    exact hn.2.2 q q1 q (ze _ d6) rfl
   rw[o.sm x q (.inr su),o.sm q y (.inl su)];exact Ap (o.le _) (h4 pa q pb e2 hq x hx y hy ae)
  ·have ao:pa.length=pre.length:=by omega
   have e3:pa++q::pb=pre++p::post:=by rw[<-e2,e]
   obtain⟨rfl,e4⟩:=List.append_inj e3 ao;cases e4;rw[o.sm x p (.inr hn.2.1.1),o.sm p y (.inl hn.2.1.1)];exact ov x hx y hy ae
def Ng {m:Nat}{rs:List Road}{L:List Int}(hL:L.Perm (AW m))(Au:∀r∈rs,Gd m r/\r.a≠r.b):Fd m (BY rs L)/\Tz m rs (DK L) (λ x y=>Am (BY rs L) (x,y)):=by
 have je:L.Nodup:=Fv hL;obtain⟨a1,a2,a3⟩:=QE Au;obtain⟨b1,b2,b3,b4⟩:=oN je (λ x hx=>(AZ hL).mp hx) L [] (lay0 rs) rfl a1 a2 a3 (λ pa p pb _ h=>by simp at h);refine⟨b1,λ x y c h=>?_,b3,λ p x y ae h1 h2=>?_,λ x y x0 x1 y0 y1 e=>QG ((AZ hL).mpr ⟨x0,x1⟩) ((AZ hL).mpr ⟨y0,y1⟩) e,λ x y c h=>Wk.nn (λ r hr=>(Au r hr).1) h⟩
 ·have hm:(x,y)∈(Us (lay0 rs) L).map zJ:=by
   rw[<-HU];unfold Am at h;cases q:AF (BY rs L) (x,y) with
   |none=>rw[q] at h;cases h
   |some z=>unfold BY at q;rw[q];rfl
  have:=b1.rg _ hm;exact⟨b2 _ _ _ h,this.1,this.2.1,this.2.2⟩
 ·have aM:∀ {x y:Int} {c:Int×Int},Am (BY rs L) (x,y)=some c->x∈L/\y∈L:=fun {x y c} h=>by
   have hm:(x,y)∈(Us (lay0 rs) L).map zJ:=by
    rw[<-HU];unfold Am at h;cases q:AF (BY rs L) (x,y) with
    |none=>rw[q] at h;cases h
    |some z=>unfold BY at q;rw[q];rfl
   have:=b1.rg _ hm;exact⟨(AZ hL).mpr this.2.1,(AZ hL).mpr this.2.2⟩
  have ao:DK L p<L.length:=z5 h1 (ZV L x);obtain⟨pre,post,e,hn,dn⟩:=ZW ao;cases q1:Am (BY rs L) (x,p) with
  |none=>cases Am (BY rs L) (x,y)<;>exact trivial
  |some c1 =>
   cases q2:Am (BY rs L) (p,y) with
   |none=>cases Am (BY rs L) (x,y)<;>exact trivial
   |some c2 =>
    have r:=b4 pre p post e x (dn x h1 (aM q1).1) y (dn y h2 (aM q2).2) ae;rw[<-q1,<-q2];exact r
noncomputable abbrev CA:=List ((Int×Int)×(Int×Int))
abbrev Mq (C:CA):D:=.Bq true (C.map λ kv=>pD kv.1) (C.map λ kv=>cst (some kv.2))
abbrev pU (C:CA):OT:=.Bq true (C.map λ kv=>pD kv.1) ((C.map λ kv=>cst (some kv.2)).map .sh)
noncomputable abbrev RA:=List (Int×(Int×Int))
abbrev SD (R:RA):D:=.Bq false (R.map λ kv=>D.int kv.1) (R.map λ kv=>cst (some kv.2))
abbrev XQ (R:RA):OT:=.Bq false (R.map λ kv=>D.int kv.1) ((R.map λ kv=>cst (some kv.2)).map .sh)
def QH (A:LA):er (IZ A)=Lj A:=IK
def QI (C:CA):er (pU C)=Mq C:=IK
def QJ (R:RA):er (XQ R)=SD R:=IK
def KR (i:Int):keyOk false (.int i)=true:=rfl
def QK (A:LA)(p:Int×Int)(neg:Bool):Jo neg (pD p) (Lj A)=.ok (.bl (if neg=true then !(AF A p).isSome else (AF A p).isSome)):=by
 unfold Lj Jo;dsimp only;rw[if_pos (GO p),K3 GN]
def QL {A:LA}{p:Int×Int}{v:(Int×Int)×Option Int}(h:AF A p=some v):AY (Lj A) (pD p)=.ok (Xi v):=by
 unfold Lj AY;dsimp only;rw[if_pos (GO p),GS GN,h];rfl
def oO (C:CA)(p:Int×Int)(neg:Bool):Jo neg (pD p) (Mq C)=.ok (.bl (if neg=true then !(AF C p).isSome else (AF C p).isSome)):=by
 unfold Mq Jo;dsimp only;rw[if_pos (GO p),K3 GN]
def oP {C:CA}{p:Int×Int}{c:Int×Int}(h:AF C p=some c):AY (Mq C) (pD p)=.ok (cst (some c)):=by
 unfold Mq AY;dsimp only;rw[if_pos (GO p),GS (vf:=λ c=>cst (some c)) GN,h];rfl
def oQ (C:CA)(p:Int×Int):Pj (Mq C) (.ok (pD p))=.ok (cst (AF C p)):=by
 unfold Mq Pj;simp only[M.A9];rw[if_pos (GO p),GS (vf:=λ c=>cst (some c)) GN];cases AF C p<;>rfl
def ZX (R:RA)(p:Int)(neg:Bool):Jo neg (.int p) (SD R)=.ok (.bl (if neg=true then !(AF R p).isSome else (AF R p).isSome)):=by
 unfold SD Jo;dsimp only;rw[if_pos (KR p),K3 (kf:=D.int) GU]
def ZY {R:RA}{p:Int}{c:Int×Int}(h:AF R p=some c):AY (SD R) (.int p)=.ok (cst (some c)):=by
 unfold SD AY;dsimp only;rw[if_pos (KR p),GS (kf:=D.int) (vf:=λ c=>cst (some c)) GU,h];rfl
def ZZ (R:RA)(p:Int):Pj (SD R) (.ok (.int p))=.ok (cst (AF R p)):=by
 unfold SD Pj;simp only[M.A9];rw[if_pos (KR p),GS (kf:=D.int) (vf:=λ c=>cst (some c)) GU];cases AF R p<;>rfl
def cB (A:LA)(p:Int×Int)(v:(Int×Int)×Option Int):putD (A.map λ kv=>pD kv.1) (A.map λ kv=>Xi kv.2) (pD p) (Xi v)=((Df A p v).map (λ kv=>pD kv.1),(Df A p v).map λ kv=>Xi kv.2):=K4 GN A p v
def oR (R:RA)(p:Int)(c:Int×Int):putD (R.map λ kv=>D.int kv.1) (R.map λ kv=>cst (some kv.2)) (.int p) (cst (some c))=((Df R p c).map (λ kv=>D.int kv.1),(Df R p c).map λ kv=>cst (some kv.2)):=K4 (kf:=D.int) (vf:=λ c=>cst (some c)) GU R p c
def QM {α:Type}(k v:α->D):∀l:List α,Qt (l.map λ x=>.tup [k x,v x])=some (l.map λ x=>(k x,v x))
 |[]=>rfl
 |x::l=>by rw[zf,Qt,QM k v l];rfl
def kO:∀(C C0:CA),((C0++C).map zJ).Nodup->(C.map λ kv=>(pD kv.1,cst (some kv.2))).foldl (λ z kv=>putD z.1 z.2 kv.1 kv.2) (C0.map (λ kv=>pD kv.1),C0.map λ kv=>cst (some kv.2))=((C0++C).map (λ kv=>pD kv.1),(C0++C).map λ kv=>cst (some kv.2))
 |[],C0,_=>by simp
 |kv::C,C0,hn=>by
  obtain⟨p,c⟩:=kv;rw[zf,zB];dsimp only;have h0:AF C0 p=none:=by
   rw[Sz];intro hm;rw[z4,z9] at hn;exact hn.2.2 p hm p (by simp) rfl
  have e:Df C0 p c=C0++[(p,c)]:=by unfold Df;rw[h0];rfl
  rw[K4 (vf:=λ c=>cst (some c)) GN,e,kO C (C0++[(p,c)]) (by rw[zO];exact hn),zO];rfl
def cC {C:CA}(hn:(C.map zJ).Nodup)(hl:C.length<=1000):iH (.lst (C.map λ kv=>.tup [pD kv.1,cst (some kv.2)]))=.ok (pU C):=by
 unfold iH;dsimp only;rw[QM (λ kv:(Int×Int)×(Int×Int)=>pD kv.1) (λ kv=>cst (some kv.2))];dsimp only;have e:=kO C [] hn;rw[if_pos ⟨by rw[zc];exact hl,by rw[List.all_map];exact List.all_eq_true.mpr λ x _=>rfl⟩];have e2:kG (C.map λ kv=>(pD kv.1,cst (some kv.2)))=(C.map (λ kv=>pD kv.1),C.map λ kv=>cst (some kv.2)):=e;rw[e2];rfl
abbrev AJ (m:Nat)(rs:List Road)(L:List Int)(A:LA)(K:List (Int×Int)):D:=.ins "Ladder" ["own_map","own_order","laid","kept_ones"] [Ar m rs,.lst (L.map D.int),Lj A,.lst (K.map pD)]
structure BO (m:Nat)(rs:List Road)(L:List Int)(A:LA)(K:List (Int×Int)):Prop where
 m1:1<=m
 m2:m<=16
 rl:rs.length<=60
 ok:∀r∈rs,Gd m r/\r.a≠r.b
 pm:L.Perm (AW m)
 la:A=BY rs L
 kn:K.Nodup
 km:∀p,p∈K↔∃c,Am A p=some c/\Bz rs p.1 p.2 (some c)
def BO.wF {m:Nat}{rs:List Road}{L:List Int}{A:LA}{K:List (Int×Int)}(h:BO m rs L A K):Fd m A:=by
 rw[h.la];exact (Ng h.pm h.ok).1
def BO.kL {m:Nat}{rs:List Road}{L:List Int}{A:LA}{K:List (Int×Int)}(h:BO m rs L A K):Tz m rs (DK L) (λ x y=>Am A (x,y)):=by
 rw[h.la];exact (Ng h.pm h.ok).2
def F7 {A:LA}{p:Int×Int}{c:Int×Int}(h:Am A p=some c):p∈A.map zJ:=by
 rw[<-HU];unfold Am at h;cases q:AF A p with
 |none=>rw[q] at h;cases h
 |some z=>rfl
def BO.XI {m:Nat}{rs:List Road}{L:List Int}{A:LA}{K:List (Int×Int)}(h:BO m rs L A K){p:Int×Int}(hp:p∈K):p.1≠p.2/\(0<=p.1/\p.1<m)/\0<=p.2/\p.2<m:=by
 obtain⟨c,hc,_⟩:=(h.km p).mp hp;exact h.wF.rg p (F7 hc)
def BO.kl {m:Nat}{rs:List Road}{L:List Int}{A:LA}{K:List (Int×Int)}(h:BO m rs L A K):K.length<1000:=
 Ct.len (m:=m) ⟨h.kn,λ x hx=>(h.XI hx).1 rfl,λ q hq=>⟨(h.XI hq).2.1,(h.XI hq).2.2⟩⟩ (by have:=h.m2;omega)
abbrev Ib (A:LA)(K:List (Int×Int)):CA:=K.map λ p=>(p,(Am A p).getD (0,0))
def Nh (A:LA)(K:List (Int×Int)):(Ib A K).map zJ=K:=by
 unfold Ib;rw[zT];exact (zar λ p _=>rfl).trans (List.map_id K)
def BO.kept {m:Nat}{rs:List Road}{L:List Int}{A:LA}{K:List (Int×Int)}(h:BO m rs L A K):Kept rs (λ x y=>Am A (x,y)) (λ x y=>AF (Ib A K) (x,y)):=λ x y c=>by
 have hn:((Ib A K).map zJ).Nodup:=by rw[Nh];exact h.kn
 constructor
 ·intro hf;have hm:=QC hf;unfold Ib at hm;obtain⟨p,hp,e⟩:=zC.mp hm;obtain⟨c',hc,bH⟩:=(h.km p).mp hp;rw[hc] at e;cases e;exact⟨hc,bH⟩
 ·rintro ⟨h1,h2⟩;refine ZR hn ?_;unfold Ib;exact zC.mpr ⟨(x,y),(h.km (x,y)).mpr ⟨c,h1,h2⟩,by rw[show Am A (x,y)=some c from h1];rfl⟩
abbrev SE (C:CA):CA:=C.map λ kv=>((kv.1.2,kv.1.1),kv.2)
def Xl {C:CA}(h:(C.map zJ).Nodup):((SE C).map zJ).Nodup:=by
 have e:(SE C).map zJ=(C.map zJ).map λ p=>(p.2,p.1):=by
  unfold SE;rw[zT,zT];rfl
 rw[e];exact (List.pairwise_map.mpr (h.imp fun {a b} h8 e=>h8 (by cases a;cases b;cases e;rfl)))
def QN (x y:Int):∀C:CA,AF (SE C) (x,y)=AF C (y,x)
 |[]=>rfl
 |((a,b),c)::C=>by
  unfold SE;rw[zf,AF,AF];have:=QN x y C;unfold SE at this;rw[this];by_cases h:a=y/\b=x
  ·rw[if_pos (by rw[h.1,h.2]),if_pos (by rw[h.1,h.2])]
  ·rw[if_neg (λ e=>h (by cases e;exact⟨rfl,rfl⟩)),if_neg (λ e=>h (by cases e;exact⟨rfl,rfl⟩))]
def tK (p q:Int×Int):Zt (cst (some p)) (cst (some q))=.ok (.bl (decide (p.1<q.1\/(p.1=q.1/\p.2<q.2)))):=by
 rw[<-EM];rfl
def Uv {m:M Out}{t r:OT}(h:WP m (λ ρ=>GF ρ=some t/\OT.sh .AK=r) (λ o=>match o with | .EY r' ρ=>GF ρ=some t/\r'=r | _=>False) (λ _=>False)):Eg m=.ok (t,r):=by
 cases m with
 |bad|ex x=>exact h.elim
 |ok o =>
  cases o with
  |next ρ=>obtain⟨h1,h2⟩:=(show GF ρ=some t/\OT.sh .AK=r from h);unfold Eg;dsimp only;rw[h1,<-h2]
  |EY r' ρ=>obtain⟨h1,h2⟩:=(show GF ρ=some t/\r'=r from h);unfold Eg;dsimp only;rw[h1,<-h2]
  |ret d|CQ d|brk d|cont d=>exact h.elim
def KS {F:OT->List D->M (OT×OT)}{ρ:Ad}{p:Option Nat}{t t2 r:OT}{aw:List D}{i:Nat}(h:ρ[i]?=some (some (.ow (.tree p t))))(hN:Zd t=true)(hF:F t aw=.ok (t2,r)):S6 i F ρ [] aw=.ok (ρ.set i (some (toCl p t2)),r):=by
 rw[Ze h rfl rfl hN hF,Ed]
def DV {A:LA}{p:Option Nat}{ρ:Ad}:FX 0 (some (.ow (.tree p (IZ A)))::ρ) []=.ok (true,A.map (λ kv=>pD kv.1),A.map λ kv=>Xi kv.2):=Dc
def HV {R:RA}{p:Option Nat}{ρ:Ad}:FX 0 (some (.ow (.tree p (XQ R)))::ρ) []=.ok (false,R.map (λ kv=>D.int kv.1),R.map λ kv=>cst (some kv.2)):=Dc
def Fd.ov {m:Nat}{A:LA}(h:Fd m A){p u w:Int}(hu:0<=u/\u<m)(hw:0<=w/\w<m):Fd m (QD p u A w):=by
 unfold QD;split
 ·exact h
 ·rename_i e;exact h.lay ⟨e,hu,hw⟩
def Fd.ou {m:Nat}{p u:Int}(hu:0<=u/\u<m):∀ {H:List Int}{A:LA},Fd m A->(∀x∈H,0<=x/\x<m)->Fd m (H.foldl (QD p u) A)
 |[],A,h,_=>h
 |w::H,A,h,hH=>by
  have r:=Fd.ou (A:=QD p u A w) (H:=H) (p:=p) hu (h.ov hu (hH w zd)) λ x hx=>hH x (ze _ hx);exact r
def Ej {α β:Type}{f:β->α->β}{l:List α}{i:Nat}{x:α}{b:β}(h:l[i]?=some x):(l.take (i+1)).foldl f b=f ((l.take i).foldl f b) x:=by
 rw[zV,h,Option.toList_some,List.foldl_append];rfl
def Fd.lo {m:Nat}{p:Int}{H0:List Int}(h0:∀x∈H0,0<=x/\x<m):∀ {H:List Int}{A:LA},Fd m A->(∀x∈H,0<=x/\x<m)->Fd m (H.foldl (jA p H0) A)
 |[],A,h,_=>h
 |w::H,A,h,hH=>by
  have r:=Fd.lo (p:=p) (A:=jA p H0 A w) (H:=H) h0 (Fd.ou (hH w zd) h h0) λ x hx=>hH x (ze _ hx);exact r
def Mr (c:Co):Tv (.ok (.sh (cst c)))=.ok (.sh (cst c)):=by
 cases c<;>rfl
abbrev wG (a b:List Co×Bool):Prop:=b.2=true/\(a.2=false\/(a.2=true/\O0 ltN a.1 b.1))
def oS (x:List Co):Acc wG (x,false):=.intro _ λ y h=>by cases h.1
def oT (x:List Co):Acc wG (x,true):=by
 have:=X8 x;induction this with
 |intro x _ ih =>
  refine .intro _ λ y h=>?_;obtain⟨y,b⟩:=y;rcases h.2 with e|⟨e,h2⟩
  ·dsimp only at e;subst e;exact oS y
  ·dsimp only at e;subst e;exact ih y h2
def Uw (n:Nat):C2 0 n=(AW n).map D.int:=by rw[Fo,Nc]
def GR.wH {m:Nat}{r:Road}(h:GR m r):Gd m r/\r.a≠r.b:=⟨⟨h.a0,h.a1,h.b0,h.b1,λ l hl=>(h.l0 l hl).1⟩,h.ab⟩
abbrev KP (rs:List Road)(A:LA)(p:Int×Int):Prop:=∃c,Am A p=some c/\Bz rs p.1 p.2 (some c)
abbrev tL (A:LA)(cs:List Co)(u w:Int):Bool:=match Am A (u,w) with
 |none=>false
 |some c=>decide (some c=atC cs w)
def cD {m s:Nat}{rs:List Road}{cs:List Co}{A:LA}(hR:Right m s rs cs)(Au:∀r∈rs,Gd m r){w:Int}(h0:0<=w)(h1:w<m):tL A cs s w=true↔KP rs A (s,w):=by
 have hm:=hR.ZE Au h0 h1;unfold tL KP;cases q:Am A ((s:Int),w) with
 |none=>simp
 |some c =>
  dsimp only;constructor
  ·intro h;have e:=of_decide_eq_true h;exact⟨c,rfl,e▸hm⟩
  ·rintro ⟨c',e,h⟩;cases e;exact decide_eq_true (h.Cg hm)
def oU {m:Nat}{rs:List Road}{A:LA}{K:List (Int×Int)}(hA:Fd m A)(hm:m<=20)(hn:K.Nodup)(hK:∀p∈K,KP rs A p):K.length<1000:=by
 have hr:∀p∈K,p.1≠p.2/\(0<=p.1/\p.1<m)/\0<=p.2/\p.2<m:=λ p hp=>by
  obtain⟨c,hc,_⟩:=hK p hp;exact hA.rg p (F7 hc)
 exact Ct.len (m:=m) ⟨hn,λ x hx=>(hr _ hx).1 rfl,λ q hq=>⟨(hr q hq).2.1,(hr q hq).2.2⟩⟩ hm
def KU:∀ds:List D,(∀d∈ds,Jh d=true)->FV (ds.map .sh)=true
 |[],_=>rfl
 |d::ds,h=>by
  rw[zf,FV,Gy,h d zd,KU ds λ x hx=>h x (ze _ hx)];rfl
def Ni {ds:List D}(h:∀d∈ds,Jh d=true):Tv (.ok (.lst (ds.map .sh)))=.ok (.lst (ds.map .sh)):=by
 unfold Tv;simp only[M.A9];rw[Gy,KU ds h];rfl
def cE (L:List Int):Tv (.ok (.lst ((L.map D.int).map .sh)))=.ok (.lst ((L.map D.int).map .sh)):=Ni λ d hd=>by
 obtain⟨x,_,rfl⟩:=zC.mp hd;rfl
def jC (K:List (Int×Int)):Tv (.ok (.lst ((K.map pD).map .sh)))=.ok (.lst ((K.map pD).map .sh)):=Ni λ d hd=>by
 obtain⟨x,_,rfl⟩:=zC.mp hd;exact ZK x
def cF (cs:List Co):Tv (.ok (.lst ((cs.map cst).map .sh)))=.ok (.lst ((cs.map cst).map .sh)):=Ni λ d hd=>by
 obtain⟨x,_,rfl⟩:=zC.mp hd;exact VU x
def oV (v:(Int×Int)×Option Int):Jh (Xi v)=true:=by
 obtain⟨c,l⟩:=v;cases l<;>rfl
def jD (A:LA):Tv (.ok (IZ A))=.ok (IZ A):=by
 unfold Tv IZ;simp only[M.A9];rw[Gy,KU _ λ d hd=>by
  obtain⟨x,_,rfl⟩:=zC.mp hd;exact oV x.2]
 rfl
def QO {L:List Int}(hn:L.Nodup){i:Nat}{x:Int}(h:L[i]?=some x):DK L x=i:=by
 have af:=(z3.mp h).1;have e:L=L.take i++x::L.drop (i+1):=by
  have h2:L.drop i=x::L.drop (i+1):=by
   rw[zai af];rw[zi af] at h;rw[zD h]
  rw[<-h2,za6]
 have hx:x∉L.take i:=λ hm=>by
  rw[e,z9] at hn;exact hn.2.2 x hm x zd rfl
 rw[e,VY hx,yM];omega
def VZ {L:List Int}(hn:L.Nodup){i:Nat}{y:Int}(h:y∈L.drop i):i<=DK L y:=by
 have hy:y∉L.take i:=λ hm=>by
  rw[<-za6 i L,z9] at hn;exact hn.2.2 y hm y h rfl
 have h1:=QF (pre:=L.take i) (post:=L.drop i) hy;rw[za6,yM] at h1;have h2:L.drop i≠[]:=λ e=>by rw[e] at h;cases h
 have h3:i<L.length:=by
  rw[Ne,List.drop_eq_nil_iff] at h2;omega
 omega
def jE {L:List Int}{i:Nat}{y:Int}(h:y∈L)(hr:i<=DK L y):y∈L.drop i:=by
 rw[<-za6 i L] at h;rcases zy.mp h with h|h
 ·have h1:=Ut (post:=L.drop i) h;rw[za6,yM] at h1;omega
 ·exact h
structure Rt (L:List Int)(C:CA)(s:Int)(i:Nat)(R:RA):Prop where
 nd:(R.map zJ).Nodup
 rg:∀k∈R.map zJ,k∈L
 st:BK (AF R s) (some (0,0))
 sd:∀y c,AF R y=some c->Oc (λ x y=>AF C (x,y)) (DK L) s y c
 cl:∀x y,DK L x<i->DK L x<DK L y->BK (AF R y) (Ah (AF R x) (AF C (x,y)))
structure kP (L:List Int)(C:CA)(s:Int)(i:Nat)(x:Int)(c0:Int×Int)(W:List Int)(R0 R:RA):Prop where
 nd:(R.map zJ).Nodup
 rg:∀k∈R.map zJ,k∈L
 sd:∀y c,AF R y=some c->Oc (λ x y=>AF C (x,y)) (DK L) s y c
 le:∀y,BK (AF R y) (AF R0 y)
 sm:∀y,DK L y<=i->AF R y=AF R0 y
 cw:∀y∈W,BK (AF R y) (Ah (some c0) (AF C (x,y)))
def kP.put {L:List Int}{C:CA}{s:Int}{i:Nat}{x:Int}{c0:Int×Int}{W:List Int}{R0 R:RA}(h:kP L C s i x c0 W R0 R){y:Int}{d v:Int×Int}(hy:y∈L)(hr:i<DK L y)(hx:DK L x=i)(o6:AF R0 x=some c0)(hd:AF C (x,y)=some d)(hv:DF (AF R y) (some (c0.1+d.1,c0.2+d.2))=some v):kP L C s i x c0 (W++[y]) R0 (Df R y v):=by
 have hle:BK (some v) (AF R y):=hv▸EE _ _;refine⟨KQ h.nd,λ k hk=>(Nf hk).elim (h.rg k) λ e=>e▸hy,λ z c hz=>?_,λ z=>?_,λ z hz=>?_,λ z hz=>?_⟩
 ·rw[HS] at hz;split at hz
  ·rename_i e;subst e;cases hz;rcases Bt (AF R z) (some (c0.1+d.1,c0.2+d.2)) with ⟨e,_⟩|⟨e,_⟩
   ·rw[hv] at e;exact h.sd z _ e.symm
   ·rw[hv] at e;cases e;have aD:=h.sd x c0 (by rw[h.sm x (by omega)];exact o6);exact .snoc aD (by omega) hd
  ·exact h.sd z c hz
 ·rw[HS];split
  ·rename_i e;subst e;exact Ap hle (h.le z)
  ·exact h.le z
 ·rw[HS,if_neg (λ e=>by subst e;omega)];exact h.sm z hz
 ·rw[HS];split
  ·rename_i e;subst e;rw[hd];exact hv▸EF _ _
  ·rename_i e;rcases zy.mp hz with hz|hz
   ·exact h.cw z hz
   ·exact (e (zg.mp hz)).elim
def kP.skip {L:List Int}{C:CA}{s:Int}{i:Nat}{x:Int}{c0:Int×Int}{W:List Int}{R0 R:RA}(h:kP L C s i x c0 W R0 R){y:Int}(hd:AF C (x,y)=none):kP L C s i x c0 (W++[y]) R0 R:=
 ⟨h.nd,h.rg,h.sd,h.le,h.sm,λ z hz=>by
  rcases zy.mp hz with hz|hz
  ·exact h.cw z hz
  ·rw[zg.mp hz,hd];cases AF R y<;>exact trivial⟩
def Rt.go {L:List Int}{C:CA}{s:Int}{i:Nat}{x:Int}{c0:Int×Int}{R0 R:RA}(hC:∀p c,AF C p=some c->p.2∈L)(h0:Rt L C s i R0)(hx:L[i]?=some x)(hn:L.Nodup)(hc:AF R0 x=some c0)(h:kP L C s i x c0 (L.drop (i+1)) R0 R):Rt L C s (i+1) R:=by
 have p7:=QO hn hx;refine⟨h.nd,h.rg,Ap (h.le s) h0.st,h.sd,λ u y hu hy=>?_⟩;by_cases e:DK L u<i
 ·rw[h.sm u (by omega)];exact Ap (h.le y) (h0.cl u y e hy)
 ·have e2:DK L u=i:=by omega
  have hi:=(z3.mp hx).1;have p8:u∈L:=Uu (by omega);have eu:u=x:=QG p8 (zv hx) (by omega);subst eu;rw[h.sm u (by omega),hc];cases q:AF C (u,y) with
  |none=>cases AF R y<;>exact trivial
  |some d =>
   have:=h.cw y (jE (hC _ _ q) (by omega));rw[q] at this;exact this
def Rt.skip {L:List Int}{C:CA}{s:Int}{i:Nat}{x:Int}{R:RA}(h0:Rt L C s i R)(hx:L[i]?=some x)(hn:L.Nodup)(hc:AF R x=none):Rt L C s (i+1) R:=by
 have p7:=QO hn hx;refine⟨h0.nd,h0.rg,h0.st,h0.sd,λ u y hu hy=>?_⟩;by_cases e:DK L u<i
 ·exact h0.cl u y e hy
 ·have hi:=(z3.mp hx).1;have eu:u=x:=QG (Uu (by omega)) (zv hx) (by omega);subst eu;rw[hc];cases AF C (u,y)<;>cases AF R y<;>exact trivial
def Rt.start {L:List Int}{C:CA}{s:Int}(hs:s∈L):Rt L C s 0 [(s,(0,0))]:=by
 refine⟨by simp,λ k hk=>by simp at hk;rw[hk];exact hs,by simp[AF,BK],λ y c h=>?_,λ x y h=>by omega⟩;simp only[AF] at h;split at h
 ·rename_i e;subst e;cases h;exact .nil
 ·cases h
def Rt.xK {m:Nat}{L:List Int}{C:CA}{s:Int}{R:RA}(h:Rt L C s L.length R)(hC:∀p c,AF C p=some c->p.1∈L/\p.2∈L):uO (DK L) (λ x y=>AF C (x,y)) s (AF R):=by
 refine⟨h.st,λ x y hr=>?_,h.sd⟩;cases q:AF C (x,y) with
 |none=>cases AF R x<;>cases AF R y<;>exact trivial
 |some d =>
  have hx:DK L x<L.length:=z5 hr (ZV L y);have:=h.cl x y hx hr;rw[q] at this;exact this
structure cG (m:Nat)(L:List Int)(C:CA)(s:Int)(R:RA)(W:List Int)(T:List Co):Prop where
 len:T.length=m
 no:∀x:Int,0<=x->x<m->x∉W->atC T x=none
 top:∀x∈W,BK (atC T x) (AF R x)
 cl:∀x∈W,∀y∈W,DK L y<DK L x->BK (atC T y) (Ah (atC T x) (AF C (x,y)))
 sd:∀(x:Int) c,0<=x->x<m->atC T x=some c->∃t n c1 c2,Oc (λ x y=>AF C (x,y)) (DK L) s t c1/\Sx (λ x y=>AF C (x,y)) (DK L) t n x c2/\c=(c1.1+c2.1,c1.2+c2.2)
def cG.step {m:Nat}{L:List Int}{C:CA}{s:Int}{R:RA}{W:List Int}{T:List Co}(hR:∀y c,AF R y=some c->Oc (λ x y=>AF C (x,y)) (DK L) s y c)(h:cG m L C s R W T){y:Int}(p9:0<=y)(wc:y<m)(qa:y∉W)(hW:∀x∈W,(0<=x/\x<m)/\DK L y<DK L x):
 cG m L C s R (W++[y]) (T.set y.toNat (Fu (AF R y::W.map λ x=>Ah (atC T x) (AF C (x,y))))):=by
 obtain⟨v,hv⟩:∃v,v=Fu (AF R y::W.map λ x=>Ah (atC T x) (AF C (x,y))):=⟨_,rfl⟩;rw[<-hv];have aT:∀i:Int,0<=i->atC (T.set y.toNat v) i=if i=y then v else atC T i:=λ i hi=>HP p9 hi (by rw[h.len];exact wc)
 have bX:∀x∈W,x≠y:=λ x hx e=>qa (e▸hx);refine⟨by rw[yS];exact h.len,λ x h0 h1 hx=>?_,λ x hx=>?_,λ x hx z hz hr=>?_,λ x c h0 h1 hx=>?_⟩
 ·rw[zy,not_or] at hx;rw[aT x h0,if_neg (λ e=>hx.2 (zg.mpr e))];exact h.no x h0 h1 hx.1
 ·rcases zy.mp hx with hx|hx
  ·rw[aT x (hW x hx).1.1,if_neg (bX x hx)];exact h.top x hx
  ·have e:=zg.mp hx;subst e;rw[aT x p9,if_pos rfl,hv];exact Mn zd
 ·rcases zy.mp hx with aD|aD
  ·rcases zy.mp hz with bo|bo
   ·rw[aT x (hW x aD).1.1,if_neg (bX x aD),aT z (hW z bo).1.1,if_neg (bX z bo)];exact h.cl x aD z bo hr
   ·have e:=zg.mp bo;rw[e] at hr ⊢;rw[aT x (hW x aD).1.1,if_neg (bX x aD),aT y p9,if_pos rfl,hv];exact Mn (ze _ (zC.mpr ⟨x,aD,rfl⟩))
  ·have e:=zg.mp aD;rw[e] at hr;rcases zy.mp hz with bo|bo
   ·have:=(hW z bo).2;omega
   ·rw[zg.mp bo] at hr;omega
 ·rw[aT x h0] at hx;split at hx
  ·rename_i e;subst e;rw[hv] at hx;rcases JX (AF R x::W.map λ z=>Ah (atC T z) (AF C (z,x))) with e|e
   ·rw[e] at hx;cases hx
   ·rw[hx] at e;rcases zp.mp e with e|e
    ·exact⟨x,0,c,(0,0),hR x c e.symm,.nil,by simp⟩
    ·obtain⟨z,hz,e⟩:=zC.mp e;obtain⟨p,q,e1,e2,rfl⟩:=DU e;obtain⟨t,n,c1,c2,g1,g2,rfl⟩:=h.sd z p (hW z hz).1.1 (hW z hz).1.2 e1;exact⟨t,n+1,c1,_,g1,.snoc g2 (hW z hz).2 e2,by simp only[zb6]⟩
  ·exact h.sd x c h0 h1 hx
def cG.start {m:Nat}{L:List Int}{C:CA}{s:Int}{R:RA}:cG m L C s R [] (zr m none):=by
 have dm:∀x:Int,atC (zr m none) x=none:=λ x=>by
  unfold atC;rw[zx,zaa];split<;>rfl
 exact⟨by simp,λ x _ _ _=>dm x,(λ x hx=>by cases hx),(λ x hx=>by cases hx),λ x c _ _ h=>by rw[dm] at h;cases h⟩
def oW {a b g i:Int}(ha:0<=a/\a<O1)(hb:0<=b/\b<O1)(hg:0<=g/\g<O1)(h0:0<=i)(h1:i<8):∃l:Option Int,AY (.lst [.AK,.int 0,.int 0,.int 1,.int a,.int b,.int g,.int g]) (.int i)=.ok (GL l)/\∀z,l=some z->0<=z/\z<O1:=by
 have ht:=QA;have hi:i=0\/i=1\/i=2\/i=3\/i=4\/i=5\/i=6\/i=7:=by omega
 rcases hi with rfl|rfl|rfl|rfl|rfl|rfl|rfl|rfl
 ·exact⟨none,rfl,λ z e=>by cases e⟩
 ·exact⟨some 0,rfl,λ z e=>by cases e;omega⟩
 ·exact⟨some 0,rfl,λ z e=>by cases e;omega⟩
 ·exact⟨some 1,rfl,λ z e=>by cases e;omega⟩
 ·exact⟨some a,rfl,λ z e=>by cases e;exact ha⟩
 ·exact⟨some b,rfl,λ z e=>by cases e;exact hb⟩
 ·exact⟨some g,rfl,λ z e=>by cases e;exact hg⟩
 ·exact⟨some g,rfl,λ z e=>by cases e;exact hg⟩
def oX {a b i:Int}(ha:0<=a/\a<O1)(hb:0<=b/\b<O1)(h0:0<=i)(h1:i<2):∃w:Int,AY (.lst [.int a,.int b]) (.int i)=.ok (.int w)/\0<=w/\w<O1:=by
 have hi:i=0\/i=1:=by omega
 rcases hi with rfl|rfl
 ·exact⟨a,rfl,ha⟩
 ·exact⟨b,rfl,hb⟩
def jF {α:Type}{a b c d e f g h:D}{x y:α}:(if [a,b,c,d,e,f,g,h].length<=1000 then x else y)=x:=if_pos (by simp)
def W0 (r:Road):dp (.ok (Bk r))=.ok (Bk r):=by
 obtain⟨a,b,l,w⟩:=r;cases l<;>rfl
def QP (i:Int):dp (.ok (.int i))=.ok (.int i):=rfl
def Ux {ρ:Ad}{i m:Nat}{aa:List (List Co)}{x y:Int}(h:ρ[i]?=some (some (.ow (.rows (Al aa)))))(hM:LQ m aa)(h0:0<=x)(h1:x<m)(h2:0<=y)(h3:y<m):fR i ρ (.ok (.int x)) (.ok (.int y))=.ok (cst (at2 aa x y)):=by
 unfold fR;rw[h];simp only[M.A9];rw[Sr hM h0 h1];exact iO hM h0 h1 h2 h3
def jG {ρ:Ad}{i m:Nat}{aa:List (List Co)}{x y:Int}{v:Co}(h:ρ[i]?=some (some (.ow (.rows (Al aa)))))(hM:LQ m aa)(h0:0<=x)(h1:x<m)(h2:0<=y)(h3:y<m):Vt i ρ (.ok (.int x)) (.ok (.int y)) (cst v)=.ok (.next (ρ.set i (some (.ow (.rows (Al (put2 aa x y v))))))):=by
 unfold Vt;rw[h];simp only[M.A9];rw[Sr hM h0 h1];exact iP hM h0 h1 h2 h3 i ρ v
def SF:∀(n:Nat) (B:List (Int×Int)) (L:List Int),L.length=n->(Qz n B L).Perm L
 |0,B,L,h=>by rw[List.length_eq_zero_iff.mp h];exact .refl _
 |n+1,B,L,h=>by
  have ae:L≠[]:=λ e=>by rw[e] at h;cases h
  have hm:=(Pr (B:=B) ae).1;rw[Qz,if_neg ae];refine List.Perm.trans ?_ (List.perm_cons_erase hm).symm;exact (SF n _ _ (by rw[List.length_erase_of_mem hm,h];rfl)).cons _
abbrev QQ (a b:Int->Co)(c:Co)(m:Nat):List Int:=((zw m).filter λ i:Nat=>decide (c≠none)&&decide (Ah (a i) (b i)=c)).map λ i:Nat=>(i:Int)
def cH (a b:Int->Co)(c:Co)(m:Nat):QQ a b c (m+1)=QQ a b c m++(if Ah (a m) (b m)≠none/\Ah (a m) (b m)=c then [(m:Int)] else []):=by
 unfold QQ;rw[List.range_succ,List.filter_append,z4];congr 1;by_cases h:Ah (a m) (b m)=c
 ·by_cases h2:c=none
  ·subst h2;rw[zat (by simp),if_neg (by rw[h];simp)];rfl
  ·rw[zas (by simp[h,h2]),if_pos ⟨by rw[h];exact h2,h⟩];rfl
 ·rw[zat (by simp[h]),if_neg (by simp[h])];rfl
def jH (a b:Int->Co)(c:Co)(m:Nat):(QQ a b c m).length<=m:=by
 unfold QQ;rw[zc];exact yJ (zb1 _ _) (Nat.le_of_eq List.length_range)
section
variable {prog:Program}{w:World}{A:Around}{E:Value->Shared->Prop}{s:Shared}
def Pw {K:Type}[DecidableEq K]{knd:KeyKind prog w K}{h h':Heap}{d I l:Addr}{i:Nat}{xs:List (K×Value)}(hd:h.DictOf knd d xs)(hit:h.IsListIter I l i)(sb:∀b o,b≠I->h.get? b=some o->h'.get? b=some o):h'.DictOf knd d xs:=by
 obtain⟨o,es,ep,h1,h2,h3,h4⟩:=hd;obtain⟨oi,i1,i2,i3⟩:=hit;refine⟨o,es,ep,sb d o (λ z=>?_) h1,h2,h3,h4⟩;subst z;rw[i1] at h1;cases h1;rw[i3] at h3;cases h3
def Uy {K:Type}[DecidableEq K]{knd:KeyKind prog w K}{R:Result->Shared->Prop}{d I l:Addr}{items:Array Value}{h0:Heap}(ps:List (K×Value×Value))(hh:A.handled=none)(ez:l≠I)(o7:d≠I)(jj:l≠d)
 (jk:ps.length=items.size) (hsz:items.size+1<=sizeLine) (hl:h0.IsList l items)
 (hp:∀(j:Nat) p,ps[j]?=some p->knd.is p.1 p.2.1=true/\∃t,items[j]?=some (.ref t)/\t≠d/\t≠I/\IsTup h0 t #[p.2.1,p.2.2]):
 ∀(m i:Nat) (xs:List (K×Value)) (s:Shared),items.size-i=m->i<=items.size->xs.length<=i->s.heap.IsListIter I l i->s.heap.DictOf knd d xs->(∀b o,b≠d->b≠I->h0.get? b=some o->s.heap.get? b=some o)->
  (∀h' tk,h'.DictOf knd d ((ps.drop i).foldl (λ acc p=>stored acc p.1 p.2.2) xs)->(∀b o,b≠d->b≠I->h0.get? b=some o->h'.get? b=some o)->R (.ok (.ret .none)) {s with heap:=h',toks:=tk})->
  codeAny (model prog w) A (.builtin "dict.update.loop" ⟨[.ref d,.ref I,rawInt i,.none],[]⟩) R s:=by
 intro m;induction m with
 |zero =>
  intro i xs s hm hi o8 hit hd hf h;have b6:i=items.size:=by omega
  refine codeAny_builtin HN ?_;rw[zal CP _];show wpAny _ A.in1 (pyNext (.ref I) >>= _) _ _ s;refine wpAny_bind (wpAny_pyNext_list_end (A:=A.in1) hh hit (hl.at λ o e=>hf l o jj ez e) (by simp[b6]) λ h' eb=>?_);have hd2:=Pw hd hit λ b o hb e=>eb b o hb e;show wpAny _ A.in1 (Dict.addKeywords d [] >>= _) _ _ _;unfold Dict.addKeywords;refine wpAny_bind (wpAny_bind ?_);refine wpAny_pure (wpAny_pure (wpAny_pure ?_));have ed:ps.drop i=[]:=by rw[List.drop_eq_nil_iff];omega
  rw[ed] at h;exact h h' s.toks hd2 λ b o h1 h2 e=>eb b o h2 (hf b o h1 h2 e)
 |succ m ih =>
  intro i xs s hm hi o8 hit hd hf h;have af:i<items.size:=by omega
  obtain⟨p,c5⟩:∃p,ps[i]?=some p:=⟨ps[i]'(by omega),zi _⟩;obtain⟨p3,t,ht,t1,t2,t3⟩:=hp i p c5;refine codeAny_builtin HN ?_;rw[zal CP _];show wpAny _ A.in1 (pyNext (.ref I) >>= _) _ _ s;refine wpAny_bind (wpAny_pyNext_list_item (A:=A.in1) hit (hl.at λ o e=>hf l o jj ez e) ht λ h' b7 sb=>?_);have hd2:h'.DictOf knd d xs:=Pw hd hit λ b o hb e=>(sb.2 b hb).trans e;have h7:∀b o,b≠d->b≠I->h0.get? b=some o->h'.get? b=some o:=λ b o h1 h2 e=>(sb.2 b h2).trans (hf b o h1 h2 e);have t4:IsTup h' t #[p.2.1,p.2.2]:=by
   obtain⟨o,e1,e2⟩:=t3;exact⟨o,h7 t o t1 t2 e1,e2⟩
  dsimp only;refine wpAny_bind (wpAny_holding (wpAny_bind (wpAny_tryCatch (Ph t4 ?_))));show wpAny _ A.in1 (holding [p.2.1,p.2.2] (dictSet d p.2.1 p.2.2)) _ _ _;refine wpAny_holding (wpAny_dictSet_pairs (knd:=knd) (hsz:=by omega) p3 hd2 λ h3 f8 jl=>?_);refine wpAny_pure ⟨plainId_quiet CP _,?_⟩;have f9:h3.IsListIter I l (i+1):=by
   obtain⟨o,e1,e2⟩:=b7;exact⟨o,(jl.2 I (zY o7)).trans e1,e2⟩
  have ed:ps.drop i=p::ps.drop (i+1):=by
   rw[zai (by omega:i<ps.length)];rw[zi (by omega:i<ps.length)] at c5;rw[zD c5]
  rw[ed,zB] at h;have jg:(stored xs p.1 p.2.2).length<=i+1:=by
   unfold stored;split
   ·rw[zc];omega
   ·rw[zA,yP];omega
  exact ih (i+1) (stored xs p.1 p.2.2) {s with heap:=h3,toks:=s.toks+1} (by omega) (by omega) jg f9 f8 (λ b o h1 h2 e=>(jl.2 b h1).trans (h7 b o h1 h2 e)) h
def Od {K:Type}[DecidableEq K]{knd:KeyKind prog w K}{Q:Value->Shared->Prop}{l:Addr}{items:Array Value}{n:Nat}{sl:Array (Option Value)}(ps:List (K×Value×Value))(hh:A.handled=none)
 (jk:ps.length=items.size) (hsz:items.size+1<=sizeLine) (hl:s.heap.get? l=some {cls:=.type "list",data:=.seq items n,slots:=sl})
 (hp:∀(j:Nat) p,ps[j]?=some p->knd.is p.1 p.2.1=true/\∃t,items[j]?=some (.ref t)/\IsTup s.heap t #[p.2.1,p.2.2])
 (h:∀h' tk,h'.DictOf knd s.heap.objs.size (ps.foldl (λ acc p=>stored acc p.1 p.2.2) [])->(∀b o,s.heap.get? b=some o->h'.get? b=some o)->Q (.ref s.heap.objs.size) {s with heap:=h',toks:=tk}):
 wpAny (model prog w) A (call (.type "dict") [.ref l]) Q E s:=by
 refine callType_codes (Q₁:=λ obj s₁=>obj=.ref s.heap.objs.size/\s₁={s with heap:=s.heap.push {cls:=.type "dict",data:=.dict #[]} }) PySem.F.kt_called_dict (PySem.F.kt_typeCall_dict_1 _) PySem.F.entry_dict_init
  (kt_code_dict_new _ ⟨rfl,rfl⟩) λ obj s₁ h₁=>?_
 obtain⟨rfl,rfl⟩:=h₁;have hS:(s.heap.push {cls:=.type "dict",data:=.dict #[]}).get? s.heap.objs.size=some {cls:=.type "dict",data:=.dict #[]}:=zE _ rfl;have ll:l<s.heap.objs.size:=zt hl;have bZ:(s.heap.push {cls:=.type "dict",data:=.dict #[]}).get? l=some {cls:=.type "list",data:=.seq items n,slots:=sl}:=zo _ hl;refine⟨⟨_,hS,rfl⟩,PySem.F.args_dict_init_2 _ _,?_⟩;have TD:Looks (model prog w) (s.heap.push {cls:=.type "dict",data:=.dict #[]}) (typeOf (.ref s.heap.objs.size)) (.type "dict"):=(Looks.ld hS).andThen .now;have TL:Looks (model prog w) (s.heap.push {cls:=.type "dict",data:=.dict #[]}) (typeOf (.ref l)) (.type "list"):=(Looks.ld bZ).andThen .now;unfold Builtin.«dict.__init__» Dict.selfAndRest Dict.notOrdered;dsimp only;rw[if_pos (by decide)];refine wpAny_bind (wpAny_bind (wpAny_bind (TD.at ?_)));rw[if_neg (by decide)];refine wpAny_pure ?_;unfold Dict.addrOf;refine wpAny_bind (wpAny_pure (wpAny_pure ?_));unfold Dict.updateCommon Dict.updateFrom;dsimp only;refine wpAny_bind (TL.at ?_);rw[if_pos (by decide)];refine wpAny_bind (Li (A:=A.in1.in1) hh bZ λ h2 vx ga=>?_);rw[if_pos (show (none:Option Value).isNone=true from rfl)];refine wpAny_bind (wpAny_rule ?_);have aF:h2.IsList l items:=⟨_,ga _ _ bZ,rfl,n,rfl⟩;have jm:=ga _ _ hS;refine wpAny_bind (wpAny_pyIter_list aF ?_);refine wpAny_pure ⟨plainId_quiet CP _,?_⟩;have lz:s.heap.objs.size<h2.objs.size:=zt jm;have o9:∀b o,s.heap.get? b=some o->(h2.push {cls:=.type "list_iterator",data:=.fields #[.ref l,.int 0 0]}).get? b=some o:=λ b o e=>zo _ (ga _ _ (zo _ e));have f8:(h2.push {cls:=.type "list_iterator",data:=.fields #[.ref l,.int 0 0]}).DictOf knd s.heap.objs.size []:=
  ⟨_,#[],0,zo _ jm,⟨rfl,rfl,rfl⟩,rfl,(by intro e he;simp at he),.nil,yY⟩
 have af:∀b o,s.heap.get? b=some o->b≠s.heap.objs.size/\b≠h2.objs.size:=λ b o e=>by
  have:=zt e;exact⟨z6 this,z6 (Nat.lt_trans this lz)⟩
 refine Uy (A:=A.in1) (knd:=knd) (l:=l) (h0:=s.heap) ps hh (z6 (Nat.lt_trans ll lz)) (z6 lz) (z6 ll) jk hsz ⟨_,hl,rfl,n,rfl⟩ (λ j p hj=>?_) items.size 0 [] _ (by omega) (by omega) (by simp) ⟨_,zE _ rfl,rfl,rfl⟩ f8 (λ b o h1 e8 e=>o9 b o e) λ h' tk bj pc=>?_
 ·obtain⟨q1,t,q2,q3⟩:=hp j p hj;obtain⟨o2,e2,_⟩:=id q3;exact⟨q1,t,q2,(af _ _ e2).1,(af _ _ e2).2,q3⟩
 ·exact⟨rfl,h h' tk bj λ b o e=>pc b o (af _ _ e).1 (af _ _ e).2 e⟩
end
structure Xm where
 (t:Addr) (κ:Key) (v:V)
abbrev oY (H:Hp)(p:Xm):Prop:=H p.t=some (.tup [kV p.κ,p.v])
abbrev jI (ps:List Xm):List (Key×V):=ps.foldl (λ acc p=>putK acc p.κ p.v) []
abbrev yD (X:Cx)(te:TE):TE:=λ σ H Q=>te σ H λ x H1=>∃(l:Addr) (ps:List Xm),x=.ref l/\Di X.K H1 l (ps.map λ p=>V.ref p.t)/\(∀p∈ps,oY H1 p)/\ps.length<=1000/\∀r,H1 r=none->Q (.ref r) (upd H1 r (.dK (jI ps)))
def SG:∀ {ps:List Xm}{us:List Value},Vals (ps.map λ p=>V.ref p.t) us->us=ps.map λ p=>yL p.t
 |[],_,.nil=>rfl
 |p::ps,_,.cons h t=>by
  cases h;rw[zf,<-SG t]
def kQ:∀ {ps:List Xm}{qs:List (Key×Value×Value)}{kvs:List (Key×V)}{xs:List (Key×Value)},Paired (λ(p:Xm) (q:Key×Value×Value)=>p.κ=q.1/\RelV p.v q.2.2) ps qs->KV kvs xs->KV (ps.foldl (λ acc p=>putK acc p.κ p.v) kvs) (qs.foldl (λ acc p=>stored acc p.1 p.2.2) xs)
 |[],_,_,_,.nil,h=>h
 |p::ps,_,_,_,.cons (b:=q) hq t,h=>by
  obtain⟨q1,q2,q3⟩:=q;obtain⟨e1,e3⟩:=hq;dsimp only at e1 e3;subst e1;have r:=kQ (ps:=ps) t (h.put p.κ e3);exact r
def W2:∀(ps:List Xm) (kvs:List (Key×V)),(ps.foldl (λ acc p=>putK acc p.κ p.v) kvs).length<=kvs.length+ps.length
 |[],kvs=>zu _
 |p::ps,kvs=>by
  have h1:=W2 ps (putK kvs p.κ p.v);have h2:=Dp kvs p.κ p.v;rw[zB,zj];omega
def W3 {h:Heap}{H:Hp}{P:Program}{w:World}(ok:G7 P w H h):∀ {ps:List Xm},(∀p∈ps,oY H p)->∃qs:List (Key×Value×Value),Paired (λ(p:Xm) (q:Key×Value×Value)=>p.κ=q.1/\RelV p.v q.2.2) ps qs/\
 ∀(j:Nat) q,qs[j]?=some q->(B3 P w).is q.1 q.2.1=true/\∃t,(ps.map λ p=>yL p.t)[j]?=some (.ref t)/\IsTup h t #[q.2.1,q.2.2]
 |[],_=>⟨[],.nil,λ j q e=>by simp at e⟩
 |p::ps,ho=>by
  obtain⟨qs,h1,h2⟩:=W3 ok λ p hp=>ho p (ze _ hp);have o1:=ho p zd;obtain⟨_,ac,r,it⟩:=(show BS P w H h p.t (.tup [kV p.κ,p.v]) from ok p.t _ o1);obtain⟨u,v,rfl,ru,rv⟩:=r.two;refine⟨(p.κ,u,v)::qs,.cons ⟨rfl,rv⟩ h1,λ j q e=>?_⟩;cases j with
  |zero =>
   rw[yW] at e;cases e;exact⟨Lb ru,p.t,by simp,it⟩
  |succ j =>
   rw[zL] at e;obtain⟨a1,t,a2,a3⟩:=h2 j q e;exact⟨a1,t,by simpa using a2,a3⟩
section
variable {X:Cx}{WX:Str->Hp->Prop}{c:Bool}{P0:E8}{P:Addr->Prop}{H:Hp}{σ:St}{ρ:Ad}{a b e:Expr}{f g:Ad->M D}{fn:Ad->M OT}{pos:Pos}{te:TE}
def cI {p:Pos}(hc:X.calm=true)(hg:Gl X "dict")(hm:X.mg "dict" = none)(he:PE X e te)(hv:bootBuiltins "dict" = some (.type "dict"):=by decide +kernel)(hs: ~~~(starEach [e] X.env=[(false,eval e X.env)])):
 PE X (.Call (.Name "dict" p) [e] [] pos) (yD X te):=by
 intro pins s σ H Q I h;refine wpAny_Call_Name_kw (Du I hg hm hv ?_);refine zZ ?_ hs;rw[hs];refine zag (Bj (he pins s σ H _ I h) λ u s1 zz=>?_);obtain⟨x,H1,I1,r1,q1⟩:=zz;obtain⟨l,ps,rfl,hq,ho,hlen,q⟩:=q1;cases r1;refine zao ?_;obtain⟨ac,r',pl,hz⟩:=I1.list hq;have hits:=SG r';subst hits;obtain⟨⟨pd,jn,jo,gc⟩,n0,o1,o2,o3,o4⟩:=pl;dsimp only at o2 o3 o4;subst o2 o3 o4;obtain⟨qs,h1,h2⟩:=W3 I1.Au ho;refine Od (knd:=B3 X.prog X.w) qs (I1.ok.hd hc) (by rw[zm,zc,<-h1.length]) (AD (by rw[zm,zc];omega)) o1 (λ j p hj=>?_) λ h' tk hd kp=>?_
 ·obtain⟨a1,t,a2,a3⟩:=h2 j p hj;exact⟨a1,t,by rw[List.getElem?_toArray];exact a2,a3⟩
 ·have pe:=kQ h1 (show KV [] [] from .nil);have dl:s1.heap.objs.size<=s1.heap.objs.size:=zu _;have bB:=I1.Au.fresh dl;have pf:=W2 ps [];exact⟨.ref _,_,I1.laid (t':=tk) (o:=.dK (jI ps)) kp dl ⟨yQ (AD (by unfold jI;simp at pf;omega)),beq_eq_false_iff_ne.mpr (zY (z6 I1.big)),_,pe,hd⟩,rfl,q _ bB⟩
abbrev cJ (d:D):M OT:=match d with
 | .lst xs=>(match Qt xs with|some l=>if l.length<=1000/\(l.all λ kv=>keyOk false kv.1)=true then .ok (.Bq false (kG l).1 ((kG l).2.map .sh)) else .bad|none=>.bad)
 |_=>.bad
def W4 {K:za}{H:Hp}{P:Addr->Prop}:∀ {xs:List V}{ds:List D}{l:List (D×D)},Ag K (del H P) xs ds->Qt ds=some l->(l.all λ kv=>keyOk false kv.1)=true->
 ∃ps:List Xm,xs=ps.map (λ p=>V.ref p.t)/\(∀p∈ps,oY H p)/\Paired (λ(p:Xm) (kv:D×D)=>kv.1=Cy p.κ/\BX K (del H P) p.v kv.2) ps l
 |_,[],l,.nil,e,_=>by cases e;exact⟨[],rfl,λ p hp=>(by cases hp),.nil⟩
 |_,d::ds,l,.cons hd ht,e,hk=>by
  unfold Qt at e;split at e
  ·rename_i be;cases be
  ·rename_i k v r be;cases be;obtain⟨l',e1,e2⟩:=yT.mp e;subst e2;rw[List.all_cons,zF] at hk;obtain⟨ps,q1,q2,q3⟩:=W4 ht e1 hk.2;have hK:=Ef hk.1;cases hK with
   |k κ =>
    cases hd with
    | @tup tt _ _ h1 h2 =>
     obtain⟨x,y,rfl,hx,hy⟩:=h2.two;have ex:=hx.fZ;subst ex;refine⟨⟨tt,κ,y⟩::ps,by rw[zf,q1],λ p hp=>?_,.cons ⟨rfl,hy⟩ q3⟩;rcases zp.mp hp with rfl|hp
     ·exact (Ao h1).2
     ·exact q2 p hp
  ·cases e
def W5 {K:za}{H:Hp}{P:Addr->Prop}:∀ {ps:List Xm}{l:List (D×D)}{kvs:List (Key×V)}{vs:List D},Paired (λ(p:Xm) (kv:D×D)=>kv.1=Cy p.κ/\BX K (del H P) p.v kv.2) ps l->Ag K (del H P) (kvs.map yZ) vs->
 ∃aE,l.foldl (λ z kv=>putD z.1 z.2 kv.1 kv.2) (kvs.map (λ kv=>Cy kv.1),vs)=((ps.foldl (λ acc p=>putK acc p.κ p.v) kvs).map (λ kv=>Cy kv.1),aE)/\Ag K (del H P) ((ps.foldl (λ acc p=>putK acc p.κ p.v) kvs).map yZ) aE
 |[],_,kvs,vs,.nil,h=>⟨vs,rfl,h⟩
 |p::ps,_,kvs,vs,.cons (b:=kv) hq t,h=>by
  obtain⟨k,d⟩:=kv;obtain⟨e1,e2⟩:=hq;dsimp only at e1 e2;subst e1;have aQ:∃aE,(putD (kvs.map λ kv=>Cy kv.1) vs (Cy p.κ) d)=((putK kvs p.κ p.v).map (λ kv=>Cy kv.1),aE)/\Ag K (del H P) ((putK kvs p.κ p.v).map yZ) aE:=by
   unfold putD putK;rw[Jn (fk:=Cy) Gz];by_cases hh:(kvs.any λ kv=>decide (kv.1=p.κ))=true
   ·rw[if_pos hh,if_pos hh];refine⟨_,by rw[GB (fk:=Cy) Gz],?_⟩;rw[<-GA (fk:=Cy) Gz];exact GC e2 h
   ·rw[if_neg hh,if_neg hh];refine⟨_,by rw[z4];rfl,?_⟩;rw[z4];exact h.snoc e2
  obtain⟨vy,g1,g2⟩:=aQ;obtain⟨ph,g3,g4⟩:=W5 t g2;refine⟨ph,?_,g4⟩;rw[zB];dsimp only;rw[g1];exact g3
def cK {p:Pos}(hc:X.calm=true)(hg:Gl X "dict")(hm:X.mg "dict" = none)(he:DE X WX true e f)(hv:bootBuiltins "dict" = some (.type "dict"):=by decide +kernel)(hs: ~~~(starEach [e] X.env=[(false,eval e X.env)])):
 DN X WX (.Call (.Name "dict" p) [e] [] pos) (λ ρ=>(f ρ).bind cJ):=by
 obtain⟨te,e1,e2⟩:=he;refine⟨_,cI hc hg hm e1 hv hs,λ P0 P σ H Q ρ E h=>?_⟩;refine e2 P0 P σ H _ ρ E ?_;dsimp only at h;refine XO h λ d h=>?_;intro v H1 s1 hv;unfold cJ at h;split at h
 ·rename_i xs;split at h
  ·rename_i l eb;split at h
   ·rename_i hl;cases hv with
    |lst hs hh =>
     obtain⟨ps,q1,q2,q3⟩:=W4 hh eb hl.2;subst q1;obtain⟨aE,g1,g2⟩:=W5 (kvs:=[]) q3 .nil;refine⟨_,ps,rfl,hs.B7,q2,by rw[q3.length];exact hl.1,λ r hr=>?_⟩;have e3:kG l=((jI ps).map (λ kv=>Cy kv.1),aE):=g1;rw[e3] at h;have bm:∀a∈[r],H1 a=none:=λ a ha=>by rw[zg.mp ha];exact hr
     exact h _ [r] _ (s1.trans (AQ hr _)) (λ a ha=>DR s1 (bm a ha)) (by simp) (.dK Aq (g2.mono (Cz (AQ hr _) bm)).ows)
   ·exact h.elim
  ·exact h.elim
 ·exact h.elim
end
def tM {α:Type}(l:List α):WK [.lst (l.map λ _=>D.bl true)]=.ok (.bl true):=by
 have e:(l.map λ _=>D.bl true)=(l.map λ _=>true).map D.bl:=by rw[zT];rfl
 rw[e,GQ];simp
def kR:∀(C C0:RA),((C0++C).map zJ).Nodup->(C.map λ kv=>(D.int kv.1,cst (some kv.2))).foldl (λ z kv=>putD z.1 z.2 kv.1 kv.2) (C0.map (λ kv=>D.int kv.1),C0.map λ kv=>cst (some kv.2))=((C0++C).map (λ kv=>D.int kv.1),(C0++C).map λ kv=>cst (some kv.2))
 |[],C0,_=>by simp
 |kv::C,C0,hn=>by
  obtain⟨p,c⟩:=kv;rw[zf,zB];dsimp only;have h0:AF C0 p=none:=by
   rw[Sz];intro hm;rw[z4,z9] at hn;exact hn.2.2 p hm p (by simp) rfl
  have e:Df C0 p c=C0++[(p,c)]:=by unfold Df;rw[h0];rfl
  rw[K4 (vf:=λ c=>cst (some c)) GU,e,kR C (C0++[(p,c)]) (by rw[zO];exact hn),zO];rfl
def oZ {C:RA}(hn:(C.map zJ).Nodup)(hl:C.length<=1000):cJ (.lst (C.map λ kv=>.tup [.int kv.1,cst (some kv.2)]))=.ok (XQ C):=by
 unfold cJ;dsimp only;rw[QM (λ kv:Int×(Int×Int)=>D.int kv.1) (λ kv=>cst (some kv.2))];dsimp only;have e:=kR C [] hn;rw[if_pos ⟨by rw[zc];exact hl,by rw[List.all_map];exact List.all_eq_true.mpr λ x _=>rfl⟩];have e2:kG (C.map λ kv=>(D.int kv.1,cst (some kv.2)))=(C.map (λ kv=>D.int kv.1),C.map λ kv=>cst (some kv.2)):=e;rw[e2];rfl
abbrev FY (c:Int->Int->Co)(p:Int)(D:List Int)(h:Int):Bool:=decide (c p h≠none) && !(D.any λ x=>decide (Ah (c p x) (c x h)=c p h))
abbrev AL (c:Int->Int->Co)(p:Int)(D:List Int):List Int:=(zw D.length).filterMap λ i=>if FY c p (D.take i) (D.getD i 0)=true then some (D.getD i 0) else none
def DY (c:Int->Int->Co)(p:Int)(D:List Int)(h:Int):AL c p (D++[h])=AL c p D++(if FY c p D h=true then [h] else []):=by
 unfold AL;rw[zA,yP,List.range_succ,List.filterMap_append];congr 1
 ·have cg:∀(l:List Nat) (f g:Nat->Option Int),(∀i∈l,f i=g i)->l.filterMap f=l.filterMap g:=by
   intro l f g;induction l with
   |nil=>intro _;rfl
   |cons a r ih=>intro h;rw[za0,za0,h a zd,ih λ i hi=>h i (ze _ hi)]
  refine cg _ _ _ λ i hi=>?_;have hi:=zac.mp hi;rw[List.take_append_of_le_length (by omega),zx,zx,yU hi]
 ·have e1:(D++[h]).take D.length=D:=by rw[List.take_append_of_le_length (zu _),zU]
  have e2:(D++[h]).getD D.length 0=h:=by rw[zx,yX (zu _)];simp
  rw[za0,List.filterMap_nil,e1,e2];by_cases q:FY c p D h=true
  ·rw[if_pos q,if_pos q]
  ·rw[if_neg q,if_neg q]
def Dr (c:Int->Int->Co)(p:Int)(D:List Int):∀x∈AL c p D,x∈D:=by
 intro x hx;obtain⟨i,hi,e⟩:=zax.mp hx;have hi:=zac.mp hi;split at e
 ·cases e;rw[zx,zi hi];exact zba hi
 ·cases e
abbrev XR (m:Nat)(c:Int->Int->Co):Prop:=∀x y z:Int,(0<=x/\x<m)->(0<=y/\y<m)->(0<=z/\z<m)->BK (c x z) (Ah (c x y) (c y z))
def XR.turn {m:Nat}{c:Int->Int->Co}(h:XR m c):XR m λ x y=>c y x:=λ x y z a b d=>by rw[Bc];exact h z y x d b a
def SH {m:Nat}{c:Int->Int->Co}(T:XR m c){p y x h:Int}(hp:0<=p/\p<m)(hy:0<=y/\y<m)(hx:0<=x/\x<m)(hh:0<=h/\h<m)(h1:Ah (c p y) (c y x)=c p x)(h2:Ah (c p x) (c x h)=c p h):Ah (c p y) (c y h)=c p h:=by
 refine JW ?_ (T p y h hp hy hh);rw[<-h2,<-h1,De,Bc (c p y),Bc (c p y)];exact C1 _ (T y x h hy hx hh)
def Xn {m:Nat}{c:Int->Int->Co}(T:XR m c){p h:Int}(hp:0<=p/\p<m)(hh:0<=h/\h<m){D:List Int}(hD:∀x∈D,0<=x/\x<(m:Int))(hn:c p h≠none):(AL c p D).any (λ x=>decide (Ah (c p x) (c x h)=c p h))=D.any λ x=>decide (Ah (c p x) (c x h)=c p h):=by
 have key:∀n:Nat,n<=D.length->((D.take n).any (λ x=>decide (Ah (c p x) (c x h)=c p h))=true->(AL c p (D.take n)).any (λ x=>decide (Ah (c p x) (c x h)=c p h))=true):=by
  intro n;induction n with
  |zero=>intro _ q;simp at q
  |succ n ih =>
   intro hl q;have af:n<D.length:=by omega
   have e:D.take (n+1)=D.take n++[D[n]]:=by rw[zV,zi af];rfl
   rw[e,List.any_append,Bool.or_eq_true] at q;rw[e,DY,List.any_append,Bool.or_eq_true];by_cases z:(D.take n).any (λ x=>decide (Ah (c p x) (c x h)=c p h))=true
   ·exact .inl (ih (by omega) z)
   ·right;have q2:Ah (c p D[n]) (c D[n] h)=c p h:=by
     rcases q with q|q
     ·exact absurd q z
     ·simpa using q
    have we:FY c p (D.take n) D[n]=true:=by
     unfold FY;rw[zF];refine⟨decide_eq_true λ w=>hn ?_,?_⟩
     ·rw[<-q2,w];rfl
     ·rw[Bool.not_eq_true',zb5];intro w;apply z;obtain⟨y,hy,w⟩:=zbb.mp w;exact zbb.mpr ⟨y,hy,decide_eq_true (SH T hp (hD y (yK hy)) (hD _ (zba af)) hh (of_decide_eq_true w) q2)⟩
    rw[if_pos we,zab,decide_eq_true q2];rfl
 have k2:=key D.length (zu _);rw[zU] at k2;cases q:D.any λ x=>decide (Ah (c p x) (c x h)=c p h) with
 |true=>exact k2 q
 |false =>
  rw[zb5];intro w;obtain⟨x,hx,w⟩:=zbb.mp w;rw[zb5] at q;exact q (zbb.mpr ⟨x,Dr c p D x hx,w⟩)
structure Xo (K:za)(mg:Str->Option Value)(x:Str):Prop where
 ex:∃f,zH K mainGlobals x=some (some (.ref f))/\mg x=some (.ref f)
def kS {K:za}{mg:Str->Option Value}{h:Heap}{x:Str}{st:Stmt}(X:K.In h)(G:h.Ns mainGlobals mg)(p:FP K x st):Xo K mg x:=by
 obtain⟨f,_,_,_,_,_,_,_,_,_,a,_⟩:=p.ex;exact⟨f,a,PySem.W.mg_of X G a⟩
abbrev Xp (x1:Str)(F1:List D->M OT)(x2:Str)(F2:List D->M OT)(m:M (List D))(d:D):M OT:=match d with
 | .EW x=>if x=x1 then m.bind F1 else if x=x2 then m.bind F2 else .bad
 |_=>.bad
section
variable {X:Cx}{E:XK}{WX:Str->Hp->Prop}{c:Bool}{e:Expr}{es:List Expr}{fs:Ad->M (List D)}{f:Ad->M D}{pos:Pos}
def cL {x:Str}(G:Xo X.K X.mg x)(hg:Gl X x)(hd:(x==("__debug__" : Str))=false:=by decide):DE X WX c (.Name x pos) (λ _=>.ok (.EW x)):=by
 obtain⟨f,a,b⟩:=G.ex;exact⟨_,dR (v:=.ref f) hg b rfl hd,λ P0 P σ H Q ρ E h=>h _ H (Ae.refl H) (.EW a trivial)⟩
abbrev pA (X:Cx)(E:XK)(tc:TE)(t:TA):TE:=λ σ H Q=>tc σ H λ v H1=>∃fa fd ps k sp,v=.ref fa/\Dn X.prog X.w X.K X.mg X.base (Ua X.prog X.w X.base) k fa fd ps sp/\BE k X.A/\zX X.K (.ref fa)=true/\Binds X.K fd ps []/\t σ H1 λ vs H2=>sp (vs++[]) H2 Q E
def cM {y:Str}{p:Pos}{tc:TE}{t:TA}(hx:Gk (Ua X.prog X.w X.base) X E)(hc:PE X (.Name y p) tc)(ha:PA X (e::es) t)(he: ~~~(starEach (e::es) X.env=(false,eval e X.env)::starEach es X.env))(ao: ~~~((backTo pos (starEach es X.env)).any (·.1)=false)):
 PE X (.Call (.Name y p) (e::es) [] pos) (pA X E tc t):=by
 intro pins s σ H Q I h;refine wpAny_Call_Name_kw (Bj (hc pins s σ H _ I h) λ u s1 zz=>?_);obtain⟨v,H1,I1,r,fa,fd,ps,k,sp,ev,F,hr,hk,hb,q⟩:=zz;subst ev;obtain rfl:u=yL fa:=r;refine PySem.W.callWith_K (h₀:=X.base) I1.ok.mod.XI hk (Bj (ha pos pins s1 σ H1 _ I1 q) λ us s2 zz=>?_) he ao;obtain⟨vs,H2,I2,r2,q2⟩:=zz;exact⟨I2.Mt,Q2 F hr hb .nil hx I2 r2 q2⟩
def SI {k1 k2 n:Nat}{F1 F2:List D->M OT}{x1 x2 y:Str}{p:Pos}(xo:FU X E)(V1:Xo X.K X.mg x1)(G1:BD X.prog X.w X.K X.mg X.base x1 k1 n F1)(h1:BE k1 X.A)(V2:Xo X.K X.mg x2)(G2:BD X.prog X.w X.K X.mg X.base x2 k2 n F2)(h2:BE k2 X.A)(hv:DE X (D2 X.K E) true (.Name y p) f)(ha:DA X (D2 X.K E) true (e::es) fs)(hn:(e::es).length=n)(he: ~~~(starEach (e::es) X.env=(false,eval e X.env)::starEach es X.env))(ao: ~~~((backTo pos (starEach es X.env)).any (·.1)=false)):
 DN X (D2 X.K E) (.Call (.Name y p) (e::es) [] pos) (λ ρ=>(f ρ).bind (Xp x1 F1 x2 F2 (fs ρ))):=by
 obtain⟨f1,n1,m1⟩:=V1.ex;obtain⟨f2,n2,m2⟩:=V2.ex;obtain⟨yy,wg,wj,dq,bC,wk,br⟩:=G1.ex;obtain⟨yz,wl,wm,qb,aN,lm,qd⟩:=G2.ex;rw[m1] at bC;rw[m2] at aN;cases bC;cases aN;obtain⟨tc,c1,c2⟩:=hv;obtain⟨ta,a1,a2,a3⟩:=ha;refine⟨_,cM xo.call c1 a1 he ao,λ P0 P σ H Q ρ V h=>?_⟩;dsimp only at h;refine c2 P0 P σ H _ ρ V ?_;cases q:f ρ with
 |bad|ex x=>rw[q] at h;exact h
 |ok d =>
  rw[q] at h;simp only[M.A9] at h;intro v H1 s1 hv;have fin:∀ds,fs ρ=.ok ds->∀ {F:List D->M OT},WT X.K (D2 X.K E) P H Q (F ds)->∀vs H2,Ae H1 H2->Ag X.K (del H2 P) vs ds->spT X.K n F (vs++[]) H2 Q E:=λ ds qs F h vs H2 s2 a4=>by
   rw[zI];exact⟨by rw[a4.length,a3 ρ ds qs];exact hn,P,ds,((V.same s1).same s2).C8,a4,(h.same s1).same s2⟩
  have go:∀ {F:List D->M OT},WT X.K (D2 X.K E) P H Q ((fs ρ).bind F)->ta σ H1 λ vs H2=>spT X.K n F (vs++[]) H2 Q E:=fun {F} h=>by
   refine a2 P0 P σ H1 _ ρ (V.same s1) ?_;cases qs:fs ρ with
   |bad=>rw[qs] at h;exact h
   |ex x=>rw[qs] at h;exact λ H' s'=>h H' (s1.trans s')
   |ok ds =>
    rw[qs] at h;exact λ vs H2 s2 a4=>fin ds qs h vs H2 s2 a4
  cases hv with
  | @EW a x hx _ =>
   by_cases e1:x=x1
   ·subst e1;rw[n1] at hx;cases hx;refine⟨_,wg,wj,k1,_,rfl,dq,h1,wk,br,go ?_⟩;simpa [Xp] using h
   ·by_cases e2:x=x2
    ·subst e2;rw[n2] at hx;cases hx;refine⟨_,wl,wm,k2,_,rfl,qb,h2,lm,qd,go ?_⟩;simpa [Xp,e1] using h
    ·simp only[Xp,if_neg e1,if_neg e2] at h;exact h.elim
  |_=>exact h.elim
end
abbrev jJ (k:Int×List Co):OT:=.tup [.sh (.int k.1),.lst ((k.2.map cst).map .sh)]
abbrev dJ (k:Int×List Co):D:=.tup [.int k.1,.lst (k.2.map cst)]
abbrev pV (K:List (Int×List Co)):OT:=.lst (K.map jJ)
abbrev Xq (K:List (Int×List Co)):Cl:=toCl none (pV K)
def pB (k:Int×List Co):er (jJ k)=dJ k:=by
 have e:=IL (ds:=k.2.map cst);unfold jJ dJ;rw[er,OP,OP,OP,e,Pb]
def cN:∀K:List (Int×List Co),OP (K.map jJ)=K.map dJ
 |[]=>by simp[OP]
 |k::r=>by rw[zf,OP,cN r,pB,zf]
def pC (K:List (Int×List Co)):er (pV K)=.lst (K.map dJ):=by unfold pV;rw[er,cN]
def KW (K:List (Int×List Co)):treeOf (Xq K)=some (none,pV K):=S4 _ _
def QR (K:List (Int×List Co)):Jl (Xq K)=.val (.lst (K.map dJ)):=by rw[WU (KW K),pC]
section
variable {K:List (Int×List Co)}{ρ:Ad}{k:Int×List Co}
def cO:Tw 0 (some (Xq K)::ρ) []=some (pV K):=by
 unfold Tw;simp only[yW,KW,S1]
def jK:O9 0 (some (Xq K)::ρ)=.ok []:=by unfold O9;rw[cO]
def cP:Eh 0 (some (Xq K)::ρ) []=.ok (K.map jJ):=by unfold Eh;rw[cO];rfl
def jL:G9 0 (some (Xq K)::ρ) [] (.lst (K.map jJ++[jJ k]))=.ok (.next (some (Xq (K++[k]))::ρ)):=by
 unfold G9;simp only[yW,KW,Ed,zq];unfold Xq pV;rw[z4];rfl
end
def pE {α:Type}{l:List α}{f g:α->Bool}(h:∀x∈l,f x=g x):l.any f=l.any g:=by
 induction l with
 |nil=>rfl
 |cons a r ih=>rw[zab,zab,h a zd,ih λ x hx=>h x (ze _ hx)]
abbrev AU (c:Int->Int->Co)(p h:Int):D:=.tup [.int h,cst (c p h)]
def Nj (c:Int->Int->Co)(p:Int)(D:List Int):(AL c p D).length<=D.length:=by
 unfold AL;refine yJ (List.length_filterMap_le _ _) ?_;rw[List.length_range];exact zu _
def Nk {c:Int->Int->Co}{p h:Int}{D:List Int}(hn:c p h≠none):FY c p D h = !(D.any λ x=>decide (Ah (c p x) (c x h)=c p h)):=by unfold FY;rw[decide_eq_true hn,Bool.true_and]
def Uz {c:Int->Int->Co}{p h:Int}{D:List Int}(hn:c p h=none):FY c p D h=false:=by unfold FY;rw[decide_eq_false (λ z=>z hn),Bool.false_and]
def QS {m:Nat}{rs:List Road}{c:Int->Int->Co}(h:∀x y:Int,0<=x->x<m->0<=y->y<m->Bz rs x y (c x y)):XR m c:=λ x y z hx hy hz=>by
 cases e1:c x y with
 |none=>cases c x z<;>exact trivial
 |some p =>
  cases e2:c y z with
  |none=>cases c x z<;>exact trivial
  |some q =>
   have w1:=(h x y hx.1 hx.2 hy.1 hy.2).2 p e1;have w2:=(h y z hy.1 hy.2 hz.1 hz.2).2 q e2;exact (h x z hx.1 hx.2 hz.1 hz.2).1 _ (w1.trans w2)
def DZ {c:Int->Int->Co}{p:Int}{D:List Int}:∀x∈AL c p D,∃q,c p x=some q:=by
 intro x hx;obtain⟨i,hi,e⟩:=zax.mp hx;split at e
 ·rename_i h;cases e;unfold FY at h;rw[zF] at h;exact Option.ne_none_iff_exists'.mp (of_decide_eq_true h.1)
 ·cases e
def min_self {m:Nat}{rs:List Road}(Au:∀r∈rs,Gd m r)(u:Int):Bz rs u u (some (0,0)):=
 ⟨λ c h=>by have:=h.nn Au;show (0:Int)<c.1\/_;simp only;omega,λ p e=>by cases e;exact .nil u⟩
abbrev Nl (kv:Int×(Int×Int)):D:=.tup [.int kv.1,cst (some kv.2)]
abbrev C6 (R1 R2:RA):List ((Int×Int)×Int):=R1.filterMap λ kv=>(AF R2 kv.1).map λ c=>((kv.2.1+c.1,kv.2.2+c.2),kv.1)
abbrev Xr (x:(Int×Int)×Int):D:=.tup [cst (some x.1),.int x.2]
def Nm (R2:RA):∀R1:RA,((R1.filter λ kv=>(AF R2 kv.1).isSome).map λ kv=>D.tup [cst (Ah (some kv.2) (AF R2 kv.1)),.int kv.1])=(C6 R1 R2).map Xr
 |[]=>rfl
 |kv::r=>by
  have ih:=Nm R2 r;unfold C6 at ih ⊢;rw[za0];cases q:AF R2 kv.1 with
  |none=>rw[zat (by rw[q];simp)];exact ih
  |some c=>rw[zas (by rw[q];rfl),zf,ih,q];rfl
def Xs (R1 R2:RA):(C6 R1 R2).length<=R1.length:=List.length_filterMap_le _ _
abbrev UA (b:Option ((Int×Int)×Int))(x:(Int×Int)×Int):Option ((Int×Int)×Int):=match b with
 |none=>some x
 |some y=>if x.1.1<y.1.1\/(x.1.1=y.1.1/\x.1.2<y.1.2) then some x else some y
abbrev Oe:Option ((Int×Int)×Int)->D
 |none=>.AK
 |some x=>Xr x
def Xu {c:Int×Int}{h:Int}:∀ {l:List ((Int×Int)×Int)}{b:Option ((Int×Int)×Int)},(∀y,b=some y->BK (some c) (some y.1)/\y.1≠c)->(∀x∈l,BK (some c) (some x.1))->(∃l1 l2,l=l1++(c,h)::l2/\∀x∈l1,x.1≠c)->l.foldl UA b=some (c,h):=by
 have O2:∀ {l:List ((Int×Int)×Int)},(∀x∈l,BK (some c) (some x.1))->l.foldl UA (some (c,h))=some (c,h):=by
  intro l;induction l with
  |nil=>intro _;rfl
  |cons x r ih =>
   intro hl;have hx:=hl x zd;have e:UA (some (c,h)) x=some (c,h):=by
    unfold UA;dsimp only;rw[if_neg];simp only[BK] at hx;omega
   rw[zB,e];exact ih λ x hx=>hl x (ze _ hx)
 intro l;induction l with
 |nil=>rintro b _ _ ⟨l1,l2,e,_⟩;cases l1<;>cases e
 |cons x r ih =>
  rintro b hb hl ⟨l1,l2,e,ae⟩;rw[zB];cases l1 with
  |nil =>
   rw[List.nil_append] at e;cases e;have e2:UA b (c,h)=some (c,h):=by
    cases b with
    |none=>rfl
    |some y =>
     obtain⟨g1,g2⟩:=hb y rfl;unfold UA;dsimp only;rw[if_pos];simp only[BK] at g1;by_cases q:c.1=y.1.1/\c.2=y.1.2
     ·exact absurd (Prod.ext q.1.symm q.2.symm) g2
     ·omega
   rw[e2];exact O2 λ x hx=>hl x (ze _ hx)
  |cons z l1 =>
   rw[zau] at e;cases e;refine ih (λ y hy=>?_) (λ x hx=>hl x (ze _ hx)) ⟨l1,l2,rfl,λ x hx=>ae x (ze _ hx)⟩;have hx:BK (some c) (some x.1)/\x.1≠c:=⟨hl x zd,ae x zd⟩;unfold UA at hy;split at hy
   ·cases hy;exact hx
   ·split at hy
    ·cases hy;exact hx
    ·cases hy;exact hb _ rfl
abbrev DL (C:Int->Int->Co)(p:Int)(W:List Int):RA:=W.map λ h=>(h,(C p h).getD (0,0))
def W6 {C:Int->Int->Co}{p:Int}{W:List Int}(hW:∀x∈W,∃q,C p x=some q):W.map (AU C p)=(DL C p W).map Nl:=by
 unfold DL;rw[zT];refine zar λ h hh=>?_;obtain⟨q,e⟩:=hW h hh;show AU C p h=D.tup [.int h,cst (some ((C p h).getD (0,0)))];unfold AU;rw[e];rfl
def K6 {C:Int->Int->Co}{p h:Int}:∀ {W:List Int},AF (DL C p W) h=if h∈W then some ((C p h).getD (0,0)) else none
 |[]=>rfl
 |x::r=>by
  have ih:=K6 (C:=C) (p:=p) (h:=h) (W:=r);unfold DL at ih ⊢;rw[zf,AF,ih];by_cases e:x=h
  ·subst e;rw[if_pos rfl,if_pos zd]
  ·rw[if_neg e];by_cases hm:h∈r
   ·rw[if_pos hm,if_pos (ze _ hm)]
   ·rw[if_neg hm,if_neg λ z=>(zp.mp z).elim (λ w=>e w.symm) hm]
def GW (c:Int->Int->Co)(p:Int):∀(E D:List Int),∃Z,AL c p (D++E)=AL c p D++Z
 |[],D=>⟨[],by rw[zI,zI]⟩
 |e::E,D=>by
  obtain⟨Z,h⟩:=GW c p E (D++[e]);rw[zO,List.singleton_append,DY,zO] at h;exact⟨_,h⟩
def cQ {α:Type}{B:α->Prop}:∀ {R:List α},(∃x∈R,B x)->∃D h E,R=D++h::E/\B h/\∀x∈D,¬ B x:=by
 classical
 intro R;induction R with
 |nil=>rintro ⟨x,hx,_⟩;cases hx
 |cons a r ih =>
  intro hx;by_cases ha:B a
  ·exact⟨[],a,r,rfl,ha,λ x hx=>by cases hx⟩
  ·obtain⟨D,h,E,e,hb,hn⟩:=ih (by
    obtain⟨x,hx,hb⟩:=hx;rcases zp.mp hx with rfl|hx
    ·exact absurd hb ha
    ·exact⟨x,hx,hb⟩)
   exact⟨a::D,h,E,by rw[e];rfl,hb,λ x hx=>by
    rcases zp.mp hx with rfl|hx
    ·exact ha
    ·exact hn x hx⟩
def W7 {m:Nat}{C:Int->Int->Co}(T:XR m C){s g h:Int}{D:List Int}(hs:0<=s/\s<m)(hg:0<=g/\g<m)(hh:0<=h/\h<m)(hD:∀x∈D,0<=x/\x<(m:Int))(hc:C s g≠none)(hb:Ah (C s h) (C h g)=C s g)(hn:∀x∈D,Ah (C s x) (C x g)≠C s g):FY C s D h=true:=by
 rw[Nk λ z=>hc (by rw[<-hb,z];rfl),Bool.not_eq_true',zb5];intro w;obtain⟨y,hy,w⟩:=zbb.mp w;exact hn y hy (SH T hs (hD y hy) hh hg (of_decide_eq_true w) hb)
def Xv {m:Nat}{C:Int->Int->Co}(T:XR m C){s g h:Int}{c:Int×Int}{D E:List Int}(hs:0<=s/\s<m)(hg:0<=g/\g<m)(hR:∀x∈D++h::E,0<=x/\x<(m:Int))(hc:C s g=some c)(hb:Ah (C s h) (C h g)=C s g)(hn:∀x∈D,Ah (C s x) (C x g)≠C s g):
 (C6 (DL C s (AL C s (D++h::E))) (DL (λ x y=>C y x) g (AL (λ x y=>C y x) g (D++h::E)))).foldl UA none=some (c,h):=by
 have hh:=hR h (by simp);have hD:∀x∈D,0<=x/\x<(m:Int):=λ x hx=>hR x (by simp[hx]);have aY:C s g≠none:=by rw[hc];exact λ z=>by cases z
 have k1:=W7 T hs hg hh hD aY hb hn;have k2:FY (λ x y=>C y x) g D h=true:=W7 T.turn hg hs hh hD aY (by rw[Bc];exact hb) λ x hx=>by rw[Bc];exact hn x hx
 obtain⟨Z1,e1⟩:=GW C s E (D++[h]);obtain⟨Z2,e2⟩:=GW (λ x y=>C y x) g E (D++[h]);rw[zO,List.singleton_append,DY,if_pos k1,zO] at e1;rw[zO,List.singleton_append,DY,if_pos k2,zO] at e2;obtain⟨p,q,hp,hq,c5⟩:=DU (hb.trans hc);have sum:∀x∈C6 (DL C s (AL C s (D++h::E))) (DL (λ x y=>C y x) g (AL (λ x y=>C y x) g (D++h::E))),x.2∈AL C s (D++h::E)/\some x.1=Ah (C s x.2) (C x.2 g):=λ x hx=>by
  obtain⟨kv,hk,ex⟩:=zax.mp hx;obtain⟨y,hy,rfl⟩:=zC.mp hk;rw[K6] at ex;obtain⟨b,eb,rfl⟩:=yT.mp ex;split at eb
  ·rename_i hm;cases eb;obtain⟨a1,f1⟩:=DZ y hy;obtain⟨a2,f2⟩:=DZ y hm;refine⟨hy,?_⟩;dsimp only at f2 ⊢;rw[f1,f2];rfl
  ·cases eb
 refine Xu (λ y hy=>by cases hy) (λ x hx=>?_) ?_
 ·obtain⟨g1,g2⟩:=sum x hx;rw[g2,<-hc];exact T s x.2 g hs (hR _ (Dr _ _ _ _ g1)) hg
 ·have aN:h∈AL (λ x y=>C y x) g (D++h::E):=by rw[e2];simp
  have es:C6 (DL C s (AL C s (D++h::E))) (DL (λ x y=>C y x) g (AL (λ x y=>C y x) g (D++h::E)))=C6 (DL C s (AL C s D)) (DL (λ x y=>C y x) g (AL (λ x y=>C y x) g (D++h::E)))++(c,h)::C6 (DL C s Z1) (DL (λ x y=>C y x) g (AL (λ x y=>C y x) g (D++h::E))):=by
   rw[e1];unfold C6 DL;rw[z4,z4,List.filterMap_append,List.filterMap_append,List.map_singleton];congr 1;rw[za0];have ef:=K6 (C:=λ x y=>C y x) (p:=g) (h:=h) (W:=AL (λ x y=>C y x) g (D++h::E));rw[if_pos aN] at ef;unfold DL at ef;dsimp only at ef ⊢;rw[ef,hp,hq,c5];rfl
  refine⟨_,_,es,λ x hx z=>?_⟩;have am:=sum x (by rw[es];exact zM _ hx);obtain⟨kv,hk,ex⟩:=zax.mp hx;obtain⟨y,hy,rfl⟩:=zC.mp hk;obtain⟨b,eb,rfl⟩:=yT.mp ex;exact hn y (Dr _ _ _ _ hy) (by rw[<-am.2,z,hc])
def Xw {m:Nat}{C:Int->Int->Co}(T:XR m C){s g:Int}{R:List Int}(hs:0<=s/\s<m)(hg:0<=g/\g<m)(hR:∀x∈R,0<=x/\x<(m:Int))(hc:C s g=none):
 C6 (DL C s (AL C s R)) (DL (λ x y=>C y x) g (AL (λ x y=>C y x) g R))=[]:=by
 unfold C6;refine List.filterMap_eq_nil_iff.mpr λ kv hk=>?_;obtain⟨y,hy,rfl⟩:=zC.mp hk;rw[K6];by_cases hm:y∈AL (λ x y=>C y x) g R
 ·exfalso;obtain⟨a1,f1⟩:=DZ y hy;obtain⟨a2,f2⟩:=DZ y hm;have:=T s y g hs (hR y (Dr _ _ _ _ hy)) hg;have f2:C y g=some a2:=f2;rw[hc,f1,f2] at this;exact this
 ·rw[if_neg hm];rfl
def cR {l:List Int}{h:Int}:AY (.lst ((l++[h]).map D.int)) (.int (-1))=.ok (.int h):=by
 have e0:((l++[h]).map D.int).length=l.length+1:=by rw[zc,zA,yP]
 have e1:NZ ((l++[h]).map D.int).length (-1)=some l.length:=by
  unfold NZ;rw[if_neg (by decide),e0,if_pos (by omega)];congr 1;omega
 have e:Q4 ((l++[h]).map D.int) (-1)=some (.int h):=by
  unfold Q4;rw[e1,Option.bind_some,z7,yX (zu _),Nat.sub_self];rfl
 unfold AY dH;dsimp only;rw[e]
def W8 {a b:Int->Co}{c:Int×Int}{m:Nat}{x:Int}(h0:0<=x)(h1:x<m):(QQ a b (some c) m).contains x=decide (Ah (a x) (b x)=some c):=by
 obtain⟨n,rfl⟩:∃n:Nat,(n:Int)=x:=⟨x.toNat,by omega⟩;have e:(QQ a b (some c) m).contains (n:Int)=true↔Ah (a n) (b n)=some c:=by
  rw[List.contains_iff_mem];unfold QQ;rw[zC];constructor
  ·rintro ⟨k,hk,e⟩;have e:k=n:=by omega
   subst e;have:=(yN.mp hk).2;rw[zF] at this;exact of_decide_eq_true this.2
  ·intro e;exact⟨n,yN.mpr ⟨zac.mpr (by omega),by rw[zF];exact⟨decide_eq_true λ z=>(by cases z),decide_eq_true e⟩⟩,rfl⟩
 by_cases q:Ah (a n) (b n)=some c
 ·rw[decide_eq_true q];exact e.mpr q
 ·rw[decide_eq_false q,zb5];exact λ z=>q (e.mp z)
def top_last {m:Nat}{L D E:List Int}{h:Int}{f:Int->Bool}(e:L.reverse=D++h::E)(hb:f h=true)(hn:∀x∈D,f x=false):L.filter f=E.reverse.filter f++[h]:=by
 have e2:L=E.reverse++h::D.reverse:=by
  rw[<-List.reverse_reverse L,e,List.reverse_append,List.reverse_cons,zO];rfl
 have e3:D.reverse.filter f=[]:=List.filter_eq_nil_iff.mpr λ x hx=>by rw[hn x (za1.mp hx)];exact z8
 rw[e2,List.filter_append,zas hb,e3]
def tN (x:(Int×Int)×Int):Pl 2 (Xr x):=YR (LX (Na (n:=0) _) (LX (Gw _) YS))
def Xx (C:Int->Int->Co)(p:Int)(W:List Int):(DL C p W).map zJ=W:=by unfold DL;rw[zT];exact List.map_id'' (λ _=>rfl) W
def UB {c:Int->Int->Co}{p:Int}{D:List Int}(h:D.Nodup):(AL c p D).Nodup:=by
 have key:∀n:Nat,n<=D.length->(AL c p (D.take n)).Nodup:=by
  intro n;induction n with
  |zero=>intro _;rw[List.take_zero];exact yY
  |succ n ih =>
   intro hl;have af:n<D.length:=by omega
   have e:D.take (n+1)=D.take n++[D[n]]:=by rw[zV,zi af];rfl
   rw[e,DY];split
   ·refine z9.mpr ⟨ih (by omega),by simp,λ a ha b hb z=>?_⟩;have sv:=Dr _ _ _ _ ha;rw[z,zg.mp hb] at sv;obtain⟨j,hj,ej⟩:=List.getElem_of_mem sv;rw[yM] at hj;rw[List.getElem_take] at ej;exact List.pairwise_iff_getElem.mp h j n (by omega) af (by omega) ej
   ·rw[zI];exact ih (by omega)
 have:=key D.length (zu _);rwa[zU] at this
end L2
set_option maxHeartbeats 4000000
namespace ck
open PySem L2
abbrev top (i:Nat):Stmt:=PySem.Challenge.pw_nodeladder_k63_whole_labels.main.body.getD i (.Pass ⟨0,0,0,0⟩)
noncomputable abbrev F8:Stmt:=top 7
def K7:Ac ["thing","bound"] ["thing","bound"] (A5 F8):=nofun
noncomputable abbrev K8:Stmt:=top 8
def Of:Ac ["thing"] ["thing"] (A5 K8):=nofun
noncomputable abbrev Px:Stmt:=top 9
def UC:Ac ["thing","many"] ["thing","many"] (A5 Px):=nofun
noncomputable abbrev SJ:Stmt:=top 10
def KY:Ac ["thing","many","roads"] ["thing"] (A5 SJ):=nofun
noncomputable abbrev Py:Stmt:=top 11
def UE:Ac ["thing"] ["thing"] (A5 Py):=nofun
noncomputable abbrev W9:Stmt:=top 12
def cS:Ac ["one","other"] ["one","other"] (A5 W9):=nofun
noncomputable abbrev Wa:Stmt:=top 13
def cT:Ac ["some"] ["some"] (A5 Wa):=nofun
noncomputable abbrev Ll:Stmt:=top 14
def QT:Ac ["road"] ["road"] (A5 Ll):=nofun
noncomputable abbrev K9:Stmt:=top 16
def Og:Ac ["ladder"] ["ladder"] (A5 K9):=nofun
noncomputable abbrev DB:Stmt:=top 17
def GX:Ac ["ladder"] ["ladder"] (A5 DB):=nofun
noncomputable abbrev Pz:Stmt:=top 18
def Dg:Ac ["order","costs","place","reached","rank","lower","higher","cost"] ["order","costs","place"] (A5 Pz):=nofun
noncomputable abbrev Wb:Stmt:=top 20
def F9:Ac ["order","costs","place","reached","told","higher","lower","over"] ["order","costs","place"] (A5 Wb):=nofun
noncomputable abbrev Lm:Stmt:=top 21
def QU:Ac ["ladder","start"] ["ladder","start"] (A5 Lm):=nofun
noncomputable abbrev Nn:Stmt:=top 22
def SK:Ac ["ladder","goal"] ["ladder","goal"] (A5 Nn):=nofun
noncomputable abbrev Ln:Stmt:=top 24
def QV:Ac ["costs","known","hub"] ["costs","known","hub"] (A5 Ln):=nofun
noncomputable abbrev Np:Stmt:=top 25
def Ds:Ac ["ladder","place","costs_of","costs","label","known","hub"] ["ladder","place","costs_of"] (A5 Np):=nofun
noncomputable abbrev Lo:Stmt:=top 26
def QW:Ac ["ladder","place"] ["ladder","place"] (A5 Lo):=nofun
noncomputable abbrev Ka:Stmt:=top 27
def Oh:Ac ["ladder","place"] ["ladder","place"] (A5 Ka):=nofun
noncomputable abbrev kT:Stmt:=top 28
def IQ:Ac ["out","into","costs","sums","best","cost","hub"] ["out","into"] (A5 kT):=nofun
noncomputable abbrev Ic:Stmt:=top 30
def Nq:Ac ["laid","pair"] ["laid","pair"] (A5 Ic):=nofun
noncomputable abbrev kU:Stmt:=top 31
def pF:Ac ["laid","pair","cost","middle"] ["laid","pair","cost","middle"] (A5 kU):=nofun
noncomputable abbrev Nr:Stmt:=top 32
def EG:Ac ["laid","place","higher","u","w","cost"] ["laid","place","higher"] (A5 Nr):=nofun
noncomputable abbrev Lp:Stmt:=top 33
def CW:Ac ["net","order","laid","road","rank","place"] ["net","order"] (A5 Lp):=nofun
noncomputable abbrev Nt:Stmt:=top 35
def SM:Ac ["net","thing"] ["net","thing"] (A5 Nt):=nofun
noncomputable abbrev FZ:Stmt:=top 36
def KZ:Ac ["net","thing"] ["net","thing"] (A5 FZ):=nofun
noncomputable abbrev Kb:Stmt:=top 37
def EN:Ac ["net","bows","road"] ["net"] (A5 Kb):=nofun
noncomputable abbrev GY:Stmt:=top 38
def BZ:Ac ["bows","left","place","ahead","behind","missing","u"] ["bows","left","place"] (A5 GY):=nofun
noncomputable abbrev Nu:Stmt:=top 39
def SN:Ac ["bows","left"] ["bows","left"] (A5 Nu):=nofun
noncomputable abbrev SO:Stmt:=top 40
def E5:Ac ["net","bows","left","order","place","bow"] ["net"] (A5 SO):=nofun
noncomputable abbrev Kc:Stmt:=top 42
def BH:Ac ["net","start","costs","changed","road","cost"] ["net","start"] (A5 Kc):=nofun
noncomputable abbrev EH:Stmt:=top 44
def IR:Ac ["net","order"] ["net","order"] (A5 EH):=nofun
noncomputable abbrev Lq:Stmt:=top 45
def DM:Ac ["net","laid","kept","u","costs"] ["net","laid"] (A5 Lq):=nofun
noncomputable abbrev AA:Stmt:=inClass (top 46) 0
def IS:Ac ["self","net","order"] ["self","net","order"] (A5 AA):=nofun
noncomputable abbrev GZ:Stmt:=inClass (top 46) 2
def LR:Ac ["self"] ["self"] (A5 GZ):=nofun
noncomputable abbrev Dt:Stmt:=inClass (top 46) 4
def D6:Ac ["self","u","w","many"] ["self","u","w"] (A5 Dt):=nofun
noncomputable abbrev Ie:Stmt:=inClass (top 46) 5
def Nv:Ac ["self","u","w"] ["self","u","w"] (A5 Ie):=nofun
noncomputable abbrev Ig:Stmt:=inClass (top 46) 8
def Nw:Ac ["self"] ["self"] (A5 Ig):=nofun
noncomputable abbrev Ih:Stmt:=top 48
def Nx:Ac ["_law_script","_law_k"] ["_law_script","_law_k"] (A5 Ih):=nofun
noncomputable abbrev PB:Stmt:=top 49
def Ny:Ac ["_law_cell","_law_k","_law_number"] ["_law_cell","_law_k"] (A5 PB):=nofun
noncomputable abbrev Lr:Stmt:=top 50
def QX:Ac ["_law_cell","_law_k"] ["_law_cell","_law_k"] (A5 Lr):=nofun
noncomputable abbrev Ls:Stmt:=top 51
def Bi:Ac ["_law_cells","_law_many","_law_roads_here","_law_k","_law_mixed","_law_great_here","_law_one","_law_other","_law_small","_law_length"] ["_law_cells","_law_many"] (A5 Ls):=nofun
noncomputable abbrev Lu:Stmt:=top 52
def Fw:Ac ["_law_cell","_law_many","_law_order_here","_law_place"] ["_law_cell","_law_many"] (A5 Lu):=nofun
noncomputable abbrev Lw:Stmt:=top 53
def QY:Ac ["_law_one","_law_other"] ["_law_one","_law_other"] (A5 Lw):=nofun
noncomputable abbrev Lx:Stmt:=top 54
def QZ:Ac ["_law_some"] ["_law_some"] (A5 Lx):=nofun
noncomputable abbrev Nz:Stmt:=top 55
def SQ:Ac ["_law_road"] ["_law_road"] (A5 Nz):=nofun
noncomputable abbrev Ly:Stmt:=top 56
def BA:Ac ["_law_roads_here","_law_many","_law_costs_here","_law_u","_law_v","_law_row","_law_road","_law_w"] ["_law_roads_here","_law_many"] (A5 Ly):=nofun
noncomputable abbrev Ii:Stmt:=top 57
def Ek:Ac ["_law_costs_here","_law_start","_law_goal","_law_found","_law_place"] ["_law_costs_here","_law_start","_law_goal"] (A5 Ii):=nofun
noncomputable abbrev Ij:Stmt:=top 58
def BP:Ac ["_law_outs","_law_intos","_law_costs_here","_law_place","_law_hub","_law_cost"] ["_law_outs","_law_intos","_law_costs_here"] (A5 Ij):=nofun
noncomputable abbrev SR:Stmt:=top 59
def BQ:Ac ["_law_roads_here","_law_many","_law_order_here","_law_costs_here","_law_outs","_law_intos","_law_start","_law_ladder","_law_goal","_law_found","_law_some","_law_highest"] ["_law_roads_here","_law_many","_law_order_here","_law_costs_here"] (A5 SR):=nofun
noncomputable abbrev PD:Stmt:=top 60
def L0:Ac ["_law_script","_law_many","_law_roads_here","_law_costs_here","_law_other"] ["_law_script"] (A5 PD):=nofun
structure Txt (K:za)(mg:Str->Option Value):Prop where
 L3:AI K mg "is_whole_below" F8 ["thing","bound"]
 R3:AI K mg "is_measure" K8 ["thing"]
 Xy:AI K mg "is_road" Px ["thing","many"]
 cU:AI K mg "is_map" SJ ["thing"]
 Xz:AI K mg "checked" Py ["thing"]
 jM:AI K mg "added" W9 ["one","other"]
 jN:AI K mg "least" Wa ["some"]
 SS:AI K mg "road_cost" Ll ["road"]
 R4:AI K mg "kept_costs" K9 ["ladder"]
 HY:AI K mg "kept_costs_turned" DB ["ladder"]
 XA:AI K mg "climbed" Pz ["order","costs","place"]
 jO:AI K mg "swept" Wb ["order","costs","place"]
 SU:AI K mg "costs_out" Lm ["ladder","start"]
 UG:AI K mg "costs_in" Nn ["ladder","goal"]
 SV:AI K mg "lies_over" Ln ["costs","known","hub"]
 UH:AI K mg "label_by" Np ["ladder","place","costs_of"]
 SW:AI K mg "label_out" Lo ["ladder","place"]
 R5:AI K mg "label_into" Ka ["ladder","place"]
 tO:AI K mg "met" kT ["out","into"]
 Oi:AI K mg "cost_so_far" Ic ["laid","pair"]
 tP:AI K mg "lay" kU ["laid","pair","cost","middle"]
 UI:AI K mg "lay_over" Nr ["laid","place","higher"]
 SX:AI K mg "laid_arcs" Lp ["net","order"]
 UJ:AI K mg "is_order" Nt ["net","thing"]
 LS:AI K mg "checked_order" FZ ["net","thing"]
 R6:AI K mg "first_bows" Kb ["net"]
 NA:AI K mg "missing_bows" GY ["bows","left","place"]
 UK:AI K mg "lightest" Nu ["bows","left"]
 cV:AI K mg "ranked" SO ["net"]
 R7:AI K mg "costs_from" Kc ["net","start"]
 Kd:AI K mg "order_or_ranked" EH ["net","order"]
 SY:AI K mg "kept_arcs" Lq ["net","laid"]
 Ke:Uo K mg "Ladder" "Ladder.__init__" AA ["self","net","order"]
 NC:Pc K "Ladder" "order" "Ladder.order" GZ ["self"]
 H9:Pc K "Ladder" "checked_arc" "Ladder.checked_arc" Dt ["self","u","w"]
 Oj:Pc K "Ladder" "cost" "Ladder.cost" Ie ["self","u","w"]
 Ol:Pc K "Ladder" "kept" "Ladder.kept" Ig ["self"]
 Om:AI K mg "_law_cell_at" Ih ["_law_script","_law_k"]
 XB:AI K mg "_law_mix" PB ["_law_cell","_law_k"]
 T4:AI K mg "_law_great" Lr ["_law_cell","_law_k"]
 T5:AI K mg "_law_roads" Ls ["_law_cells","_law_many"]
 T6:AI K mg "_law_order" Lu ["_law_cell","_law_many"]
 T7:AI K mg "_law_added" Lw ["_law_one","_law_other"]
 T8:AI K mg "_law_least" Lx ["_law_some"]
 UL:AI K mg "_law_open" Nz ["_law_road"]
 T9:AI K mg "_law_costs" Ly ["_law_roads_here","_law_many"]
 Oo:AI K mg "_law_between" Ii ["_law_costs_here","_law_start","_law_goal"]
 Oq:AI K mg "_law_entries" Ij ["_law_outs","_law_intos","_law_costs_here"]
 cW:AI K mg "_law_by" SR ["_law_roads_here","_law_many","_law_order_here","_law_costs_here"]
 xM:AI K mg "law" PD ["_law_script"]
 kW:mg "all" = none
 tQ:mg "any" = none
 pG:mg "bool" = none
 UM:mg "dict" = none
 Lz:mg "enumerate" = none
 tR:mg "int" = none
 Cj:mg "isinstance" = none
 G0:mg "len" = none
 EO:mg "list" = none
 cX:mg "min" = none
 BL:mg "range" = none
 ND:mg "reversed" = none
 cY:mg "sorted" = none
 R8:mg "tuple" = none
 IT:Xo K mg "costs_in"
 Ha:Xo K mg "costs_out"
 Em:Ia K "Ladder" "kept_ones"
 Dm:Ia K "Ladder" "laid"
 BR:Ia K "Ladder" "own_map"
 CH:Ia K "Ladder" "own_order"
local macro_rules|`(tactic|simp_arith[$xs,*])=>do `(tactic|simp only[$[$(("uH uI Mj List.set_cons_zero List.set_cons_succ M.A9 Hw Hv Jm JE JF JG M9 IK IL Pb Jv Jw HA Vx M6 M7 Jx gO HB HC Fs Qp Dc Qq Jy Jz HD VA Ju Ed toCl_list toCl_listP toCl_dct Ma JH JI JJ JK Mb JL JM JN pS sO JA VB JB VC JC JD M8 VD uJ uK gU gW gY gZ hV hX toCl_nil Jf Jq OS Qr HE Mc Md JO JP Me Mf Mg Mh Mi JQ JR JS JT HF HG HH HI HJ JU HK HL VE VF VG VH VI HM ite_tt ite_ff Bool.not_true Bool.not_false List.getElem?_cons_zero List.getElem?_cons_succ F5 GQ K1 gR iR gQ iU iV iW Mp QH QI QJ DV HV Mr Qx jF W0 QP".splitOn " ").toArray.map λ x=>Lean.mkIdent x.toName):term],*,$xs,*])
variable {P:Program}{w:World}{K:za}{mg:Str->Option Value}{base:Heap}
def CY:∃F:List D->M OT,(∀ {P w K mg base},Txt K mg->BD P w K mg base "is_whole_below" 1 2 F)/\(∀i n:Int,0<=i->i<n->F [.int i,.int n]=.ok (.sh (.bl true))):=by
 refine⟨_,λ T=>Ax (k:=0) T.L3 K7 _ (λ f B4 A outer s H E hr=>(A4 (Ak (AX (U6 (Kz (YL _) rfl T.Cj rfl T.tR (by decide +kernel) (A1 0 (pv 0))) (U6 (nA (Kz (WD _) rfl T.Cj rfl T.pG (by decide +kernel) (A1 0 (pv 0)))) (U5 (WA qY jR A8 (A1 0 (pv 0)) (A1 1 (pv 1)))))))))),?_⟩;intro i n h0 h1;have e0:AE ["thing","bound"] [.int i,.int n]=[some (.val (.int i)),some (.val (.int n))]:=rfl;rw[e0];refine B9 ?_;have a:=decide_eq_true h0;have b:=decide_eq_true h1;simp_arith[F5,a,b,GD];rfl
abbrev G3:List D->M OT:=zh CY
def B1:Txt K mg->BD P w K mg base "is_whole_below" 1 2 G3:=(zb CY).1
def B2:∀i n:Int,0<=i->i<n->G3 [.int i,.int n]=.ok (.sh (.bl true)):=(zb CY).2
def EQ:∃F:List D->M OT,(∀ {P w K mg base},Txt K mg->BD P w K mg base "is_measure" 2 1 F)/\(∀i:Int,0<=i->i<O1->F [.int i]=.ok (.sh (.bl true))):=by
 refine⟨_,λ T=>Ax (k:=1) T.R3 Of _ (λ f B4 A outer s H E hr=>(A4 (Ak (Ab A7.toXCall (B1 T) (hr.mono (by decide)) rfl (A2 (A1 0 (pv 0)) (A2 (YD A8 A8) A6)) rfl)))),?_⟩;intro i h0 h1;have e0:AE ["thing"] [.int i]=[some (.val (.int i))]:=rfl;rw[e0];have h:=B2 i O1 h0 h1;refine B9 ?_;simp_arith[kK,h];rfl
abbrev LB:List D->M OT:=zh EQ
def Ik:Txt K mg->BD P w K mg base "is_measure" 2 1 LB:=(zb EQ).1
def Il:∀i:Int,0<=i->i<O1->LB [.int i]=.ok (.sh (.bl true)):=(zb EQ).2
def IU:∃F:List D->M OT,(∀ {P w K mg base},Txt K mg->BD P w K mg base "is_road" 3 2 F)/\(∀(m:Nat) (r:Road),GR m r->F [Bk r,.int m]=.ok (.sh (.bl true))):=by
 refine⟨_,λ T=>Ax (k:=2) T.Xy UC _ (λ f B4 A outer s H E hr=>(A3 (B0 (DW.dt (FT (CF (Ca (c:=true) (Kz (MN _) rfl T.Cj rfl T.R8 (by decide +kernel) (A1 0 (pv 0))))) (E9 (J9 (c:=true) (AO hr 16 (by decide)) (Dw rfl T.G0 (A1 0 (pv 0))) A8)))) (A4 (Ak (AX Cv))) As) (A3 (B0 (DW.dt (FT (CF (Ca (c:=true) (Ai (Ab A7.toXCall (B1 T) (hr.mono (by decide)) rfl (A2 (Aa (AO hr 16 (by decide)) (A1 0 (pv 0)) A8) (A2 (A1 1 (pv 1)) A6)) rfl)))) (E9 (CF (Ca (c:=true) (Ai (Ab A7.toXCall (B1 T) (hr.mono (by decide)) rfl (A2 (Aa (AO hr 16 (by decide)) (A1 0 (pv 0)) A8) (A2 (A1 1 (pv 1)) A6)) rfl))))))) (A4 (Ak (AX Cv))) As) (A3 (B0 (Lc (c:=true) (AO hr 16 (by decide)) (Aa (AO hr 16 (by decide)) (A1 0 (pv 0)) A8) (Aa (AO hr 16 (by decide)) (A1 0 (pv 0)) A8)) (A4 (Ak (AX Cv))) As) (A4 (Ak (AX (U6 (sE (mZ (Aa (AO hr 16 (by decide)) (A1 0 (pv 0)) A8)) (U5 (Ai (Ab A7.toXCall (Ik T) (hr.mono (by decide)) rfl (A2 (Aa (AO hr 16 (by decide)) (A1 0 (pv 0)) A8) A6) rfl)))) (U5 (Ai (Ab A7.toXCall (Ik T) (hr.mono (by decide)) rfl (A2 (Aa (AO hr 16 (by decide)) (A1 0 (pv 0)) A8) A6) rfl))))))))))),?_⟩;intro m r ok;have e0:AE ["thing","many"] [Bk r,.int m]=[some (.val (Bk r)),some (.val (.int m))]:=rfl;rw[e0];refine B9 ?_;have i0:AY (Bk r) (.int 0)=.ok (.int r.a):=rfl;have i1:AY (Bk r) (.int 1)=.ok (.int r.b):=rfl;have i2:AY (Bk r) (.int 2)=.ok (GL r.l):=rfl;have i3:AY (Bk r) (.int 3)=.ok (.int r.w):=rfl;have ha:=B2 r.a m ok.a0 ok.a1;have hb:=B2 r.b m ok.b0 ok.b1;have hw:=Il r.w ok.w0 ok.w1;apply wp_step
 ·rfl
 apply wp_step
 ·simp_arith[i0,i1,ha,hb,GD];rfl
 apply wp_step
 ·simp_arith[i0,i1,decide_eq_false ok.ab];rfl
 simp_arith[i2,i3,hw];cases q:r.l with
 |none=>rfl
 |some z =>
  have hl:=Il z (ok.l0 z q).1 (ok.l0 z q).2;have e:GL (some z)=.int z:=rfl;simp_arith[e,hl];rfl
abbrev Ta:List D->M OT:=zh IU
def UN:Txt K mg->BD P w K mg base "is_road" 3 2 Ta:=(zb IU).1
def UO:∀(m:Nat) (r:Road),GR m r->Ta [Bk r,.int m]=.ok (.sh (.bl true)):=(zb IU).2
def L4:∃F:List D->M OT,(∀ {P w K mg base},Txt K mg->BD P w K mg base "is_map" 4 1 F)/\(∀(m:Nat) (rs:List Road),1<=m->m<=16->rs.length<=60->(∀r∈rs,GR m r)->F [Ar m rs]=.ok (.sh (.bl true))):=by
 refine⟨_,λ T=>Ax (k:=3) T.cU KY _ (λ f B4 A outer s H E hr=>(A3 (B0 (DW.dt (FT (CF (Ca (c:=true) (Kz (MN _) rfl T.Cj rfl T.R8 (by decide +kernel) (A1 0 (pv 0))))) (E9 (J9 (c:=true) (AO hr 16 (by decide)) (Dw rfl T.G0 (A1 0 (pv 0))) A8)))) (A4 (Ak (AX Cv))) As) (A3 (AM 1 KY.nd rfl (Or.inr rfl) (Aa (AO hr 16 (by decide)) (A1 0 (pv 0)) A8)) (A3 (AM 2 KY.nd rfl (zK rfl) (Aa (AO hr 16 (by decide)) (A1 0 (pv 0)) A8)) (A3 (B0 (DW.dt (FT (CF (Ca (c:=true) (Ai (Ab A7.toXCall (B1 T) (hr.mono (by decide)) rfl (A2 (A1 1 (pv 1)) (A2 A8 A6)) rfl)))) (E9 (Lc (c:=true) (AO hr 16 (by decide)) (A1 1 (pv 1)) A8)))) (A4 (Ak (AX Cv))) As) (A3 (B0 (DW.dt (FT (CF (Ca (c:=true) (Kz (OU _) rfl T.Cj rfl T.EO (by decide +kernel) (A1 2 (pv 2))))) (E9 (Vk (c:=true) (Dw rfl T.G0 (A1 2 (pv 2))) A8)))) (A4 (Ak (AX Cv))) As) (A4 (Ak (AX (YV rfl rfl T.kW (Ai (CB (NB:=["road","many"]) [none,some 1] rfl (AN (A1 2 (pv 2))) rfl rfl (Bw 0 (by decide) rfl rfl rfl) (λ _ _ _ _=>Dk) (λ _ _ _ _=>(Ai (C9 (Ab (Bs rfl).toXCall (UN T) (hr.mono (by decide)) rfl (A2 (A1 0 (pv 0)) (A2 (A1 1 (pv 1)) A6)) rfl)))))))))))))))),?_⟩;intro m rs h1 h2 hl Au;have e0:AE ["thing","many","roads"] [Ar m rs]=[some (.val (Ar m rs)),none,none]:=rfl;rw[e0];refine B9 ?_;have i0:AY (Ar m rs) (.int 0)=.ok (.int m):=rfl;have i1:AY (Ar m rs) (.int 1)=.ok (.lst (rs.map Bk)):=rfl;have hn:=B2 m 17 (by omega) (by omega);have hm:decide ((m:Int)=0)=false:=decide_eq_false (by omega);have bZ:decide ((60:Int)<((rs.map Bk).length:Int))=false:=decide_eq_false (by rw[zc];omega);have aF:(rs.map Bk).length<=1000:=by rw[zc];omega
 apply wp_step
 ·rfl
 apply wp_step
 ·simp_arith[i0];rfl
 apply wp_step
 ·simp_arith[i1];rfl
 apply wp_step
 ·simp_arith[hn,hm,GD];rfl
 apply wp_step
 ·simp_arith[bZ,GD];rfl
 simp_arith[if_pos aF];rw[BG (λ _:Road=>D.bl true) (λ r hr=>⟨_,rfl,rfl,by
  have:=UO m r (Au r hr);simp_arith[this]⟩)]
 simp_arith[tM];rfl
abbrev Wc:List D->M OT:=zh L4
def XC:Txt K mg->BD P w K mg base "is_map" 4 1 Wc:=(zb L4).1
def XD:∀(m:Nat) (rs:List Road),1<=m->m<=16->rs.length<=60->(∀r∈rs,GR m r)->Wc [Ar m rs]=.ok (.sh (.bl true)):=(zb L4).2
def IV:∃F:List D->M OT,(∀ {P w K mg base},Txt K mg->BD P w K mg base "checked" 5 1 F)/\(∀(m:Nat) (rs:List Road),1<=m->m<=16->rs.length<=60->(∀r∈rs,GR m r)->F [Ar m rs]=.ok (.tup [.sh (.int m),.lst ((rs.map Bk).map .sh)])):=by
 refine⟨_,λ T=>Ax (k:=4) T.Xz UE _ (λ f B4 A outer s H E hr=>(A3 (B0 (CF (Ca (c:=true) (Ai (Ab A7.toXCall (XC T) (hr.mono (by decide)) rfl (A2 (A1 0 (pv 0)) A6) rfl)))) (A4 Ub) As) (A4 (Ak (Z4 (Jk (AX (Aa (AO hr 16 (by decide)) (A1 0 (pv 0)) A8)) (Jk (CB (NB:=["road"]) [none] rfl (AN (Aa (AO hr 16 (by decide)) (A1 0 (pv 0)) A8)) rfl rfl (Bw 0 (by decide) rfl rfl rfl) (λ _ _ _ _=>Dk) (λ _ _ _ _=>(YI rfl T.R8 (A1 0 (pv 0))))) CU))))))),?_⟩;intro m rs h1 h2 hl Au;have e0:AE ["thing"] [Ar m rs]=[some (.val (Ar m rs))]:=rfl;rw[e0];have h1:=XD m rs h1 h2 hl Au;have n0:AY (Ar m rs) (.int 0)=.ok (.int m):=rfl;have n1:AY (Ar m rs) (.int 1)=.ok (.lst (rs.map Bk)):=rfl;have aF:(rs.map Bk).length<=1000:=by rw[zc];omega
 refine B9 ?_;apply wp_step
 ·simp_arith[h1,GD];rfl
 simp_arith[n0,n1,if_pos aF];rw[BG Bk (λ r hr=>⟨_,rfl,rfl,rfl⟩)];simp_arith[];exact⟨_,rfl,rfl⟩
abbrev Tb:List D->M OT:=zh IV
def UP:Txt K mg->BD P w K mg base "checked" 5 1 Tb:=(zb IV).1
def UQ:∀(m:Nat) (rs:List Road),1<=m->m<=16->rs.length<=60->(∀r∈rs,GR m r)->Tb [Ar m rs]=.ok (.tup [.sh (.int m),.lst ((rs.map Bk).map .sh)]):=(zb IV).2
def NE:∃F:List D->M OT,(∀ {P w K mg base},Txt K mg->BD P w K mg base "added" 1 2 F)/\(∀a b:Co,F [cst a,cst b]=.ok (.sh (cst (Ah a b)))):=by
 refine⟨_,λ T=>Ax (k:=0) T.jM cS _ (λ f B4 A outer s H E hr=>(A3 (B0 (DW.dt (FT (Fn (c:=true) (A1 0 (pv 0))) (E9 (Fn (c:=true) (A1 1 (pv 1)))))) (A4 (Ak (AX D9))) As) (A4 (Ak (AX (AH (A2 (Cq (Aa (AO hr 16 (by decide)) (A1 0 (pv 0)) A8) (Aa (AO hr 16 (by decide)) (A1 1 (pv 1)) A8)) (A2 (Cq (Aa (AO hr 16 (by decide)) (A1 0 (pv 0)) A8) (Aa (AO hr 16 (by decide)) (A1 1 (pv 1)) A8)) A6)))))))),?_⟩;intro a b;rcases a with _|⟨a1,a2⟩<;>rcases b with _|⟨b1,b2⟩<;>rfl
abbrev cZ:List D->M OT:=zh NE
def Fb:Txt K mg->BD P w K mg base "added" 1 2 cZ:=(zb NE).1
def Fc:∀a b:Co,cZ [cst a,cst b]=.ok (.sh (cst (Ah a b))):=(zb NE).2
def NF:∃F:List D->M OT,(∀ {P w K mg base},Txt K mg->BD P w K mg base "least" 1 1 F)/\(∀cs:List Co,cs.length<=1000->F [.lst (cs.map cst)]=.ok (.sh (cst (Fu cs)))):=by
 refine⟨_,λ T=>Ax (k:=0) T.jN cT _ (λ f B4 A outer s H E hr=>(A4 (Ak (AX (Vo rfl (AO hr 1 (by decide)) rfl T.cX (Ai (CB (NB:=["cost"]) [none] rfl (AN (A1 0 (pv 0))) rfl rfl (Bw 0 (by decide) rfl rfl rfl) (λ _ _ _ _=>ED (Hs (c:=true) (A1 0 (pv 0)))) (λ _ _ _ _=>(A1 0 (pv 0))))) D9))))),?_⟩;intro cs hc;have e0:∀x:D,AE ["some"] [x]=[some (.val x)]:=λ x=>rfl;rw[e0];refine B9 ?_;have hl:(cs.map cst).length<=1000:=by rw[zc];exact hc
 have wn:=Sk cs;have qe:=VR cs;simp_arith[if_pos hl];rw[GJ];simp_arith[qe];rfl
abbrev R9:List D->M OT:=zh NF
def NG:Txt K mg->BD P w K mg base "least" 1 1 R9:=(zb NF).1
def NH:∀cs:List Co,cs.length<=1000->R9 [.lst (cs.map cst)]=.ok (.sh (cst (Fu cs))):=(zb NF).2
def Fx:∃F:List D->M OT,(∀ {P w K mg base},Txt K mg->BD P w K mg base "road_cost" 1 1 F)/\(∀r:Road,F [Bk r]=.ok (.sh (cst (Cd r)))):=by
 refine⟨_,λ T=>Ax (k:=0) T.SS QT _ (λ f B4 A outer s H E hr=>(A3 (B0 (Fn (c:=true) (Aa (AO hr 16 (by decide)) (A1 0 (pv 0)) A8)) (A4 (Ak (AX D9))) As) (A4 (Ak (AX (AH (A2 (Aa (AO hr 16 (by decide)) (A1 0 (pv 0)) A8) (A2 A8 A6)))))))),?_⟩;intro r;obtain⟨a,b,l,w⟩:=r;cases l<;>rfl
abbrev NI:List D->M OT:=zh Fx
def Fy:Txt K mg->BD P w K mg base "road_cost" 1 1 NI:=(zb Fx).1
def Fz:∀r:Road,NI [Bk r]=.ok (.sh (cst (Cd r))):=(zb Fx).2
def C3:∃F:List D->M OT,(∀ {P w K mg base},Txt K mg->IM P w K mg base "Ladder" "checked_arc" 2 3 F)/\(∀(m:Nat) (rs:List Road) (L:List Int) (A:LA) (K:List (Int×Int)) (u w:Int),0<=u->u<m->0<=w->w<m->(AF A (u,w)).isSome=true->F [AJ m rs L A K,.int u,.int w]=.ok (.sh (pD (u,w)))):=by
 refine⟨_,λ T=>Ml (k:=1) T.H9 D6 _ (λ f B4 A outer s H E hr=>(A3 (AM 3 D6.nd rfl (zK rfl) (Aa (AO hr 16 (by decide)) (EL ["Ladder"] (By T.BR C5) (A1 0 (pv 0))) A8)) (A3 (B0 (DW.dt (FT (CF (Ca (c:=true) (Ai (Ab A7.toXCall (B1 T) (hr.mono (by decide)) rfl (A2 (A1 1 (pv 1)) (A2 (A1 3 (pv 3)) A6)) rfl)))) (FT (CF (Ca (c:=true) (Ai (Ab A7.toXCall (B1 T) (hr.mono (by decide)) rfl (A2 (A1 2 (pv 2)) (A2 (A1 3 (pv 3)) A6)) rfl)))) (E9 (M2 (c:=true) (AO hr 16 (by decide)) (AH (A2 (A1 1 (pv 1)) (A2 (A1 2 (pv 2)) A6))) (EL ["Ladder"] (By T.Dm C5) (A1 0 (pv 0)))))))) (A4 Ub) As) (A4 (Ak (AX (AH (A2 (A1 1 (pv 1)) (A2 (A1 2 (pv 2)) A6))))))))),?_⟩;intro m rs L A K u w u0 u1 w0 w1 hf;have e0:AE ["self","u","w","many"] [AJ m rs L A K,.int u,.int w]=[some (.val (AJ m rs L A K)),some (.val (.int u)),some (.val (.int w)),none]:=rfl;rw[e0];refine B9 ?_;have f1:Ob ["Ladder"] "own_map" (AJ m rs L A K)=.ok (Ar m rs):=rfl;have f2:Ob ["Ladder"] "laid" (AJ m rs L A K)=.ok (Lj A):=rfl;have n0:AY (Ar m rs) (.int 0)=.ok (.int m):=rfl;have h1:=B2 u m u0 u1;have h2:=B2 w m w0 w1;have hp:D.tup [.int u,.int w]=pD (u,w):=rfl;have hm:=QK A (u,w) true;rw[hf] at hm;apply wp_step
 ·simp_arith[f1,n0];rfl
 apply wp_step
 ·simp_arith[h1,h2,f2,hp,hm,GD];rfl
 rfl
abbrev Bg:List D->M OT:=zh C3
def Ga:Txt K mg->IM P w K mg base "Ladder" "checked_arc" 2 3 Bg:=(zb C3).1
def Gb:∀(m:Nat) (rs:List Road) (L:List Int) (A:LA) (K:List (Int×Int)) (u w:Int),0<=u->u<m->0<=w->w<m->(AF A (u,w)).isSome=true->Bg [AJ m rs L A K,.int u,.int w]=.ok (.sh (pD (u,w))):=(zb C3).2
def En:∃F:List D->M OT,(∀ {P w K mg base},Txt K mg->IM P w K mg base "Ladder" "cost" 3 3 F)/\(∀(m:Nat) (rs:List Road) (L:List Int) (A:LA) (K:List (Int×Int)) (u w:Int) (c:Int×Int),Fd m A->Am A (u,w)=some c->F [AJ m rs L A K,.int u,.int w]=.ok (.sh (cst (some c)))):=by
 refine⟨_,λ T=>Ml (k:=2) T.Oj Nv _ (λ f B4 A outer s H E hr=>(A4 (Ak (AX (Aa (AO hr 16 (by decide)) (Aa (AO hr 16 (by decide)) (EL ["Ladder"] (By T.Dm C5) (A1 0 (pv 0))) (Ai (Qs (k:=2) [("Ladder",Bg)] A7.toXCall (CV (by decide) (Ga T) DD) (hr.mono (by decide)) (A1 0 (pv 0)) (A2 (A1 1 (pv 1)) (A2 (A1 2 (pv 2)) A6)) rfl))) A8))))),?_⟩;intro m rs L A K u w c hA hc;have e0:AE ["self","u","w"] [AJ m rs L A K,.int u,.int w]=[some (.val (AJ m rs L A K)),some (.val (.int u)),some (.val (.int w))]:=rfl;rw[e0];refine B9 ?_;have f2:Ob ["Ladder"] "laid" (AJ m rs L A K)=.ok (Lj A):=rfl;have hk:=hA.rg _ (F7 hc);obtain⟨v,hv⟩:∃v,AF A (u,w)=some (c,v):=by
  unfold Am at hc;cases q:AF A (u,w) with
  |none=>rw[q] at hc;cases hc
  |some z=>rw[q] at hc;obtain⟨z1,z2⟩:=z;cases hc;exact⟨z2,rfl⟩
 have h1:=Gb m rs L A K u w hk.2.1.1 hk.2.1.2 hk.2.2.1 hk.2.2.2 (by rw[hv];rfl);have hi:=QL hv;have h0:AY (Xi (c,v)) (.int 0)=.ok (cst (some c)):=rfl;have hs:GI [("Ladder",Bg)] "checked_arc" (AJ m rs L A K)=.ok Bg:=rfl;simp_arith[f2,hs,h1,hi,h0];rfl
abbrev BB:List D->M OT:=zh En
def Hb:Txt K mg->IM P w K mg base "Ladder" "cost" 3 3 BB:=(zb En).1
def Hc:∀(m:Nat) (rs:List Road) (L:List Int) (A:LA) (K:List (Int×Int)) (u w:Int) (c:Int×Int),Fd m A->Am A (u,w)=some c->BB [AJ m rs L A K,.int u,.int w]=.ok (.sh (cst (some c))):=(zb En).2
def Eo:∃F:List D->M OT,(∀ {P w K mg base},Txt K mg->IM P w K mg base "Ladder" "kept" 1 1 F)/\(∀(m:Nat) (rs:List Road) (L:List Int) (A:LA) (K:List (Int×Int)),F [AJ m rs L A K]=.ok (.lst ((K.map pD).map .sh))):=by
 refine⟨_,λ T=>Ml (k:=0) T.Ol Nw _ (λ f B4 A outer s H E hr=>(A4 (Ak (Hx rfl T.EO (EL ["Ladder"] (By T.Em C5) (A1 0 (pv 0))))))),?_⟩;intro m rs L A K;rfl
abbrev BC:List D->M OT:=zh Eo
def Hd:Txt K mg->IM P w K mg base "Ladder" "kept" 1 1 BC:=(zb Eo).1
def He:∀(m:Nat) (rs:List Road) (L:List Int) (A:LA) (K:List (Int×Int)),BC [AJ m rs L A K]=.ok (.lst ((K.map pD).map .sh)):=(zb Eo).2
def ER:∃F:List D->M OT,(∀ {P w K mg base},Txt K mg->BD P w K mg base "kept_costs" 4 1 F)/\(∀(m:Nat) (rs:List Road) (L:List Int) (A:LA) (K:List (Int×Int)),BO m rs L A K->F [AJ m rs L A K]=.ok (pU (Ib A K))):=by
 refine⟨_,λ T=>Ax (k:=3) T.R4 Og _ (λ f B4 A outer s H E hr=>(A4 (Ak (Sj rfl (AO hr 16 (by decide)) rfl T.UM (Ai (CB (NB:=["u","w","ladder"]) [none,none,some 0] rfl (AN (Ai (F3 (k:=1) [("Ladder",BC)] A7.toXCall (CV (by decide) (Hd T) DD) (hr.mono (by decide)) (A1 0 (pv 0))))) rfl rfl (M5 (n:=2) rfl (CO 0 (by decide) rfl rfl rfl (CO 1 (by decide) rfl rfl rfl Jt))) (λ _ _ _ _=>Dk) (λ _ _ _ _=>(AH (A2 (AH (A2 (A1 0 (pv 0)) (A2 (A1 1 (pv 1)) A6))) (A2 (Ai (C9 (Qs (k:=3) [("Ladder",BB)] (Bs rfl).toXCall (CV (by decide) (Hb T) DD) (hr.mono (by decide)) (A1 2 (pv 2)) (A2 (A1 0 (pv 0)) (A2 (A1 1 (pv 1)) A6)) rfl))) A6)))))))))),?_⟩;intro m rs L A K ok;have e0:AE ["ladder"] [AJ m rs L A K]=[some (.val (AJ m rs L A K))]:=rfl;rw[e0];refine B9 ?_;have hs:GI [("Ladder",BC)] "kept" (AJ m rs L A K)=.ok BC:=rfl;have aO:GI [("Ladder",BB)] "cost" (AJ m rs L A K)=.ok BB:=rfl;have hk:=He m rs L A K;have hl:(K.map pD).length<=1000:=by rw[zc];have:=ok.kl;omega
 have hn:((Ib A K).map zJ).Nodup:=by rw[Nh];exact ok.kn
 have hd:=cC (C:=Ib A K) hn (by simp only[Ib,zc];have:=ok.kl;omega);simp_arith[hs,hk,if_pos hl];rw[BG (λ p=>D.tup [pD p,cst (some ((Am A p).getD (0,0)))]) (λ p hp=>⟨_,rfl,rfl,by
  obtain⟨c,hc,_⟩:=(ok.km p).mp hp;have h1:=Hc m rs L A K p.1 p.2 c ok.wF hc;simp_arith[aO,h1];rw[hc];rfl⟩)]
 have e1:(K.map λ p=>D.tup [pD p,cst (some ((Am A p).getD (0,0)))])=(Ib A K).map λ kv=>D.tup [pD kv.1,cst (some kv.2)]:=by
  simp only[SE,Ib,zT];rfl
 rw[e1];simp_arith[hd];exact⟨_,rfl,rfl⟩
abbrev LC:List D->M OT:=zh ER
def Ot:Txt K mg->BD P w K mg base "kept_costs" 4 1 LC:=(zb ER).1
def Ou:∀(m:Nat) (rs:List Road) (L:List Int) (A:LA) (K:List (Int×Int)),BO m rs L A K->LC [AJ m rs L A K]=.ok (pU (Ib A K)):=(zb ER).2
def Ce:∃F:List D->M OT,(∀ {P w K mg base},Txt K mg->BD P w K mg base "kept_costs_turned" 4 1 F)/\(∀(m:Nat) (rs:List Road) (L:List Int) (A:LA) (K:List (Int×Int)),BO m rs L A K->F [AJ m rs L A K]=.ok (pU (SE (Ib A K)))):=by
 refine⟨_,λ T=>Ax (k:=3) T.HY GX _ (λ f B4 A outer s H E hr=>(A4 (Ak (Sj rfl (AO hr 16 (by decide)) rfl T.UM (Ai (CB (NB:=["u","w","ladder"]) [none,none,some 0] rfl (AN (Ai (F3 (k:=1) [("Ladder",BC)] A7.toXCall (CV (by decide) (Hd T) DD) (hr.mono (by decide)) (A1 0 (pv 0))))) rfl rfl (M5 (n:=2) rfl (CO 0 (by decide) rfl rfl rfl (CO 1 (by decide) rfl rfl rfl Jt))) (λ _ _ _ _=>Dk) (λ _ _ _ _=>(AH (A2 (AH (A2 (A1 1 (pv 1)) (A2 (A1 0 (pv 0)) A6))) (A2 (Ai (C9 (Qs (k:=3) [("Ladder",BB)] (Bs rfl).toXCall (CV (by decide) (Hb T) DD) (hr.mono (by decide)) (A1 2 (pv 2)) (A2 (A1 0 (pv 0)) (A2 (A1 1 (pv 1)) A6)) rfl))) A6)))))))))),?_⟩;intro m rs L A K ok;have e0:AE ["ladder"] [AJ m rs L A K]=[some (.val (AJ m rs L A K))]:=rfl;rw[e0];refine B9 ?_;have hs:GI [("Ladder",BC)] "kept" (AJ m rs L A K)=.ok BC:=rfl;have aO:GI [("Ladder",BB)] "cost" (AJ m rs L A K)=.ok BB:=rfl;have hk:=He m rs L A K;have hl:(K.map pD).length<=1000:=by rw[zc];have:=ok.kl;omega
 have hn:((Ib A K).map zJ).Nodup:=by rw[Nh];exact ok.kn
 have hd:=cC (C:=SE (Ib A K)) (Xl hn) (by unfold SE;simp only[Ib,zc];have:=ok.kl;omega);simp_arith[hs,hk,if_pos hl];rw[BG (λ p=>D.tup [pD (p.2,p.1),cst (some ((Am A p).getD (0,0)))]) (λ p hp=>⟨_,rfl,rfl,by
  obtain⟨c,hc,_⟩:=(ok.km p).mp hp;have h1:=Hc m rs L A K p.1 p.2 c ok.wF hc;simp_arith[aO,h1];rw[hc];rfl⟩)]
 have e1:(K.map λ p=>D.tup [pD (p.2,p.1),cst (some ((Am A p).getD (0,0)))])=(SE (Ib A K)).map λ kv=>D.tup [pD kv.1,cst (some kv.2)]:=by
  simp only[SE,Ib,zT];rfl
 rw[e1];simp_arith[hd];exact⟨_,rfl,rfl⟩
abbrev Ep:List D->M OT:=zh Ce
def Hf:Txt K mg->BD P w K mg base "kept_costs_turned" 4 1 Ep:=(zb Ce).1
def Hg:∀(m:Nat) (rs:List Road) (L:List Int) (A:LA) (K:List (Int×Int)),BO m rs L A K->Ep [AJ m rs L A K]=.ok (pU (SE (Ib A K))):=(zb Ce).2
def IW:∃F:List D->M OT,(∀ {P w K mg base},Txt K mg->BD P w K mg base "climbed" 2 3 F)/\(∀(m:Nat) (L:List Int) (C:CA) (s:Int),m<=20->L.Perm (AW m)->s∈L->(∀p c,AF C p=some c->p.1∈L/\p.2∈L)->∃R:RA,F [.lst (L.map D.int),Mq C,.int s]=.ok (XQ R)/\Rt L C s L.length R):=by
 refine⟨_,λ T=>Ax (k:=1) T.XA Dg _ (λ f B4 A outer s H E hr=>(A3 (Bx 3 Dg.nd rfl (zK rfl) (Zv (A1 2 (pv 2)) (AH (A2 A8 (A2 A8 A6))))) (A3 (B5 A7.toXCall.own rfl (Vm rfl T.Lz (A1 0 (pv 0))) (MO (n:=2) rfl (Cw (Az 4 Dg.nd rfl (zK rfl)) (Cw (Az 5 Dg.nd rfl (zK rfl)) Jd))) (A4 (B0 (KJ (IJ (c:=true) (AO hr 16 (by decide)) (A1 5 (pv 5)) (A1 3 (pv 3)))) (A4 (B5 A7.toXCall.own rfl (AN (Ai (N0 (A1 0 (pv 0)) (LW (Cq (A1 4 (pv 4)) A8)) Vl))) (Az 6 Dg.nd rfl (zK rfl)) (A4 (B0 (IJ (c:=true) (AO hr 16 (by decide)) (AH (A2 (A1 5 (pv 5)) (A2 (A1 6 (pv 6)) A6))) (A1 1 (pv 1))) (A3 (AM 7 Dg.nd rfl (zK rfl) (Ai (Ee (Ab A7.toXCall (Fb T) (hr.mono (by decide)) rfl (A2 (Aa (AO hr 16 (by decide)) (A1 3 (pv 3)) (A1 5 (pv 5))) (A2 (Aa (AO hr 16 (by decide)) (A1 1 (pv 1)) (AH (A2 (A1 5 (pv 5)) (A2 (A1 6 (pv 6)) A6)))) A6)) rfl)))) (A4 (M4 (AO hr 16 (by decide)) (BW 3 (pv 3)) (A1 6 (pv 6)) (Ai (Ee (Ab A7.toXCall (NG T) (hr.mono (by decide)) rfl (A2 (Fl (A2 (N6 (AO hr 16 (by decide)) (A1 3 (pv 3)) (A1 6 (pv 6))) (A2 (A1 7 (pv 7)) A6))) A6) rfl)))))) As)))) As))) (A4 (Ci 3 (pv 3)))))),?_⟩;intro m L C s hm hL hs hC;have hn:=Fv hL;have hlen:=F6 hL;have e0:AE ["order","costs","place","reached","rank","lower","higher","cost"] [.lst (L.map D.int),Mq C,.int s]=[some (.val (.lst (L.map D.int))),some (.val (Mq C)),some (.val (.int s)),none,none,none,none,none]:=rfl;rw[e0];refine (λ h:∃t,_/\∃R:RA,t=XQ R/\Rt L C s L.length R=>by
  obtain⟨t,h1,R,rfl,h2⟩:=h;exact⟨R,h1,h2⟩) (Lg ?_)
 refine wp_step (ρ':=[some (.val (.lst (L.map D.int))),some (.val (Mq C)),some (.val (.int s)),some (.ow (.tree none (XQ [(s,(0,0))]))),none,none,none,none]) (by rfl) ?_;refine Bm (I:=λ ρ=>∃(R:RA) (s4 s5 s6 s7:Option Cl),ρ=[some (.val (.lst (L.map D.int))),some (.val (Mq C)),some (.val (.int s)),some (.ow (.tree none (XQ R))),s4,s5,s6,s7]/\Rt L C s L.length R) ?_ ?_
 ·simp_arith[];refine B6 (λ i ρ=>i<=L.length/\∃(R:RA) (s4 s5 s6 s7:Option Cl),ρ=[some (.val (.lst (L.map D.int))),some (.val (Mq C)),some (.val (.int s)),some (.ow (.tree none (XQ R))),s4,s5,s6,s7]/\Rt L C s i R) ⟨zR _,_,none,none,none,none,rfl,Rt.start hs⟩ ?_ ?_
  ·rintro i d ρ hd ⟨hi,R,s4,s5,s6,s7,rfl,hR⟩;obtain⟨d',az,rfl⟩:=KC hd;obtain⟨x,hx,rfl⟩:=BM az;have af:=(z3.mp hx).1;rw[Nat.zero_add];refine⟨_,rfl,?_⟩;have c6:=ZX R x false;have p7:=QO hn hx;cases q:AF R x with
   |none =>
    rw[q] at c6;refine AV (ρ':=_) (by simp_arith[c6];rfl) ⟨af,R,_,_,_,_,rfl,hR.skip hx hn q⟩
   |some c0 =>
    rw[q] at c6;have sl:gJ (some ((i:Int)+1)) none (.lst (L.map D.int))=.ok (.lst (((L.drop (i+1)).map D.int).map .sh)):=by rw[List.map_drop];exact Sd _ (i+1)
    simp_arith[c6,sl,if_true,Option.isSome_some,zG,if_false];refine B6 (λ j ρ=>j<=(L.drop (i+1)).length/\∃(R':RA) (s6 s7:Option Cl),ρ=[some (.val (.lst (L.map D.int))),some (.val (Mq C)),some (.val (.int s)),some (.ow (.tree none (XQ R'))),some (.val (.int i)),some (.val (.int x)),s6,s7]/\kP L C s i x c0 ((L.drop (i+1)).take j) R R') ⟨zR _,R,s6,s7,rfl,hR.nd,hR.rg,hR.sd,λ y=>Cc _,λ y _=>rfl,λ y hy=>by rw[List.take_zero] at hy;cases hy⟩ ?_ ?_
    ·rintro j d ρ hd ⟨hj,R',s6,s7,rfl,hI⟩;obtain⟨y,hy,rfl⟩:=BM hd;have jp:=(z3.mp hy).1;have sw:=zv hy;have wo:y∈L:=List.mem_of_mem_drop sw;have aV:i<DK L y:=VZ hn sw;have et:(L.drop (i+1)).take (j+1)=(L.drop (i+1)).take j++[y]:=by rw[zV,hy];rfl
     refine⟨_,rfl,?_⟩;rw[et];have t1:∀a b:Int,D.tup [.int a,.int b]=pD (a,b):=λ a b=>rfl;have ln:=oO C (x,y) false;cases q2:AF C (x,y) with
     |none =>
      rw[q2] at ln;refine AV (ρ':=_) (by simp_arith[t1,ln];rfl) ⟨jp,R',_,_,rfl,hI.skip q2⟩
     |some dd =>
      rw[q2] at ln;have aD:AF R' x=some c0:=by rw[hI.sm x (by omega)];exact q
      have i1:=ZY aD;have i2:=oP q2;have h1:=Fc (some c0) (some dd);have g1:=ZZ R' y;obtain⟨v,hv⟩:∃v,DF (AF R' y) (some (c0.1+dd.1,c0.2+dd.2))=some v:=by
       cases AF R' y with
       |none|some z=>exact⟨_,rfl⟩
      have h2:R9 [.lst [cst (AF R' y),cst (some (c0.1+dd.1,c0.2+dd.2))]]=.ok (.sh (cst (DF (AF R' y) (some (c0.1+dd.1,c0.2+dd.2))))):=NH [AF R' y,some (c0.1+dd.1,c0.2+dd.2)] (by simp);rw[hv] at h2;have a5:=hI.put wo aV p7 q q2 hv;have hl:(R'.map λ kv=>D.int kv.1).length<1000:=by
       have:=KO hI.nd hI.rg;rw[zc] at this ⊢;omega
      have h9:∀z:Int,keyOk false (.int z)=true:=λ z=>rfl;have ha:Ah (some c0) (some dd)=some (c0.1+dd.1,c0.2+dd.2):=rfl;rw[ha] at h1;simp_arith[t1,ln,if_true,Option.isSome_some,zG,if_false];apply wp_step
      ·simp_arith[t1,i1,i2,h1];rfl
      refine AV (ρ':=[some (.val (.lst (L.map D.int))),some (.val (Mq C)),some (.val (.int s)),some (.ow (.tree none (XQ (Df R' y v)))),some (.val (.int i)),some (.val (.int x)),some (.val (.int y)),some (.val (cst (some (c0.1+dd.1,c0.2+dd.2))))]) (by
       simp_arith[g1,h2,h9,hl,and_self,if_true,oR];rfl) ⟨jp,_,_,_,rfl,a5⟩
    ·rintro ρ ⟨_,R',s6,s7,rfl,hI⟩;rw[zc,zU] at hI;exact⟨af,R',_,_,s6,s7,rfl,hR.go (λ p c h=>(hC p c h).2) hx hn q hI⟩
  ·rintro ρ ⟨_,R,s4,s5,s6,s7,rfl,hR⟩;rw[Ht,zc] at hR;exact⟨R,s4,s5,s6,s7,rfl,hR⟩
 ·rintro ρ ⟨R,s4,s5,s6,s7,rfl,hR⟩;exact⟨_,rfl,R,rfl,hR⟩
abbrev Tc:List D->M OT:=zh IW
def UR:Txt K mg->BD P w K mg base "climbed" 2 3 Tc:=(zb IW).1
def US:∀(m:Nat) (L:List Int) (C:CA) (s:Int),m<=20->L.Perm (AW m)->s∈L->(∀p c,AF C p=some c->p.1∈L/\p.2∈L)->∃R:RA,Tc [.lst (L.map D.int),Mq C,.int s]=.ok (XQ R)/\Rt L C s L.length R:=(zb IW).2
def NJ:∃F:List D->M OT,(∀ {P w K mg base},Txt K mg->BD P w K mg base "swept" 3 3 F)/\(∀(m:Nat) (L:List Int) (C:CA) (s:Int),m<=20->L.Perm (AW m)->s∈L->(∀p c,AF C p=some c->p.1∈L/\p.2∈L)->∃(R:RA) (T:List Co),F [.lst (L.map D.int),Mq C,.int s]=.ok (.lst ((T.map cst).map .sh))/\Rt L C s L.length R/\cG m L C s R L.reverse T):=by
 refine⟨_,λ T=>Ax (k:=2) T.jO F9 _ (λ f B4 A outer s H E hr=>(A3 (AM 3 F9.nd rfl (zK rfl) (Ai (Ab A7.toXCall (UR T) (hr.mono (by decide)) rfl (A2 (A1 0 (pv 0)) (A2 (A1 1 (pv 1)) (A2 (A1 2 (pv 2)) A6))) rfl))) (A3 (Bx 4 F9.nd rfl (Or.inr rfl) (Ul D9 (Dw rfl T.G0 (A1 0 (pv 0))))) (A3 (Bx 5 F9.nd rfl (zK rfl) (Fq CU)) (A3 (B5 A7.toXCall.own rfl (Zy rfl T.ND (A1 0 (pv 0))) (Az 6 F9.nd rfl (Or.inr rfl)) (A3 (Za (NB:=["high","told","costs","lower"]) 7 [none,some 4,some 1,some 6] F9.nd rfl (zK rfl) rfl (AN (A1 5 (pv 5))) rfl rfl (Bw 0 (by decide) rfl rfl rfl) (λ _ _ _ _=>Dk) (λ _ _ _ _=>(Ai (C9 (Ab (Bs rfl).toXCall (Fb T) (hr.mono (by decide)) rfl (A2 (Aa (AO hr 16 (by decide)) (A1 1 (pv 1)) (A1 0 (pv 0))) (A2 (N6 (AO hr 16 (by decide)) (A1 2 (pv 2)) (AH (A2 (A1 0 (pv 0)) (A2 (A1 3 (pv 3)) A6)))) A6)) rfl))))) (A3 (MS 4 (pv 4) (Ai (Ee (Ab A7.toXCall (NG T) (hr.mono (by decide)) rfl (A2 (Ai (gK (Fl (A2 (N6 (AO hr 16 (by decide)) (A1 3 (pv 3)) (A1 6 (pv 6))) A6)) (A1 7 (pv 7)))) A6) rfl))) (A1 6 (pv 6))) (A4 (DQ 5 (pv 5) (A1 6 (pv 6))))))) (A4 (Ci 4 (pv 4)))))))),?_⟩;intro m L C s hm hL hs hC;have hn:=Fv hL;have hlen:=F6 hL;obtain⟨R,hF,hR⟩:=US m L C s hm hL hs hC;have e0:AE ["order","costs","place","reached","told","higher","lower","over"] [.lst (L.map D.int),Mq C,.int s]=[some (.val (.lst (L.map D.int))),some (.val (Mq C)),some (.val (.int s)),none,none,none,none,none]:=rfl;rw[e0];refine (λ h:∃t,_/\∃T:List Co,t=.lst ((T.map cst).map .sh)/\cG m L C s R L.reverse T=>by
  obtain⟨t,h1,T,rfl,h2⟩:=h;exact⟨R,T,h1,hR,h2⟩) (Lg ?_)
 have ge:((L.map D.int).length:Int)=(m:Int):=by rw[zc,hlen]
 have bh:=N3 (d:=.AK) (n:=m) (by omega);have cb:zr m D.AK=(zr m (none:Co)).map cst:=by rw[List.map_replicate];rfl
 rw[cb] at bh;apply wp_step
 ·simp_arith[hF];rfl
 try simp only[zq,zk]
 apply wp_step
 ·simp_arith[ge,bh];rfl
 try simp only[zq,zk]
 apply wp_step
 ·rfl
 try simp only[zq,zk]
 refine Bm (I:=λ ρ=>∃(T:List Co) (s5 s6 s7:Option Cl),ρ=[some (.val (.lst (L.map D.int))),some (.val (Mq C)),some (.val (.int s)),some (.val (SD R)),some (.own (T.map cst)),s5,s6,s7]/\cG m L C s R L.reverse T) ?_ ?_
 ·have gf:(L.map D.int).reverse=L.reverse.map D.int:=by rw[List.map_reverse]
  simp_arith[gf];refine B6 (λ i ρ=>i<=L.reverse.length/\∃(T:List Co) (s6 s7:Option Cl),ρ=[some (.val (.lst (L.map D.int))),some (.val (Mq C)),some (.val (.int s)),some (.val (SD R)),some (.own (T.map cst)),some (.own ((L.reverse.take i).map D.int)),s6,s7]/\cG m L C s R (L.reverse.take i) T) ⟨zR _,_,none,none,rfl,cG.start⟩ ?_ ?_
  ·rintro i d ρ hd ⟨hi,T,s6,s7,rfl,hT⟩;obtain⟨y,hy,rfl⟩:=BM hd;have af:=(z3.mp hy).1;have aV:=(AZ hL).mp (za1.mp (zv hy));have et:L.reverse.take (i+1)=L.reverse.take i++[y]:=by rw[zV,hy];rfl
   rw[yR] at af;have wp:L[L.length-1-i]?=some y:=by rw[List.getElem?_reverse af] at hy;exact hy
   have y2:=QO hn wp;have qg:∀x∈L.reverse.take i,(0<=x/\x<m)/\DK L y<DK L x:=λ x hx=>by
    have wq:=za1.mp (yK hx);refine⟨(AZ hL).mp wq,?_⟩;rw[List.take_reverse,za1] at hx;have:=VZ hn hx;omega
   have qa:y∉L.reverse.take i:=λ hx=>by have:=(qg y hx).2;omega
   have sx:=hT.len;refine⟨_,rfl,?_⟩;have bZ:((L.reverse.take i).map D.int).length<=1000:=by rw[zc,yM,yR];omega
   have t1:∀a b:Int,D.tup [.int a,.int b]=pD (a,b):=λ a b=>rfl;have g1:=ZZ R y;obtain⟨vs,a4⟩:∃vs:List Co,vs=(L.reverse.take i).map λ x=>Ah (atC T x) (AF C (x,y)):=⟨_,rfl⟩;apply wp_step
   ·simp_arith[if_pos bZ];rw[BG (λ x=>cst (Ah (atC T x) (AF C (x,y)))) (λ x hx=>⟨_,rfl,rfl,by
     have sy:=(qg x hx).1;have x1:AY (.lst (T.map cst)) (.int x)=.ok (cst (atC T x)):=BN sy.1 (by rw[sx];exact sy.2);have g2:=oQ C (x,y);have h1:=Fc (atC T x) (AF C (x,y));simp_arith[t1,x1,g2,h1]⟩)]
    have ev:(L.reverse.take i).map (λ x=>cst (Ah (atC T x) (AF C (x,y))))=vs.map cst:=by rw[a4,zT];rfl
    rw[ev];have dv:=cF vs;simp_arith[dv];rfl
   try simp only[zq,zk]
   have ao:S2 (.lst [cst (AF R y)]) (.lst (vs.map cst))=.ok (.lst (((AF R y::vs).map cst).map .sh)):=iQ (by rw[a4,zc,zc,yM,yR,yP];omega);have h3:=NH (AF R y::vs) (by rw[a4,zj,zc,yM,yR];omega);have a5:=K2 (i:=4) (ρ:=[some (.val (.lst (L.map D.int))),some (.val (Mq C)),some (.val (.int s)),some (.val (SD R)),some (.own (T.map cst)),some (.own ((L.reverse.take i).map D.int)),some (.val (.int y)),some (.own (vs.map cst))]) (d:=cst (Fu (AF R y::vs))) (p:=y) rfl aV.1 (by rw[zc,sx];exact aV.2);have aW:(T.map cst).set y.toNat (cst (Fu (AF R y::vs)))=(T.set y.toNat (Fu (AF R y::vs))).map cst:=by rw[List.map_set]
   rw[aW] at a5;apply wp_step
   ·simp_arith[g1,ao,h3,a5];rfl
   try simp only[zq,zk]
   have qh:((L.reverse.take i).map D.int).length<1000:=by rw[zc,yM,yR];omega
   refine AV (ρ':=[some (.val (.lst (L.map D.int))),some (.val (Mq C)),some (.val (.int s)),some (.val (SD R)),some (.own ((T.set y.toNat (Fu (AF R y::vs))).map cst)),some (.own ((L.reverse.take (i+1)).map D.int)),some (.val (.int y)),some (.own (vs.map cst))]) (by simp_arith[if_pos qh,et,z4,zf,zaq]) ⟨by rw[yR];exact af,_,_,_,rfl,?_⟩;rw[et,a4];exact hT.step hR.sd aV.1 aV.2 qa qg
  ·rintro ρ ⟨_,T,s6,s7,rfl,hT⟩;rw[zc,zU] at hT;exact⟨T,_,s6,s7,rfl,hT⟩
 ·rintro ρ ⟨T,s5,s6,s7,rfl,hT⟩;exact⟨_,rfl,T,rfl,hT⟩
abbrev dA:List D->M OT:=zh NJ
def Td:Txt K mg->BD P w K mg base "swept" 3 3 dA:=(zb NJ).1
def Te:∀(m:Nat) (L:List Int) (C:CA) (s:Int),m<=20->L.Perm (AW m)->s∈L->(∀p c,AF C p=some c->p.1∈L/\p.2∈L)->∃(R:RA) (T:List Co),dA [.lst (L.map D.int),Mq C,.int s]=.ok (.lst ((T.map cst).map .sh))/\Rt L C s L.length R/\cG m L C s R L.reverse T:=(zb NJ).2
def ES:∃F:List D->M OT,(∀ {P w K mg base},Txt K mg->BD P w K mg base "costs_from" 2 2 F)/\(∀(m s:Nat) (rs:List Road),s<m->m<=900->(∀r∈rs,Gd m r)->∃cs:List Co,Right m s rs cs/\F [Ar m rs,.int s]=.ok (.lst ((cs.map cst).map .sh))):=by
 refine⟨_,λ T=>Ax (k:=1) T.R7 BH _ (λ f B4 A outer s H E hr=>(A3 (Bx 2 BH.nd rfl (zK rfl) (Ul D9 (Aa (AO hr 16 (by decide)) (A1 0 (pv 0)) A8))) (A3 (MS 2 (pv 2) (AH (A2 A8 (A2 A8 A6))) (A1 1 (pv 1))) (A3 (AM 3 BH.nd rfl (zK rfl) Cv) (A3 (RY A7.toXCall.own (Ca (c:=true) (A1 3 (pv 3))) (A3 (AM 3 BH.nd rfl (zK rfl) Cv) (A4 (B5 A7.toXCall.own rfl (AN (Aa (AO hr 16 (by decide)) (A1 0 (pv 0)) A8)) (Az 4 BH.nd rfl (zK rfl)) (A3 (AM 5 BH.nd rfl (zK rfl) (Ai (Ee (Ab A7.toXCall (NG T) (hr.mono (by decide)) rfl (A2 (Fl (A2 (Aa (AO hr 16 (by decide)) (A1 2 (pv 2)) (Aa (AO hr 16 (by decide)) (A1 4 (pv 4)) A8)) (A2 (Ai (Ab A7.toXCall (Fb T) (hr.mono (by decide)) rfl (A2 (Aa (AO hr 16 (by decide)) (A1 2 (pv 2)) (Aa (AO hr 16 (by decide)) (A1 4 (pv 4)) A8)) (A2 (Ai (Ab A7.toXCall (Fy T) (hr.mono (by decide)) rfl (A2 (A1 4 (pv 4)) A6) rfl)) A6)) rfl)) A6))) A6) rfl)))) (A4 (B0 (KJ (J9 (c:=true) (AO hr 16 (by decide)) (A1 5 (pv 5)) (Aa (AO hr 16 (by decide)) (A1 2 (pv 2)) (Aa (AO hr 16 (by decide)) (A1 4 (pv 4)) A8)))) (A3 (MS 2 (pv 2) (A1 5 (pv 5)) (Aa (AO hr 16 (by decide)) (A1 4 (pv 4)) A8)) (A4 (AM 3 BH.nd rfl (zK rfl) Cv))) As))))))) (A4 (Ci 2 (pv 2)))))))),?_⟩;intro m s rs hs hm Au;have e0:AE ["net","start","costs","changed","road","cost"] [Ar m rs,.int s]=[some (.val (Ar m rs)),some (.val (.int s)),none,none,none,none]:=rfl;rw[e0];refine (λ h:∃t,_/\∃cs:List Co,Right m s rs cs/\t=.lst ((cs.map cst).map .sh)=>by
  obtain⟨t,h1,cs,h2,rfl⟩:=h;exact⟨cs,h2,h1⟩) (Lg ?_)
 have n0:AY (Ar m rs) (.int 0)=.ok (.int m):=rfl;have n1:AY (Ar m rs) (.int 1)=.ok (.lst (rs.map Bk)):=rfl;have bh:=N3 (d:=.AK) (n:=m) (by omega);have cb:zr m D.AK=(zr m (none:Co)).map cst:=by rw[List.map_replicate];rfl
 rw[cb] at bh;apply wp_step
 ·simp_arith[n0,bh];rfl
 try simp only[zq,zk]
 have a5:=K2 (i:=2) (ρ:=[some (.val (Ar m rs)),some (.val (.int s)),some (.own ((zr m (none:Co)).map cst)),none,none,none]) (d:=.tup [.int 0,.int 0]) (p:=(s:Int)) rfl (by omega) (by rw[zc,zb0];omega);have aW:((zr m (none:Co)).map cst).set (s:Int).toNat (.tup [.int 0,.int 0])=((zr m none).set s (some (0,0))).map cst:=by rw[yO,List.map_set];rfl
 rw[aW] at a5;apply wp_step
 ·simp_arith[a5];rfl
 try simp only[zq,zk]
 apply wp_step
 ·rfl
 try simp only[zq,zk]
 refine Bm (I:=λ ρ=>∃(cs:List Co) (s3 s4 s5:Option Cl),ρ=[some (.val (Ar m rs)),some (.val (.int s)),some (.own (cs.map cst)),s3,s4,s5]/\Right m s rs cs) ?_ ?_
 ·refine S8 (lt:=wG) (λ z ρ=>∃(s4 s5:Option Cl),ρ=[some (.val (Ar m rs)),some (.val (.int s)),some (.own (z.1.map cst)),some (.val (.bl z.2)),s4,s5]/\Good m s rs z.1/\(z.2=false->Right m s rs z.1)) (oT _) ⟨none,none,rfl,N9 rs hs,λ e=>by cases e⟩ ?_;rintro ⟨cs,b⟩ ρ ⟨s4,s5,rfl,g,hR⟩;cases b with
  |false=>exact .inl ⟨rfl,cs,_,s4,s5,rfl,hR rfl⟩
  |true =>
   refine .inr ⟨rfl,?_⟩;apply wp_step
   ·rfl
   try simp only[zq,zk]
   simp_arith[n1];refine B6 (λ i ρ=>∃(ax:List Co) (ch:Bool) (s4 s5:Option Cl),ρ=[some (.val (Ar m rs)),some (.val (.int s)),some (.own (ax.map cst)),some (.val (.bl ch)),s4,s5]/\Good m s rs ax/\(ch=true->O0 ltN ax cs)/\(ch=false->ax=cs/\∀r∈rs.take i,DF (atC cs r.b) (Ah (atC cs r.a) (Cd r))=atC cs r.b)) ⟨cs,false,s4,s5,rfl,g,(λ h=>by cases h),λ _=>⟨rfl,λ r hr=>by rw[List.take_zero] at hr;cases hr⟩⟩ ?_ ?_
   ·rintro i d ρ hd ⟨ax,ch,s4,s5,rfl,g1,h1,h2⟩;obtain⟨r,hq,rfl⟩:=BM hd;have hr:=zv hq;have ok:=Au r hr;obtain⟨g2,_,g4,g5⟩:=X9 g1 hr Au;have br:r.b<ax.length:=by rw[g1.len];exact ok.b1
    have wr:r.a<ax.length:=by rw[g1.len];exact ok.a1
    have r0:AY (Bk r) (.int 0)=.ok (.int r.a):=rfl;have r1:AY (Bk r) (.int 1)=.ok (.int r.b):=rfl;have x0:AY (.lst (ax.map cst)) (.int r.a)=.ok (cst (atC ax r.a)):=BN ok.a0 wr;have x1:AY (.lst (ax.map cst)) (.int r.b)=.ok (cst (atC ax r.b)):=BN ok.b0 br;have wt:=Fz r;have cj:=Fc (atC ax r.a) (Cd r);have hle:R9 [.lst [cst (atC ax r.b),cst (Ah (atC ax r.a) (Cd r))]]=.ok (.sh (cst (DF (atC ax r.b) (Ah (atC ax r.a) (Cd r))))):=NH [atC ax r.b,Ah (atC ax r.a) (Cd r)] (by simp);have ae:=Qv (DF (atC ax r.b) (Ah (atC ax r.a) (Cd r))) (atC ax r.b);refine⟨_,rfl,?_⟩;apply wp_step
    ·simp_arith[r0,r1,x0,x1,wt,cj,hle];rfl
    try simp only[zq,zk]
    by_cases hc:DF (atC ax r.b) (Ah (atC ax r.a) (Cd r))=atC ax r.b
    ·rw[decide_eq_true hc] at ae;refine AV (ρ':=_) (by simp_arith[r1,x1,ae];rfl) ⟨ax,ch,_,_,rfl,g1,h1,λ hf=>?_⟩;obtain⟨e1,e2⟩:=h2 hf;subst e1;refine⟨rfl,λ r' aU=>?_⟩;rw[zV,hq] at aU;rcases zy.mp aU with aU|aU
     ·exact e2 r' aU
     ·have:r'=r:=by simpa using aU
      rw[this];exact hc
    ·rw[decide_eq_false hc] at ae;have a5:=K2 (i:=2) (ρ:=[some (.val (Ar m rs)),some (.val (.int s)),some (.own (ax.map cst)),some (.val (.bl ch)),some (.val (Bk r)),some (.val (cst (DF (atC ax r.b) (Ah (atC ax r.a) (Cd r)))))]) (d:=cst (DF (atC ax r.b) (Ah (atC ax r.a) (Cd r)))) (p:=r.b) rfl ok.b0 (by rw[zc];exact br);have aW:(ax.map cst).set r.b.toNat (cst (DF (atC ax r.b) (Ah (atC ax r.a) (Cd r))))=(Dd r ax).map cst:=by unfold Dd;rw[List.map_set]
     rw[aW] at a5;simp_arith[r1,x1,ae,if_true];apply wp_step
     ·simp_arith[r1,a5];rfl
     refine AV (ρ':=_) rfl ⟨Dd r ax,true,_,_,rfl,g2,λ _=>?_,λ hf=>by cases hf⟩;cases ch with
     |false=>obtain⟨e1,_⟩:=h2 rfl;subst e1;exact g5 hc
     |true=>exact O0.trans ltN X7 (g5 hc) (h1 rfl)
   ·rintro ρ' ⟨ax,ch,s4,s5,rfl,g1,h1,h2⟩;cases ch with
    |true=>exact⟨(ax,true),⟨rfl,.inr ⟨rfl,h1 rfl⟩⟩,s4,s5,rfl,g1,λ e=>by cases e⟩
    |false =>
     obtain⟨e1,e2⟩:=h2 rfl;subst e1;rw[zc,zU] at e2;exact⟨(ax,false),⟨rfl,.inl rfl⟩,s4,s5,rfl,g1,λ _=>right_of g1 e2⟩
 ·rintro ρ' ⟨cs,s3,s4,s5,rfl,hR⟩;exact⟨_,rfl,cs,hR,rfl⟩
abbrev LD:List D->M OT:=zh ES
def Ov:Txt K mg->BD P w K mg base "costs_from" 2 2 LD:=(zb ES).1
def ET:∀(m s:Nat) (rs:List Road),s<m->m<=900->(∀r∈rs,Gd m r)->∃cs:List Co,Right m s rs cs/\LD [Ar m rs,.int s]=.ok (.lst ((cs.map cst).map .sh)):=(zb ES).2
def Dx:∃F:List D->M OT,(∀ {P w K mg base},Txt K mg->IM P w K mg base "Ladder" "order" 1 1 F)/\(∀(m:Nat) (rs:List Road) (L:List Int) (A:LA) (K:List (Int×Int)),F [AJ m rs L A K]=.ok (.lst ((L.map D.int).map .sh))):=by
 refine⟨_,λ T=>Ml (k:=0) T.NC LR _ (λ f B4 A outer s H E hr=>(A4 (Ak (Hx rfl T.EO (EL ["Ladder"] (By T.CH C5) (A1 0 (pv 0))))))),?_⟩;intro m rs L A K;rfl
abbrev AB:List D->M OT:=zh Dx
def CC:Txt K mg->IM P w K mg base "Ladder" "order" 1 1 AB:=(zb Dx).1
def CD:∀(m:Nat) (rs:List Road) (L:List Int) (A:LA) (K:List (Int×Int)),AB [AJ m rs L A K]=.ok (.lst ((L.map D.int).map .sh)):=(zb Dx).2
def FA:∃F:List D->M OT,(∀ {P w K mg base},Txt K mg->BD P w K mg base "costs_out" 5 2 F)/\(∀(m:Nat) (rs:List Road) (L:List Int) (A:LA) (K:List (Int×Int)) (s:Nat),BO m rs L A K->s<m->∃T:List Co,F [AJ m rs L A K,.int s]=.ok (.lst ((T.map cst).map .sh))/\T.length=m/\∀w:Int,0<=w->w<m->Bz rs s w (atC T w)):=by
 refine⟨_,λ T=>Ax (k:=4) T.SU QU _ (λ f B4 A outer s H E hr=>(A4 (Ak (Ab A7.toXCall (Td T) (hr.mono (by decide)) rfl (A2 (Ai (F3 (k:=1) [("Ladder",AB)] A7.toXCall (CV (by decide) (CC T) DD) (hr.mono (by decide)) (A1 0 (pv 0)))) (A2 (Ai (Ab A7.toXCall (Ot T) (hr.mono (by decide)) rfl (A2 (A1 0 (pv 0)) A6) rfl)) (A2 (A1 1 (pv 1)) A6))) rfl)))),?_⟩;intro m rs L A K s ok hs;have hm:=ok.m2;have e0:AE ["ladder","start"] [AJ m rs L A K,.int s]=[some (.val (AJ m rs L A K)),some (.val (.int s))]:=rfl;rw[e0];have h1:=Ou m rs L A K ok;have h2:=CD m rs L A K;have gh:GI [("Ladder",AB)] "order" (AJ m rs L A K)=.ok AB:=rfl;have qi:(s:Int)∈L:=(AZ ok.pm).mpr ⟨by omega,by omega⟩;have gi:∀p c,AF (Ib A K) p=some c->p.1∈L/\p.2∈L:=λ p c h=>by
  have hm:=QC h;unfold Ib at hm;obtain⟨q,hq,e⟩:=zC.mp hm;cases e;have:=ok.XI hq;exact⟨(AZ ok.pm).mpr this.2.1,(AZ ok.pm).mpr this.2.2⟩
 have hC:∀p c,AF (Ib A K) p=some c->p.1∈L/\p.2∈L:=λ p c h=>by
  exact gi p c h
 obtain⟨R,T,hF,hR,hT⟩:=Te m L (Ib A K) s (by omega) ok.pm qi hC;refine⟨T,B9 ?_,hT.len,λ w h0 h1=>?_⟩
 ·simp_arith[gh,h2,h1,hF];exact⟨_,rfl,rfl⟩
 ·have hU:=hR.xK (m:=m) hC;have a6:∀x:Int,0<=x->x<m->x∈L.reverse:=λ x a b=>za1.mpr ((AZ ok.pm).mpr ⟨a,b⟩);obtain⟨T',jq⟩:∃T':Int->Co,T'=λ x:Int=>if 0<=x/\x<(m:Int) then atC T x else none:=⟨_,rfl⟩
  have cc:∀x:Int,0<=x->x<m->T' x=atC T x:=λ x a b=>by rw[jq];exact if_pos ⟨a,b⟩
  have hS:tH (DK L) (λ x y=>AF (Ib A K) (x,y)) s (AF R) T' m:=⟨λ x a b=>by rw[cc x a b];exact hT.top x (a6 x a b),λ x y a b c d hr=>by rw[cc x a b,cc y c d];exact hT.cl x (a6 x a b) y (a6 y c d) hr,λ x c hx=>by
   have am:0<=x/\x<m:=by
    refine zaf λ hn=>?_;rw[jq] at hx;dsimp only at hx;rw[if_neg hn] at hx;cases hx
   rw[cc x am.1 am.2] at hx;exact hT.sd x c am.1 am.2 hx⟩
  obtain⟨cs,qj,_⟩:=ET m s rs hs (by omega) (λ r hr=>(ok.ok r hr).1);have bH:=qj.ZE (λ r hr=>(ok.ok r hr).1) h0 h1;have q:=Pu (s:=(s:Int)) (w:=w) ok.kL ok.kept ⟨by omega,by omega⟩ hU hS bH;rw[cc w h0 h1] at q;exact q
abbrev FC:List D->M OT:=zh FA
def Kf:Txt K mg->BD P w K mg base "costs_out" 5 2 FC:=(zb FA).1
def Ra:∀(m:Nat) (rs:List Road) (L:List Int) (A:LA) (K:List (Int×Int)) (s:Nat),BO m rs L A K->s<m->∃T:List Co,FC [AJ m rs L A K,.int s]=.ok (.lst ((T.map cst).map .sh))/\T.length=m/\∀w:Int,0<=w->w<m->Bz rs s w (atC T w):=(zb FA).2
def Hh:∃F:List D->M OT,(∀ {P w K mg base},Txt K mg->BD P w K mg base "costs_in" 5 2 F)/\(∀(m:Nat) (rs:List Road) (L:List Int) (A:LA) (K:List (Int×Int)) (s:Nat),BO m rs L A K->s<m->∃T:List Co,F [AJ m rs L A K,.int s]=.ok (.lst ((T.map cst).map .sh))/\T.length=m/\∀w:Int,0<=w->w<m->Bz rs w s (atC T w)):=by
 refine⟨_,λ T=>Ax (k:=4) T.UG SK _ (λ f B4 A outer s H E hr=>(A4 (Ak (Ab A7.toXCall (Td T) (hr.mono (by decide)) rfl (A2 (Ai (F3 (k:=1) [("Ladder",AB)] A7.toXCall (CV (by decide) (CC T) DD) (hr.mono (by decide)) (A1 0 (pv 0)))) (A2 (Ai (Ab A7.toXCall (Hf T) (hr.mono (by decide)) rfl (A2 (A1 0 (pv 0)) A6) rfl)) (A2 (A1 1 (pv 1)) A6))) rfl)))),?_⟩;intro m rs L A K s ok hs;have hm:=ok.m2;have e0:AE ["ladder","goal"] [AJ m rs L A K,.int s]=[some (.val (AJ m rs L A K)),some (.val (.int s))]:=rfl;rw[e0];have h1:=Hg m rs L A K ok;have h2:=CD m rs L A K;have gh:GI [("Ladder",AB)] "order" (AJ m rs L A K)=.ok AB:=rfl;have qi:(s:Int)∈L:=(AZ ok.pm).mpr ⟨by omega,by omega⟩;have gi:∀p c,AF (Ib A K) p=some c->p.1∈L/\p.2∈L:=λ p c h=>by
  have hm:=QC h;unfold Ib at hm;obtain⟨q,hq,e⟩:=zC.mp hm;cases e;have:=ok.XI hq;exact⟨(AZ ok.pm).mpr this.2.1,(AZ ok.pm).mpr this.2.2⟩
 have hC:∀p c,AF (SE (Ib A K)) p=some c->p.1∈L/\p.2∈L:=λ p c h=>by
  rw[show p=(p.1,p.2) from rfl,QN] at h;have:=gi _ _ h;exact⟨this.2,this.1⟩
 obtain⟨R,T,hF,hR,hT⟩:=Te m L (SE (Ib A K)) s (by omega) ok.pm qi hC;refine⟨T,B9 ?_,hT.len,λ w h0 h1=>?_⟩
 ·simp_arith[gh,h2,h1,hF];exact⟨_,rfl,rfl⟩
 ·have hU:=hR.xK (m:=m) hC;have a6:∀x:Int,0<=x->x<m->x∈L.reverse:=λ x a b=>za1.mpr ((AZ ok.pm).mpr ⟨a,b⟩);obtain⟨T',jq⟩:∃T':Int->Co,T'=λ x:Int=>if 0<=x/\x<(m:Int) then atC T x else none:=⟨_,rfl⟩
  have cc:∀x:Int,0<=x->x<m->T' x=atC T x:=λ x a b=>by rw[jq];exact if_pos ⟨a,b⟩
  have hS:tH (DK L) (λ x y=>AF (SE (Ib A K)) (x,y)) s (AF R) T' m:=⟨λ x a b=>by rw[cc x a b];exact hT.top x (a6 x a b),λ x y a b c d hr=>by rw[cc x a b,cc y c d];exact hT.cl x (a6 x a b) y (a6 y c d) hr,λ x c hx=>by
   have am:0<=x/\x<m:=by
    refine zaf λ hn=>?_;rw[jq] at hx;dsimp only at hx;rw[if_neg hn] at hx;cases hx
   rw[cc x am.1 am.2] at hx;exact hT.sd x c am.1 am.2 hx⟩
  have wu:(λ x y=>AF (SE (Ib A K)) (x,y))=λ x y=>AF (Ib A K) (y,x):=by funext x y;exact QN x y _
  rw[wu] at hU hS;obtain⟨cs,qj,_⟩:=ET m w.toNat rs (by omega) (by omega) (λ r hr=>(ok.ok r hr).1);have bH:=qj.ZE (λ r hr=>(ok.ok r hr).1) (w:=(s:Int)) (by omega) (by omega);have ew:((w.toNat:Nat):Int)=w:=by omega
  rw[ew] at bH;have q:=(Pu (s:=(s:Int)) (w:=w) ok.kL.turn ok.kept.turn ⟨by omega,by omega⟩ hU hS bH.turn).turn;rw[HR,cc w h0 h1] at q;exact q
abbrev HW:List D->M OT:=zh Hh
def LF:Txt K mg->BD P w K mg base "costs_in" 5 2 HW:=(zb Hh).1
def Tf:∀(m:Nat) (rs:List Road) (L:List Int) (A:LA) (K:List (Int×Int)) (s:Nat),BO m rs L A K->s<m->∃T:List Co,HW [AJ m rs L A K,.int s]=.ok (.lst ((T.map cst).map .sh))/\T.length=m/\∀w:Int,0<=w->w<m->Bz rs w s (atC T w):=(zb Hh).2
def FD:∃F:List D->M OT,(∀ {P w K mg base},Txt K mg->BD P w K mg base "lies_over" 2 3 F)/\(∀(m:Nat) (T:List Co) (W:List (Int×List Co)) (h:Int),m<=20->T.length=m->W.length<=900->(∀k∈W,(0<=k.1/\k.1<m)/\k.2.length=m)->0<=h->h<m->F [.lst (T.map cst),.lst (W.map dJ),.int h]=.ok (.sh (.bl (W.any λ k=>decide (Ah (atC T k.1) (atC k.2 h)=atC T h))))):=by
 refine⟨_,λ T=>Ax (k:=1) T.SV QV _ (λ f B4 A outer s H E hr=>(A4 (Ak (AX (fV rfl rfl T.tQ (Ai (CB (NB:=["higher","row","costs","hub"]) [none,none,some 0,some 2] rfl (AN (A1 1 (pv 1))) rfl rfl (M5 (n:=2) rfl (CO 0 (by decide) rfl rfl rfl (CO 1 (by decide) rfl rfl rfl Jt))) (λ _ _ _ _=>Dk) (λ _ _ _ _=>(jX (AO hr 16 (by decide)) (Ai (C9 (Ab (Bs rfl).toXCall (Fb T) (hr.mono (by decide)) rfl (A2 (Aa (AO hr 16 (by decide)) (A1 2 (pv 2)) (A1 0 (pv 0))) (A2 (Aa (AO hr 16 (by decide)) (A1 1 (pv 1)) (A1 3 (pv 3))) A6)) rfl))) (Aa (AO hr 16 (by decide)) (A1 2 (pv 2)) (A1 3 (pv 3)))))))))))),?_⟩;intro m T W h hm hT hW hk h0 h1;have e0:AE ["costs","known","hub"] [.lst (T.map cst),.lst (W.map dJ),.int h]=[some (.val (.lst (T.map cst))),some (.val (.lst (W.map dJ))),some (.val (.int h))]:=rfl;rw[e0];refine B9 ?_;have x1:AY (.lst (T.map cst)) (.int h)=.ok (cst (atC T h)):=BN h0 (by omega);have hl:(W.map dJ).length<=1000:=by rw[zc];omega
 simp_arith[if_pos hl];rw[BG (λ k:Int×List Co=>D.bl (decide (Ah (atC T k.1) (atC k.2 h)=atC T h))) (λ k e7=>⟨_,rfl,rfl,by
  obtain⟨⟨k0,k1⟩,k2⟩:=hk k e7;have x2:AY (.lst (T.map cst)) (.int k.1)=.ok (cst (atC T k.1)):=BN k0 (by omega);have x3:AY (.lst (k.2.map cst)) (.int h)=.ok (cst (atC k.2 h)):=BN h0 (by omega);have cj:=Fc (atC T k.1) (atC k.2 h);have lp:=Qw (Ah (atC T k.1) (atC k.2 h)) (atC T h);simp_arith[x1,x2,x3,cj,lp]⟩)]
 have e1:(W.map λ k=>D.bl (decide (Ah (atC T k.1) (atC k.2 h)=atC T h)))=(W.map λ k=>decide (Ah (atC T k.1) (atC k.2 h)=atC T h)).map D.bl:=by rw[zT];rfl
 simp_arith[e1];rw[List.any_map];rfl
abbrev NK:List D->M OT:=zh FD
def Rb:Txt K mg->BD P w K mg base "lies_over" 2 3 NK:=(zb FD).1
def Rc:∀(m:Nat) (T:List Co) (W:List (Int×List Co)) (h:Int),m<=20->T.length=m->W.length<=900->(∀k∈W,(0<=k.1/\k.1<m)/\k.2.length=m)->0<=h->h<m->NK [.lst (T.map cst),.lst (W.map dJ),.int h]=.ok (.sh (.bl (W.any λ k=>decide (Ah (atC T k.1) (atC k.2 h)=atC T h)))):=(zb FD).2
def Hi:∃F:List D->M OT,(∀ {P w K mg base},Txt K mg->BD P w K mg base "label_by" 6 3 F)/\(∀(m:Nat) (rs:List Road) (L:List Int) (A:LA) (K:List (Int×Int)) (C:Int->Int->Co) (p:Nat) (x:Str),BO m rs L A K->XR m C->p<m->(∀s:Int,0<=s->s<m->∃T:List Co,(Xp) "costs_out" (FC) "costs_in" (HW) (.ok [AJ m rs L A K,.int s]) (.EW x)=.ok (.lst ((T.map cst).map .sh))/\T.length=m/\∀w:Int,0<=w->w<m->atC T w=C s w)->F [AJ m rs L A K,.int p,.EW x]=.ok (.lst (((AL C p L.reverse).map (AU C p)).map .sh))):=by
 refine⟨_,λ T=>Ax (k:=5) T.UH Ds _ (λ f B4 A outer s H E hr=>(A3 (AM 3 Ds.nd rfl (zK rfl) (Ai (SI A7.toXCall T.Ha (Kf T) (hr.mono (by decide)) T.IT (LF T) (hr.mono (by decide)) (A1 2 (pv 2)) (A2 (A1 0 (pv 0)) (A2 (A1 1 (pv 1)) A6)) rfl))) (A3 (Bx 4 Ds.nd rfl (zK rfl) (Fq CU)) (A3 (Bx 5 Ds.nd rfl (zK rfl) (Fq CU)) (A3 (B5 A7.toXCall.own rfl (Zy rfl T.ND (Ai (F3 (k:=1) [("Ladder",AB)] A7.toXCall (CV (by decide) (CC T) DD) (hr.mono (by decide)) (A1 0 (pv 0))))) (Az 6 Ds.nd rfl (zK rfl)) (A4 (B0 (KJ (DW.dt (Ky (Hs (c:=true) (Aa (AO hr 16 (by decide)) (A1 3 (pv 3)) (A1 6 (pv 6)))) (Ja (CF (Ca (c:=true) (Ai (Ab A7.toXCall (Rb T) (hr.mono (by decide)) rfl (A2 (A1 3 (pv 3)) (A2 (A1 5 (pv 5)) (A2 (A1 6 (pv 6)) A6))) rfl)))))))) (A3 (DQ 4 (pv 4) (AH (A2 (A1 6 (pv 6)) (A2 (Aa (AO hr 16 (by decide)) (A1 3 (pv 3)) (A1 6 (pv 6))) A6)))) (A4 (nU (BW 5 (pv 5)) (Z4 (Jk (AX (A1 6 (pv 6))) (Jk (SI A7.toXCall T.Ha (Kf T) (hr.mono (by decide)) T.IT (LF T) (hr.mono (by decide)) (A1 2 (pv 2)) (A2 (A1 0 (pv 0)) (A2 (A1 6 (pv 6)) A6)) rfl) CU)))))) As))) (A4 (Ci 4 (pv 4)))))))),?_⟩;intro m rs L A K C p x ok hC hp hG;have hm:=ok.m2;have hL:=ok.pm;have hlen:=F6 hL;obtain⟨T,g1,l1,t1⟩:=hG p (by omega) (by omega);have e0:AE ["ladder","place","costs_of","costs","label","known","hub"] [AJ m rs L A K,.int p,.EW x]=[some (.val (AJ m rs L A K)),some (.val (.int p)),some (.val (.EW x)),none,none,none,none]:=rfl;rw[e0];refine B9 ?_;have hs:GI [("Ladder",AB)] "order" (AJ m rs L A K)=.ok AB:=rfl;have ho:=CD m rs L A K;apply wp_step
 ·simp_arith[g1];rfl
 try simp only[zq,zk]
 apply wp_step
 ·rfl
 try simp only[zq,zk]
 refine wp_step (ρ':=[some (.val (AJ m rs L A K)),some (.val (.int p)),some (.val (.EW x)),some (.val (.lst (T.map cst))),some (.own []),some (Xq []),none]) (by simp_arith[];try rfl) ?_;refine Bm (I:=λ ρ=>∃(s5 s6:Option Cl),ρ=[some (.val (AJ m rs L A K)),some (.val (.int p)),some (.val (.EW x)),some (.val (.lst (T.map cst))),some (.own ((AL C p L.reverse).map (AU C p))),s5,s6]) ?_ ?_
 ·have gf:(L.map D.int).reverse=L.reverse.map D.int:=by rw[List.map_reverse]
  simp_arith[hs,ho,gf];refine B6 (λ i ρ=>∃(W:List (Int×List Co)) (s6:Option Cl),ρ=[some (.val (AJ m rs L A K)),some (.val (.int p)),some (.val (.EW x)),some (.val (.lst (T.map cst))),some (.own ((AL C p (L.reverse.take i)).map (AU C p))),some (Xq W),s6]/\W.map zJ=AL C p (L.reverse.take i)/\∀k∈W,k.2.length=m/\∀w:Int,0<=w->w<m->atC k.2 w=C k.1 w) ⟨[],none,rfl,rfl,λ k hk=>by cases hk⟩ ?_ ?_
  ·rintro i d ρ hd ⟨W,s6,rfl,hW,hk⟩;obtain⟨y,hy,rfl⟩:=BM hd;have aV:=(AZ hL).mp (za1.mp (zv hy));have et:L.reverse.take (i+1)=L.reverse.take i++[y]:=by rw[zV,hy];rfl
   have hD:∀z∈L.reverse.take i,0<=z/\z<(m:Int):=λ z hz=>(AZ hL).mp (za1.mp (yK hz));have r6:=Nj C p (L.reverse.take i);rw[yM,yR] at r6;have y3:W.length<=20:=by
    have:=congrArg List.length hW;rw[zc] at this;omega
   have sB:∀k∈W,(0<=k.1/\k.1<m)/\k.2.length=m:=λ k h=>⟨hD _ (Dr C p _ _ (by rw[<-hW];exact List.mem_map_of_mem h)),(hk k h).1⟩;refine⟨_,rfl,?_⟩;have x1:AY (.lst (T.map cst)) (.int y)=.ok (cst (C p y)):=by rw[<-t1 y aV.1 aV.2];exact BN aV.1 (by omega)
   rw[et,DY];cases hc:C p y with
   |none =>
    rw[hc] at x1;have aG:BV (cst none)=true:=rfl;rw[Uz hc,if_neg (by decide),zI];exact AV (ρ':=[some (.val (AJ m rs L A K)),some (.val (.int p)),some (.val (.EW x)),some (.val (.lst (T.map cst))),some (.own ((AL C p (L.reverse.take i)).map (AU C p))),some (Xq W),some (.val (.int y))]) (by simp_arith[QR,x1,aG];try rfl) ⟨W,_,rfl,hW,hk⟩
   |some c =>
    have ae:C p y≠none:=by rw[hc];exact λ z=>by cases z
    rw[hc] at x1;have aG:BV (cst (some c))=false:=rfl;have g8:=Rc m T W y (by omega) l1 (by omega) sB aV.1 aV.2;have wv:(W.any λ k=>decide (Ah (atC T k.1) (atC k.2 y)=atC T y))=(L.reverse.take i).any λ z=>decide (Ah (C p z) (C z y)=C p y):=by
     rw[<-Xn hC ⟨by omega,by omega⟩ aV hD ae,<-hW,List.any_map];refine pE λ k h=>?_;obtain⟨⟨a,b⟩,_⟩:=sB k h;rw[Function.comp,t1 k.1 a b,t1 y aV.1 aV.2,(hk k h).2 y aV.1 aV.2]
    rw[wv] at g8;rw[Nk ae];cases hz:(L.reverse.take i).any λ z=>decide (Ah (C p z) (C z y)=C p y) with
    |true =>
     rw[hz] at g8;rw[Bool.not_true,if_neg (by decide),zI];exact AV (ρ':=[some (.val (AJ m rs L A K)),some (.val (.int p)),some (.val (.EW x)),some (.val (.lst (T.map cst))),some (.own ((AL C p (L.reverse.take i)).map (AU C p))),some (Xq W),some (.val (.int y))]) (by simp_arith[QR,x1,aG,g8,GD];try rfl) ⟨W,_,rfl,hW,hk⟩
    |false =>
     rw[hz] at g8;rw[Bool.not_false,if_pos rfl];obtain⟨U,g2,l2,t2⟩:=hG y aV.1 aV.2;have aH:((AL C p (L.reverse.take i)).map (AU C p)).length<1000:=by rw[zc];omega
     have gj:(W.map jJ).length<1000:=by rw[zc];omega
     have eh:AU C p y=.tup [.int y,cst (some c)]:=by unfold AU;rw[hc]
     have ek:OT.tup [.sh (.int y),.lst ((U.map cst).map .sh)]=jJ (y,U):=rfl;refine AV (ρ':=[some (.val (AJ m rs L A K)),some (.val (.int p)),some (.val (.EW x)),some (.val (.lst (T.map cst))),some (.own ((AL C p (L.reverse.take i)++[y]).map (AU C p))),some (Xq (W++[(y,U)])),some (.val (.int y))]) (by
      rw[z4,List.map_singleton,eh];simp_arith[QR,x1,aG,g8,GD,if_pos aH,if_true,RU];simp_arith[jK,cP,g2,ek,if_pos gj,jL];try rfl) ⟨_,_,rfl,by rw[z4,hW];rfl,λ k h=>?_⟩
     rcases zy.mp h with h|h
     ·exact hk k h
     ·rw[zg.mp h];exact⟨l2,t2⟩
  ·rintro ρ ⟨W,s6,rfl,_,_⟩;have e:L.reverse.take (L.reverse.map D.int).length=L.reverse:=by rw[zc,zU]
   rw[e];exact⟨_,_,rfl⟩
 ·rintro ρ ⟨s5,s6,rfl⟩;exact⟨_,rfl,rfl⟩
abbrev PF:List D->M OT:=zh Hi
def LG:Txt K mg->BD P w K mg base "label_by" 6 3 PF:=(zb Hi).1
def LH:∀(m:Nat) (rs:List Road) (L:List Int) (A:LA) (K:List (Int×Int)) (C:Int->Int->Co) (p:Nat) (x:Str),BO m rs L A K->XR m C->p<m->(∀s:Int,0<=s->s<m->∃T:List Co,(Xp) "costs_out" (FC) "costs_in" (HW) (.ok [AJ m rs L A K,.int s]) (.EW x)=.ok (.lst ((T.map cst).map .sh))/\T.length=m/\∀w:Int,0<=w->w<m->atC T w=C s w)->PF [AJ m rs L A K,.int p,.EW x]=.ok (.lst (((AL C p L.reverse).map (AU C p)).map .sh)):=(zb Hi).2
def FE:∃F:List D->M OT,(∀ {P w K mg base},Txt K mg->BD P w K mg base "label_out" 7 2 F)/\(∀(m:Nat) (rs:List Road) (L:List Int) (A:LA) (K:List (Int×Int)) (c:Int->Int->Co) (p:Nat),BO m rs L A K->(∀x y:Int,0<=x->x<m->0<=y->y<m->Bz rs x y (c x y))->p<m->F [AJ m rs L A K,.int p]=.ok (.lst (((AL c p L.reverse).map (AU c p)).map .sh))):=by
 refine⟨_,λ T=>Ax (k:=6) T.SW QW _ (λ f B4 A outer s H E hr=>(A4 (Ak (Ab A7.toXCall (LG T) (hr.mono (by decide)) rfl (A2 (A1 0 (pv 0)) (A2 (A1 1 (pv 1)) (A2 (cL T.Ha rfl) A6))) rfl)))),?_⟩;intro m rs L A K c p ok hA hp;have h:=LH m rs L A K c p "costs_out" ok (QS hA) hp λ s h0 h1=>by
  obtain⟨s',rfl⟩:∃s':Nat,(s':Int)=s:=⟨s.toNat,by omega⟩;obtain⟨T,g1,l1,t1⟩:=Ra m rs L A K s' ok (by omega);exact⟨T,g1,l1,λ w a b=>(t1 w a b).Cg (hA _ _ h0 h1 a b)⟩
 have e0:AE ["ladder","place"] [AJ m rs L A K,.int p]=[some (.val (AJ m rs L A K)),some (.val (.int p))]:=rfl;rw[e0];refine B9 ?_;simp_arith[h];exact⟨_,rfl,rfl⟩
abbrev NL:List D->M OT:=zh FE
def Rf:Txt K mg->BD P w K mg base "label_out" 7 2 NL:=(zb FE).1
def Rg:∀(m:Nat) (rs:List Road) (L:List Int) (A:LA) (K:List (Int×Int)) (c:Int->Int->Co) (p:Nat),BO m rs L A K->(∀x y:Int,0<=x->x<m->0<=y->y<m->Bz rs x y (c x y))->p<m->NL [AJ m rs L A K,.int p]=.ok (.lst (((AL c p L.reverse).map (AU c p)).map .sh)):=(zb FE).2
def EU:∃F:List D->M OT,(∀ {P w K mg base},Txt K mg->BD P w K mg base "label_into" 7 2 F)/\(∀(m:Nat) (rs:List Road) (L:List Int) (A:LA) (K:List (Int×Int)) (c:Int->Int->Co) (p:Nat),BO m rs L A K->(∀x y:Int,0<=x->x<m->0<=y->y<m->Bz rs x y (c x y))->p<m->F [AJ m rs L A K,.int p]=.ok (.lst (((AL (λ x y=>c y x) p L.reverse).map (AU (λ x y=>c y x) p)).map .sh))):=by
 refine⟨_,λ T=>Ax (k:=6) T.R5 Oh _ (λ f B4 A outer s H E hr=>(A4 (Ak (Ab A7.toXCall (LG T) (hr.mono (by decide)) rfl (A2 (A1 0 (pv 0)) (A2 (A1 1 (pv 1)) (A2 (cL T.IT rfl) A6))) rfl)))),?_⟩;intro m rs L A K c p ok hA hp;have h:=LH m rs L A K (λ x y=>c y x) p "costs_in" ok (QS hA).turn hp λ s h0 h1=>by
  obtain⟨s',rfl⟩:∃s':Nat,(s':Int)=s:=⟨s.toNat,by omega⟩;obtain⟨T,g1,l1,t1⟩:=Tf m rs L A K s' ok (by omega);exact⟨T,g1,l1,λ w a b=>(t1 w a b).Cg (hA _ _ a b h0 h1)⟩
 have e0:AE ["ladder","place"] [AJ m rs L A K,.int p]=[some (.val (AJ m rs L A K)),some (.val (.int p))]:=rfl;rw[e0];refine B9 ?_;simp_arith[h];exact⟨_,rfl,rfl⟩
abbrev LI:List D->M OT:=zh EU
def Ox:Txt K mg->BD P w K mg base "label_into" 7 2 LI:=(zb EU).1
def Oy:∀(m:Nat) (rs:List Road) (L:List Int) (A:LA) (K:List (Int×Int)) (c:Int->Int->Co) (p:Nat),BO m rs L A K->(∀x y:Int,0<=x->x<m->0<=y->y<m->Bz rs x y (c x y))->p<m->LI [AJ m rs L A K,.int p]=.ok (.lst (((AL (λ x y=>c y x) p L.reverse).map (AU (λ x y=>c y x) p)).map .sh)):=(zb EU).2
def UT:∃F:List D->M OT,(∀ {P w K mg base},Txt K mg->BD P w K mg base "met" 2 2 F)/\(∀(R1 R2:RA),(R2.map zJ).Nodup->R1.length<=900->R2.length<=900->F [.lst (R1.map Nl),.lst (R2.map Nl)]=.ok (.sh (Oe ((C6 R1 R2).foldl UA none)))):=by
 refine⟨_,λ T=>Ax (k:=1) T.tO IQ _ (λ f B4 A outer s H E hr=>(A3 (AM 2 IQ.nd rfl (Or.inr rfl) (Ai (cK rfl rfl T.UM (A1 1 (pv 1))))) (A3 (Jg (NB:=["hub","cost","costs"]) 3 [none,none,some 2] IQ.nd rfl (zK rfl) rfl (AN (A1 0 (pv 0))) rfl rfl (M5 (n:=2) rfl (CO 0 (by decide) rfl rfl rfl (CO 1 (by decide) rfl rfl rfl Jt))) (λ _ _ _ _=>ED (IJ (c:=true) (AO hr 16 (by decide)) (A1 0 (pv 0)) (A1 2 (pv 2)))) (λ _ _ _ _=>(AH (A2 (Ai (C9 (Ab (Bs rfl).toXCall (Fb T) (hr.mono (by decide)) rfl (A2 (A1 1 (pv 1)) (A2 (Aa (AO hr 16 (by decide)) (A1 2 (pv 2)) (A1 0 (pv 0))) A6)) rfl))) (A2 (A1 0 (pv 0)) A6))))) (A3 (AM 4 IQ.nd rfl (zK rfl) D9) (A3 (B5 A7.toXCall.own rfl (AN (A1 3 (pv 3))) (MO (n:=2) rfl (Cw (Az 5 IQ.nd rfl (zK rfl)) (Cw (Az 6 IQ.nd rfl (zK rfl)) Jd))) (A4 (B0 (DW.dt (FT (Fn (c:=true) (A1 4 (pv 4))) (E9 (Zu (c:=true) (AO hr 16 (by decide)) (A1 5 (pv 5)) (Aa (AO hr 16 (by decide)) (A1 4 (pv 4)) A8))))) (A4 (AM 4 IQ.nd rfl (zK rfl) (AH (A2 (A1 5 (pv 5)) (A2 (A1 6 (pv 6)) A6))))) As))) (A4 (Ak (AX (A1 4 (pv 4)))))))))),?_⟩;intro R1 R2 hn h1 h2;have e0:AE ["out","into","costs","sums","best","cost","hub"] [.lst (R1.map Nl),.lst (R2.map Nl)]=[some (.val (.lst (R1.map Nl))),some (.val (.lst (R2.map Nl))),none,none,none,none,none]:=rfl;rw[e0];refine B9 ?_;have hd:cJ (.lst (R2.map Nl))=.ok (XQ R2):=oZ hn (by omega);have hl:(R1.map Nl).length<=1000:=by rw[zc];omega
 have y4:=Xs R1 R2;apply wp_step
 ·simp_arith[hd];rfl
 try simp only[zq,zk]
 refine wp_step (ρ':=[some (.val (.lst (R1.map Nl))),some (.val (.lst (R2.map Nl))),some (.val (SD R2)),some (.val (.lst ((C6 R1 R2).map Xr))),none,none,none]) (by
  simp_arith[if_pos hl];rw[Cb (λ kv:Int×(Int×Int)=>(AF R2 kv.1).isSome) (λ kv=>D.tup [cst (Ah (some kv.2) (AF R2 kv.1)),.int kv.1]) (λ kv hk=>⟨_,rfl,by
   have hm:=ZX R2 kv.1 false;simp_arith[hm];try rfl,λ hs=>by
   obtain⟨c,hc⟩:=zam.mp hs;have hi:=ZY hc;have cj:=Fc (some kv.2) (some c);rw[hc];simp_arith[hi,cj]⟩),Nm]
  simp_arith[];try rfl) ?_
 apply wp_step
 ·rfl
 try simp only[zq,zk]
 refine Bm (I:=λ ρ=>∃s5 s6:Option Cl,ρ=[some (.val (.lst (R1.map Nl))),some (.val (.lst (R2.map Nl))),some (.val (SD R2)),some (.val (.lst ((C6 R1 R2).map Xr))),some (.val (Oe ((C6 R1 R2).foldl UA none))),s5,s6]) ?_ ?_
 ·simp_arith[];refine B6 (λ i ρ=>∃s5 s6:Option Cl,ρ=[some (.val (.lst (R1.map Nl))),some (.val (.lst (R2.map Nl))),some (.val (SD R2)),some (.val (.lst ((C6 R1 R2).map Xr))),some (.val (Oe (((C6 R1 R2).take i).foldl UA none))),s5,s6]) ⟨none,none,rfl⟩ ?_ ?_
  ·rintro i d ρ hd ⟨s5,s6,rfl⟩;rw[z7] at hd;obtain⟨x,hx,rfl⟩:=yT.mp hd;have et:(C6 R1 R2).take (i+1)=(C6 R1 R2).take i++[x]:=by rw[zV,hx];rfl
   refine⟨_,rfl,?_⟩;rw[et,List.foldl_append,zB,List.foldl_nil];obtain⟨b,hb⟩:∃b,b=((C6 R1 R2).take i).foldl UA none:=⟨_,rfl⟩;rw[<-hb];cases b with
   |none =>
    have aG:BV (Oe none)=true:=rfl;exact AV (ρ':=[some (.val (.lst (R1.map Nl))),some (.val (.lst (R2.map Nl))),some (.val (SD R2)),some (.val (.lst ((C6 R1 R2).map Xr))),some (.val (Oe (some x))),some (.val (cst (some x.1))),some (.val (.int x.2))]) (by simp_arith[aG];try rfl) ⟨_,_,rfl⟩
   |some y =>
    have aG:BV (Oe (some y))=false:=rfl;have h0:AY (Oe (some y)) (.int 0)=.ok (cst (some y.1)):=rfl;have hx:=tK x.1 y.1;by_cases hc:x.1.1<y.1.1\/(x.1.1=y.1.1/\x.1.2<y.1.2)
    ·have e:UA (some y) x=some x:=if_pos hc;rw[decide_eq_true hc] at hx;rw[e];exact AV (ρ':=[some (.val (.lst (R1.map Nl))),some (.val (.lst (R2.map Nl))),some (.val (SD R2)),some (.val (.lst ((C6 R1 R2).map Xr))),some (.val (Oe (some x))),some (.val (cst (some x.1))),some (.val (.int x.2))]) (by simp_arith[aG,h0,hx];try rfl) ⟨_,_,rfl⟩
    ·have e:UA (some y) x=some y:=if_neg hc;rw[decide_eq_false hc] at hx;rw[e];exact AV (ρ':=[some (.val (.lst (R1.map Nl))),some (.val (.lst (R2.map Nl))),some (.val (SD R2)),some (.val (.lst ((C6 R1 R2).map Xr))),some (.val (Oe (some y))),some (.val (cst (some x.1))),some (.val (.int x.2))]) (by simp_arith[aG,h0,hx];try rfl) ⟨_,_,rfl⟩
  ·rintro ρ ⟨s5,s6,rfl⟩;rw[zaw (by rw[zc];exact zu _)];exact⟨_,_,rfl⟩
 ·rintro ρ ⟨s5,s6,rfl⟩;rfl
abbrev jP:List D->M OT:=zh UT
def pH:Txt K mg->BD P w K mg base "met" 2 2 jP:=(zb UT).1
def pI:∀(R1 R2:RA),(R2.map zJ).Nodup->R1.length<=900->R2.length<=900->jP [.lst (R1.map Nl),.lst (R2.map Nl)]=.ok (.sh (Oe ((C6 R1 R2).foldl UA none))):=(zb UT).2
def Er:∃F:List D->M OT,(∀ {P w K mg base},Txt K mg->BD P w K mg base "cost_so_far" 1 2 F)/\(∀(A:LA) (p:Int×Int),F [Lj A,pD p]=.ok (.sh (cst (Am A p)))):=by
 refine⟨_,λ T=>Ax (k:=0) T.Oi Nq _ (λ f B4 A outer s H E hr=>(A3 (B0 (M2 (c:=true) (AO hr 16 (by decide)) (A1 1 (pv 1)) (A1 0 (pv 0))) (A4 (Ak (AX D9))) As) (A4 (Ak (AX (Aa (AO hr 16 (by decide)) (Aa (AO hr 16 (by decide)) (A1 0 (pv 0)) (A1 1 (pv 1))) A8)))))),?_⟩;intro A p;have e0:AE ["laid","pair"] [Lj A,pD p]=[some (.val (Lj A)),some (.val (pD p))]:=rfl;rw[e0];refine B9 ?_;have hm:=QK A p true;unfold Am;cases q:AF A p with
 |none =>
  rw[q] at hm;simp_arith[hm,GD];rfl
 |some v =>
  rw[q] at hm;have hi:=QL q;have h0:AY (Xi v) (.int 0)=.ok (cst (some v.1)):=rfl;apply wp_step
  ·simp_arith[hm,GD];rfl
  simp_arith[hi,h0];rfl
abbrev Kg:List D->M OT:=zh Er
def Hj:Txt K mg->BD P w K mg base "cost_so_far" 1 2 Kg:=(zb Er).1
def Hk:∀(A:LA) (p:Int×Int),Kg [Lj A,pD p]=.ok (.sh (cst (Am A p))):=(zb Er).2
def UU:∃F:OT->List D->M (OT×OT),(∀ {P w K mg base},Txt K mg->P9 P w K mg base "lay" 1 4 F)/\(∀(A:LA) (p:Int×Int) (c:Co) (mid:Option Int),A.length<1000->F (IZ A) [pD p,cst c,GL mid]=.ok (IZ (layA A p c mid),.sh .AK)):=by
 refine⟨_,λ T=>S5 (k:=0) T.tP pF _ (λ f B4 A outer s H E hr=>(A4 (B0 (KJ (DW.dt (Ky (Hs (c:=true) (A1 2 (pv 2))) (Ja (DW.dt (FT (M2 (c:=true) (AO hr 16 (by decide)) (A1 1 (pv 1)) (A1 0 (pv 0))) (E9 (Zu (c:=true) (AO hr 16 (by decide)) (A1 2 (pv 2)) (Aa (AO hr 16 (by decide)) (Aa (AO hr 16 (by decide)) (A1 0 (pv 0)) (A1 1 (pv 1))) A8))))))))) (A4 (M4 (AO hr 16 (by decide)) (BW 0 (pv 0)) (A1 1 (pv 1)) (AH (A2 (A1 2 (pv 2)) (A2 (A1 3 (pv 3)) A6))))) As))),?_⟩;intro A p c mid hA;have e0:D4 ["laid","pair","cost","middle"] (IZ A) [pD p,cst c,GL mid]=[some (.ow (.tree (some 0) (IZ A))),some (.val (pD p)),some (.val (cst c)),some (.val (GL mid))]:=rfl;rw[e0];refine Uv ?_;have hm:=QK A p true;have sK:∀c:Int×Int,D.tup [cst (some c),GL mid]=Xi (c,mid):=λ c=>rfl;have hl:(A.map λ kv=>pD kv.1).length<1000:=by rw[zc];exact hA
 have h9:keyOk true (pD p)=true:=rfl;have af:∀v,(List.map (λ kv=>pD kv.1) (Df A p v))=(List.map (λ kv=>pD kv.1) (Df A p v)):=λ _=>rfl;cases c with
 |none =>
  refine AV (ρ':=_) (by simp_arith[cst,BV];rfl) ⟨rfl,rfl⟩
 |some c =>
  have aG:BV (cst (some c))=false:=rfl;cases q:AF A p with
  |none =>
   rw[q] at hm;have el:layA A p (some c) mid=Df A p (c,mid):=by unfold layA;dsimp only;rw[q]
   rw[el];refine AV (ρ':=[some (.ow (.tree (some 0) (IZ (Df A p (c,mid))))),some (.val (pD p)),some (.val (cst (some c))),some (.val (GL mid))]) (by
    simp_arith[aG,hm,GD,DV,sK,if_pos (And.intro h9 hl),cB,h9,hl,and_self,if_true];rfl) ⟨rfl,rfl⟩
  |some z =>
   rw[q] at hm;have hi:=QL q;have h0:AY (Xi z) (.int 0)=.ok (cst (some z.1)):=rfl;have hx:=tK c z.1;by_cases hc:c.1<z.1.1\/(c.1=z.1.1/\c.2<z.1.2)
   ·have el:layA A p (some c) mid=Df A p (c,mid):=by unfold layA;dsimp only;rw[q];dsimp only;rw[if_pos hc]
    rw[decide_eq_true hc] at hx;rw[el];refine AV (ρ':=[some (.ow (.tree (some 0) (IZ (Df A p (c,mid))))),some (.val (pD p)),some (.val (cst (some c))),some (.val (GL mid))]) (by
     simp_arith[aG,hm,hi,h0,hx,GD,DV,sK,if_pos (And.intro h9 hl),cB,h9,hl,and_self,if_true];rfl) ⟨rfl,rfl⟩
   ·have el:layA A p (some c) mid=A:=by unfold layA;dsimp only;rw[q];dsimp only;rw[if_neg hc]
    rw[decide_eq_false hc] at hx;rw[el];refine AV (ρ':=_) (by simp_arith[aG,hm,hi,h0,hx,GD];rfl) ⟨rfl,rfl⟩
abbrev tS:OT->List D->M (OT×OT):=zh UU
def dB:Txt K mg->P9 P w K mg base "lay" 1 4 tS:=(zb UU).1
def dC:∀(A:LA) (p:Int×Int) (c:Co) (mid:Option Int),A.length<1000->tS (IZ A) [pD p,cst c,GL mid]=.ok (IZ (layA A p c mid),.sh .AK):=(zb UU).2
def Hl:∃F:OT->List D->M (OT×OT),(∀ {P w K mg base},Txt K mg->P9 P w K mg base "lay_over" 2 3 F)/\(∀(m:Nat) (A:LA) (p:Int) (H:List Int),m<=20->Fd m A->(∀x∈H,0<=x/\x<m)->F (IZ A) [.int p,.lst (H.map D.int)]=.ok (IZ (oK A p H),.sh .AK)):=by
 refine⟨_,λ T=>S5 (k:=1) T.UI EG _ (λ f B4 A outer s H E hr=>(A4 (B5 A7.toXCall.own rfl (AN (A1 2 (pv 2))) (Az 3 EG.nd rfl (zK rfl)) (A4 (B5 A7.toXCall.own rfl (AN (A1 2 (pv 2))) (Az 4 EG.nd rfl (zK rfl)) (A4 (B0 (J9 (c:=true) (AO hr 16 (by decide)) (A1 3 (pv 3)) (A1 4 (pv 4))) (A3 (AM 5 EG.nd rfl (zK rfl) (Ai (Ee (Ab A7.toXCall (Fb T) (hr.mono (by decide)) rfl (A2 (Ai (Ab A7.toXCall (Hj T) (hr.mono (by decide)) rfl (A2 (A1 0 (pv 0)) (A2 (AH (A2 (A1 3 (pv 3)) (A2 (A1 1 (pv 1)) A6))) A6)) rfl)) (A2 (Ai (Ab A7.toXCall (Hj T) (hr.mono (by decide)) rfl (A2 (A1 0 (pv 0)) (A2 (AH (A2 (A1 1 (pv 1)) (A2 (A1 4 (pv 4)) A6))) A6)) rfl)) A6)) rfl)))) (A4 (MZ (Zf A7.toXCall (dB T) (hr.mono (by decide)) rfl (BW 0 (pv 0)) (A2 (AH (A2 (A1 3 (pv 3)) (A2 (A1 4 (pv 4)) A6))) (A2 (A1 5 (pv 5)) (A2 (A1 1 (pv 1)) A6))) rfl)))) As))))))),?_⟩;intro m A p H hm hA hH;have e0:D4 ["laid","place","higher","u","w","cost"] (IZ A) [.int p,.lst (H.map D.int)]=[some (.ow (.tree (some 0) (IZ A))),some (.val (.int p)),some (.val (.lst (H.map D.int))),none,none,none]:=rfl;rw[e0];refine Uv ?_;simp_arith[];refine B6 (λ i ρ=>∃s3 s4 s5:Option Cl,ρ=[some (.ow (.tree (some 0) (IZ ((H.take i).foldl (jA p H) A)))),some (.val (.int p)),some (.val (.lst (H.map D.int))),s3,s4,s5]) ⟨none,none,none,rfl⟩ ?_ ?_
 ·rintro i d ρ hd ⟨s3,s4,s5,rfl⟩;obtain⟨u,hu,rfl⟩:=BM hd;have p8:=hH u (zv hu);refine⟨_,rfl,?_⟩;obtain⟨B,hB⟩:∃B,B=(H.take i).foldl (jA p H) A:=⟨_,rfl⟩;have gl:Fd m B:=by rw[hB];exact Fd.lo hH hA λ x hx=>hH x (yK hx)
  rw[<-hB,Ej hu,<-hB];simp_arith[];refine B6 (λ j ρ=>∃s4 s5:Option Cl,ρ=[some (.ow (.tree (some 0) (IZ ((H.take j).foldl (QD p u) B)))),some (.val (.int p)),some (.val (.lst (H.map D.int))),some (.val (.int u)),s4,s5]) ⟨s4,s5,rfl⟩ ?_ ?_
  ·rintro j d ρ hd ⟨s4,s5,rfl⟩;obtain⟨w,hw,rfl⟩:=BM hd;have y6:=hH w (zv hw);refine⟨_,rfl,?_⟩;obtain⟨C,hC⟩:∃C,C=(H.take j).foldl (QD p u) B:=⟨_,rfl⟩;have qk:Fd m C:=by rw[hC];exact Fd.ou p8 gl λ x hx=>hH x (yK hx)
   rw[Ej hw,<-hC];by_cases e:u=w
   ·have ev:QD p u C w=C:=by unfold QD;rw[if_pos e]
    rw[ev];refine AV (ρ':=_) (by simp_arith[decide_eq_true e];rfl) ⟨_,_,rfl⟩
   ·have ev:QD p u C w=layA C (u,w) (Ah (Am C (u,p)) (Am C (p,w))) (some p):=by unfold QD;rw[if_neg e]
    rw[ev];have h1:=Hk C (u,p);have h2:=Hk C (p,w);have h3:=Fc (Am C (u,p)) (Am C (p,w));have h4:=dC C (u,w) (Ah (Am C (u,p)) (Am C (p,w))) (some p) (qk.len hm);have t1:∀a b:Int,D.tup [.int a,.int b]=pD (a,b):=λ a b=>rfl;have t2:GL (some p)=.int p:=rfl;rw[t2] at h4;have h5:=KS (ρ:=[some (.ow (.tree (some 0) (IZ C))),some (.val (.int p)),some (.val (.lst (H.map D.int))),some (.val (.int u)),some (.val (.int w)),some (.val (cst (Ah (Am C (u,p)) (Am C (p,w)))))]) (i:=0) rfl rfl h4;simp_arith[decide_eq_false e,if_true];apply wp_step
    ·simp_arith[t1,h1,h2,h3];rfl
    refine AV (ρ':=_) (by simp_arith[t1,h5];rfl) ⟨_,_,rfl⟩
  ·rintro ρ ⟨s4,s5,rfl⟩;rw[zc,zU];exact⟨_,s4,s5,rfl⟩
 ·rintro ρ ⟨s3,s4,s5,rfl⟩;rw[zc,zU];exact⟨rfl,trivial⟩
abbrev PH:OT->List D->M (OT×OT):=zh Hl
def Tg:Txt K mg->P9 P w K mg base "lay_over" 2 3 PH:=(zb Hl).1
def Th:∀(m:Nat) (A:LA) (p:Int) (H:List Int),m<=20->Fd m A->(∀x∈H,0<=x/\x<m)->PH (IZ A) [.int p,.lst (H.map D.int)]=.ok (IZ (oK A p H),.sh .AK):=(zb Hl).2
def FF:∃F:List D->M OT,(∀ {P w K mg base},Txt K mg->BD P w K mg base "laid_arcs" 3 2 F)/\(∀(m:Nat) (rs:List Road) (L:List Int),m<=20->L.Perm (AW m)->(∀r∈rs,Gd m r/\r.a≠r.b)->F [Ar m rs,.lst (L.map D.int)]=.ok (IZ (BY rs L))):=by
 refine⟨_,λ T=>Ax (k:=2) T.SX CW _ (λ f B4 A outer s H E hr=>(A3 (Bx 2 CW.nd rfl (zK rfl) (S7 true)) (A3 (B5 A7.toXCall.own rfl (AN (Aa (AO hr 16 (by decide)) (A1 0 (pv 0)) A8)) (Az 3 CW.nd rfl (zK rfl)) (A4 (MZ (Zf A7.toXCall (dB T) (hr.mono (by decide)) rfl (BW 2 (pv 2)) (A2 (AH (A2 (Aa (AO hr 16 (by decide)) (A1 3 (pv 3)) A8) (A2 (Aa (AO hr 16 (by decide)) (A1 3 (pv 3)) A8) A6))) (A2 (Ai (Ab A7.toXCall (Fy T) (hr.mono (by decide)) rfl (A2 (A1 3 (pv 3)) A6) rfl)) (A2 D9 A6))) rfl)))) (A3 (B5 A7.toXCall.own rfl (Vm rfl T.Lz (A1 1 (pv 1))) (MO (n:=2) rfl (Cw (Az 4 CW.nd rfl (zK rfl)) (Cw (Az 5 CW.nd rfl (zK rfl)) Jd))) (A4 (MZ (Zf A7.toXCall (Tg T) (hr.mono (by decide)) rfl (BW 2 (pv 2)) (A2 (A1 5 (pv 5)) (A2 (Ai (N0 (A1 1 (pv 1)) (LW (Cq (A1 4 (pv 4)) A8)) Vl)) A6)) rfl)))) (A4 (Ci 2 (pv 2))))))),?_⟩;intro m rs L hm hL Au;have e0:AE ["net","order","laid","road","rank","place"] [Ar m rs,.lst (L.map D.int)]=[some (.val (Ar m rs)),some (.val (.lst (L.map D.int))),none,none,none,none]:=rfl;rw[e0];refine B9 ?_;have n1:AY (Ar m rs) (.int 1)=.ok (.lst (rs.map Bk)):=rfl;apply wp_step
 ·rfl
 try simp only[zq,zk]
 have gm:∀i,i<=rs.length->Fd m ((rs.take i).foldl (λ A r=>layA A (r.a,r.b) (Cd r) none) []):=λ i hi=>by
  have:=(QE (m:=m) (rs:=rs.take i) λ r hr=>Au r (yK hr)).1;exact this
 refine Bm (I:=λ ρ=>∃s3 s4 s5:Option Cl,ρ=[some (.val (Ar m rs)),some (.val (.lst (L.map D.int))),some (.ow (.tree none (IZ (lay0 rs)))),s3,s4,s5]) ?_ ?_
 ·simp_arith[n1];refine B6 (λ i ρ=>i<=rs.length/\∃s3 s4 s5:Option Cl,ρ=[some (.val (Ar m rs)),some (.val (.lst (L.map D.int))),some (.ow (.tree none (IZ ((rs.take i).foldl (λ A r=>layA A (r.a,r.b) (Cd r) none) [])))),s3,s4,s5]) ⟨zR _,none,none,none,rfl⟩ ?_ ?_
  ·rintro i d ρ hd ⟨hi,s3,s4,s5,rfl⟩;obtain⟨r,hr,rfl⟩:=BM hd;have af:=(z3.mp hr).1;refine⟨_,rfl,?_⟩;rw[Ej hr];obtain⟨B,hB⟩:∃B,B=(rs.take i).foldl (λ A r=>layA A (r.a,r.b) (Cd r) none) []:=⟨_,rfl⟩;have gl:Fd m B:=by rw[hB];exact gm i hi
   rw[<-hB];have i0:AY (Bk r) (.int 0)=.ok (.int r.a):=rfl;have i1:AY (Bk r) (.int 1)=.ok (.int r.b):=rfl;have h1:=Fz r;have h2:=dC B (r.a,r.b) (Cd r) none (gl.len hm);have t1:∀a b:Int,D.tup [.int a,.int b]=pD (a,b):=λ a b=>rfl;have t2:GL none=.AK:=rfl;rw[t2] at h2;have h5:=KS (ρ:=[some (.val (Ar m rs)),some (.val (.lst (L.map D.int))),some (.ow (.tree none (IZ B))),some (.val (Bk r)),s4,s5]) (i:=2) rfl rfl h2;refine AV (ρ':=_) (by simp_arith[i0,i1,h1,t1,h5];rfl) ⟨af,_,_,_,rfl⟩
  ·rintro ρ ⟨_,s3,s4,s5,rfl⟩;rw[zc,zU];exact⟨s3,s4,s5,rfl⟩
 ·rintro ρ ⟨s3,s4,s5,rfl⟩;have ge:=QE Au;refine Bm (I:=λ ρ=>∃s3 s4 s5:Option Cl,ρ=[some (.val (Ar m rs)),some (.val (.lst (L.map D.int))),some (.ow (.tree none (IZ (BY rs L)))),s3,s4,s5]) ?_ ?_
  ·simp_arith[];refine B6 (λ i ρ=>i<=L.length/\∃(G:LA) (s3 s4 s5:Option Cl),ρ=[some (.val (Ar m rs)),some (.val (.lst (L.map D.int))),some (.ow (.tree none (IZ G))),s3,s4,s5]/\Fd m G/\Us G (L.drop i)=Us (lay0 rs) L) ⟨zR _,lay0 rs,s3,s4,s5,rfl,ge.1,rfl⟩ ?_ ?_
   ·rintro i d ρ hd ⟨hi,G,s3,s4,s5,rfl,hG,jr⟩;obtain⟨d',az,rfl⟩:=KC hd;obtain⟨p,hp,rfl⟩:=BM az;have af:=(z3.mp hp).1;rw[Nat.zero_add];refine⟨_,rfl,?_⟩;have b6:∀x∈L.drop (i+1),0<=x/\x<m:=λ x hx=>(AZ hL).mp (List.mem_of_mem_drop hx);have ed:L.drop i=p::L.drop (i+1):=by
     rw[zai af];rw[zi af] at hp;rw[zD hp]
    rw[ed,Us] at jr;have h2:=Th m G p (L.drop (i+1)) hm hG b6;have sl:gJ (some ((i:Int)+1)) none (.lst (L.map D.int))=.ok (.lst (((L.drop (i+1)).map D.int).map .sh)):=by rw[List.map_drop];exact Sd _ (i+1)
    have h5:=KS (ρ:=[some (.val (Ar m rs)),some (.val (.lst (L.map D.int))),some (.ow (.tree none (IZ G))),s3,some (.val (.int i)),some (.val (.int p))]) (i:=2) rfl rfl h2;refine AV (ρ':=_) (by simp_arith[sl,h5];rfl) ⟨af,_,_,_,_,rfl,Fd.lo b6 hG b6,jr⟩
   ·rintro ρ ⟨_,G,s3,s4,s5,rfl,hG,jr⟩;rw[Ht,zc,List.drop_length,Us] at jr;exact⟨s3,s4,s5,by rw[jr];rfl⟩
  ·rintro ρ ⟨s3,s4,s5,rfl⟩;exact⟨_,rfl,rfl⟩
abbrev NM:List D->M OT:=zh FF
def Rh:Txt K mg->BD P w K mg base "laid_arcs" 3 2 NM:=(zb FF).1
def Ri:∀(m:Nat) (rs:List Road) (L:List Int),m<=20->L.Perm (AW m)->(∀r∈rs,Gd m r/\r.a≠r.b)->NM [Ar m rs,.lst (L.map D.int)]=.ok (IZ (BY rs L)):=(zb FF).2
def Hm:∃F:List D->M OT,(∀ {P w K mg base},Txt K mg->BD P w K mg base "is_order" 2 2 F)/\(∀(m:Nat) (x:D) (L:List Int),m<=60->L.Perm (AW m)->F [.tup [.int m,x],.lst (L.map .int)]=.ok (.sh (.bl true))):=by
 refine⟨_,λ T=>Ax (k:=1) T.UJ SM _ (λ f B4 A outer s H E hr=>(A3 (B0 (DW.dt (FT (CF (Ca (c:=true) (Kz (OU _) rfl T.Cj rfl T.EO (by decide +kernel) (A1 1 (pv 1))))) (E9 (J9 (c:=true) (AO hr 16 (by decide)) (Dw rfl T.G0 (A1 1 (pv 1))) (Aa (AO hr 16 (by decide)) (A1 0 (pv 0)) A8))))) (A4 (Ak (AX Cv))) As) (A3 (B0 (CF (Ca (c:=true) (YV rfl rfl T.kW (Ai (CB (NB:=["place","net"]) [none,some 0] rfl (AN (A1 1 (pv 1))) rfl rfl (Bw 0 (by decide) rfl rfl rfl) (λ _ _ _ _=>Dk) (λ _ _ _ _=>(Ai (C9 (Ab (Bs rfl).toXCall (B1 T) (hr.mono (by decide)) rfl (A2 (A1 0 (pv 0)) (A2 (Aa (AO hr 16 (by decide)) (A1 1 (pv 1)) A8) A6)) rfl))))))))) (A4 (Ak (AX Cv))) As) (A4 (Ak (AX (jX (AO hr 16 (by decide)) (Ai (X3 rfl rfl T.cY (A1 1 (pv 1)))) (Ai (Js rfl rfl T.EO rfl T.BL (Aa (AO hr 16 (by decide)) (A1 0 (pv 0)) A8)))))))))),?_⟩;intro m x L hm hL;have e0:AE ["net","thing"] [.tup [.int m,x],.lst (L.map .int)]=[some (.val (.tup [.int m,x])),some (.val (.lst (L.map .int)))]:=rfl;rw[e0];have n0:AY (.tup [.int m,x]) (.int 0)=.ok (.int m):=rfl;refine B9 ?_;have hlen:=F6 hL;have h1:decide (((L.map D.int).length:Int)=(m:Int))=true:=decide_eq_true (by rw[zc];omega);have hl:(L.map D.int).length<=1000:=by rw[zc];omega
 have hs:=X2 (ns:=L) (by omega);have h3:=Qo (n:=m) (by omega);rw[Nc] at h3;have e:decide (GG L=AW m)=true:=decide_eq_true (Xg.mpr hL);apply wp_step
 ·simp_arith[n0,h1];rfl
 apply wp_step
 ·simp_arith[if_pos hl];rw[BG (λ _:Int=>D.bl true) (λ j hj=>⟨_,rfl,rfl,by
   have y7:=GP.mp (hL.mem_iff.mp hj);have:=B2 j m (by omega) (by omega);simp_arith[n0,this]⟩)]
  simp_arith[tM];rfl
 simp_arith[n0,hs,h3,Sw,e];rfl
abbrev PJ:List D->M OT:=zh Hm
def Ti:Txt K mg->BD P w K mg base "is_order" 2 2 PJ:=(zb Hm).1
def Tj:∀(m:Nat) (x:D) (L:List Int),m<=60->L.Perm (AW m)->PJ [.tup [.int m,x],.lst (L.map .int)]=.ok (.sh (.bl true)):=(zb Hm).2
def Dh:∃F:List D->M OT,(∀ {P w K mg base},Txt K mg->BD P w K mg base "checked_order" 3 2 F)/\(∀(m:Nat) (x:D) (L:List Int),m<=60->L.Perm (AW m)->F [.tup [.int m,x],.lst (L.map .int)]=.ok (.lst ((L.map D.int).map .sh))):=by
 refine⟨_,λ T=>Ax (k:=2) T.LS KZ _ (λ f B4 A outer s H E hr=>(A3 (B0 (CF (Ca (c:=true) (Ai (Ab A7.toXCall (Ti T) (hr.mono (by decide)) rfl (A2 (A1 0 (pv 0)) (A2 (A1 1 (pv 1)) A6)) rfl)))) (A4 Ub) As) (A4 (Ak (Hx rfl T.EO (A1 1 (pv 1))))))),?_⟩;intro m x L hm hL;have e0:AE ["net","thing"] [.tup [.int m,x],.lst (L.map .int)]=[some (.val (.tup [.int m,x])),some (.val (.lst (L.map .int)))]:=rfl;rw[e0];have h1:=Tj m x L hm hL;refine B9 ?_;apply wp_step
 ·simp_arith[h1];rfl
 simp_arith[];exact⟨_,rfl,rfl⟩
abbrev Es:List D->M OT:=zh Dh
def L5:Txt K mg->BD P w K mg base "checked_order" 3 2 Es:=(zb Dh).1
def L6:∀(m:Nat) (x:D) (L:List Int),m<=60->L.Perm (AW m)->Es [.tup [.int m,x],.lst (L.map .int)]=.ok (.lst ((L.map D.int).map .sh)):=(zb Dh).2
def EV:∃F:List D->M OT,(∀ {P w K mg base},Txt K mg->BD P w K mg base "first_bows" 2 1 F)/\(∀(m:Nat) (rs:List Road),m<=20->(∀r∈rs,Gd m r/\r.a≠r.b)->F [Ar m rs]=.ok (.Bq true ((Bn rs).map pD) ((D5 (Bn rs)).map .sh))):=by
 refine⟨_,λ T=>Ax (k:=1) T.R6 EN _ (λ f B4 A outer s H E hr=>(A3 (Bx 1 EN.nd rfl (zK rfl) (S7 true)) (A3 (B5 A7.toXCall.own rfl (AN (Aa (AO hr 16 (by decide)) (A1 0 (pv 0)) A8)) (Az 2 EN.nd rfl (zK rfl)) (A4 (B0 (Hs (c:=true) (Ai (Ab A7.toXCall (Fy T) (hr.mono (by decide)) rfl (A2 (A1 2 (pv 2)) A6) rfl))) (A4 (M4 (AO hr 16 (by decide)) (BW 1 (pv 1)) (AH (A2 (Aa (AO hr 16 (by decide)) (A1 2 (pv 2)) A8) (A2 (Aa (AO hr 16 (by decide)) (A1 2 (pv 2)) A8) A6))) Cv)) As))) (A4 (Ci 1 (pv 1)))))),?_⟩;intro m rs hm Au;have e0:AE ["net","bows","road"] [Ar m rs]=[some (.val (Ar m rs)),none,none]:=rfl;rw[e0];refine B9 ?_;apply wp_step
 ·rfl
 have n1:AY (Ar m rs) (.int 1)=.ok (.lst (rs.map Bk)):=rfl;refine Bm (I:=λ ρ=>∃s2,ρ=[some (.val (Ar m rs)),some (.ow (.tree none (.Bq true ((Bn rs).map pD) ((D5 (Bn rs)).map .sh)))),s2]) ?_ ?_
 ·simp_arith[n1];refine B6 (λ i ρ=>∃s2,ρ=[some (.val (Ar m rs)),some (.ow (.tree none (.Bq true ((Bn (rs.take i)).map pD) ((D5 (Bn (rs.take i))).map .sh)))),s2]) ⟨none,rfl⟩ ?_ ?_
  ·rintro i d ρ hd ⟨s2,rfl⟩;rw[z7] at hd;cases hq:rs[i]? with
   |none=>rw[hq] at hd;cases hd
   |some r =>
    rw[hq] at hd;cases hd;have hr:=zv hq;have et:rs.take (i+1)=rs.take i++[r]:=by rw[zV,hq];rfl
    have eb:Bn (rs.take (i+1))=(match r.l with|none=>Bn (rs.take i)|some _=>KN (Bn (rs.take i)) (r.a,r.b)):=by
     unfold Bn;rw[et,List.foldl_append];rfl
    have ww:=Su (m:=m) (rs:=rs.take i) λ r' h'=>Au r' (yK h');have hlen:=ww.len hm;have h1:=Fz r;refine⟨_,rfl,?_⟩;cases hl:r.l with
    |none =>
     have e1:Cd r=none:=by unfold Cd;rw[hl]
     rw[hl] at eb;rw[e1] at h1;simp_arith[h1,cst,BV];exact⟨_,by rw[eb]⟩
    |some l =>
     have e1:Cd r=some (l,1):=by unfold Cd;rw[hl]
     rw[hl] at eb;rw[e1] at h1;have i0:AY (Bk r) (.int 0)=.ok (.int r.a):=rfl;have i1:AY (Bk r) (.int 1)=.ok (.int r.b):=rfl;have kk:keyOk true (D.tup [.int r.a,.int r.b])=true/\((Bn (rs.take i)).map pD).length<1000:=⟨rfl,by rw[zc];exact hlen⟩;have pp:putD ((Bn (rs.take i)).map pD) (D5 (Bn (rs.take i))) (D.tup [.int r.a,.int r.b]) (.bl true)=_:=VX (Bn (rs.take i)) (r.a,r.b);simp_arith[h1,cst,BV,Bool.not_false,if_true,i0,i1,if_pos kk,pp];exact⟨_,by rw[eb]⟩
  ·rintro ρ ⟨s2,rfl⟩;rw[zc,zU];exact⟨s2,rfl⟩
 ·rintro ρ ⟨s2,rfl⟩;exact⟨_,rfl,rfl⟩
abbrev LJ:List D->M OT:=zh EV
def Oz:Txt K mg->BD P w K mg base "first_bows" 2 1 LJ:=(zb EV).1
def OA:∀(m:Nat) (rs:List Road),m<=20->(∀r∈rs,Gd m r/\r.a≠r.b)->LJ [Ar m rs]=.ok (.Bq true ((Bn rs).map pD) ((D5 (Bn rs)).map .sh)):=(zb EV).2
def Dy:∃F:List D->M OT,(∀ {P w K mg base},Txt K mg->BD P w K mg base "missing_bows" 1 3 F)/\(∀(B:List (Int×Int)) (vs:List D) (L:List Int) (v:Int),L.length<=30->F [.Bq true (B.map pD) vs,.lst (L.map .int),.int v]=.ok (.lst (((B8 B L v).map pD).map .sh))):=by
 refine⟨_,λ T=>Ax (k:=0) T.NA BZ _ (λ f B4 A outer s H E hr=>(A3 (Jg (NB:=["u","bows","place"]) 3 [none,some 0,some 2] BZ.nd rfl (zK rfl) rfl (AN (A1 1 (pv 1))) rfl rfl (Bw 0 (by decide) rfl rfl rfl) (λ _ _ _ _=>ED (IJ (c:=true) (AO hr 16 (by decide)) (AH (A2 (A1 0 (pv 0)) (A2 (A1 2 (pv 2)) A6))) (A1 1 (pv 1)))) (λ _ _ _ _=>(A1 0 (pv 0)))) (A3 (Jg (NB:=["w","bows","place"]) 4 [none,some 0,some 2] BZ.nd rfl (zK rfl) rfl (AN (A1 1 (pv 1))) rfl rfl (Bw 0 (by decide) rfl rfl rfl) (λ _ _ _ _=>ED (IJ (c:=true) (AO hr 16 (by decide)) (AH (A2 (A1 2 (pv 2)) (A2 (A1 0 (pv 0)) A6))) (A1 1 (pv 1)))) (λ _ _ _ _=>(A1 0 (pv 0)))) (A3 (Bx 5 BZ.nd rfl (zK rfl) (Fq CU)) (A3 (B5 A7.toXCall.own rfl (AN (A1 3 (pv 3))) (Az 6 BZ.nd rfl (Or.inr rfl)) (A4 (Zc (BW 5 (pv 5)) (by exact (CB (NB:=["w","u","bows"]) [none,some 6,some 0] rfl (AN (A1 4 (pv 4))) rfl rfl (Bw 0 (by decide) rfl rfl rfl) (λ _ _ _ _=>ED (DW.dt (Ky (J9 (c:=true) (AO hr 16 (by decide)) (A1 1 (pv 1)) (A1 0 (pv 0))) (Ja (M2 (c:=true) (AO hr 16 (by decide)) (AH (A2 (A1 1 (pv 1)) (A2 (A1 0 (pv 0)) A6))) (A1 2 (pv 2))))))) (λ _ _ _ _=>(AH (A2 (A1 1 (pv 1)) (A2 (A1 0 (pv 0)) A6))))))))) (A4 (Ci 5 (pv 5)))))))),?_⟩;intro B vs L v hl;have e0:AE ["bows","left","place","ahead","behind","missing","u"] [.Bq true (B.map pD) vs,.lst (L.map .int),.int v]=[some (.val (.Bq true (B.map pD) vs)),some (.val (.lst (L.map .int))),some (.val (.int v)),none,none,none,none]:=rfl;rw[e0];refine B9 ?_;have hL:(L.map D.int).length<=1000:=by rw[zc];omega
 apply wp_step
 ·simp_arith[if_pos hL];rw[Cb (λ u=>decide ((u,v)∈B)) D.int (λ u hu=>⟨_,rfl,by simp[uH,uI,Mj,zq,zk,M.A9,Hw,Hv,Jm,JE,JF,JG,M9,IK,IL,Pb,Jv,Jw,HA,Vx,M6,M7,Jx,gO,HB,HC,Fs,Qp,Dc,Qq,Jy,Jz,HD,VA,Ju,Ed,toCl_list,toCl_listP,toCl_dct,Ma,JH,JI,JJ,JK,Mb,JL,JM,JN,pS,sO,JA,VB,JB,VC,JC,JD,M8,VD,uJ,uK,gU,gW,gY,gZ,hV,hX,toCl_nil,Jf,Jq,OS,Qr,HE,Mc,Md,JO,JP,Me,Mf,Mg,Mh,Mi,JQ,JR,JS,JT,HF,HG,HH,HI,HJ,JU,HK,HL,VE,VF,VG,VH,VI,HM,ite_tt,ite_ff,Bool.not_true,Bool.not_false,yW,zL,F5,GQ,K1,gR,iR,gQ,iU,iV,iW,Mp,QH,QI,QJ,DV,HV,Mr,Qx,jF,W0,QP,Qy],λ _=>by simp_arith[]⟩)];simp_arith[];rfl
 apply wp_step
 ·simp_arith[if_pos hL];rw[Cb (λ w=>decide ((v,w)∈B)) D.int (λ u hu=>⟨_,rfl,by simp[uH,uI,Mj,zq,zk,M.A9,Hw,Hv,Jm,JE,JF,JG,M9,IK,IL,Pb,Jv,Jw,HA,Vx,M6,M7,Jx,gO,HB,HC,Fs,Qp,Dc,Qq,Jy,Jz,HD,VA,Ju,Ed,toCl_list,toCl_listP,toCl_dct,Ma,JH,JI,JJ,JK,Mb,JL,JM,JN,pS,sO,JA,VB,JB,VC,JC,JD,M8,VD,uJ,uK,gU,gW,gY,gZ,hV,hX,toCl_nil,Jf,Jq,OS,Qr,HE,Mc,Md,JO,JP,Me,Mf,Mg,Mh,Mi,JQ,JR,JS,JT,HF,HG,HH,HI,HJ,JU,HK,HL,VE,VF,VG,VH,VI,HM,ite_tt,ite_ff,Bool.not_true,Bool.not_false,yW,zL,F5,GQ,K1,gR,iR,gQ,iU,iV,iW,Mp,QH,QI,QJ,DV,HV,Mr,Qx,jF,W0,QP,Qy],λ _=>by simp_arith[]⟩)];simp_arith[];rfl
 apply wp_step
 ·rfl
 try simp only[zq,zk]
 have lq:((L.filter λ w=>decide ((v,w)∈B)).map D.int).length<=1000:=by rw[zc];exact yJ (zb1 _ _) (by omega)
 have hlen:=Xd B L v;have y8:L.length*L.length<=30*30:=Nat.mul_le_mul hl hl;generalize hA:L.filter (λ u=>decide ((u,v)∈B))=A;generalize hW:L.filter (λ w=>decide ((v,w)∈B))=W at lq ⊢;obtain⟨G,hG⟩:∃G:Int->List (Int×Int),G=λ u=>((W.filter λ w=>decide (u≠w) && !decide ((u,w)∈B)).map λ w=>(u,w)):=⟨_,rfl⟩;have dr:B8 B L v=A.flatMap G:=by unfold B8;rw[hA,hW,hG]
 refine Bm (I:=λ ρ=>∃s6,ρ=[some (.val (.Bq true (B.map pD) vs)),some (.val (.lst (L.map .int))),some (.val (.int v)),some (.val (.lst (A.map .int))),some (.val (.lst (W.map .int))),some (.own ((A.flatMap G).map pD)),s6]) ?_ ?_
 ·simp_arith[];refine B6 (λ i ρ=>∃s6,ρ=[some (.val (.Bq true (B.map pD) vs)),some (.val (.lst (L.map .int))),some (.val (.int v)),some (.val (.lst (A.map .int))),some (.val (.lst (W.map .int))),some (.own (((A.take i).flatMap G).map pD)),s6]) ⟨none,rfl⟩ ?_ ?_
  ·rintro i d ρ hd ⟨s6,rfl⟩;obtain⟨u,hu,rfl⟩:=BM hd;have et:A.take (i+1)=A.take i++[u]:=by rw[zV,hu];rfl
   refine⟨_,rfl,?_⟩;have hb:(((A.take i).flatMap G).map pD).length+((G u).map pD).length<=1000:=by
    have h1:((A.take (i+1)).flatMap G).length<=(A.flatMap G).length:=by
     conv=>rhs;rw[<-za6 (i+1) A,List.flatMap_append,zA]
     omega
    rw[et,List.flatMap_append,zA] at h1;rw[dr] at hlen;simp only[List.flatMap_cons,List.flatMap_nil,zI] at h1;rw[zc,zc];omega
   have kc:(((W.filter λ w=>decide (u≠w) && !decide ((u,w)∈B)).map λ w=>(u,w)).map pD)=(W.filter λ w=>decide (u≠w) && !decide ((u,w)∈B)).map λ w=>D.tup [.int u,.int w]:=by rw[zT];rfl
   refine AV (ρ':=[some (.val (.Bq true (B.map pD) vs)),some (.val (.lst (L.map .int))),some (.val (.int v)),some (.val (.lst (A.map .int))),some (.val (.lst (W.map .int))),some (.own (((A.take (i+1)).flatMap G).map pD)),some (.val (.int u))]) ?_ ⟨_,rfl⟩;simp_arith[if_pos lq];rw[Cb (λ w=>decide (u≠w) && !decide ((u,w)∈B)) (λ w=>D.tup [.int u,.int w]) (λ w hw=>⟨_,rfl,by
    simp[uH,uI,Mj,zq,zk,M.A9,Hw,Hv,Jm,JE,JF,JG,M9,IK,IL,Pb,Jv,Jw,HA,Vx,M6,M7,Jx,gO,HB,HC,Fs,Qp,Dc,Qq,Jy,Jz,HD,VA,Ju,Ed,toCl_list,toCl_listP,toCl_dct,Ma,JH,JI,JJ,JK,Mb,JL,JM,JN,pS,sO,JA,VB,JB,VC,JC,JD,M8,VD,uJ,uK,gU,gW,gY,gZ,hV,hX,toCl_nil,Jf,Jq,OS,Qr,HE,Mc,Md,JO,JP,Me,Mf,Mg,Mh,Mi,JQ,JR,JS,JT,HF,HG,HH,HI,HJ,JU,HK,HL,VE,VF,VG,VH,VI,HM,ite_tt,ite_ff,Bool.not_true,Bool.not_false,yW,zL,F5,GQ,K1,gR,iR,gQ,iU,iV,iW,Mp,QH,QI,QJ,DV,HV,Mr,Qx,jF,W0,QP,Qy,dG,Qe,Cu,Bl];by_cases h:u=w<;>simp[h],λ _=>by simp_arith[]⟩)]
   rw[<-kc];have wx:((W.filter λ w=>decide (u≠w) && !decide ((u,w)∈B)).map λ w=>(u,w))=G u:=by rw[hG]
   rw[wx];simp_arith[if_pos hb];rw[et,List.flatMap_append,List.flatMap_cons,List.flatMap_nil,zI,<-z4]
  ·rintro ρ ⟨s6,rfl⟩;rw[zc,zU];exact⟨s6,rfl⟩
 ·rintro ρ ⟨s6,rfl⟩;rw[dr];exact⟨_,rfl,rfl⟩
abbrev Im:List D->M OT:=zh Dy
def G4:Txt K mg->BD P w K mg base "missing_bows" 1 3 Im:=(zb Dy).1
def G5:∀(B:List (Int×Int)) (vs:List D) (L:List Int) (v:Int),L.length<=30->Im [.Bq true (B.map pD) vs,.lst (L.map .int),.int v]=.ok (.lst (((B8 B L v).map pD).map .sh)):=(zb Dy).2
def Hn:∃F:List D->M OT,(∀ {P w K mg base},Txt K mg->BD P w K mg base "lightest" 2 2 F)/\(∀(B:List (Int×Int)) (vs:List D) (L:List Int),L≠[]->L.length<=30->F [.Bq true (B.map pD) vs,.lst (L.map .int)]=.ok (.sh (.int (Br B L)))):=by
 refine⟨_,λ T=>Ax (k:=1) T.UK SN _ (λ f B4 A outer s H E hr=>(A4 (Ak (AX (Aa (AO hr 16 (by decide)) (gH rfl (AO hr 16 (by decide)) rfl T.cX (Ai (CB (NB:=["place","bows","left"]) [none,some 0,some 1] rfl (AN (A1 1 (pv 1))) rfl rfl (Bw 0 (by decide) rfl rfl rfl) (λ _ _ _ _=>Dk) (λ _ _ _ _=>(AH (A2 (Dw rfl T.G0 (Ai (C9 (Ab (Bs rfl).toXCall (G4 T) (hr.mono (by decide)) rfl (A2 (A1 1 (pv 1)) (A2 (A1 2 (pv 2)) (A2 (A1 0 (pv 0)) A6))) rfl)))) (A2 (A1 0 (pv 0)) A6))))))) A8))))),?_⟩;intro B vs L ae hl;have e0:AE ["bows","left"] [.Bq true (B.map pD) vs,.lst (L.map .int)]=[some (.val (.Bq true (B.map pD) vs)),some (.val (.lst (L.map .int)))]:=rfl;rw[e0];refine B9 ?_;have hL:(L.map D.int).length<=1000:=by rw[zc];omega
 simp_arith[if_pos hL];rw[BG (λ p=>D.tup ([((B8 B L p).length:Int),p].map D.int)) (λ p hp=>⟨_,rfl,rfl,by
  have h1:=G5 B vs L p hl;simp_arith[h1,WC,zc,zf,zaq]⟩)]
 simp_arith[Vw];rw[Pp];have hb:=Xe (λ p=>D.tup ([((B8 B L p).length:Int),p].map D.int)) (L.map λ p=>(p,[((B8 B L p).length:Int),p]));rw[zT] at hb;have e2:((λ b:Int×List Int=>(D.tup ([((B8 B L b.1).length:Int),b.1].map D.int),b.2)) ∘ λ p=>(p,[((B8 B L p).length:Int),p]))=λ p=>(D.tup ([((B8 B L p).length:Int),p].map D.int),[((B8 B L p).length:Int),p]):=rfl;rw[e2] at hb;dsimp only;rw[hb];unfold Br;cases q:Ba (L.map λ p=>(p,[((B8 B L p).length:Int),p])) with
 |none=>exact (MJ (λ z=>ae (List.map_eq_nil_iff.mp z)) q).elim
 |some k =>
  simp only[zae,M.A9];rfl
abbrev PL:List D->M OT:=zh Hn
def Tn:Txt K mg->BD P w K mg base "lightest" 2 2 PL:=(zb Hn).1
def To:∀(B:List (Int×Int)) (vs:List D) (L:List Int),L≠[]->L.length<=30->PL [.Bq true (B.map pD) vs,.lst (L.map .int)]=.ok (.sh (.int (Br B L))):=(zb Hn).2
def L7:∃F:List D->M OT,(∀ {P w K mg base},Txt K mg->BD P w K mg base "ranked" 3 1 F)/\(∀(m:Nat) (rs:List Road),m<=20->(∀r∈rs,Gd m r/\r.a≠r.b)->F [Ar m rs]=.ok (.lst (((Qz m (Bn rs) (AW m)).map D.int).map .sh))):=by
 refine⟨_,λ T=>Ax (k:=2) T.cV E5 _ (λ f B4 A outer s H E hr=>(A3 (Bx 1 E5.nd rfl (zK rfl) (Ab A7.toXCall (Oz T) (hr.mono (by decide)) rfl (A2 (A1 0 (pv 0)) A6) rfl)) (A3 (Bx 2 E5.nd rfl (zK rfl) (Js rfl rfl T.EO rfl T.BL (Aa (AO hr 16 (by decide)) (A1 0 (pv 0)) A8))) (A3 (Bx 3 E5.nd rfl (zK rfl) (Fq CU)) (A3 (RY A7.toXCall.own (KJ (Ca (c:=true) (A1 2 (pv 2)))) (A3 (AM 4 E5.nd rfl (zK rfl) (Ai (Ee (Ab A7.toXCall (Tn T) (hr.mono (by decide)) rfl (A2 (A1 1 (pv 1)) (A2 (A1 2 (pv 2)) A6)) rfl)))) (A3 (B5 A7.toXCall.own rfl (AN (Ai (Ee (Ab A7.toXCall (G4 T) (hr.mono (by decide)) rfl (A2 (A1 1 (pv 1)) (A2 (A1 2 (pv 2)) (A2 (A1 4 (pv 4)) A6))) rfl)))) (Az 5 E5.nd rfl (zK rfl)) (A4 (M4 (AO hr 16 (by decide)) (BW 1 (pv 1)) (A1 5 (pv 5)) Cv))) (A3 (WZ (BW 2 (pv 2)) (A1 4 (pv 4))) (A4 (DQ 3 (pv 3) (A1 4 (pv 4)))))))) (A4 (Ci 3 (pv 3)))))))),?_⟩;intro m rs hm Au;have e0:AE ["net","bows","left","order","place","bow"] [Ar m rs]=[some (.val (Ar m rs)),none,none,none,none,none]:=rfl;rw[e0];refine B9 ?_;have h1:=OA m rs hm Au;have n0:AY (Ar m rs) (.int 0)=.ok (.int m):=rfl;have h2:=Qo (n:=m) (by omega);rw[Nc] at h2;apply wp_step
 ·simp_arith[h1];rfl
 apply wp_step
 ·simp_arith[n0,h2];rfl
 apply wp_step
 ·rfl
 try simp only[zq,zk]
 refine Bm (I:=λ ρ=>∃s1 s2 s4 s5,ρ=[some (.val (Ar m rs)),s1,s2,some (.own ((Qz m (Bn rs) (AW m)).map D.int)),s4,s5]) ?_ ?_
 ·refine S8 (lt:=λ a b:Nat=>a<b) (λ n ρ=>∃(B:List (Int×Int)) (L O:List Int) (s4 s5:Option Cl),ρ=[some (.val (Ar m rs)),some (.ow (.tree none (.Bq true (B.map pD) ((D5 B).map .sh)))),some (.own (L.map D.int)),some (.own (O.map D.int)),s4,s5]/\L.length=n/\n+O.length=m/\Ct m B/\(∀p∈L,0<=p/\p<(m:Int))/\O++Qz n B L=Qz m (Bn rs) (AW m)) (Nat.lt_wfRel.wf.apply m) ⟨Bn rs,AW m,[],none,none,rfl,F4 m,by simp,Su Au,λ p hp=>GP.mp hp,rfl⟩ ?_;rintro n ρ ⟨B,L,O,s4,s5,rfl,hn,hO,hB,hL,c7⟩;by_cases js:L=[]
  ·subst js;left;have:n=0:=by simpa using hn.symm
   subst this;rw[Qz,zI] at c7;exact⟨rfl,⟨_,_,_,_,by rw[c7]⟩⟩
  ·right;have jt:L.length<=30:=by omega
   have q1:=To B (D5 B) L js jt;have q2:=G5 B (D5 B) L (Br B L) jt;obtain⟨aM,_⟩:=Pr (B:=B) js;have wy:0<L.length:=List.length_pos_of_mem aM;obtain⟨n',rfl⟩:∃n',n=n'+1:=⟨n-1,by omega⟩;rw[Qz,if_neg js] at c7;constructor
   ·simp_arith[Zj];cases L with
    |nil=>exact (js rfl).elim
    |cons x r=>rfl
   apply wp_step
   ·simp_arith[q1,nX iA];rfl
   try simp only[zq,zk]
   have dm:Ji ((B8 B L (Br B L)).map pD)=true:=Sa ZK _;refine Bm (I:=λ ρ=>∃s5,ρ=[some (.val (Ar m rs)),some (.ow (.tree none (.Bq true ((Cs B (B8 B L (Br B L))).map pD) ((D5 (Cs B (B8 B L (Br B L)))).map .sh)))),some (.own (L.map D.int)),some (.own (O.map D.int)),some (.val (.int (Br B L))),s5]) ?_ ?_
   ·simp_arith[q2,hZ dm];refine B6 (λ i ρ=>∃s5,ρ=[some (.val (Ar m rs)),some (.ow (.tree none (.Bq true ((Cs B ((B8 B L (Br B L)).take i)).map pD) ((D5 (Cs B ((B8 B L (Br B L)).take i))).map .sh)))),some (.own (L.map D.int)),some (.own (O.map D.int)),some (.val (.int (Br B L))),s5]) ⟨s5,rfl⟩ ?_ ?_
    ·rintro i d ρ hd ⟨s5,rfl⟩;obtain⟨p,hp,rfl⟩:=BM hd;refine⟨_,rfl,?_⟩;have wz:Ct m (Cs B ((B8 B L (Br B L)).take i)):=hB.Cs λ q hq=>by
      have:=Pq (yK hq);exact⟨this.2.2,hL _ this.1,hL _ this.2.1⟩
     have kk:keyOk true (pD p)=true/\((Cs B ((B8 B L (Br B L)).take i)).map pD).length<1000:=⟨rfl,by rw[zc];exact wz.len hm⟩;have et:(B8 B L (Br B L)).take (i+1)=(B8 B L (Br B L)).take i++[p]:=by rw[zV,hp];rfl
     have ea:Cs B ((B8 B L (Br B L)).take (i+1))=KN (Cs B ((B8 B L (Br B L)).take i)) p:=by
      unfold Cs;rw[et,List.foldl_append];rfl
     simp_arith[if_pos kk,VX];exact⟨_,by rw[ea]⟩
    ·rintro ρ ⟨s5,rfl⟩;rw[zc,zU];exact⟨s5,rfl⟩
   ·rintro ρ ⟨s5,rfl⟩;have w4:(O.map D.int).length<1000:=by rw[zc];omega
    apply wp_step
    ·simp_arith[EZ,if_pos aM];rfl
    refine AV (ρ':=[some (.val (Ar m rs)),some (.ow (.tree none (.Bq true ((Cs B (B8 B L (Br B L))).map pD) ((D5 (Cs B (B8 B L (Br B L)))).map .sh)))),some (.own ((L.erase (Br B L)).map D.int)),some (.own ((O++[Br B L]).map D.int)),some (.val (.int (Br B L))),s5]) ?_ ?_
    ·simp_arith[if_pos w4,z4,zf,zaq]
    ·have hlen:=List.length_erase_of_mem aM;refine⟨n',by omega,_,_,_,_,_,rfl,by omega,by rw[zA];simp;omega,hB.Cs λ q hq=>?_,λ p hp=>hL p (List.mem_of_mem_erase hp),?_⟩
     ·have:=Pq hq;exact⟨this.2.2,hL _ this.1,hL _ this.2.1⟩
     ·rw[zO];exact c7
 ·rintro ρ ⟨s1,s2,s4,s5,rfl⟩;exact⟨_,rfl,rfl⟩
abbrev Wd:List D->M OT:=zh L7
def XE:Txt K mg->BD P w K mg base "ranked" 3 1 Wd:=(zb L7).1
def XF:∀(m:Nat) (rs:List Road),m<=20->(∀r∈rs,Gd m r/\r.a≠r.b)->Wd [Ar m rs]=.ok (.lst (((Qz m (Bn rs) (AW m)).map D.int).map .sh)):=(zb L7).2
def CI:∃F:List D->M OT,(∀ {P w K mg base},Txt K mg->BD P w K mg base "order_or_ranked" 4 2 F)/\(∀(m:Nat) (rs:List Road),m<=20->(∀r∈rs,Gd m r/\r.a≠r.b)->(∀L:List Int,L.Perm (AW m)->F [Ar m rs,.lst (L.map .int)]=.ok (.lst ((L.map D.int).map .sh)))/\F [Ar m rs,.AK]=.ok (.lst (((Qz m (Bn rs) (AW m)).map D.int).map .sh))):=by
 refine⟨_,λ T=>Ax (k:=3) T.Kd IR _ (λ f B4 A outer s H E hr=>(A3 (B0 (Fn (c:=true) (A1 1 (pv 1))) (A4 (Ak (Ab A7.toXCall (XE T) (hr.mono (by decide)) rfl (A2 (A1 0 (pv 0)) A6) rfl))) As) (A4 (Ak (Ab A7.toXCall (L5 T) (hr.mono (by decide)) rfl (A2 (A1 0 (pv 0)) (A2 (A1 1 (pv 1)) A6)) rfl))))),?_⟩;intro m rs hm Au;have h1:=XF m rs hm Au;refine⟨λ L hL=>?_,?_⟩
 ·have h2:Es [Ar m rs,.lst (L.map .int)]=.ok (.lst ((L.map D.int).map .sh)):=L6 m (.lst (rs.map Bk)) L (by omega) hL;have e0:AE ["net","order"] [Ar m rs,.lst (L.map .int)]=[some (.val (Ar m rs)),some (.val (.lst (L.map .int)))]:=rfl;rw[e0];refine B9 ?_;apply wp_step
  ·rfl
  simp_arith[h2];exact⟨_,rfl,rfl⟩
 ·have e0:AE ["net","order"] [Ar m rs,.AK]=[some (.val (Ar m rs)),some (.val .AK)]:=rfl;rw[e0];refine B9 ?_;simp_arith[BV,h1];exact⟨_,rfl,rfl⟩
abbrev Ck:List D->M OT:=zh CI
def IX:Txt K mg->BD P w K mg base "order_or_ranked" 4 2 Ck:=(zb CI).1
def Et:∀(m:Nat) (rs:List Road),m<=20->(∀r∈rs,Gd m r/\r.a≠r.b)->(∀L:List Int,L.Perm (AW m)->Ck [Ar m rs,.lst (L.map .int)]=.ok (.lst ((L.map D.int).map .sh)))/\Ck [Ar m rs,.AK]=.ok (.lst (((Qz m (Bn rs) (AW m)).map D.int).map .sh)):=(zb CI).2
def FG:∃F:List D->M OT,(∀ {P w K mg base},Txt K mg->BD P w K mg base "kept_arcs" 3 2 F)/\(∀(m:Nat) (rs:List Road) (A:LA),m<=20->(∀r∈rs,Gd m r)->Fd m A->∃K:List (Int×Int),F [Ar m rs,Lj A]=.ok (.lst ((K.map pD).map .sh))/\K.Nodup/\∀p,p∈K↔KP rs A p):=by
 refine⟨_,λ T=>Ax (k:=2) T.SY DM _ (λ f B4 A outer s H E hr=>(A3 (Bx 2 DM.nd rfl (zK rfl) (Fq CU)) (A3 (B5 A7.toXCall.own rfl (Bb (c:=true) rfl T.BL (Aa (AO hr 16 (by decide)) (A1 0 (pv 0)) A8)) (Az 3 DM.nd rfl (Or.inr rfl)) (A3 (AM 4 DM.nd rfl (Or.inr rfl) (Ai (Ab A7.toXCall (Ov T) (hr.mono (by decide)) rfl (A2 (A1 0 (pv 0)) (A2 (A1 3 (pv 3)) A6)) rfl))) (A4 (Zc (BW 2 (pv 2)) (by exact (CB (NB:=["w","u","laid","costs"]) [none,some 3,some 1,some 4] rfl (Bb (c:=true) rfl T.BL (Aa (AO hr 16 (by decide)) (A1 0 (pv 0)) A8)) rfl rfl (Bw 0 (by decide) rfl rfl rfl) (λ _ _ _ _=>ED (DW.dt (Ky (IJ (c:=true) (AO hr 16 (by decide)) (AH (A2 (A1 1 (pv 1)) (A2 (A1 0 (pv 0)) A6))) (A1 2 (pv 2))) (Ja (Lc (c:=true) (AO hr 16 (by decide)) (Aa (AO hr 16 (by decide)) (Aa (AO hr 16 (by decide)) (A1 2 (pv 2)) (AH (A2 (A1 1 (pv 1)) (A2 (A1 0 (pv 0)) A6)))) A8) (Aa (AO hr 16 (by decide)) (A1 3 (pv 3)) (A1 0 (pv 0)))))))) (λ _ _ _ _=>(AH (A2 (A1 1 (pv 1)) (A2 (A1 0 (pv 0)) A6)))))))))) (A4 (Ci 2 (pv 2)))))),?_⟩;intro m rs A hm Au hA;have e0:AE ["net","laid","kept","u","costs"] [Ar m rs,Lj A]=[some (.val (Ar m rs)),some (.val (Lj A)),none,none,none]:=rfl;rw[e0];refine (λ h:∃t,_/\∃K:List (Int×Int),t=.lst ((K.map pD).map .sh)/\K.Nodup/\∀p,p∈K↔KP rs A p=>by
  obtain⟨t,h1,K,rfl,h2⟩:=h;exact⟨K,h1,h2⟩) (Lg ?_)
 have n0:AY (Ar m rs) (.int 0)=.ok (.int m):=rfl;have hr:Qi (.int (m:Int))=.ok ((AW m).map D.int):=by rw[Ea (by omega),Uw]
 have hl:((AW m).map D.int).length<=1000:=by rw[zc,F4];omega
 apply wp_step
 ·rfl
 try simp only[zq,zk]
 refine Bm (I:=λ ρ=>∃(K:List (Int×Int)) (s3 s4:Option Cl),ρ=[some (.val (Ar m rs)),some (.val (Lj A)),some (.own (K.map pD)),s3,s4]/\K.Nodup/\∀p,p∈K↔KP rs A p) ?_ ?_
 ·simp_arith[n0,hr];refine B6 (λ i ρ=>i<=m/\∃(K:List (Int×Int)) (s3 s4:Option Cl),ρ=[some (.val (Ar m rs)),some (.val (Lj A)),some (.own (K.map pD)),s3,s4]/\K.Nodup/\∀p,p∈K↔(p.1<i/\KP rs A p)) ⟨zR _,[],none,none,rfl,yY,λ p=>⟨(λ h=>by cases h),λ h=>by
   obtain⟨c,hc,_⟩:=h.2;have:=(hA.rg p (F7 hc)).2.1;omega⟩⟩ ?_ ?_
  ·rintro i d ρ hd ⟨hi,K,s3,s4,rfl,hn,hK⟩;obtain⟨u,hu,rfl⟩:=BM hd;have af:i<m:=by have:=(z3.mp hu).1;rw[F4] at this;exact this
   have eu:u=(i:Int):=by
    unfold AW at hu;rw[z7,List.getElem?_range af] at hu;exact (zD hu).symm
   subst eu;obtain⟨cs,hR,hF⟩:=ET m i rs af (by omega) Au;refine⟨_,rfl,?_⟩;apply wp_step
   ·simp_arith[hF];rfl
   try simp only[zq,zk]
   obtain⟨W,hW⟩:∃W,W=(AW m).filter λ w=>tL A cs i w:=⟨_,rfl⟩;have tf:∀w,w∈W↔KP rs A ((i:Int),w):=λ w=>by
    rw[hW,yN,GP];constructor
    ·rintro ⟨hw,h⟩;exact (cD hR Au hw.1 hw.2).mp h
    ·intro h;obtain⟨c,hc,_⟩:=id h;have:=(hA.rg _ (F7 hc)).2.2;exact⟨this,(cD hR Au this.1 this.2).mpr h⟩
   have w5:W.Nodup:=by rw[hW];exact (Nd m).filter _
   have a9:(K++W.map λ w=>((i:Int),w)).Nodup:=by
    rw[z9];refine⟨hn,List.pairwise_map.mpr (w5.imp fun {a b} h8 e=>h8 (by cases e;rfl)),λ x hx y hy e=>?_⟩;subst e;obtain⟨w,_,rfl⟩:=zC.mp hy;have:=(hK _).mp hx;simp at this
   have tj:∀p,p∈K++W.map (λ w=>((i:Int),w))↔(p.1<((i+1:Nat):Int)/\KP rs A p):=λ p=>by
    rw[zy,hK];constructor
    ·rintro (h|h)
     ·exact⟨by have:=h.1;omega,h.2⟩
     ·obtain⟨w,hw,rfl⟩:=zC.mp h;exact⟨by dsimp only;omega,(tf w).mp hw⟩
    ·rintro ⟨h1,h2⟩;by_cases e:p.1<(i:Int)
     ·exact .inl ⟨e,h2⟩
     ·have e2:p.1=(i:Int):=by omega
      obtain⟨p1,p2⟩:=p;dsimp only at e2;subst e2;exact .inr (zC.mpr ⟨p2,(tf p2).mpr h2,rfl⟩)
   have hlen:=oU hA hm a9 λ p hp=>((tj p).mp hp).2;have hb:(K.map pD).length+((W.map λ w=>((i:Int),w)).map pD).length<=1000:=by
    rw[zA] at hlen;rw[zc,zc];omega
   refine AV (ρ':=[some (.val (Ar m rs)),some (.val (Lj A)),some (.own ((K++W.map λ w=>((i:Int),w)).map pD)),some (.val (.int i)),some (.val (.lst (cs.map cst)))]) ?_ ⟨af,_,_,_,rfl,a9,tj⟩;have t1:∀a b:Int,D.tup [.int a,.int b]=pD (a,b):=λ a b=>rfl;simp_arith[n0,hr,if_pos hl];rw[Cb (λ w=>tL A cs i w) (λ w=>pD ((i:Int),w)) (λ w hw=>⟨_,rfl,by
    have tm:=GP.mp hw;have x1:AY (.lst (cs.map cst)) (.int w)=.ok (cst (atC cs w)):=BN tm.1 (by rw[hR.1];exact tm.2);have c6:=QK A ((i:Int),w) false;unfold tL Am;cases q:AF A ((i:Int),w) with
    |none =>
     rw[q] at c6;simp_arith[t1,c6];rfl
    |some v =>
     rw[q] at c6;have hit:=QL q;have h0:AY (Xi v) (.int 0)=.ok (cst (some v.1)):=rfl;have he:=Qw (some v.1) (atC cs w);simp_arith[t1,c6,hit,h0,x1,he];rfl,λ _=>by simp_arith[t1]⟩)]
   rw[<-hW];have ew:W.map (λ w=>pD ((i:Int),w))=(W.map λ w=>((i:Int),w)).map pD:=by rw[zT];rfl
   rw[ew];simp_arith[if_pos hb];rw[<-z4]
  ·rintro ρ ⟨_,K,s3,s4,rfl,hn,hK⟩;refine⟨K,s3,s4,rfl,hn,λ p=>(hK p).trans ⟨λ h=>h.2,λ h=>⟨?_,h⟩⟩⟩;obtain⟨c,hc,_⟩:=h;have:=(hA.rg p (F7 hc)).2.1;rw[zc,F4];omega
 ·rintro ρ ⟨K,s3,s4,rfl,hn,hK⟩;exact⟨_,rfl,K,rfl,hn,hK⟩
abbrev NO:List D->M OT:=zh FG
def Rj:Txt K mg->BD P w K mg base "kept_arcs" 3 2 NO:=(zb FG).1
def Rk:∀(m:Nat) (rs:List Road) (A:LA),m<=20->(∀r∈rs,Gd m r)->Fd m A->∃K:List (Int×Int),NO [Ar m rs,Lj A]=.ok (.lst ((K.map pD).map .sh))/\K.Nodup/\∀p,p∈K↔KP rs A p:=(zb FG).2
def CJ:∃F:OT->List D->M (OT×OT),(∀ {P w K mg base},Txt K mg->Pk P w K mg base "Ladder" 6 3 F)/\(∀(m:Nat) (rs:List Road) (o:D) (L:List Int),1<=m->m<=16->rs.length<=60->(∀r∈rs,GR m r)->L.Perm (AW m)->(o=.lst (L.map D.int)\/(o=.AK/\L=Qz m (Bn rs) (AW m)))->∃(A:LA) (K:List (Int×Int)),BO m rs L A K/\∃t,F (.ins "Ladder" [] []) [Ar m rs,o]=.ok (t,.sh .AK)/\er t=AJ m rs L A K):=by
 refine⟨_,λ T=>Zz (k:=5) T.Ke IS _ (λ f B4 A outer s H E hr=>(A3 (Mm ["Ladder"] (By T.BR C5) (BW 0 (pv 0)) (Ai (Ab A7.toXCall (UP T) (hr.mono (by decide)) rfl (A2 (A1 1 (pv 1)) A6) rfl))) (A3 (Mm ["Ladder"] (By T.CH C5) (BW 0 (pv 0)) (Ai (Ee (Ab A7.toXCall (IX T) (hr.mono (by decide)) rfl (A2 (EL ["Ladder"] (By T.BR C5) (A1 0 (pv 0))) (A2 (A1 2 (pv 2)) A6)) rfl)))) (A3 (Mm ["Ladder"] (By T.Dm C5) (BW 0 (pv 0)) (Ai (Ee (Ab A7.toXCall (Rh T) (hr.mono (by decide)) rfl (A2 (EL ["Ladder"] (By T.BR C5) (A1 0 (pv 0))) (A2 (EL ["Ladder"] (By T.CH C5) (A1 0 (pv 0))) A6)) rfl)))) (A4 (Mm ["Ladder"] (By T.Em C5) (BW 0 (pv 0)) (Ai (Ee (Ab A7.toXCall (Rj T) (hr.mono (by decide)) rfl (A2 (EL ["Ladder"] (By T.BR C5) (A1 0 (pv 0))) (A2 (EL ["Ladder"] (By T.Dm C5) (A1 0 (pv 0))) A6)) rfl))))))))),?_⟩;intro m rs o L bC aN bD ci hL ho;have Au:∀r∈rs,Gd m r/\r.a≠r.b:=λ r hr=>(ci r hr).wH;have h1:=UQ m rs bC aN bD ci;have h2:Ck [Ar m rs,o]=.ok (.lst ((L.map D.int).map .sh)):=by
  rcases ho with rfl|⟨rfl,rfl⟩
  ·exact (Et m rs (by omega) Au).1 L hL
  ·exact (Et m rs (by omega) Au).2
 have h3:=Ri m rs L (by omega) hL Au;have hA:=(Ng hL Au).1;obtain⟨K,h4,hn,hK⟩:=Rk m rs (BY rs L) (by omega) (λ r hr=>(Au r hr).1) hA;refine⟨BY rs L,K,⟨bC,aN,bD,Au,hL,rfl,hn,hK⟩,.ins "Ladder" ["own_map","own_order","laid","kept_ones"] [.sh (Ar m rs),.sh (.lst (L.map D.int)),.sh (Lj (BY rs L)),.sh (.lst (K.map pD))],?_,rfl⟩;have e0:D4 ["self","net","order"] (.ins "Ladder" [] []) [Ar m rs,o]=[some (.ow (.tree (some 0) (.ins "Ladder" [] []))),some (.val (Ar m rs)),some (.val o)]:=rfl;rw[e0];refine Uv ?_;have e1:er (.tup [.sh (.int m),.lst ((rs.map Bk).map .sh)])=Ar m rs:=by rw[iT,Pb,IL];rfl
 have T:∀(ns:List Str) (ds:List D),er (.ins "Ladder" ns (ds.map .sh))=.ins "Ladder" ns ds:=λ ns ds=>by rw[er,IH]
 have T1:=T ["own_map"] [Ar m rs];have T2:=T ["own_map","own_order"] [Ar m rs,.lst (L.map D.int)];have T3:=T ["own_map","own_order","laid"] [Ar m rs,.lst (L.map D.int),Lj (BY rs L)];simp only[zf,zaq] at T1 T2 T3;have d1:=cE L;have d2:=jD (BY rs L);have d3:=jC K;have f1:Ob ["Ladder"] "own_map" (.ins "Ladder" ["own_map"] [Ar m rs])=.ok (Ar m rs):=rfl;have f2:Ob ["Ladder"] "own_map" (.ins "Ladder" ["own_map","own_order"] [Ar m rs,.lst (L.map D.int)])=.ok (Ar m rs):=rfl;have f3:Ob ["Ladder"] "own_order" (.ins "Ladder" ["own_map","own_order"] [Ar m rs,.lst (L.map D.int)])=.ok (.lst (L.map D.int)):=rfl;have f4:Ob ["Ladder"] "own_map" (.ins "Ladder" ["own_map","own_order","laid"] [Ar m rs,.lst (L.map D.int),Lj (BY rs L)])=.ok (Ar m rs):=rfl;have f5:Ob ["Ladder"] "laid" (.ins "Ladder" ["own_map","own_order","laid"] [Ar m rs,.lst (L.map D.int),Lj (BY rs L)])=.ok (Lj (BY rs L)):=rfl;refine wp_step (ρ':=[some (.ow (.tree (some 0) (.ins "Ladder" ["own_map"] [.sh (Ar m rs)]))),some (.val (Ar m rs)),some (.val o)]) (by simp_arith[h1,e1];rfl) ?_;refine wp_step (ρ':=[some (.ow (.tree (some 0) (.ins "Ladder" ["own_map","own_order"] [.sh (Ar m rs),.sh (.lst (L.map D.int))]))),some (.val (Ar m rs)),some (.val o)]) (by simp_arith[T1,f1,h2,d1];rfl) ?_;refine wp_step (ρ':=[some (.ow (.tree (some 0) (.ins "Ladder" ["own_map","own_order","laid"] [.sh (Ar m rs),.sh (.lst (L.map D.int)),.sh (Lj (BY rs L))]))),some (.val (Ar m rs)),some (.val o)]) (by simp_arith[T2,f2,f3,h3,d2];rfl) ?_;refine AV (ρ':=[some (.ow (.tree (some 0) (.ins "Ladder" ["own_map","own_order","laid","kept_ones"] [.sh (Ar m rs),.sh (.lst (L.map D.int)),.sh (Lj (BY rs L)),.sh (.lst (K.map pD))]))),some (.val (Ar m rs)),some (.val o)]) (by simp_arith[T3,f4,f5,h4,d3];rfl) ⟨rfl,rfl⟩
abbrev Cm:OT->List D->M (OT×OT):=zh CJ
def Eu:Txt K mg->Pk P w K mg base "Ladder" 6 3 Cm:=(zb CJ).1
def Ew:∀(m:Nat) (rs:List Road) (o:D) (L:List Int),1<=m->m<=16->rs.length<=60->(∀r∈rs,GR m r)->L.Perm (AW m)->(o=.lst (L.map D.int)\/(o=.AK/\L=Qz m (Bn rs) (AW m)))->∃(A:LA) (K:List (Int×Int)),BO m rs L A K/\∃t,Cm (.ins "Ladder" [] []) [Ar m rs,o]=.ok (t,.sh .AK)/\er t=AJ m rs L A K:=(zb CJ).2
def Ex:∃F:List D->M OT,(∀ {P w K mg base},Txt K mg->BD P w K mg base "_law_cell_at" 1 2 F)/\(∀(ns:List Int) (k:Nat),(∀n∈ns,Sm n)->∃v:Int,Sm v/\F [.lst (ns.map D.int),.int k]=.ok (.sh (.int v))):=by
 refine⟨_,λ T=>Ax (k:=0) T.Om Nx _ (λ f B4 A outer s H E hr=>(A3 (B0 (sD (c:=true) (A1 1 (pv 1)) (Dw rfl T.G0 (A1 0 (pv 0)))) (A4 (Ak (AX (Aa (AO hr 16 (by decide)) (A1 0 (pv 0)) (A1 1 (pv 1)))))) As) (A4 (Ak (AX A8))))),?_⟩;intro ns k bp;have e0:AE ["_law_script","_law_k"] [.lst (ns.map D.int),.int k]=[some (.val (.lst (ns.map D.int))),some (.val (.int k))]:=rfl;rw[e0];by_cases hk:(k:Int)<((ns.map D.int).length:Int)
 ·have lm:=hk;rw[zc] at lm;have i1:AY (.lst (ns.map D.int)) (.int k)=.ok (.int (ns[k]'(by omega))):=DJ (by omega) (by rw[yO];exact zi _);refine⟨ns[k]'(by omega),bp _ (zba _),B9 ?_⟩;simp_arith[decide_eq_true hk,i1];rfl
 ·refine⟨0,by unfold Sm;decide,B9 ?_⟩;simp_arith[decide_eq_false hk];rfl
abbrev CZ:List D->M OT:=zh Ex
def D1:Txt K mg->BD P w K mg base "_law_cell_at" 1 2 CZ:=(zb Ex).1
def Ey:∀(ns:List Int) (k:Nat),(∀n∈ns,Sm n)->∃v:Int,Sm v/\CZ [.lst (ns.map D.int),.int k]=.ok (.sh (.int v)):=(zb Ex).2
def IY:∃F:List D->M OT,(∀ {P w K mg base},Txt K mg->BD P w K mg base "_law_mix" 1 2 F)/\(∀c k:Int,0<=k->k<=1000->∃v:Int,0<=v/\F [.int c,.int k]=.ok (.sh (.int v))):=by
 refine⟨_,λ T=>Ax (k:=0) T.XB Ny _ (λ f B4 A outer s H E hr=>(A3 (AM 2 Ny.nd rfl (zK rfl) (Cr (Cq (Cq (Cq (Fp (A1 0 (pv 0)) A8) (Fp (Fp (A1 1 (pv 1)) (A1 1 (pv 1))) A8)) (Fp A8 (A1 1 (pv 1)))) A8) A8)) (A4 (Ak (AX (Cr (Fp (A1 2 (pv 2)) (A1 2 (pv 2))) A8)))))),?_⟩;intro c k h0 h1;have e0:AE ["_law_cell","_law_k","_law_number"] [.int c,.int k]=[some (.val (.int c)),some (.val (.int k)),none]:=rfl;rw[e0];have m1:I9 (.int c) (.int 48271)=.ok (.int (c*48271)):=Eb (.inr (.inr (.inr (by decide))));have m2:I9 (.int k) (.int k)=.ok (.int (k*k)):=Eb (.inr (.inr (.inr ⟨by omega,by omega⟩)));have m3:I9 (.int (k*k)) (.int 69621)=.ok (.int (k*k*69621)):=Eb (.inr (.inr (.inr (by decide))));have m4:I9 (.int 11) (.int k)=.ok (.int (11*k)):=Eb (.inr (.inr (.inr ⟨by omega,by omega⟩)));have q1:Fj (.int (c*48271+k*k*69621+11*k+1)) (.int 2147483647)=.ok (.int ((c*48271+k*k*69621+11*k+1)%2147483647)):=Bf (by decide);obtain⟨x,hx⟩:∃x,x=(c*48271+k*k*69621+11*k+1)%2147483647:=⟨_,rfl⟩;have x0:0<=x:=by omega
 have x1:x<2147483647:=by omega
 have m5:I9 (.int x) (.int x)=.ok (.int (x*x)):=Eb (.inr (.inr (.inr ⟨by omega,by omega⟩)));have q2:Fj (.int (x*x)) (.int 2147483629)=.ok (.int (x*x%2147483629)):=Bf (by decide);refine⟨x*x%2147483629,zb3 _ (by decide),B9 ?_⟩;rw[<-hx] at q1;apply wp_step
 ·simp_arith[m1,m2,m3,m4,q1];rfl
 simp_arith[m5,q2];rfl
abbrev Tp:List D->M OT:=zh IY
def FH:Txt K mg->BD P w K mg base "_law_mix" 1 2 Tp:=(zb IY).1
def FI:∀c k:Int,0<=k->k<=1000->∃v:Int,0<=v/\Tp [.int c,.int k]=.ok (.sh (.int v)):=(zb IY).2
def FJ:∃F:List D->M OT,(∀ {P w K mg base},Txt K mg->BD P w K mg base "_law_great" 1 2 F)/\(∀c k:Int,Sm c->0<=k->k<=100->∃v:Int,(0<=v/\v<O1)/\F [.int c,.int k]=.ok (.sh (.int v))):=by
 refine⟨_,λ T=>Ax (k:=0) T.T4 QX _ (λ f B4 A outer s H E hr=>(A4 (Ak (AX (Cr (Fp (Cq (Cq (A1 0 (pv 0)) (Fp (A1 1 (pv 1)) (A1 1 (pv 1)))) A8) A8) (YD A8 A8)))))),?_⟩;intro c k hs h0 h1;have ht:=QA;have e0:AE ["_law_cell","_law_k"] [.int c,.int k]=[some (.val (.int c)),some (.val (.int k))]:=rfl;rw[e0];have m2:I9 (.int k) (.int k)=.ok (.int (k*k)):=Eb (.inr (.inr (.inr ⟨by omega,by omega⟩)));have hk:0<=k*k:=Int.mul_nonneg h0 h0;have lm:k*k<=100*100:=Int.mul_le_mul h1 h1 h0 (by decide);have hb:PySem.Builtin.Int.intBits (c+(k*k+1))<=2^20+1:=WM hs (by omega);have m3:I9 (.int (c+(k*k+1))) (.int 5172390846617502938471650293846571029384756102938477)=.ok (.int ((c+(k*k+1))*5172390846617502938471650293846571029384756102938477)):=Eb (.inl ⟨hb,bits_le (by decide)⟩);rw[<-zb6] at m3;refine⟨(c+k*k+1)*5172390846617502938471650293846571029384756102938477%O1,⟨zb3 _ (by omega),zaz _ (by omega)⟩,B9 ?_⟩;simp_arith[m2,m3,kK,iS];rfl
abbrev NP:List D->M OT:=zh FJ
def Rl:Txt K mg->BD P w K mg base "_law_great" 1 2 NP:=(zb FJ).1
def Rm:∀c k:Int,Sm c->0<=k->k<=100->∃v:Int,(0<=v/\v<O1)/\NP [.int c,.int k]=.ok (.sh (.int v)):=(zb FJ).2
def FK:∃F:List D->M OT,(∀ {P w K mg base},Txt K mg->BD P w K mg base "_law_roads" 2 2 F)/\(∀(cells:List Int) (m:Nat),1<=m->m<=16->cells.length<=60->(∀c∈cells,Sm c)->∃rs:List Road,rs.length<=cells.length/\(∀r∈rs,GR m r)/\F [.lst (cells.map D.int),.int m]=.ok (.lst ((rs.map Bk).map .sh))):=by
 refine⟨_,λ T=>Ax (k:=1) T.T5 Bi _ (λ f B4 A outer s H E hr=>(A3 (Bx 2 Bi.nd rfl (zK rfl) (Fq CU)) (A3 (B5 A7.toXCall.own rfl (Bb (c:=true) rfl T.BL (Dw rfl T.G0 (A1 0 (pv 0)))) (Az 3 Bi.nd rfl (zK rfl)) (A3 (AM 4 Bi.nd rfl (zK rfl) (Ai (Ab A7.toXCall (FH T) (hr.mono (by decide)) rfl (A2 (Aa (AO hr 16 (by decide)) (A1 0 (pv 0)) (A1 3 (pv 3))) (A2 (A1 3 (pv 3)) A6)) rfl))) (A3 (AM 5 Bi.nd rfl (zK rfl) (Ai (Ab A7.toXCall (Rl T) (hr.mono (by decide)) rfl (A2 (Aa (AO hr 16 (by decide)) (A1 0 (pv 0)) (A1 3 (pv 3))) (A2 (A1 3 (pv 3)) A6)) rfl))) (A4 (B0 (KJ (DW.dt (Ky (Vk (c:=true) (A1 1 (pv 1)) A8) (Ky (Vk (c:=true) (Dw rfl T.G0 (A1 2 (pv 2))) A8) (Ja (Lc (c:=true) (AO hr 16 (by decide)) (Cr (A1 4 (pv 4)) A8) A8)))))) (A4 (DQ 2 (pv 2) (fO (nR (c:=true) (Aa (AO hr 16 (by decide)) (A1 2 (pv 2)) (Cr (J7 (A1 4 (pv 4)) A8) (Dw rfl T.G0 (A1 2 (pv 2))))))))) (A4 (B0 (Vk (c:=true) (A1 1 (pv 1)) A8) (A3 (AM 6 Bi.nd rfl (zK rfl) (Cr (J7 (A1 4 (pv 4)) A8) (A1 1 (pv 1)))) (A3 (AM 7 Bi.nd rfl (zK rfl) (Cr (Cq (Cq (A1 6 (pv 6)) A8) (Cr (J7 (A1 4 (pv 4)) A8) (mX (A1 1 (pv 1)) A8))) (A1 1 (pv 1)))) (A3 (AM 8 Bi.nd rfl (zK rfl) (J7 (A1 4 (pv 4)) A8)) (A3 (AM 9 Bi.nd rfl (zK rfl) (Aa (AO hr 16 (by decide)) (Fl (A2 D9 (A2 A8 (A2 A8 (A2 A8 (A2 (Cr (A1 8 (pv 8)) A8) (A2 (Cr (A1 8 (pv 8)) A8) (A2 (A1 5 (pv 5)) (A2 (A1 5 (pv 5)) A6))))))))) (Cr (J7 (A1 4 (pv 4)) A8) A8))) (A4 (DQ 2 (pv 2) (AH (A2 (A1 6 (pv 6)) (A2 (A1 7 (pv 7)) (A2 (A1 9 (pv 9)) (A2 (Aa (AO hr 16 (by decide)) (Fl (A2 (Cr (A1 8 (pv 8)) A8) (A2 (A1 5 (pv 5)) A6))) (Cr (A1 4 (pv 4)) A8)) A6))))))))))) As))))))) (A4 (Ci 2 (pv 2)))))),?_⟩;intro cells m bC aN hl bp;have ht:=QA;have e0:AE ["_law_cells","_law_many","_law_roads_here","_law_k","_law_mixed","_law_great_here","_law_one","_law_other","_law_small","_law_length"] [.lst (cells.map D.int),.int m]=[some (.val (.lst (cells.map D.int))),some (.val (.int m)),none,none,none,none,none,none,none,none]:=rfl;rw[e0];refine (λ h:∃t,_/\∃rs:List Road,t=.lst ((rs.map Bk).map .sh)/\rs.length<=cells.length/\(∀r∈rs,GR m r)=>by
  obtain⟨t,h1,rs,rfl,h2,h3⟩:=h;exact⟨rs,h2,h3,h1⟩) (Lg ?_)
 have hr:Qi (.int ((cells.map D.int).length:Int))=.ok (C2 0 cells.length):=by rw[zc];exact Ea (by omega)
 apply wp_step
 ·rfl
 try simp only[zq,zk]
 refine Bm (I:=λ ρ=>∃(rs:List Road) (s3 s4 s5 s6 s7 s8 s9:Option Cl),ρ=[some (.val (.lst (cells.map D.int))),some (.val (.int m)),some (.own (rs.map Bk)),s3,s4,s5,s6,s7,s8,s9]/\rs.length<=cells.length/\∀r∈rs,GR m r) ?_ ?_
 ·simp_arith[hr];refine B6 (λ i ρ=>i<=60/\∃(rs:List Road) (s3 s4 s5 s6 s7 s8 s9:Option Cl),ρ=[some (.val (.lst (cells.map D.int))),some (.val (.int m)),some (.own (rs.map Bk)),s3,s4,s5,s6,s7,s8,s9]/\rs.length<=i/\∀r∈rs,GR m r) ⟨by omega,[],none,none,none,none,none,none,none,rfl,by simp,λ r hr=>by cases hr⟩ ?_ ?_
  ·rintro i d ρ hd ⟨_,rs,s3,s4,s5,s6,s7,s8,s9,rfl,bD,Au⟩;obtain⟨az,hi⟩:=Be hd;rw[zah] at az;subst az;have hq:cells[i]?=some cells[i]:=zi hi;have aj:=bp _ (zba hi);have x1:AY (.lst (cells.map D.int)) (.int (i:Int))=.ok (.int cells[i]):=DJ (by omega) (by rw[yO];exact hq);obtain⟨v,v0,hv⟩:=FI cells[i] i (by omega) (by omega);obtain⟨g,g0,hg⟩:=Rm cells[i] i aj (by omega) (by omega);have aH:(rs.map Bk).length<1000:=by rw[zc];omega
   refine⟨_,rfl,?_⟩;apply wp_step
   ·simp_arith[x1,hv];rfl
   try simp only[zq,zk]
   apply wp_step
   ·simp_arith[x1,hg];rfl
   try simp only[zq,zk]
   have d7:MM (.int v) (.int 7)=.ok (.int (v / 7)):=HQ ⟨by decide,by decide⟩;have q7:Fj (.int v) (.int 7)=.ok (.int (v%7)):=Bf (by decide);by_cases hm:(1:Int)<(m:Int)
   ·have lr:(0:Int)<(m:Int):=by omega
    have ju:(0:Int)<(m:Int)-1:=by omega
    by_cases hz:(0:Int)<((rs.map Bk).length:Int)/\v%7=3
    ·have hlen:0<(rs.map Bk).length:=by omega
     obtain⟨p1,y,hy,p2⟩:=ZO hlen (show 0<=v / 7 by omega);obtain⟨r,aU,rfl⟩:=zC.mp hy;refine AV (ρ':=[some (.val (.lst (cells.map D.int))),some (.val (.int m)),some (.own ((rs++[r]).map Bk)),some (.val (.int i)),some (.val (.int v)),some (.val (.int g)),s6,s7,s8,s9]) ?_ ⟨by omega,rs++[r],_,_,_,_,_,_,_,rfl,by simp;omega,λ r2 jv=>by
      rcases zy.mp jv with h|h
      ·exact Au r2 h
      ·rw[zg.mp h];exact Au r aU⟩
     simp_arith[decide_eq_true hm,decide_eq_true hz.1,q7,decide_eq_true hz.2,d7,p1,p2,if_pos aH,if_true];rw[z4];rfl
    ·obtain⟨o,ho⟩:∃o,o=v / 7%(m:Int):=⟨_,rfl⟩;obtain⟨o',bi⟩:∃o',o'=(o+1+v / 112%((m:Int)-1))%(m:Int):=⟨_,rfl⟩;have o0:0<=o:=by rw[ho];exact zb3 _ (by omega)
     have o1:o<m:=by rw[ho];exact zaz _ lr
     have p0:0<=o':=by rw[bi];exact zb3 _ (by omega)
     have p1:o'<m:=by rw[bi];exact zaz _ lr
     have s0:0<=v / 112%((m:Int)-1):=zb3 _ (by omega);have s1:v / 112%((m:Int)-1)<(m:Int)-1:=zaz _ ju;have h8:o≠o':=by
      have:=nY (a:=o) (s:=1+v / 112%((m:Int)-1)) (m:=m) o0 o1 (by omega) (by omega);rw[bi,zb6];exact λ z=>this z.symm
     have jw:MM (.int v) (.int 112)=.ok (.int (v / 112)):=HQ ⟨by decide,by decide⟩;have du:MM (.int v) (.int 8064)=.ok (.int (v / 8064)):=HQ ⟨by decide,by decide⟩;have dw:MM (.int v) (.int 1008)=.ok (.int (v / 1008)):=HQ ⟨by decide,by decide⟩;have q1:Fj (.int (v / 7)) (.int (m:Int))=.ok (.int o):=by rw[ho];exact Bf lr
     have q2:Fj (.int (v / 112)) (.int ((m:Int)-1))=.ok (.int (v / 112%((m:Int)-1))):=Bf ju;have q3:Fj (.int (o+1+v / 112%((m:Int)-1))) (.int (m:Int))=.ok (.int o'):=by rw[bi];exact Bf lr
     have q4:Fj (.int (v / 8064)) (.int 3)=.ok (.int (v / 8064%3)):=Bf (by decide);have q5:Fj (.int (v / 8064)) (.int 100)=.ok (.int (v / 8064%100)):=Bf (by decide);have q6:Fj (.int (v / 1008)) (.int 8)=.ok (.int (v / 1008%8)):=Bf (by decide);have q8:Fj (.int (v / 8064)) (.int 5)=.ok (.int (v / 8064%5)):=Bf (by decide);have q9:Fj (.int v) (.int 2)=.ok (.int (v%2)):=Bf (by decide);obtain⟨l,ao,l0⟩:=oW (a:=v / 8064%3) (b:=v / 8064%100) (g:=g) (i:=v / 1008%8) (by omega) (by omega) g0 (by omega) (by omega);obtain⟨w,tu,w0⟩:=oX (a:=v / 8064%5) (b:=g) (i:=v%2) (by omega) g0 (by omega) (by omega);have tw:D.tup [.int o,.int o',GL l,.int w]=Bk ⟨o,o',l,w⟩:=rfl;rcases Classical.em ((0:Int)<((rs.map Bk).length:Int)) with bo|bo
     ·have ny:¬ v%7=3:=λ z=>hz ⟨bo,z⟩;simp_arith[decide_eq_true hm,decide_eq_true bo,q7,decide_eq_false ny,zG,if_false,if_true];apply wp_step
      ·simp_arith[d7,q1];rfl
      apply wp_step
      ·simp_arith[jw,q2,q3];rfl
      apply wp_step
      ·simp_arith[du];rfl
      apply wp_step
      ·simp_arith[q4,q5,dw,q6,ao];rfl
      refine AV (ρ':=[some (.val (.lst (cells.map D.int))),some (.val (.int m)),some (.own ((rs++[(⟨o,o',l,w⟩:Road)]).map Bk)),some (.val (.int i)),some (.val (.int v)),some (.val (.int g)),some (.val (.int o)),some (.val (.int o')),some (.val (.int (v / 8064))),some (.val (GL l))]) (by simp_arith[q8,q9,tu,tw,if_pos aH,z4,zf,zaq]) ⟨by omega,_,_,_,_,_,_,_,_,rfl,by simp;omega,λ r2 jv=>by
       rcases zy.mp jv with h|h
       ·exact Au r2 h
       ·rw[zg.mp h];exact⟨o0,o1,p0,p1,h8,l0,w0.1,w0.2⟩⟩
     ·simp_arith[decide_eq_true hm,decide_eq_false bo,zG,if_false,if_true];apply wp_step
      ·simp_arith[d7,q1];rfl
      apply wp_step
      ·simp_arith[jw,q2,q3];rfl
      apply wp_step
      ·simp_arith[du];rfl
      apply wp_step
      ·simp_arith[q4,q5,dw,q6,ao];rfl
      refine AV (ρ':=[some (.val (.lst (cells.map D.int))),some (.val (.int m)),some (.own ((rs++[(⟨o,o',l,w⟩:Road)]).map Bk)),some (.val (.int i)),some (.val (.int v)),some (.val (.int g)),some (.val (.int o)),some (.val (.int o')),some (.val (.int (v / 8064))),some (.val (GL l))]) (by simp_arith[q8,q9,tu,tw,if_pos aH,z4,zf,zaq]) ⟨by omega,_,_,_,_,_,_,_,_,rfl,by simp;omega,λ r2 jv=>by
       rcases zy.mp jv with h|h
       ·exact Au r2 h
       ·rw[zg.mp h];exact⟨o0,o1,p0,p1,h8,l0,w0.1,w0.2⟩⟩
   ·refine AV (ρ':=_) (by simp_arith[decide_eq_false hm];rfl) ⟨by omega,rs,_,_,_,_,_,_,_,rfl,by omega,Au⟩
  ·rintro ρ ⟨_,rs,s3,s4,s5,s6,s7,s8,s9,rfl,bD,Au⟩;rw[Bd] at bD;exact⟨rs,s3,s4,s5,s6,s7,s8,s9,rfl,bD,Au⟩
 ·rintro ρ ⟨rs,s3,s4,s5,s6,s7,s8,s9,rfl,bD,Au⟩;exact⟨_,rfl,rs,rfl,bD,Au⟩
abbrev NQ:List D->M OT:=zh FK
def Ro:Txt K mg->BD P w K mg base "_law_roads" 2 2 NQ:=(zb FK).1
def Rp:∀(cells:List Int) (m:Nat),1<=m->m<=16->cells.length<=60->(∀c∈cells,Sm c)->∃rs:List Road,rs.length<=cells.length/\(∀r∈rs,GR m r)/\NQ [.lst (cells.map D.int),.int m]=.ok (.lst ((rs.map Bk).map .sh)):=(zb FK).2
def FL:∃F:List D->M OT,(∀ {P w K mg base},Txt K mg->BD P w K mg base "_law_order" 2 2 F)/\(∀(c:Int) (m:Nat),m<=60->∃L:List Int,L.Perm (AW m)/\F [.int c,.int m]=.ok (.lst ((L.map D.int).map .sh))):=by
 refine⟨_,λ T=>Ax (k:=1) T.T6 Fw _ (λ f B4 A outer s H E hr=>(A3 (Bx 2 Fw.nd rfl (zK rfl) (Fq CU)) (A3 (B5 A7.toXCall.own rfl (Bb (c:=true) rfl T.BL (A1 1 (pv 1))) (Az 3 Fw.nd rfl (zK rfl)) (A4 (WQ 2 (pv 2) (Cr (Ai (Ab A7.toXCall (FH T) (hr.mono (by decide)) rfl (A2 (A1 0 (pv 0)) (A2 (Cq A8 (A1 3 (pv 3))) A6)) rfl)) (Cq (A1 3 (pv 3)) A8)) (A1 3 (pv 3))))) (A4 (Ci 2 (pv 2)))))),?_⟩;intro c m hm;have e0:AE ["_law_cell","_law_many","_law_order_here","_law_place"] [.int c,.int m]=[some (.val (.int c)),some (.val (.int m)),none,none]:=rfl;rw[e0];refine (λ h:∃t,_/\∃L:List Int,t=OT.lst ((L.map D.int).map .sh)/\L.Perm (AW m)=>by
  obtain⟨t,h1,L,rfl,h2⟩:=h;exact⟨L,h2,h1⟩) (Lg ?_)
 have hr:=Ea (n:=m) (by omega);apply wp_step
 ·rfl
 try simp only[zq,zk]
 refine Bm (I:=λ ρ=>∃(L:List Int) (s3:Option Cl),ρ=[some (.val (.int c)),some (.val (.int m)),some (.own (L.map D.int)),s3]/\L.Perm (AW m)) ?_ ?_
 ·simp_arith[hr];refine B6 (λ i ρ=>i<=m/\∃(L:List Int) (s3:Option Cl),ρ=[some (.val (.int c)),some (.val (.int m)),some (.own (L.map D.int)),s3]/\L.Perm (AW i)) ⟨zR _,[],none,rfl,.refl _⟩ ?_ ?_
  ·rintro i d ρ hd ⟨_,L,s3,rfl,hL⟩;obtain⟨az,hi⟩:=Be hd;rw[zah] at az;subst az;have hlen:=F6 hL;refine⟨_,rfl,?_⟩;obtain⟨v,v0,hv⟩:=FI c (40+i) (by omega) (by omega);have bC:Fj (.int v) (.int ((i:Int)+1))=.ok (.int (v%((i:Int)+1))):=Bf (by omega);have b0:0<=v%((i:Int)+1):=zb3 _ (by omega);have b1:v%((i:Int)+1)<(i:Int)+1:=zaz _ (by omega);refine AV (ρ':=[some (.val (.int c)),some (.val (.int m)),some (.own ((L.take (v%((i:Int)+1)).toNat++(i:Int)::L.drop (v%((i:Int)+1)).toNat).map D.int)),some (.val (.int i))]) ?_ ⟨by omega,_,_,rfl,Xh hL _⟩;simp_arith[hv,bC];rw[if_pos ⟨b0,by rw[zc];omega,by rw[zc];omega⟩];simp only[z4,zf,List.map_take,List.map_drop];rfl
  ·rintro ρ ⟨_,L,s3,rfl,hL⟩;exact⟨L,s3,rfl,by rw[Bd] at hL;exact hL⟩
 ·rintro ρ ⟨L,s3,rfl,hL⟩;exact⟨_,rfl,L,rfl,hL⟩
abbrev NR:List D->M OT:=zh FL
def Kh:Txt K mg->BD P w K mg base "_law_order" 2 2 NR:=(zb FL).1
def Ki:∀(c:Int) (m:Nat),m<=60->∃L:List Int,L.Perm (AW m)/\NR [.int c,.int m]=.ok (.lst ((L.map D.int).map .sh)):=(zb FL).2
def FN:∃F:List D->M OT,(∀ {P w K mg base},Txt K mg->BD P w K mg base "_law_added" 1 2 F)/\(∀a b:Co,F [cst a,cst b]=.ok (.sh (cst (Ah a b)))):=by
 refine⟨_,λ T=>Ax (k:=0) T.T7 QY _ (λ f B4 A outer s H E hr=>(A3 (B0 (DW.dt (FT (Fn (c:=true) (A1 0 (pv 0))) (E9 (Fn (c:=true) (A1 1 (pv 1)))))) (A4 (Ak (AX D9))) As) (A4 (Ak (AX (AH (A2 (Cq (Aa (AO hr 16 (by decide)) (A1 0 (pv 0)) A8) (Aa (AO hr 16 (by decide)) (A1 1 (pv 1)) A8)) (A2 (Cq (Aa (AO hr 16 (by decide)) (A1 0 (pv 0)) A8) (Aa (AO hr 16 (by decide)) (A1 1 (pv 1)) A8)) A6)))))))),?_⟩;intro a b;rcases a with _|⟨a1,a2⟩<;>rcases b with _|⟨b1,b2⟩<;>rfl
abbrev NS:List D->M OT:=zh FN
def Kj:Txt K mg->BD P w K mg base "_law_added" 1 2 NS:=(zb FN).1
def Kk:∀a b:Co,NS [cst a,cst b]=.ok (.sh (cst (Ah a b))):=(zb FN).2
def FO:∃F:List D->M OT,(∀ {P w K mg base},Txt K mg->BD P w K mg base "_law_least" 1 1 F)/\(∀cs:List Co,cs.length<=1000->F [.lst (cs.map cst)]=.ok (.sh (cst (Fu cs)))):=by
 refine⟨_,λ T=>Ax (k:=0) T.T8 QZ _ (λ f B4 A outer s H E hr=>(A4 (Ak (AX (Vo rfl (AO hr 1 (by decide)) rfl T.cX (Ai (CB (NB:=["_law_cost"]) [none] rfl (AN (A1 0 (pv 0))) rfl rfl (Bw 0 (by decide) rfl rfl rfl) (λ _ _ _ _=>ED (Hs (c:=true) (A1 0 (pv 0)))) (λ _ _ _ _=>(A1 0 (pv 0))))) D9))))),?_⟩;intro cs hc;have e0:∀x:D,AE ["_law_some"] [x]=[some (.val x)]:=λ x=>rfl;rw[e0];refine B9 ?_;have hl:(cs.map cst).length<=1000:=by rw[zc];exact hc
 have wn:=Sk cs;have qe:=VR cs;simp_arith[if_pos hl];rw[GJ];simp_arith[qe];rfl
abbrev FQ:List D->M OT:=zh FO
def Kl:Txt K mg->BD P w K mg base "_law_least" 1 1 FQ:=(zb FO).1
def Km:∀cs:List Co,cs.length<=1000->FQ [.lst (cs.map cst)]=.ok (.sh (cst (Fu cs))):=(zb FO).2
def Ho:∃F:List D->M OT,(∀ {P w K mg base},Txt K mg->BD P w K mg base "_law_open" 1 1 F)/\(∀r:Road,F [Bk r]=.ok (.sh (cst (Cd r)))):=by
 refine⟨_,λ T=>Ax (k:=0) T.UL SQ _ (λ f B4 A outer s H E hr=>(A3 (B0 (Fn (c:=true) (Aa (AO hr 16 (by decide)) (A1 0 (pv 0)) A8)) (A4 (Ak (AX D9))) As) (A4 (Ak (AX (AH (A2 (Aa (AO hr 16 (by decide)) (A1 0 (pv 0)) A8) (A2 A8 A6)))))))),?_⟩;intro r;obtain⟨a,b,l,w⟩:=r;cases l<;>rfl
abbrev PM:List D->M OT:=zh Ho
def Tq:Txt K mg->BD P w K mg base "_law_open" 1 1 PM:=(zb Ho).1
def Ts:∀r:Road,PM [Bk r]=.ok (.sh (cst (Cd r))):=(zb Ho).2
def FR:∃F:List D->M OT,(∀ {P w K mg base},Txt K mg->BD P w K mg base "_law_costs" 2 2 F)/\(∀(m:Nat) (rs:List Road),m<=900->rs.length<=900->(∀r∈rs,Gd m r)->∃aa:List (List Co),LQ m aa/\(∀x y:Int,0<=x->x<m->0<=y->y<m->Bz rs x y (at2 aa x y))/\∃t,F [.lst (rs.map Bk),.int m]=.ok t/\er t=.lst ((Al aa).map D.lst)):=by
 refine⟨_,λ T=>Ax (k:=1) T.T9 BA _ (λ f B4 A outer s H E hr=>(A3 (fP 2 BA.nd rfl (zK rfl)) (A3 (B5 A7.toXCall.own rfl (Bb (c:=true) rfl T.BL (A1 1 (pv 1))) (Az 3 BA.nd rfl (zK rfl)) (A3 (Bx 5 BA.nd rfl (zK rfl) (Ul D9 (A1 1 (pv 1)))) (A3 (MS 5 (pv 5) (AH (A2 A8 (A2 A8 A6))) (A1 3 (pv 3))) (A3 (B5 A7.toXCall.own rfl (AN (A1 0 (pv 0))) (Az 6 BA.nd rfl (zK rfl)) (A4 (B0 (Lc (c:=true) (AO hr 16 (by decide)) (Aa (AO hr 16 (by decide)) (A1 6 (pv 6)) A8) (A1 3 (pv 3))) (A4 (MS 5 (pv 5) (Ai (Ee (Ab A7.toXCall (Kl T) (hr.mono (by decide)) rfl (A2 (Fl (A2 (Aa (AO hr 16 (by decide)) (A1 5 (pv 5)) (Aa (AO hr 16 (by decide)) (A1 6 (pv 6)) A8)) (A2 (Ai (Ab A7.toXCall (Tq T) (hr.mono (by decide)) rfl (A2 (A1 6 (pv 6)) A6) rfl)) A6))) A6) rfl))) (Aa (AO hr 16 (by decide)) (A1 6 (pv 6)) A8))) As))) (A4 (fQ 2 5 (pv 2) (pv 5))))))) (A3 (B5 A7.toXCall.own rfl (Bb (c:=true) rfl T.BL (A1 1 (pv 1))) (Az 4 BA.nd rfl (zK rfl)) (A4 (B5 A7.toXCall.own rfl (Bb (c:=true) rfl T.BL (A1 1 (pv 1))) (Az 3 BA.nd rfl (zK rfl)) (A4 (B5 A7.toXCall.own rfl (Bb (c:=true) rfl T.BL (A1 1 (pv 1))) (Az 7 BA.nd rfl (zK rfl)) (A4 (fT 2 (pv 2) (Ai (Ab A7.toXCall (Kl T) (hr.mono (by decide)) rfl (A2 (Fl (A2 (Ue 2 (pv 2) (A1 3 (pv 3)) (A1 7 (pv 7))) (A2 (Ai (Ab A7.toXCall (Kj T) (hr.mono (by decide)) rfl (A2 (Ue 2 (pv 2) (A1 3 (pv 3)) (A1 4 (pv 4))) (A2 (Ue 2 (pv 2) (A1 4 (pv 4)) (A1 7 (pv 7))) A6)) rfl)) A6))) A6) rfl)) (A1 3 (pv 3)) (A1 7 (pv 7))))))))) (A4 (Ci 2 (pv 2))))))),?_⟩;intro m rs hm bD Au;have e0:AE ["_law_roads_here","_law_many","_law_costs_here","_law_u","_law_v","_law_row","_law_road","_law_w"] [.lst (rs.map Bk),.int m]=[some (.val (.lst (rs.map Bk))),some (.val (.int m)),none,none,none,none,none,none]:=rfl;rw[e0];refine (λ h:∃t,_/\∃aa:List (List Co),LQ m aa/\(∀x y:Int,0<=x->x<m->0<=y->y<m->Bz rs x y (at2 aa x y))/\er t=.lst ((Al aa).map D.lst)=>by
  obtain⟨t,h1,aa,h2,h3,h4⟩:=h;exact⟨aa,h2,h3,t,h1,h4⟩) (Lg ?_)
 have c8:=Ea (n:=m) (by omega);refine wp_step (ρ':=[some (.val (.lst (rs.map Bk))),some (.val (.int m)),some (.ow (.rows [])),none,none,none,none,none]) rfl ?_;refine Bm (I:=λ ρ=>∃(aa:List (List Co)) (s3 s5 s6:Option Cl),ρ=[some (.val (.lst (rs.map Bk))),some (.val (.int m)),some (.ow (.rows (Al aa))),s3,none,s5,s6,none]/\aa.length=m/\∀u:Nat,u<m->Nb m rs u rs.length (aa.getD u [])) ?_ ?_
 ·simp_arith[c8];refine B6 (λ i ρ=>∃(aa:List (List Co)) (s3 s5 s6:Option Cl),ρ=[some (.val (.lst (rs.map Bk))),some (.val (.int m)),some (.ow (.rows (Al aa))),s3,none,s5,s6,none]/\aa.length=i/\∀u:Nat,u<i->Nb m rs u rs.length (aa.getD u [])) ⟨[],none,none,none,rfl,rfl,λ u h=>by omega⟩ ?_ ?_
  ·rintro i d ρ hd ⟨aa,s3,s5,s6,rfl,bP,a8⟩;obtain⟨az,hi⟩:=Be hd;rw[zah] at az;subst az;refine⟨_,rfl,?_⟩;have bh:=N3 (d:=.AK) (n:=m) (by omega);have cb:zr m D.AK=(zr m (none:Co)).map cst:=by rw[List.map_replicate];rfl
   rw[cb] at bh;apply wp_step
   ·simp_arith[bh];rfl
   try simp only[zq,zk]
   have a5:=K2 (i:=5) (ρ:=[some (.val (.lst (rs.map Bk))),some (.val (.int m)),some (.ow (.rows (Al aa))),some (.val (.int i)),none,some (.own ((zr m (none:Co)).map cst)),s6,none]) (d:=.tup [.int 0,.int 0]) (p:=(i:Int)) rfl (by omega) (by rw[zc,zb0];omega);have aW:((zr m (none:Co)).map cst).set (i:Int).toNat (.tup [.int 0,.int 0])=((zr m none).set i (some (0,0))).map cst:=by rw[yO,List.map_set];rfl
   rw[aW] at a5;apply wp_step
   ·simp_arith[a5];rfl
   try simp only[zq,zk]
   refine Bm (I:=λ ρ=>∃(R:List Co) (s6:Option Cl),ρ=[some (.val (.lst (rs.map Bk))),some (.val (.int m)),some (.ow (.rows (Al aa))),some (.val (.int i)),none,some (.own (R.map cst)),s6,none]/\Nb m rs i rs.length R) ?_ ?_
   ·simp_arith[];refine B6 (λ j ρ=>∃(R:List Co) (s6:Option Cl),ρ=[some (.val (.lst (rs.map Bk))),some (.val (.int m)),some (.ow (.rows (Al aa))),some (.val (.int i)),none,some (.own (R.map cst)),s6,none]/\Nb m rs i j R) ⟨_,s6,rfl,Xc rs hi⟩ ?_ ?_
    ·rintro j d ρ hd ⟨R,s6,rfl,g⟩;obtain⟨r,hq,rfl⟩:=BM hd;have hr:=zv hq;have ok:=Au r hr;have r0:AY (Bk r) (.int 0)=.ok (.int r.a):=rfl;have r1:AY (Bk r) (.int 1)=.ok (.int r.b):=rfl;have br:r.b<R.length:=by rw[g.len];exact ok.b1
     have x1:AY (.lst (R.map cst)) (.int r.b)=.ok (cst (atC R r.b)):=BN ok.b0 br;have w6:=Ts r;have hle:FQ [.lst [cst (atC R r.b),cst (Cd r)]]=.ok (.sh (cst (DF (atC R r.b) (Cd r)))):=Km [atC R r.b,Cd r] (by simp);refine⟨_,rfl,?_⟩;by_cases hu:r.a=(i:Int)
     ·have a5:=K2 (i:=5) (ρ:=[some (.val (.lst (rs.map Bk))),some (.val (.int m)),some (.ow (.rows (Al aa))),some (.val (.int i)),none,some (.own (R.map cst)),some (.val (Bk r)),none]) (d:=cst (DF (atC R r.b) (Cd r))) (p:=r.b) rfl ok.b0 (by rw[zc];exact br);have aW:(R.map cst).set r.b.toNat (cst (DF (atC R r.b) (Cd r)))=(R.set r.b.toNat (DF (atC R r.b) (Cd r))).map cst:=by rw[List.map_set]
      rw[aW] at a5;refine AV (ρ':=[some (.val (.lst (rs.map Bk))),some (.val (.int m)),some (.ow (.rows (Al aa))),some (.val (.int i)),none,some (.own ((R.set r.b.toNat (DF (atC R r.b) (Cd r))).map cst)),some (.val (Bk r)),none]) (by simp_arith[r0,r1,decide_eq_true hu,x1,w6,hle,a5];rfl) ⟨_,_,rfl,ZI g hq hu Au⟩
     ·refine AV (ρ':=_) (by simp_arith[r0,decide_eq_false hu];rfl) ⟨_,_,rfl,ZH g hq hu⟩
    ·rintro ρ ⟨R,s6,rfl,g⟩;rw[zc] at g;exact⟨R,s6,rfl,g⟩
   ·rintro ρ ⟨R,s6,rfl,g⟩;have hl:(Al aa).length<1000/\2≠5:=⟨by unfold Al;rw[zc];omega,by decide⟩;refine AV (ρ':=[some (.val (.lst (rs.map Bk))),some (.val (.int m)),some (.ow (.rows (Al (aa++[R])))),some (.val (.int i)),none,none,s6,none]) ?_ ⟨_,_,_,_,rfl,by simp[bP],λ u hu=>?_⟩
    ·simp only[YY,yW,zL,if_pos hl,zq,zk];unfold Al;rw[z4];rfl
    ·by_cases h:u=i
     ·subst h;have e:(aa++[R]).getD u []=R:=by rw[zx,yX (by omega)];simp[bP]
      rw[e];exact g
     ·have e:(aa++[R]).getD u []=aa.getD u []:=by rw[zx,yU (by omega),zx]
      rw[e];exact a8 u (by omega)
  ·rintro ρ ⟨aa,s3,s5,s6,rfl,bP,a8⟩;rw[Bd] at bP a8;exact⟨aa,s3,s5,s6,rfl,bP,a8⟩
 rintro ρ ⟨aa,s3,s5,s6,rfl,bP,a8⟩;have hM:LQ m aa:=⟨bP,λ R hR=>by
  obtain⟨u,hu,e⟩:=List.getElem_of_mem hR;have:=(a8 u (by omega)).len;rw[zx,zi hu] at this;rw[<-e];exact this⟩
 have hF:=ZJ hM Au a8;refine Bm (I:=λ ρ=>∃(aa:List (List Co)) (s3 s4 s5 s6 s7:Option Cl),ρ=[some (.val (.lst (rs.map Bk))),some (.val (.int m)),some (.ow (.rows (Al aa))),s3,s4,s5,s6,s7]/\LQ m aa/\FW m m rs (at2 aa)) ?_ ?_
 ·simp_arith[c8];refine B6 (λ k ρ=>∃(aa:List (List Co)) (s3 s4 s5 s6 s7:Option Cl),ρ=[some (.val (.lst (rs.map Bk))),some (.val (.int m)),some (.ow (.rows (Al aa))),s3,s4,s5,s6,s7]/\LQ m aa/\FW m k rs (at2 aa)) ⟨aa,s3,none,s5,s6,none,rfl,hM,hF⟩ ?_ ?_
  ·rintro k d ρ hd ⟨av,s3,s4,s5,s6,s7,rfl,w9,jx⟩;obtain⟨az,hk⟩:=Be hd;rw[zah] at az;subst az;refine⟨_,rfl,?_⟩;have k0:(0:Int)<=k:=by omega
   have k1:(k:Int)<m:=by omega
   have oc:=So jx hk;have orr:=Sq jx hk;simp_arith[c8];refine B6 (λ u ρ=>∃(aa:List (List Co)) (s3 s5 s6 s7:Option Cl),ρ=[some (.val (.lst (rs.map Bk))),some (.val (.int m)),some (.ow (.rows (Al aa))),s3,some (.val (.int k)),s5,s6,s7]/\LQ m aa/\∀x y:Int,0<=x->x<m->0<=y->y<m->at2 aa x y=if x<u then over k (at2 av) x y else at2 av x y) ⟨av,s3,s5,s6,s7,rfl,w9,λ x y h0 h1 h2 h3=>by rw[if_neg (by omega)]⟩ ?_ ?_
   ·rintro u d ρ hd ⟨b9,s3,s5,s6,s7,rfl,gn,ls⟩;obtain⟨az,hu⟩:=Be hd;rw[zah] at az;subst az;have u0:(0:Int)<=u:=by omega
    have u1:(u:Int)<m:=by omega
    refine⟨_,rfl,?_⟩;simp_arith[c8];refine B6 (λ w ρ=>∃(aa:List (List Co)) (s5 s6 s7:Option Cl),ρ=[some (.val (.lst (rs.map Bk))),some (.val (.int m)),some (.ow (.rows (Al aa))),some (.val (.int u)),some (.val (.int k)),s5,s6,s7]/\LQ m aa/\∀x y:Int,0<=x->x<m->0<=y->y<m->at2 aa x y=if x<u\/(x=u/\y<w) then over k (at2 av) x y else at2 av x y) ⟨b9,s5,s6,s7,rfl,gn,λ x y h0 h1 h2 h3=>by
     rw[ls x y h0 h1 h2 h3];by_cases h:x<u
     ·rw[if_pos h,if_pos (.inl h)]
     ·rw[if_neg h,if_neg (by omega)]⟩ ?_ ?_
    ·rintro w d ρ hd ⟨aI,s5,s6,s7,rfl,gp,gq⟩;obtain⟨az,hw⟩:=Be hd;rw[zah] at az;subst az;have w0:(0:Int)<=w:=by omega
     have w1:(w:Int)<m:=by omega
     have a1:at2 aI u w=at2 av u w:=by rw[gq u w u0 u1 w0 w1,if_neg (by omega)]
     have a2:at2 aI u k=at2 av u k:=by
      rw[gq u k u0 u1 k0 k1];split
      ·exact oc u
      ·rfl
     have a3:at2 aI k w=at2 av k w:=by
      rw[gq k w k0 k1 w0 w1];split
      ·exact orr w
      ·rfl
     obtain⟨wE,hP⟩:=gp.put u0 u1 w0 w1 (over k (at2 av) u w);obtain⟨R0,y9⟩:∃R0:Ad,R0=[some (.val (.lst (rs.map Bk))),some (.val (.int m)),some (.ow (.rows (Al aI))),some (.val (.int u)),some (.val (.int k)),s5,s6,some (.val (.int w))]:=⟨_,rfl⟩;have c1:=Ux (ρ:=[some (.val (.lst (rs.map Bk))),some (.val (.int m)),some (.ow (.rows (Al aI))),some (.val (.int u)),some (.val (.int k)),s5,s6,some (.val (.int w))]) (i:=2) rfl gp u0 u1 w0 w1;have c2:=Ux (ρ:=[some (.val (.lst (rs.map Bk))),some (.val (.int m)),some (.ow (.rows (Al aI))),some (.val (.int u)),some (.val (.int k)),s5,s6,some (.val (.int w))]) (i:=2) rfl gp u0 u1 k0 k1;have c3:=Ux (ρ:=[some (.val (.lst (rs.map Bk))),some (.val (.int m)),some (.ow (.rows (Al aI))),some (.val (.int u)),some (.val (.int k)),s5,s6,some (.val (.int w))]) (i:=2) rfl gp k0 k1 w0 w1;rw[a1] at c1;rw[a2] at c2;rw[a3] at c3;have cj:=Kk (at2 av u k) (at2 av k w);have hle:FQ [.lst [cst (at2 av u w),cst (Ah (at2 av u k) (at2 av k w))]]=.ok (.sh (cst (over k (at2 av) u w))):=Km [at2 av u w,Ah (at2 av u k) (at2 av k w)] (by simp);have pj:=jG (ρ:=[some (.val (.lst (rs.map Bk))),some (.val (.int m)),some (.ow (.rows (Al aI))),some (.val (.int u)),some (.val (.int k)),s5,s6,some (.val (.int w))]) (i:=2) (v:=over k (at2 av) u w) rfl gp u0 u1 w0 w1;refine⟨_,rfl,?_⟩;refine AV (ρ':=[some (.val (.lst (rs.map Bk))),some (.val (.int m)),some (.ow (.rows (Al (put2 aI u w (over k (at2 av) u w))))),some (.val (.int u)),some (.val (.int k)),s5,s6,some (.val (.int w))]) (by simp_arith[c1,c2,c3,cj,hle,pj]) ⟨_,_,_,_,rfl,wE,λ x y h0 h1 h2 h3=>?_⟩;rw[hP x y h0 h2];by_cases h:x=u/\y=w
     ·rw[if_pos h,if_pos (by omega),h.1,h.2]
     ·rw[if_neg h,gq x y h0 h1 h2 h3];by_cases h':x<u\/(x=u/\y<w)
      ·rw[if_pos h',if_pos (by omega)]
      ·rw[if_neg h',if_neg (by omega)]
    ·rintro ρ ⟨aI,s5,s6,s7,rfl,gp,gq⟩;rw[Bd] at gq;refine⟨aI,_,_,_,_,rfl,gp,λ x y h0 h1 h2 h3=>?_⟩;rw[gq x y h0 h1 h2 h3];by_cases h:x<u\/(x=u/\y<m)
     ·rw[if_pos h,if_pos (by omega)]
     ·rw[if_neg h,if_neg (by omega)]
   ·rintro ρ ⟨b9,s3,s5,s6,s7,rfl,gn,ls⟩;rw[Bd] at ls;refine⟨b9,_,_,_,_,_,rfl,gn,(ZG jx hk).congr (by omega) Au λ x y h0 h1 h2 h3=>?_⟩;rw[ls x y h0 h1 h2 h3,if_pos h1]
  ·rintro ρ ⟨b9,s3,s4,s5,s6,s7,rfl,gn,dq⟩;rw[Bd] at dq;exact⟨b9,s3,s4,s5,s6,s7,rfl,gn,dq⟩
 ·rintro ρ ⟨b9,s3,s4,s5,s6,s7,rfl,gn,dq⟩;refine⟨_,rfl,b9,gn,λ x y h0 h1 h2 h3=>oH dq Au h0 h1 h2 h3,?_⟩;rw[er,Qg,zT];congr 1;refine zar λ R _=>?_;dsimp only [Function.comp];rw[IL]
abbrev NT:List D->M OT:=zh FR
def Rq:Txt K mg->BD P w K mg base "_law_costs" 2 2 NT:=(zb FR).1
def Rr:∀(m:Nat) (rs:List Road),m<=900->rs.length<=900->(∀r∈rs,Gd m r)->∃aa:List (List Co),LQ m aa/\(∀x y:Int,0<=x->x<m->0<=y->y<m->Bz rs x y (at2 aa x y))/\∃t,NT [.lst (rs.map Bk),.int m]=.ok t/\er t=.lst ((Al aa).map D.lst):=(zb FR).2
def Ez:∃F:List D->M OT,(∀ {P w K mg base},Txt K mg->BD P w K mg base "_law_between" 2 3 F)/\(∀(m:Nat) (aa:List (List Co)) (s g:Nat) (c:Int×Int),m<=20->LQ m aa->s<m->g<m->at2 aa s g=some c->F [.lst ((Al aa).map D.lst),.int s,.int g]=.ok (.lst (((QQ (λ w=>at2 aa s w) (λ w=>at2 aa w g) (at2 aa s g) m).map D.int).map .sh))):=by
 refine⟨_,λ T=>Ax (k:=1) T.Oo Ek _ (λ f B4 A outer s H E hr=>(A3 (Bx 3 Ek.nd rfl (zK rfl) (Fq CU)) (A3 (B5 A7.toXCall.own rfl (Bb (c:=true) rfl T.BL (Dw rfl T.G0 (A1 0 (pv 0)))) (Az 4 Ek.nd rfl (zK rfl)) (A4 (B0 (Lc (c:=true) (AO hr 16 (by decide)) (Ai (Ab A7.toXCall (Kj T) (hr.mono (by decide)) rfl (A2 (Aa (AO hr 16 (by decide)) (Aa (AO hr 16 (by decide)) (A1 0 (pv 0)) (A1 1 (pv 1))) (A1 4 (pv 4))) (A2 (Aa (AO hr 16 (by decide)) (Aa (AO hr 16 (by decide)) (A1 0 (pv 0)) (A1 4 (pv 4))) (A1 2 (pv 2))) A6)) rfl)) (Aa (AO hr 16 (by decide)) (Aa (AO hr 16 (by decide)) (A1 0 (pv 0)) (A1 1 (pv 1))) (A1 2 (pv 2)))) (A4 (DQ 3 (pv 3) (A1 4 (pv 4)))) As))) (A4 (Ci 3 (pv 3)))))),?_⟩;intro m aa s g c hm hM hs hg hc;have e0:AE ["_law_costs_here","_law_start","_law_goal","_law_found","_law_place"] [.lst ((Al aa).map D.lst),.int s,.int g]=[some (.val (.lst ((Al aa).map D.lst))),some (.val (.int s)),some (.val (.int g)),none,none]:=rfl;rw[e0];refine B9 ?_;have a8:∀x:Int,0<=x->x<m->AY (.lst ((Al aa).map D.lst)) (.int x)=.ok (.lst ((aa.getD x.toNat []).map cst)):=λ x a b=>by
  have g:=(hM.get a b).1;unfold Al;rw[zT];exact DJ a g
 have dz:∀x z:Int,0<=x->x<m->0<=z->z<m->AY (.lst ((aa.getD x.toNat []).map cst)) (.int z)=.ok (cst (at2 aa x z)):=λ x z a b c d=>BN c (by rw[(hM.get a b).2];exact d);have ge:(((Al aa).map D.lst).length:Int)=(m:Int):=by unfold Al;rw[zc,zc,hM.len]
 have bg:Qi (.int (m:Int))=.ok (C2 0 m):=Ea (by omega);apply wp_step
 ·rfl
 try simp only[zq,zk]
 refine Bm (I:=λ ρ=>∃s4:Option Cl,ρ=[some (.val (.lst ((Al aa).map D.lst))),some (.val (.int s)),some (.val (.int g)),some (.own ((QQ (λ w=>at2 aa s w) (λ w=>at2 aa w g) (at2 aa s g) m).map D.int)),s4]) ?_ ?_
 ·simp_arith[ge,bg];refine B6 (λ j ρ=>∃s4:Option Cl,ρ=[some (.val (.lst ((Al aa).map D.lst))),some (.val (.int s)),some (.val (.int g)),some (.own ((QQ (λ w=>at2 aa s w) (λ w=>at2 aa w g) (at2 aa s g) j).map D.int)),s4]) ⟨none,rfl⟩ ?_ ?_
  ·rintro j d ρ hd ⟨s4,rfl⟩;obtain⟨az,hj⟩:=Be hd;rw[zah] at az;subst az;refine⟨_,rfl,?_⟩;have r1:=a8 s (by omega) (by omega);have r2:=a8 j (by omega) (by omega);have x1:=dz s j (by omega) (by omega) (by omega) (by omega);have x2:=dz j g (by omega) (by omega) (by omega) (by omega);have x3:=dz s g (by omega) (by omega) (by omega) (by omega);have cj:=Kk (at2 aa s j) (at2 aa j g);have hl:=jH (λ w=>at2 aa s w) (λ w=>at2 aa w g) (at2 aa s g) j;have lu:=cH (λ w=>at2 aa s w) (λ w=>at2 aa w g) (at2 aa s g) j;have lp:=Qw (Ah (at2 aa s j) (at2 aa j g)) (at2 aa s g);have aH:((QQ (λ w=>at2 aa s w) (λ w=>at2 aa w g) (at2 aa s g) j).map D.int).length<1000:=by rw[zc];omega
   by_cases c2:Ah (at2 aa s j) (at2 aa j g)=at2 aa s g
   ·rw[if_pos ⟨by rw[c2,hc];exact λ z=>(by cases z),c2⟩] at lu;refine AV (ρ':=[some (.val (.lst ((Al aa).map D.lst))),some (.val (.int s)),some (.val (.int g)),some (.own ((QQ (λ w=>at2 aa s w) (λ w=>at2 aa w g) (at2 aa s g) (j+1)).map D.int)),some (.val (.int j))]) (by
     rw[lu];simp_arith[r1,r2,x1,x2,x3,cj,lp,decide_eq_true c2,if_pos aH,z4];rfl) ⟨_,rfl⟩
   ·rw[if_neg (λ h=>c2 h.2),zI] at lu;refine AV (ρ':=[some (.val (.lst ((Al aa).map D.lst))),some (.val (.int s)),some (.val (.int g)),some (.own ((QQ (λ w=>at2 aa s w) (λ w=>at2 aa w g) (at2 aa s g) (j+1)).map D.int)),some (.val (.int j))]) (by
     rw[lu];simp_arith[r1,r2,x1,x2,x3,cj,lp,decide_eq_false c2];try rfl) ⟨_,rfl⟩
  ·rintro ρ ⟨s4,rfl⟩;rw[Bd];exact⟨_,rfl⟩
 ·rintro ρ ⟨s4,rfl⟩;exact⟨_,rfl,rfl⟩
abbrev Kn:List D->M OT:=zh Ez
def NU:Txt K mg->BD P w K mg base "_law_between" 2 3 Kn:=(zb Ez).1
def NV:∀(m:Nat) (aa:List (List Co)) (s g:Nat) (c:Int×Int),m<=20->LQ m aa->s<m->g<m->at2 aa s g=some c->Kn [.lst ((Al aa).map D.lst),.int s,.int g]=.ok (.lst (((QQ (λ w=>at2 aa s w) (λ w=>at2 aa w g) (at2 aa s g) m).map D.int).map .sh)):=(zb Ez).2
def EA:∃F:List D->M OT,(∀ {P w K mg base},Txt K mg->BD P w K mg base "_law_entries" 1 3 F)/\(∀(m:Nat) (aa:List (List Co)) (O I:Nat->List Int),m<=20->LQ m aa->(∀i,i<m->∀h∈O i,0<=h/\h<(m:Int))->(∀i,i<m->∀h∈I i,0<=h/\h<(m:Int))->F [.lst ((zw m).map λ i:Nat=>D.lst ((O i).map (AU (at2 aa) i))),.lst ((zw m).map λ i:Nat=>D.lst ((I i).map (AU (λ x y=>at2 aa y x) i))),.lst ((Al aa).map D.lst)]=.ok (.sh (.bl true))):=by
 refine⟨_,λ T=>Ax (k:=0) T.Oq BP _ (λ f B4 A outer s H E hr=>(A3 (B5 A7.toXCall.own rfl (Bb (c:=true) rfl T.BL (Dw rfl T.G0 (A1 2 (pv 2)))) (Az 3 BP.nd rfl (zK rfl)) (A3 (B5 A7.toXCall.own rfl (AN (Aa (AO hr 16 (by decide)) (A1 0 (pv 0)) (A1 3 (pv 3)))) (MO (n:=2) rfl (Cw (Az 4 BP.nd rfl (zK rfl)) (Cw (Az 5 BP.nd rfl (zK rfl)) Jd))) (A4 (B0 (J9 (c:=true) (AO hr 16 (by decide)) (A1 5 (pv 5)) (Aa (AO hr 16 (by decide)) (Aa (AO hr 16 (by decide)) (A1 2 (pv 2)) (A1 3 (pv 3))) (A1 4 (pv 4)))) (A4 (Ak (AX Cv))) As))) (A4 (B5 A7.toXCall.own rfl (AN (Aa (AO hr 16 (by decide)) (A1 1 (pv 1)) (A1 3 (pv 3)))) (MO (n:=2) rfl (Cw (Az 4 BP.nd rfl (zK rfl)) (Cw (Az 5 BP.nd rfl (zK rfl)) Jd))) (A4 (B0 (J9 (c:=true) (AO hr 16 (by decide)) (A1 5 (pv 5)) (Aa (AO hr 16 (by decide)) (Aa (AO hr 16 (by decide)) (A1 2 (pv 2)) (A1 4 (pv 4))) (A1 3 (pv 3)))) (A4 (Ak (AX Cv))) As)))))) (A4 (Ak (AX Cv))))),?_⟩;intro m aa O I hm hM hO hI;have e0:AE ["_law_outs","_law_intos","_law_costs_here","_law_place","_law_hub","_law_cost"] [.lst ((zw m).map λ i:Nat=>D.lst ((O i).map (AU (at2 aa) i))),.lst ((zw m).map λ i:Nat=>D.lst ((I i).map (AU (λ x y=>at2 aa y x) i))),.lst ((Al aa).map D.lst)]=[some (.val (.lst ((zw m).map λ i:Nat=>D.lst ((O i).map (AU (at2 aa) i))))),some (.val (.lst ((zw m).map λ i:Nat=>D.lst ((I i).map (AU (λ x y=>at2 aa y x) i))))),some (.val (.lst ((Al aa).map D.lst))),none,none,none]:=rfl;rw[e0];refine B9 ?_;have a8:∀x:Int,0<=x->x<m->AY (.lst ((Al aa).map D.lst)) (.int x)=.ok (.lst ((aa.getD x.toNat []).map cst)):=λ x a b=>by
  have g:=(hM.get a b).1;unfold Al;rw[zT];exact DJ a g
 have dz:∀x z:Int,0<=x->x<m->0<=z->z<m->AY (.lst ((aa.getD x.toNat []).map cst)) (.int z)=.ok (cst (at2 aa x z)):=λ x z a b c d=>BN c (by rw[(hM.get a b).2];exact d);have ge:(((Al aa).map D.lst).length:Int)=(m:Int):=by unfold Al;rw[zc,zc,hM.len]
 have bg:Qi (.int (m:Int))=.ok (C2 0 m):=Ea (by omega);have jy:∀(f:Nat->D) (j:Nat),j<m->AY (.lst ((zw m).map f)) (.int (j:Int))=.ok (f j):=λ f j hj=>DJ (by omega) (by rw[yO,List.getElem?_range hj]);have io:=jy λ i:Nat=>D.lst ((O i).map (AU (at2 aa) i));have ii:=jy λ i:Nat=>D.lst ((I i).map (AU (λ x y=>at2 aa y x) i));refine Bm (I:=λ ρ=>∃s3 s4 s5:Option Cl,ρ=[some (.val (.lst ((zw m).map λ i:Nat=>D.lst ((O i).map (AU (at2 aa) i))))),some (.val (.lst ((zw m).map λ i:Nat=>D.lst ((I i).map (AU (λ x y=>at2 aa y x) i))))),some (.val (.lst ((Al aa).map D.lst))),s3,s4,s5]) ?_ ?_
 ·simp_arith[ge,bg];refine B6 (λ _ ρ=>∃s3 s4 s5:Option Cl,ρ=[some (.val (.lst ((zw m).map λ i:Nat=>D.lst ((O i).map (AU (at2 aa) i))))),some (.val (.lst ((zw m).map λ i:Nat=>D.lst ((I i).map (AU (λ x y=>at2 aa y x) i))))),some (.val (.lst ((Al aa).map D.lst))),s3,s4,s5]) ⟨none,none,none,rfl⟩ ?_ ?_
  ·rintro j d ρ hd ⟨s3,s4,s5,rfl⟩;obtain⟨az,hj⟩:=Be hd;rw[zah] at az;subst az;refine⟨_,rfl,?_⟩;refine Bm (I:=λ ρ=>∃s4 s5:Option Cl,ρ=[some (.val (.lst ((zw m).map λ i:Nat=>D.lst ((O i).map (AU (at2 aa) i))))),some (.val (.lst ((zw m).map λ i:Nat=>D.lst ((I i).map (AU (λ x y=>at2 aa y x) i))))),some (.val (.lst ((Al aa).map D.lst))),some (.val (.int j)),s4,s5]) ?_ ?_
   ·simp_arith[io j hj];refine B6 (λ _ ρ=>∃s4 s5:Option Cl,ρ=[some (.val (.lst ((zw m).map λ i:Nat=>D.lst ((O i).map (AU (at2 aa) i))))),some (.val (.lst ((zw m).map λ i:Nat=>D.lst ((I i).map (AU (λ x y=>at2 aa y x) i))))),some (.val (.lst ((Al aa).map D.lst))),some (.val (.int j)),s4,s5]) ⟨_,_,rfl⟩ ?_ ?_
    ·rintro k d ρ hd ⟨s4,s5,rfl⟩;rw[z7] at hd;obtain⟨h,hh,rfl⟩:=yT.mp hd;have hr:=hO j (by omega) h (zv hh);refine⟨_,rfl,?_⟩;have r1:=a8 j (by omega) (by omega);have x1:=dz j h (by omega) (by omega) hr.1 hr.2;have ae:=Qv (at2 aa j h) (at2 aa j h);rw[decide_eq_true rfl] at ae;exact AV (ρ':=[some (.val (.lst ((zw m).map λ i:Nat=>D.lst ((O i).map (AU (at2 aa) i))))),some (.val (.lst ((zw m).map λ i:Nat=>D.lst ((I i).map (AU (λ x y=>at2 aa y x) i))))),some (.val (.lst ((Al aa).map D.lst))),some (.val (.int j)),some (.val (.int h)),some (.val (cst (at2 aa j h)))]) (by simp_arith[r1,x1,ae];try rfl) ⟨_,_,rfl⟩
    ·rintro ρ ⟨s4,s5,rfl⟩;exact⟨_,_,rfl⟩
   rintro ρ ⟨s4,s5,rfl⟩;simp_arith[ii j hj];refine B6 (λ _ ρ=>∃s4 s5:Option Cl,ρ=[some (.val (.lst ((zw m).map λ i:Nat=>D.lst ((O i).map (AU (at2 aa) i))))),some (.val (.lst ((zw m).map λ i:Nat=>D.lst ((I i).map (AU (λ x y=>at2 aa y x) i))))),some (.val (.lst ((Al aa).map D.lst))),some (.val (.int j)),s4,s5]) ⟨_,_,rfl⟩ ?_ ?_
   ·rintro k d ρ hd ⟨s4,s5,rfl⟩;rw[z7] at hd;obtain⟨h,hh,rfl⟩:=yT.mp hd;have hr:=hI j (by omega) h (zv hh);refine⟨_,rfl,?_⟩;have r1:=a8 h hr.1 hr.2;have x1:=dz h j hr.1 hr.2 (by omega) (by omega);have ae:=Qv (at2 aa h j) (at2 aa h j);rw[decide_eq_true rfl] at ae;exact AV (ρ':=[some (.val (.lst ((zw m).map λ i:Nat=>D.lst ((O i).map (AU (at2 aa) i))))),some (.val (.lst ((zw m).map λ i:Nat=>D.lst ((I i).map (AU (λ x y=>at2 aa y x) i))))),some (.val (.lst ((Al aa).map D.lst))),some (.val (.int j)),some (.val (.int h)),some (.val (cst (at2 aa h j)))]) (by simp_arith[r1,x1,ae];try rfl) ⟨_,_,rfl⟩
   ·rintro ρ ⟨s4,s5,rfl⟩;exact⟨_,_,_,rfl⟩
  ·rintro ρ ⟨s3,s4,s5,rfl⟩;exact⟨_,_,_,rfl⟩
 ·rintro ρ ⟨s3,s4,s5,rfl⟩;rfl
abbrev Ko:List D->M OT:=zh EA
def NW:Txt K mg->BD P w K mg base "_law_entries" 1 3 Ko:=(zb EA).1
def NX:∀(m:Nat) (aa:List (List Co)) (O I:Nat->List Int),m<=20->LQ m aa->(∀i,i<m->∀h∈O i,0<=h/\h<(m:Int))->(∀i,i<m->∀h∈I i,0<=h/\h<(m:Int))->Ko [.lst ((zw m).map λ i:Nat=>D.lst ((O i).map (AU (at2 aa) i))),.lst ((zw m).map λ i:Nat=>D.lst ((I i).map (AU (λ x y=>at2 aa y x) i))),.lst ((Al aa).map D.lst)]=.ok (.sh (.bl true)):=(zb EA).2
def L8:∃F:List D->M OT,(∀ {P w K mg base},Txt K mg->BD P w K mg base "_law_by" 8 4 F)/\(∀(m:Nat) (rs:List Road) (aa:List (List Co)) (o:List Int),1<=m->m<=16->rs.length<=60->(∀r∈rs,GR m r)->LQ m aa->(∀x y:Int,0<=x->x<m->0<=y->y<m->Bz rs x y (at2 aa x y))->(o.Perm (AW m)\/o=[])->F [.lst (rs.map Bk),.int m,.lst (o.map D.int),.lst ((Al aa).map D.lst)]=.ok (.sh (.bl true))):=by
 refine⟨_,λ T=>Ax (k:=7) T.cW BQ _ (λ f B4 A outer s H E hr=>(A3 (B0 (Lc (c:=true) (AO hr 16 (by decide)) (A1 2 (pv 2)) (Fl A6)) (A3 (AM 7 BQ.nd rfl (Or.inr rfl) (Ai (ZA A7.toXCall (Eu T) (hr.mono (by decide)) rfl (A2 (AH (A2 (A1 1 (pv 1)) (A2 (Ai (Hx rfl T.EO (A1 0 (pv 0)))) A6))) A6) rfl))) (A4 (AM 2 BQ.nd rfl (zK rfl) (Ai (F3 (k:=1) [("Ladder",AB)] A7.toXCall (CV (by decide) (CC T) DD) (hr.mono (by decide)) (A1 7 (pv 7))))))) (A4 (AM 7 BQ.nd rfl (Or.inr rfl) (Ai (iF A7.toXCall (Eu T).yB (hr.mono (by decide)) rfl (A2 (AH (A2 (A1 1 (pv 1)) (A2 (Ai (Hx rfl T.EO (A1 0 (pv 0)))) A6))) (A2 (Ai (Hx rfl T.EO (A1 2 (pv 2)))) A6)) rfl))))) (A3 (Jg (NB:=["_law_place","_law_ladder"]) 4 [none,some 7] BQ.nd rfl (zK rfl) rfl (Bb (c:=true) rfl T.BL (A1 1 (pv 1))) rfl rfl (Bw 0 (by decide) rfl rfl rfl) (λ _ _ _ _=>Dk) (λ _ _ _ _=>(Ai (C9 (Ab (Bs rfl).toXCall (Rf T) (hr.mono (by decide)) rfl (A2 (A1 1 (pv 1)) (A2 (A1 0 (pv 0)) A6)) rfl))))) (A3 (Jg (NB:=["_law_place","_law_ladder"]) 5 [none,some 7] BQ.nd rfl (zK rfl) rfl (Bb (c:=true) rfl T.BL (A1 1 (pv 1))) rfl rfl (Bw 0 (by decide) rfl rfl rfl) (λ _ _ _ _=>Dk) (λ _ _ _ _=>(Ai (C9 (Ab (Bs rfl).toXCall (Ox T) (hr.mono (by decide)) rfl (A2 (A1 1 (pv 1)) (A2 (A1 0 (pv 0)) A6)) rfl))))) (A3 (B0 (CF (Ca (c:=true) (Ai (Ab A7.toXCall (NW T) (hr.mono (by decide)) rfl (A2 (A1 4 (pv 4)) (A2 (A1 5 (pv 5)) (A2 (A1 3 (pv 3)) A6))) rfl)))) (A4 (Ak (AX Cv))) As) (A3 (B5 A7.toXCall.own rfl (Bb (c:=true) rfl T.BL (A1 1 (pv 1))) (Az 6 BQ.nd rfl (zK rfl)) (A4 (B5 A7.toXCall.own rfl (Bb (c:=true) rfl T.BL (A1 1 (pv 1))) (Az 8 BQ.nd rfl (zK rfl)) (A3 (AM 9 BQ.nd rfl (zK rfl) (Ai (Ab A7.toXCall (pH T) (hr.mono (by decide)) rfl (A2 (Aa (AO hr 16 (by decide)) (A1 4 (pv 4)) (A1 6 (pv 6))) (A2 (Aa (AO hr 16 (by decide)) (A1 5 (pv 5)) (A1 8 (pv 8))) A6)) rfl))) (A4 (B0 (Fn (c:=true) (Aa (AO hr 16 (by decide)) (Aa (AO hr 16 (by decide)) (A1 3 (pv 3)) (A1 6 (pv 6))) (A1 8 (pv 8)))) (A4 (B0 (Hs (c:=true) (A1 9 (pv 9))) (A4 (Ak (AX Cv))) As)) (A3 (AM 10 BQ.nd rfl (Or.inr rfl) (Ai (Ab A7.toXCall (NU T) (hr.mono (by decide)) rfl (A2 (A1 3 (pv 3)) (A2 (A1 6 (pv 6)) (A2 (A1 8 (pv 8)) A6))) rfl))) (A3 (AM 11 BQ.nd rfl (zK rfl) (Aa (AO hr 16 (by decide)) (Ai (CB (NB:=["_law_place","_law_some"]) [none,some 10] rfl (AN (A1 2 (pv 2))) rfl rfl (Bw 0 (by decide) rfl rfl rfl) (λ _ _ _ _=>ED (IJ (c:=true) (AO hr 16 (by decide)) (A1 0 (pv 0)) (A1 1 (pv 1)))) (λ _ _ _ _=>(A1 0 (pv 0))))) (nB A8))) (A4 (B0 (J9 (c:=true) (AO hr 16 (by decide)) (A1 9 (pv 9)) (AH (A2 (Aa (AO hr 16 (by decide)) (Aa (AO hr 16 (by decide)) (A1 3 (pv 3)) (A1 6 (pv 6))) (A1 8 (pv 8))) (A2 (A1 11 (pv 11)) A6)))) (A4 (Ak (AX Cv))) As)))))))))) (A4 (Ak (AX Cv))))))))),?_⟩;intro m rs aa o bC aN bD ci hM hA ho;have e0:AE ["_law_roads_here","_law_many","_law_order_here","_law_costs_here","_law_outs","_law_intos","_law_start","_law_ladder","_law_goal","_law_found","_law_some","_law_highest"] [.lst (rs.map Bk),.int m,.lst (o.map D.int),.lst ((Al aa).map D.lst)]=[some (.val (.lst (rs.map Bk))),some (.val (.int m)),some (.val (.lst (o.map D.int))),some (.val (.lst ((Al aa).map D.lst))),none,none,none,none,none,none,none,none]:=rfl;rw[e0];refine B9 ?_;have gu:∀r∈rs,Gd m r:=λ r hr=>(ci r hr).wH.1;have nn:D.tup [.int m,.lst (rs.map Bk)]=Ar m rs:=rfl;have hT:XR m (at2 aa):=QS hA;have a8:∀x:Int,0<=x->x<m->AY (.lst ((Al aa).map D.lst)) (.int x)=.ok (.lst ((aa.getD x.toNat []).map cst)):=λ x a b=>by
  have g:=(hM.get a b).1;unfold Al;rw[zT];exact DJ a g
 have dz:∀x z:Int,0<=x->x<m->0<=z->z<m->AY (.lst ((aa.getD x.toNat []).map cst)) (.int z)=.ok (cst (at2 aa x z)):=λ x z a b c d=>BN c (by rw[(hM.get a b).2];exact d);have hq:YE 16 (.lst (o.map D.int)) (.lst [])=.ok (.bl (decide (o=[]))):=(show YE 16 (.lst (o.map D.int)) (.lst (([]:List Int).map D.int))=_ from Sw);refine Bm (I:=λ ρ=>∃(L:List Int) (A:LA) (K:List (Int×Int)),ρ=[some (.val (.lst (rs.map Bk))),some (.val (.int m)),some (.val (.lst (L.map D.int))),some (.val (.lst ((Al aa).map D.lst))),none,none,none,some (.val (AJ m rs L A K)),none,none,none,none]/\BO m rs L A K) ?_ ?_
 ·by_cases c1:o=[]
  ·obtain⟨A,K,ok,t,hI,hE⟩:=Ew m rs .AK (Qz m (Bn rs) (AW m)) bC aN bD ci (SF m _ _ (F4 m)) (.inr ⟨rfl,rfl⟩);have wP:Pf (Cm (.ins "Ladder" [] []) ([Ar m rs]++[.AK]))=.ok t:=by
    rw[show [Ar m rs]++[D.AK]=[Ar m rs,.AK] from rfl,hI];rfl
   have hs:GI [("Ladder",AB)] "order" (AJ m rs (Qz m (Bn rs) (AW m)) A K)=.ok AB:=rfl;have ho:=CD m rs (Qz m (Bn rs) (AW m)) A K;refine AV (ρ':=[some (.val (.lst (rs.map Bk))),some (.val (.int m)),some (.val (.lst ((Qz m (Bn rs) (AW m)).map D.int))),some (.val (.lst ((Al aa).map D.lst))),none,none,none,some (.val (AJ m rs (Qz m (Bn rs) (AW m)) A K)),none,none,none,none]) (by
    simp_arith[hq,decide_eq_true c1,nn,wP,hE,RU];simp_arith[hs,ho];try rfl) ⟨_,A,K,rfl,ok⟩
  ·obtain⟨A0,K0,wS,t0,wT,xa⟩:=Ew m rs (.lst (o.map D.int)) o bC aN bD ci (ho.resolve_right c1) (.inl rfl);have ql:Pf (Cm (.ins "Ladder" [] []) [Ar m rs,.lst (o.map D.int)])=.ok t0:=by rw[wT];rfl
   refine AV (ρ':=[some (.val (.lst (rs.map Bk))),some (.val (.int m)),some (.val (.lst (o.map D.int))),some (.val (.lst ((Al aa).map D.lst))),none,none,none,some (.val (AJ m rs o A0 K0)),none,none,none,none]) (by simp_arith[hq,decide_eq_false c1,nn,ql,xa];try rfl) ⟨_,A0,K0,rfl,wS⟩
 rintro ρ ⟨L,A,K,rfl,ok⟩;have hL:=ok.pm;have je:L.reverse.Nodup:=(List.reverse_perm L).nodup_iff.mpr (Fv hL);have hlen:=F6 hL;have ia:∀x∈L.reverse,0<=x/\x<(m:Int):=λ x hx=>(AZ hL).mp (za1.mp hx);have bg:Qi (.int (m:Int))=.ok (C2 0 m):=Ea (by omega);have tz:((zw m).map λ i:Nat=>D.int (i:Int)).length<=1000:=by rw[zc,List.length_range];omega
 have jy:∀(f:Nat->D) (j:Nat),j<m->AY (.lst ((zw m).map f)) (.int (j:Int))=.ok (f j):=λ f j hj=>DJ (by omega) (by rw[yO,List.getElem?_range hj]);have xb:=jy λ i:Nat=>D.lst ((AL (at2 aa) i L.reverse).map (AU (at2 aa) i));have xc:=jy λ i:Nat=>D.lst ((AL (λ x y=>at2 aa y x) i L.reverse).map (AU (λ x y=>at2 aa y x) i));refine wp_step (ρ':=[some (.val (.lst (rs.map Bk))),some (.val (.int m)),some (.val (.lst (L.map D.int))),some (.val (.lst ((Al aa).map D.lst))),some (.val (.lst ((zw m).map λ i:Nat=>D.lst ((AL (at2 aa) i L.reverse).map (AU (at2 aa) i))))),none,none,some (.val (AJ m rs L A K)),none,none,none,none]) (by
  simp_arith[bg,Fo,if_pos tz];rw[BG (λ i:Nat=>D.lst ((AL (at2 aa) i L.reverse).map (AU (at2 aa) i))) (λ i hi=>⟨_,rfl,rfl,by
   have:=Rg m rs L A K (at2 aa) i ok hA (zac.mp hi);simp_arith[this]⟩)]
  simp_arith[];try rfl) ?_
 refine wp_step (ρ':=[some (.val (.lst (rs.map Bk))),some (.val (.int m)),some (.val (.lst (L.map D.int))),some (.val (.lst ((Al aa).map D.lst))),some (.val (.lst ((zw m).map λ i:Nat=>D.lst ((AL (at2 aa) i L.reverse).map (AU (at2 aa) i))))),some (.val (.lst ((zw m).map λ i:Nat=>D.lst ((AL (λ x y=>at2 aa y x) i L.reverse).map (AU (λ x y=>at2 aa y x) i))))),none,some (.val (AJ m rs L A K)),none,none,none,none]) (by
  simp_arith[bg,Fo,if_pos tz];rw[BG (λ i:Nat=>D.lst ((AL (λ x y=>at2 aa y x) i L.reverse).map (AU (λ x y=>at2 aa y x) i))) (λ i hi=>⟨_,rfl,rfl,by
   have:=Oy m rs L A K (at2 aa) i ok hA (zac.mp hi);simp_arith[this]⟩)]
  simp_arith[];try rfl) ?_
 have xf:=NX m aa (λ i=>AL (at2 aa) i L.reverse) (λ i=>AL (λ x y=>at2 aa y x) i L.reverse) (by omega) hM (λ i _ h hh=>ia h (Dr _ _ _ _ hh)) λ i _ h hh=>ia h (Dr _ _ _ _ hh);apply wp_step
 ·simp_arith[xf,GD];rfl
 try simp only[zq,zk]
 refine Bm (I:=λ ρ=>∃s6 s8 s9 bI bJ:Option Cl,ρ=[some (.val (.lst (rs.map Bk))),some (.val (.int m)),some (.val (.lst (L.map D.int))),some (.val (.lst ((Al aa).map D.lst))),some (.val (.lst ((zw m).map λ i:Nat=>D.lst ((AL (at2 aa) i L.reverse).map (AU (at2 aa) i))))),some (.val (.lst ((zw m).map λ i:Nat=>D.lst ((AL (λ x y=>at2 aa y x) i L.reverse).map (AU (λ x y=>at2 aa y x) i))))),s6,some (.val (AJ m rs L A K)),s8,s9,bI,bJ]) ?_ ?_
 ·simp_arith[bg];refine B6 (λ _ ρ=>∃s6 s8 s9 bI bJ:Option Cl,ρ=[some (.val (.lst (rs.map Bk))),some (.val (.int m)),some (.val (.lst (L.map D.int))),some (.val (.lst ((Al aa).map D.lst))),some (.val (.lst ((zw m).map λ i:Nat=>D.lst ((AL (at2 aa) i L.reverse).map (AU (at2 aa) i))))),some (.val (.lst ((zw m).map λ i:Nat=>D.lst ((AL (λ x y=>at2 aa y x) i L.reverse).map (AU (λ x y=>at2 aa y x) i))))),s6,some (.val (AJ m rs L A K)),s8,s9,bI,bJ]) ⟨_,_,_,_,_,rfl⟩ ?_ ?_
  ·rintro s d ρ hd ⟨s6,s8,s9,bI,bJ,rfl⟩;obtain⟨az,hs⟩:=Be hd;rw[zah] at az;subst az;refine⟨_,rfl,?_⟩;simp_arith[bg];refine B6 (λ _ ρ=>∃s8 s9 bI bJ:Option Cl,ρ=[some (.val (.lst (rs.map Bk))),some (.val (.int m)),some (.val (.lst (L.map D.int))),some (.val (.lst ((Al aa).map D.lst))),some (.val (.lst ((zw m).map λ i:Nat=>D.lst ((AL (at2 aa) i L.reverse).map (AU (at2 aa) i))))),some (.val (.lst ((zw m).map λ i:Nat=>D.lst ((AL (λ x y=>at2 aa y x) i L.reverse).map (AU (λ x y=>at2 aa y x) i))))),some (.val (.int s)),some (.val (AJ m rs L A K)),s8,s9,bI,bJ]) ⟨_,_,_,_,rfl⟩ ?_ ?_
   ·rintro g d ρ hd ⟨s8,s9,bI,bJ,rfl⟩;obtain⟨az,hg⟩:=Be hd;rw[zah] at az;subst az;refine⟨_,rfl,?_⟩;have qm:(0:Int)<=(s:Int)/\(s:Int)<(m:Int):=⟨by omega,by omega⟩;have t5:(0:Int)<=(g:Int)/\(g:Int)<(m:Int):=⟨by omega,by omega⟩;have xg:=Nj (at2 aa) s L.reverse;have xh:=Nj (λ x y=>at2 aa y x) g L.reverse;rw[yR] at xg xh;have jz:=pI (DL (at2 aa) s (AL (at2 aa) s L.reverse)) (DL (λ x y=>at2 aa y x) g (AL (λ x y=>at2 aa y x) g L.reverse)) (by rw[Xx];exact UB je) (by unfold DL;rw[zc];omega) (by unfold DL;rw[zc];omega);rw[<-W6 DZ,<-W6 DZ] at jz;have t6:=xb s hs;have t7:=xc g hg;have r1:=a8 s (by omega) (by omega);have x1:=dz s g (by omega) (by omega) (by omega) (by omega);cases hc:at2 aa s g with
    |none =>
     rw[Xw hT qm t5 ia hc] at jz;rw[hc] at x1;have gw:jP [.lst ((AL (at2 aa) s L.reverse).map (AU (at2 aa) s)),.lst ((AL (λ x y=>at2 aa y x) g L.reverse).map (AU (λ x y=>at2 aa y x) g))]=.ok (.sh .AK):=jz;have aG:BV (cst none)=true:=rfl;have a9:BV D.AK=true:=rfl;refine wp_step (ρ':=[some (.val (.lst (rs.map Bk))),some (.val (.int m)),some (.val (.lst (L.map D.int))),some (.val (.lst ((Al aa).map D.lst))),some (.val (.lst ((zw m).map λ i:Nat=>D.lst ((AL (at2 aa) i L.reverse).map (AU (at2 aa) i))))),some (.val (.lst ((zw m).map λ i:Nat=>D.lst ((AL (λ x y=>at2 aa y x) i L.reverse).map (AU (λ x y=>at2 aa y x) i))))),some (.val (.int s)),some (.val (AJ m rs L A K)),some (.val (.int g)),some (.val .AK),bI,bJ]) (by simp_arith[t6,t7,gw];try rfl) ?_;exact AV (ρ':=[some (.val (.lst (rs.map Bk))),some (.val (.int m)),some (.val (.lst (L.map D.int))),some (.val (.lst ((Al aa).map D.lst))),some (.val (.lst ((zw m).map λ i:Nat=>D.lst ((AL (at2 aa) i L.reverse).map (AU (at2 aa) i))))),some (.val (.lst ((zw m).map λ i:Nat=>D.lst ((AL (λ x y=>at2 aa y x) i L.reverse).map (AU (λ x y=>at2 aa y x) i))))),some (.val (.int s)),some (.val (AJ m rs L A K)),some (.val (.int g)),some (.val .AK),bI,bJ]) (by simp_arith[r1,x1,aG,a9];try rfl) ⟨_,_,_,_,rfl⟩
    |some c =>
     have xi:at2 aa s s=some (0,0):=(hA s s (by omega) (by omega) (by omega) (by omega)).Cg (min_self gu s);obtain⟨Dl,h,El,eR,hb,hn⟩:=cQ (B:=λ x=>Ah (at2 aa s x) (at2 aa x g)=at2 aa s g) (R:=L.reverse) ⟨s,za1.mpr ((AZ hL).mpr qm),by rw[xi,Pn]⟩;have g9:=Xv (D:=Dl) (E:=El) (h:=h) hT qm t5 (by rw[<-eR];exact ia) hc hb hn;rw[<-eR] at g9;rw[g9] at jz;have gw:jP [.lst ((AL (at2 aa) s L.reverse).map (AU (at2 aa) s)),.lst ((AL (λ x y=>at2 aa y x) g L.reverse).map (AU (λ x y=>at2 aa y x) g))]=.ok (.sh (Xr (c,h))):=jz;have t8:=NV m aa s g c (by omega) hM hs hg hc;rw[hc] at x1 t8;have aG:BV (cst (some c))=false:=rfl;have xj:(L.map D.int).length<=1000:=by rw[zc];omega
     have xk:=top_last (m:=m) (f:=λ x=>(QQ (λ w=>at2 aa s w) (λ w=>at2 aa w g) (some c) m).contains x) eR (by
      have hh:=ia h (by rw[eR];simp);rw[W8 hh.1 hh.2];exact decide_eq_true (by rw[<-hc];exact hb)) λ x hx=>by
       have hh:=ia x (by rw[eR];simp[hx]);rw[W8 hh.1 hh.2];exact decide_eq_false (by rw[<-hc];exact hn x hx)
     have qh:=cR (l:=El.reverse.filter λ x=>(QQ (λ w=>at2 aa s w) (λ w=>at2 aa w g) (some c) m).contains x) (h:=h);have ae:dG 16 (Xr (c,h)) (.tup [cst (some c),.int h])=.ok (.bl false):=YT ((tN (c,h)).le (by decide));refine wp_step (ρ':=[some (.val (.lst (rs.map Bk))),some (.val (.int m)),some (.val (.lst (L.map D.int))),some (.val (.lst ((Al aa).map D.lst))),some (.val (.lst ((zw m).map λ i:Nat=>D.lst ((AL (at2 aa) i L.reverse).map (AU (at2 aa) i))))),some (.val (.lst ((zw m).map λ i:Nat=>D.lst ((AL (λ x y=>at2 aa y x) i L.reverse).map (AU (λ x y=>at2 aa y x) i))))),some (.val (.int s)),some (.val (AJ m rs L A K)),some (.val (.int g)),some (.val (Xr (c,h))),bI,bJ]) (by simp_arith[t6,t7,gw];try rfl) ?_;refine AV (ρ':=[some (.val (.lst (rs.map Bk))),some (.val (.int m)),some (.val (.lst (L.map D.int))),some (.val (.lst ((Al aa).map D.lst))),some (.val (.lst ((zw m).map λ i:Nat=>D.lst ((AL (at2 aa) i L.reverse).map (AU (at2 aa) i))))),some (.val (.lst ((zw m).map λ i:Nat=>D.lst ((AL (λ x y=>at2 aa y x) i L.reverse).map (AU (λ x y=>at2 aa y x) i))))),some (.val (.int s)),some (.val (AJ m rs L A K)),some (.val (.int g)),some (.val (Xr (c,h))),some (.val (.lst ((QQ (λ w=>at2 aa s w) (λ w=>at2 aa w g) (some c) m).map D.int))),some (.val (.int h))]) (by
      simp_arith[r1,x1,aG,t8,RU];simp_arith[if_pos xj];rw[Cb (λ x:Int=>(QQ (λ w=>at2 aa s w) (λ w=>at2 aa w g) (some c) m).contains x) (λ x:Int=>D.int x) (λ x hx=>⟨_,rfl,by simp_arith[];try rfl,λ _=>rfl⟩)];simp_arith[xk,qh,RU];simp_arith[r1,x1,ae];try rfl) ⟨_,_,_,_,rfl⟩
   ·rintro ρ ⟨s8,s9,bI,bJ,rfl⟩;exact⟨_,_,_,_,_,rfl⟩
  ·rintro ρ ⟨s6,s8,s9,bI,bJ,rfl⟩;exact⟨_,_,_,_,_,rfl⟩
 ·rintro ρ ⟨s6,s8,s9,bI,bJ,rfl⟩;rfl
abbrev We:List D->M OT:=zh L8
def PN:Txt K mg->BD P w K mg base "_law_by" 8 4 We:=(zb L8).1
def XG:∀(m:Nat) (rs:List Road) (aa:List (List Co)) (o:List Int),1<=m->m<=16->rs.length<=60->(∀r∈rs,GR m r)->LQ m aa->(∀x y:Int,0<=x->x<m->0<=y->y<m->Bz rs x y (at2 aa x y))->(o.Perm (AW m)\/o=[])->We [.lst (rs.map Bk),.int m,.lst (o.map D.int),.lst ((Al aa).map D.lst)]=.ok (.sh (.bl true)):=(zb L8).2
def UW:∃F:List D->M D,(∀ {P w K mg base f fd},Txt K mg->XN K "law" "law" PD f fd->Dn P w K mg base eT 9 f fd ["_law_script"] (U9 K 1 F))/\(∀ns:List Int,ns.length<=63->(∀n∈ns,Sm n)->F [.lst (ns.map D.int)]=.ok (.bl true)):=by
 refine⟨_,fun {P w K mg base f fd} T F=>sH (k:=8) F L0 _ (λ B4 A outer s H E hr=>(A3 (AM 1 L0.nd rfl (zK rfl) (Cq A8 (Cr (Ai (C9 (Ab (Bs rfl).toXCall (FH T) (hr.mono (by decide)) rfl (A2 (Ai (Ab (Bs rfl).toXCall (D1 T) (hr.mono (by decide)) rfl (A2 (A1 0 (pv 0)) (A2 A8 A6)) rfl)) (A2 A8 A6)) rfl))) A8))) (A3 (AM 2 L0.nd rfl (zK rfl) (Ai (C9 (Ab (Bs rfl).toXCall (Ro T) (hr.mono (by decide)) rfl (A2 (Ai (N0 (A1 0 (pv 0)) (LW A8) (LW A8))) (A2 (A1 1 (pv 1)) A6)) rfl)))) (A3 (AM 3 L0.nd rfl (zK rfl) (Ai (C9 (Ab (Bs rfl).toXCall (Rq T) (hr.mono (by decide)) rfl (A2 (A1 2 (pv 2)) (A2 (A1 1 (pv 1)) A6)) rfl)))) (A3 (B0 (CF (Ca (c:=true) (Ai (C9 (Ab (Bs rfl).toXCall (PN T) (hr.mono (by decide)) rfl (A2 (A1 2 (pv 2)) (A2 (A1 1 (pv 1)) (A2 (Ai (Ab (Bs rfl).toXCall (Kh T) (hr.mono (by decide)) rfl (A2 (Ai (Ab (Bs rfl).toXCall (D1 T) (hr.mono (by decide)) rfl (A2 (A1 0 (pv 0)) (A2 A8 A6)) rfl)) (A2 (A1 1 (pv 1)) A6)) rfl)) (A2 (A1 3 (pv 3)) A6)))) rfl))))) (A4 (YM (U4 Cv))) As) (A3 (AM 4 L0.nd rfl (zK rfl) (Ai (C9 (Ab (Bs rfl).toXCall (Kh T) (hr.mono (by decide)) rfl (A2 (Ai (Ab (Bs rfl).toXCall (D1 T) (hr.mono (by decide)) rfl (A2 (A1 0 (pv 0)) (A2 A8 A6)) rfl)) (A2 (A1 1 (pv 1)) A6)) rfl)))) (A3 (B0 (Lc (c:=true) (AO hr 16 (by decide)) (Cr (Ai (C9 (Ab (Bs rfl).toXCall (FH T) (hr.mono (by decide)) rfl (A2 (Ai (Ab (Bs rfl).toXCall (D1 T) (hr.mono (by decide)) rfl (A2 (A1 0 (pv 0)) (A2 A8 A6)) rfl)) (A2 A8 A6)) rfl))) A8) A8) (A4 (AM 4 L0.nd rfl (zK rfl) (Fl A6))) As) (A4 (YM (U4 (Ai (C9 (Ab (Bs rfl).toXCall (PN T) (hr.mono (by decide)) rfl (A2 (A1 2 (pv 2)) (A2 (A1 1 (pv 1)) (A2 (A1 4 (pv 4)) (A2 (A1 3 (pv 3)) A6)))) rfl))))))))))))),?_⟩;intro ns mw bp;have e0:AE ["_law_script","_law_many","_law_roads_here","_law_costs_here","_law_other"] [.lst (ns.map D.int)]=[some (.val (.lst (ns.map D.int))),none,none,none,none]:=rfl;rw[e0];refine tD ?_;obtain⟨z0,yE,jx⟩:=Ey ns 0 bp;obtain⟨z1,bo,dq⟩:=Ey ns 1 bp;obtain⟨z2,ny,qb⟩:=Ey ns 2 bp;have qo:CZ [.lst (ns.map D.int),.int 0]=.ok (.sh (.int z0)):=jx;have qr:CZ [.lst (ns.map D.int),.int 1]=.ok (.sh (.int z1)):=dq;have gx:CZ [.lst (ns.map D.int),.int 2]=.ok (.sh (.int z2)):=qb;obtain⟨v,v0,hv⟩:=FI z0 0 (by decide) (by decide);have q1:Fj (.int v) (.int 5)=.ok (.int (v%5)):=Bf (by decide);obtain⟨m,bC,aN,j0⟩:∃m:Nat,1<=m/\m<=16/\1+v%5=(m:Int):=⟨(1+v%5).toNat,by omega,by omega,by omega⟩;refine wp_step (ρ':=[some (.val (.lst (ns.map D.int))),some (.val (.int m)),none,none,none]) (by simp_arith[qo,hv,q1,j0];try rfl) ?_;have sl:gJ (some 3) (some 27) (.lst (ns.map D.int))=.ok (.lst ((((ns.drop 3).take 24).map D.int).map .sh)):=by rw[List.map_take,List.map_drop];exact iB _ 3 27
 obtain⟨rs,bD,ci,xl⟩:=Rp ((ns.drop 3).take 24) m bC aN (by rw[yM];omega) λ c hc=>bp c (List.mem_of_mem_drop (yK hc));have qt:rs.length<=60:=by rw[yM] at bD;omega
 have gu:∀r∈rs,Gd m r:=λ r hr=>(ci r hr).wH.1;apply wp_step
 ·simp_arith[sl,xl];rfl
 try simp only[zq,zk]
 obtain⟨aa,hM,hA,tc,xm,xn⟩:=Rr m rs (by omega) (by omega) gu;apply wp_step
 ·simp_arith[xm,xn];rfl
 try simp only[zq,zk]
 have bq:=λ o h=>XG m rs aa o bC aN qt ci hM hA h;obtain⟨L1,xp,qu⟩:=Ki z1 m (by omega);have br:=bq L1 (.inl xp);apply wp_step
 ·simp_arith[qr,qu,br,GD];rfl
 obtain⟨L2,lq,qv⟩:=Ki z2 m (by omega);refine wp_step (ρ':=[some (.val (.lst (ns.map D.int))),some (.val (.int m)),some (.val (.lst (rs.map Bk))),some (.val (.lst ((Al aa).map D.lst))),some (.val (.lst (L2.map D.int)))]) (by simp_arith[gx,qv];try rfl) ?_;obtain⟨v5,yF,t9⟩:=FI z2 5 (by decide) (by decide);have q5:Fj (.int v5) (.int 4)=.ok (.int (v5%4)):=Bf (by decide);refine Bm (I:=λ ρ=>∃o:List Int,ρ=[some (.val (.lst (ns.map D.int))),some (.val (.int m)),some (.val (.lst (rs.map Bk))),some (.val (.lst ((Al aa).map D.lst))),some (.val (.lst (o.map D.int)))]/\(o.Perm (AW m)\/o=[])) ?_ ?_
 ·by_cases c1:v5%4=1
  ·exact AV (ρ':=[some (.val (.lst (ns.map D.int))),some (.val (.int m)),some (.val (.lst (rs.map Bk))),some (.val (.lst ((Al aa).map D.lst))),some (.val (.lst (([]:List Int).map D.int)))]) (by simp_arith[gx,t9,q5,decide_eq_true c1];try rfl) ⟨[],rfl,.inr rfl⟩
  ·exact AV (ρ':=[some (.val (.lst (ns.map D.int))),some (.val (.int m)),some (.val (.lst (rs.map Bk))),some (.val (.lst ((Al aa).map D.lst))),some (.val (.lst (L2.map D.int)))]) (by simp_arith[gx,t9,q5,decide_eq_false c1];try rfl) ⟨L2,rfl,.inl lq⟩
 rintro ρ ⟨o,rfl,ho⟩;have qd:=bq o ho;simp_arith[qd];rfl
abbrev dD:List D->M D:=zh UW
def pJ {P w K mg base f fd}:Txt K mg->XN K "law" "law" PD f fd->Dn P w K mg base eT 9 f fd ["_law_script"] (U9 K 1 dD):=(zb UW).1
def pK:∀ns:List Int,ns.length<=63->(∀n∈ns,Sm n)->dD [.lst (ns.map D.int)]=.ok (.bl true):=(zb UW).2
set_option maxHeartbeats 0 in
set_option maxHeartbeats 0 in
set_option maxHeartbeats 0 in
set_option maxHeartbeats 0 in
def left (w:World):(PySem.W.openEnds treeTable PySem.Challenge.pw_nodeladder_k63_whole_labels w 6100).map (λ s=>PySem.W.openSeen (D3 PySem.Challenge.pw_nodeladder_k63_whole_labels) [] (importedModules PySem.Challenge.pw_nodeladder_k63_whole_labels.main.body) (λ s=>PySem.W.xlAt (D3 PySem.Challenge.pw_nodeladder_k63_whole_labels) [] s&&PySem.W.recOk [] s) true s)=some (PySem.W.openGood (D3 PySem.Challenge.pw_nodeladder_k63_whole_labels) []):=by
 rw[VQ,oC,PySem.W.Fast.te4187177175401517315,PySem.W.Fast.te5923862056798008813,PySem.W.Fast.te6138623895484501808];exact Qu (pZ w) (Qu (qA w) (Qu (qB w) (qC w)))
set_option maxHeartbeats 0 in
def pL (w:World):PP (Kp R0 PySem.Challenge.pw_nodeladder_k63_whole_labels w) PySem.Challenge.pw_nodeladder_k63_whole_labels:=by
 rw[oC,PySem.W.Fast.te6138623895484501808];exact dM w
set_option maxHeartbeats 0 in
def pM (w:World):PQ (Kp R0 PySem.Challenge.pw_nodeladder_k63_whole_labels w) PySem.Challenge.pw_nodeladder_k63_whole_labels:=by
 rw[oC,PySem.W.Fast.te6138623895484501808];exact dN w
def all_mk {l:PySem.W.OpenLaw}{w:World}{K:za}{h:Heap}{mg:Str->Option Value}{fa:Addr}(X:K.In h)(G:h.Ns mainGlobals mg)(xq:mg "law" = some (.ref fa))(u0:PP K PySem.Challenge.pw_nodeladder_k63_whole_labels)(u1:PQ K PySem.Challenge.pw_nodeladder_k63_whole_labels):
 ∃fd:FuncData,(∀(s:Shared) (v:Value),BindsTo s fd ⟨[v],[]⟩ [("_law_script",v)])/\∀base:Heap,K.In base->base.Ns mainGlobals mg->Dn l.prog w K mg base eT 9 fa fd ["_law_script"] (U9 K 1 dD):=by
 have ah:Wn K _:=⟨u0.1.1.1.1.1.2,u0.1.1.1.1.2,u0.1.1.1.2.1,u0.1.1.1.2.2⟩;obtain⟨yG,j1,xr,to33,xt,j3,xu,xv,xw,xx,j4,j5,j6,j7,j8,xy,xz,x4,x5,x6,j9⟩:=u1.2.2.2.2.1.ex;have x8:=iK (st:=AA) x4 x5 x6;have x9:Binds K (yI "__init__" "Ladder.__init__" (Bo AA) (AR AA) (A5 AA) (.ref j1) j4 j5 j6 j3 j7 j8) ["self","net","order"] []:=λ s us hK hl=>by
  have aF:us.length=3:=by simpa using hl
  rcases us with _|⟨_,_|⟨_,_|⟨_,_|⟨_,us⟩⟩⟩⟩<;>first|exact PySem.W.binds_K hK rfl j9 rfl rfl rfl|(simp at aF)
 have xL:Binds K (yI "__init__" "Ladder.__init__" (Bo AA) (AR AA) (A5 AA) (.ref j1) j4 j5 j6 j3 j7 j8) ["self","net","order"] [.none]:=λ s us hK hl=>by
  have aF:us.length=2:=by simpa using hl
  rcases us with _|⟨_,_|⟨_,_|⟨_,_|⟨_,us⟩⟩⟩⟩<;>first|exact PySem.W.binds_K hK rfl j9 rfl rfl rfl|(simp at aF)
 have ya:Uo K mg "Ladder" "Ladder.__init__" AA ["self","net","order"]:=⟨_,_,_,⟨u0.1.1.1.1.1.1,PySem.W.mg_of X G u0.1.1.1.1.1.1⟩,⟨u0.1.1.2.1.1.1,xy,xz,u0.1.1.2.1.1.2⟩,x8,x9,xL⟩;obtain⟨yH,yb,yc,yd,ye,yf,yg,yh,yi,yj,ub,yk,yl,ym⟩:=u1.2.2.2.2.2.ex;cases xq.symm.trans (PySem.W.mg_of X G ub);have qw:=TZ (st:=PD) yk yl ym;have yn:AI K mg "law" PD ["_law_script"]:=⟨_,_,qw,PySem.W.mg_of X G ub,qw.binds (λ _ _ _ _ _ _=>uN λ _=>rfl)⟩;have T:Txt K mg:=⟨AS X G u0.1.1.2.1.2,AS X G u0.1.1.2.2.1,AS X G u0.1.1.2.2.2,AS X G u0.1.2.1.1.1.1,AS X G u0.1.2.1.1.1.2,AS X G u0.1.2.1.1.2,AS X G u0.1.2.1.2.1,AS X G u0.1.2.1.2.2,AS X G u0.1.2.2.1.1,AS X G u0.1.2.2.1.2,AS X G u0.1.2.2.2.1,AS X G u0.1.2.2.2.2,AS X G u0.2.1.1.1.1.1,AS X G u0.2.1.1.1.1.2,AS X G u0.2.1.1.1.2,AS X G u0.2.1.1.2.1,AS X G u0.2.1.1.2.2,AS X G u0.2.1.2.1.1.1,AS X G u0.2.1.2.1.1.2,AS X G u0.2.1.2.1.2,AS X G u0.2.1.2.2.1,AS X G u0.2.1.2.2.2,AS X G u0.2.2.1.1.1.1,AS X G u0.2.2.1.1.1.2,AS X G u0.2.2.1.1.2,AS X G u0.2.2.1.2.1,AS X G u0.2.2.1.2.2,AS X G u0.2.2.2.1.1,AS X G u0.2.2.2.1.2,AS X G u0.2.2.2.2.1,AS X G u0.2.2.2.2.2,AS X G u1.1.1.1.1.1.1,ya,VP u0.1.1.1.1.1.1 ah u1.1.1.1.1.1.2,VP u0.1.1.1.1.1.1 ah u1.1.1.1.1.2,VP u0.1.1.1.1.1.1 ah u1.1.1.1.2.1,VP u0.1.1.1.1.1.1 ah u1.1.1.1.2.2,AS X G u1.1.1.2.1.1.1,AS X G u1.1.1.2.1.1.2,AS X G u1.1.1.2.1.2,AS X G u1.1.1.2.2.1,AS X G u1.1.1.2.2.2,AS X G u1.1.2.1.1.1.1,AS X G u1.1.2.1.1.1.2,AS X G u1.1.2.1.1.2,AS X G u1.1.2.1.2.1,AS X G u1.1.2.1.2.2,AS X G u1.1.2.2.1.1,AS X G u1.1.2.2.1.2,yn,zS X G u1.1.2.2.2.1,zS X G u1.1.2.2.2.2,zS X G u1.2.1.1.1.1.1,zS X G u1.2.1.1.1.1.2,zS X G u1.2.1.1.1.2,zS X G u1.2.1.1.2.1,zS X G u1.2.1.1.2.2,zS X G u1.2.1.2.1.1,zS X G u1.2.1.2.1.2,zS X G u1.2.1.2.2.1,zS X G u1.2.1.2.2.2,zS X G u1.2.2.1.1.1.1,zS X G u1.2.2.1.1.1.2,zS X G u1.2.2.1.1.2,kS X G u0.2.1.1.1.1.2,kS X G u0.2.1.1.1.1.1,⟨_,u0.1.1.1.1.1.1,ah,u1.2.2.1.2.1⟩,⟨_,u0.1.1.1.1.1.1,ah,u1.2.2.1.2.2⟩,⟨_,u0.1.1.1.1.1.1,ah,u1.2.2.2.1.1⟩,⟨_,u0.1.1.1.1.1.1,ah,u1.2.2.2.1.2⟩⟩;refine⟨_,?_,λ base _ _=>pJ T qw⟩;exact λ s v=>.of_eq rfl
def walk {l:PySem.W.OpenLaw}{q:Program}{loose:List Str}{XP:(Str->Option Value)->Heap->Prop}{YP:World->Heap->Prop}{d:DefRec}{K:World->za}(hn:l.most=some 63)(fj:d.params.defaults=[])
 (hY:∀(w:World) (h:Heap),YP w h->(K w).In h)
 (F:∀(w:World) (mg:Str->Option Value) (fa:Addr) (h:Heap),(K w).In h->h.Ns mainGlobals mg->mg d.name=some (.ref fa)->
  ∃fd:FuncData,(∀(s:Shared) (u:Value),BindsTo s fd ⟨[u],[]⟩ [("_law_script",u)])/\∀base:Heap,(K w).In base->base.Ns mainGlobals mg->Dn l.prog w (K w) mg base eT 9 fa fd ["_law_script"] (U9 (K w) 1 dD)):
 PySem.W.WalkO q loose XP YP l.row.toRowW d [] (λ f vs=>PySem.call f vs):=
 L2.tG (n:=63) (k:=9) (x := "_law_script") (CX:=λ _=>eT) (sp:=λ w=>U9 (K w) 1 dD) hn (by decide) fj ⟨rfl,by decide,by decide⟩ hY F (λ w H a ns bp hl _ hS=>fM pK (K w) H a ns bp hl hS) λ _ _ _ _ _ z=>z
end ck
open PySem PySem.W PyProof.Rows L2
set_option maxRecDepth 100000 in
set_option maxHeartbeats 0 in
theorem PySem.Challenge.cw_nodeladder_k63_whole_labels_holds : PySem.Challenge.rw_nodeladder_k63_whole_labels.Holds := by
 w_on;o_law
 refine holds_open (q:=D3 PySem.Challenge.pw_nodeladder_k63_whole_labels) (loose:=[]) (Xt:=λ s=>xlAt (D3 PySem.Challenge.pw_nodeladder_k63_whole_labels) [] s&&recOk [] s) (XP:=XL (D3 PySem.Challenge.pw_nodeladder_k63_whole_labels) []) (Yf:=λ s=>s.heap) (Ya:=λ w=>XS R0 PySem.Challenge.pw_nodeladder_k63_whole_labels w 6100) (YP:=λ w h=>tF (XS R0 PySem.Challenge.pw_nodeladder_k63_whole_labels w 6100) h) (N:=6100) (iL ck.left) (λ w s e b o q=>by rw[<-e] at q;exact q) (λ w h h' a b c o q=>b c o (a c o q)) (λ s e=>xl_of s (Bool.and_eq_true_iff.mp e).1) XL.keeps (by rfl) (by rfl) (by rfl) (λ s e=>recFacts_of (Bool.and_eq_true_iff.mp e).2) (by rfl) (by first|assumption|decide +kernel) (by decide +kernel) ⟨rfl,rfl,rfl,rfl,rfl,by decide +kernel⟩ ?hw ?hc;case hw=>w_witness2
 case hc =>
  refine ck.walk (l:=PySem.Challenge.rw_nodeladder_k63_whole_labels) (K:=ck.Kp R0 PySem.Challenge.pw_nodeladder_k63_whole_labels) rfl rfl (λ w h Y=>oE Y) ?F;intro w mg fa h KX G fm;exact ck.all_mk KX G fm (ck.pL w) (ck.pM w)
