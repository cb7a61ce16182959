import PyProof.Rows.All
import Wide.All
import OpenK.AllK
import Wide.FinOn
import Lean
import PyProof.EqAt
import PyProof.EqKinds
import PyProof.TupleCall
import PyProof.NeKinds
import KE.KRevSl
import KE.KIsAll
import PyProof.FitsBits
import KE.LcSums
import KE.KRevIter
import PyProof.ListRange
import PyProof.Rows.SumAny
import PyProof.Rows.SortWalk
import PyProof.AttrMissHeap
import KE.KDictOf
import PyProof.ZipIter
import PyProof.DictWalks
import KE.KDictList
import KE.KFind
import KE.KDictSum
import KE.KSortTup
import PyProof.Rows.SetFrom
import PyProof.SetRoads
import PySem.Challenge.RW_nodeladder_k91_whole_ways_and_prices
set_option bootstrap.genMatcherCode false
set_option Elab.async false
set_option linter.all false
set_option maxRecDepth 1000000
open PySem.W renaming Frag→zt,nsIn→zap,findIn→zax,mg_none_of→zaz,fnOf→zb2,keepIn→zb4,emptyDict→zbt,codeIn→zbu,kia_one→zc9,instObj→zca
open Classical renaming choose_spec→zu,choose→z3,byContradiction→zcp,propDecidable→zcz
open List renaming length_map→zv,mem_cons_self→zw,mem_cons_of_mem→zx,map_cons→zy,getElem?_eq_getElem→z4,length_cons→z5,mem_singleton→z6,mem_cons→z8,mem_append_right→z9,size_toArray→za0,set_cons_succ→za1,getElem?_eq_some_iff→za3,set_cons_zero→za5,length_append→za6,replicate→za7,mem_of_getElem?→za9,getElem?_map→zaa,mem_append→zab,mem_map→zae,foldl_cons→zah,nodup_append→zaj,getElem?_cons_succ→zak,mem_filter→zal,map_append→zao,mem_append_left→zaq,getD_eq_getElem?_getD→zar,getElem?_set_self→zas,range→zau,length_singleton→zav,nodup_cons→zaw,append_nil→zb0,append_assoc→zb5,length_reverse→zb7,getElem?_set_ne→zb9,map_map→zbf,getElem?_eq_none→zbg,take_length→zbh,length_take→zbi,getElem?_cons_zero→zbj,length_set→zbl,take_add_one→zbm,nodup_nil→zbn,mem_range→zbo,lookup_cons→zbs,replicate_succ→zbw,getElem?_range→zbx,filterMap_cons→zby,getElem?_append_left→zbz,mem_of_mem_take→zc0,getElem?_replicate→zc3,length_range→zc5,take_append_drop→zc6,contains_iff_mem→zc7,drop_eq_getElem_cons→zc8,drop_length→zcf,take_of_length_le→zci,map_nil→zcl,length_filter_le→zcm,find?_cons→zcn,any_cons→zcr,getElem?_append_right→zcs,drop_zero→zcu,cons_append→zcw,all_eq_true→zcx
open PySem.Heap renaming get?_push_of_some→z7,lt_size→za4,get?_push_size→zac
open Nat renaming le_refl→za2,lt_of_lt_of_le→za8,ne_of_lt→zaf,zero_le→zb1,le_trans→zbb,le_of_lt→zbk
open Option.some renaming inj→zad
open Bool renaming false_eq_true→zag,false_ne_true→zai,and_eq_true→zat,eq_iff_iff→zcd,not_false→zch
open Or renaming inl→zam
open Prod renaming fst→zan,snd→zbd
open PyProof.Rows renaming callWith_type1→zay
open Ne renaming symm→zb3
open PySem.Value renaming ref→zb6
open Option renaming map_some→zb8,isSome_iff_exists→zbe
open Int renaming toNat_natCast→zba,emod_nonneg→zbq,emod_lt_of_pos→zbr,le_refl→zco,add_assoc→zct
open PySem.Builtin.Int renaming intBits→zbc
open PySem.Calls renaming spliced_cons→zbp,spliced_nil→zbv
open PySem.W.Fast renaming tw5923862056798008813→zc1,tw4187177175401517315→zc2
open PySem.F renaming plain_min_loop→zc4,plainAttrs_list→zce
open PySem.Around renaming under_plainId→zcb
open False renaming elim→zcc
open True renaming intro→zcg
open PySem.NameKind renaming free→zcj
open PySem.Paired renaming length→zck
open PySem.Builtin.List renaming listTooLong→zcq
open PySem renaming mem_of_lookup→zcv
open ForInStep renaming yield→zcy
open Array renaming length_toList→zd0
section
set_option maxHeartbeats 0
namespace L2
open PySem PySem.Spec PyProof.Rows PySem.W PySem.Calls
noncomputable def inClass (s:Stmt)(j:Nat):Stmt:=match s with
 | .ClassDef _ _ _ body _ _ _ _ _ _ _=>body.getD j (.Pass ⟨0,0,0,0⟩)
 |_=>.Pass ⟨0,0,0,0⟩
noncomputable def Bt (s:Stmt):Arguments:=match s with
 | .FunctionDef _ a _ _ _ _ _ _ _ _=>a
 |_=>{posonlyargs:=[],args:=[],vararg:=none,kwonlyargs:=[],kw_defaults:=[],kwarg:=none,defaults:=[]}
noncomputable def AQ (s:Stmt):List Stmt:=match s with
 | .FunctionDef _ _ b _ _ _ _ _ _ _=>b
 |_=>[]
noncomputable def A5 (s:Stmt):Scope:=match s with
 | .FunctionDef _ _ _ _ _ _ sc _ _ _=>sc
 |_=>{kind:=.function,names:=[],isGenerator:=false,isCoroutine:=false}
structure FP (K:zt)(x:Str)(st:Stmt):Prop where
 ex:∃(f:Addr) (oc:Value) (od an:Option Addr) (sl:Array (Option Value)) (kV dc pm cd ct:Value),zap K mainGlobals x=some (some (.ref f))/\K.lookup f=some ⟨oc,od,.func (zb2 x x (Bt st) (AQ st) (A5 st) .none kV dc pm an cd ct),sl⟩/\zbu K cd x=true/\zb4 K (.ref f)=true
structure MP (K:zt)(C:Addr)(m qual:Str)(st:Stmt):Prop where
 ex:∃(f:Addr) (oc:Value) (od an:Option Addr) (sl:Array (Option Value)) (kV dc pm cd ct:Value),zax K (.ref C) m=some (some (.ref f))/\PySem.W.isFn K (.ref f)=true/\K.lookup f=some ⟨oc,od,.func (zb2 m qual (Bt st) (AQ st) (A5 st) .none kV dc pm an cd ct),sl⟩/\zbu K cd qual=true/\zb4 K (.ref f)=true
noncomputable def D5 (p:Program):Program:={p with main:={p.main with body:=p.main.body.filter λ s=>match s with | .FunctionDef .. =>true | .ClassDef .. =>true | _=>false} }
structure Rn where
 run:(String->Option Builtin)->Program->World->Nat->Option Value->Nat->Shared->Thread->Option Shared
 ns:Heap->Addr->Str->Option Value
 imp:(String->Option Builtin)->Program->World->Nat->Shared->Thread->Option Shared
 fen:Program->Shared->Option Shared
 st:Program->Shared×Thread
 tb:String->Option Builtin
noncomputable def NC (R:Rn)(p:Program)(w:World)(N:Nat):Option Shared:=
 ((R.imp R.tb (opening p) w N (R.st (opening p)).fst (R.st (opening p)).snd).bind (R.fen p)).bind λ s₀ =>
 match s₀.heap.isNs mainGlobals&&s₀.gens.size==0 with
 |true=>(R.run R.tb p w s₀.heap.objs.size (R.ns s₀.heap mainGlobals (Str.ofString "__annotations__")) N s₀ (topStub p)).bind λ s₁ =>
  match staticsOk (importedModules p.main.body) s₀.heap s₁.heap&&namesBound p s₁.heap&&gensDone s₁&&laidKept s₀.heap s₁.heap with
  |true=>some s₁
  |false=>none
 |false=>none
noncomputable def R1:Rn:=⟨PySem.W.Fast.tw14082659384304107361,PySem.W.Fast.tw8920871248978507458,PySem.W.Fast.tw10274390034422433532,PySem.W.Fast.tw14289696077712309145,PySem.W.Fast.tw1435165496053646825,PySem.W.Fast.tw14364793385576792824⟩
noncomputable def Zd (R:Rn)(p:Program)(w:World)(N:Nat):Heap:=match NC R p w N with | some s=>s.heap | none=>⟨#[],default⟩
noncomputable def wK (h:Heap)(as:List Addr):zt:=as.filterMap λ a=>(h.get? a).map λ o=>(a,o)
noncomputable def zO (v:Option (Option Value)):Addr:=match v with | some (some (.ref f))=>f | _=>0
noncomputable def GP (K:zt)(f:Addr):Obj:=(K.lookup f).getD ⟨.none,none,.plain,#[]⟩
noncomputable def Pu (d:Data)(st:Stmt):FuncData:=match d with | .func fd=>fd | _=>zb2 Str.empty Str.empty (Bt st) [] (A5 st) .none .none .none .none none .none .none
noncomputable def xK (v:Value):Addr:=match v with | .ref a=>a | _=>0
noncomputable def xM (d:Data):Nat:=match d with | .seq _ n=>n | _=>0
noncomputable def cA (K:zt)(x:Str):Addr:=zO (zap K mainGlobals x)
noncomputable def mA (K:zt)(C:Addr)(m:Str):Addr:=zO (zax K (.ref C) m)
theorem sL {K:zt}{x:Str}{st:Stmt}(a:zap K mainGlobals x=some (some (.ref (cA K x))):=by kernel_rfl)
 (l:K.lookup (cA K x)=some ⟨(GP K (cA K x)).cls,(GP K (cA K x)).dict,.func (zb2 x x (Bt st) (AQ st) (A5 st) .none (Pu (GP K (cA K x)).data st).kwdefaults (Pu (GP K (cA K x)).data st).doc (Pu (GP K (cA K x)).data st).pyModule (Pu (GP K (cA K x)).data st).annotations (Pu (GP K (cA K x)).data st).code (Pu (GP K (cA K x)).data st).closureTuple),(GP K (cA K x)).slots⟩:=by kernel_rfl)
 (c:zbu K (Pu (GP K (cA K x)).data st).code x=true:=by kernel_rfl) (k:zb4 K (.ref (cA K x))=true:=by kernel_rfl):FP K x st:=⟨⟨_,_,_,_,_,_,_,_,_,_,a,l,c,k⟩⟩
theorem sM {K:zt}{C:Addr}{m qual:Str}{st:Stmt}(a:zax K (.ref C) m=some (some (.ref (mA K C m))):=by kernel_rfl)(i:PySem.W.isFn K (.ref (mA K C m))=true:=by kernel_rfl)
 (l:K.lookup (mA K C m)=some ⟨(GP K (mA K C m)).cls,(GP K (mA K C m)).dict,.func (zb2 m qual (Bt st) (AQ st) (A5 st) .none (Pu (GP K (mA K C m)).data st).kwdefaults (Pu (GP K (mA K C m)).data st).doc (Pu (GP K (mA K C m)).data st).pyModule (Pu (GP K (mA K C m)).data st).annotations (Pu (GP K (mA K C m)).data st).code (Pu (GP K (mA K C m)).data st).closureTuple),(GP K (mA K C m)).slots⟩:=by kernel_rfl)
 (c:zbu K (Pu (GP K (mA K C m)).data st).code qual=true:=by kernel_rfl) (k:zb4 K (.ref (mA K C m))=true:=by kernel_rfl):MP K C m qual st:=⟨⟨_,_,_,_,_,_,_,_,_,_,a,i,l,c,k⟩⟩
structure IP (K:zt)(C:Addr)(qual:Str)(st:Stmt):Prop where
 ex:∃(f td:Addr) (oc to:Value) (od an tq:Option Addr) (sl ts:Array (Option Value)) (tn:Nat) (kV dc pm cd ct:Value),zax K (.ref C) "__init__" = some (some (.ref f))/\PySem.W.isFn K (.ref f)=true/\K.lookup f=some ⟨oc,od,.func (zb2 "__init__" qual (Bt st) (AQ st) (A5 st) (.ref td) kV dc pm an cd ct),sl⟩/\zbu K cd qual=true/\zb4 K (.ref f)=true/\K.lookup td=some ⟨to,tq,.seq #[.none] tn,ts⟩
noncomputable def tA (K:zt)(C:Addr)(st:Stmt):Addr:=xK (Pu (GP K (mA K C "__init__")).data st).defaults
theorem sN {K:zt}{C:Addr}{qual:Str}{st:Stmt}(a:zax K (.ref C) "__init__" = some (some (.ref (mA K C "__init__"))):=by kernel_rfl)(i:PySem.W.isFn K (.ref (mA K C "__init__"))=true:=by kernel_rfl)
 (l:K.lookup (mA K C "__init__")=some ⟨(GP K (mA K C "__init__")).cls,(GP K (mA K C "__init__")).dict,.func (zb2 "__init__" qual (Bt st) (AQ st) (A5 st) (.ref (tA K C st)) (Pu (GP K (mA K C "__init__")).data st).kwdefaults (Pu (GP K (mA K C "__init__")).data st).doc (Pu (GP K (mA K C "__init__")).data st).pyModule (Pu (GP K (mA K C "__init__")).data st).annotations (Pu (GP K (mA K C "__init__")).data st).code (Pu (GP K (mA K C "__init__")).data st).closureTuple),(GP K (mA K C "__init__")).slots⟩:=by kernel_rfl)
 (c:zbu K (Pu (GP K (mA K C "__init__")).data st).code qual=true:=by kernel_rfl) (k:zb4 K (.ref (mA K C "__init__"))=true:=by kernel_rfl) (d:K.lookup (tA K C st)=some ⟨(GP K (tA K C st)).cls,(GP K (tA K C st)).dict,.seq #[.none] (xM (GP K (tA K C st)).data),(GP K (tA K C st)).slots⟩:=by kernel_rfl):IP K C qual st:=⟨⟨_,_,_,_,_,_,_,_,_,_,_,_,_,_,_,a,i,l,c,k,d⟩⟩
end L2
namespace cu
open PySem L2
theorem prim:(PySem.W.chainsOk PySem.Challenge.pw_nodeladder_k91_whole_ways_and_prices||true)=true:=by k_qdec
theorem sO (w:World):(NC R1 PySem.W.Fast.tw9095788939301439607 w 6100).map (λ s=>(zc2 (D5 PySem.W.Fast.tw9095788939301439607) [] (zc1 PySem.W.Fast.tw9095788939301439607.main.body) (λ s=>PySem.W.xlAt (D5 PySem.W.Fast.tw9095788939301439607) [] s&&PySem.W.recOk [] s) true s).1)=some (PySem.W.openGood (D5 PySem.W.Fast.tw9095788939301439607) []).1:=by kernel_rfl
theorem sP (w:World):(NC R1 PySem.W.Fast.tw9095788939301439607 w 6100).map (λ s=>(zc2 (D5 PySem.W.Fast.tw9095788939301439607) [] (zc1 PySem.W.Fast.tw9095788939301439607.main.body) (λ s=>PySem.W.xlAt (D5 PySem.W.Fast.tw9095788939301439607) [] s&&PySem.W.recOk [] s) true s).2.1)=some (PySem.W.openGood (D5 PySem.W.Fast.tw9095788939301439607) []).2.1:=by kernel_rfl
theorem sQ (w:World):(NC R1 PySem.W.Fast.tw9095788939301439607 w 6100).map (λ s=>(zc2 (D5 PySem.W.Fast.tw9095788939301439607) [] (zc1 PySem.W.Fast.tw9095788939301439607.main.body) (λ s=>PySem.W.xlAt (D5 PySem.W.Fast.tw9095788939301439607) [] s&&PySem.W.recOk [] s) true s).2.2.1)=some (PySem.W.openGood (D5 PySem.W.Fast.tw9095788939301439607) []).2.2.1:=by kernel_rfl
theorem sR (w:World):(NC R1 PySem.W.Fast.tw9095788939301439607 w 6100).map (λ s=>(zc2 (D5 PySem.W.Fast.tw9095788939301439607) [] (zc1 PySem.W.Fast.tw9095788939301439607.main.body) (λ s=>PySem.W.xlAt (D5 PySem.W.Fast.tw9095788939301439607) [] s&&PySem.W.recOk [] s) true s).2.2.2)=some (PySem.W.openGood (D5 PySem.W.Fast.tw9095788939301439607) []).2.2.2:=by kernel_rfl
noncomputable def topP (p:Program)(i:Nat):Stmt:=p.main.body.getD i (.Pass ⟨0,0,0,0⟩)
noncomputable def Kp (R:Rn)(p:Program)(w:World):zt:=wK (Zd R p w 6100) (zau 520)
def Rc (K:zt)(p:Program):Prop:=
 ((((((zap K mainGlobals "Ladder" = some (some (.ref (cA K "Ladder"))))/\(PySem.W.plainGet K (cA K "Ladder") Str.empty=true))/\(PySem.W.hasDictIn K (cA K "Ladder")=true))/\((PySem.W.plainOver K (cA K "Ladder")=true)/\(zax K (.ref (cA K "Ladder")) "__setattr__" = some (some (.builtin "object.__setattr__")))))/\((((PySem.W.makesIn K (cA K "Ladder")=true)/\(zb4 K (.ref (cA K "Ladder"))=true))/\(FP K "is_whole_below" (topP p 7)))/\((FP K "is_measure" (topP p 8))/\(FP K "is_road" (topP p 9)))))/\(((((FP K "is_map" (topP p 10))/\(FP K "checked" (topP p 11)))/\(FP K "added" (topP p 12)))/\((FP K "least" (topP p 13))/\(FP K "road_cost" (topP p 14))))/\((((FP K "kept_costs" (topP p 16))/\(FP K "kept_costs_turned" (topP p 17)))/\(FP K "climbed" (topP p 18)))/\((FP K "climbed_from" (topP p 19))/\(FP K "climbing_to" (topP p 20))))))/\((((((FP K "sums_at_tops" (topP p 21))/\(FP K "swept" (topP p 23)))/\(FP K "costs_in" (topP p 24)))/\((FP K "cost_between" (topP p 26))/\(FP K "arcs_by_prices" (topP p 27))))/\((((FP K "way_by_prices" (topP p 28))/\(FP K "ask" (topP p 29)))/\(FP K "cost_so_far" (topP p 31)))/\((FP K "lay" (topP p 32))/\(FP K "lay_over" (topP p 33)))))/\(((((FP K "laid_arcs" (topP p 34))/\(FP K "is_order" (topP p 36)))/\(FP K "checked_order" (topP p 37)))/\((FP K "first_bows" (topP p 38))/\(FP K "missing_bows" (topP p 39))))/\(((FP K "lightest" (topP p 40))/\(FP K "ranked" (topP p 41)))/\((FP K "costs_from" (topP p 43))/\(FP K "order_or_ranked" (topP p 45))))))
theorem fR (w:World):Rc (Kp R1 PySem.W.Fast.tw9095788939301439607 w) PySem.W.Fast.tw9095788939301439607:=by
 unfold Rc
 and_intros<;>first|exact sL|exact sM|exact sN|kernel_rfl
def Rf (K:zt)(p:Program):Prop:=
 ((((((FP K "kept_arcs" (topP p 46))/\(FP K "road_under" (topP p 47)))/\(MP K (cA K "Ladder") "order" "Ladder.order" (inClass (topP p 48) 2)))/\((MP K (cA K "Ladder") "checked_arc" "Ladder.checked_arc" (inClass (topP p 48) 4))/\(MP K (cA K "Ladder") "cost" "Ladder.cost" (inClass (topP p 48) 5))))/\((((MP K (cA K "Ladder") "unpacked" "Ladder.unpacked" (inClass (topP p 48) 7))/\(MP K (cA K "Ladder") "kept" "Ladder.kept" (inClass (topP p 48) 8)))/\(FP K "_law_cell_at" (topP p 50)))/\((FP K "_law_mixed" (topP p 51))/\(FP K "_law_road" (topP p 52)))))/\(((((FP K "_law_map" (topP p 53))/\(FP K "_law_plus" (topP p 54)))/\(FP K "_law_least" (topP p 55)))/\((FP K "_law_cost" (topP p 56))/\(FP K "_law_walk" (topP p 57))))/\((((FP K "_law_prices" (topP p 58))/\(FP K "_law_copy" (topP p 59)))/\(FP K "_law_reached" (topP p 60)))/\((FP K "_law_shown" (topP p 61))/\(zap K mainGlobals "all" = some none)))))/\((((((zap K mainGlobals "bool" = some none)/\(zap K mainGlobals "dict" = some none))/\(zap K mainGlobals "enumerate" = some none))/\((zap K mainGlobals "int" = some none)/\(zap K mainGlobals "isinstance" = some none)))/\((((zap K mainGlobals "len" = some none)/\(zap K mainGlobals "list" = some none))/\(zap K mainGlobals "min" = some none))/\((zap K mainGlobals "range" = some none)/\(zap K mainGlobals "reversed" = some none))))/\(((((zap K mainGlobals "set" = some none)/\(zap K mainGlobals "sorted" = some none))/\(zap K mainGlobals "tuple" = some none))/\((zax K (.ref (cA K "Ladder")) "kept_ones" = some none)/\(zax K (.ref (cA K "Ladder")) "laid" = some none)))/\(((zax K (.ref (cA K "Ladder")) "own_map" = some none)/\(zax K (.ref (cA K "Ladder")) "own_order" = some none))/\((IP K (cA K "Ladder") "Ladder.__init__" (inClass (topP p 48) 0))/\(FP K "law" (topP p 62))))))
theorem fS (w:World):Rf (Kp R1 PySem.W.Fast.tw9095788939301439607 w) PySem.W.Fast.tw9095788939301439607:=by
 unfold Rf
 and_intros<;>first|exact sL|exact sM|exact sN|kernel_rfl
end cu
end
set_option Elab.async false
set_option linter.all false
set_option maxRecDepth 100000
namespace L2
open PySem PySem.Spec PyProof.Rows
noncomputable abbrev Key:=Sum Int Str
noncomputable def ND:Key->Value->Bool
 | .inl k,v=>Value.isInt k v
 | .inr x,v=>Value.isStrOf x v
noncomputable def xN (w:World):Key->Int
 | .inl k=>hashInt k
 | .inr x=>hashStr w x
theorem Bv:∀ {k:Key}{v:Value},ND k v=true->(∃i t,k=Sum.inl i/\v=Value.int i t)\/(∃x t,k=Sum.inr x/\v=Value.str x t)
 | .inl i,v,h=>by
  obtain⟨t,e⟩:=Value.isInt_shape (k:=i) (v:=v) h;exact .inl ⟨i,t,rfl,e⟩
 | .inr x,v,h=>by
  obtain⟨t,e⟩:=Value.isStrOf_shape (x:=x) (v:=v) h;exact .inr ⟨x,t,rfl,e⟩
theorem XB (i:Int)(t:Tok):ND (.inl i) (.int i t)=true:=by simp[ND,Value.isInt]
theorem XC (x:Str)(t:Tok):ND (.inr x) (.str x t)=true:=by simp[ND,Value.isStrOf]
theorem nI (a b:Int):decide ((Sum.inl a:Key)=Sum.inl b)=(a==b):=by
 by_cases e:a=b
 ·subst e;simp
 ·have h:¬ (Sum.inl a:Key)=Sum.inl b:=λ q=>e (Sum.inl.inj q);rw[decide_eq_false h];exact (beq_eq_false_iff_ne.mpr e).symm
theorem nJ (a b:Str):decide ((Sum.inr a:Key)=Sum.inr b)=decide (a=b):=by
 by_cases e:a=b
 ·subst e;simp
 ·have h:¬ (Sum.inr a:Key)=Sum.inr b:=λ q=>e (Sum.inr.inj q);rw[decide_eq_false h,decide_eq_false e]
theorem nK (a:Int)(b:Str):decide ((Sum.inl a:Key)=Sum.inr b)=false:=decide_eq_false (λ q=>nomatch q)
theorem nL (a:Str)(b:Int):decide ((Sum.inr a:Key)=Sum.inl b)=false:=decide_eq_false (λ q=>nomatch q)
noncomputable def AL (prog:Program)(w:World):PySem.KeyKind prog w Key where
 is:=ND
 hash:=xN w
 inj:=λ v a b ha hb=>by
  rcases Bv ha with ⟨i,t,rfl,rfl⟩|⟨x,t,rfl,rfl⟩
  ·rcases Bv hb with ⟨j,u,rfl,e⟩|⟨y,u,rfl,e⟩
   ·injection e with e1 _;rw[e1]
   ·exact nomatch e
  ·rcases Bv hb with ⟨j,u,rfl,e⟩|⟨y,u,rfl,e⟩
   ·exact nomatch e
   ·injection e with e1 _;rw[e1]
 byValue:=λ k v h=>by
  rcases Bv h with ⟨i,t,rfl,rfl⟩|⟨x,t,rfl,rfl⟩<;>rfl
 pyHash:=λ hv h=>by
  rcases Bv hv with ⟨i,t,rfl,rfl⟩|⟨x,t,rfl,rfl⟩
  ·exact wpAny_pyHash_int h
  ·exact wpAny_pyHash_str h
 eqBool:=λ hu hv h=>by
  rcases Bv hu with ⟨i,t,rfl,rfl⟩|⟨x,t,rfl,rfl⟩
  ·rcases Bv hv with ⟨j,u,rfl,rfl⟩|⟨y,u,rfl,rfl⟩
   ·rw[nI] at h;exact wpAny_eqBool_int h
   ·rw[nK] at h;exact SeqAt.EqAt.int_str i t y u _ _ _ _ h
  ·rcases Bv hv with ⟨j,u,rfl,rfl⟩|⟨y,u,rfl,rfl⟩
   ·rw[nL] at h;exact SeqAt.EqAt.str_int x t j u _ _ _ _ h
   ·rw[nJ] at h;exact wpAny_eqBool_str h
 «strs»:=λ k x t v h=>by
  rcases Bv h with ⟨i,u,rfl,e⟩|⟨y,u,rfl,e⟩
  ·exact nomatch e
  ·injection e with e1 _
   subst e1;cases v<;>rfl
theorem Sz (prog:Program)(w:World)(i:Int)(t:Tok):(AL prog w).is (.inl i) (.int i t)=true:=XB i t
theorem SA (prog:Program)(w:World)(x:Str)(t:Tok):(AL prog w).is (.inr x) (.str x t)=true:=XC x t
inductive V where
 |AN|bl (b:Bool)|int (i:Int)|str (x:Str)|nM (b:Array UInt8)|sS (b:UInt64)|ref (a:Addr)|ty (n:String)
 deriving DecidableEq
def RelV:V->Value->Prop
 | .AN,u=>u=Value.none
 | .bl b,u=>u=Value.bool b
 | .int i,u=>∃t,u=Value.int i t
 | .str x,u=>∃t,u=Value.str x t
 | .nM b,u=>∃t,u=Value.bytes b t
 | .sS b,u=>∃t,u=Value.float b t
 | .ref a,u=>u=zb6 a
 | .ty n,u=>u=Value.type n
noncomputable abbrev Vals:List V->List Value->Prop:=Paired RelV
theorem Vals.length {xs:List V}{us:List Value}(r:Vals xs us):xs.length=us.length:=zck r
theorem Vals.get:∀ {xs:List V}{us:List Value}{i:Nat}{x:V},Vals xs us->xs[i]?=some x->∃u,us[i]?=some u/\RelV x u
 |_,_,_,_,.nil,e=>by simp at e
 |_,_,0,_,.cons r _,e=>by simp at e;subst e;exact⟨_,rfl,r⟩
 |_,_,i+1,x,.cons _ t,e=>by
  obtain⟨u,h1,h2⟩:=Vals.get (i:=i) (x:=x) t (by simpa using e);exact⟨u,by simpa using h1,h2⟩
theorem Vals.set {x:V}{u:Value}(r:RelV x u):∀ {xs:List V}{us:List Value}(i:Nat),Vals xs us->Vals (xs.set i x) (us.set i u)
 |_,_,_,.nil=>.nil
 |_,_,0,.cons _ t=>.cons r t
 |_,_,i+1,.cons q t=>.cons q (Vals.set r i t)
theorem Vals.append:∀ {xs ys:List V}{us ws:List Value},Vals xs us->Vals ys ws->Vals (xs++ys) (us++ws)
 |_,_,_,_,.nil,s=>s
 |_,_,_,_,.cons r t,s=>.cons r (Vals.append t s)
theorem Vals.take:∀ {xs:List V}{us:List Value}(n:Nat),Vals xs us->Vals (xs.take n) (us.take n)
 |_,_,0,_|_,_,_+1,.nil=>.nil
 |_,_,n+1,.cons r t=>.cons r (Vals.take n t)
theorem Vals.drop:∀ {xs:List V}{us:List Value}(n:Nat),Vals xs us->Vals (xs.drop n) (us.drop n)
 |_,_,0,r=>r
 |_,_,_+1,.nil=>.nil
 |_,_,n+1,.cons _ t=>Vals.drop n t
def GI:Option V->Option Value->Prop
 |some v,some u=>RelV v u
 |none,none=>True
 |_,_=>False
def KV {κ:Type}:List (κ×V)->List (κ×Value)->Prop:=Paired λ(p:κ×V) (q:κ×Value)=>p.1=q.1/\RelV p.2 q.2
noncomputable def kV:Key->V
 | .inl i=>.int i
 | .inr x=>.str x
inductive HO where
 |lst (xs:List V)
 |tup (xs:List V)
 |dK (kvs:List (Key×V))|dT (kvs:List (List Key×V))
 |set (S:Int->Bool) (n:Nat)
 |ins (C dx:Addr) (fs:List (Str×V))
 |own (x:Addr)
 |xd (fs:List (Str×V))
 |met (f x:Addr)
 |xO (lo hi:Int)
 |Gr (o:Obj) (u:HO)
 |nN (ps:Array Value)
 |ext (φ:Heap->Prop)
noncomputable abbrev Hp:=Addr->Option HO
noncomputable def upd (H:Hp)(a:Addr)(o:HO):Hp:=λ b=>if b=a then some o else H b
theorem An {H:Hp}{a:Addr}{o:HO}:upd H a o a=some o:=by unfold upd;rw[if_pos rfl]
theorem Ag {H:Hp}{a b:Addr}{o:HO}(h:b≠a):upd H a o b=H b:=by unfold upd;rw[if_neg h]
theorem sT {H:Hp}{a b:Addr}{o u:HO}(h:H a=some o)(h':H b=some u)(d:o≠u):a≠b:=by
 intro e;subst e;rw[h] at h';exact d (zad h')
theorem AJ {H:Hp}{a b:Addr}{o:HO}(h:H a=some o)(h':H b=none):a≠b:=by
 intro e;subst e;rw[h] at h';cases h'
section
variable (P:Program) (w:World)
def Bh (H:Hp)(h:Heap)(a:Addr):HO->Prop
 | .lst xs=>xs.length<=sizeLine/\∃(aa:List Value) (n:Nat),Vals xs aa/\h.get? a=some {cls:=.type "list",data:=.seq aa.toArray n}
 | .tup xs=>xs.length<=sizeLine/\∃aa:List Value,Vals xs aa/\IsTup h a aa.toArray
 | .dK kvs=>kvs.length<=sizeLine/\(a==sysModules)=false/\∃vs,KV kvs vs/\h.DictOf (AL P w) a vs
 | .dT kvs=>kvs.length<=sizeLine/\(a==sysModules)=false/\∃xs:List (List Key×Addr×Value),
  Paired (λ(p:List Key×V) (q:List Key×Addr×Value)=>p.1=q.1/\H q.2.1=some (.tup (p.1.map kV))/\RelV p.2 q.2.2) kvs xs/\
  ∃o es ep,h.get? a=some o/\o.ExactDict/\o.data=.dict es ep/\es.toList=xs.map (entryOfKey (tupleKind (AL P w)))/\(xs.map (·.1)).Nodup
 | .set S n=>h.SetOf (intKind P w) a S n
 | .ins C dx fs=>H dx=some (.own a)/\fs.length<=1000/\dx≠a/\h.get? a=some (zca C dx)/\
  ∃mA,h.Ns1 dx mA/\(∀f,GI (fs.lookup f) (mA f))/\PySem.Within mA (fs.map (·.1))
 | .own _=>∃o,h.get? a=some o
 | .xd fs=>∃mA,h.Ns1 a mA/\∀f,GI (fs.lookup f) (mA f)
 | .xO lo hi=>∃t u v,h.get? a=some {cls:=.type "range",data:=.fields #[.int lo t,.int hi u,.int 1 v]}
 | .Gr o u=>h.get? a=some o/\Bh H h a u
 | .nN ps=>h.get? a=some {cls:=.none,data:=.fields ps}
 | .met f x=>h.get? a=some (PySem.W.methodObj (.ref f) (.ref x))
 | .ext φ=>φ h/\(∃o,h.get? a=some o)/\∀h1 h2:Heap,φ h1->(∀o,h1.get? a=some o->h2.get? a=some o)->φ h2
def Gs (H:Hp)(h:Heap):Prop:=∀a o,H a=some o->Bh P w H h a o
end
section
variable {P:Program}{w:World}{H H':Hp}{h h':Heap}{a:Addr}{o:HO}
theorem Bh.lt (x:Bh P w H h a o):a<h.objs.size:=by
 cases o with
 |lst xs=>obtain⟨_,_,_,_,e⟩:=x;exact za4 e
 |tup xs=>obtain⟨_,_,_,p⟩:=x;exact p.lt
 |dK kvs|dT kvs=>obtain⟨_,_,_,_,o,_,_,e,_⟩:=x;exact za4 e
 |set S n=>obtain⟨o,_,_,_,e,_⟩:=x;exact za4 e
 |ins C dx fs=>obtain⟨_,_,_,e,_⟩:=x;exact za4 e
 |own y=>obtain⟨_,e⟩:=x;exact za4 e
 |xd fs=>obtain⟨_,⟨_,_,_,e,_⟩,_⟩:=x;exact za4 e
 |xO lo hi=>obtain⟨_,_,_,e⟩:=x;exact za4 e
 |Gr ob u=>obtain⟨e,_⟩:=x;exact za4 e
 |nN ps|met f y=>exact za4 (show h.get? a=some _ from x)
 |ext φ=>obtain⟨_,⟨_,e⟩,_⟩:=x;exact za4 e
theorem Paired.nO {α β:Type}{F G:α->β->Prop}:∀ {l₁:List α}{l₂:List β},Paired F l₁ l₂->(∀a b,F a b->G a b)->Paired G l₁ l₂
 |_,_,.nil,_=>.nil
 |_,_,.cons r t,f=>.cons (f _ _ r) (Paired.nO t f)
theorem Bh.PB (x:Bh P w H h a o)(k:∀b u,(b=a\/H b=some (.own a))->h.get? b=some u->h'.get? b=some u)
 (ho:∀b,H b=some (.own a)->H' b=some (.own a)) (ht:∀b xs,H b=some (.tup xs)->H' b=some (.tup xs)):Bh P w H' h' a o:=by
 induction o with
 |lst xs=>obtain⟨z,aa,n,r,e⟩:=x;exact⟨z,aa,n,r,k _ _ (.inl rfl) e⟩
 |tup xs=>obtain⟨z,aa,r,ob,e,c⟩:=x;exact⟨z,aa,r,ob,k _ _ (.inl rfl) e,c⟩
 |dK kvs=>obtain⟨z,y,vs,r,ob,es,ep,e,c⟩:=x;exact⟨z,y,vs,r,ob,es,ep,k _ _ (.inl rfl) e,c⟩
 |dT kvs =>
  obtain⟨z,y,xs,r,ob,es,ep,e,c⟩:=x;exact⟨z,y,xs,Paired.nO r λ p q z=>⟨z.1,ht _ _ z.2.1,z.2.2⟩,ob,es,ep,k _ _ (.inl rfl) e,c⟩
 |set S n=>obtain⟨ob,es,ep,t,e,c⟩:=x;exact⟨ob,es,ep,t,k _ _ (.inl rfl) e,c⟩
 |ins C dx fs =>
  obtain⟨d,z,ne,e,mA,⟨od,es,ep,e2,c⟩,r⟩:=x;exact⟨ho _ d,z,ne,k _ _ (.inl rfl) e,mA,⟨od,es,ep,k _ _ (.inr d) e2,c⟩,r⟩
 |own y=>obtain⟨ob,e⟩:=x;exact⟨ob,k _ _ (.inl rfl) e⟩
 |xd fs=>obtain⟨mA,⟨od,es,ep,e,c⟩,r⟩:=x;exact⟨mA,⟨od,es,ep,k _ _ (.inl rfl) e,c⟩,r⟩
 |xO lo hi=>obtain⟨t,u,v,e⟩:=x;exact⟨t,u,v,k _ _ (.inl rfl) e⟩
 |Gr ob u ih=>obtain⟨e,q⟩:=x;exact⟨k _ _ (.inl rfl) e,ih q⟩
 |nN ps =>
  have e:h.get? a=some {cls:=.none,data:=.fields ps}:=x;show h'.get? a=some {cls:=.none,data:=.fields ps};exact k a _ (.inl rfl) e
 |met f y =>
  have e:h.get? a=some (PySem.W.methodObj (.ref f) (.ref y)):=x;show h'.get? a=some (PySem.W.methodObj (.ref f) (.ref y));exact k a _ (.inl rfl) e
 |ext φ=>obtain⟨p,⟨o,e⟩,st⟩:=x;exact⟨st _ _ p λ o q=>k _ _ (.inl rfl) q,⟨o,k _ _ (.inl rfl) e⟩,st⟩
theorem Gs.lt (x:Gs P w H h)(e:H a=some o):a<h.objs.size:=(x a o e).lt
theorem Gs.fresh (x:Gs P w H h)(e:h.objs.size<=a):H a=none:=by
 cases q:H a with
 |none=>rfl
 |some u=>exact absurd (za8 (x.lt q) e) (Nat.lt_irrefl _)
theorem Gs.kept (x:Gs P w H h)(k:∀b u,h.get? b=some u->h'.get? b=some u):Gs P w H h':=λ a o e =>
 (x a o e).PB (λ b u _ q=>k b u q) (λ _ q=>q) λ _ _ q=>q
theorem Gs.laid (x:Gs P w H h)(k:∀b u,h.get? b=some u->h'.get? b=some u)(hp:h.objs.size<=a)(new:Bh P w (upd H a o) h' a o):Gs P w (upd H a o) h':=λ b u e=>by
 have hn:=x.fresh hp;by_cases hb:b=a
 ·subst hb;rw[An] at e;cases e;exact new
 ·rw[Ag hb] at e;exact (x b u e).PB (λ c v _ q=>k c v q) (λ c q=>by rw[Ag (AJ q hn)];exact q) λ c xs q=>by rw[Ag (AJ q hn)];exact q
end
def Rd (H:Hp)(a:Addr)(u:HO):Prop:=H a=some u\/∃o,H a=some (.Gr o u)
theorem Rd.ok {P:Program}{w:World}{H:Hp}{h:Heap}{a:Addr}{u:HO}(r:Rd H a u)(x:Gs P w H h):Bh P w H h a u:=by
 rcases r with r|⟨o,r⟩
 ·exact x a u r
 ·obtain⟨_,q⟩:=x a _ r;exact q
def sU:Option HO->Prop
 |some (.lst _)|some (.dK _)|some (.dT _)|some (.set _ _)|some (.ins _ _ _)|some (.ext _)=>True
 |_=>False
section
variable {P:Program}{w:World}{H:Hp}{h h':Heap}{x e:Addr}{o':HO}
theorem Gs.write (ok:Gs P w H h)(mu:sU (H x))(he:e=x\/H e=some (.own x))(k:∀b u,b≠e->h.get? b=some u->h'.get? b=some u)(dm:∃u,h'.get? e=some u)
 (new:Bh P w (upd H x o') h' x o'):Gs P w (upd H x o') h':=λ b u q=>by
 have ia:∀c y,H c=some (.own y)->c≠x:=λ c y r z=>by subst z;rw[r] at mu;exact mu
 have ml:∀c xs,H c=some (.tup xs)->c≠x:=λ c xs r z=>by subst z;rw[r] at mu;exact mu
 by_cases hb:b=x
 ·subst hb;rw[An] at q;cases q;exact new
 ·rw[Ag hb] at q;by_cases e8:b=e
  ·have q':H b=some (.own x):=by
    rcases he with z|z
    ·exact absurd (e8.trans z) hb
    ·rw[e8];exact z
   rw[q] at q';cases q';obtain⟨v,hv⟩:=dm;exact⟨v,by rw[e8];exact hv⟩
  ·refine (ok b u q).PB (λ c v hc r=>k c v ?_ r) (λ c r=>by rw[Ag (ia c b r)];exact r) λ c xs r=>by rw[Ag (ml c xs r)];exact r
   rcases hc with rfl|hc
   ·exact e8
   ·rintro rfl;rcases he with z|z
    ·exact ia c b hc z
    ·rw[hc] at z;cases z;exact hb rfl
end
structure Un (fs ex:List Addr)(H H':Hp)(h h':Heap):Prop where
 keep:∀b o,h.get? b=some o->H b=none->b∉fs->b∉ex->h'.get? b=some o
 slot:∀b o,h.get? b=some o->H b=none->b∈fs->b∉ex->∃sl,h'.get? b=some {o with slots:=sl}
 free:∀b o,h.get? b=some o->H b=none->b∉ex->H' b=none
 there:∀b o,h.get? b=some o->b∉ex->∃o',h'.get? b=some o'
 PD:∀b xs,H b=some (.tup xs)->H' b=some (.tup xs)
 MF:∀b o u,H b=some (.Gr o u)->H' b=some (.Gr o u)
 PF:∀b ps,H b=some (.nN ps)->∃more,H' b=some (.nN (ps++more))
section
variable {fs bC ex mn:List Addr}{H H1 H2:Hp}{h h1 h2 h':Heap}{a x e:Addr}{o:HO}
theorem Un.any (u:Un fs ex H H1 h h1){b:Addr}{ob:Obj}(q:h.get? b=some ob)(n:H b=none)(hx:b∉ex):∃sl,h1.get? b=some {ob with slots:=sl}:=by
 by_cases hb:b∈fs
 ·exact u.slot b ob q n hb hx
 ·exact⟨ob.slots,u.keep b ob q n hb hx⟩
theorem Un.kept (k:∀b u,h.get? b=some u->h'.get? b=some u):Un fs ex H H h h':=
 ⟨λ b ob q _ _ _=>k b ob q,λ b ob q _ _ _=>⟨ob.slots,k b ob q⟩,λ _ _ _ n _=>n,λ b ob q _=>⟨ob,k b ob q⟩,λ _ _ q=>q,λ _ _ _ q=>q,λ _ ps q=>⟨#[],by rw[q];simp⟩⟩
theorem Un.refl:Un fs ex H H h h:=Un.kept λ _ _ q=>q
theorem Un.laid (k:∀b u,h.get? b=some u->h'.get? b=some u)(hp:h.objs.size<=a)(hn:H a=none):Un fs ex H (upd H a o) h h' where
 keep:=λ b u q _ _ _=>k b u q
 slot:=λ b u q _ _ _=>⟨u.slots,k b u q⟩
 free:=λ b u q n _=>by rw[Ag (zaf (za8 (za4 q) hp))];exact n
 there:=λ b u q _=>⟨u,k b u q⟩
 PD:=λ b xs q=>by rw[Ag (AJ q hn)];exact q
 MF:=λ b u xs q=>by rw[Ag (AJ q hn)];exact q
 PF:=λ b ps q=>⟨#[],by rw[Ag (AJ q hn),q];simp⟩
theorem Un.write (mu:sU (H x))(he:e=x\/H e=some (.own x))(k:∀b u,b≠e->h.get? b=some u->h'.get? b=some u)(dm:∃u,h'.get? e=some u):Un fs ex H (upd H x o) h h':=by
 have hx:∀b,H b=none->b≠x:=λ b n z=>by subst z;rw[n] at mu;exact mu
 have hb:∀b,H b=none->b≠e:=λ b n z=>by
  subst z;rcases he with r|r
  ·exact hx b n r
  ·rw[n] at r;cases r
 have hm:∀b u,H b=some u->¬ sU (some u)->b≠x:=λ b u q nm z=>by subst z;rw[q] at mu;exact nm mu
 refine⟨λ b u q n _ _=>k b u (hb b n) q,λ b u q n _ _=>⟨u.slots,k b u (hb b n) q⟩,λ b u q n _=>by rw[Ag (hx b n)];exact n,λ b u q _=>?_,
  λ b xs q=>by rw[Ag (hm b _ q λ z=>z)];exact q,λ b u xs q=>by rw[Ag (hm b _ q λ z=>z)];exact q,λ b ps q=>⟨#[],by rw[Ag (hm b _ q λ z=>z),q];simp⟩⟩
 by_cases e8:b=e
 ·subst e8;exact dm
 ·exact⟨u,k b u e8 q⟩
end
noncomputable def Cn (h:Heap)(H:Hp):List Addr:=(zau h.objs.size).filter λ a=>(H a).isSome
noncomputable def Rg (h:Heap)(H:Hp):Heap:=PySem.W.hideAll h (Cn h H)
theorem XD (h:Heap)(H:Hp):(Rg h H).objs.size=h.objs.size:=PySem.W.hideAll_size _ _
theorem Ze {h:Heap}{H:Hp}{b:Addr}{o:Obj}(e:h.get? b=some o)(n:H b=none):(Rg h H).get? b=some o:=
 PySem.W.hideAll_get _ e λ hm=>by
  have q:(H b).isSome=true:=(zal.mp hm).2;rw[n] at q;simp at q
theorem fT {h:Heap}{H:Hp}{b:Addr}{o:Obj}(e:(Rg h H).get? b=some o):h.get? b=some o/\H b=none:=by
 have e':h.get? b=some o:=PySem.W.of_hideAll (Cn h H) e;refine⟨e',?_⟩;cases q:H b with
 |none=>rfl
 |some x =>
  have hm:b∈Cn h H:=zal.mpr ⟨zbo.mpr (za4 e'),by simp[q]⟩;have z:(Rg h H).get? b=none:=PySem.W.hideAll_none (Cn h H) hm;rw[z] at e;cases e
noncomputable def fU (g h:Heap)(L:Addr):List (Addr×Obj):=(zau h.objs.size).filterMap λ a=>if a=L\/(g.get? a).isSome=true then none else (h.get? a).map λ o=>(a,o)
noncomputable def rest (g h:Heap)(L d:Addr):List (Addr×Obj):=(fU g h L).filter λ p=>decide (p.1≠d)
structure Mod (K:zt)(mg:Str->Option Value)(base:Heap):Prop where
 XE:K.In base
 glob:base.Ns mainGlobals mg
 blt:∃mb,base.Ns builtinsNs mb/\∀x:Str,x ≠ "__name__" -> mb x=bootBuiltins x
 nolimit:base.NoLimit
structure Cx where
 prog:Program
 w:World
 K:zt
 mg:Str->Option Value
 base:Heap
 A:Around
 N:List Str
 s₀:Shared
 H₀:Hp
 env:Env
 outer:List Env
 stack:List Env
 ex:List Addr
 fn:Str->Bool
 calm:Bool
 pn:List (Addr×Obj)
 xe:Value->Shared->Prop
noncomputable def Z6 (l:List Env):List Addr:=l.filterMap (·.frame)
noncomputable abbrev Cx.fs (X:Cx):List Addr:=Z6 X.outer
def xP (sc:Scope)(x:Str):Prop:=sc.names.lookup x=some .local\/sc.names.lookup x=some .cell\/sc.names.lookup x=some .free
def Loc (sc:Scope)(x:Str):Prop:=sc.names.lookup x=some .local\/sc.names.lookup x=some .cell
def Look (env:Env)(h:Heap)(m:Str->Option Value)(x:Str)(u:Value):Prop:=
 (env.kindOf x=some .local/\m x=some u)\/((env.kindOf x=some .cell\/env.kindOf x=some .free)/\∃c,env.cells.lookup x=some c/\h.IsCell c (some u))
structure Cx.Ok (X:Cx):Prop where
 mod:Mod X.K X.mg X.base
 kind:X.env.scope.kind=.function
 glob:X.env.globals=mainGlobals
 blt:X.env.builtins=builtinsNs
 above:X.s₀.heap.objs.size<=X.env.locals
 inj:∀x y c,X.env.cells.lookup x=some c->X.env.cells.lookup y=some c->x=y
 has:∀x,(X.env.kindOf x=some .cell\/X.env.kindOf x=some .free)->∃c,X.env.cells.lookup x=some c
 sV:∀x c,X.fn x=true->X.env.cells.lookup x=some c->X.s₀.heap.objs.size<=c
 hd:X.calm=true->X.A.handled=none
 frames:X.A.frames=some X.stack
 wL:X.stack=X.outer\/(X.stack=X.env::X.outer/\X.env.frame=some X.env.locals)
 wM:∀b∈X.ex,b≠X.env.locals/\∀x c,X.env.cells.lookup x=some c->c≠b
 bs:∀b o,X.base.get? b=some o->X.s₀.heap.get? b=some o/\X.H₀ b=none
 fV:X.base.objs.size<=X.s₀.heap.objs.size
 Zf:∀b o,X.base.get? b=some o->b∉X.ex
 Zg:∀b∈X.ex,b∉X.fs
 Lu:X.s₀.heap.FunFrames X.base X.outer
 nQ:∀b∈X.fs,X.H₀ b=none
structure Inv (X:Cx)(pins:List (Addr×Obj))(σ:List (Option V))(H:Hp)(s:Shared):Prop where
 ok:X.Ok
 os:s.os=X.s₀.os
 bare:AllBare s.gens
 base:Un X.fs X.ex X.H₀ H X.s₀.heap s.heap
 loc:∃m,s.heap.Ns X.env.locals m/\∀(i:Nat) (x:Str) (v:V),X.N[i]?=some x->σ[i]?=some (some v)->xP X.env.scope x->∃u,RelV v u/\Look X.env s.heap m x u
 cell:∀x c,X.env.cells.lookup x=some c->∃v,s.heap.IsCell c v
 free:H X.env.locals=none
 Fq:∀x c,X.env.cells.lookup x=some c->H c=none
 pin:∀p∈X.pn++pins,s.heap.get? p.1=some p.2/\H p.1=none/\p.1≠X.env.locals/\p.1∉X.fs/\∀v,p.2.data≠.cell v
 As:Gs X.prog X.w H s.heap
 len:σ.length=X.N.length
section
variable {X:Cx}{pins:List (Addr×Obj)}{σ:List (Option V)}{H H':Hp}{s:Shared}{h':Heap}
theorem Cx.Ok.xQ (ok:X.Ok){b:Addr}{o:Obj}(e:X.base.get? b=some o):b∉X.fs:=λ hb=>by
 have:=(ok.Lu.mem hb).1;rw[e] at this;cases this
theorem Inv.bs (I:Inv X pins σ H s):∀b o,X.base.get? b=some o->s.heap.get? b=some o/\H b=none:=λ b o e =>
 ⟨I.base.keep b o (I.ok.bs b o e).1 (I.ok.bs b o e).2 (I.ok.xQ e) (I.ok.Zf b o e),I.base.free b o (I.ok.bs b o e).1 (I.ok.bs b o e).2 (I.ok.Zf b o e)⟩
theorem Inv.bk (I:Inv X pins σ H s):∀b o,X.base.get? b=some o->s.heap.get? b=some o:=λ b o e=>(I.bs b o e).1
theorem Inv.mod (I:Inv X pins σ H s):Mod X.K X.mg X.base:=I.ok.mod
theorem Inv.Pw (I:Inv X pins σ H s):X.K.In s.heap:=I.ok.mod.XE.keeps I.bk
theorem Inv.fr (I:Inv X pins σ H s):∃m,Fr X.base X.env.locals s.heap m:=
 let ⟨m,hn,_⟩:=I.loc
 ⟨m,hn,I.bk,zbb I.ok.fV I.ok.above⟩
theorem Inv.lt (I:Inv X pins σ H s):X.env.locals<s.heap.objs.size:=let ⟨_,hn,_⟩:=I.loc;hn.lt
theorem Inv.sz (I:Inv X pins σ H s):X.s₀.heap.objs.size<=s.heap.objs.size:=zbb I.ok.above (zbk I.lt)
theorem Inv.xR (I:Inv X pins σ H s){a:Addr}(h:s.heap.objs.size<=a):a∉X.fs:=λ hb=>by
 obtain⟨_,o,ho,_⟩:=I.ok.Lu.mem hb;exact absurd (za8 (za4 ho) (zbb I.sz h)) (Nat.lt_irrefl _)
theorem Inv.nR (I:Inv X pins σ H s):∀x c,X.env.cells.lookup x=some c->c≠X.env.locals:=λ x c e z=>by
 obtain⟨v,o,ho,hd⟩:=I.cell x c e;obtain⟨m,⟨o',es,ep,aF,aO,_⟩,_⟩:=I.loc;rw[z,aF] at ho;cases ho;rw[aO] at hd;cases hd
theorem Inv.Lu (I:Inv X pins σ H s):s.heap.FunFrames X.base X.outer:=by
 have all:∀(l:List Env),(∀b∈Z6 l,b∈X.fs)->X.s₀.heap.FunFrames X.base l->s.heap.FunFrames X.base l:=by
  intro l;induction l with
  |nil=>intro _ _;trivial
  |cons env r ih =>
   intro hs hl;obtain⟨hk,⟨L,o,hf,hn,ho,hd⟩,hr⟩:=hl;have hL:L∈X.fs:=hs L (by unfold Z6;rw[zby,hf];exact zw);obtain⟨sl,e⟩:=I.base.slot L o ho (I.ok.nQ L hL) hL λ z=>I.ok.Zg L z hL;exact⟨hk,⟨L,_,hf,hn,e,hd⟩,ih (λ b hb=>hs b (by unfold Z6;rw[zby,hf];exact zx _ hb)) hr⟩
 exact all X.outer (λ _ hb=>hb) I.ok.Lu
theorem Inv.stack (I:Inv X pins σ H s):s.heap.FunFrames X.base X.stack:=by
 rcases I.ok.wL with e|⟨e,hf⟩
 ·rw[e];exact I.Lu
 ·rw[e];obtain⟨m,hn,_⟩:=I.loc;refine .cons (by rw[I.ok.kind];decide) hf hn ?_ I.Lu;exact Heap.get?_none_of_le (zbb I.ok.fV I.ok.above)
theorem Inv.UM (I:Inv X pins σ H s):∀b∈Z6 X.stack,b∈X.env.locals::X.fs:=λ b hb=>by
 rcases I.ok.wL with e|⟨e,hf⟩
 ·rw[e] at hb;exact zx _ hb
 ·rw[e] at hb;unfold Z6 at hb;rw[zby,hf] at hb;exact hb
theorem Inv.Wl (I:Inv X pins σ H s):∀b∈Z6 X.stack,H b=none:=λ b hb=>by
 rcases z8.mp (I.UM b hb) with e|hb
 ·rw[e];exact I.free
 ·obtain⟨_,o,ho,_⟩:=I.ok.Lu.mem hb;exact I.base.free b o ho (I.ok.nQ b hb) λ z=>I.ok.Zg b z hb
theorem Inv.step {g':Array GenState}{t':Nat}{d':Drawn}{ch:List Addr}(I:Inv X pins σ H s)
 (aR:∀b∈ch,(b∈X.ex\/X.s₀.heap.objs.size<=b)/\b≠X.env.locals/\(∀x c,X.env.cells.lookup x=some c->c≠b)/\∀p∈X.pn++pins,p.1≠b)
 (keep:∀b o,b≠X.env.locals->b∉X.fs->b∉ch->s.heap.get? b=some o->H b=none->h'.get? b=some o)
 (slot:∀b o,b≠X.env.locals->b∈X.fs->b∉ch->s.heap.get? b=some o->H b=none->∃sl,h'.get? b=some {o with slots:=sl}) (free:∀b o,b∉ch->s.heap.get? b=some o->H b=none->H' b=none)
 (there:∀b o,b∉ch->s.heap.get? b=some o->∃o',h'.get? b=some o')
 (PD:∀b xs,H b=some (.tup xs)->H' b=some (.tup xs)) (MF:∀b o u,H b=some (.Gr o u)->H' b=some (.Gr o u)) (PF:∀b ps,H b=some (.nN ps)->∃more,H' b=some (.nN (ps++more)))
 (ns:∀m,s.heap.Ns X.env.locals m->h'.Ns X.env.locals m) (As:Gs X.prog X.w H' h') (hg:AllBare g'):
 Inv X pins σ H' {s with heap:=h',gens:=g',drawn:=d',toks:=t' }:=by
 have sf:∀b o,X.s₀.heap.get? b=some o->b≠X.env.locals:=λ b o e=>zaf (za8 (za4 e) I.ok.above);have gy:∀b o,X.s₀.heap.get? b=some o->b∉X.ex->b∉ch:=λ b o e hx hb=>by
  rcases (aR b hb).1 with z|z
  ·exact hx z
  ·exact absurd (za8 (za4 e) z) (Nat.lt_irrefl _)
 have cellK:∀x c,X.env.cells.lookup x=some c->∀v,s.heap.IsCell c v->h'.IsCell c v:=λ x c e v ⟨o,ho,hd⟩=>by
  have ib:c∉ch:=λ z=>(aR c z).2.2.1 x c e rfl;by_cases hc:c∈X.fs
  ·obtain⟨sl,q⟩:=slot c o (I.nR x c e) hc ib ho (I.Fq x c e);exact⟨_,q,hd⟩
  ·exact⟨o,keep c o (I.nR x c e) hc ib ho (I.Fq x c e),hd⟩
 refine⟨I.ok,I.os,hg,⟨λ b o e n hb hx=>?_,λ b o e n hb hx=>?_,λ b o e n hx=>?_,λ b o e hx=>?_,λ b xs e=>PD b xs (I.base.PD b xs e),λ b o xs e=>MF b o xs (I.base.MF b o xs e),λ b ps e=>?_⟩,?_,λ x c e=>?_,?_,λ x c e=>?_,λ p hp=>?_,As,I.len⟩
 ·exact keep b o (sf b o e) hb (gy b o e hx) (I.base.keep b o e n hb hx) (I.base.free b o e n hx)
 ·obtain⟨sl,e1⟩:=I.base.slot b o e n hb hx;obtain⟨u4,e2⟩:=slot b _ (sf b o e) hb (gy b o e hx) e1 (I.base.free b o e n hx);exact⟨u4,e2⟩
 ·obtain⟨o',e1⟩:=I.base.there b o e hx;exact free b o' (gy b o e hx) e1 (I.base.free b o e n hx)
 ·obtain⟨o',e1⟩:=I.base.there b o e hx;exact there b o' (gy b o e hx) e1
 ·obtain⟨m1,e1⟩:=I.base.PF b ps e;obtain⟨m2,e2⟩:=PF b _ e1;exact⟨m1++m2,by rw[e2,Array.append_assoc]⟩
 ·obtain⟨m,hn,hl⟩:=I.loc;refine⟨m,ns m hn,λ i x v e1 e2 e3=>?_⟩;obtain⟨u,r,l⟩:=hl i x v e1 e2 e3;refine⟨u,r,?_⟩;rcases l with l|⟨k,c,e,z⟩
  ·exact .inl l
  ·exact .inr ⟨k,c,e,cellK x c e _ z⟩
 ·obtain⟨v,z⟩:=I.cell x c e;exact⟨v,cellK x c e v z⟩
 ·obtain⟨m,⟨o,_,_,ho,_⟩,_⟩:=I.loc;exact free _ o (λ z=>(aR _ z).2.1 rfl) ho I.free
 ·obtain⟨v,o,ho,hd⟩:=I.cell x c e;exact free c o (λ z=>(aR c z).2.2.1 x c e rfl) ho (I.Fq x c e)
 ·obtain⟨e,n,ne,nf,d⟩:=I.pin p hp;have ib:p.1∉ch:=λ z=>(aR p.1 z).2.2.2 p hp rfl;exact⟨keep p.1 p.2 ne nf ib e n,free p.1 p.2 ib e n,ne,nf,d⟩
theorem Inv.un {t':Nat}(I:Inv X pins σ H s)(u:Un X.fs [] H H' s.heap h')(As:Gs X.prog X.w H' h'):Inv X pins σ H' {s with heap:=h',toks:=t' }:=by
 obtain⟨m,⟨o,es,ep,ho,r⟩,_⟩:=id I.loc;obtain⟨sl,hL⟩:=u.any ho I.free (by simp);exact I.step (g':=s.gens) (d':=s.drawn) (ch:=[]) (λ _ z=>nomatch z) (λ b o _ hb _ e n=>u.keep b o e n hb (by simp)) (λ b o _ hb _ e n=>u.slot b o e n hb (by simp)) (λ b o _ e n=>u.free b o e n (by simp)) (λ b o _ e=>u.there b o e (by simp)) u.PD u.MF u.PF (λ m' hm=>by
  obtain⟨o',mo,mq,aF,r'⟩:=hm;rw[ho] at aF;cases aF;exact⟨_,mo,mq,hL,r'⟩) As I.bare
theorem Inv.call {g':Array GenState}{t':Nat}{d':Drawn}{ch:List Addr}(I:Inv X pins σ H s)(u:Un (Z6 X.stack) ch H H' s.heap h')(As:Gs X.prog X.w H' h')(hg:AllBare g')
 (aR:∀b∈ch,(b∈X.ex\/X.s₀.heap.objs.size<=b)/\b≠X.env.locals/\(∀x c,X.env.cells.lookup x=some c->c≠b)/\∀p∈X.pn++pins,p.1≠b):
 Inv X pins σ H' {s with heap:=h',gens:=g',drawn:=d',toks:=t' }:=by
 obtain⟨m,⟨o,es,ep,ho,r⟩,_⟩:=id I.loc;obtain⟨sl,hL⟩:=u.any ho I.free λ z=>(aR _ z).2.1 rfl;exact I.step (ch:=ch) aR (λ b o hL hb hc e n=>u.keep b o e n (λ z=>(z8.mp (I.UM b z)).elim hL hb) hc) (λ b o _ _ hc e n=>u.any e n hc) (λ b o hc e n=>u.free b o e n hc) (λ b o hc e=>u.there b o e hc) u.PD u.MF u.PF (λ m' hm=>by
  obtain⟨o',mo,mq,aF,r'⟩:=hm;rw[ho] at aF;cases aF;exact⟨_,mo,mq,hL,r'⟩) As hg
theorem Inv.turned {t':Nat}{it:Addr}(I:Inv X pins σ H s)(k:∀b o,b≠it->s.heap.get? b=some o->h'.get? b=some o)(hn:H it=none)(hL:it≠X.env.locals)
 (h1:it∈X.ex\/X.s₀.heap.objs.size<=it) (h2:∀x c,X.env.cells.lookup x=some c->c≠it) (h3:∀p∈X.pn++pins,p.1≠it):Inv X pins σ H {s with heap:=h',toks:=t' }:=by
 have sg:∀b u,H b=some u->b≠it:=λ b u e z=>by rw[z,hn] at e;cases e
 refine I.step (g':=s.gens) (d':=s.drawn) (ch:=[it]) (λ b hb=>?_) (λ b o _ _ hc e _=>k b o (λ z=>hc (by simp[z])) e) (λ b o _ _ hc e _=>⟨o.slots,k b o (λ z=>hc (by simp[z])) e⟩) (λ _ _ _ _ n=>n)
  (λ b o hc e=>⟨o,k b o (λ z=>hc (by simp[z])) e⟩) (λ _ _ e=>e) (λ _ _ _ e=>e) (λ b ps e=>⟨#[],by rw[e];simp⟩) (λ m hm=>?_) (λ b u e=>?_) I.bare
 ·have e:b=it:=by simpa using hb
  subst e;exact⟨h1,hL,h2,h3⟩
 ·obtain⟨o,es,ep,ho,r⟩:=hm;exact⟨o,es,ep,k _ o (zb3 hL) ho,r⟩
 ·refine (I.As b u e).PB (λ c v hc q=>k c v ?_ q) (λ _ q=>q) λ _ _ q=>q;rcases hc with z|z
  ·rw[z];exact sg b u e
  ·exact sg c _ z
theorem Inv.tok (I:Inv X pins σ H s)(t:Nat):Inv X pins σ H {s with toks:=t}:=I.un (h':=s.heap) (t':=t) Un.refl I.As
theorem Inv.kept {t':Nat}(I:Inv X pins σ H s)(k:∀b u,s.heap.get? b=some u->h'.get? b=some u):Inv X pins σ H {s with heap:=h',toks:=t' }:=I.un (Un.kept k) (I.As.kept k)
theorem Inv.laid {a:Addr}{o:HO}{t':Nat}(I:Inv X pins σ H s)(k:∀b u,s.heap.get? b=some u->h'.get? b=some u)(hp:s.heap.objs.size<=a)(new:Bh X.prog X.w (upd H a o) h' a o):
 Inv X pins σ (upd H a o) {s with heap:=h',toks:=t' }:=I.un (Un.laid k hp (I.As.fresh hp)) (I.As.laid k hp new)
theorem Inv.write {x e:Addr}{o:HO}{t':Nat}(I:Inv X pins σ H s)(mu:sU (H x))(he:e=x\/H e=some (.own x))(k:∀b u,b≠e->s.heap.get? b=some u->h'.get? b=some u)(dm:∃u,h'.get? e=some u)
 (new:Bh X.prog X.w (upd H x o) h' x o):Inv X pins σ (upd H x o) {s with heap:=h',toks:=t' }:=I.un (Un.write mu he k dm) (I.As.write mu he k dm new)
theorem Inv.weak {σ':List (Option V)}(I:Inv X pins σ H s)(hl:σ'.length=σ.length)(w:∀(i:Nat) v,σ'[i]?=some (some v)->σ[i]?=some (some v)):Inv X pins σ' H s:=
 ⟨I.ok,I.os,I.bare,I.base,let ⟨m,hn,ic⟩:=I.loc;⟨m,hn,λ i x v e1 e2 e3=>ic i x v e1 (w i v e2) e3⟩,I.cell,I.free,I.Fq,I.pin,I.As,hl.trans I.len⟩
theorem Inv.JM {dn:List (Addr×Obj)}(I:Inv X pins σ H s)(h:∀p∈dn,s.heap.get? p.1=some p.2/\H p.1=none/\p.1≠X.env.locals/\p.1∉X.fs/\∀v,p.2.data≠.cell v):Inv X dn σ H s:=
 ⟨I.ok,I.os,I.bare,I.base,I.loc,I.cell,I.free,I.Fq,λ p hp=>(zab.mp hp).elim (λ z=>I.pin p (zaq _ z)) (h p),I.As,I.len⟩
theorem SD {N:List Str}(hN:N.Nodup){i j:Nat}{x:Str}(a:N[i]?=some x)(b:N[j]?=some x):i=j:=by
 obtain⟨h1,e1⟩:=za3.mp a;obtain⟨h2,e2⟩:=za3.mp b;exact (List.getElem_inj hN).mp (e1.trans e2.symm)
theorem Qh {M:Model}{A:Around}{E:Value->Shared->Prop}{i:Nat}{x:Str}{v:V}{u:Value}{Q:Unit->Shared->Prop}(I:Inv X pins σ H s)(hN:X.N.Nodup)(hi:X.N[i]?=some x)(hx:Loc X.env.scope x)(r:RelV v u)
 (h:∀s',Inv X pins (σ.set i (some v)) H s'->(∃a,Heap.SameBut a s.heap s'.heap/\(a=X.env.locals\/X.env.cells.lookup x=some a))->Q () s') (hf:X.fn x=true\/X.env.scope.names.lookup x=some .local:=by first|exact .inl rfl|exact .inr rfl|assumption):wpAny M A (storeName X.env x u) Q E s:=by
 obtain⟨m,hn,hl⟩:=id I.loc;have mr:(X.env.scope.kind==.class||(X.env.scope.kind==.module&&X.env.locals != X.env.globals))=false:=by rw[I.ok.kind];rfl
 have hiσ:i<σ.length:=by rw[I.len];exact (za3.mp hi).1
 have nR:=I.nR;have tracked:∀ {a:Addr} {h':Heap},(∃o,s.heap.get? a=some o/\H a=none)->Heap.SameBut a s.heap h'->Gs X.prog X.w H h':=fun {a h'} ha hs b ob e=>by
  obtain⟨_,_,dq⟩:=ha;refine (I.As b ob e).PB (λ c w' hc q=>(hs.2 c ?_).trans q) (λ _ q=>q) λ _ _ q=>q;rintro rfl;rcases hc with rfl|hc
  ·rw[dq] at e;cases e
  ·rw[dq] at hc;cases hc
 rcases hx with hk|hk
 ·refine wpAny_storeName_local hk hn (λ h' bc hs=>?_) mr;obtain⟨oL,_,_,u5,_⟩:=id hn;refine h _ ⟨I.ok,I.os,I.bare,⟨λ b o e n hb hx=>?_,λ b o e n hb hx=>?_,I.base.free,λ b o e hx=>?_,I.base.PD,I.base.MF,I.base.PF⟩,⟨_,bc,λ j y v' e1 e2 e3=>?_⟩,λ y c e=>?_,I.free,I.Fq,λ p hp=>?_,tracked ⟨oL,u5,I.free⟩ hs,by simpa using I.len⟩ ⟨_,hs,.inl rfl⟩
  ·exact (hs.2 b (zaf (za8 (za4 e) I.ok.above))).trans (I.base.keep b o e n hb hx)
  ·obtain⟨sl,e1⟩:=I.base.slot b o e n hb hx;exact⟨sl,(hs.2 b (zaf (za8 (za4 e) I.ok.above))).trans e1⟩
  ·obtain⟨o',e1⟩:=I.base.there b o e hx;exact⟨o',(hs.2 b (zaf (za8 (za4 e) I.ok.above))).trans e1⟩
  ·by_cases hj:j=i
   ·subst hj;rw[hi] at e1;cases e1;rw[zas hiσ] at e2;cases e2;exact⟨u,r,.inl ⟨hk,by simp⟩⟩
   ·rw[zb9 (zb3 hj)] at e2;obtain⟨u',r',q⟩:=hl j y v' e1 e2 e3;refine⟨u',r',?_⟩;rcases q with ⟨k,e⟩|⟨k,c,e,z⟩
    ·refine .inl ⟨k,?_⟩;have:y≠x:=λ e=>hj (SD hN e1 (e▸hi));simp[this,e]
    ·exact .inr ⟨k,c,e,z.sameBut hs (nR y c e)⟩
  ·obtain⟨w',z⟩:=I.cell y c e;exact⟨w',z.sameBut hs (nR y c e)⟩
  ·obtain⟨e,n,ne,nf,d⟩:=I.pin p hp;exact⟨(hs.2 p.1 ne).trans e,n,ne,nf,d⟩
 ·have mt:X.fn x=true:=by
   rcases hf with z|z
   ·exact z
   ·rw[z] at hk;cases hk
  obtain⟨c,hc⟩:=I.ok.has x (.inl hk);obtain⟨w',z⟩:=I.cell x c hc;refine wpAny_storeName_cell I.ok.kind hk hc z (λ h' bq hs=>?_);obtain⟨oc,sn,mw⟩:=id z;refine h {s with heap:=h' } ⟨I.ok,I.os,I.bare,⟨λ b o e n hb hx=>?_,λ b o e n hb hx=>?_,I.base.free,λ b o e hx=>?_,I.base.PD,I.base.MF,I.base.PF⟩,⟨m,hn.sameBut hs (zb3 (nR x c hc)),λ j y v' e1 e2 e3=>?_⟩,λ y c' e=>?_,I.free,I.Fq,λ p hp=>?_,tracked ⟨oc,sn,I.Fq x c hc⟩ hs,by simpa using I.len⟩ ⟨c,hs,.inr hc⟩
  ·exact (hs.2 b (zaf (za8 (za4 e) (I.ok.sV x c mt hc)))).trans (I.base.keep b o e n hb hx)
  ·obtain⟨sl,e1⟩:=I.base.slot b o e n hb hx;exact⟨sl,(hs.2 b (zaf (za8 (za4 e) (I.ok.sV x c mt hc)))).trans e1⟩
  ·obtain⟨o',e1⟩:=I.base.there b o e hx;exact⟨o',(hs.2 b (zaf (za8 (za4 e) (I.ok.sV x c mt hc)))).trans e1⟩
  ·by_cases hj:j=i
   ·subst hj;rw[hi] at e1;cases e1;rw[zas hiσ] at e2;cases e2;exact⟨u,r,.inr ⟨.inl hk,c,hc,bq⟩⟩
   ·rw[zb9 (zb3 hj)] at e2;obtain⟨u',r',q⟩:=hl j y v' e1 e2 e3;refine⟨u',r',?_⟩;rcases q with q|⟨k,c',e,z'⟩
    ·exact .inl q
    ·refine .inr ⟨k,c',e,z'.sameBut hs ?_⟩;rintro rfl;exact hj (SD hN e1 (I.ok.inj _ _ _ e hc▸hi))
  ·by_cases k0:c'=c
   ·subst k0;exact⟨_,bq⟩
   ·obtain⟨w2,z2⟩:=I.cell y c' e;exact⟨w2,z2.sameBut hs k0⟩
  ·obtain⟨e,n,ne,nf,d⟩:=I.pin p hp;refine⟨(hs.2 p.1 ?_).trans e,n,ne,nf,d⟩;intro q;rw[q,sn] at e;have q':oc=p.2:=zad e;exact d w' (by rw[<-q'];exact mw)
theorem SE {M:Model}{A:Around}{E:Value->Shared->Prop}{i:Nat}{x:Str}{v:V}{u:Value}{Q:Unit->Shared->Prop}(I:Inv X pins σ H s)(hN:X.N.Nodup)(hi:X.N[i]?=some x)(hx:Loc X.env.scope x)(r:RelV v u)
 (h:∀s',Inv X pins (σ.set i (some v)) H s'->Q () s') (hf:X.fn x=true\/X.env.scope.names.lookup x=some .local:=by first|exact .inl rfl|exact .inr rfl|assumption):wpAny M A (storeName X.env x u) Q E s:=
 Qh I hN hi hx r (λ s' I' _=>h s' I') hf
theorem Inv.sW {s':Shared}{ch:List Addr}(I:Inv X pins σ H s)(ho:s'.os=s.os)(u:Un (Z6 X.stack) ch H H' s.heap s'.heap)(As:Gs X.prog X.w H' s'.heap)(hg:AllBare s'.gens)
 (aR:∀b∈ch,(b∈X.ex\/X.s₀.heap.objs.size<=b)/\b≠X.env.locals/\(∀x c,X.env.cells.lookup x=some c->c≠b)/\∀p∈X.pn++pins,p.1≠b):Inv X pins σ H' s':=by
 obtain⟨h',g',d',t',o'⟩:=s';have e:o'=s.os:=ho;subst e;exact I.call (g':=g') (t':=t') (d':=d') u As hg aR
end
noncomputable abbrev XK:=Value->Option Addr->Hp->Prop
noncomputable abbrev St:=List (Option V)
noncomputable abbrev VK:=V->Hp->Prop
noncomputable abbrev TE:=St->Hp->VK->Prop
noncomputable abbrev TT:=St->Hp->(Bool->Hp->Prop)->Prop
noncomputable abbrev TA:=St->Hp->(List V->Hp->Prop)->Prop
structure Ends where
 nx:St->Hp->Prop
 rt:VK
 bk:St->Hp->Prop:=λ _ _=>False
 ct:St->Hp->Prop:=λ _ _=>False
noncomputable abbrev TS:=Ends->St->Hp->Prop
def EP (X:Cx)(pins:List (Addr×Obj))(σ:St)(Q:VK)(u:Value)(s':Shared):Prop:=∃v H',Inv X pins σ H' s'/\RelV v u/\Q v H'
def TP (X:Cx)(pins:List (Addr×Obj))(σ:St)(Q:Bool->Hp->Prop)(b:Bool)(s':Shared):Prop:=∃H',Inv X pins σ H' s'/\Q b H'
def AP (X:Cx)(pins:List (Addr×Obj))(σ:St)(Q:List V->Hp->Prop)(us:List Value)(s':Shared):Prop:=∃vs H',Inv X pins σ H' s'/\Vals vs us/\Q vs H'
def SP (X:Cx)(pins:List (Addr×Obj))(D:Ends)(f:Flow)(s':Shared):Prop:=
 match f with
 | .next=>∃σ' H',Inv X pins σ' H' s'/\D.nx σ' H'
 | .brk=>∃σ' H',Inv X pins σ' H' s'/\D.bk σ' H'
 | .cont=>∃σ' H',Inv X pins σ' H' s'/\D.ct σ' H'
 | .ret u=>∃v σ' H',Inv X pins σ' H' s'/\RelV v u/\D.rt v H'
def PE (X:Cx)(e:Expr)(t:TE):Prop:=
 ∀(pins:List (Addr×Obj)) (s:Shared) (σ:St) (H:Hp) (Q:VK),Inv X pins σ H s->t σ H Q->wpAny (model X.prog X.w) X.A (eval e X.env) (EP X pins σ Q) X.xe s
def PT (X:Cx)(e:Expr)(t:TT):Prop:=
 ∀(pins:List (Addr×Obj)) (s:Shared) (σ:St) (H:Hp) (Q:Bool->Hp->Prop),Inv X pins σ H s->t σ H Q->wpAny (model X.prog X.w) X.A (isTrue e X.env (eval e X.env)) (TP X pins σ Q) X.xe s
def PW (X:Cx)(e:Expr)(t:TT):Prop:=
 ∀(whole:Sem Value) (pins:List (Addr×Obj)) (s:Shared) (σ:St) (H:Hp) (Q:Bool->Hp->Prop),Inv X pins σ H s->t σ H Q->wpAny (model X.prog X.w) X.A (isTrue e X.env whole) (TP X pins σ Q) X.xe s
theorem PW.pt {X:Cx}{e:Expr}{t:TT}(h:PW X e t):PT X e t:=h _
def PA (X:Cx)(es:List Expr)(t:TA):Prop:=
 ∀(pos:Pos) (pins:List (Addr×Obj)) (s:Shared) (σ:St) (H:Hp) (Q:List V->Hp->Prop),Inv X pins σ H s->t σ H Q->wpAny (model X.prog X.w) X.A (spliced (backTo pos (starEach es X.env))) (AP X pins σ Q) X.xe s
def PS (X:Cx)(st:Stmt)(t:TS):Prop:=
 ∀(pins:List (Addr×Obj)) (s:Shared) (σ:St) (H:Hp) (D:Ends),Inv X pins σ H s->t D σ H->wpAny (model X.prog X.w) X.A (exec st X.env) (SP X pins D) X.xe s
def Wm (X:Cx)(st:List Stmt)(t:TS):Prop:=
 ∀(pins:List (Addr×Obj)) (s:Shared) (σ:St) (H:Hp) (D:Ends),Inv X pins σ H s->t D σ H->wpAny (model X.prog X.w) X.A (execs st X.env) (SP X pins D) X.xe s
theorem Bd {α:Type}{t:Sem α}{Q Q':α->Shared->Prop}{M:Model}{A:Around}{E:Value->Shared->Prop}{s:Shared}(h:wpAny M A t Q E s)(hQ:∀a s,Q a s->Q' a s):wpAny M A t Q' E s:=wpAny_mono h hQ λ _ _ x=>x
section
variable {X:Cx}
theorem bin {a b:Expr}{ta tb:TE}(ha:PE X a ta)(hb:PE X b tb){pins:List (Addr×Obj)}{s:Shared}{σ:St}{H:Hp}{R:V->V->Hp->Prop}(I:Inv X pins σ H s)(h:ta σ H λ x H1=>tb σ H1 λ y H2=>R x y H2)
 {α:Type} {Q:α->Shared->Prop} {f:Value->Value->Sem α}
 (hf:∀v u s2 x y H2,Inv X pins σ H2 s2->RelV x v->RelV y u->R x y H2->wpAny (model X.prog X.w) X.A (f v u) Q X.xe s2):
 wpAny (model X.prog X.w) X.A (eval a X.env) (λ v s₁=>wpAny (model X.prog X.w) X.A (eval b X.env) (λ u s₂=>wpAny (model X.prog X.w) X.A (f v u) Q X.xe s₂) X.xe s₁) X.xe s:=by
 refine Bd (ha pins s σ H _ I h) λ v s1 zz=>?_;obtain⟨x,H1,I1,r1,q1⟩:=zz;refine Bd (hb pins s1 σ H1 _ I1 q1) λ u s2 zz=>?_;obtain⟨y,H2,I2,r2,q2⟩:=zz;exact hf v u s2 x y H2 I2 r1 r2 q2
noncomputable def UN (i:Nat):TE:=λ σ H Q=>∃v,σ[i]?=some (some v)/\Q v H
noncomputable def tC (v:V):TE:=λ _ H Q=>Q v H
theorem nS {i:Nat}{x:Str}{pos:Pos}(hN:X.N[i]?=some x)(hv:xP X.env.scope x)(hd:(x==("__debug__" : Str))=false:=by decide)(aP:(x==("__classdict__" : Str))=false:=by decide):PE X (.Name x pos) (UN i):=by
 intro pins s σ H Q I h;obtain⟨v,e,h⟩:=h;obtain⟨m,hn,hl⟩:=I.loc;obtain⟨u,r,l⟩:=hl i x v hN e hv;have fin:EP X pins σ Q u s:=⟨v,H,I,r,h⟩;rcases l with ⟨hk,hm⟩|⟨hk,c,hc,dr⟩
 ·exact wpAny_Name (wpAny_loadName_local I.ok.kind hk hn hm fin) hd
 ·rcases hk with hk|hk
  ·exact wpAny_Name (wpAny_loadName_cell I.ok.kind hk hc dr fin) hd
  ·exact wpAny_Name (wpAny_loadName_free I.ok.kind hk hc dr fin aP) hd
theorem nT {i j pos}:PE X (.Constant (.int i) j pos) (tC (.int i)):=λ _ _ _ H _ I h=>wpAny_Constant_int ⟨.int i,H,I.tok _,⟨_,rfl⟩,h⟩
theorem sX {b j pos}:PE X (.Constant (.bool b) j pos) (tC (.bl b)):=λ _ _ _ H _ I h=>Constant_bool ⟨.bl b,H,I,rfl,h⟩
theorem nU {j pos}:PE X (.Constant .none j pos) (tC .AN):=λ _ _ _ H _ I h=>Constant_none ⟨.AN,H,I,rfl,h⟩
def Gl (X:Cx)(x:Str):Prop:=X.env.kindOf x=some .globalImplicit
theorem Wn {E:Value->Shared->Prop}{pins:List (Addr×Obj)}{s:Shared}{σ:St}{H:Hp}{x:Str}{u:Value}{pos:Pos}{Q:Value->Shared->Prop}(I:Inv X pins σ H s)(hg:Gl X x)(hm:X.mg x=some u)(h:Q u s)
 (hd:(x==("__debug__" : Str))=false:=by decide):wpAny (model X.prog X.w) X.A (eval (.Name x pos) X.env) Q E s:=
 Calls.Name_function_global I.ok.kind hg (Calls.loadGlobal_global (by rw[I.ok.glob];exact I.mod.glob.keeps I.bk) hm h) hd
theorem CO {E:Value->Shared->Prop}{pins:List (Addr×Obj)}{s:Shared}{σ:St}{H:Hp}{x:Str}{u:Value}{pos:Pos}{Q:Value->Shared->Prop}(I:Inv X pins σ H s)(hg:Gl X x)(hm:X.mg x=none)(hv:bootBuiltins x=some u)(h:Q u s)
 (hn:x ≠ "__name__" := by decide) (hd:(x==("__debug__" : Str))=false:=by decide):wpAny (model X.prog X.w) X.A (eval (.Name x pos) X.env) Q E s:=by
 obtain⟨mb,h1,h2⟩:=I.mod.blt;exact Calls.Name_function_global I.ok.kind hg (Calls.loadGlobal_builtin (by rw[I.ok.glob];exact I.mod.glob.keeps I.bk) hm (by rw[I.ok.blt];exact h1.keeps I.bk) ((h2 x hn).trans hv) h) hd
theorem fW {x:Str}{v:V}{u:Value}{pos:Pos}(hg:Gl X x)(hm:X.mg x=none)(hv:bootBuiltins x=some u)(r:RelV v u)(hn:x ≠ "__name__" := by decide)(hd:(x==("__debug__" : Str))=false:=by decide):PE X (.Name x pos) (tC v):=
 λ _ _ _ H _ I h=>CO I hg hm hv ⟨v,H,I,r,h⟩ hn hd
variable {a b:Expr}{ta tb:TE}{pos:Pos}
def PC (X:Cx)(op:CmpOp)(a b:Expr)(t:TE):Prop:=
 ∀(pins:List (Addr×Obj)) (s:Shared) (σ:St) (H:Hp) (Q:VK),Inv X pins σ H s->t σ H Q->
  wpAny (model X.prog X.w) X.A (eval a X.env) (λ v s₁=>wpAny (model X.prog X.w) X.A (eval b X.env) (λ u s₂=>wpAny (model X.prog X.w) X.A (compareOp op v u) (EP X pins σ Q) X.xe s₂) X.xe s₁) X.xe s
theorem SF (b:Expr){op:CmpOp}(h:op≠.In)(h2:op≠.NotIn):behindInMarks op b=false:=by
 have e1:(op==CmpOp.In)=false:=by cases op<;>first|rfl|exact absurd rfl h
 have e2:(op==CmpOp.NotIn)=false:=by cases op<;>first|rfl|exact absurd rfl h2
 cases b<;>simp[behindInMarks,e1,e2]
noncomputable def xS (ta:TE):TE:=λ σ H Q=>ta σ H λ x H1=>Q (.bl (decide (x=.AN))) H1
noncomputable def sY (ta:TE):TE:=λ σ H Q=>ta σ H λ x H1=>Q (.bl (!decide (x=.AN))) H1
theorem RelV.SG {x:V}{v:Value}(r:RelV x v):(v==Value.none)=decide (x=.AN):=by
 cases x with
 |AN|bl _=>cases r;rfl
 |int _|str _|nM _|sS _=>obtain⟨t,rfl⟩:=r;rfl
 |ref _|ty _=>cases r;rfl
theorem Zh {j pos'}(ha:PE X a ta):PC X .Is a (.Constant .none j pos') (xS ta):=by
 intro pins s σ H Q I h;refine Bd (ha pins s σ H _ I h) λ v s1 zz=>?_;obtain⟨x,H1,I1,r1,q1⟩:=zz;exact Constant_none (is_none_gen ⟨.bl _,H1,I1,by rw[r1.SG];rfl,q1⟩)
theorem fX {j pos'}(ha:PE X a ta):PC X .IsNot a (.Constant .none j pos') (sY ta):=by
 intro pins s σ H Q I h;refine Bd (ha pins s σ H _ I h) λ v s1 zz=>?_;obtain⟨x,H1,I1,r1,q1⟩:=zz;exact Constant_none (isnot_none_gen ⟨.bl _,H1,I1,by rw[r1.SG];rfl,q1⟩)
noncomputable def tB (t:TE):TT:=λ σ H Q=>t σ H λ x H1=>∃c,x=.bl c/\Q c H1
theorem nV {op:CmpOp}{t:TE}(h:PC X op a b t)(h1:behindInMarks op b=false:=by first | exact SF _ (by decide) (by decide) | rfl):PE X (.Compare a [op] [b] pos) t:=λ pins s σ H Q I hw=>wpAny_Compare1 (h pins s σ H Q I hw) h1
theorem Zi {op:CmpOp}{t:TE}(h:PC X op a b t)(h1:behindInMarks op b=false:=by first | exact SF _ (by decide) (by decide) | rfl):PT X (.Compare a [op] [b] pos) (tB t):=by
 intro pins s σ H Q I hw;refine wpAny_isTrue_Compare1 (Bd (h pins s σ H _ I hw) λ v s1 h1=>Bd h1 λ u s2 h2=>Bd h2 λ c s3 zz=>?_) h1;obtain⟨x,H1,I1,r1,q1⟩:=zz;obtain⟨d,rfl,q⟩:=q1;cases r1;exact wpAny_truthy_bool ⟨H1,I1,q⟩
variable {tA lb:TT}{rest:List Expr}
noncomputable def xT (t u:TT):TT:=λ σ H Q=>t σ H λ c H1=>if c=true then u σ H1 Q else Q false H1
noncomputable def tOr (t u:TT):TT:=λ σ H Q=>t σ H λ c H1=>if c=true then Q true H1 else u σ H1 Q
noncomputable def xU (t:TT):TT:=λ σ H Q=>t σ H λ c H1=>Q (!c) H1
theorem pw_and1 (ha:PT X a tA):PW X (.BoolOp .And [a] pos) tA:=by
 intro wh pins s σ H Q I h;refine isTrue_and (Bd (ha pins s σ H Q I h) λ c s1 e=>?_);cases c with
 |true=>exact isTrue_and_nil e
 |false=>exact e
theorem pw_or1 (ha:PT X a tA):PW X (.BoolOp .Or [a] pos) tA:=by
 intro wh pins s σ H Q I h;refine isTrue_or (Bd (ha pins s σ H Q I h) λ c s1 e=>?_);cases c with
 |false=>exact isTrue_or_nil e
 |true=>exact e
theorem pw_and (ha:PT X a tA)(hb:PW X (.BoolOp .And (b::rest) pos) lb):PW X (.BoolOp .And (a::b::rest) pos) (xT tA lb):=by
 intro wh pins s σ H Q I h;refine isTrue_and (Bd (ha pins s σ H _ I h) λ c s1 zz=>?_);obtain⟨H1,I1,q1⟩:=zz;cases c with
 |true=>exact hb wh pins s1 σ H1 Q I1 q1
 |false=>exact⟨H1,I1,q1⟩
theorem pw_or (ha:PT X a tA)(hb:PW X (.BoolOp .Or (b::rest) pos) lb):PW X (.BoolOp .Or (a::b::rest) pos) (tOr tA lb):=by
 intro wh pins s σ H Q I h;refine isTrue_or (Bd (ha pins s σ H _ I h) λ c s1 zz=>?_);obtain⟨H1,I1,q1⟩:=zz;cases c with
 |true=>exact⟨H1,I1,q1⟩
 |false=>exact hb wh pins s1 σ H1 Q I1 q1
theorem nW (ha:PT X a tA):PT X (.UnaryOp .Not a pos) (xU tA):=by
 intro pins s σ H Q I h;exact isTrue_not (ha pins s σ H (λ c H1=>Q (!c) H1) I h)
noncomputable def sZ (ta tb:TE):TE:=λ σ H Q=>ta σ H λ x H1=>∃c,x=.bl c/\if c=true then tb σ H1 Q else Q (.bl false) H1
noncomputable def xV (ta tb:TE):TE:=λ σ H Q=>ta σ H λ x H1=>∃c,x=.bl c/\if c=true then Q (.bl true) H1 else tb σ H1 Q
noncomputable def tD (ta:TE):TE:=λ σ H Q=>ta σ H λ x H1=>∃c,x=.bl c/\Q (.bl (!c)) H1
theorem nX {op}{t:TE}(h:PE X a t):PE X (.BoolOp op [a] pos) t:=λ pins s σ H Q I hw=>BoolOp_one (h pins s σ H Q I hw)
theorem nY (ha:PE X a ta)(hb:PE X (.BoolOp .And (b::rest) pos) tb):PE X (.BoolOp .And (a::b::rest) pos) (sZ ta tb):=by
 intro pins s σ H Q I h;refine BoolOp_and (Bd (ha pins s σ H _ I h) λ v s1 zz=>?_);obtain⟨x,H1,I1,r1,q1⟩:=zz;obtain⟨c,rfl,q1⟩:=q1;cases r1;refine wpAny_truthy_bool ?_;cases c with
 |true=>exact hb pins s1 σ H1 Q I1 q1
 |false=>exact⟨.bl false,H1,I1,rfl,q1⟩
theorem tE (ha:PE X a ta)(hb:PE X (.BoolOp .Or (b::rest) pos) tb):PE X (.BoolOp .Or (a::b::rest) pos) (xV ta tb):=by
 intro pins s σ H Q I h;refine BoolOp_or (Bd (ha pins s σ H _ I h) λ v s1 zz=>?_);obtain⟨x,H1,I1,r1,q1⟩:=zz;obtain⟨c,rfl,q1⟩:=q1;cases r1;refine wpAny_truthy_bool ?_;cases c with
 |false=>exact hb pins s1 σ H1 Q I1 q1
 |true=>exact⟨.bl true,H1,I1,rfl,q1⟩
theorem nZ (ha:PE X a ta):PE X (.UnaryOp .Not a pos) (tD ta):=by
 intro pins s σ H Q I h;refine UnaryOp_ (Bd (ha pins s σ H _ I h) λ v s1 zz=>?_);obtain⟨x,H1,I1,r1,q1⟩:=zz;obtain⟨c,rfl,q1⟩:=q1;cases r1;exact not_of (wpAny_truthy_bool ⟨.bl (!c),H1,I1,rfl,q1⟩)
end
def Dc (K:zt)(H:Hp)(a:Addr)(xs:List V):Prop:=
 Rd H a (.lst xs) \/
  ∃(o:Obj) (aa:Array Value) (n:Nat),K.lookup a=some o/\o.cls=.type "list" /\ o.dict=none/\o.data=.seq aa n/\aa.size<=sizeLine/\Vals xs aa.toList
def EY (K:zt)(H:Hp)(a:Addr)(xs:List V):Prop:=
 Rd H a (.tup xs) \/
  ∃(o:Obj) (aa:Array Value) (n:Nat),K.lookup a=some o/\o.cls=.type "tuple" /\ o.data=.seq aa n/\aa.size<=sizeLine/\Vals xs aa.toList
noncomputable def xW:Value->Option V
 | .none=>some .AN
 | .bool b=>some (.bl b)
 | .int i _=>some (.int i)
 | .str x _=>some (.str x)
 | .bytes b _=>some (.nM b)
 | .float b _=>some (.sS b)
 | .ref a=>some (.ref a)
 | .type n=>some (.ty n)
 |_=>none
theorem RelV.abs {x:V}{u:Value}(r:RelV x u):xW u=some x:=by
 cases x with
 |AN|bl _=>cases r;rfl
 |int _|str _|nM _|sS _=>obtain⟨t,rfl⟩:=r;rfl
 |ref _|ty _=>cases r;rfl
theorem RelV.inj {x y:V}{u:Value}(r:RelV x u)(q:RelV y u):x=y:=zad (r.abs.symm.trans q.abs)
theorem Vals.inj:∀ {xs ys:List V}{us:List Value},Vals xs us->Vals ys us->xs=ys
 |_,_,_,.nil,.nil=>rfl
 |_,_,_,.cons r t,.cons r' t'=>by rw[r.inj r',Vals.inj t t']
section
variable {X:Cx}{pins:List (Addr×Obj)}{σ:St}{H:Hp}{s:Shared}{a:Addr}{xs ys:List V}
theorem Dc.of {K:zt}(h:H a=some (.lst xs)):Dc K H a xs:=.inl (.inl h)
theorem EY.of {K:zt}(h:H a=some (.tup xs)):EY K H a xs:=.inl (.inl h)
theorem Inv.list (I:Inv X pins σ H s)(h:Dc X.K H a xs):∃aa:List Value,Vals xs aa/\PlainL s.heap a aa.toArray/\xs.length<=sizeLine:=by
 rcases h with h|⟨o,aa,n,hk,hc,hd,hs,hz,r⟩
 ·obtain⟨z,aa,n,r,e⟩:=h.ok I.As;exact⟨aa,r,⟨_,n,e,rfl,rfl,rfl⟩,z⟩
 ·refine⟨aa.toList,r,⟨o,n,I.Pw a o hk,hc,hd,by simpa using hs⟩,?_⟩;have e:=r.length;simp only[zd0] at e;omega
theorem Inv.tuple (I:Inv X pins σ H s)(h:EY X.K H a xs):∃aa:List Value,Vals xs aa/\IsTup s.heap a aa.toArray/\xs.length<=sizeLine:=by
 rcases h with h|⟨o,aa,n,hk,hc,hs,hz,r⟩
 ·obtain⟨z,aa,r,p⟩:=h.ok I.As;exact⟨aa,r,p,z⟩
 ·refine⟨aa.toList,r,⟨o,I.Pw a o hk,hc,n,by simpa using hs⟩,?_⟩;have e:=r.length;simp only[zd0] at e;omega
theorem Inv.GQ (I:Inv X pins σ H s)(h:Dc X.K H a xs)(h':Dc X.K H a ys):xs=ys:=by
 obtain⟨aa,r,⟨o,n,e,_,_,d⟩,_⟩:=I.list h;obtain⟨its',r',⟨o',n',e',_,_,d'⟩,_⟩:=I.list h';rw[e] at e';cases e';rw[d] at d';injection d' with d1 _
 have:aa=its':=by simpa using congrArg Array.toList d1
 subst this;exact r.inj r'
theorem Inv.Fs (I:Inv X pins σ H s)(h:EY X.K H a xs)(h':EY X.K H a ys):xs=ys:=by
 obtain⟨aa,r,⟨o,e,_,n,d⟩,_⟩:=I.tuple h;obtain⟨its',r',⟨o',e',_,n',d'⟩,_⟩:=I.tuple h';rw[e] at e';cases e';rw[d] at d';injection d' with d1 _
 have:aa=its':=by simpa using congrArg Array.toList d1
 subst this;exact r.inj r'
end
noncomputable abbrev Cx.PH (X:Cx)(E:Value->Shared->Prop):Cx:={X with xe:=E}
noncomputable abbrev Cx.tF (X:Cx):Cx:=X.PH λ _ _=>False
theorem Cx.Ok.PH {X:Cx}(ok:X.Ok)(E:Value->Shared->Prop):(X.PH E).Ok:=
 ⟨ok.mod,ok.kind,ok.glob,ok.blt,ok.above,ok.inj,ok.has,ok.sV,ok.hd,ok.frames,ok.wL,ok.wM,ok.bs,ok.fV,ok.Zf,ok.Zg,ok.Lu,ok.nQ⟩
theorem Cx.Ok.GR {X:Cx}{E:Value->Shared->Prop}(ok:(X.PH E).Ok):X.Ok:=
 ⟨ok.mod,ok.kind,ok.glob,ok.blt,ok.above,ok.inj,ok.has,ok.sV,ok.hd,ok.frames,ok.wL,ok.wM,ok.bs,ok.fV,ok.Zf,ok.Zg,ok.Lu,ok.nQ⟩
section
variable {X:Cx}{pins:List (Addr×Obj)}{σ:St}{H:Hp}{s:Shared}{E:Value->Shared->Prop}
theorem Inv.PH (I:Inv X pins σ H s)(E:Value->Shared->Prop):Inv (X.PH E) pins σ H s:=⟨I.ok.PH E,I.os,I.bare,I.base,I.loc,I.cell,I.free,I.Fq,I.pin,I.As,I.len⟩
theorem Inv.GR (I:Inv (X.PH E) pins σ H s):Inv X pins σ H s:=⟨I.ok.GR,I.os,I.bare,I.base,I.loc,I.cell,I.free,I.Fq,I.pin,I.As,I.len⟩
theorem SP.GR {D:Ends}{f:Flow}{s':Shared}(h:SP (X.PH E) pins D f s'):SP X pins D f s':=by
 cases f with
 |next|brk|cont=>obtain⟨σ',H',I,q⟩:=h;exact⟨σ',H',I.GR,q⟩
 |ret u=>obtain⟨v,σ',H',I,r,q⟩:=h;exact⟨v,σ',H',I.GR,r,q⟩
theorem Wm.tF {st:List Stmt}{t:TS}(h:Wm X.tF st t):Wm X st t:=λ pins s σ H D I hw =>
 wpAny_mono (h pins s σ H D (I.PH _) hw) (λ _ _ q=>q.GR) λ _ _ z=>zcc z
end
section
variable {X:Cx}{st:Stmt}{rest:List Stmt}{t u:TS}{e:Expr}{te:TE}{pos:Pos}
noncomputable def tG:TS:=λ D σ H=>D.nx σ H
noncomputable def xX (t u:TS):TS:=λ D σ H=>t {D with nx:=u D} σ H
theorem fY:Wm X [] tG:=λ _ _ σ H _ I h=>wpAny_execs_nil ⟨σ,H,I,h⟩
theorem Zj (h1:PS X st t)(h2:Wm X rest u):Wm X (st::rest) (xX t u):=by
 intro pins s σ H D I h;refine wpAny_execs_cons (Bd (h1 pins s σ H {D with nx:=u D} I h) λ f s1 q=>?_);cases f with
 |next =>
  obtain⟨σ',H',I',q⟩:=q;exact h2 pins s1 σ' H' D I' q
 |ret v|brk|cont=>exact q
theorem fZ (h1:PS X st t):Wm X [st] t:=by
 intro pins s σ H D I h;refine wpAny_execs_cons (Bd (h1 pins s σ H D I h) λ f s1 q=>?_);cases f with
 |next=>exact wpAny_execs_nil q
 |ret v|brk|cont=>exact q
theorem Inv.quiet {pins:List (Addr×Obj)}{σ:St}{H:Hp}{s:Shared}(I:Inv X pins σ H s):interactive X.env=false:=by simp[interactive,I.ok.kind]
noncomputable def tH (te:TE):TS:=λ D σ H=>te σ H λ _ H1=>D.nx σ H1
theorem JN (he:PE X e te)(hs:swapsWith e none pos.line X.env=pure false:=by rfl):PS X (.Expr e pos) (tH te):=by
 intro pins s σ H D I h;exact wpAny_Expr_any (Bd (he pins s σ H _ I h) λ v s1 ⟨x,H1,I1,r1,q1⟩=>⟨σ,H1,I1,q1⟩) I.quiet hs
noncomputable def xY (te:TE):TS:=λ D σ H=>te σ H D.rt
theorem UO (he:PE X e te):PS X (.Return (some e) pos) (xY te):=by
 intro pins s σ H D I h;exact wpAny_Return_some (Bd (he pins s σ H _ I h) λ v s1 ⟨x,H1,I1,r1,q1⟩=>⟨x,σ,H1,I1,r1,q1⟩)
noncomputable def xZ (c:TT)(t u:TS):TS:=λ D σ H=>c σ H λ b H1=>if b=true then t D σ H1 else u D σ H1
theorem tI {c:Expr}{a b:List Stmt}{tc:TT}(hc:PT X c tc)(ha:Wm X a t)(hb:Wm X b u):PS X (.If c a b pos) (xZ tc t u):=by
 intro pins s σ H D I h;refine wpAny_If (Bd (hc pins s σ H _ I h) λ d s1 zz=>?_);obtain⟨H1,I1,q1⟩:=zz;cases d with
 |true=>exact ha pins s1 σ H1 D I1 q1
 |false=>exact hb pins s1 σ H1 D I1 q1
end
noncomputable abbrev TG:=V->St->Hp->(St->Hp->Prop)->Prop
noncomputable abbrev Z7:=List V->St->Hp->(St->Hp->Prop)->Prop
def PG (X:Cx)(target:Expr)(t:TG):Prop:=
 ∀(pins:List (Addr×Obj)) (s:Shared) (σ:St) (H:Hp) (v:V) (u:Value) (Q:St->Hp->Prop),Inv X pins σ H s->RelV v u->t v σ H Q->
  wpAny (model X.prog X.w) X.A (assign target X.env u) (λ _ s'=>∃σ' H',Inv X pins σ' H' s'/\Q σ' H') X.xe s
def sA (X:Cx)(ts:List Expr)(t:Z7):Prop:=
 ∀(pins:List (Addr×Obj)) (s:Shared) (σ:St) (H:Hp) (vs:List V) (us:List Value) (Q:St->Hp->Prop),Inv X pins σ H s->Vals vs us->t vs σ H Q->
  wpAny (model X.prog X.w) X.A (assignInOrder ((assignEach ts X.env).map (·.2)) us) (λ _ s'=>∃σ' H',Inv X pins σ' H' s'/\Q σ' H') X.xe s
noncomputable abbrev oA:=V->V->V->Hp->(Hp->Prop)->Prop
def tJ (X:Cx)(t:oA):Prop:=
 ∀(pins:List (Addr×Obj)) (s:Shared) (σ:St) (H:Hp) (o i v:V) (ov iv u:Value) (Q:Hp->Prop),Inv X pins σ H s->RelV o ov->RelV i iv->RelV v u->t o i v H Q->
  wpAny (model X.prog X.w) X.A (setItem ov iv u) (λ _ s'=>∃H',Inv X pins σ H' s'/\Q H') X.xe s
section
variable {X:Cx}{pos:Pos}
noncomputable def Qi (i:Nat):TG:=λ v σ H Q=>Q (σ.set i (some v)) H
theorem Rh {i:Nat}{x:Str}(hN:X.N.Nodup)(hi:X.N[i]?=some x)(hx:Loc X.env.scope x)(hf:X.fn x=true\/X.env.scope.names.lookup x=some .local:=by first | exact .inl rfl | exact .inr rfl | assumption):PG X (.Name x pos) (Qi i):=by
 intro pins s σ H v u Q I r h;exact wpAny_assign_Name (SE I hN hi hx r (λ s' I'=>⟨_,H,I',h⟩) hf)
noncomputable def oB:Z7:=λ vs σ H Q=>vs=[]/\Q σ H
noncomputable def Zk (t:TG)(u:Z7):Z7:=λ vs σ H Q=>∃v r,vs=v::r/\t v σ H λ σ' H'=>u r σ' H' Q
theorem Wo:sA X [] oB:=by
 intro pins s σ H vs us Q I r h;obtain⟨e,h⟩:=h;subst e;cases r;exact assignInOrder_nil ⟨σ,H,I,h⟩
theorem SH {e:Expr}{es:List Expr}{t:TG}{u:Z7}(h1:PG X e t)(h2:sA X es u)
 (hs:(assignEach (e::es) X.env).map (·.2)=assign e X.env::(assignEach es X.env).map (·.2):=by rfl):sA X (e::es) (Zk t u):=by
 intro pins s σ H vs us Q I r h;obtain⟨v,vr,e1,h⟩:=h;subst e1;cases r with
 |cons r rr =>
  rw[hs];refine assignInOrder_cons (Bd (h1 pins s σ H _ _ _ I r h) λ _ s1 zz=>?_);obtain⟨σ1,H1,I1,q1⟩:=zz;exact h2 pins s1 σ1 H1 _ _ Q I1 rr q1
noncomputable def oC (K:zt)(n:Nat)(t:Z7):TG:=λ v σ H Q=>∃a xs,v=.ref a/\EY K H a xs/\xs.length=n/\t xs σ H Q
theorem Zl {es:List Expr}{k:Nat}{t:Z7}{n:Nat}(hc:X.calm=true)(h:sA X es t)
 (hn:(assignEach es X.env).length=n:=by rfl) (aD:(assignEach es X.env).findIdx? (·.1)=none:=by rfl):PG X (.Tuple es k pos) (oC X.K n t):=by
 intro pins s σ H v u Q I r hw;obtain⟨a,xs,e1,hq,hl,hw⟩:=hw;subst e1;cases r;obtain⟨aa,rv,ht,hz⟩:=I.tuple hq;refine assign_Tuple_tuple (I.ok.hd hc) ht (by simp[hn,<-hl,rv.length]) aD λ h' hx=>?_;have I1:Inv X pins σ H {s with heap:=h' }:=I.kept (t':=s.toks) λ b o e=>hx b o (zaf (za4 e)) e;exact h pins _ σ H xs _ Q I1 (by simpa using rv) hw
noncomputable def yA (to ti:TE)(t:oA):TG:=λ v σ H Q=>to σ H λ o H1=>ti σ H1 λ i H2=>t o i v H2 λ H3=>Q σ H3
theorem oE {o i:Expr}{to ti:TE}{t:oA}(ho:PE X o to)(hi:PE X i ti)(hs:tJ X t)
 (ha:∀v,assign (.Subscript o i pos) X.env v=(do
  let ov <-holding [v] (eval o X.env);let iv <-holding [v,ov] (eval i X.env)
  standAt pos
  holding [v,ov,iv] (setItem ov iv v)
  release [v,ov,iv] []):=by intro _;rfl):PG X (.Subscript o i pos) (yA to ti t):=by
 intro pins s σ H v u Q I r h;rw[ha];refine wpAny_bind (wpAny_holding (Bd (ho pins s σ H _ I h) λ ov s1 zz=>?_));obtain⟨x,H1,I1,r1,q1⟩:=zz;refine wpAny_bind (wpAny_holding (Bd (hi pins s1 σ H1 _ I1 q1) λ iv s2 zz=>?_));obtain⟨y,H2,I2,r2,q2⟩:=zz;refine wpAny_bind (wpAny_standAt (wpAny_bind (wpAny_holding (Bd (hs pins s2 σ H2 x y v ov iv u _ I2 r1 r2 r q2) λ _ s3 zz=>?_))));obtain⟨H3,I3,q3⟩:=zz;exact wpAny_release ⟨σ,H3,I3,q3⟩
noncomputable def tK (te:TE)(g:TG):TS:=λ D σ H=>te σ H λ x H1=>g x σ H1 D.nx
theorem Zm {tg e:Expr}{te:TE}{g:TG}(he:PE X e te)(hg:PG X tg g)(hs:swapsWithSole [tg] e pos.line X.env=pure false:=by rfl)(hw:swappedStores [tg] e X.env=pure none:=by rfl)
 (h1:(assignEach [tg] X.env).map (·.2)=[assign tg X.env]:=by rfl):PS X (.Assign [tg] e pos) (tK te g):=by
 intro pins s σ H D I h;refine wpAny_Assign_stores (Bd (he pins s σ H _ I h) λ v s1 zz=>?_) hs hw;obtain⟨x,H1,I1,r1,q1⟩:=zz;rw[h1];exact Bd (hg pins s1 σ H1 x v _ I1 r1 q1) λ _ s2 q=>q
theorem UP {i:Nat}{x:Str}{e:Expr}{te:TE}{pos':Pos}(hN:X.N.Nodup)(hi:X.N[i]?=some x)(hx:Loc X.env.scope x)(he:PE X e te)(hs:swapsWith e (some (.Name x pos')) pos.line X.env=pure false:=by rfl)(hf:X.fn x=true\/X.env.scope.names.lookup x=some .local:=by first | exact .inl rfl | exact .inr rfl | assumption):
 PS X (.Assign [.Name x pos'] e pos) (tK te (Qi i)):=by
 intro pins s σ H D I h;refine wpAny_Assign_Name (Bd (he pins s σ H _ I h) λ v s1 zz=>?_) hs;obtain⟨y,H1,I1,r1,q1⟩:=zz;exact SE I1 hN hi hx r1 (λ s2 I2=>⟨_,H1,I2,q1⟩) hf
end
section
variable {X:Cx}{pos:Pos}
noncomputable def oF (c:TT)(tb:TS):TS:=λ D σ H=>∃W:Nat->St->Hp->Prop,(∃m,W m σ H)/\∀m σ H,W m σ H->
 c σ H λ b H1=>if b=true then ∃N:St->Hp->Prop,(∀σ' H',N σ' H'->∃m',m'<m/\W m' σ' H')/\tb {D with nx:=N,ct:=N,bk:=D.nx} σ H1 else D.nx σ H1
theorem Zn {c:Expr}{body:List Stmt}{tc:TT}{tb:TS}(hp:PassesOwn (model X.prog X.w) X.A X.env X.xe)(hc:PT X c tc)(hb:Wm X body tb):PS X (.While c body [] pos) (oF tc tb):=by
 intro pins s σ H D I h;obtain⟨W,⟨m0,w0⟩,turn⟩:=h;refine wpAny_While (codeAny_whileLoop (λ n s'=>∃σ' H',Inv X pins σ' H' s'/\W n σ' H') ?_ m0 ⟨σ,H,I,w0⟩);rintro n s1 ⟨σ1,H1,I1,w1⟩;refine wpAny_passesOwn hp (Bd (hc pins s1 σ1 H1 _ I1 (turn n σ1 H1 w1)) λ b s2 zz=>?_);obtain⟨H2,I2,q2⟩:=zz;cases b with
 |true =>
  obtain⟨N,hN,q2⟩:=q2;rw[if_pos rfl];refine wpAny_passesOwn hp (Bd (hb pins s2 σ1 H2 _ I2 q2) λ f s3 q3=>?_);cases f with
  |next =>
   obtain⟨σ3,H3,I3,n3⟩:=q3;obtain⟨m',hm,w3⟩:=hN σ3 H3 n3;exact⟨m',hm,σ3,H3,I3,w3⟩
  |cont =>
   obtain⟨σ3,H3,I3,n3⟩:=q3;obtain⟨m',hm,w3⟩:=hN σ3 H3 n3;exact⟨m',hm,σ3,H3,I3,w3⟩
  |brk|ret v=>exact q3
 |false =>
  rw[if_neg zai];exact wpAny_execs_nil ⟨σ1,H2,I2,q2⟩
end
structure It where
 go:Nat->Hp->Prop
 gB:Nat->Hp->V->Hp->Prop
 stop:Nat->Hp->Prop
def MG (X:Cx)(pins:List (Addr×Obj))(H:Hp)(b:Addr):Prop:=
 H b=none/\b≠X.env.locals/\b∉X.fs/\(b∈X.ex\/X.s₀.heap.objs.size<=b)/\(∀x c,X.env.cells.lookup x=some c->c≠b)/\∀p∈X.pn++pins,p.1≠b
theorem Inv.UQ {X:Cx}{pins:List (Addr×Obj)}{σ:St}{H H':Hp}{s:Shared}{b:Addr}(I:Inv X pins σ H s)(hb:s.heap.objs.size<=b)(hn:H' b=none):MG X pins H' b:=by
 refine⟨hn,Nat.ne_of_gt (za8 I.lt hb),I.xR hb,.inr (zbb I.sz hb),λ x c e z=>?_,λ p hp z=>?_⟩
 ·obtain⟨v,q⟩:=I.cell x c e;exact absurd (za8 q.lt (by rw[z];exact hb)) (Nat.lt_irrefl _)
 ·exact absurd (za8 (za4 (I.pin p hp).1) (by rw[z];exact hb)) (Nat.lt_irrefl _)
structure Turn (P:Program)(w:World)(K:zt)(tg:Expr)(J:It)(fp:List Addr)(it:Addr)(tn:Nat->Heap->Prop):Prop where
 mem:it∈fp
 obj:∀i h,tn i h->∀b∈fp,∃o,h.get? b=some o/\∀v,o.data≠.cell v
 keep:∀i h h',tn i h->(∀b∈fp,∀o,h.get? b=some o->h'.get? b=some o)->tn i h'
 item:∀(X:Cx),X.prog=P->X.w=w->X.K=K->X.calm=true->∀(i:Nat) (pins:List (Addr×Obj)) (s:Shared) (σ:St) (H:Hp) (E:Value->Shared->Prop),Inv X pins σ H s->(∀b∈fp,MG X pins H b)->tn i s.heap->J.go i H->
  wpAny (model P w) X.A (pyNext (.ref it)) (λ r s1=>∃u,r=some u/\
   wpAny (model P w) X.A (letOwnedTupleGo tg (.ref it) u) (λ _ s2=>∃x H',Inv X pins σ H' s2/\RelV x u/\J.gB i H x H'/\tn (i+1) s2.heap/\∀b∈fp,H' b=none) E s1) E s
 done:∀(X:Cx),X.prog=P->X.w=w->X.K=K->X.calm=true->∀(i:Nat) (pins:List (Addr×Obj)) (s:Shared) (σ:St) (H:Hp) (E:Value->Shared->Prop),Inv X pins σ H s->(∀b∈fp,MG X pins H b)->tn i s.heap->J.stop i H->
  wpAny (model P w) X.A (pyNext (.ref it)) (λ r s1=>r=none/\Inv X pins σ H s1) E s
 self:∀(A:Around) (i:Nat) (s:Shared) (Q:Value->Shared->Prop) (E:Value->Shared->Prop),tn i s.heap->Q (.ref it) s->wpAny (model P w) A (pyIter (.ref it)) Q E s
noncomputable abbrev TI:=St->Hp->(It->Hp->Prop)->Prop
def yB (X:Cx)(pins:List (Addr×Obj))(σ:St)(tg:Expr)(R:It->Hp->Prop)(lc:Value)(s2:Shared):Prop:=
 ∃(it:Addr) (fp:List Addr) (tn:Nat->Heap->Prop) (J:It) (H':Hp),lc=.ref it/\Inv X pins σ H' s2/\Turn X.prog X.w X.K tg J fp it tn/\tn 0 s2.heap/\(∀b∈fp,MG X pins H' b)/\R J H'
def PI (X:Cx)(tg iter:Expr)(wi:TI):Prop:=
 ∀(pins:List (Addr×Obj)) (s:Shared) (σ:St) (H:Hp) (R:It->Hp->Prop),Inv X pins σ H s->wi σ H R->
  wpAny (model X.prog X.w) X.A (eval iter X.env) (λ v s1=>wpAny (model X.prog X.w) X.A (pyIter v) (yB X pins σ tg R) X.xe s1) X.xe s
theorem SI {M:Model}{A:Around}{E:Value->Shared->Prop}{s:Shared}{tg:Expr}{it:Addr}{u:Value}{o:Obj}{n:String}{vs:Array Value}{Q:Unit->Shared->Prop}(ho:s.heap.get? it=some o)(hc:o.cls=.type n)(hd:o.data=.fields vs)
 (hn:["enumerate","zip","dict_itemiterator","dict_reverseitemiterator","odict_iterator","itertools.zip_longest","itertools.pairwise"].contains n=false) (hQ:Q () s):wpAny M A (letOwnedTupleGo tg (.ref it) u) Q E s:=by
 unfold letOwnedTupleGo;cases tg<;>first
  |exact wpAny_pure hQ
  |(cases u<;>first
   |exact wpAny_pure hQ
   |(
    refine wpAny_bind (wpAny_load ho ?_);rw[hc,hd];show wpAny M A (if (["enumerate","zip","dict_itemiterator","dict_reverseitemiterator","odict_iterator","itertools.zip_longest","itertools.pairwise"].contains n&&vs[0]?== some (rawInt _))=true then _ else _) Q E s;rw[if_neg (by intro h;rw[hn,Bool.false_and] at h;cases h)];exact wpAny_pure hQ))
noncomputable def zP (K:zt)(a:Addr):It:=
 ⟨λ i H=>∃xs x,Dc K H a xs/\xs[i]?=some x,λ i H x H'=>H'=H/\∀xs,Dc K H a xs->xs[i]?=some x,λ i H=>∃xs,Dc K H a xs/\xs.length<=i⟩
noncomputable def zQ (K:zt)(a:Addr):It:=
 ⟨λ i H=>∃xs x,EY K H a xs/\xs[i]?=some x,λ i H x H'=>H'=H/\∀xs,EY K H a xs->xs[i]?=some x,λ i H=>∃xs,EY K H a xs/\xs.length<=i⟩
noncomputable def wN (lo:Int)(n:Nat):It:=⟨λ i _=>i<n,λ i H x H'=>H'=H/\x=.int (lo+i),λ i _=>n<=i⟩
theorem XF {P:Program}{w:World}{K:zt}{tg:Expr}(a it:Addr):Turn P w K tg (zP K a) [it] it (λ i h=>h.IsListIter it a i) where
 mem:=by simp
 obj:=λ i h st b hb=>by
  have e:b=it:=by simpa using hb
  subst e;obtain⟨o,e,c,d⟩:=st;exact⟨o,e,λ v z=>by rw[d] at z;cases z⟩
 keep:=λ i h h' st k=>st.at λ o e=>k it (by simp) o e
 item:=by
  intro X hP hw hK hc i pins s σ H E I hf st hg;subst hP hw hK;obtain⟨xs,x,hq,hx⟩:=hg;obtain⟨aa,rv,p,hz⟩:=I.list hq;obtain⟨u,hu,ru⟩:=rv.get hx;obtain⟨f0,f1,f2,f3,f4,f5⟩:=hf it (by simp);refine wpAny_pyNext_list_item st p.isList (x:=u) (by simpa using hu) λ h' aS sb=>?_;have I1:Inv X pins σ H {s with heap:=h' }:=I.turned (t':=s.toks) (λ b o hb e=>(sb.2 b hb).trans e) f0 f1 f3 f4 f5;obtain⟨o,e,c,d⟩:=id aS;exact⟨u,rfl,SI (s:={s with heap:=h' }) e c d (by decide) ⟨x,H,I1,ru,⟨rfl,λ ys hy=>by rw[I.GQ hy hq];exact hx⟩,aS,λ b hb=>(hf b hb).1⟩⟩
 done:=by
  intro X hP hw hK hc i pins s σ H E I hf st hg;subst hP hw hK;obtain⟨xs,hq,hx⟩:=hg;obtain⟨aa,rv,p,hz⟩:=I.list hq;obtain⟨f0,f1,f2,f3,f4,f5⟩:=hf it (by simp);have hl:=rv.length;exact wpAny_pyNext_list_end (I.ok.hd hc) st p.isList (by simp;omega) λ h' eb=>⟨rfl,I.turned (t':=s.toks) (λ b o hb e=>eb b o hb e) f0 f1 f3 f4 f5⟩
 self:=λ _ _ _ _ _ st h=>wpAny_pyIter_listiter st h
theorem UR {P:Program}{w:World}{K:zt}{tg:Expr}(a it:Addr):Turn P w K tg (zQ K a) [it] it (λ i h=>h.IsTupleIter it a i) where
 mem:=by simp
 obj:=λ i h st b hb=>by
  have e:b=it:=by simpa using hb
  subst e;obtain⟨o,e,c,d⟩:=st;exact⟨o,e,λ v z=>by rw[d] at z;cases z⟩
 keep:=λ i h h' st k=>st.at λ o e=>k it (by simp) o e
 item:=by
  intro X hP hw hK hc i pins s σ H E I hf st hg;subst hP hw hK;obtain⟨xs,x,hq,hx⟩:=hg;obtain⟨aa,rv,p,hz⟩:=I.tuple hq;obtain⟨u,hu,ru⟩:=rv.get hx;obtain⟨f0,f1,f2,f3,f4,f5⟩:=hf it (by simp);refine wpAny_pyNext_tuple_item st (show s.heap.IsTuple a aa.toArray from p) (x:=u) (by simpa using hu) λ h' aS sb=>?_;have I1:Inv X pins σ H {s with heap:=h' }:=I.turned (t':=s.toks) (λ b o hb e=>(sb.2 b hb).trans e) f0 f1 f3 f4 f5;obtain⟨o,e,c,d⟩:=id aS;exact⟨u,rfl,SI (s:={s with heap:=h' }) e c d (by decide) ⟨x,H,I1,ru,⟨rfl,λ ys hy=>by rw[I.Fs hy hq];exact hx⟩,aS,λ b hb=>(hf b hb).1⟩⟩
 done:=by
  intro X hP hw hK hc i pins s σ H E I hf st hg;subst hP hw hK;obtain⟨xs,hq,hx⟩:=hg;obtain⟨aa,rv,p,hz⟩:=I.tuple hq;obtain⟨f0,f1,f2,f3,f4,f5⟩:=hf it (by simp);have hl:=rv.length;exact wpAny_pyNext_tuple_end (I.ok.hd hc) st (show s.heap.IsTuple a aa.toArray from p) (by simp;omega) λ h' eb=>⟨rfl,I.turned (t':=s.toks) (λ b o hb e=>eb b o hb e) f0 f1 f3 f4 f5⟩
 self:=λ _ _ _ _ _ st h=>wpAny_pyIter_tupleiter st h
theorem US {P:Program}{w:World}{K:zt}{tg:Expr}(it:Addr)(lo:Int)(n:Nat):Turn P w K tg (wN lo n) [it] it (λ i h=>IsRangeIter h it (lo+(i:Nat)*1) ((n:Int)-(i:Nat)) 1) where
 mem:=by simp
 obj:=λ i h st b hb=>by
  have e:b=it:=by simpa using hb
  subst e;exact⟨_,st,λ v z=>by
   have z':Data.fields _=Data.cell v:=z;cases z'⟩
 keep:=λ i h h' st k=>k it (by simp) _ st
 item:=by
  intro X hP hw hK hc i pins s σ H E I hf st hg;subst hP hw hK;obtain⟨f0,f1,f2,f3,f4,f5⟩:=hf it (by simp);have W:=Walks.range (prog:=X.prog) (w:=X.w) (I.ok.hd hc) it lo 1 n;refine W.item i s _ _ hg st λ v h' tk hv aS kk=>?_;obtain⟨t,rfl⟩:=hv;have I1:Inv X pins σ H {s with heap:=h',toks:=tk}:=I.turned (λ b o hb e=>kk b o (by simpa using hb) e) f0 f1 f3 f4 f5;refine⟨_,rfl,SI (s:={s with heap:=h',toks:=tk}) (n := "range_iterator") aS rfl rfl (by decide) ⟨.int (lo+i),H,I1,⟨t,?_⟩,⟨rfl,rfl⟩,aS,λ b hb=>(hf b hb).1⟩⟩;rw[Int.mul_one]
 done:=by
  intro X hP hw hK hc i pins s σ H E I hf st hg;subst hP hw hK;obtain⟨f0,f1,f2,f3,f4,f5⟩:=hf it (by simp);exact wpAny_pyNext_range_end (I.ok.hd hc) st (by have:n<=i:=hg;omega) λ h' eb=>⟨rfl,I.turned (t':=s.toks) (λ b o hb e=>eb b o hb e) f0 f1 f3 f4 f5⟩
 self:=λ _ _ _ _ _ st h=>wpAny_pyIter_rangeiter st h
section
variable {X:Cx}{tg:Expr}
noncomputable def tL (K:zt)(tl:TE):TI:=λ σ H R=>tl σ H λ x H1=>∃a,x=.ref a/\(∃xs,Dc K H1 a xs)/\R (zP K a) H1
noncomputable def yC (K:zt)(tl:TE):TI:=λ σ H R=>tl σ H λ x H1=>∃a,x=.ref a/\(∃xs,EY K H1 a xs)/\R (zQ K a) H1
theorem gC {l:Expr}{tl:TE}(hl:PE X l tl):PI X tg l (tL X.K tl):=by
 intro pins s σ H R I h;refine Bd (hl pins s σ H _ I h) λ v s1 zz=>?_;obtain⟨x,H1,I1,r1,q1⟩:=zz;obtain⟨a,e,⟨xs,hq⟩,q⟩:=q1;subst e;cases r1;obtain⟨aa,rv,p,hz⟩:=I1.list hq;refine wpAny_pyIter_list p.isList ?_;refine⟨s1.heap.objs.size,[s1.heap.objs.size],_,_,H1,rfl,I1.kept (t':=s1.toks) λ b o e=>z7 _ e,XF a _,⟨_,zac _ rfl,rfl,rfl⟩,λ b hb=>?_,q⟩;have e:b=s1.heap.objs.size:=by simpa using hb
 subst e;exact I1.UQ (za2 _) (I1.As.fresh (za2 _))
theorem oG {l:Expr}{tl:TE}(hl:PE X l tl):PI X tg l (yC X.K tl):=by
 intro pins s σ H R I h;refine Bd (hl pins s σ H _ I h) λ v s1 zz=>?_;obtain⟨x,H1,I1,r1,q1⟩:=zz;obtain⟨a,e,⟨xs,hq⟩,q⟩:=q1;subst e;cases r1;obtain⟨aa,rv,p,hz⟩:=I1.tuple hq;refine wpAny_pyIter_tuple (show s1.heap.IsTuple a aa.toArray from p) ?_;refine⟨s1.heap.objs.size,[s1.heap.objs.size],_,_,H1,rfl,I1.kept (t':=s1.toks) λ b o e=>z7 _ e,UR a _,⟨_,zac _ rfl,rfl,rfl⟩,λ b hb=>?_,q⟩;have e:b=s1.heap.objs.size:=by simpa using hb
 subst e;exact I1.UQ (za2 _) (I1.As.fresh (za2 _))
theorem Zo {pins:List (Addr×Obj)}{σ:St}{H:Hp}{s:Shared}{R:It->Hp->Prop}{E:Value->Shared->Prop}{lo hi:Int}{t u v:Tok}{tk:Nat}(I:Inv X pins σ H s)(h1 : -(2^62)<=lo)(h2:lo<2^62)(h3 : -(2^62)<=hi)(h4:hi<2^62)
 (q:R (wN lo (hi-lo).toNat) H):wpAny (model X.prog X.w) X.A (pyIter (.ref s.heap.objs.size)) (yB X pins σ tg R) E {s with heap:=s.heap.push {cls:=.type "range",data:=.fields #[.int lo t,.int hi u,.int 1 v]},toks:=tk}:=by
 refine wpAny_pyIter_range (IsRange.new ..) (small_one h1 h2 h3 h4) ?_;have I1:Inv X pins σ H {s with heap:=s.heap.push {cls:=.type "range",data:=.fields #[.int lo t,.int hi u,.int 1 v]},toks:=tk}:=I.kept λ b o e=>z7 _ e;refine⟨(s.heap.push {cls:=.type "range",data:=.fields #[.int lo t,.int hi u,.int 1 v]}).objs.size,[(s.heap.push {cls:=.type "range",data:=.fields #[.int lo t,.int hi u,.int 1 v]}).objs.size],_,_,H,rfl,
  I1.kept (t':=tk) λ b o e=>z7 _ e,US _ lo (hi-lo).toNat,?_,λ b hb=>?_,q⟩
 ·have e1:lo+((0:Nat):Int)*1=lo:=by simp
  have e2:(((hi-lo).toNat:Nat):Int)-((0:Nat):Int)=Builtin.Range.rangeSize lo hi 1:=by rw[rangeSize_one];split<;>omega
  show IsRangeIter _ _ (lo+((0:Nat):Int)*1) ((((hi-lo).toNat:Nat):Int)-((0:Nat):Int)) 1;rw[e1,e2];exact zac _ rfl
 ·have e:b=(s.heap.push {cls:=.type "range",data:=.fields #[.int lo t,.int hi u,.int 1 v]}).objs.size:=by simpa using hb
  subst e;exact I1.UQ (za2 _) (I1.As.fresh (za2 _))
noncomputable def tM (ta:TA):TI:=λ σ H R=>ta σ H λ vs H1=>∃j:Int,vs=[.int j]/\-(2^62)<=j/\j<2^62/\R (wN 0 j.toNat) H1
theorem XG {a:Expr}{ta:TA}{p pos:Pos}(hg:Gl X "range")(hm:X.mg "range" = none)(ha:PA X [a] ta)(hs:starEach [a] X.env=[(false,eval a X.env)]:=by rfl):PI X tg (.Call (.Name "range" p) [a] [] pos) (tM ta):=by
 intro pins s σ H R I h;refine Call_ (CO I hg hm boot_range (zay (Bd (ha pos pins s σ H _ I h) λ us s1 zz=>?_) hs rfl));obtain⟨vs,H1,I1,r1,q1⟩:=zz;obtain⟨j,e,q1,q2,q⟩:=q1;subst e;cases r1 with
 |cons r rr =>
  cases rr;obtain⟨t,rfl⟩:=r;exact call_range_1 (Zo I1 (by omega) (by omega) q1 q2 (by simpa using q))
noncomputable def yD (wi:TI)(g:TG)(tb:TS):TS:=λ D σ H=>wi σ H λ J H1=>∃W:Nat->Nat->St->Hp->Prop,(∃m,W 0 m σ H1)/\∀i m σ H,W i m σ H->
 (J.stop i H/\D.nx σ H)\/(J.go i H/\∃N:St->Hp->Prop,(∀σ' H',N σ' H'->∃m',m'<m/\W (i+1) m' σ' H')/\∀x H',J.gB i H x H'->g x σ H' λ σ2 H2=>tb {D with nx:=N,ct:=N,bk:=D.nx} σ2 H2)
noncomputable def Je (fp:List Addr)(h:Heap):List (Addr×Obj):=fp.filterMap λ b=>(h.get? b).map λ o=>(b,o)
theorem FV {fp:List Addr}{h:Heap}{b:Addr}{o:Obj}(hb:b∈fp)(e:h.get? b=some o):(b,o)∈Je fp h:=List.mem_filterMap.mpr ⟨b,hb,by rw[e];rfl⟩
theorem Qj {fp:List Addr}{h:Heap}{p:Addr×Obj}(hp:p∈Je fp h):p.1∈fp/\h.get? p.1=some p.2:=by
 obtain⟨b,hb,e⟩:=List.mem_filterMap.mp hp;cases q:h.get? b with
 |none=>rw[q] at e;cases e
 |some o =>
  rw[q] at e;have e':(b,o)=p:=zad e;subst e';exact⟨hb,q⟩
theorem Inv.pinned {pins:List (Addr×Obj)}{σ:St}{H:Hp}{s:Shared}{fp:List Addr}(I:Inv X pins σ H s)(hf:∀b∈fp,MG X pins H b)(ho:∀b∈fp,∃o,s.heap.get? b=some o/\∀v,o.data≠.cell v):Inv X (pins++Je fp s.heap) σ H s:=
 I.JM λ p hp=>(zab.mp hp).elim (λ z=>I.pin p (z9 _ z)) λ z=>by
  obtain⟨hb,e⟩:=Qj z;obtain⟨f0,f1,f2,_⟩:=hf p.1 hb;obtain⟨o,e',d⟩:=ho p.1 hb;rw[e] at e';cases e';exact⟨e,f0,f1,f2,d⟩
theorem Inv.JO {pins pl:List (Addr×Obj)}{σ:St}{H:Hp}{s:Shared}(I:Inv X (pins++pl) σ H s):Inv X pins σ H s:=I.JM λ p hp=>I.pin p (z9 _ (zaq _ hp))
theorem oH {iter:Expr}{body:List Stmt}{wi:TI}{g:TG}{tb:TS}{pos:Pos}(hp:PassesOwn (model X.prog X.w) X.A X.env X.xe)(hc:X.calm=true)(hi:PI X tg iter wi)(hg:PG X tg g)(hb:Wm X body tb)
 (hs:∀x,foldedSetIterable iter X.env x=pure x:=by intro _;rfl):PS X (.For tg iter body [] pos) (yD wi g tb):=by
 intro pins s σ H D I h;refine wpAny_For (Bd (hi pins s σ H _ I h) λ v s1 h1=>Bd h1 λ lc s2 h2=>?_) hs;obtain⟨it,fp,tn,J,H2,e,I2,T,cv,f2,W,⟨m0,w0⟩,turn⟩:=h2;subst e;have bd:∀ {H':Hp},(∀b∈fp,H' b=none)->∀b∈fp,MG X pins H' b:=λ hn b hb=>⟨hn b hb,(f2 b hb).2⟩;refine codeAny_forLoop_any (λ n s'=>∃i σ' H',Inv X pins σ' H' s'/\tn i s'.heap/\(∀b∈fp,H' b=none)/\W i n σ' H') ?_ m0 ⟨0,σ,H2,I2,cv,λ b hb=>(f2 b hb).1,w0⟩;rintro n s3 ⟨i,σ3,H3,I3,ie,ig,w3⟩;rcases turn i n σ3 H3 w3 with ⟨stop,qn⟩|⟨go,N,hN,step⟩
 ·refine wpAny_passesOwn hp (Bd (T.done X rfl rfl rfl hc i pins s3 σ3 H3 X.xe I3 (bd ig) ie stop) λ r s4 zz=>?_);obtain⟨hr,I4⟩:=zz;subst hr;exact wpAny_execs_nil ⟨σ3,H3,I4,qn⟩
 ·refine wpAny_passesOwn hp (Bd (T.item X rfl rfl rfl hc i pins s3 σ3 H3 X.xe I3 (bd ig) ie go) λ r s4 zz=>?_);obtain⟨u,hr,h4⟩:=zz;subst hr;refine wpAny_passesOwn hp (Bd h4 λ _ s5 zz=>?_);obtain⟨x,H5,I5,r5,y5,e9,mx⟩:=zz;have my:=I5.pinned (bd mx) (T.obj _ _ e9);refine wpAny_passesOwn hp (Bd (hg _ s5 σ3 H5 x u _ my r5 (step x H5 y5)) λ _ s6 zz=>?_);obtain⟨σ6,H6,I6,q6⟩:=zz;refine wpAny_passesOwn hp (Bd (hb _ s6 σ6 H6 _ I6 q6) λ f s7 q7=>?_);have again:∀ {σ7:St} {H7:Hp},Inv X (pins++Je fp s5.heap) σ7 H7 s7->N σ7 H7->∃m,m<n/\∃i σ' H',Inv X pins σ' H' s7/\tn i s7.heap/\(∀b∈fp,H' b=none)/\W i m σ' H':=fun {σ7 H7} I7 n7=>by
   obtain⟨m',hm,w7⟩:=hN σ7 H7 n7;refine⟨m',hm,i+1,σ7,H7,I7.JO,T.keep _ _ _ e9 λ b hb o e=>(I7.pin (b,o) (z9 _ (z9 _ (FV hb e)))).1,λ b hb=>?_,w7⟩;obtain⟨o,e,d⟩:=T.obj _ _ e9 b hb;exact (I7.pin (b,o) (z9 _ (z9 _ (FV hb e)))).2.1
  cases f with
  |next|cont=>obtain⟨σ7,H7,I7,n7⟩:=q7;exact again I7 n7
  |brk=>obtain⟨σ7,H7,I7,q7⟩:=q7;exact⟨σ7,H7,I7.JO,q7⟩
  |ret v=>obtain⟨x7,σ7,H7,I7,r7,q7⟩:=q7;exact⟨x7,σ7,H7,I7.JO,r7,q7⟩
end
noncomputable abbrev R2:=V->V->Hp->VK->Prop
def FW (X:Cx)(f:Value->Value->Sem Value)(r:R2):Prop:=
 ∀(pins:List (Addr×Obj)) (s:Shared) (σ:St) (H:Hp) (x y:V) (v u:Value) (Q:VK),Inv X pins σ H s->RelV x v->RelV y u->r x y H Q->
  wpAny (model X.prog X.w) X.A (f v u) (EP X pins σ Q) X.xe s
def yE (X:Cx)(f:Value->Sem Value)(r:V->Hp->VK->Prop):Prop:=
 ∀(pins:List (Addr×Obj)) (s:Shared) (σ:St) (H:Hp) (x:V) (v:Value) (Q:VK),Inv X pins σ H s->RelV x v->r x H Q->
  wpAny (model X.prog X.w) X.A (f v) (EP X pins σ Q) X.xe s
def Gu (X:Cx)(f:Value)(r:List V->Hp->VK->Prop):Prop:=
 ∀(pins:List (Addr×Obj)) (s:Shared) (σ:St) (H:Hp) (xs:List V) (us:List Value) (Q:VK),Inv X pins σ H s->Vals xs us->r xs H Q->
  wpAny (model X.prog X.w) X.A (call f us) (EP X pins σ Q) X.xe s
def yF (X:Cx)(r:V->Hp->(Bool->Hp->Prop)->Prop):Prop:=
 ∀(pins:List (Addr×Obj)) (s:Shared) (σ:St) (H:Hp) (x:V) (v:Value) (Q:Bool->Hp->Prop),Inv X pins σ H s->RelV x v->r x H Q->
  wpAny (model X.prog X.w) X.A (truthy v) (TP X pins σ Q) X.xe s
noncomputable def sC (r:R2)(ta tb:TE):TE:=λ σ H Q=>ta σ H λ x H1=>tb σ H1 λ y H2=>r x y H2 Q
noncomputable def tUn (r:V->Hp->VK->Prop)(ta:TE):TE:=λ σ H Q=>ta σ H λ x H1=>r x H1 Q
noncomputable def rI (C:Int->Int->Prop)(g:Int->Int->V):R2:=λ x y H Q=>∃i j,x=.int i/\y=.int j/\C i j/\Q (g i j) H
noncomputable def Z8 (g:Int->Int->V):R2:=λ x y H Q=>∃i j,x=.int i/\y=.int j/\Q (g i j) H
def rU (g:Int->V):V->Hp->VK->Prop:=λ x H Q=>∃i,x=.int i/\Q (g i) H
section
variable {X:Cx}{a b c:Expr}{ta tb tc:TE}{pos:Pos}
theorem oI (ha:PE X a ta)(hb:PE X b tb){pins:List (Addr×Obj)}{s:Shared}{σ:St}{H:Hp}{R:V->V->Hp->Prop}(I:Inv X pins σ H s)
 (h:ta σ H λ x H1=>tb σ H1 λ y H2=>R x y H2) {Q:Value->Shared->Prop} {f:Value->Value->Sem Value}
 (hf:∀v u s2 x y H2,Inv X pins σ H2 s2->RelV x v->RelV y u->R x y H2->wpAny (model X.prog X.w) X.A (f v u) Q X.xe s2):
 wpAny (model X.prog X.w) X.A (eval a X.env) (λ v s₁=>wpAny (model X.prog X.w) X.A (eval b X.env) (λ u s₂=>wpAny (model X.prog X.w) X.A (f v u) Q X.xe s₂) X.xe s₁) X.xe s:=by
 refine Bd (ha pins s σ H _ I h) λ v s1 zz=>?_;obtain⟨x,H1,I1,r1,q1⟩:=zz;refine Bd (hb pins s1 σ H1 _ I1 q1) λ u s2 zz=>?_;obtain⟨y,H2,I2,r2,q2⟩:=zz;exact hf v u s2 x y H2 I2 r1 r2 q2
theorem Zp {op:Operator}{r:R2}(ho:FW X (binaryOp op) r)(ha:PE X a ta)(hb:PE X b tb):PE X (.BinOp a op b pos) (sC r ta tb):=by
 intro pins s σ H Q I h;exact wpAny_BinOp (oI ha hb I h λ v u s2 x y H2 I2 rx ry q=>ho pins s2 σ H2 x y v u Q I2 rx ry q)
theorem tN {op:UnaryOp}{r:V->Hp->VK->Prop}(ho:yE X (unaryOp op) r)(ha:PE X a ta):PE X (.UnaryOp op a pos) (tUn r ta):=by
 intro pins s σ H Q I h;exact UnaryOp_ (Bd (ha pins s σ H _ I h) λ v s1 ⟨x,H1,I1,r1,q1⟩=>ho pins s1 σ H1 x v Q I1 r1 q1)
theorem wO {f:Value->Value->Sem Value}{C:Int->Int->Prop}{g:Int->Int->Int}
 (rule:∀(i j:Int) (t u:Tok) (s:Shared) (Q:Value->Shared->Prop) (E:Value->Shared->Prop),C i j->Q (.int (g i j) s.toks) {s with toks:=s.toks+1}->wpAny (model X.prog X.w) X.A (f (.int i t) (.int j u)) Q E s):
 FW X f (rI C λ i j=>.int (g i j)):=by
 intro pins s σ H x y v u Q I rx ry h;obtain⟨i,j,rfl,rfl,hc,q⟩:=h;obtain⟨t,rfl⟩:=rx;obtain⟨t',rfl⟩:=ry;exact rule i j t t' s _ _ hc ⟨.int (g i j),H,I.tok _,⟨_,rfl⟩,q⟩
theorem tO {f:Value->Value->Sem Value}{g:Int->Int->Int}
 (rule:∀(i j:Int) (t u:Tok) (s:Shared) (Q:Value->Shared->Prop) (E:Value->Shared->Prop),Q (.int (g i j) s.toks) {s with toks:=s.toks+1}->wpAny (model X.prog X.w) X.A (f (.int i t) (.int j u)) Q E s):
 FW X f (Z8 λ i j=>.int (g i j)):=by
 intro pins s σ H x y v u Q I rx ry h;obtain⟨i,j,rfl,rfl,q⟩:=h;obtain⟨t,rfl⟩:=rx;obtain⟨t',rfl⟩:=ry;exact rule i j t t' s _ _ ⟨.int (g i j),H,I.tok _,⟨_,rfl⟩,q⟩
theorem oJ {f:Value->Value->Sem Value}{g:Int->Int->Bool}
 (rule:∀(i j:Int) (t u:Tok) (s:Shared) (Q:Value->Shared->Prop) (E:Value->Shared->Prop),Q (.bool (g i j)) s->wpAny (model X.prog X.w) X.A (f (.int i t) (.int j u)) Q E s):
 FW X f (Z8 λ i j=>.bl (g i j)):=by
 intro pins s σ H x y v u Q I rx ry h;obtain⟨i,j,rfl,rfl,q⟩:=h;obtain⟨t,rfl⟩:=rx;obtain⟨t',rfl⟩:=ry;exact rule i j t t' s _ _ ⟨.bl (g i j),H,I,rfl,q⟩
def Zq (i j:Int):Prop:=0<j/\j<1073741824
def gD (i j:Int):Prop:=0<=j/\j<=1000000/\i.natAbs<2^64
def Zr (i j:Int):Prop:=(-(2^64)<i/\i<2^64)\/(-(2^64)<j/\j<2^64)
theorem Zr.ok {i j:Int}(h:Zr i j):IntMulOk i j:=by
 rcases h with ⟨h1,h2⟩|⟨h1,h2⟩
 ·exact .of_left (intBits_le_64 h1 h2)
 ·exact .of_right (intBits_le_64 h1 h2)
theorem oK:FW X (binaryOp .Add) (Z8 λ i j=>.int (i+j)):=tO λ _ _ _ _ _ _ _ q=>add_int q
theorem oM:FW X (binaryOp .Sub) (Z8 λ i j=>.int (i-j)):=tO λ _ _ _ _ _ _ _ q=>sub_int q
theorem gE:FW X (binaryOp .FloorDiv) (rI Zq λ i j=>.int (i / j)):=wO λ i j _ _ _ _ _ hc q=>by
 have h1:(0:Int)<j:=hc.1;have h2:j<1073741824:=hc.2;exact floordiv_int (by omega) (by rw[Int.fdiv_eq_ediv_of_nonneg i (by omega)];exact q) (.inl (PyProof.noPylong_small (by omega)))
theorem oN:FW X (binaryOp .Mod) (rI (λ _ j=>0<j) λ i j=>.int (i%j)):=wO λ i j _ _ _ _ _ hc q=>by
 have h1:(0:Int)<j:=hc;exact mod_int' (by omega) (by rw[Int.fmod_eq_emod_of_nonneg i (by omega)];exact q)
theorem oO:FW X (binaryOp .Pow) (rI gD λ i j=>.int (i^j.toNat)):=wO λ _ _ _ _ _ _ _ hc q=>pow_int_small hc.1 hc.2.1 hc.2.2 q
theorem unI {f:Value->Sem Value}{g:Int->Int}
 (rule:∀(i:Int) (t:Tok) (s:Shared) (Q:Value->Shared->Prop) (E:Value->Shared->Prop),Q (.int (g i) s.toks) {s with toks:=s.toks+1}->wpAny (model X.prog X.w) X.A (f (.int i t)) Q E s):
 yE X f (rU λ i=>.int (g i)):=by
 intro pins s σ H x v Q I rx h;obtain⟨i,rfl,q⟩:=h;obtain⟨t,rfl⟩:=rx;exact rule i t s _ _ ⟨.int (g i),H,I.tok _,⟨_,rfl⟩,q⟩
theorem oP:yE X (unaryOp .USub) (rU λ i=>.int (-i)):=unI λ _ _ _ _ _ q=>neg_int q
end
section
variable {X:Cx}{a b c:Expr}{ta tb tc:TE}{pos:Pos}
theorem Zs:FW X (compareOp .Lt) (Z8 λ i j=>.bl (decide (i<j))):=oJ λ _ _ _ _ _ _ _ q=>lt_int q
theorem lV:FW X (compareOp .LtE) (Z8 λ i j=>.bl (decide (i<=j))):=oJ λ _ _ _ _ _ _ _ q=>le_int q
theorem tP:FW X (compareOp .Gt) (Z8 λ i j=>.bl (decide (j<i))):=oJ λ _ _ _ _ _ _ _ q=>gt_int q
theorem FW.or {f:Value->Value->Sem Value}{r r':R2}(h:FW X f r)(h':FW X f r'):FW X f (λ x y H Q=>r x y H Q\/r' x y H Q):=by
 intro pins s σ H x y v u Q I rx ry q;rcases q with q|q
 ·exact h pins s σ H x y v u Q I rx ry q
 ·exact h' pins s σ H x y v u Q I rx ry q
theorem Jf (b:Expr){op:CmpOp}(h:op≠.In:=by decide)(h2:op≠.NotIn:=by decide):behindInMarks op b=false:=by
 have e1:(op==CmpOp.In)=false:=by cases op<;>first|rfl|exact absurd rfl h
 have e2:(op==CmpOp.NotIn)=false:=by cases op<;>first|rfl|exact absurd rfl h2
 cases b<;>simp[behindInMarks,e1,e2]
theorem gF {op:CmpOp}{r:R2}(ho:FW X (compareOp op) r)(ha:PE X a ta)(hb:PE X b tb)(hm:behindInMarks op b=false):PE X (.Compare a [op] [b] pos) (sC r ta tb):=by
 intro pins s σ H Q I h;exact wpAny_Compare1 (oI ha hb I h λ v u s2 x y H2 I2 rx ry q=>ho pins s2 σ H2 x y v u Q I2 rx ry q) hm
noncomputable def Zt (t:TE):TT:=λ σ H Q=>t σ H λ x H'=>∃k,x=.bl k/\Q k H'
theorem gH {op:CmpOp}{r:R2}(ho:FW X (compareOp op) r)(ha:PE X a ta)(hb:PE X b tb)(hm:behindInMarks op b=false):PT X (.Compare a [op] [b] pos) (Zt (sC r ta tb)):=by
 intro pins s σ H Q I h;refine wpAny_isTrue_Compare1 (Bd (ha pins s σ H _ I h) λ v s1 ⟨x,H1,I1,r1,q1⟩=>Bd (hb pins s1 σ H1 _ I1 q1) λ u s2 ⟨y,H2,I2,r2,q2⟩ =>
  Bd (ho pins s2 σ H2 x y v u _ I2 r1 r2 q2) λ c s3 ⟨z,H3,I3,r3,k,e,q3⟩=>?_) hm
 subst e;cases r3;exact wpAny_truthy_bool ⟨H3,I3,q3⟩
noncomputable def Zu (r r':R2)(ta tb tc:TE):TE:=λ σ H Q=>ta σ H λ x H1=>tb σ H1 λ y H2=>r x y H2 λ z H3=>∃k,z=.bl k/\
 (if k=true then tc σ H3 λ w' H4=>r' y w' H4 Q else Q (.bl false) H3)
theorem Zv {op be:CmpOp}{r r':R2}(ho:FW X (compareOp op) r)(aF:FW X (compareOp be) r')(ha:PE X a ta)(hb:PE X b tb)(hc:PE X c tc)
 (hm:lastMarks [op,be] [b,c]=false:=by with_unfolding_all rfl):PE X (.Compare a [op,be] [b,c] pos) (Zu r r' ta tb tc):=by
 intro pins s σ H Q I h;refine Compare_chain (Bd (ha pins s σ H _ I h) λ v s1 ⟨x,H1,I1,r1,q1⟩=>chain_link (Bd (hb pins s1 σ H1 _ I1 q1) λ u s2 ⟨y,H2,I2,r2,q2⟩ =>
  Bd (ho pins s2 σ H2 x y v u _ I2 r1 r2 q2) λ d s3 ⟨z,H3,I3,r3,k,e,q3⟩=>?_)) hm
 subst e;cases r3;refine wpAny_truthy_bool ?_;cases k with
 |false=>exact ite_ff ⟨.bl false,H3,I3,rfl,q3⟩
 |true=>exact ite_tt (chain_last (Bd (hc pins s3 σ H3 _ I3 q3) λ w' s4 ⟨z',H4,I4,r4,q4⟩=>aF pins s4 σ H4 y z' u w' Q I4 r2 r4 q4))
theorem Zw {op be:CmpOp}{r r':R2}(ho:FW X (compareOp op) r)(aF:FW X (compareOp be) r')(ha:PE X a ta)(hb:PE X b tb)(hc:PE X c tc)
 (hm:lastMarks [op,be] [b,c]=false:=by with_unfolding_all rfl):PT X (.Compare a [op,be] [b,c] pos) (Zt (Zu r r' ta tb tc)):=by
 intro pins s σ H Q I h;refine isTrue_chain (Bd (ha pins s σ H _ I h) λ v s1 ⟨x,H1,I1,r1,q1⟩=>test_link (Bd (hb pins s1 σ H1 _ I1 q1) λ u s2 ⟨y,H2,I2,r2,q2⟩ =>
  Bd (ho pins s2 σ H2 x y v u _ I2 r1 r2 q2) λ d s3 ⟨z,H3,I3,r3,k,e,q3⟩=>?_)) hm
 subst e;cases r3;refine wpAny_truthy_bool ?_;cases k with
 |false =>
  obtain⟨k',e',q'⟩:=q3;cases e';exact ite_ff ⟨H3,I3,q'⟩
 |true =>
  refine ite_tt (test_last (Bd (hc pins s3 σ H3 _ I3 q3) λ w' s4 ⟨z',H4,I4,r4,q4⟩=>Bd (aF pins s4 σ H4 y z' u w' _ I4 r2 r4 q4) λ d' s5 zz=>?_));obtain⟨z2,H5,I5,r5,k2,e2,q5⟩:=zz;subst e2;cases r5;exact wpAny_truthy_bool ⟨H5,I5,q5⟩
def tQ (K:zt)(x:V)(H:Hp)(k:Bool):Prop:=
 match x with
 | .AN=>k=false
 | .bl b=>k=b
 | .int i=>k=(i != 0)
 | .str y=>y.length<=sizeLine/\k=((y.length:Int) != 0)
 | .nM y=>y.size<=sizeLine/\k=((y.size:Int) != 0)
 | .ref p=>(∃xs,Dc K H p xs/\k = !xs.isEmpty)\/(∃xs,EY K H p xs/\k = !xs.isEmpty)\/∃kvs,H p=some (.dK kvs)/\k = !kvs.isEmpty
 |_=>False
theorem UT {κ:Type}{kvs:List (κ×V)}{vs:List (κ×Value)}(r:KV kvs vs):(!vs.isEmpty) = !kvs.isEmpty:=by
 cases r<;>rfl
theorem NE {xs:List V}{aa:List Value}(r:Vals xs aa):(!aa.toArray.isEmpty) = !xs.isEmpty:=by
 cases r<;>simp
theorem NF:(sizeLine:Nat)<2^63:=by rw[sizeLine_eq];decide
theorem oQ:yF X (λ x H Q=>∃k,tQ X.K x H k/\Q k H):=by
 intro pins s σ H x v Q I rx h;obtain⟨k,e,q⟩:=h;have hl:=NF;have hs:sizeLine=16777216:=sizeLine_eq;cases x with
 |AN =>
  cases rx;have e':k=false:=e;subst e';exact truthy_none ⟨H,I,q⟩
 |bl b =>
  cases rx;have e':k=b:=e;subst e';exact wpAny_truthy_bool ⟨H,I,q⟩
 |int i =>
  obtain⟨t,rfl⟩:=rx;have e':k=(i != 0):=e;subst e';exact PySem.P.truthy_int ⟨H,I,q⟩
 |str y =>
  obtain⟨t,rfl⟩:=rx;obtain⟨hy,e'⟩:y.length<=sizeLine/\k=((y.length:Int) != 0):=e;subst e';exact PySem.P.truthy_str (by omega) ⟨H,I.tok _,q⟩
 |nM y =>
  obtain⟨t,rfl⟩:=rx;obtain⟨hy,e'⟩:y.size<=sizeLine/\k=((y.size:Int) != 0):=e;subst e';exact PySem.W.truthy_bytes (by omega) ⟨H,I.tok _,q⟩
 |ref p =>
  cases rx;have e':(∃xs,Dc X.K H p xs/\k = !xs.isEmpty)\/(∃xs,EY X.K H p xs/\k = !xs.isEmpty)\/∃kvs,H p=some (.dK kvs)/\k = !kvs.isEmpty:=e;rcases e' with ⟨xs,hx,e'⟩|⟨xs,hx,e'⟩|⟨kvs,hx,e'⟩
  ·subst e';obtain⟨aa,r,pl,hz⟩:=I.list hx;have hlen:=r.length;exact wpAny_truthy_list pl.isList (by simp only[za0];omega) ⟨H,I.tok _,by rw[NE r];exact q⟩
  ·subst e';obtain⟨aa,r,pl,hz⟩:=I.tuple hx;have hlen:=r.length;exact truthy_tuple pl (by simp only[za0];omega) ⟨H,I.tok _,by rw[NE r];exact q⟩
  ·subst e';obtain⟨hz,hS,vs,r,m⟩:kvs.length<=sizeLine/\(p==sysModules)=false/\∃vs,KV kvs vs/\s.heap.DictOf (AL X.prog X.w) p vs:=I.As p _ hx;have hlen:kvs.length=vs.length:=zck r;exact wpAny_truthy_dict hS m (by omega) ⟨H,I.tok _,by rw[UT r];exact q⟩
 |_=>exact (show False from e).elim
theorem Zx (ha:PE X a ta)(he:∀whole,isTrue a X.env whole=(do let v <-whole;standAt a.pos;holding [v] (truthy v))):
 PT X a (λ σ H Q=>ta σ H λ x H'=>∃k,tQ X.K x H' k/\Q k H'):=by
 intro pins s σ H Q I h;exact isTrue_plain (Bd (ha pins s σ H _ I h) λ v s1 ⟨x,H1,I1,r1,q1⟩=>oQ pins s1 σ H1 x v Q I1 r1 q1) (he _)
theorem vals1 {x:V}{us:List Value}(r:Vals [x] us):∃u,us=[u]/\RelV x u:=by
 cases r with
 |cons r1 r2=>cases r2;exact⟨_,rfl,r1⟩
theorem vals2 {x y:V}{us:List Value}(r:Vals [x,y] us):∃u w',us=[u,w']/\RelV x u/\RelV y w':=by
 cases r with
 |cons r1 r2 =>
  cases r2 with
  |cons r3 r4=>cases r4;exact⟨_,_,rfl,r1,r3⟩
theorem XH (hc:X.calm=true):Gu X (.builtin "min") (λ xs H Q=>∃i j,xs=[.int i,.int j]/\Q (.int (if j<i then j else i)) H):=by
 intro pins s σ H xs us Q I r h;obtain⟨i,j,rfl,q⟩:=h;obtain⟨u,w',rfl,⟨t,rfl⟩,⟨t',rfl⟩⟩:=vals2 r;refine min_two_ints (I.ok.hd hc) λ h' tk k=>⟨_,H,I.kept k,?_,q⟩;by_cases hj:j<i
 ·rw[if_pos hj,if_pos hj];exact⟨_,rfl⟩
 ·rw[if_neg hj,if_neg hj];exact⟨_,rfl⟩
end
structure UU (h:Heap)(x dx C:Addr)(mA:Str->Option Value):Prop where
 obj:h.get? x=some (zca C dx)
 ns:h.Ns1 dx mA
 ne:dx≠x
theorem XI {h:Heap}{dx:Addr}{mA:Str->Option Value}(n:h.Ns1 dx mA):∃od,h.get? dx=some od/\∀name,PySem.W.lookIn name od=some (mA name):=by
 obtain⟨o,es,ep,ho,hd,hk,_,hm⟩:=n;refine⟨o,ho,λ name=>?_⟩;have e:=hm name;unfold nsFind findBy at e;rw[<-Array.find?_toList] at e;unfold PySem.W.lookIn;rw[hd];dsimp only;split
 ·rename_i y q;rw[q] at e;exact congrArg some e
 ·rename_i q;rw[q] at e;have a:es.toList.any (·.refKey)=false:=by
   rw[List.any_eq_false];intro y hy;obtain⟨z,t,mz⟩:=hk y (Array.mem_toList_iff.mp hy);simp[DictEntry.refKey,mz]
  have a':¬ es.toList.any (·.refKey)=true:=by rw[a];exact zai
  rw[if_neg a'];exact congrArg some e
theorem UU.look {h:Heap}{x dx C:Addr}{mA:Str->Option Value}(I:UU h x dx C mA):∃od,PySem.W.InstAt h x (zca C dx) C (some od)/\∀name,PySem.W.lookIn name od=some (mA name):=
 let ⟨od,ho,hl⟩:=XI I.ns
 ⟨od,⟨I.obj,rfl,rfl,ho⟩,hl⟩
section
variable {prog:Program}{w:World}{A:Around}{E:Value->Shared->Prop}{s:Shared}{K:zt}{x dx C f:Addr}{mA:Str->Option Value}{name:Str}{v:Value}
theorem get_map {expr:Bool}{Q:Value->Shared->Prop}(X:K.In s.heap)(I:UU s.heap x dx C mA)(hg:PySem.W.plainGet K C name=true)(hh:PySem.W.hasDictIn K C=true)
 (ha:zax K (.ref C) name=some none) (hv:mA name=some v) (m6:PySem.W.handedIn v=true) (h:Q v {s with toks:=s.toks+1}):
 wpAny (model prog w) A (getAttr (.ref x) name expr) Q E s:=by
 obtain⟨od,J,hl⟩:=I.look;exact PySem.W.get_value X J (PySem.W.plainGet_of hg).1 (PySem.W.findObj_own hh ha rfl (by rw[hl,hv])) m6 h
theorem Zy {pl:Sem Bool}{Q:Value×List Value->Shared->Prop}(X:K.In s.heap)(I:UU s.heap x dx C mA)(hg:PySem.W.plainGet K C name=true)
 (hf:zax K (.ref C) name=some (some (.ref f))) (ht:PySem.W.isFn K (.ref f)=true) (hv:mA name=none) (h:Q (.ref f,[.ref x]) s):
 wpAny (model prog w) A (getMethod (.ref x) name pl) Q E s:=by
 obtain⟨od,J,hl⟩:=I.look;exact PySem.W.method_fn X J (PySem.W.plainGet_of hg).1 (PySem.W.plainGet_of hg).2 hf (beq_iff_eq.mp ht) (by show (PySem.W.lookIn name od).map (·.isSome)=some false;rw[hl,hv];rfl) h
theorem gI {ns:List Str}{Q:Unit->Shared->Prop}(X:K.In s.heap)(I:UU s.heap x dx C mA)
 (hs:zax K (.ref C) "__setattr__" = some (some (.builtin "object.__setattr__"))) (hp:PySem.W.plainOver K C=true) (ht:PySem.W.takerIn K C name=some none) (hh:PySem.W.hasDictIn K C=true)
 (hw:PySem.Within mA ns) (hsz:ns.length<=sizeLine)
 (h:∀h',UU h' x dx C (λ y=>if y=name then some v else mA y)->Heap.SameBut dx s.heap h'->Q () {s with heap:=h',toks:=s.toks+2}):
 wpAny (model prog w) A (setAttr (.ref x) name v) Q E s:=by
 obtain⟨od,J,hl⟩:=I.look;refine PySem.W.set_plain X J hs (PySem.W.osa_open (s:={s with toks:=s.toks+1}) (r:=none) X J hp ht λ b=>?_);obtain⟨cd,hc,aO⟩:=PySem.W.any_some hh;have hx:s.heap.get? x=some ⟨.ref C,some dx,.plain,#[]⟩:=I.obj;refine wpAny_bind (wpAny_pure (wpAny_bind (wpAny_bind (wpAny_loadPart hx (wpAny_bind (PySem.W.Looks.here (s:={s with toks:=s.toks+1}) (PySem.W.looks_clsIn X hc) ?_))))));rw[aO];refine wpAny_pure (a:=some dx) (wpAny_bind (wpAny_pure (wpAny_bind ?_)));refine wpAny_nsSet1 (s:={s with toks:=s.toks+1}) I.ns λ h' aw a5=>?_;obtain⟨oD,y7,y8,u6,u7,u8⟩:=aw.count (PySem.Within.cons name v hw);refine wpAny_bind (wpAny_lookBehind u6 (by rw[u7];exact pastItsLine_dict (zbb u8 (by rw[z5];omega))) ?_);exact wpAny_pure (h _ ⟨(a5.2 _ (zb3 I.ne)).trans I.obj,aw,I.ne⟩ a5)
theorem Zz {R:Result->Shared->Prop}{vs:List Value}{kw:List (Str×Value)}(X:K.In s.heap)(hm:PySem.W.makesIn K C=true)
 (hi:zax K (.ref C) "__init__" = some (some (.ref f))) (hf:PySem.W.typeIn K (.ref f)=some (.type "function"))
 (h:codeAny (model prog w) (A.under (.builtin "type.__call__" ⟨.ref C::vs,kw⟩)) (.call (.ref f) ⟨.ref (s.heap.objs.size+1)::vs,kw⟩) (PySem.W.InitBack (s.heap.objs.size+1) R)
  {s with heap:=(s.heap.push zbt).push (zca C s.heap.objs.size)}):
 codeAny (model prog w) A (.call (.ref C) ⟨vs,kw⟩) R s:=by
 obtain⟨hh,g,d,t,os⟩:=s;exact PySem.W.make_core (PySem.W.makes_of X hm) (PySem.W.looks_findIn X hi) (λ self=>PySem.W.bind_fn X self hf) (.inl rfl) h
end
noncomputable def Er (f:Str)(v:V):List (Str×V)->List (Str×V)
 |[]=>[(f,v)]
 |(g,x)::r=>if g=f then (g,v)::r else (g,x)::Er f v r
theorem M8 (f g:Str)(v:V):∀fs:List (Str×V),(Er f v fs).lookup g=if g=f then some v else fs.lookup g
 |[]=>by
  show List.lookup g [(f,v)]=_;by_cases h:g=f
  ·have hb:(g==f)=true:=beq_iff_eq.mpr h;simp only[List.lookup,hb,if_pos h]
  ·have hb:(g==f)=false:=beq_eq_false_iff_ne.mpr h;simp only[List.lookup,hb,if_neg h]
 |(k,x)::r=>by
  have ih:=M8 f g v r;rw[show Er f v ((k,x)::r)=(if k=f then (k,v)::r else (k,x)::Er f v r) from rfl];by_cases hk:k=f
  ·rw[if_pos hk];by_cases h:g=k
   ·have hb:(g==k)=true:=beq_iff_eq.mpr h;simp only[List.lookup,hb,if_pos (h.trans hk)]
   ·have hb:(g==k)=false:=beq_eq_false_iff_ne.mpr h;simp only[List.lookup,hb,if_neg (λ e:g=f=>h (e.trans hk.symm))]
  ·rw[if_neg hk];by_cases h:g=k
   ·have hb:(g==k)=true:=beq_iff_eq.mpr h;simp only[List.lookup,hb,if_neg (λ e:g=f=>hk (h.symm.trans e))]
   ·have hb:(g==k)=false:=beq_eq_false_iff_ne.mpr h;simp only[List.lookup,hb];exact ih
theorem Lw (f:Str)(v:V):∀fs:List (Str×V),f∈(Er f v fs).map (·.1)/\∀g,g∈fs.map (·.1)->g∈(Er f v fs).map (·.1)
 |[]=>⟨by simp[Er],λ g h=>by simp at h⟩
 |(k,x)::r=>by
  obtain⟨i1,i2⟩:=Lw f v r;rw[show Er f v ((k,x)::r)=(if k=f then (k,v)::r else (k,x)::Er f v r) from rfl];by_cases hk:k=f
  ·rw[if_pos hk];subst hk;exact⟨by simp,λ g h=>by simpa using h⟩
  ·rw[if_neg hk];refine⟨?_,λ g h=>?_⟩
   ·rw[zy];exact zx _ i1
   ·rw[zy] at h ⊢;rcases z8.mp h with e|e
    ·exact z8.mpr (.inl e)
    ·exact zx _ (i2 g e)
theorem M9 (f:Str)(v:V):∀fs:List (Str×V),(Er f v fs).length<=fs.length+1
 |[]=>by simp[Er]
 |(k,x)::r=>by
  have ih:=M9 f v r;rw[show Er f v ((k,x)::r)=(if k=f then (k,v)::r else (k,x)::Er f v r) from rfl];by_cases hk:k=f
  ·rw[if_pos hk,z5,z5];omega
  ·rw[if_neg hk,z5,z5];omega
theorem GI.some_of {v:V}{o:Option Value}(r:GI (some v) o):∃u,o=some u/\RelV v u:=by
 cases o with
 |none=>exact (show False from r).elim
 |some u=>exact⟨u,rfl,r⟩
theorem GI.none_of {o:Option Value}(r:GI none o):o=none:=by
 cases o with
 |none=>rfl
 |some u=>exact (show False from r).elim
theorem XJ {v:V}{u:Value}(r:RelV v u):PySem.W.handedIn u=true:=by
 cases v with
 |AN=>cases (show u=Value.none from r);rfl
 |bl b=>cases (show u=Value.bool b from r);rfl
 |int i=>obtain⟨t,e⟩:=(show ∃t,u=Value.int i t from r);cases e;rfl
 |str x=>obtain⟨t,e⟩:=(show ∃t,u=Value.str x t from r);cases e;rfl
 |nM b=>obtain⟨t,e⟩:=(show ∃t,u=Value.bytes b t from r);cases e;rfl
 |sS b=>obtain⟨t,e⟩:=(show ∃t,u=Value.float b t from r);cases e;rfl
 |ref a=>cases (show u=zb6 a from r);rfl
 |ty n=>cases (show u=Value.type n from r);rfl
section
variable {P:Program}{w:World}{H H':Hp}{h h':Heap}{a C dx:Addr}{fs bC:List (Str×V)}
theorem Ri (As:Gs P w H h)(e:H a=some (.ins C dx fs)):∃mA,UU h a dx C mA/\(∀f,GI (fs.lookup f) (mA f))/\PySem.Within mA (fs.map (·.1))/\fs.length<=1000/\H dx=some (.own a):=by
 obtain⟨d,z,ne,ob,mA,n,r,q⟩:=(show Bh P w H h a (.ins C dx fs) from As a _ e);exact⟨mA,⟨ob,n,ne⟩,r,q,z,d⟩
end
structure XM (K:zt)(C:Addr):Prop where
 pg:PySem.W.plainGet K C Str.empty=true
 hd:PySem.W.hasDictIn K C=true
 po:PySem.W.plainOver K C=true
 sa:zax K (.ref C) "__setattr__" = some (some (.builtin "object.__setattr__"))
theorem XM.get {K:zt}{C:Addr}(c:XM K C)(f:Str):PySem.W.plainGet K C f=true:=c.pg
def Jg (K:zt)(C:Addr)(f:Str):Prop:=zax K (.ref C) f=some none
theorem Jg.tR {K:zt}{C:Addr}{f:Str}(n:Jg K C f):PySem.W.takerIn K C f=some none:=by
 unfold PySem.W.takerIn;rw[show zax K (.ref C) f=some none from n];rfl
structure Meth (K:zt)(C:Addr)(m:Str)(f:Addr):Prop where
 at_:zax K (.ref C) m=some (some (.ref f))
 fn:PySem.W.isFn K (.ref f)=true
 kp:zb4 K (.ref f)=true
section
variable {X:Cx}{pins:List (Addr×Obj)}{σ:St}{H:Hp}{s:Shared}{a C dx:Addr}{fs:List (Str×V)}{f:Str}{v:V}{A:Around}{E:Value->Shared->Prop}
theorem UW {b:Bool}{Q:Value->Shared->Prop}(I:Inv X pins σ H s)(e:H a=some (.ins C dx fs))(c:XM X.K C)(n:Jg X.K C f)(l:fs.lookup f=some v)
 (h:∀u s',Inv X pins σ H s'->RelV v u->Q u s'):wpAny (model X.prog X.w) A (getAttr (.ref a) f b) Q E s:=by
 obtain⟨mA,O,r,_,_,_⟩:=Ri I.As e;obtain⟨u,hu,ru⟩:=GI.some_of (v:=v) (o:=mA f) (by rw[<-l];exact r f);exact get_map I.Pw O (c.get f) c.hd n hu (XJ ru) (h u _ (I.tok _) ru)
theorem NG {m:Str}{g:Addr}{pl:Sem Bool}{Q:Value×List Value->Shared->Prop}(I:Inv X pins σ H s)(e:H a=some (.ins C dx fs))(c:XM X.K C)(k:Meth X.K C m g)(l:fs.lookup m=none)
 (h:Q (.ref g,[.ref a]) s):wpAny (model X.prog X.w) A (getMethod (.ref a) m pl) Q E s:=by
 obtain⟨mA,O,r,_,_,_⟩:=Ri I.As e;have hn:mA m=none:=GI.none_of (by rw[<-l];exact r m);exact Zy I.Pw O (c.get m) k.at_ k.fn hn h
theorem UX {y:V}{u:Value}{Q:Unit->Shared->Prop}(I:Inv X pins σ H s)(e:H a=some (.ins C dx fs))(c:XM X.K C)(n:Jg X.K C f)(hl:fs.length<1000)(ry:RelV y u)
 (h:∀s',Inv X pins σ (upd H a (.ins C dx (Er f y fs))) s'->Q () s'):wpAny (model X.prog X.w) A (setAttr (.ref a) f u) Q E s:=by
 obtain⟨mA,O,r,wi,_,ho⟩:=Ri I.As e;have hz:(fs.map (·.1)).length<=sizeLine:=by rw[zv,sizeLine_eq];omega
 refine gI I.Pw O c.sa c.po n.tR c.hd wi hz λ h' O' sb=>h _ ?_;have hd:∃o,h'.get? dx=some o:=let ⟨o,_,_,e',_⟩:=O'.ns;⟨o,e'⟩;refine I.write (x:=a) (e:=dx) (by rw[e];exact zcg) (.inr ho) (λ b q hb z=>(sb.2 b hb).trans z) hd ?_;refine⟨by rw[Ag O.ne];exact ho,?_,O.ne,O'.obj,_,O'.ns,λ g=>?_,λ g hg=>?_⟩
 ·have:=M9 f y fs;omega
 ·show GI ((Er f y fs).lookup g) (if g=f then some u else mA g);rw[M8];by_cases q:g=f
  ·rw[if_pos q,if_pos q];exact ry
  ·rw[if_neg q,if_neg q];exact r g
 ·by_cases q:g=f
  ·rw[q];exact (Lw f y fs).1
  ·refine (Lw f y fs).2 g (wi g λ z=>hg ?_);show (if g=f then some u else mA g)=none;rw[if_neg q];exact z
theorem Inv.made (I:Inv X pins σ H s):Inv X pins σ (upd (upd H s.heap.objs.size (.own (s.heap.objs.size+1))) (s.heap.objs.size+1) (.ins C s.heap.objs.size []))
 {s with heap:=(s.heap.push zbt).push (zca C s.heap.objs.size)}:=by
 have e1:(s.heap.push zbt).get? s.heap.objs.size=some zbt:=zac s.heap rfl;have e2:((s.heap.push zbt).push (zca C s.heap.objs.size)).get? (s.heap.objs.size+1)=some (zca C s.heap.objs.size):=by
  have:=zac (s.heap.push zbt) (o:=zca C s.heap.objs.size) rfl;rwa[Heap.size_push] at this
 have e3:(s.heap.push zbt).Ns s.heap.objs.size (λ _=>none):=⟨zbt,#[],_,e1,rfl,(λ e he=>absurd he (by simp)),λ _=>rfl⟩;have I1:=I.laid (a:=s.heap.objs.size) (o:=.own (s.heap.objs.size+1)) (h':=s.heap.push zbt) (t':=s.toks) (λ b u q=>z7 _ q) (za2 _) ⟨_,e1⟩;refine I1.laid (a:=s.heap.objs.size+1) (o:=.ins C s.heap.objs.size []) (t':=s.toks) (λ b u q=>z7 _ q) (Nat.le_of_eq (Heap.size_push _ _)) ?_;have ne:s.heap.objs.size≠s.heap.objs.size+1:=zaf (Nat.lt_succ_self _);refine⟨by rw[Ag ne,An],zb1 _,ne,e2,λ _=>none,(Heap.Ns1.of_empty e3).at λ o q=>z7 _ q,λ _=>zcg,λ y hy=>absurd rfl hy⟩
theorem gJ {prog:Program}{w:World}{env:Env}{e:Expr}{f:Str}{pos:Pos}{s:Shared}{Q:Value->Shared->Prop}(hb:attributeBase e f env (eval e env)=eval e env)
 (h:wpAny (model prog w) A (eval e env) (λ o s₁=>wpAny (model prog w) A (getAttr o f true) Q E s₁) E s):wpAny (model prog w) A (eval (.Attribute e f pos) env) Q E s:=
 Attribute_any_ h (by rw[arm_eval_Attribute,hb])
end
noncomputable def yG (K:zt)(ta:TE)(f:Str):TE:=λ σ H Q=>ta σ H λ x H1=>∃a C dx fs v,x=.ref a/\H1 a=some (.ins C dx fs)/\XM K C/\Jg K C f/\fs.lookup f=some v/\Q v H1
noncomputable def yH (K:zt)(ta tv:TE)(f:Str):TS:=λ D σ H=>tv σ H λ y H1=>ta σ H1 λ x H2=>∃a C dx fs,x=.ref a/\H2 a=some (.ins C dx fs)/\XM K C/\Jg K C f/\fs.length<1000/\
 D.nx σ (upd H2 a (.ins C dx (Er f y fs)))
section
variable {X:Cx}{o e value:Expr}{f:Str}{pos pos' bf:Pos}{ta tv:TE}
theorem oR (he:PE X e ta)(hb:attributeBase e f X.env (eval e X.env)=eval e X.env):PE X (.Attribute e f pos) (yG X.K ta f):=by
 intro pins s σ H Q I h;refine gJ hb (Bd (he pins s σ H _ I h) λ u s1 zz=>?_);obtain⟨x,H1,I1,rx,a,C,dx,fs,v,ex,ea,c,n,l,q⟩:=zz;subst ex;obtain rfl:u=zb6 a:=rx;exact UW I1 ea c n l λ u' s2 I2 ru=>⟨v,H1,I2,ru,q⟩
theorem oS (ha:PE X o ta)(hv:PE X value tv)(hs:swapsWith value (some (.Attribute o f pos')) pos.line X.env=pure false):PS X (.Assign [.Attribute o f pos'] value pos) (yH X.K ta tv f):=by
 intro pins s σ H D I h;refine plainObj_wpAny_Assign_Attribute (Bd (hv pins s σ H _ I h) λ u s1 ⟨y,H1,I1,ry,q⟩=>Bd (ha pins s1 σ H1 _ I1 q) λ ov s2 zz=>?_) hs;obtain⟨x,H2,I2,rx,a,C,dx,fs,ex,ea,c,n,l,q2⟩:=zz;subst ex;obtain rfl:ov=zb6 a:=rx;exact UX I2 ea c n l ry λ s3 I3=>⟨σ,_,I3,q2⟩
end
structure BL (k:Nat)(A:Around):Prop where
 hd:A.handled=none
 dp:A.depth+3*k+5<recursionLimit
 un:A.units+16*k+200<cLine
theorem BL.mono {j k:Nat}{A:Around}(r:BL k A)(h:j<=k):BL j A:=⟨r.hd,by have:=r.dp;omega,by have:=r.un;omega⟩
theorem BL.deeper {k:Nat}{A:Around}(r:BL (k+1) A)(env:Env):BL k (A.deeper env):=
 ⟨r.hd,by have:=r.dp;show A.depth+1+3*k+5<_;omega,by have:=r.un;show A.units+3+16*k+200<_;omega⟩
theorem UY {A:Around}{C:Addr}{us:List Value}{kw:List (Str×Value)}:(A.under (.builtin "type.__call__" ⟨.ref C::us,kw⟩)).depth=A.depth+1:=by
 first|rfl|simp[Around.under,Code.weight,Code.isCreation,Code.isGuard,Code.isCaller,Code.frames,Code.isFrame,guardIds]
theorem UZ {A:Around}{C:Addr}{us:List Value}{kw:List (Str×Value)}:(A.under (.builtin "type.__call__" ⟨.ref C::us,kw⟩)).units=A.units+1:=by
 first|rfl|simp[Around.under,Code.cUnits,Code.frames,Code.isFrame]
theorem BL.make {k:Nat}{A:Around}(r:BL (k+1) A)(C:Addr)(us:List Value)(kw:List (Str×Value)):BL k (A.under (.builtin "type.__call__" ⟨.ref C::us,kw⟩)):=
 ⟨r.hd,by have:=r.dp;rw[UY];omega,by have:=r.un;rw[UZ];omega⟩
theorem BL.depth {k:Nat}{A:Around}(r:BL k A):A.depth<recursionLimit:=by have:=r.dp;omega
theorem BL.units {k:Nat}{A:Around}(r:BL k A):A.units+64<cLine:=by have:=r.un;omega
noncomputable def oT:TA:=λ _ H Q=>Q [] H
noncomputable def lW (ta:TE)(tr:TA):TA:=λ σ H Q=>ta σ H λ x H1=>tr σ H1 λ xs H2=>Q (x::xs) H2
section
variable {X:Cx}{e:Expr}{es:List Expr}{te:TE}{t:TA}{pos:Pos}
theorem CP:PA X [] oT:=λ _ _ _ _ H Q I h=>zbv ⟨[],H,I,.nil,h⟩
theorem BC (ha:PE X e te)(hr:PA X es t)(hs:starEach (e::es) X.env=(false,eval e X.env)::starEach es X.env:=by rfl):PA X (e::es) (lW te t):=by
 intro pos pins s σ H Q I h;rw[hs];show wpAny _ _ (spliced ((false,eval e X.env)::backTo pos (starEach es X.env))) _ _ s;refine zbp (Bd (ha pins s σ H _ I h) λ u s1 zz=>?_);obtain⟨x,H1,I1,r1,q1⟩:=zz;exact Bd (hr pos pins s1 σ H1 _ I1 q1) λ us s2 ⟨xs,H2,I2,r2,q2⟩=>⟨x::xs,H2,I2,.cons r1 r2,q2⟩
noncomputable def yI (t:TA):TE:=λ σ H Q=>t σ H λ xs H1=>xs.length<=sizeLine/\∀p,H1 p=none->Q (.ref p) (upd H1 p (.tup xs))
noncomputable def yJ (t:TA):TE:=λ σ H Q=>t σ H λ xs H1=>xs.length<=sizeLine/\∀p,H1 p=none->Q (.ref p) (upd H1 p (.lst xs))
theorem ZA {x1}(h:PA X es t):PE X (.Tuple es x1 pos) (yI t):=by
 intro pins s σ H Q I hq;refine wpAny_Tuple_spliced (Bd (h pos pins s σ H _ I hq) λ us s1 ⟨xs,H1,I1,r,z,q⟩=>⟨by rw[<-r.length];exact z,?_⟩);have hf:H1 s1.heap.objs.size=none:=I1.As.fresh (za2 _);refine⟨.ref s1.heap.objs.size,upd H1 s1.heap.objs.size (.tup xs),I1.laid (t':=s1.toks) (λ b u e=>z7 _ e) (za2 _) ?_,rfl,q _ hf⟩;exact⟨z,us,r,⟨_,zac _ rfl,rfl,_,rfl⟩⟩
theorem V0 (h:PA X es t):PE X (.List es pos) (yJ t):=by
 intro pins s σ H Q I hq;refine wpAny_List_spliced (Bd (h pos pins s σ H _ I hq) λ us s1 ⟨xs,H1,I1,r,z,q⟩=>⟨by rw[<-r.length];exact z,?_⟩);have hf:H1 s1.heap.objs.size=none:=I1.As.fresh (za2 _);refine⟨.ref s1.heap.objs.size,upd H1 s1.heap.objs.size (.lst xs),I1.laid (t':=s1.toks) (λ b u e=>z7 _ e) (za2 _) ?_,rfl,q _ hf⟩;exact⟨z,us,0,r,zac _ rfl⟩
end
noncomputable abbrev Sp:=List V->Hp->VK->XK->Prop
noncomputable abbrev Wq:=List Env->Hp->Shared->XK->Value->Shared->Prop
structure V1 (P:Program)(w:World)(K:zt)(mg:Str->Option Value)(base:Heap)(A:Around)(outer:List Env)(s:Shared)(H:Hp):Prop where
 frames:A.frames=some outer
 mod:Mod K mg base
 bs:∀b o,base.get? b=some o->s.heap.get? b=some o/\H b=none
 fV:base.objs.size<=s.heap.objs.size
 Lu:s.heap.FunFrames base outer
 nQ:∀b∈Z6 outer,H b=none
 As:Gs P w H s.heap
 bare:AllBare s.gens
def CE (outer:List Env)(P:Program)(w:World)(H:Hp)(s:Shared)(Q:VK)(u:Value)(s':Shared):Prop:=
 ∃v H',s'.os=s.os/\AllBare s'.gens/\Un (Z6 outer) [] H H' s.heap s'.heap/\Gs P w H' s'.heap/\RelV v u/\Q v H'
def CR (CX:Wq)(outer:List Env)(P:Program)(w:World)(H:Hp)(s:Shared)(Q:VK)(E:XK)(r:Result)(s':Shared):Prop:=
 match r with
 | .ok (.ret u)=>CE outer P w H s Q u s'
 | .ok _=>False
 | .error e=>CX outer H s E e s'
structure E7 (P:Program)(w:World)(K:zt)(mg:Str->Option Value)(base:Heap)(CX:Wq)(k:Nat)(f:Addr)(fd:FuncData)(ps:List Str)(sp:Sp):Prop where
 len:∀vs H Q E,sp vs H Q E->vs.length=ps.length
 run:∀(A:Around) (outer:List Env) (s:Shared) (H:Hp) (args:Args) (us:List Value) (vs:List V) (Q:VK) (E:XK),BL k A->V1 P w K mg base A outer s H->BindsTo s fd args (ps.zip us)->Vals vs us->sp vs H Q E->
  codeAny (model P w) A (.call (.ref f) args) (CR CX outer P w H s Q E) s
theorem V1.make {P:Program}{w:World}{K:zt}{mg:Str->Option Value}{base:Heap}{A:Around}{outer:List Env}{s:Shared}{H:Hp}(e:V1 P w K mg base A outer s H)(C:Addr)(us:List Value)(kw:List (Str×Value)):
 V1 P w K mg base (A.under (.builtin "type.__call__" ⟨.ref C::us,kw⟩)) outer s H:=⟨by first|exact e.frames|(simpa [Around.under,Code.envs,Code.isFrame,pushEnvs] using e.frames),e.mod,e.bs,e.fV,e.Lu,e.nQ,e.As,e.bare⟩
section
variable {X:Cx}{pins:List (Addr×Obj)}{σ:St}{H:Hp}{s s':Shared}
theorem Inv.tS (I:Inv X pins σ H s):V1 X.prog X.w X.K X.mg X.base X.A X.stack s H:=
 ⟨I.ok.frames,I.ok.mod,I.bs,zbb I.ok.fV I.sz,I.stack,I.Wl,I.As,I.bare⟩
theorem Inv.after {Q:VK}{u:Value}(I:Inv X pins σ H s)(h:CE X.stack X.prog X.w H s Q u s'):EP X pins σ Q u s':=by
 obtain⟨v,H',os,bare,un,As,r,q⟩:=h;obtain⟨hh,g,d,t,u9⟩:=s';obtain rfl:u9=s.os:=os;exact⟨v,H',I.call (h':=hh) (g':=g) (d':=d) (t':=t) (ch:=[]) un As bare (λ b z=>absurd z (by simp)),r,q⟩
end
noncomputable def tT (sp:Sp)(bg:List V)(E:XK)(t:TA):TE:=λ σ H Q=>t σ H λ vs H1=>sp (vs++bg) H1 Q E
noncomputable def tU (C:Addr)(sp:Sp)(bg:List V)(E:XK)(t:TA):TE:=λ σ H Q=>t σ H λ vs H1=>∀x dx,H1 x=none->H1 dx=none->dx≠x->
 sp (.ref x::(vs++bg)) (upd (upd H1 dx (.own x)) x (.ins C dx [])) (λ v H2=>v=.AN/\Q (.ref x) H2) E
def Binds (K:zt)(fd:FuncData)(ps:List Str)(ds:List Value):Prop:=
 ∀(s:Shared) (us:List Value),K.In s.heap->(us++ds).length=ps.length->BindsTo s fd ⟨us,[]⟩ (ps.zip (us++ds))
theorem Binds.all {K:zt}{fd:FuncData}{ps:List Str}(h:∀us:List Value,us.length=ps.length->bindArgs fd ⟨us,[]⟩=pure (ps.zip us)):Binds K fd ps []:=λ s us _ hl=>by
 rw[zb0] at hl ⊢;exact .of_eq (h us hl)
def Jh (CX:Wq)(X:Cx)(E:XK):Prop:=∀(pins:List (Addr×Obj)) (σ:St) (H:Hp) (s:Shared) (e:Value) (s':Shared),Inv X pins σ H s->CX X.stack H s E e s'->X.xe e s'
section
variable {X:Cx}{CX:Wq}{k:Nat}{f C:Addr}{fd:FuncData}{ps:List Str}{sp:Sp}{bg:List V}{ds:List Value}{E:XK}{x m:Str}{p pos apos:Pos}{e o:Expr}{es:List Expr}{ta:TE}{t:TA}
theorem V2 {pins:List (Addr×Obj)}{σ:St}{H:Hp}{s:Shared}{Q:VK}{us:List Value}{vs:List V}(F:E7 X.prog X.w X.K X.mg X.base CX k f fd ps sp)(hr:BL k X.A)(hb:Binds X.K fd ps ds)(hd:Vals bg ds)(hx:Jh CX X E)
 (I:Inv X pins σ H s) (r:Vals vs us) (h:sp (vs++bg) H Q E):wpAny (model X.prog X.w) X.A (call (.ref f) us) (EP X pins σ Q) X.xe s:=by
 have r2:Vals (vs++bg) (us++ds):=r.append hd;have hl:(us++ds).length=ps.length:=by rw[<-r2.length];exact F.len _ _ _ _ h
 refine wpAny_call (codeAny_mono (F.run X.A X.stack s H ⟨us,[]⟩ (us++ds) (vs++bg) Q E hr I.tS (hb s us I.Pw hl) r2 h) λ r s' hq=>?_);cases r with
 |error e=>exact hx pins σ H s e s' I hq
 |ok fl =>
  cases fl with
  |ret u=>exact I.after hq
  |next|brk|cont=>exact zcc hq
theorem Wr (F:E7 X.prog X.w X.K X.mg X.base CX k f fd ps sp)(hr:BL k X.A)(hg:Gl X x)(hm:X.mg x=some (.ref f))(hk:zb4 X.K (.ref f)=true)(hb:Binds X.K fd ps ds)(hd:Vals bg ds)(hx:Jh CX X E)
 (ha:PA X (e::es) t) (aT:(x==("__debug__" : Str))=false:=by decide) (he:starEach (e::es) X.env=(false,eval e X.env)::starEach es X.env:=by rfl) (hpl:(backTo pos (starEach es X.env)).any (·.1)=false:=by rfl):
 PE X (.Call (.Name x p) (e::es) [] pos) (tT sp bg E t):=by
 intro pins s σ H Q I h;refine wpAny_Call_Name_kw (Wn I hg hm ?_ aT);refine PySem.W.callWith_K (h₀:=X.base) I.ok.mod.XE hk (Bd (ha pos pins s σ H _ I h) λ us s1 ⟨vs,H1,I1,r,q⟩=>⟨I1.Pw,?_⟩) he hpl;exact V2 F hr hb hd hx I1 r q
structure Mk (K:zt)(C f:Addr):Prop where
 makes:PySem.W.makesIn K C=true
 init:zax K (.ref C) "__init__" = some (some (.ref f))
 fn:PySem.W.isFn K (.ref f)=true
 kp:zb4 K (.ref C)=true
theorem ZC {pins:List (Addr×Obj)}{σ:St}{H:Hp}{s:Shared}{Q:VK}{us:List Value}{vs:List V}(M:Mk X.K C f)(F:E7 X.prog X.w X.K X.mg X.base CX k f fd ps sp)(hr:BL (k+1) X.A)(hb:Binds X.K fd ps ds)(hd:Vals bg ds)
 (hx:Jh CX X E) (I:Inv X pins σ H s) (r:Vals vs us)
 (h:∀x dx,H x=none->H dx=none->dx≠x->sp (.ref x::(vs++bg)) (upd (upd H dx (.own x)) x (.ins C dx [])) (λ v H2=>v=.AN/\Q (.ref x) H2) E):
 wpAny (model X.prog X.w) X.A (call (.ref C) us) (EP X pins σ Q) X.xe s:=by
 have hq:=h (s.heap.objs.size+1) s.heap.objs.size (I.As.fresh (Nat.le_succ _)) (I.As.fresh (za2 _)) (zaf (Nat.lt_succ_self _));have I2:=Inv.made (C:=C) I;have r2:Vals (V.ref (s.heap.objs.size+1)::(vs++bg)) (zb6 (s.heap.objs.size+1)::(us++ds)):=.cons rfl (r.append hd);have hl:(zb6 (s.heap.objs.size+1)::us++ds).length=ps.length:=by
  have e:=r2.length;rw[F.len _ _ _ _ hq] at e;exact e.symm
 refine wpAny_call (Zz (f:=f) I.Pw M.makes M.init (beq_iff_eq.mp M.fn) (codeAny_mono (F.run _ X.stack _ _ ⟨zb6 (s.heap.objs.size+1)::us,[]⟩ (zb6 (s.heap.objs.size+1)::(us++ds)) _ _ E (hr.make C us [])
  (I2.tS.make C us []) (hb _ (zb6 (s.heap.objs.size+1)::us) I2.Pw hl) r2 hq) λ r s' fc=>?_))
 cases r with
 |error e=>exact hx pins σ _ _ e s' I2 fc
 |ok fl =>
  cases fl with
  |ret u =>
   obtain⟨v,H',I3,rv,ev,q3⟩:=I2.after fc;subst ev;exact⟨rv,⟨V.ref (s.heap.objs.size+1),H',I3,rfl,q3⟩⟩
  |next|brk|cont=>exact zcc fc
theorem gK (M:Mk X.K C f)(F:E7 X.prog X.w X.K X.mg X.base CX k f fd ps sp)(hr:BL (k+1) X.A)(hg:Gl X x)(hm:X.mg x=some (.ref C))(hb:Binds X.K fd ps ds)(hd:Vals bg ds)(hx:Jh CX X E)
 (ha:PA X (e::es) t) (aT:(x==("__debug__" : Str))=false:=by decide) (he:starEach (e::es) X.env=(false,eval e X.env)::starEach es X.env:=by rfl) (hpl:(backTo pos (starEach es X.env)).any (·.1)=false:=by rfl):
 PE X (.Call (.Name x p) (e::es) [] pos) (tU C sp bg E t):=by
 intro pins s σ H Q I h;refine wpAny_Call_Name_kw (Wn I hg hm ?_ aT);refine PySem.W.callWith_K (h₀:=X.base) I.ok.mod.XE M.kp (Bd (ha pos pins s σ H _ I h) λ us s1 ⟨vs,H1,I1,r,q⟩=>⟨I1.Pw,?_⟩) he hpl;exact ZC M F hr hb hd hx I1 r q
end
def PK (X:Cx)(ii:List Keyword)(t:TA):Prop:=
 ∀(pos:Pos) (pins:List (Addr×Obj)) (s:Shared) (σ:St) (H:Hp) (Q:List V->Hp->Prop),Inv X pins σ H s->t σ H Q->wpAny (model X.prog X.w) X.A (evalAll ((backToKw pos (keywordEach ii X.env)).map (·.2))) (AP X pins σ Q) X.xe s
section
variable {X:Cx}{CX:Wq}{k:Nat}{f C:Addr}{fd:FuncData}{ps ks:List Str}{sp:Sp}{E:XK}{x m:Str}{p pos apos m7:Pos}{e o:Expr}{es:List Expr}{ii:List Keyword}{te ta:TE}{t tk:TA}{nm:Option Str}
theorem oU:PK X [] oT:=λ _ _ _ _ H Q I h=>wpAny_evalAll_nil ⟨[],H,I,.nil,h⟩
theorem gL (ha:PE X e te)(hr:PK X ii t):PK X (⟨nm,e,m7⟩::ii) (lW te t):=by
 intro pos pins s σ H Q I h;show wpAny _ _ (evalAll ((do let v <-eval e X.env;standAt pos;pure v)::(backToKw pos (keywordEach ii X.env)).map (·.2))) _ _ s;refine wpAny_evalAll_cons (wpAny_bind (Bd (ha pins s σ H _ I h) λ u s1 ⟨x,H1,I1,r1,q1⟩=>wpAny_bind (wpAny_standAt (wpAny_pure ?_))));exact Bd (hr pos pins s1 σ H1 _ I1 q1) λ us s2 ⟨xs,H2,I2,r2,q2⟩=>⟨x::xs,H2,I2,.cons r1 r2,q2⟩
variable {g:List Value->List Value->List Value}{gV:List V->List V->List V}
end
structure Ae (N P:List Str)(sc:Scope):Prop where
 kind:sc.kind=.function
 co:sc.isCoroutine=false
 gen:sc.isGenerator=false
 nd:N.Nodup
 pre:N.take P.length=P
 zR:∀x∈P,sc.names.lookup x=some .local\/sc.names.lookup x=some .cell
 oV:∀y∈sc.names,y.2≠.free
theorem Qk {kindOf:Str->Option NameKind}{x:Str}:∀ {binds:List (Str×Value)}{m:Str->Option Value},(∀v,(x,v)∉binds)->bindL kindOf binds m x=m x
 |[],_,_=>rfl
 |(n,v)::r,m,h=>by
  unfold bindL;rw[Qk λ w hw=>h w (zx _ hw)];split
  ·have:x≠n:=by rintro rfl;exact h v zw
   simp[this]
  ·rfl
theorem Ql {kindOf:Str->Option NameKind}{x:Str}:∀ {binds:List (Str×Value)}{m:Str->Option Value},(∀v,(x,v)∉binds)->bindC kindOf binds m x=m x
 |[],_,_=>rfl
 |(n,v)::r,m,h=>by
  unfold bindC;rw[Ql λ w hw=>h w (zx _ hw)];split
  ·rfl
  ·have:x≠n:=by rintro rfl;exact h v zw
   simp[this]
theorem Qm {kindOf:Str->Option NameKind}{x:Str}{v:Value}:∀ {P:List Str}{vs:List Value}{i:Nat}{m:Str->Option Value},P.Nodup->P[i]?=some x->vs[i]?=some v->kindOf x=some .local->
 bindL kindOf (P.zip vs) m x=some v
 |[],_,_,_,_,h,_,_|_::_,[],_,_,_,_,h,_=>by simp at h
 |p::P,w::vs,0,m,nd,h1,h2,hk=>by
  simp at h1 h2;subst h1;subst h2;show bindL kindOf ((p,w)::P.zip vs) m p=_;unfold bindL;rw[Qk λ v hv=>(zaw.mp nd).1 (List.of_mem_zip hv).1,if_pos hk];simp
 |p::P,w::vs,i+1,m,nd,h1,h2,hk=>by
  show bindL kindOf ((p,w)::P.zip vs) m x=_;unfold bindL;exact Qm (i:=i) (zaw.mp nd).2 (by simpa using h1) (by simpa using h2) hk
theorem Qn {kindOf:Str->Option NameKind}{x:Str}{v:Value}:∀ {P:List Str}{vs:List Value}{i:Nat}{m:Str->Option Value},P.Nodup->P[i]?=some x->vs[i]?=some v->kindOf x≠some .local->
 bindC kindOf (P.zip vs) m x=some v
 |[],_,_,_,_,h,_,_|_::_,[],_,_,_,_,h,_=>by simp at h
 |p::P,w::vs,0,m,nd,h1,h2,hk=>by
  simp at h1 h2;subst h1;subst h2;show bindC kindOf ((p,w)::P.zip vs) m p=_;unfold bindC;rw[Ql λ v hv=>(zaw.mp nd).1 (List.of_mem_zip hv).1,if_neg hk];simp
 |p::P,w::vs,i+1,m,nd,h1,h2,hk=>by
  show bindC kindOf ((p,w)::P.zip vs) m x=_;unfold bindC;exact Qn (i:=i) (zaw.mp nd).2 (by simpa using h1) (by simpa using h2) hk
noncomputable def start (N:List Str)(vs:List V):St:=vs.map some++za7 (N.length-vs.length) none
noncomputable def SJ (CX:Wq)(P:Program)(w:World)(K:zt)(mg:Str->Option Value)(base:Heap)(N:List Str)(qual:Str)(scope:Scope)(f:Addr)(cd:Value)(A:Around)(outer:List Env)(s:Shared)(H:Hp)(E:XK):Cx where
 prog:=P
 w:=w
 K:=K
 mg:=mg
 base:=base
 A:=A.deeper (envOfC qual scope s.heap.objs.size f cd)
 N:=N
 s₀:=s
 H₀:=H
 env:=envOfC qual scope s.heap.objs.size f cd
 outer:=outer
 stack:=envOfC qual scope s.heap.objs.size f cd::outer
 ex:=[]
 calm:=true
 fn:=λ _=>true
 pn:=[]
 xe:=λ e s'=>wpAny (model P w) (A.deeper (envOfC qual scope s.heap.objs.size f cd)) (leaving (envOfC qual scope s.heap.objs.size f cd) e) (λ _ ij=>CX outer H s E e ij) (λ e' ij=>CX outer H s E e' ij) s'
theorem SK {sc:Scope}{n:Nat}{x:Str}(h:sc.names.lookup x=some .cell):∃c,(cellsFrom n sc.names []).lookup x=some c:=by
 have q:=PySem.W.cellsFrom_some sc.names n [] (.inl h);exact zbe.mp q
theorem XN {CX:Wq}{P:Program}{w:World}{K:zt}{mg:Str->Option Value}{base:Heap}{N ps:List Str}{qual:Str}{scope:Scope}{f:Addr}{cd:Value}{A:Around}{outer:List Env}{s s1:Shared}{H:Hp}{E:XK}{us:List Value}{vs:List V}
 (S:Ae N ps scope) (hd:A.handled=none) (e0:V1 P w K mg base A outer s H) (hl:vs.length=ps.length) (r:Vals vs us)
 (x:InCallC s s.heap.objs.size (bindL (envOfC qual scope s.heap.objs.size f cd).kindOf (ps.zip us) λ _=>none) (cellsFrom (s.heap.objs.size+1) scope.names []) (bindC (envOfC qual scope s.heap.objs.size f cd).kindOf (ps.zip us) λ _=>none) s1):
 Inv (SJ CX P w K mg base N qual scope f cd A outer s H E) [] (start N vs) H s1:=by
 have hpl:ps.length<=N.length:=by have:=congrArg List.length S.pre;rw[zbi] at this;omega
 obtain⟨h1,tk,rfl,hk⟩:=x.done;have ik:∀b:Addr,b∉(SJ CX P w K mg base N qual scope f cd A outer s H E).ex:=λ b z=>absurd (show b∈([]:List Addr) from z) (by simp);refine⟨⟨e0.mod,S.kind,rfl,rfl,za2 _,λ y z c h1 h2=>?_,λ y hy=>?_,λ y c _ h=>?_,λ _=>hd,Around.frames_deeper e0.frames,.inr ⟨rfl,rfl⟩,λ b z=>absurd z (ik b),e0.bs,e0.fV,λ b _ _=>ik b,λ b z=>absurd z (ik b),e0.Lu,e0.nQ⟩,
  rfl,e0.bare,Un.kept hk,⟨_,x.toInCall.ns,λ i y v h1 h2 h3=>?_⟩,λ y c h=>⟨_,x.cell y c h⟩,e0.As.fresh (za2 _),λ y c h=>?_,λ p hp=>absurd (show p∈([]:List (Addr×Obj)) from hp) (by simp),e0.As.kept hk,?_⟩
 ·exact name_of_addr x.apart (zcv h1) (zcv h2)
 ·have hy:scope.names.lookup y=some .cell\/scope.names.lookup y=some .free:=hy;rcases hy with hy|hy
  ·exact SK hy
  ·exact absurd rfl (S.oV _ (zcv hy))
 ·exact zbk (x.above y c (zcv h))
 ·have hi:i<vs.length:=by
   unfold start at h2;by_cases hi:i<vs.length
   ·exact hi
   ·rw[zcs (by simpa using hi)] at h2;rw[zc3] at h2;split at h2<;>cases h2
  have ha:vs[i]?=some v:=by
   unfold start at h2;rw[zbz (by simpa using hi),zaa] at h2;cases e:vs[i]? with
   |none=>rw[e] at h2;cases h2
   |some a=>rw[e] at h2;cases h2;rfl
  obtain⟨u,hu,rv⟩:=r.get ha;have hp:ps[i]?=some y:=by
   rw[<-S.pre,List.getElem?_take_of_lt (by omega)];exact h1
  have so:ps.Nodup:=by rw[<-S.pre];exact S.nd.sublist (List.take_sublist _ _)
  refine⟨u,rv,?_⟩;rcases S.zR y (za9 hp) with k|k
  ·exact .inl ⟨k,Qm so hp hu k⟩
  ·obtain⟨c,e⟩:=SK (n:=s.heap.objs.size+1) k;refine .inr ⟨.inl k,c,e,?_⟩;have q:=x.cell y c e;rw[Qn so hp hu (by show scope.names.lookup y≠_;rw[k];decide)] at q;exact q
 ·exact e0.As.fresh (zbk (x.above y c (zcv h)))
 ·unfold start;show _=N.length;rw[za6,zv,List.length_replicate];omega
theorem Ws {CX:Wq}{P:Program}{w:World}{K:zt}{mg:Str->Option Value}{base:Heap}{k:Nat}{f:Addr}{name qual:Str}{params:Arguments}{body:List Stmt}{scope:Scope}{dV kV doc pm B1 ct oc:Value}{an od:Option Addr}
 {UH:Array (Option Value)} {N ps:List Str} {sp:Sp} (lk:K.lookup f=some ⟨oc,od,.func (zb2 name qual params body scope dV kV doc pm an B1 ct),UH⟩) (aP:zbu K B1 qual=true) (S:Ae N ps scope)
 (len:∀vs H Q E,sp vs H Q E->vs.length=ps.length)
 (bD:∀(A:Around) (outer:List Env) (s:Shared) (H:Hp) (vs:List V) (Q:VK) (E:XK),BL k (A.deeper (envOfC qual scope s.heap.objs.size f B1))->sp vs H Q E->
  ∃t,Wm (SJ CX P w K mg base N qual scope f B1 A outer s H E) body t/\t {nx:=λ _ H'=>Q .AN H',rt:=Q} (start N vs) H):
 E7 P w K mg base CX (k+1) f (zb2 name qual params body scope dV kV doc pm an B1 ct) ps sp:=by
 refine⟨len,λ A outer s H args us vs Q E hr e0 hb r bv=>?_⟩;have hl:=len _ _ _ _ bv;have KX:K.In s.heap:=e0.mod.XE.keeps λ b o e=>(e0.bs b o e).1;have lim:s.heap.NoLimit:=e0.mod.nolimit.keeps λ b o e=>(e0.bs b o e).1;have il:∀y∈ps.zip us,scope.names.lookup y.1=some .local\/(scope.names.lookup y.1=some .cell/\((cellsFrom (s.heap.objs.size+1) scope.names []).lookup y.1).isSome=true):=λ⟨n,v⟩ hy=>by
  rcases S.zR n (List.of_mem_zip hy).1 with q|q
  ·exact .inl q
  ·exact .inr ⟨q,PySem.W.cellsFrom_some _ _ _ (.inl q)⟩
 refine codeAny_call_function hr.depth (KX _ _ lk) rfl S.co S.gen rfl (PySem.W.codeRec_of KX aP) (hb _ _ _ _ ?_);refine wpAny_newFunctionEnv_cells S.kind il λ env he s1 x=>?_;subst he;refine⟨lim.keeps x.toInCall.keep,codeAny_func ?_⟩;obtain⟨t,ht,hq⟩:=bD A outer s H vs Q E (hr.deeper _) bv;have I:Inv (SJ CX P w K mg base N qual scope f B1 A outer s H E) [] (start N vs) H s1:=XN S hr.hd e0 hl r x;refine wpAny_mono (ht [] s1 (start N vs) H _ I hq) (λ fl s' hs=>?_) λ e s' hs=>hs;have fin:∀ {σ':St} {H':Hp} {v:V} {u:Value},Inv (SJ CX P w K mg base N qual scope f B1 A outer s H E) [] σ' H' s'->RelV v u->Q v H'->CE outer P w H s Q u s':=
  fun {σ' H' v u} J rv q=>⟨v,H',J.os,J.bare,J.base,J.As,rv,q⟩
 cases fl with
 |ret u =>
  obtain⟨v,σ',H',J,rv,q⟩:=hs;exact fin J rv q
 |next =>
  obtain⟨σ',H',J,q⟩:=hs;exact fin (v:=V.AN) (u:=Value.none) J rfl q
 |brk =>
  obtain⟨_,_,_,q⟩:=hs;exact zcc q
 |cont =>
  obtain⟨_,_,_,q⟩:=hs;exact zcc q
section
variable {X:Cx}{x:Str}{p pos:Pos}{e:Expr}{es:List Expr}{t:TA}{id T:String}{r:List V->Hp->VK->Prop}
noncomputable def yK (r:List V->Hp->VK->Prop)(t:TA):TE:=λ σ H Q=>t σ H λ vs H1=>r vs H1 Q
theorem SM (hc:Gu X (.builtin id) r)(hg:Gl X x)(hm:X.mg x=none)(hv:bootBuiltins x=some (.builtin id))(ha:PA X (e::es) t)(hn:x ≠ "__name__" := by decide)(aT:(x==("__debug__" : Str))=false:=by decide)
 (he:starEach (e::es) X.env=(false,eval e X.env)::starEach es X.env:=by rfl) (hpl:(backTo pos (starEach es X.env)).any (·.1)=false:=by rfl):PE X (.Call (.Name x p) (e::es) [] pos) (yK r t):=by
 intro pins s σ H Q I h;refine wpAny_Call_Name_kw (CO I hg hm hv ?_ hn aT);exact PyProof.Rows.callWith_builtin1 (Bd (ha pos pins s σ H _ I h) λ us s1 ⟨vs,H1,I1,r1,q1⟩=>hc pins s1 σ H1 vs us Q I1 r1 q1) he hpl
theorem Lx (hc:Gu X (.type T) r)(hg:Gl X x)(hm:X.mg x=none)(hv:bootBuiltins x=some (.type T))(ha:PA X (e::es) t)(hn:x ≠ "__name__" := by decide)(aT:(x==("__debug__" : Str))=false:=by decide)
 (he:starEach (e::es) X.env=(false,eval e X.env)::starEach es X.env:=by rfl) (hpl:(backTo pos (starEach es X.env)).any (·.1)=false:=by rfl):PE X (.Call (.Name x p) (e::es) [] pos) (yK r t):=by
 intro pins s σ H Q I h;refine wpAny_Call_Name_kw (CO I hg hm hv ?_ hn aT);exact zay (Bd (ha pos pins s σ H _ I h) λ us s1 ⟨vs,H1,I1,r1,q1⟩=>hc pins s1 σ H1 vs us Q I1 r1 q1) he hpl
end
end L2
namespace HT
open PySem PyProof.Rows
noncomputable def lexLt:List Int->List Int->Bool
 |[],[]=>false
 |[],_::_=>true
 |_::_,[]=>false
 |x::xs,y::ys=>if x=y then lexLt xs ys else decide (x<y)
theorem FX (x y:Int)(xs ys:List Int):lexLt (x::xs) (y::ys)=if x=y then lexLt xs ys else decide (x<y):=rfl
theorem Fb:lexLt [] []=false:=rfl
theorem NH (y:Int)(ys:List Int):lexLt [] (y::ys)=true:=rfl
theorem NI (x:Int)(xs:List Int):lexLt (x::xs) []=false:=rfl
theorem ZD (A:Around)(s:Shared)(a:Int)(t:Tok)(c:Int)(u:Tok):∃e,SeqAt.EqAt A s (.int a t) (.int c u) e/\(e=true↔a=c):=
 ⟨(a==c),SeqAt.EqAt.int_int a t c u,by simp⟩
theorem ZE (A:Around)(s:Shared)(a:Int)(t:Tok)(c:Int)(u:Tok)(prog:Program)(w:World)(E:Value->Shared->Prop)(Q:Value->Shared->Prop)(h:Q (.bool (decide (a<c))) s):
 wpAny (model prog w) A (richCompare .Lt (.int a t) (.int c u)) Q E s:=
 (PyProof.Rows.lt_int h:wpAny (model prog w) A (compareOp .Lt (.int a t) (.int c u)) Q E s)
section
open PySem.SeqAt
open PySem.AutoSeq1 (wpAny_loadPart')
open PySem.MeetsSeq PySem.MeetsSeq2 PySem.MeetsSeq3
theorem PJ (l b:Addr)(items al:Array Value)(n n2:Nat)(dd m8:Option Addr)(sl im:Array (Option Value))(ns ms:List Int)(hi:IntsAre items.toList ns)(hj:IntsAre al.toList ms):
 Meets (Builtin.«tuple.__lt__» ⟨[.ref l,.ref b],[]⟩)
  (λ _ R s=>s.heap.get? l=some {cls:=.type "tuple",dict:=dd,data:=.seq items n,slots:=sl}/\s.heap.get? b=some {cls:=.type "tuple",dict:=m8,data:=.seq al n2,slots:=im}/\
   R (.ok (.ret (.bool (lexLt ns ms)))) s):=
 .of_wp λ prog w A R s h=>by
  obtain⟨hp,g,d,tk,os⟩:=s;obtain⟨hl,hb,h⟩:=h;have f2:=AutoSeq1.sub_tuple_tuple;have z1:items.size=ns.length:=by rw[<-hi.length];simp
  have z2:al.size=ms.length:=by rw[<-hj.length];simp
  wp_walk using wpAny_loadPart' hl,wpAny_loadPart' hb,wpAny_forIn_list _ (λ rest b s'=>b.1=none/\s'=⟨hp,g,d,tk,os⟩/\∃(vs ws:List Value) (cz gz:List Int),rest=vs.zip ws/\
   IntsAre vs cz/\IntsAre ws gz/\cz.length+al.size=gz.length+items.size/\R (.ok (.ret (.bool (lexLt cz gz)))) ⟨hp,g,d,tk,os⟩) _
  case turn =>
   rintro ⟨y,x⟩ rest b s' ⟨az,rfl,vs,ws,cz,gz,hz,m9,lf,hlen,hR⟩;cases m9 with
   |nil=>rw[List.zip_nil_left] at hz;cases hz
   |cons a t na =>
    cases lf with
    |nil=>rw[List.zip_nil_right] at hz;cases hz
    |cons c u nb =>
     rw[List.zip_cons_cons] at hz;injection hz with va du
     injection va with hy hx
     subst hy hx;rw[FX] at hR;simp only[z5] at hlen;obtain⟨e,he,ip⟩:=ZD A.in1 ⟨hp,g,d,tk,os⟩ a t c u;refine wpAny_bind (he prog w _ _ ?_);cases e with
     |true =>
      rw[if_pos (ip.mp rfl)] at hR
      wp_walk
      exact⟨rfl,rfl,_,_,_,_,du,na,nb,by omega,hR⟩
     |false =>
      rw[if_neg (λ q=>absurd (ip.mpr q) zai)] at hR;have vb:=ZE A.in1 ⟨hp,g,d,tk,os⟩ a t c u prog w
      wp_walk using vb
      exact⟨_,rfl,by simpa using hR⟩
  case fin =>
   rintro ⟨b1,b2⟩ s' ⟨az,rfl,vs,ws,cz,gz,hz,m9,lf,hlen,hR⟩;simp only at az;subst az;have hv:lexLt cz gz=decide (items.size<al.size):=by
    cases m9 with
    |nil =>
     cases lf with
     |nil =>
      simp only[List.length_nil] at hlen;rw[Fb];exact (decide_eq_false (by omega)).symm
     |cons c u hw =>
      simp only[List.length_nil,z5] at hlen;rw[NH];exact (decide_eq_true (by omega)).symm
    |cons a t hv =>
     cases lf with
     |nil =>
      simp only[List.length_nil,z5] at hlen;rw[NI];exact (decide_eq_false (by omega)).symm
     |cons c u hw =>
      rw[List.zip_cons_cons] at hz;cases hz
   rw[hv] at hR
   wp_walk
   exact⟨_,rfl,by simpa [Builtin.Tuple.tupleCompareSizes] using hR⟩
  case h =>
   exact⟨rfl,rfl,items.toList,al.toList,ns,ms,rfl,hi,hj,by omega,h⟩
end
section
variable {prog:Program}{w:World}{A:Around}{E:Value->Shared->Prop}{s:Shared}
theorem NJ {l b:Addr}{items al:Array Value}{ns ms:List Int}{Q:Value->Shared->Prop}(hl:IsTup s.heap l items)(hb:IsTup s.heap b al)(hi:IntsAre items.toList ns)(hj:IntsAre al.toList ms)
 (hu:A.units<cLine) (h:Q (.bool (lexLt ns ms)) s):wpAny (model prog w) A (compareOp .Lt (.ref l) (.ref b)) Q E s:=by
 obtain⟨⟨cls,dd,data,sl⟩,ho,hc,n,hd⟩:=id hl;obtain⟨⟨vc,m8,data2,im⟩,sq,nc,n2,hd2⟩:=id hb;simp only at hc hd nc hd2;subst hc hd nc hd2;exact richCompare_meets_room (op:=.Lt) ⟨_,ho,rfl⟩ ⟨_,sq,rfl⟩ PySem.F.slot_tuple_lt PySem.F.entry_tuple_lt (PySem.F.args_tuple_lt_2 _ _) (PJ l b items al n n2 dd m8 sl im ns ms hi hj)
  ⟨ho,sq,show Value.bool (lexLt ns ms)≠Value.notImplemented/\Q (.bool (lexLt ns ms)) s from ⟨(λ x=>nomatch x),h⟩⟩ hu
noncomputable def NK (n d:Nat):Option Int->Nat
 |none=>d
 |some v=>if v<0 then (v+(n:Int)).toNat else min v.toNat n
theorem SN (n d:Nat):NK n d none=d:=rfl
theorem N0 (n d k:Nat):NK n d (some (k:Int))=min k n:=by
 show (if (k:Int)<0 then ((k:Int)+(n:Int)).toNat else min (k:Int).toNat n)=min k n;rw[if_neg (by omega),zba]
end
end HT
namespace L2
open PySem PySem.Spec PyProof.Rows
noncomputable abbrev TO:=St->Hp->(Option Int->Hp->Prop)->Prop
def PO (X:Cx)(e:Option Expr)(t:TO):Prop:=
 ∀(pins:List (Addr×Obj)) (s:Shared) (σ:St) (H:Hp) (Q:Option Int->Hp->Prop),Inv X pins σ H s->t σ H Q->
  wpAny (model X.prog X.w) X.A (evalPart e X.env) (λ u s'=>∃o H',Inv X pins σ H' s'/\IsPart u o/\Q o H') X.xe s
noncomputable def gM:TO:=λ _ H Q=>Q none H
noncomputable def tV (t:TE):TO:=λ σ H Q=>t σ H λ x H1=>∃i,x=.int i/\Q (some i) H1
theorem intsAre_of {ns:List Int}:∀ {us:List Value},Vals (ns.map V.int) us->IntsAre us ns:=by
 induction ns with
 |nil=>intro us r;rw[zcl] at r;cases r;exact .nil
 |cons n ns ih =>
  intro us r;rw[zy] at r;cases r with
  |cons r1 r2 =>
   obtain⟨t,e⟩:=r1;subst e;exact .cons n t (ih r2)
section
variable {X:Cx}{e:Expr}{te:TE}{lo hi:Option Expr}{tl th:TO}{pos p2:Pos}
theorem gN:PO X none gM:=by
 intro pins s σ H Q I h;rw[evalPart_none];exact wpAny_pure ⟨none,H,I,.none,h⟩
theorem gO (h:PE X e te):PO X (some e) (tV te):=by
 intro pins s σ H Q I hw;rw[evalPart_some];refine Bd (h pins s σ H _ I hw) λ u s1 zz=>?_;obtain⟨x,H1,I1,r1,q1⟩:=zz;obtain⟨i,rfl,q⟩:=q1;obtain⟨t,rfl⟩:=r1;exact⟨some i,H1,I1,.int i t,q⟩
def zS (X:Cx)(r:V->Option Int->Option Int->Hp->VK->Prop):Prop:=
 ∀(pins:List (Addr×Obj)) (s:Shared) (σ:St) (H:Hp) (x:V) (v vl vu:Value) (lo hi:Option Int) (sl:Addr) (Q:VK),Inv X pins σ H s->RelV x v->s.heap.IsSliceOf sl vl vu .none->IsPart vl lo->IsPart vu hi->r x lo hi H Q->
  ∃T id,typeLookup (.type T) "__getitem__" = pure (some (.builtin id))/\s.TypeIs v T/\wpAny (model X.prog X.w) X.A (getItem v (.ref sl)) (EP X pins σ Q) X.xe s
noncomputable def tSl (r:V->Option Int->Option Int->Hp->VK->Prop)(te:TE)(tl th:TO):TE:=λ σ H Q=>te σ H λ x H1=>tl σ H1 λ l H2=>th σ H2 λ u H3=>r x l u H3 Q
theorem ZF {r:V->Option Int->Option Int->Hp->VK->Prop}(hr:zS X r)(he:PE X e te)(hl:PO X lo tl)(hu:PO X hi th):PE X (.Subscript e (.Slice lo hi none p2) pos) (tSl r te tl th):=by
 intro pins s σ H Q I h;refine Subscript_ (Bd (he pins s σ H _ I h) λ v s1 zz=>?_);obtain⟨x,H1,I1,r1,q1⟩:=zz;refine wpAny_Slice (Bd (hl pins s1 σ H1 _ I1 q1) λ vl s2 ⟨l,H2,I2,pl,q2⟩=>Bd (hu pins s2 σ H2 _ I2 q2) λ vu s3 zz=>?_);obtain⟨u,H3,I3,pu,q3⟩:=zz;rw[evalPart_none];refine wpAny_pure ?_;have I4:Inv X pins σ H3 {s3 with heap:=s3.heap.push {cls:=.type "slice",data:=.fields #[vl,vu,.none]} }:=I3.kept (t':=s3.toks) λ b ob q=>z7 _ q;obtain⟨T,id,hT,ht,hg⟩:=hr pins {s3 with heap:=s3.heap.push {cls:=.type "slice",data:=.fields #[vl,vu,.none]} } σ H3 x v vl vu l u s3.heap.objs.size Q I4 r1 (Heap.IsSliceOf.new ..) pl pu q3;show wpAny (model X.prog X.w) X.A (subscriptTail e (.Slice lo hi none p2) v (.ref s3.heap.objs.size)) (EP X pins σ Q) X.xe {s3 with heap:=s3.heap.push {cls:=.type "slice",data:=.fields #[vl,vu,.none]} };exact tail_any (ops:=[.ref s3.heap.objs.size,v]) ht hT hg (by with_unfolding_all rfl)
noncomputable def ZG (xs:List V)(lo hi:Option Int):List V:=(xs.drop (HT.NK xs.length 0 lo)).take (HT.NK xs.length xs.length hi-HT.NK xs.length 0 lo)
theorem SO (xs:List V)(lo hi:Option Int):(ZG xs lo hi).length<=xs.length:=by
 unfold ZG;rw[zbi,List.length_drop];omega
noncomputable def tW (K:zt):R2:=λ x y H Q=>∃a b ns ms,x=.ref a/\y=.ref b/\EY K H a (ns.map V.int)/\EY K H b (ms.map V.int)/\Q (.bl (HT.lexLt ns ms)) H
theorem ZH (hu:X.A.units<cLine):FW X (compareOp .Lt) (tW X.K):=by
 intro pins s σ H x y v u Q I rx ry h;obtain⟨a,b,ns,ms,rfl,rfl,ha,hb,q⟩:=h;cases rx;cases ry;obtain⟨aa,r1,p1,_⟩:=I.tuple ha;obtain⟨aG,r2,p2,_⟩:=I.tuple hb;have i1:IntsAre aa.toArray.toList ns:=intsAre_of r1;have i2:IntsAre aG.toArray.toList ms:=intsAre_of r2;exact HT.NJ p1 p2 i1 i2 hu ⟨.bl (HT.lexLt ns ms),H,I,rfl,q⟩
end
noncomputable def fO (n:Nat)(i:Int):Option Nat:=if 0<=i then (if i<n then some i.toNat else none) else if -(n:Int)<=i then some (i+n).toNat else none
noncomputable def Wt {α:Type}(xs:List α)(i:Int):Option α:=(fO xs.length i).bind λ j=>xs[j]?
theorem Wu {n:Nat}{i:Int}{j:Nat}(h:fO n i=some j):seqIndex? i n=some j/\j<n/\-(n:Int)<=i/\i<n:=by
 unfold fO at h;by_cases h0:0<=i
 ·rw[if_pos h0] at h;by_cases h1:i<n
  ·rw[if_pos h1] at h;have e:i.toNat=j:=zad h;exact⟨by rw[seqIndex_of h0 h1,e],by omega,by omega,h1⟩
  ·rw[if_neg h1] at h;cases h
 ·rw[if_neg h0] at h;by_cases h1 : -(n:Int)<=i
  ·rw[if_pos h1] at h;have e:(i+n).toNat=j:=zad h;exact⟨by rw[seqIndex_neg (by omega) h1,e],by omega,h1,by omega⟩
  ·rw[if_neg h1] at h;cases h
theorem Wv {α:Type}{xs:List α}{i:Int}{v:α}(h:Wt xs i=some v):∃j,seqIndex? i xs.length=some j/\xs[j]?=some v/\j<xs.length/\-(xs.length:Int)<=i/\i<xs.length:=by
 unfold Wt at h;cases e:fO xs.length i with
 |none=>rw[e] at h;cases h
 |some j =>
  rw[e] at h;obtain⟨h1,h2,h3,h4⟩:=Wu e;exact⟨j,h1,h,h2,h3,h4⟩
def Rj (b:Expr):Prop:=∀o i,subscripted b false o i=operate [o,i] (getItem o i)
def gQ (X:Cx)(r:R2):Prop:=
 ∀(value slice:Expr) (pins:List (Addr×Obj)) (s:Shared) (σ:St) (H:Hp) (x y:V) (v u:Value) (Q:VK),Inv X pins σ H s->RelV x v->RelV y u->r x y H Q->
  subscripted slice false v u=operate [v,u] (getItem v u)->wpAny (model X.prog X.w) X.A (subscriptTail value slice v u) (EP X pins σ Q) X.xe s
def zT (X:Cx)(id:String)(r:V->List V->Hp->VK->Prop):Prop:=
 ∀(pins:List (Addr×Obj)) (s:Shared) (σ:St) (H:Hp) (x:V) (xs:List V) (v:Value) (us:List Value) (Q:VK),Inv X pins σ H s->RelV x v->Vals xs us->r x xs H Q->
  wpAny (model X.prog X.w) X.A (call (.builtin id) (v::us)) (EP X pins σ Q) X.xe s
section
variable {X:Cx}{a b:Expr}{ta tb:TE}{pos:Pos}
theorem gQ.or {r r':R2}(h:gQ X r)(h':gQ X r'):gQ X (λ x y H Q=>r x y H Q\/r' x y H Q):=by
 intro value slice pins s σ H x y v u Q I rx ry q hs;rcases q with q|q
 ·exact h value slice pins s σ H x y v u Q I rx ry q hs
 ·exact h' value slice pins s σ H x y v u Q I rx ry q hs
theorem tX {r:R2}(hr:gQ X r)(ha:PE X a ta)(hb:PE X b tb)(hs:Rj b):PE X (.Subscript a b pos) (sC r ta tb):=by
 intro pins s σ H Q I h;exact Subscript_ (oI ha hb I h λ v u s2 x y H2 I2 rx ry q=>hr a b pins s2 σ H2 x y v u Q I2 rx ry q (hs _ _))
noncomputable def oW (K:zt):R2:=λ x y H Q=>∃p xs i v,x=.ref p/\y=.int i/\Dc K H p xs/\Wt xs i=some v/\Q v H
noncomputable def oX (K:zt):R2:=λ x y H Q=>∃p xs i v,x=.ref p/\y=.int i/\EY K H p xs/\Wt xs i=some v/\Q v H
theorem gR:gQ X (oW X.K):=by
 intro value slice pins s σ H x y v u Q I rx ry h hs;obtain⟨p,xs,i,z,rfl,rfl,hq,he,q⟩:=h;cases rx;obtain⟨t,rfl⟩:=ry;obtain⟨aa,r,pl,hz⟩:=I.list hq;obtain⟨j,h1,h2,h3,h4,h5⟩:=Wv he;obtain⟨w,ew,bh⟩:=r.get h2;have hl:=r.length;have hn:=NF;have fin:EP X pins σ Q w s:=⟨z,H,I,bh,q⟩;by_cases h0:0<=i
 ·have hj:i.toNat=j:=by
   rw[seqIndex_of h0 h5] at h1;exact zad h1
  exact item_listR pl.isList h0 (by omega) (by rw[hj];simpa using ew) fin hs
 ·have hj:(i+(aa.toArray.size:Int)).toNat=j:=by
   rw[seqIndex_neg (by omega) h4] at h1;rw[za0,<-hl];exact zad h1
  exact subscriptTail_builtinR (x:=w) pl.isList.typeIs slot_list_getitem.lookup
   (wpAny_getItem_list_neg (Q:=λ r s'=>r=w/\EP X pins σ Q r s') pl.isList (by omega) (by rw[za0]<;>omega) (by omega) (by rw[hj];simpa using ew) ⟨rfl,fin⟩) hs
theorem oY:gQ X (oX X.K):=by
 intro value slice pins s σ H x y v u Q I rx ry h hs;obtain⟨p,xs,i,z,rfl,rfl,hq,he,q⟩:=h;cases rx;obtain⟨t,rfl⟩:=ry;obtain⟨aa,r,pl,hz⟩:=I.tuple hq;obtain⟨j,h1,h2,h3,h4,h5⟩:=Wv he;obtain⟨w,ew,bh⟩:=r.get h2;have hl:=r.length;have hn:=NF;have fin:EP X pins σ Q w s:=⟨z,H,I,bh,q⟩;exact subscriptTail_builtinR (x:=w) pl.typeIs slot_tuple_getitem.lookup
  (getItem_tuple (j:=j) (Q:=λ r s'=>r=w/\EP X pins σ Q r s') pl (by omega) (by omega) (by rw[za0,<-hl];exact h1) (by simpa using ew) ⟨rfl,fin⟩) hs
theorem V3 (aa:List Value)(n j:Nat)(u:Value):Obj.mapSeq (·.setIfInBounds j u) {cls:=.type "list",data:=.seq aa.toArray n}={cls:=.type "list",data:=.seq (aa.set j u).toArray n}:=by
 simp[Obj.mapSeq]
theorem Inv.lst {pins:List (Addr×Obj)}{σ:St}{H:Hp}{s:Shared}{p:Addr}{xs:List V}(I:Inv X pins σ H s)(h:H p=some (.lst xs)):
 ∃(aa:List Value) (n:Nat),Vals xs aa/\s.heap.get? p=some {cls:=.type "list",data:=.seq aa.toArray n}/\xs.length<=sizeLine:=by
 obtain⟨z,aa,n,r,e⟩:=I.As p _ h;exact⟨aa,n,r,e,z⟩
theorem Inv.oZ {pins:List (Addr×Obj)}{σ:St}{H:Hp}{s:Shared}{p:Addr}{xs ys:List V}{aa its':List Value}{n n':Nat}{f:Obj->Obj}(I:Inv X pins σ H s)(h:H p=some (.lst xs))
 (ho:s.heap.get? p=some {cls:=.type "list",data:=.seq aa.toArray n}) (hf:f {cls:=.type "list",data:=.seq aa.toArray n}={cls:=.type "list",data:=.seq its'.toArray n' }) (r:Vals ys its') (hz:ys.length<=sizeLine) (t:Nat):
 Inv X pins σ (upd H p (.lst ys)) {s with heap:=s.heap.update p f,toks:=t}:=by
 have e:(s.heap.update p f).get? p=some {cls:=.type "list",data:=.seq its'.toArray n' }:=by
  rw[Heap.get?_update_self f ho (by rw[hf]<;>rfl),hf]
 refine I.write (x:=p) (e:=p) (by rw[h];trivial) (.inl rfl) (λ b u hb q=>(Heap.get?_update_other _ _ (zb3 hb)).trans q) ⟨_,e⟩ ?_;exact⟨hz,its',n',r,e⟩
def tY:V->V->V->Hp->(Hp->Prop)->Prop:=λ o i v H Q=>∃p xs k j,o=.ref p/\i=.int k/\H p=some (.lst xs)/\fO xs.length k=some j/\Q (upd H p (.lst (xs.set j v)))
theorem set_list:tJ X tY:=by
 intro pins s σ H o i v ov iv u Q I ro ri rv h;obtain⟨p,xs,k,j,rfl,rfl,hp,hj,q⟩:=h;cases ro;obtain⟨t,rfl⟩:=ri;obtain⟨aa,n,r,ho,hz⟩:=I.lst hp;obtain⟨h1,h2,h3,h4⟩:=Wu hj;have hl:=r.length;have hn:=NF;have I':Inv X pins σ (upd H p (.lst (xs.set j v))) {s with heap:=s.heap.update p (Obj.mapSeq (·.setIfInBounds j u))}:=
  I.oZ hp ho (V3 aa n j u) (r.set rv j) (by rw[zbl];exact hz) s.toks
 by_cases h0:0<=k
 ·have hk:k.toNat=j:=by
   rw[seqIndex_of h0 h4] at h1;exact zad h1
  exact PySem.W.ki_setAt ho h0 (by omega) (by rw[za0,<-hl];exact h4) (by rw[hk];exact⟨_,I',q⟩)
 ·have hk:(k+(aa.toArray.size:Int)).toNat=j:=by
   rw[seqIndex_neg (by omega) h3] at h1;rw[za0,<-hl];exact zad h1
  exact PySem.W.ki_setBack ho (by omega) (by rw[za0,<-hl];exact h3) (by omega) (by rw[hk];exact⟨_,I',q⟩)
theorem Rk (lo hi:Option Int)(n:Nat):(sliceBounds lo hi none n).1=((HT.NK n 0 lo:Nat):Int)/\(sliceBounds lo hi none n).2.1=((HT.NK n n hi:Nat):Int)/\(sliceBounds lo hi none n).2.2=1:=by
 refine⟨?_,?_,rfl⟩
 ·cases lo with
  |none=>simp[sliceBounds,HT.NK]
  |some i =>
   simp only[sliceBounds,HT.NK,Option.getD_none,show (1:Int) > 0 by decide,if_true];by_cases h:i<0
   ·simp only[h,if_true]<;>omega
   ·simp only[h,if_false]<;>omega
 ·cases hi with
  |none=>simp[sliceBounds,HT.NK]
  |some i =>
   simp only[sliceBounds,HT.NK,Option.getD_none,show (1:Int) > 0 by decide,if_true];by_cases h:i<0
   ·simp only[h,if_true]<;>omega
   ·simp only[h,if_false]<;>omega
theorem PL (aa:List Value)(lo hi:Option Int):slicePick aa.toArray lo hi none=((aa.drop (HT.NK aa.length 0 lo)).take (HT.NK aa.length aa.length hi-HT.NK aa.length 0 lo)).toArray:=by
 obtain⟨h1,h2,h3⟩:=Rk lo hi aa.toArray.size;unfold slicePick;rw[h1,h2,h3];simp only[sliceRange_one,pick_run,za0]<;>rfl
def yL (K:zt):V->Option Int->Option Int->Hp->VK->Prop:=λ x lo hi H Q=>∃a xs,x=.ref a/\Dc K H a xs/\∀p,H p=none->Q (.ref p) (upd H p (.lst (ZG xs lo hi)))
theorem gU:zS X (yL X.K):=by
 intro pins s σ H x v vl vu lo hi sl Q I rx hs pl pu h;obtain⟨a,xs,rfl,hx,q⟩:=h;cases rx;obtain⟨aa,r,ht,hz⟩:=I.list hx;have hlen:=r.length;refine⟨"list",_,slot_list_getitem.lookup,ht.isList.typeIs,?_⟩;refine wpAny_getItem_list_slice ht.isList hs pl pu .none (by simp) ?_ (by rw[za0]<;>omega);rw[PL,<-hlen];refine⟨.ref s.heap.objs.size,_,I.laid (t':=s.toks) (o:=.lst (ZG xs lo hi)) (λ b ob q=>z7 _ q) (za2 _) ?_,rfl,q _ (I.As.fresh (za2 _))⟩;exact⟨zbb (SO xs lo hi) hz,_,0,(r.drop (HT.NK xs.length 0 lo)).take (HT.NK xs.length xs.length hi-HT.NK xs.length 0 lo),zac _ rfl⟩
noncomputable def JP:V->Bool
 | .AN| .bl _| .int _| .str _=>true
 |_=>false
noncomputable def lX:V->V->Bool
 | .AN,.AN=>true
 | .bl a,.bl b=>a==b
 | .bl a,.int b=>(if a then 1 else 0)==b
 | .int a,.bl b=>a==(if b then 1 else 0)
 | .int a,.int b| .str a,.str b=>a==b
 |_,_=>false
theorem pA {A:Around}{s:Shared}{y x:V}{u v:Value}(ry:RelV y u)(rx:RelV x v)(fy:JP y=true)(fx:JP x=true):SeqAt.EqAt A s u v (lX y x):=by
 cases y with
 |AN =>
  cases ry;cases x with
  |AN=>cases rx;exact SeqAt.EqAt.same _
  |bl b=>cases rx;exact SeqAt.EqAt.none_bool b
  |int b=>obtain⟨t,rfl⟩:=rx;exact SeqAt.EqAt.none_int b t
  |str b=>obtain⟨t,rfl⟩:=rx;exact SeqAt.EqAt.none_str b t
  |_=>exact absurd (show false=true from fx) zai
 |bl a =>
  cases ry;cases x with
  |AN=>cases rx;exact SeqAt.EqAt.bool_none a
  |bl b=>cases rx;exact SeqAt.EqAt.bool_bool a b
  |int b=>obtain⟨t,rfl⟩:=rx;exact SeqAt.EqAt.bool_int a b t
  |str b=>obtain⟨t,rfl⟩:=rx;exact SeqAt.EqAt.bool_str a b t
  |_=>exact absurd (show false=true from fx) zai
 |int a =>
  obtain⟨t',rfl⟩:=ry;cases x with
  |AN=>cases rx;exact SeqAt.EqAt.int_none a t'
  |bl b=>cases rx;exact SeqAt.EqAt.int_bool a t' b
  |int b=>obtain⟨t,rfl⟩:=rx;exact SeqAt.EqAt.int_int a t' b t
  |str b=>obtain⟨t,rfl⟩:=rx;exact SeqAt.EqAt.int_str a t' b t
  |_=>exact absurd (show false=true from fx) zai
 |str a =>
  obtain⟨t',rfl⟩:=ry;cases x with
  |AN=>cases rx;exact SeqAt.EqAt.str_none a t'
  |bl b=>cases rx;exact SeqAt.EqAt.str_bool a t' b
  |int b=>obtain⟨t,rfl⟩:=rx;exact SeqAt.EqAt.str_int a t' b t
  |str b=>obtain⟨t,rfl⟩:=rx;exact SeqAt.EqAt.str_str a t' b t
  |_=>exact absurd (show false=true from fx) zai
 |_=>exact absurd (show false=true from fy) zai
noncomputable def V4 (x:V)(u:Value):Bool:=match u with
 | .none=>lX .AN x
 | .bool b=>lX (.bl b) x
 | .int i _=>lX (.int i) x
 | .str z _=>lX (.str z) x
 |_=>false
theorem ZI {x y:V}{u:Value}(r:RelV y u)(f:JP y=true):V4 x u=lX y x:=by
 cases y with
 |AN|bl b=>cases r;rfl
 |int i|str z=>obtain⟨t,rfl⟩:=r;rfl
 |_=>exact absurd (show false=true from f) zai
theorem JQ {x:V}:∀ {xs:List V}{us:List Value},Vals xs us->xs.all JP=true->us.any (V4 x)=xs.any λ y=>lX y x
 |_,_,.nil,_=>rfl
 |y::xs,u::us,.cons r t,f=>by
  rw[List.all_cons,zat] at f;rw[zcr,zcr,ZI r f.1,JQ t f.2]
theorem GS {A:Around}{s:Shared}{x:V}{v:Value}(rx:RelV x v)(fx:JP x=true):∀ {xs:List V}{us:List Value},Vals xs us->xs.all JP=true->∀u∈us,SeqAt.EqAt A s u v (V4 x u)
 |_,_,.nil,_=>λ u hu=>by cases hu
 |y::xs,u::us,.cons r t,f=>λ u' hu=>by
  rw[List.all_cons,zat] at f;rcases z8.mp hu with rfl|hu
  ·rw[ZI r f.1];exact pA r rx f.1 fx
  ·exact GS rx fx t f.2 u' hu
noncomputable def wQ (x:V)(xs:List V):Bool:=xs.any λ y=>lX y x
noncomputable def wR (K:zt)(neg:Bool):R2:=λ x y H Q=>∃p xs,y=.ref p/\(Dc K H p xs\/EY K H p xs)/\JP x=true/\xs.all JP=true/\Q (.bl (if neg then !wQ x xs else wQ x xs)) H
theorem XO:FW X (compareOp .In) (wR X.K false):=by
 intro pins s σ H x y v u Q I rx ry h;obtain⟨p,xs,rfl,hq,fx,fs,q⟩:=h;cases ry;rcases hq with hq|hq
 ·obtain⟨aa,r,pl,hz⟩:=I.list hq;refine SeqAt.in_listAt (V4 x) pl.isList (λ w hw=>GS rx fx r fs w (by simpa using hw)) ⟨.bl _,H,I,rfl,?_⟩;rw[show aa.toArray.any (V4 x)=aa.any (V4 x) by simp,JQ r fs];exact q
 ·obtain⟨aa,r,pl,hz⟩:=I.tuple hq;refine SeqAt.in_tupleAt (V4 x) pl (λ w hw=>GS rx fx r fs w (by simpa using hw)) ⟨.bl _,H,I,rfl,?_⟩;rw[show aa.toArray.any (V4 x)=aa.any (V4 x) by simp,JQ r fs];exact q
theorem JR:FW X (compareOp .NotIn) (wR X.K true):=by
 intro pins s σ H x y v u Q I rx ry h;obtain⟨p,xs,rfl,hq,fx,fs,q⟩:=h;cases ry;rcases hq with hq|hq
 ·obtain⟨aa,r,pl,hz⟩:=I.list hq;refine SeqAt.notIn_listAt (V4 x) pl.isList (λ w hw=>GS rx fx r fs w (by simpa using hw)) ⟨.bl _,H,I,rfl,?_⟩;rw[show aa.toArray.any (V4 x)=aa.any (V4 x) by simp,JQ r fs];exact q
 ·obtain⟨aa,r,pl,hz⟩:=I.tuple hq;refine SeqAt.notIn_tupleAt (V4 x) pl (λ w hw=>GS rx fx r fs w (by simpa using hw)) ⟨.bl _,H,I,rfl,?_⟩;rw[show aa.toArray.any (V4 x)=aa.any (V4 x) by simp,JQ r fs];exact q
theorem Rl:Gu X (.builtin "len") (λ xs H Q=>∃p ys,xs=[.ref p]/\(Dc X.K H p ys\/EY X.K H p ys)/\Q (.int ys.length) H):=by
 intro pins s σ H xs us Q I r h;obtain⟨p,ys,rfl,hq,q⟩:=h;obtain⟨u,rfl,rx⟩:=vals1 r;cases rx;have hn:=NF;rcases hq with hq|hq
 ·obtain⟨aa,r',pl,hz⟩:=I.list hq;have hlen:=r'.length;exact Calls.call_len_list pl.isList (by simp only[za0]<;>omega) ⟨.int ys.length,H,I.tok _,⟨s.toks+1,by rw[za0,hlen]⟩,q⟩
 ·obtain⟨aa,r',pl,hz⟩:=I.tuple hq;have hlen:=r'.length;exact len_tuple pl (by simp only[za0]<;>omega) ⟨.int ys.length,H,I.tok _,⟨s.toks+1,by rw[za0,hlen]⟩,q⟩
theorem Rm:Gu X (.type "list") (λ xs H Q=>∃p ys,xs=[.ref p]/\(Dc X.K H p ys\/EY X.K H p ys)/\∀l,H l=none->Q (.ref l) (upd H l (.lst ys))):=by
 intro pins s σ H xs us Q I r h;obtain⟨p,ys,rfl,hq,q⟩:=h;obtain⟨u,rfl,rx⟩:=vals1 r;cases rx;have fin:∀(aa:List Value),Vals ys aa->ys.length<=sizeLine->∀(h':Heap) (c':Nat),(∀b o',s.heap.get? b=some o'->h'.get? b=some o')->
  h'.get? s.heap.objs.size=some {cls:=.type "list",dict:=none,data:=.seq aa.toArray c',slots:=#[]}->EP X pins σ Q (.ref s.heap.objs.size) {s with heap:=h' }:=λ aa r' hz h' c' kp e =>
  ⟨.ref s.heap.objs.size,_,I.laid (t':=s.toks) kp (za2 _) (show Bh X.prog X.w _ h' _ (.lst ys) from ⟨hz,aa,c',r',e⟩),rfl,q _ (I.As.fresh (za2 _))⟩
 rcases hq with hq|hq
 ·obtain⟨aa,r',pl,hz⟩:=I.list hq;have hlen:=r'.length;obtain⟨o,ho,hc,n,hd⟩:=pl.isList;exact call_list_seq p (.inl rfl) ho hc hd (λ h' c' kp e=>fin aa r' hz h' c' kp e) (by simp only[za0]<;>omega)
 ·obtain⟨aa,r',pl,hz⟩:=I.tuple hq;have hlen:=r'.length;obtain⟨o,ho,hc,n,hd⟩:=pl;exact call_list_seq p (.inr rfl) ho hc hd (λ h' c' kp e=>fin aa r' hz h' c' kp e) (by simp only[za0]<;>omega)
theorem PM:Gu X (.type "tuple") (λ xs H Q=>∃p ys,xs=[.ref p]/\((Dc X.K H p ys/\∀l,H l=none->Q (.ref l) (upd H l (.tup ys)))\/(EY X.K H p ys/\Q (.ref p) H))):=by
 intro pins s σ H xs us Q I r h;obtain⟨p,ys,rfl,h⟩:=h;obtain⟨u,rfl,rx⟩:=vals1 r;cases rx;rcases h with ⟨hq,q⟩|⟨hq,q⟩
 ·obtain⟨aa,r',pl,hz⟩:=I.list hq;have hlen:=r'.length;refine call_tuple_list pl.isList (λ h' kp=>?_) (by simp only[za0]<;>omega);have I1:Inv X pins σ H {s with heap:=h' }:=I.kept (t':=s.toks) kp;have I2:Inv X pins σ (upd H h'.objs.size (.tup ys)) {s with heap:=h'.push {cls:=.type "tuple",data:=.seq aa.toArray} }:=
   I1.laid (t':=s.toks) (λ b o e=>z7 _ e) (za2 _) (show Bh X.prog X.w _ _ _ (.tup ys) from ⟨hz,aa,r',IsTup.new _ _⟩)
  exact⟨.ref h'.objs.size,_,I2,rfl,q _ (I1.As.fresh (za2 _))⟩
 ·obtain⟨aa,r',pl,hz⟩:=I.tuple hq;exact call_tuple_same pl ⟨.ref p,H,I,rfl,q⟩
def yM (K:zt)(T:String)(x:V)(H:Hp):Prop:=match x with
 | .str _=>T = "str"
 | .int _=>T = "int"
 | .ref p=>(T = "list" /\ ∃xs,Dc K H p xs)\/(T = "tuple" /\ ∃o,K.lookup p=some o/\o.cls=.type "tuple" /\ o.dict=none) \/
  (T = "dict" /\ ((∃kvs,H p=some (.dK kvs))\/∃kvs,H p=some (.dT kvs)))\/(T = "set" /\ ∃S n,H p=some (.set S n))
 |_=>False
theorem ZJ {pins:List (Addr×Obj)}{σ:St}{H:Hp}{s:Shared}{T:String}{x:V}{v:Value}(I:Inv X pins σ H s)(r:RelV x v)(ty:yM X.K T x H):
 s.TypeIs v T/\∀a,v=.ref a->∃ob,s.heap.get? a=some ob/\ob.dict=none:=by
 cases x with
 |str z =>
  obtain⟨t,rfl⟩:=r;cases (show T = "str" from ty);exact⟨typeIs_str s z t,λ _ e=>nomatch e⟩
 |int i =>
  obtain⟨t,rfl⟩:=r;cases (show T = "int" from ty);exact⟨typeIs_int s i t,λ _ e=>nomatch e⟩
 |ref p =>
  cases r;rcases ty with ⟨rfl,xs,hq⟩|⟨rfl,o,hk,hc,hd⟩|⟨rfl,hk⟩|⟨rfl,S,n,hk⟩
  ·obtain⟨aa,_,pl,_⟩:=I.list hq;refine⟨pl.isList.typeIs,λ a e=>?_⟩;cases e;obtain⟨o,n,e,c,hd,_⟩:=pl;exact⟨o,e,hd⟩
  ·refine⟨⟨o,I.Pw p o hk,hc⟩,λ a e=>?_⟩;cases e;exact⟨o,I.Pw _ o hk,hd⟩
  ·have z:∃o,s.heap.get? p=some o/\o.ExactDict:=by
    rcases hk with ⟨kvs,hk⟩|⟨kvs,hk⟩
    ·obtain⟨_,_,_,_,o,_,_,e,ex,_⟩:=I.As p _ hk;exact⟨o,e,ex⟩
    ·obtain⟨_,_,_,_,o,_,_,e,ex,_⟩:=I.As p _ hk;exact⟨o,e,ex⟩
   obtain⟨o,e,ex⟩:=z;refine⟨⟨o,e,ex.1⟩,λ a e2=>?_⟩;cases e2;exact⟨o,e,ex.2.1⟩
  ·obtain⟨o,_,_,_,e,ex,_⟩:=I.As p _ hk;refine⟨⟨o,e,ex.1⟩,λ a e2=>?_⟩;cases e2;exact⟨o,e,ex.2.1⟩
 |_=>exact zcc ty
noncomputable def yN (K:zt)(T:String)(r:V->List V->Hp->VK->Prop)(to:TE):TE:=λ σ H Q=>to σ H λ x H1=>yM K T x H1/\r x [] H1 Q
noncomputable def tBM (K:zt)(T:String)(r:V->List V->Hp->VK->Prop)(to:TE)(t:TA):TE:=λ σ H Q=>to σ H λ x H1=>yM K T x H1/\t σ H1 λ xs H2=>r x xs H2 Q
variable {o e:Expr}{es:List Expr}{to:TE}{t:TA}{name:Str}{apos ad:Pos}{T id:String}{r:V->List V->Hp->VK->Prop}
theorem pB (pa:PlainAttrs T)(slot:Slot T name id)(ng:typeOf (.builtin id)=pure (.type "method_descriptor"))(hm:zT X id r)(ho:PE X o to)
 (aj:attributeBase o name X.env (eval o X.env)=eval o X.env:=by rfl) (ak:(apos.endLine==ad.line)=true:=by rfl):PE X (.Call (.Attribute o name apos) [] [] ad) (yN X.K T r to):=by
 intro pins s σ H Q I h;refine wpAny_Call_method0_late aj ak (Bd (ho pins s σ H _ I h) λ v s1 zz=>?_);obtain⟨x,H1,I1,r1,ty,q1⟩:=zz;obtain⟨h1,h2⟩:=ZJ I1 r1 ty;exact⟨T,id,pa,slot,ng,h1,h2,Calls.callWith_builtin rfl (PySem.evalArgs_none (hm pins s1 σ H1 x [] v [] Q I1 r1 .nil q1))⟩
theorem Ww (pa:PlainAttrs T)(slot:Slot T name id)(ng:typeOf (.builtin id)=pure (.type "method_descriptor"))(hm:zT X id r)(ho:PE X o to)(ha:PA X (e::es) t)
 (aj:attributeBase o name X.env (eval o X.env)=eval o X.env:=by rfl)
 (aK:((backTo ad (starEach (e::es) X.env)).all (λ x => !x.1)&&(backToKw ad (keywordEach [] X.env)).all (λ x=>x.1.isSome)
  && decide ((e::es).length+([]:List Keyword).length+(if ([]:List Keyword).isEmpty then 0 else 1)<30))=true:=by rfl)
 (ak:(apos.endLine==ad.line)=true:=by rfl) (hs:starEach (e::es) X.env=(false,eval e X.env)::starEach es X.env:=by rfl) (ao:(backTo ad (starEach es X.env)).any (·.1)=false:=by rfl):
 PE X (.Call (.Attribute o name apos) (e::es) [] ad) (tBM X.K T r to t):=by
 intro pins s σ H Q I h;refine wpAny_Call_method_late aj aK ak rfl (Bd (ho pins s σ H _ I h) λ v s1 zz=>?_);obtain⟨x,H1,I1,r1,ty,q1⟩:=zz;obtain⟨h1,h2⟩:=ZJ I1 r1 ty;refine⟨T,id,pa,slot,ng,h1,h2,?_⟩;have hA:=ha ad pins s1 σ H1 _ I1 q1;rw[hs] at hA ⊢;refine Calls.callWith_builtin (by show (false||(backTo ad (starEach es X.env)).any (·.1))=false;rw[ao]<;>rfl) (Calls.evalArgs_plain ?_);exact Bd hA λ us s2 ⟨vs,H2,I2,r2,q2⟩=>hm pins s2 σ H2 x vs v us Q I2 r1 r2 q2
end
def wU (X:Cx)(id:String)(r:V->List V->Hp->VK->Prop):Prop:=
 ∀(pins:List (Addr×Obj)) (s:Shared) (σ:St) (H:Hp) (x:V) (xs:List V) (v:Value) (us:List Value) (Q:VK),Inv X pins σ H s->RelV x v->Vals xs us->r x xs H Q->
  wpAny (model X.prog X.w) X.A (call (.builtin id) (v::us)) (EP X pins σ Q) X.xe s
theorem Vals.one:∀ {x:V}{us:List Value},Vals [x] us->∃u,us=[u]/\RelV x u
 |_,_,.cons r .nil=>⟨_,rfl,r⟩
theorem Vals.two:∀ {x y:V}{us:List Value},Vals [x,y] us->∃u v,us=[u,v]/\RelV x u/\RelV y v
 |_,_,_,.cons r (.cons q .nil)=>⟨_,_,rfl,r,q⟩
theorem Vals.zero:∀ {us:List Value},Vals [] us->us=[]
 |_,.nil=>rfl
theorem Vals.dropLast {xs:List V}{us:List Value}(h:Vals xs us):Vals xs.dropLast us.dropLast:=by
 induction h with
 |nil=>exact .nil
 |cons r t ih =>
  cases t with
  |nil=>exact .nil
  |cons q t'=>exact .cons r ih
theorem Vals.eraseIdx:∀ {xs:List V}{us:List Value}(i:Nat),Vals xs us->Vals (xs.eraseIdx i) (us.eraseIdx i)
 |_,_,_,.nil=>.nil
 |_,_,0,.cons _ t=>t
 |_,_,i+1,.cons r t=>.cons r (Vals.eraseIdx i t)
theorem Vals.rep {xs:List V}{us:List Value}(h:Vals xs us):∀k:Nat,Vals (za7 k xs).flatten (za7 k us).flatten
 |0=>.nil
 |k+1=>by
  rw[zbw,zbw,List.flatten_cons,List.flatten_cons];exact Vals.append h (Vals.rep h k)
theorem V5 {α:Type}(l:List α):l.eraseIdx (l.length-1)=l.dropLast:=by
 induction l with
 |nil=>rfl
 |cons a r ih =>
  cases r with
  |nil=>rfl
  |cons b r =>
   have e:(a::b::r).length-1=((b::r).length-1)+1:=by
    have h1:(a::b::r).length=r.length+2:=rfl;have h2:(b::r).length=r.length+1:=rfl;omega
   rw[e,List.eraseIdx_cons_succ,ih];all_goals rfl
theorem foldl_rep (aa:List Value):∀(k:Nat) (acc:List Value),
 List.foldl (λ x1 x2=>x1++x2) acc.toArray (za7 k aa.toArray)=(acc++(za7 k aa).flatten).toArray
 |0,acc=>by simp
 |k+1,acc=>by
  have e:acc.toArray++aa.toArray=(acc++aa).toArray:=by simp
  have e2:(acc++aa)++(za7 k aa).flatten=acc++(za7 (k+1) aa).flatten:=by
   rw[zbw,List.flatten_cons,zb5]
  rw[<-e2,<-foldl_rep aa k (acc++aa),<-e,zbw,zah]
section
variable {X:Cx}{pins:List (Addr×Obj)}{σ:St}{H:Hp}{s:Shared}{l b:Addr}{xs ys zs:List V}
theorem Inv.gW {aa its':List Value}{n:Nat}{f:Array Value->Array Value}{t':Nat}(I:Inv X pins σ H s)(hH:H l=some (.lst xs))
 (e:s.heap.get? l=some {cls:=.type "list",data:=.seq aa.toArray n}) (hf:f aa.toArray=its'.toArray) (hv:Vals ys its') (hz:ys.length<=sizeLine):
 Inv X pins σ (upd H l (.lst ys)) {s with heap:=s.heap.update l (Obj.mapSeq f),toks:=t' }:=by
 have q:=PySem.IsL.update e f;rw[hf] at q;refine I.write (x:=l) (e:=l) (by rw[hH];exact trivial) (.inl rfl) (λ b' u hb hu=>(Heap.get?_update_other s.heap (Obj.mapSeq f) (zb3 hb)).trans hu) ⟨_,q⟩ ?_;exact⟨hz,its',_,hv,q⟩
theorem Inv.tZ {aa:List Value}{t':Nat}(I:Inv X pins σ H s)(hv:Vals ys aa)(hz:ys.length<=sizeLine):
 Inv X pins σ (upd H s.heap.objs.size (.lst ys)) {s with heap:=s.heap.push {cls:=.type "list",data:=.seq aa.toArray},toks:=t' }:=
 I.laid (λ _ _ q=>z7 _ q) (za2 _) ⟨hz,aa,0,hv,zac _ rfl⟩
theorem Inv.fresh (I:Inv X pins σ H s):H s.heap.objs.size=none:=I.As.fresh (za2 _)
theorem Inv.XQ (I:Inv X pins σ H s)(hH:H l=some (.lst xs)):xs.length<=sizeLine/\∃(aa:List Value) (n:Nat),Vals xs aa/\xs.length=aa.length/\s.heap.get? l=some {cls:=.type "list",data:=.seq aa.toArray n}:=by
 obtain⟨z,aa,n,r,e⟩:=I.As l _ hH;exact⟨z,aa,n,r,r.length,e⟩
theorem SQ {n:Nat}(h:n<=sizeLine):zcq n=false:=by
 unfold zcq;exact decide_eq_false (by omega)
end
section
variable {X:Cx}
def gY:V->List V->Hp->VK->Prop:=λ x vs H Q=>∃l xs y,x=.ref l/\vs=[y]/\H l=some (.lst xs)/\xs.length<sizeLine/\Q .AN (upd H l (.lst (xs++[y])))
theorem Qo:wU X "list.append" gY:=by
 intro pins s σ H x vs v us Q I rx rv h;obtain⟨l,xs,y,rfl,rfl,hH,hz,q⟩:=h;cases rx;obtain⟨u,rfl,ru⟩:=rv.one;obtain⟨z,aa,n,r,hl,e⟩:=I.XQ hH;refine call_meets F.slot_list_append ⟨_,e,rfl⟩ F.entry_list_append (F.args_list_append_2 _ _) (PySem.list_append l aa.toArray n u (by rw[za0];omega)) ⟨e,?_⟩;refine⟨.AN,_,I.gW (its':=aa++[u]) hH e (by simp) (r.append (.cons ru .nil)) ?_,rfl,q⟩;rw[za6,zav];omega
def gZ:V->List V->Hp->VK->Prop:=λ x vs H Q=>∃l b xs zs,x=.ref l/\vs=[.ref b]/\H l=some (.lst xs)/\H b=some (.lst zs)/\xs.length+zs.length<=sizeLine/\Q .AN (upd H l (.lst (xs++zs)))
theorem XR:wU X "list.extend" gZ:=by
 intro pins s σ H x vs v us Q I rx rv h;obtain⟨l,b,xs,zs,rfl,rfl,hH,hB,hz,q⟩:=h;cases rx;obtain⟨u,rfl,ru⟩:=rv.one;cases ru;obtain⟨z,aa,n,r,hl,e⟩:=I.XQ hH;obtain⟨z2,aG,n2,r2,am,e2⟩:=I.XQ hB;have hsz:aa.toArray.size+aG.toArray.size<=sizeLine:=by rw[za0,za0];omega
 have bE:¬ (!aa.toArray.isEmpty&&zcq (aa.toArray.size+aG.toArray.size))=true:=by
  rw[SQ hsz,Bool.and_false];exact zai
 refine call_meets F.slot_list_extend ⟨_,e,rfl⟩ F.entry_list_extend (F.args_list_extend_2 _ _)
  (AutoSeq1.list_extend_list_list_0 l aa.toArray n b aG.toArray n2 bE (by rw[za0];omega) (by omega)) ⟨e,e2,?_⟩
 refine⟨.AN,_,I.gW (its':=aa++aG) hH e (by simp) (r.append r2) ?_,rfl,q⟩;rw[za6];omega
def yO:V->List V->Hp->VK->Prop:=λ x vs H Q=>∃l xs y,x=.ref l/\vs=[]/\H l=some (.lst xs)/\xs[xs.length-1]?=some y/\Q y (upd H l (.lst xs.dropLast))
theorem pC:wU X "list.pop" yO:=by
 intro pins s σ H x vs v us Q I rx rv h;obtain⟨l,xs,y,rfl,rfl,hH,hy,q⟩:=h;cases rx;have vd:=rv.zero;subst vd;obtain⟨z,aa,n,r,hl,e⟩:=I.XQ hH;obtain⟨u,hu,ru⟩:=r.get hy;have lg:aa.toArray[aa.toArray.size-1]?=some u:=by
  show aa.toArray[aa.length-1]?=some u;rw[<-Array.getElem?_toList,<-hl];exact hu
 refine call_meets F.slot_list_pop ⟨_,e,rfl⟩ F.entry_list_pop (F.args_list_pop_1 _) (MeetsSeq.list_pop_last l aa.toArray n u lg (by rw[za0];omega)) ⟨e,?_⟩;refine⟨y,_,I.gW (its':=aa.dropLast) hH e ?_ r.dropLast ?_,ru,q⟩
 ·show aa.toArray.eraseIdxIfInBounds (aa.toArray.size-1)=aa.dropLast.toArray;rw[za0,List.eraseIdxIfInBounds_toArray,V5]
 ·rw[List.length_dropLast];omega
noncomputable def yP:R2:=λ x y H Q=>∃l k xs,x=.ref l/\y=.int k/\H l=some (.lst xs)/\-(2^63)<=k/\k<2^63/\xs.length*k.toNat<=sizeLine/\
 ∀p,H p=none->Q (.ref p) (upd H p (.lst (za7 k.toNat xs).flatten))
theorem len_rep {α:Type}(xs:List α)(k:Nat):(za7 k xs).flatten.length=k*xs.length:=by
 induction k with
 |zero=>simp
 |succ k ih=>rw[zbw,List.flatten_cons,za6,ih,Nat.succ_mul,Nat.add_comm]
theorem pE:FW X (binaryOp .Mult) yP:=by
 intro pins s σ H x y v u Q I rx ry h;obtain⟨l,k,xs,rfl,rfl,hH,h1,h2,hz,q⟩:=h;cases rx;obtain⟨t,rfl⟩:=ry;obtain⟨z,aa,n,r,hl,e⟩:=I.XQ hH;have hlen:aa.toArray.size*k.toNat<=sizeLine:=by rw[za0,<-hl];exact hz
 have nh:¬ aa.toArray.size*k.toNat > (2^63-1) / 8:=by
  have:(sizeLine:Nat)<=(2^63-1) / 8:=by decide
  omega
 have ni:¬ (!Builtin.List.listFitsIndex k)=true:=by
  rw[fitsIndex_both h1 h2];exact zai
 have bE:¬ zcq (aa.toArray.size*k.toNat)=true:=by
  rw[SQ hlen];exact zai
 have aL:List.foldl (λ x1 x2=>x1++x2) #[] (za7 (if aa.toArray.isEmpty=true then 0 else k.toNat) aa.toArray)=(za7 k.toNat aa).flatten.toArray:=by
  have f0:∀m:Nat,List.foldl (λ x1 x2=>x1++x2) #[] (za7 m aa.toArray)=(za7 m aa).flatten.toArray:=λ m=>by
   have:=foldl_rep aa m [];rw[List.nil_append] at this;exact this
  rw[f0];cases aa with
  |nil=>simp
  |cons a r'=>rw[if_neg (by simp)]
 refine wpAny_binaryOp_repeat_ref (T := "list") (U := "int") (by decide) ⟨_,e,rfl⟩ (λ s'=>typeIs_int s' k t) noFill_list_mul F.fills_int_mul F.slot_int_rmul repeat_list F.slot_int_index.lookup
  (call_meets F.slot_int_rmul (typeIs_int s k t) F.entry_int_rmul (F.args_int_rmul_2 _ _) (int___rmul___int_list k t l aa.toArray n)
   ⟨e,rfl,⟨_,e,rfl⟩,call_meets F.slot_list_mul ⟨_,e,rfl⟩ F.entry_list_mul (F.args_list_mul_2 _ _) (AutoListH.list___mul___list_int_3 l aa.toArray n k t ni nh bE) ⟨e,?_⟩⟩)
 rw[aL];exact⟨.ref _,_,I.tZ (t':=s.toks) (r.rep k.toNat) (by rw[len_rep,Nat.mul_comm];exact hz),rfl,q _ I.fresh⟩
end
end L2
namespace sr
open PySem PySem.W PySem.Calls PyProof.Rows
theorem MH {P:Params}{h:Heap}:∀(ns:List Int) (vs:List Value),WellAll P h vs (ns.map WData.int)->IntsAre vs ns:=by
 intro ns;induction ns with
 |nil =>
  intro vs w;rw[zcl] at w;cases w;exact .nil
 |cons n ns ih =>
  intro vs w;rw[zy] at w;cases w with
  |cons a b =>
   cases a;exact .cons _ _ (ih _ b)
theorem XS {l:OpenLaw}{n:Nat}(hn:l.most=some n){P:Params}{h:Heap}{args:List WData}{vals:List Value}
 (c3:l.row.toRowW.claim.pre args=true) (lh:WellAll P h vals args):
 ∃a vs ns,vals=[zb6 a]/\args=[WData.list (ns.map WData.int)]/\h.get? a=some {cls:=.type "list",data:=.seq vs.toArray}/\IntsAre vs ns/\ns.length<=n:=by
 have nj:WShape.hasAll [] args [.list .int]=true:=(pre_splitW c3).1;have hc:l.pre.holds [] {args:=args}=true:=(pre_splitW c3).2;obtain⟨d,r,rfl,h1,h2⟩:=hasAllW_cons nj;obtain rfl:=hasAllW_nil h2;obtain⟨xs,rfl,h3⟩:=hasW_list h1;obtain⟨ns,rfl⟩:=items_int h3;have hlen:ns.length<=n:=by
  unfold OpenLaw.pre at hc;have h4:(WTm.not (.lt (.lit (.int (n:Int))) (.len (.arg 0)))).holds [] {args:=[.list (ns.map .int)]}=true:=by
   have h4:=(holds_andW hc).1;rw[hn] at h4;exact h4
  have h5:=condW_of h4 (w_not (w_lt w_lit (w_len_list (w_arg rfl))));rw[zv] at h5;refine Nat.le_of_not_lt λ q=>?_;have q':(n:Int)<((ns.length:Nat):Int):=by omega
  first
   |(rw[decide_eq_true q'] at h5;exact absurd h5 (by decide))
   |(simp at h5;omega)
 cases lh with
 |cons w1 w2 =>
  cases w2;cases w1 with
  |list ho aE=>exact⟨_,_,ns,rfl,rfl,ho,MH ns _ aE,hlen⟩
theorem XT (l:OpenLaw)(args:List WData):l.row.toRowW.claim.post args (.bool true) args=true:=
 postW_of (r:=l.row.toRowW) (X:=(true==true))
  (show WShape.has [] (.bool true) .bool=true by first|rfl|decide|simp[WShape.has,WShape.arms,WShape.armsAll])
  (show (WTm.eq .res (.lit (.bool true))).value [] {args:=args,res:=some (.bool true),after:=args}=some (.bool (true==true)) from w_eq_bool (w_res rfl) w_lit) rfl
end sr
namespace L2
open PySem PySem.Spec PyProof.Rows
theorem Qp:∀ {vs:List Value}{ns:List Int},IntsAre vs ns->Vals (ns.map V.int) vs
 |_,_,.nil=>.nil
 |_,_,.cons n t h=>.cons ⟨t,rfl⟩ (Qp h)
def hV (H:Hp):Prop:=∀b,H b=none\/∃o xs,H b=some (.Gr o (.lst xs))
theorem SR {P:Program}{w:World}{K:zt}{mg mb:Str->Option Value}{CX:Wq}{k:Nat}{fa a:Addr}{fd:FuncData}{x:Str}{sp:Sp}{s₁:Shared}{vs:List Value}{ns:List Int}
 (KX:K.In s₁.heap) (iq:s₁.heap.Ns mainGlobals mg) (hb:s₁.heap.Ns builtinsNs mb) (ve:∀x:Str,x ≠ "__name__" -> mb x=bootBuiltins x) (nk:s₁.heap.NoLimit) (hg:s₁.gens=#[])
 (ha:s₁.heap.get? a=some {cls:=.type "list",data:=.seq vs.toArray}) (hi:IntsAre vs ns) (hl:ns.length<=sizeLine) (hr:BL k callerA)
 (F:∀base:Heap,K.In base->base.Ns mainGlobals mg->E7 P w K mg base CX k fa fd [x] sp) (ir:∀(s:Shared) (u:Value),BindsTo s fd ⟨[u],[]⟩ [(x,u)])
 (bv:∀H:Hp,hV H->Dc K H a (ns.map V.int)->sp [.ref a] H (λ v _=>v=.bl true) λ _ _ _=>False)
 (iu:∀H e s',CX [] H s₁ (λ _ _ _=>False) e s'->False):
 codeAny (model P w) callerA (.call (.ref fa) ⟨[.ref a],[]⟩) (λ r s'=>r=.ok (.ret (.bool true))/\OldK s₁.heap s'.heap/\s'.os=s₁.os/\AllBare s'.gens) s₁:=by
 have rv:=Qp hi;have np:=hi.length;have core:∀H:Hp,hV H->Dc K H a (ns.map V.int)->Gs P w H s₁.heap->(∀b,H b≠none->b=a)->(H a≠none->K.lookup a=none)->
  codeAny (model P w) callerA (.call (.ref fa) ⟨[.ref a],[]⟩) (λ r s'=>r=.ok (.ret (.bool true))/\OldK s₁.heap s'.heap/\s'.os=s₁.os/\AllBare s'.gens) s₁:=by
  intro H hO hS As hA hK;have br:∀ {b:Addr} {o:Obj},s₁.heap.get? b=some o->H b=none->(Rg s₁.heap H).get? b=some o:=λ e n=>Ze e n;have ik:∀ {b:Addr} {o:Obj} {es:Array DictEntry} {ep:Nat},s₁.heap.get? b=some o->o.data=.dict es ep->H b=none:=fun {b o es ep} e d=>by
   cases q:H b with
   |none=>rfl
   |some u =>
    have e':b=a:=hA b (by rw[q];simp);subst e';rw[ha] at e;cases e;have d':Data.seq vs.toArray _=Data.dict es ep:=d;cases d'
  have li:∀ {b:Addr} {m:Str->Option Value},s₁.heap.Ns b m->(Rg s₁.heap H).Ns b m:=fun {b m} ⟨o,es,ep,e,d,r⟩=>⟨o,es,ep,br e (ik e d),d,r⟩;have ss:K.In (Rg s₁.heap H):=λ b o e=>br (KX b o e) (by
   cases q:H b with
   |none=>rfl
   |some u =>
    have e':b=a:=hA b (by rw[q];simp);subst e';rw[hK (by rw[q];simp)] at e;cases e)
  have hM:Mod K mg (Rg s₁.heap H):=⟨ss,li iq,⟨mb,li hb,ve⟩,let ⟨mc,h1,h2⟩:=nk;⟨mc,li h1,h2⟩⟩;have e0:V1 P w K mg (Rg s₁.heap H) callerA [] s₁ H:=⟨rfl,hM,λ b o e=>fT e,Nat.le_of_eq (XD _ _),trivial,λ b hb=>absurd (show b∈([]:List Addr) from hb) (by simp),As,.of_eq hg⟩;refine codeAny_mono ((F _ ss (li iq)).run callerA [] s₁ H ⟨[.ref a],[]⟩ [.ref a] [.ref a] _ _ hr e0 (ir s₁ (.ref a)) (.cons rfl .nil) (bv H hO hS)) λ r s' h=>?_;cases r with
  |error e=>exact (iu H e s' h).elim
  |ok fl =>
   cases fl with
   |next|brk|cont=>exact zcc h
   |ret u =>
    obtain⟨v,H',os,bare,un,ff,r',q⟩:=h;have q':v=.bl true:=q;subst q';obtain rfl:u=Value.bool true:=r';refine⟨rfl,OldK.of_keep λ b o e=>?_,os,bare⟩;cases q:H b with
    |none=>exact un.keep b o e q (by intro z;exact absurd (show b∈([]:List Addr) from z) (by simp)) (by simp)
    |some u =>
     rcases hO b with z|⟨ob,xs,z⟩
     ·rw[q] at z;cases z
     ·have z2:=un.MF b ob _ z;obtain⟨e1,_⟩:=As b _ z;obtain⟨e2,_⟩:=ff b _ z2;rw[e] at e1;cases e1;exact e2
 cases hk:K.lookup a with
 |some o =>
  have e:=KX a o hk;rw[ha] at e;cases e;refine core (λ _=>none) (λ _=>.inl rfl) (.inr ⟨_,vs.toArray,_,hk,rfl,rfl,rfl,by rw[za0,np];exact hl,by simpa using rv⟩) (λ b u z=>by have z':(none:Option HO)=some u:=z;cases z') (λ b z=>absurd rfl z) λ z=>absurd rfl z
 |none =>
  refine core (λ b=>if b=a then some (.Gr {cls:=.type "list",data:=.seq vs.toArray} (.lst (ns.map V.int))) else none) (λ b=>?_) (.inl (.inr ⟨{cls:=.type "list",data:=.seq vs.toArray},if_pos rfl⟩)) (λ b u z=>?_) (λ b z=>?_) λ _=>hk
  ·by_cases hb:b=a
   ·exact .inr ⟨_,_,if_pos hb⟩
   ·exact .inl (if_neg hb)
  ·by_cases hb:b=a
   ·have z':=(if_pos hb).symm.trans z;cases z';subst hb;exact⟨ha,by rw[zv];exact hl,vs,_,rv,ha⟩
   ·have z':=(if_neg hb).symm.trans z;cases z'
  ·by_cases hb:b=a
   ·exact hb
   ·exact absurd (if_neg hb) z
noncomputable abbrev hX:Wq:=λ _ _ _ _ _ _=>False
noncomputable abbrev E0:XK:=λ _ _ _=>False
structure Z9 (K:zt)(x qual:Str)(st:Stmt)(f:Addr)(fd:FuncData):Prop where
 ex:∃(oc:Value) (od:Option Addr) (kV doc pm:Value) (an:Option Addr) (B1 ct:Value) (UH:Array (Option Value)),
  fd=zb2 x qual (Bt st) (AQ st) (A5 st) .none kV doc pm an B1 ct/\K.lookup f=some ⟨oc,od,.func fd,UH⟩/\zbu K B1 qual=true
 kp:zb4 K (.ref f)=true
section
variable {P:Program}{w:World}{K:zt}{mg:Str->Option Value}{base:Heap}
theorem Z9.ok {x qual:Str}{st:Stmt}{f:Addr}{fd:FuncData}{N ps:List Str}{k:Nat}{sp:Sp}(F:Z9 K x qual st f fd)(S:Ae N ps (A5 st))(len:∀vs H Q E,sp vs H Q E->vs.length=ps.length)
 (bD:∀(B1:Value) (A:Around) (outer:List Env) (s:Shared) (H:Hp) (vs:List V) (Q:VK) (E:XK),BL k (A.deeper (envOfC qual (A5 st) s.heap.objs.size f B1))->sp vs H Q E->
  ∃t,Wm (SJ hX P w K mg base N qual (A5 st) f B1 A outer s H E).tF (AQ st) t/\t {nx:=λ _ H'=>Q .AN H',rt:=Q} (start N vs) H):E7 P w K mg base hX (k+1) f fd ps sp:=by
 obtain⟨oc,od,kV,doc,pm,an,B1,ct,UH,rfl,lk,aP⟩:=F.ex;refine Ws lk aP S len λ A outer s H vs Q E hr bv=>?_;obtain⟨t,h,q⟩:=bD B1 A outer s H vs Q E hr bv;exact⟨t,h.tF,q⟩
theorem Z9.binds {x qual:Str}{st:Stmt}{f:Addr}{fd:FuncData}{ps:List Str}(F:Z9 K x qual st f fd)
 (h:∀(kV doc pm:Value) (an:Option Addr) (B1 ct:Value) (us:List Value),us.length=ps.length->bindArgs (zb2 x qual (Bt st) (AQ st) (A5 st) .none kV doc pm an B1 ct) ⟨us,[]⟩=pure (ps.zip us)):Binds K fd ps []:=by
 obtain⟨oc,od,kV,doc,pm,an,B1,ct,UH,rfl,lk,aP⟩:=F.ex;exact .all (h kV doc pm an B1 ct)
theorem V6 {x qual:Str}{st:Stmt}{f:Addr}{oc:Value}{od an:Option Addr}{UH:Array (Option Value)}{kV doc pm B1 ct:Value}(l:K.lookup f=some ⟨oc,od,.func (zb2 x qual (Bt st) (AQ st) (A5 st) .none kV doc pm an B1 ct),UH⟩)
 (c:zbu K B1 qual=true) (k:zb4 K (.ref f)=true):Z9 K x qual st f (zb2 x qual (Bt st) (AQ st) (A5 st) .none kV doc pm an B1 ct):=⟨⟨oc,od,kV,doc,pm,an,B1,ct,UH,rfl,l,c⟩,k⟩
end
theorem AH {n:Nat}(h:n<=1000):n<sizeLine:=Nat.lt_of_le_of_lt h (by decide)
section
variable {X:Cx}
theorem pv (i:Nat){x:Str}{pos:Pos}(hN:X.N[i]?=some x:=by rfl)(hv:xP X.env.scope x:=by first | exact zam rfl | exact Or.inr (zam rfl) | exact Or.inr (Or.inr rfl))(hd:(x==("__debug__" : Str))=false:=by decide)
 (aP:(x==("__classdict__" : Str))=false:=by decide):PE X (.Name x pos) (UN i):=nS hN hv hd aP
end
def Ah (H H':Hp):Prop:=∀b o,H b=some o->H' b=some o
theorem Ah.refl (H:Hp):Ah H H:=λ _ _ h=>h
theorem Ah.trans {H H1 H2:Hp}(a:Ah H H1)(b:Ah H1 H2):Ah H H2:=λ c o h=>b c o (a c o h)
theorem Ah.seq {K:zt}{H H':Hp}{a:Addr}{xs:List V}(e:Ah H H')(h:Dc K H a xs):Dc K H' a xs:=by
 rcases h with (h|⟨o,h⟩)|h
 ·exact .inl (.inl (e _ _ h))
 ·exact .inl (.inr ⟨o,e _ _ h⟩)
 ·exact .inr h
section
variable {κ:Type} [DecidableEq κ]
noncomputable def PN (kvs:List (κ×V))(k:κ):Option V:=(kvs.find? λ kv=>decide (kv.1=k)).map (·.2)
noncomputable def putK (kvs:List (κ×V))(k:κ)(v:V):List (κ×V):=
 if (kvs.any λ kv=>decide (kv.1=k))=true then kvs.map (λ kv=>if kv.1=k then (kv.1,v) else kv) else kvs++[(k,v)]
theorem NL {p:κ×V}{r:List (κ×V)}{k:κ}(e:p.1=k):PN (p::r) k=some p.2:=by simp[PN,zcn,e]
theorem NM {p:κ×V}{r:List (κ×V)}{k:κ}(e:¬ p.1=k):PN (p::r) k=PN r k:=by simp[PN,zcn,e]
theorem SS (k:κ):∀kvs:List (κ×V),(kvs.any λ kv=>decide (kv.1=k))=(PN kvs k).isSome
 |[]=>rfl
 |p::r=>by
  rw[zcr];by_cases e:p.1=k
  ·simp only[NL e,decide_eq_true e,Bool.true_or,Option.isSome_some]
  ·rw[NM e,decide_eq_false e,Bool.false_or];exact SS k r
theorem Dw (kvs:List (κ×V))(k:κ)(v:V):(putK kvs k v).length<=kvs.length+1:=by
 unfold putK;split
 ·rw[zv];omega
 ·rw[za6,z5,List.length_nil];omega
theorem GI.Ft {o:Option V}{u:Option Value}(r:GI o u):o.isSome=u.isSome:=by
 cases o with
 |none=>cases u with
  |none=>rfl
  |some _=>exact (show False from r).elim
 |some _=>cases u with
  |none=>exact (show False from r).elim
  |some _=>rfl
theorem GI.getD {o:Option V}{u:Option Value}{d:V}{d':Value}(r:GI o u)(rd:RelV d d'):RelV (o.getD d) (u.getD d'):=by
 cases o with
 |none=>cases u with
  |none=>exact rd
  |some _=>exact (show False from r).elim
 |some _=>cases u with
  |none=>exact (show False from r).elim
  |some _=>exact r
theorem KV.val {kvs:List (κ×V)}{vs:List (κ×Value)}(r:KV kvs vs)(k:κ):GI (PN kvs k) (valueAt vs k):=by
 unfold KV at r;induction r with
 |nil=>exact zcg
 | @cons p q ps qs h t ih =>
  obtain⟨h1,h2⟩:=h;by_cases e:p.1=k
  ·have e':q.1=k:=h1.symm.trans e;have b:valueAt (q::qs) k=some q.2:=by simp[valueAt,zcn,e']
   rw[NL e,b];exact h2
  ·have e':¬ q.1=k:=λ z=>e (h1.trans z);have b:valueAt (q::qs) k=valueAt qs k:=by simp[valueAt,zcn,e']
   rw[NM e,b];exact ih
theorem KV.any {kvs:List (κ×V)}{vs:List (κ×Value)}(r:KV kvs vs)(k:κ):(kvs.any λ kv=>decide (kv.1=k))=vs.any λ kv=>decide (kv.1=k):=by
 unfold KV at r;induction r with
 |nil=>rfl
 |cons h t ih=>rw[zcr,zcr,ih,h.1]
theorem KV.pF {kvs:List (κ×V)}{vs:List (κ×Value)}(r:KV kvs vs)(k:κ){y:V}{u:Value}(ry:RelV y u):
 KV (kvs.map λ kv=>if kv.1=k then (kv.1,y) else kv) (vs.map λ kv=>if kv.1=k then (kv.1,u) else kv):=by
 unfold KV at r ⊢;induction r with
 |nil=>exact .nil
 | @cons p q ps qs h t ih =>
  rw[zy,zy];refine .cons ?_ ih;obtain⟨h1,h2⟩:=h;by_cases e:p.1=k
  ·rw[if_pos e,if_pos (h1.symm.trans e)];exact⟨h1,ry⟩
  ·rw[if_neg e,if_neg (λ z=>e (h1.trans z))];exact⟨h1,h2⟩
theorem KV.put {kvs:List (κ×V)}{vs:List (κ×Value)}(r:KV kvs vs)(k:κ){y:V}{u:Value}(ry:RelV y u):KV (putK kvs k y) (stored vs k u):=by
 unfold putK stored;rw[r.any k];by_cases e:(vs.any λ kv=>decide (kv.1=k))=true
 ·rw[if_pos e,if_pos e];exact r.pF k ry
 ·rw[if_neg e,if_neg e];exact Paired.snoc r ⟨rfl,ry⟩
theorem KV.length {kvs:List (κ×V)}{vs:List (κ×Value)}(r:KV kvs vs):kvs.length=vs.length:=zck r
end
theorem Ma {P:Program}{w:World}{k:Key}{u:Value}(r:RelV (kV k) u):(AL P w).is k u=true:=by
 cases k with
 |inl i=>obtain⟨t,e⟩:=(show ∃t,u=Value.int i t from r);subst e;exact Sz P w i t
 |inr x=>obtain⟨t,e⟩:=(show ∃t,u=Value.str x t from r);subst e;exact SA P w x t
theorem Qq {P:Program}{w:World}:∀ {ks:List Key}{us:List Value},Vals (ks.map kV) us->ItemsAre (AL P w) ks us
 |[],_,r=>by rw[zcl] at r;cases r;exact .nil
 |k::ks,_,r=>by
  rw[zy] at r;cases r with
  |cons h t=>exact .cons (Ma h) (Qq t)
noncomputable abbrev KT (H:Hp):List (List Key×V)->List (List Key×Addr×Value)->Prop:=Paired λ p q=>p.1=q.1/\H q.2.1=some (.tup (p.1.map kV))/\RelV p.2 q.2.2
theorem KT.val {H:Hp}{kvs:List (List Key×V)}{xs:List (List Key×Addr×Value)}(r:KT H kvs xs)(k:List Key):GI (PN kvs k) ((atKey xs k).map (·.2)):=by
 induction r with
 |nil=>exact zcg
 | @cons p q ps qs h t ih =>
  obtain⟨h1,_,h2⟩:=h;by_cases e:p.1=k
  ·have e':q.1=k:=h1.symm.trans e;have b:atKey (q::qs) k=some q.2:=by simp[atKey,zcn,e']
   rw[NL e,b];exact h2
  ·have e':¬ q.1=k:=λ z=>e (h1.trans z);have b:atKey (q::qs) k=atKey qs k:=by simp[atKey,zcn,e']
   rw[NM e,b];exact ih
theorem KT.pF {H:Hp}{kvs:List (List Key×V)}{xs:List (List Key×Addr×Value)}(r:KT H kvs xs)(k:List Key){y:V}{u:Value}(ry:RelV y u):
 KT H (kvs.map λ kv=>if kv.1=k then (kv.1,y) else kv) (xs.map (putAt k u)):=by
 induction r with
 |nil=>exact .nil
 | @cons p q ps qs h t ih =>
  rw[zy,zy];refine .cons ?_ ih;obtain⟨h1,h2,h3⟩:=h;unfold putAt;by_cases e:p.1=k
  ·rw[if_pos e,if_pos (h1.symm.trans e)];exact⟨h1,h2,ry⟩
  ·rw[if_neg e,if_neg (λ z=>e (h1.trans z))];exact⟨h1,h2,h3⟩
theorem KT.put {H:Hp}{kvs:List (List Key×V)}{xs:List (List Key×Addr×Value)}(r:KT H kvs xs)(k:List Key){b:Addr}{y:V}{u:Value}(hb:H b=some (.tup (k.map kV)))(ry:RelV y u):
 KT H (putK kvs k y) (storedH xs k b u):=by
 have e:(kvs.any λ kv=>decide (kv.1=k))=(atKey xs k).isSome:=by
  rw[SS,(r.val k).Ft,Option.isSome_map]
 unfold putK storedH;rw[e];by_cases q:(atKey xs k).isSome=true
 ·rw[if_pos q,if_pos q];exact r.pF k ry
 ·rw[if_neg q,if_neg q];exact Paired.snoc r ⟨rfl,hb,ry⟩
theorem KT.keeps {H H':Hp}{kvs:List (List Key×V)}{xs:List (List Key×Addr×Value)}(r:KT H kvs xs)(ht:∀b ys,H b=some (.tup ys)->H' b=some (.tup ys)):KT H' kvs xs:=
 Paired.nO r λ _ _ z=>⟨z.1,ht _ _ z.2.1,z.2.2⟩
section
variable {P:Program}{w:World}{H:Hp}{h:Heap}{a:Addr}
theorem lY {u:HO}(ok:Gs P w H h)(e:Rd H a u):Bh P w H h a u:=e.ok ok
theorem JS {kvs:List (Key×V)}(ok:Gs P w H h)(e:Rd H a (.dK kvs)):kvs.length<=sizeLine/\(a==sysModules)=false/\∃vs,KV kvs vs/\h.DictOf (AL P w) a vs:=
 show Bh P w H h a (.dK kvs) from lY ok e
theorem lZ {kvs:List (Key×V)}(ok:Gs P w H h)(e:H a=some (.dK kvs)):kvs.length<=sizeLine/\(a==sysModules)=false/\∃vs,KV kvs vs/\h.DictOf (AL P w) a vs:=JS ok (.inl e)
theorem Ji {ks:List Key}(ok:Gs P w H h)(e:H a=some (.tup (ks.map kV))):(tupleKind (AL P w)).is h ks a:=by
 obtain⟨_,aa,r,o,h1,h2,n,h3⟩:=(show Bh P w H h a (.tup (ks.map kV)) from ok a _ e);exact⟨o,aa.toArray,n,h1,h2,h3,by simpa using Qq r⟩
theorem NO {kvs:List (List Key×V)}(ok:Gs P w H h)(e:Rd H a (.dT kvs)):kvs.length<=sizeLine/\(a==sysModules)=false/\
 ∃xs,KT H kvs xs/\h.DictOfH (tupleKind (AL P w)) a xs:=by
 obtain⟨z,y,xs,r,o,es,ep,h1,h2,h3,h4,h5⟩:=(show Bh P w H h a (.dT kvs) from lY ok e);refine⟨z,y,xs,r,o,es,ep,h1,h2,h3,h4,λ x hx=>?_,h5⟩;have all:∀ {l:List (List Key×V)} {m:List (List Key×Addr×Value)},KT H l m->∀x∈m,(tupleKind (AL P w)).is h x.1 x.2.1:=by
  intro l m q;induction q with
  |nil=>intro x hx;exact nomatch hx
  | @cons p q ps qs hq t ih =>
   intro x hx;rcases z8.mp hx with e|hx
   ·subst e;exact Ji ok (by rw[<-hq.1];exact hq.2.1)
   ·exact ih x hx
 exact all r x hx
theorem uA {kvs:List (List Key×V)}(ok:Gs P w H h)(e:H a=some (.dT kvs)):kvs.length<=sizeLine/\(a==sysModules)=false/\
 ∃xs,KT H kvs xs/\h.DictOfH (tupleKind (AL P w)) a xs:=NO ok (.inl e)
end
def Ro (H:Hp)(a:Addr)(y:V)(r:Option V):Prop:=
 (∃kvs k,Rd H a (.dK kvs)/\y=kV k/\r=PN kvs k)\/∃kvs k b,Rd H a (.dT kvs)/\y=.ref b/\H b=some (.tup (k.map kV))/\r=PN kvs k
def uB (H:Hp)(a:Addr)(y v:V)(H':Hp):Prop:=
 (∃kvs k,H a=some (.dK kvs)/\y=kV k/\kvs.length<sizeLine/\H'=upd H a (.dK (putK kvs k v))) \/
 ∃kvs k b,H a=some (.dT kvs)/\y=.ref b/\H b=some (.tup (k.map kV))/\kvs.length<sizeLine/\H'=upd H a (.dT (putK kvs k v))
section
variable {X:Cx}{pins:List (Addr×Obj)}{σ:St}{H:Hp}{s:Shared}{a:Addr}{y v:V}{u r:Value}{o:Option V}{A:Around}{E:Value->Shared->Prop}
theorem Inv.big (I:Inv X pins σ H s):sysModules<s.heap.objs.size:=by
 have h:mainGlobals<s.heap.objs.size:=(I.mod.glob.keeps I.bk).lt;exact Nat.lt_trans (by decide) h
theorem XU {Q:Value->Shared->Prop}(hu:A.units+1<cLine)(I:Inv X pins σ H s)(g:Ro H a y (some v))(ry:RelV y u)(h:∀w' s',Inv X pins σ H s'->RelV v w'->Q w' s'):
 wpAny (model X.prog X.w) A (getItem (.ref a) u) Q E s:=by
 rcases g with ⟨kvs,k,e,ey,l⟩|⟨kvs,k,b,e,ey,eb,l⟩
 ·subst ey;obtain⟨z,hd,vs,rel,dd⟩:=JS I.As e;obtain⟨w',hw,bh⟩:=GI.some_of (v:=v) (o:=valueAt vs k) (by rw[l];exact rel.val k);exact wpAny_getItem_of (Ma ry) dd.mapOf hw (h w' _ (I.tok _) bh)
 ·subst ey;cases (show u=zb6 b from ry);obtain⟨z,hd,xs,rel,dd⟩:=NO I.As e;obtain⟨w',hw,bh⟩:=GI.some_of (v:=v) (o:=(atKey xs k).map (·.2)) (by rw[l];exact rel.val k);obtain⟨p,hp,vg⟩:=Option.map_eq_some_iff.mp hw;refine wpAny_getItem_heap (tupleKind_room_in1 hu) (Ji I.As eb) dd hp ?_;rw[vg];exact h w' _ (I.tok _) bh
theorem yQ {Q:Value->Shared->Prop}(hu:A.units+1<cLine)(I:Inv X pins σ H s)(g:Ro H a y o)(ry:RelV y u)(h:∀s',Inv X pins σ H s'->Q (.bool o.isSome) s'):
 wpAny (model X.prog X.w) A (compareOp .In u (.ref a)) Q E s:=by
 rcases g with ⟨kvs,k,e,ey,l⟩|⟨kvs,k,b,e,ey,eb,l⟩
 ·subst ey;obtain⟨z,hd,vs,rel,dd⟩:=JS I.As e;refine wpAny_in_of (Ma ry) hd dd.mapOf ?_;rw[<-(rel.val k).Ft,<-l];exact h _ (I.tok _)
 ·subst ey;cases (show u=zb6 b from ry);obtain⟨z,hd,xs,rel,dd⟩:=NO I.As e;refine wpAny_in_heap (tupleKind_room_in1 hu) (Ji I.As eb) hd dd ?_;have q:=(rel.val k).Ft;rw[Option.isSome_map] at q;rw[<-q,<-l];exact h _ (I.tok _)
theorem hZ {Q:Value->Shared->Prop}(hu:A.units+1<cLine)(I:Inv X pins σ H s)(g:Ro H a y o)(ry:RelV y u)(h:∀s',Inv X pins σ H s'->Q (.bool (!o.isSome)) s'):
 wpAny (model X.prog X.w) A (compareOp .NotIn u (.ref a)) Q E s:=by
 rcases g with ⟨kvs,k,e,ey,l⟩|⟨kvs,k,b,e,ey,eb,l⟩
 ·subst ey;obtain⟨z,hd,vs,rel,dd⟩:=JS I.As e;refine wpAny_notIn_of (Ma ry) hd dd.mapOf ?_;rw[<-(rel.val k).Ft,<-l];exact h _ (I.tok _)
 ·subst ey;cases (show u=zb6 b from ry);obtain⟨z,hd,xs,rel,dd⟩:=NO I.As e;refine wpAny_notIn_heap (tupleKind_room_in1 hu) (Ji I.As eb) hd dd ?_;have q:=(rel.val k).Ft;rw[Option.isSome_map] at q;rw[<-q,<-l];exact h _ (I.tok _)
theorem Rp {h':Heap}{t':Nat}{ob:HO}(I:Inv X pins σ H s)(mu:sU (H a))(hs:Heap.SameBut a s.heap h')(he:∃q,h'.get? a=some q)(new:Bh X.prog X.w (upd H a ob) h' a ob):
 Inv X pins σ (upd H a ob) {s with heap:=h',toks:=t' }:=
 I.write (x:=a) (e:=a) mu (.inl rfl) (λ b q hb z=>(hs.2 b hb).trans z) he new
theorem ZK {P:Program}{w:World}{H':Hp}{h':Heap}{kvs:List (Key×V)}{vs:List (Key×Value)}(z:kvs.length<=sizeLine)(hd:(a==sysModules)=false)(rel:KV kvs vs)(dd:h'.DictOf (AL P w) a vs):
 Bh P w H' h' a (.dK kvs):=⟨z,hd,vs,rel,dd⟩
theorem XW {H':Hp}{Q:Unit->Shared->Prop}(hu:A.units+1<cLine)(I:Inv X pins σ H s)(g:uB H a y v H')(ry:RelV y u)(rv:RelV v r)(h:∀s',Inv X pins σ H' s'->Q () s'):
 wpAny (model X.prog X.w) A (setItem (.ref a) u r) Q E s:=by
 rcases g with ⟨kvs,k,e,ey,l,eH⟩|⟨kvs,k,b,e,ey,eb,l,eH⟩
 ·subst ey eH;obtain⟨z,hd,vs,rel,dd⟩:=lZ I.As e;have hz:vs.length<=sizeLine:=by rw[<-rel.length];exact z
  have hl:(putK kvs k v).length<=sizeLine:=by have:=Dw kvs k v;omega
  refine wpAny_setItem_pairs (hsz:=hz) (Ma ry) dd λ h' fg hs=>h _ ?_;have he:∃q,h'.get? a=some q:=let ⟨q,_,_,hq,_⟩:=fg;⟨q,hq⟩;exact Rp I (by rw[e];exact zcg) hs he (ZK hl hd (rel.put k rv) fg)
 ·subst ey eH;cases (show u=zb6 b from ry);obtain⟨z,hd,xs,rel,dd⟩:=uA I.As e;have hz:xs.length<=sizeLine:=by rw[<-zck rel];exact z
  have hl:(putK kvs k v).length<=sizeLine:=by have:=Dw kvs k v;omega
  refine wpAny_setItem_heap (hsz:=hz) (tupleKind_room_in1 hu) (Ji I.As eb) dd λ h' fg hs=>h _ ?_;obtain⟨q,es,ep,hq,h2,h3,h4,_,h5⟩:=fg;refine Rp I (by rw[e];exact zcg) hs ⟨q,hq⟩ ⟨hl,hd,_,(rel.put k eb rv).keeps λ c ys ec=>?_,q,es,ep,hq,h2,h3,h4,h5⟩;rw[Ag (sT ec e (λ z=>nomatch z))];exact ec
end
theorem SU {X:Cx}{pins:List (Addr×Obj)}{σ:St}{H:Hp}{s:Shared}{a:Addr}{y:V}{o:Option V}(I:Inv X pins σ H s)(g:Ro H a y o):s.TypeIs (.ref a) "dict" := by
 rcases g with ⟨kvs,k,e,_,_⟩|⟨kvs,k,b,e,_,_,_⟩
 ·obtain⟨_,_,vs,_,dd⟩:=JS I.As e;exact dd.typeIs
 ·obtain⟨_,_,xs,_,dd⟩:=NO I.As e;exact dd.typeIs
noncomputable def uC (td ty tv:TE):TS:=λ D σ H=>tv σ H λ v H1=>td σ H1 λ x H2=>ty σ H2 λ y H3=>∃a H4,x=.ref a/\uB H3 a y v H4/\D.nx σ H4
section
variable {X:Cx}{o i e value:Expr}{pos pos' bf:Pos}{td ty tv:TE}
theorem iA (hu:X.A.units+1<cLine)(ho:PE X o td)(hi:PE X i ty)(hv:PE X value tv)(hs:swapsWith value (some (.Subscript o i pos')) pos.line X.env=pure false):
 PS X (.Assign [.Subscript o i pos'] value pos) (uC td ty tv):=by
 intro pins s σ H D I h;refine wpAny_Assign_Subscript (Bd (hv pins s σ H _ I h) λ r s1 ⟨v,H1,I1,rv,q1⟩=>Bd (ho pins s1 σ H1 _ I1 q1) λ u s2 ⟨x,H2,I2,rx,q2⟩=>Bd (hi pins s2 σ H2 _ I2 q2) λ iv s3 zz=>?_) hs;obtain⟨y,H3,I3,ry,a,H4,ex,g,q3⟩:=zz;subst ex;obtain rfl:u=zb6 a:=rx;exact XW hu I3 g ry rv λ s4 I4=>⟨σ,H4,I4,q3⟩
end
theorem SV {P:Program}{w:World}{H:Hp}(h:Heap)(hb:sysModules<h.objs.size):Bh P w H (h.push {cls:=.type "dict",data:=.dict #[]}) h.objs.size (.dK []):=
 ⟨zb1 _,beq_eq_false_iff_ne.mpr (zb3 (zaf hb)),[],.nil,Heap.DictOf.new h⟩
theorem ZL {P:Program}{w:World}{H:Hp}(h:Heap)(hb:sysModules<h.objs.size):Bh P w H (h.push {cls:=.type "dict",data:=.dict #[]}) h.objs.size (.dT []):=
 ⟨zb1 _,beq_eq_false_iff_ne.mpr (zb3 (zaf hb)),[],.nil,_,#[],0,zac _ rfl,⟨rfl,rfl,rfl⟩,rfl,rfl,zbn⟩
noncomputable def pG:TE:=λ _ H Q=>∀p,H p=none->Q (.ref p) (upd H p (.dK []))
noncomputable def pH:TE:=λ _ H Q=>∀p,H p=none->Q (.ref p) (upd H p (.dT []))
section
variable {X:Cx}{pos:Pos}
theorem ZM:PE X (.Dict [] [] pos) pG:=λ pins s σ H Q I h =>
 wpAny_Dict_empty ⟨.ref s.heap.objs.size,_,I.laid (a:=s.heap.objs.size) (o:=.dK []) (t':=s.toks) (λ _ _ q=>z7 _ q) (za2 _) (SV s.heap I.big),rfl,h _ (I.As.fresh (za2 _))⟩
theorem ZN:PE X (.Dict [] [] pos) pH:=λ pins s σ H Q I h =>
 wpAny_Dict_empty ⟨.ref s.heap.objs.size,_,I.laid (a:=s.heap.objs.size) (o:=.dT []) (t':=s.toks) (λ _ _ q=>z7 _ q) (za2 _) (ZL s.heap I.big),rfl,h _ (I.As.fresh (za2 _))⟩
end
def V7:List (TE×TE)->St->Hp->(List (V×V)->Hp->Prop)->Prop
 |[],_,H,Q=>Q [] H
 |(tk,tv)::r,σ,H,Q=>tk σ H λ x H1=>tv σ H1 λ y H2=>V7 r σ H2 λ ps H3=>Q ((x,y)::ps) H3
noncomputable abbrev VV:List (V×V)->List (Value×Value)->Prop:=Paired λ p q=>RelV p.1 q.1/\RelV p.2 q.2
def wV (X:Cx)(pos:Pos)(keys:List (Option Expr))(values:List Expr)(c4:List (TE×TE)):Prop:=
 ∀(pins:List (Addr×Obj)) (s:Shared) (σ:St) (H:Hp) (Q:List (V×V)->Hp->Prop),Inv X pins σ H s->V7 c4 σ H Q->
  wpAny (model X.prog X.w) X.A (evalPairs (pairTrees keys values X.env pos)) (λ vs s'=>∃ps H',Inv X pins σ H' s'/\VV ps vs/\Q ps H') X.xe s
theorem iB {X:Cx}{pos:Pos}:wV X pos [] [] []:=λ pins s σ H Q I h=>pairTrees_nil_walk ⟨[],H,I,.nil,h⟩
theorem ZO {X:Cx}{pos:Pos}{k v:Expr}{ks:List (Option Expr)}{vs:List Expr}{tk tv:TE}{c4:List (TE×TE)}(hk:PE X k tk)(hv:PE X v tv)(hr:wV X pos ks vs c4):
 wV X pos (some k::ks) (v::vs) ((tk,tv)::c4):=λ pins s σ H Q I h =>
 pairTrees_cons_walk (Bd (hk pins s σ H _ I h) λ u s1 ⟨x,H1,I1,rx,q1⟩=>Bd (hv pins s1 σ H1 _ I1 q1) λ w2 s2 ⟨y,H2,I2,ry,q2⟩ =>
  Bd (hr pins s2 σ H2 _ I2 q2) λ ws s3 ⟨ps,H3,I3,rel,q3⟩=>⟨(x,y)::ps,H3,I3,.cons ⟨rx,ry⟩ rel,q3⟩)
noncomputable def GU (kvs more:List (Key×V)):List (Key×V):=more.foldl (λ acc kv=>putK acc kv.1 kv.2) kvs
theorem KV.merge:∀ {more:List (Key×V)}{rs:List (Key×Value)}{kvs:List (Key×V)}{vs:List (Key×Value)},KV more rs->KV kvs vs->KV (GU kvs more) (merged vs rs):=by
 intro more rs kvs vs r;unfold KV at r;induction r generalizing kvs vs with
 |nil=>intro q;exact q
 | @cons p q ps qs h t ih =>
  intro r0;have e:KV (putK kvs p.1 p.2) (stored vs q.1 q.2):=by
   have:=r0.put p.1 h.2;rw[<-h.1];exact this
  exact ih e
theorem IL:∀(more kvs:List (Key×V)),(GU kvs more).length<=kvs.length+more.length
 |[],kvs=>by show kvs.length<=kvs.length+0;omega
 |p::r,kvs=>by
  have h1:=IL r (putK kvs p.1 p.2);have h2:=Dw kvs p.1 p.2;show (GU (putK kvs p.1 p.2) r).length<=_;rw[z5];omega
theorem NP {P:Program}{w:World}:∀ {kvs:List (Key×V)}{ws:List (Value×Value)},VV (kvs.map λ kv=>(kV kv.1,kv.2)) ws->∃rs,Carries (AL P w) ws rs/\KV kvs rs
 |[],_,r=>by rw[zcl] at r;cases r;exact⟨[],zcg,.nil⟩
 |p::kvs,_,r=>by
  rw[zy] at r;cases r with
  | @cons a b as bs h t =>
   obtain⟨rs,c,q⟩:=NP (P:=P) (w:=w) t;obtain⟨b1,b2⟩:=b;exact⟨(p.1,b2)::rs,⟨Ma h.1,rfl,c⟩,.cons ⟨rfl,h.2⟩ q⟩
noncomputable def uD (c4:List (TE×TE)):TE:=λ σ H Q=>∀p,H p=none->V7 c4 σ (upd H p (.dK [])) λ ps H2=>H2 p=some (.dK [])/\∃kvs:List (Key×V),ps=kvs.map (λ kv=>(kV kv.1,kv.2))/\kvs.length<=15/\Q (.ref p) (upd H2 p (.dK (GU [] kvs)))
theorem iC {X:Cx}{pos:Pos}{keys:List (Option Expr)}{values:List Expr}{c4:List (TE×TE)}(h:wV X pos keys values c4)(aE:keys.all (·.isSome)=true)(hl:keys.length=values.length)(h0:keys≠[])
 (vh:keys.length<=15):PE X (.Dict keys values pos) (uD c4):=by
 intro pins s σ H Q I q;have hn:=I.As.fresh (za2 s.heap.objs.size);have I1:=I.laid (a:=s.heap.objs.size) (o:=.dK []) (h':=s.heap.push {cls:=.type "dict",data:=.dict #[]}) (t':=s.toks) (λ _ _ q=>z7 _ q) (za2 _) (SV s.heap I.big);refine wpAny_Dict_walk (knd:=AL X.prog X.w) aE hl h0 vh (Bd (h pins _ σ _ _ I1 (q _ hn)) λ ws s2 zz=>?_);obtain⟨ps,H2,I2,rel,e,kvs,ep,lk,q2⟩:=zz;subst ep;obtain⟨rs,c,rk⟩:=NP (P:=X.prog) (w:=X.w) rel;obtain⟨z,hd,sv,r0,dd⟩:=lZ I2.As e;cases r0;refine⟨rs,c,dd,λ h' fg hs=>⟨.ref s.heap.objs.size,_,?_,rfl,q2⟩⟩;have hz:(GU [] kvs).length<=sizeLine:=by
  have h1:=IL kvs [];rw[List.length_nil] at h1;rw[sizeLine_eq];omega
 have he:∃q,h'.get? s.heap.objs.size=some q:=let ⟨q,_,_,hq,_⟩:=fg;⟨q,hq⟩;exact Rp I2 (by rw[e];exact zcg) hs he (ZK hz hd (rk.merge .nil) fg)
structure M1 (X:Cx)(o:Expr)(m:Str)(apos:Pos)(e:Expr)(ad:Pos):Prop where
 base:attributeBase o m X.env (eval o X.env)=eval o X.env
 few:((backTo ad (starEach [e] X.env)).all (λ x => !x.1)&&(backToKw ad (keywordEach [] X.env)).all (λ x=>x.1.isSome)
  && decide (([e]:List Expr).length+([]:List Keyword).length+(if ([]:List Keyword).isEmpty then 0 else 1)<30))=true
 line:(apos.endLine==ad.line)=true
 uE:backTo ad (starEach [e] X.env)=[(false,eval e X.env)]
def yR (H:Hp)(a:Addr):Prop:=(∃kvs,Rd H a (.dK kvs))\/∃kvs,Rd H a (.dT kvs)
theorem V8 {X:Cx}{pins:List (Addr×Obj)}{σ:St}{H:Hp}{s:Shared}{a:Addr}(I:Inv X pins σ H s)(d:yR H a):
 s.TypeIs (.ref a) "dict" /\ (∀b,zb6 a=.ref b->∃ob,s.heap.get? b=some ob/\ob.dict=none)/\(a==sysModules)=false:=by
 rcases d with ⟨kvs,e⟩|⟨kvs,e⟩
 ·obtain⟨_,hd,vs,_,dd⟩:=JS I.As e;refine⟨dd.typeIs,λ b q=>?_,hd⟩;cases q;obtain⟨ob,_,_,h1,h2,_⟩:=dd;exact⟨ob,h1,h2.2.1⟩
 ·obtain⟨_,hd,xs,_,dd⟩:=NO I.As e;refine⟨dd.typeIs,λ b q=>?_,hd⟩;cases q;obtain⟨ob,_,_,h1,h2,_⟩:=dd;exact⟨ob,h1,h2.2.1⟩
section
variable {X:Cx}{pins:List (Addr×Obj)}{σ:St}{H:Hp}{s:Shared}{a:Addr}{y d:V}{u r:Value}{o:Option V}{A:Around}{E:Value->Shared->Prop}
theorem pI {Q:Value->Shared->Prop}(hu:A.units+1<cLine)(I:Inv X pins σ H s)(g:Ro H a y o)(ry:RelV y u)(h:∀w' s',Inv X pins σ H s'->RelV (o.getD .AN) w'->Q w' s'):
 wpAny (model X.prog X.w) A (call (.builtin "dict.get") [.ref a,u]) Q E s:=by
 rcases g with ⟨kvs,k,e,ey,l⟩|⟨kvs,k,b,e,ey,eb,l⟩
 ·subst ey;obtain⟨z,hd,vs,rel,dd⟩:=JS I.As e;refine call_meetsIn PySem.F.slot_dict_get dd.typeIs PySem.F.entry_dict_get (PySem.F.args_dict_get_2 _ _) (meets_dict_get (AL X.prog X.w) a (Ma ry) hd) ⟨_,dd.mapOf,h _ _ (I.tok _) ?_⟩;rw[l];exact (rel.val k).getD rfl
 ·subst ey;cases (show u=zb6 b from ry);obtain⟨z,hd,xs,rel,dd⟩:=NO I.As e;refine call_meetsIn PySem.F.slot_dict_get dd.typeIs PySem.F.entry_dict_get (PySem.F.args_dict_get_2 _ _) (meetsH_dict_get (tupleKind (AL X.prog X.w)) a b hd) ⟨tupleKind_room_in1 hu,k,xs,Ji I.As eb,dd,h _ _ (I.tok _) ?_⟩;rw[l];exact (rel.val k).getD rfl
end
noncomputable def pJ (td ty:TE):TE:=λ σ H Q=>td σ H λ x H1=>∃a,x=.ref a/\yR H1 a/\ty σ H1 λ y H2=>∃o,Ro H2 a y o/\Q (o.getD .AN) H2
section
variable {X:Cx}{o e f:Expr}{apos ad:Pos}{td ty tx:TE}
theorem ZP (hu:X.A.units+1<cLine)(ho:PE X o td)(he:PE X e ty)(m:M1 X o "get" apos e ad):PE X (.Call (.Attribute o "get" apos) [e] [] ad) (pJ td ty):=by
 intro pins s σ H Q I h;refine wpAny_Call_method m.base m.few m.line PySem.F.plainAttrs_dict PySem.F.slot_dict_get PySem.F.type_dict_get (Bd (ho pins s σ H _ I h) λ u s1 zz=>?_);obtain⟨x,H1,I1,rx,a,ex,d,q1⟩:=zz;subst ex;obtain rfl:u=zb6 a:=rx;obtain⟨t1,t2,_⟩:=V8 I1 d;refine⟨t1,t2,?_⟩;rw[m.uE];refine Calls.callWith_builtin rfl (Calls.evalArgs_plain (zbp (Bd (he pins s1 σ H1 _ I1 q1) λ iv s2 ⟨y,H2,I2,ry,ov,g,q2⟩=>zbv ?_)));exact pI hu I2 g ry λ w' s3 I3 bh=>⟨_,H2,I3,bh,q2⟩
end
noncomputable def Wx (y:Str×NameKind):Bool:=y.2==.cell
noncomputable def GJ (sc outer:Scope):Bool:=
 decide (sc.kind=.function)&&(decide ((sc.names.filter Wx).length<=1)&&sc.names.all λ y=>(decide (y.2≠.cell)||decide (sc.names.lookup y.1=some .cell))&&(decide (y.2≠.free)||decide (outer.names.lookup y.1=some .cell)||decide (outer.names.lookup y.1=some .free))&&(decide (y.2≠.local)||decide (sc.names.lookup y.1=some .local)))
noncomputable def GV (names:List (Str×NameKind)):Option Str:=(names.find? Wx).map (·.1)
noncomputable def Wy (C:Addr)(names:List (Str×NameKind))(cs:List (Str×Addr)):List (Str×Addr):=match GV names with
 |some x=>(x,C+1)::cs
 |none=>cs
theorem SW {names:List (Str×NameKind)}{x:Str}(h:GV names=some x):(x,.cell)∈names:=by
 unfold GV at h;obtain⟨y,h1,rfl⟩:=Option.map_eq_some_iff.mp h;have h2:=List.find?_some h1;have e:y.2=.cell:=by unfold Wx at h2;simpa using h2
 have:=List.mem_of_find?_eq_some h1;rw[<-e];exact this
theorem pK {names:List (Str×NameKind)}(h:(names.filter Wx).length<=1){x:Str}(hx:(x,.cell)∈names):GV names=some x:=by
 induction names with
 |nil=>cases hx
 |cons y r ih =>
  unfold GV;cases e:Wx y with
  |true =>
   rw[List.filter_cons_of_pos e,z5] at h;rw[List.find?_cons_of_pos e];rcases z8.mp hx with rfl|hx
   ·rfl
   ·have:(x,NameKind.cell)∈r.filter Wx:=zal.mpr ⟨hx,rfl⟩;rw[List.eq_nil_of_length_eq_zero (l:=r.filter Wx) (by omega)] at this;cases this
  |false =>
   rw[List.filter_cons_of_neg (by rw[e];exact zai)] at h;rw[List.find?_cons_of_neg (by rw[e];exact zai)];rcases z8.mp hx with rfl|hx
   ·cases e
   ·exact ih h hx
theorem V9:∀ {names:List (Str×NameKind)}{n:Nat}{acc:List (Str×Addr)},(names.filter Wx).length<=1->cellsFrom n names acc=match GV names with | some x=>(x,n)::acc | none=>acc
 |[],_,_,_=>rfl
 |(x,k)::r,n,acc,h=>by
  unfold cellsFrom GV;cases e:Wx (x,k) with
  |true =>
   rw[List.filter_cons_of_pos e,z5] at h;rw[List.find?_cons_of_pos e,if_pos (show (k==NameKind.cell)=true from e),V9 (by omega)];cases q:GV r with
   |none=>rfl
   |some y =>
    have:(y,NameKind.cell)∈r.filter Wx:=zal.mpr ⟨SW q,rfl⟩;rw[List.eq_nil_of_length_eq_zero (l:=r.filter Wx) (by omega)] at this;cases this
  |false =>
   have e':¬ Wx (x,k)=true:=by rw[e];exact zai
   rw[List.filter_cons_of_neg e'] at h;rw[List.find?_cons_of_neg e',if_neg (show ¬ (k==NameKind.cell)=true from e'),V9 h];rfl
noncomputable def PP (N NB:List Str)(sc:Scope)(μ:List (Option Nat)):Bool:=
 decide (NB.length=μ.length)&&(NB.zip μ).all λ p=>match p.2 with
  |none=>true
  |some i=>decide (N[i]?=some p.1)&&decide (sc.names.lookup p.1=some .free)
noncomputable def Fc (μ:List (Option Nat))(σ:St):St:=μ.map λ o=>o.bind λ i=>(σ[i]?).join
noncomputable def FY (cells:List (Str×Addr)):List (Str×NameKind)->List (Str×Addr)->List (Str×Addr)
 |[],cs=>cs
 |(n,k)::r,cs=>FY cells r (if (k==.free)=true then (n,(cells.lookup n).getD 0)::cs else cs)
theorem IM {scope:Scope}{env:Env}(h:∀y∈scope.names,y.2=.free->∃c,env.cells.lookup y.1=some c):closureFor scope env=pure (FY env.cells scope.names []):=by
 unfold closureFor;have key:∀(names:List (Str×NameKind)) (cs:List (Str×Addr)),(∀y∈names,y.2=.free->∃c,env.cells.lookup y.1=some c)->
  (forIn names cs λ(x:Str×NameKind) r=>match x with
   |(name,kind)=>if (kind==zcj)=true then do
    let __do_lift <-cellOf env name
    pure (zcy ((name,__do_lift)::r))
    else pure (zcy r):Sem _)=pure (FY env.cells names cs):=by
  intro names;induction names with
  |nil=>intro cs _;rfl
  |cons y r ih =>
   intro cs hy;obtain⟨n,k⟩:=y;rw[List.forIn_cons];by_cases hk:k=.free
   ·subst hk;obtain⟨c,hc⟩:=hy (n,.free) zw rfl;have e:cellOf env n=pure c:=by unfold cellOf;rw[show env.cells.lookup n=some c from hc]
    simp only[e,beq_self_eq_true,if_true,pure_bind];rw[ih _ λ z hz=>hy z (zx _ hz)];simp only[FY,beq_self_eq_true,if_true];rw[show env.cells.lookup n=some c from hc];rfl
   ·have hb:(k==zcj)=false:=by simpa using hk
    simp only[hb,zag,if_false,pure_bind];rw[ih _ λ z hz=>hy z (zx _ hz)];simp only[FY,hb,zag,if_false]
 have q:=key scope.names [] h;simp only[bind_pure];exact q
theorem SX {cells:List (Str×Addr)}:∀ {names:List (Str×NameKind)}{cs:List (Str×Addr)}{x:Str}{c:Addr},(x,c)∈FY cells names cs->(x,c)∈cs\/((x,.free)∈names/\c=(cells.lookup x).getD 0)
 |[],cs,x,c,h=>.inl h
 |(n,k)::r,cs,x,c,h=>by
  rcases SX (names:=r) h with q|⟨q,e⟩
  ·by_cases hk:k=.free
   ·subst hk;simp only[beq_self_eq_true,if_true] at q;rcases z8.mp q with z|z
    ·cases z;exact .inr ⟨zw,rfl⟩
    ·exact .inl z
   ·have hb:(k==zcj)=false:=by simpa using hk
    simp only[hb,zag,if_false] at q;exact .inl q
  ·exact .inr ⟨zx _ q,e⟩
theorem NQ {cells:List (Str×Addr)}:∀ {names:List (Str×NameKind)}{cs:List (Str×Addr)}{p:Str×Addr},p∈cs->p∈FY cells names cs
 |[],_,_,h=>h
 |(n,k)::r,cs,p,h=>by
  show p∈FY cells r _;refine NQ ?_;by_cases hk:(k==zcj)=true
  ·rw[if_pos hk];exact zx _ h
  ·rw[if_neg hk];exact h
theorem NR {cells:List (Str×Addr)}:∀ {names:List (Str×NameKind)}{cs:List (Str×Addr)}{x:Str},(x,.free)∈names->∃c,(x,c)∈FY cells names cs
 |(n,k)::r,cs,x,h=>by
  rcases z8.mp h with z|z
  ·cases z;refine⟨(cells.lookup n).getD 0,?_⟩;show _∈FY cells r (if (zcj==zcj)=true then _ else _);exact NQ (by rw[if_pos (beq_self_eq_true _)];exact zw)
  ·exact NR (names:=r) z
theorem Dv {x:Str}{c:Addr}:∀ {l:List (Str×Addr)},(x,c)∈l->∃c',l.lookup x=some c'
 |(y,d)::r,h=>by
  rw[zbs];by_cases e:(x==y)=true
  ·rw[e];exact⟨d,rfl⟩
  ·rw[Bool.eq_false_iff.mpr e];rcases z8.mp h with z|z
   ·cases z;exact absurd (beq_self_eq_true x) e
   ·exact Dv z
theorem JT {scope:Scope}{env:Env}{x:Str}{k:NameKind}(h:(relabel scope env).names.lookup x=some k):∃k',scope.names.lookup x=some k'/\(k=k'\/(k'=.free/\k=.cell)):=by
 unfold relabel at h;dsimp only at h;revert h;induction scope.names with
 |nil=>intro h;cases h
 |cons y r ih =>
  obtain⟨n,k'⟩:=y;intro h;rw[zy,zbs] at h;rw[zbs];by_cases hc:(k'==zcj&&env.scope.kind==.function&&env.kindOf n==some .cell)=true
  ·dsimp only at h;rw[if_pos hc] at h;dsimp only at h;cases e:x==n with
   |true =>
    rw[e] at h;have hf:k'=.free:=by
     have:=hc;simp only[zat] at this;simpa using this.1.1
    exact⟨k',rfl,.inr ⟨hf,(zad h).symm⟩⟩
   |false=>rw[e] at h;exact ih h
  ·dsimp only at h;rw[if_neg hc] at h;dsimp only at h;cases e:x==n with
   |true=>rw[e] at h;exact⟨k',rfl,.inl (zad h).symm⟩
   |false=>rw[e] at h;exact ih h
theorem lookup_mem {α:Type}{x:Str}{k:α}:∀ {l:List (Str×α)},l.lookup x=some k->(x,k)∈l
 |(y,d)::r,h=>by
  rw[zbs] at h;cases e:x==y with
  |true =>
   rw[e] at h;cases h;have:x=y:=by simpa using e
   subst this;exact zw
  |false=>rw[e] at h;exact zx _ (lookup_mem h)
noncomputable def blockOf (X:Cx)(s:Shared)(H:Hp)(scope:Scope)(C:Addr)(NB:List Str)(ex:List Addr):Cx:=
 {X with N:=NB,s₀:=s,H₀:=H,env:=compEnvC scope (Wy C scope.names (FY X.env.cells scope.names [])) C X.env,outer:=X.stack,stack:=X.stack,ex:=ex,fn:=λ y=>GV scope.names==some y,pn:=[],xe:=λ _ _=>False}
section
variable {X:Cx}{pins:List (Addr×Obj)}{σ:St}{H:Hp}{s s4:Shared}{scope:Scope}{NB:List Str}{μ:List (Option Nat)}{fp:List Addr}{C:Addr}
theorem Ly (h:GJ scope X.env.scope=true):scope.kind=.function:=by
 unfold GJ at h;simp only[zat,decide_eq_true_eq] at h;exact h.1
theorem SY {sc outer:Scope}(h:GJ sc outer=true):(sc.names.filter Wx).length<=1:=by
 unfold GJ at h;rw[zat,zat,decide_eq_true_eq,decide_eq_true_eq] at h;exact h.2.1
theorem JU {sc outer:Scope}(h:GJ sc outer=true){y:Str×NameKind}(hy:y∈sc.names):(y.2=.cell->sc.names.lookup y.1=some .cell)/\(y.2=.free->outer.names.lookup y.1=some .cell\/outer.names.lookup y.1=some .free)/\(y.2=.local->sc.names.lookup y.1=some .local):=by
 unfold GJ at h;simp only[zat,decide_eq_true_eq,zcx,Bool.or_eq_true] at h;obtain⟨⟨h1,h2⟩,h3⟩:=h.2.2 y hy;exact⟨λ e=>h1.elim (λ q=>absurd e q) id,λ e=>by
  rcases h2 with (q|q)|q
  ·exact absurd e q
  ·exact .inl q
  ·exact .inr q,λ e=>h3.elim (λ q=>absurd e q) id⟩
theorem Jj (I:Inv X pins σ H s)(h:GJ scope X.env.scope=true){x:Str}(hx:(x,.free)∈scope.names):∃c,X.env.cells.lookup x=some c:=I.ok.has x ((JU h hx).2.1 rfl)
theorem NS (I:Inv X pins σ H s)(h:GJ scope X.env.scope=true){x:Str}{c:Addr}(e:(FY X.env.cells scope.names []).lookup x=some c):X.env.cells.lookup x=some c:=by
 rcases SX (lookup_mem e) with q|⟨q,r⟩
 ·cases q
 ·obtain⟨c',e'⟩:=Jj I h q;rw[e'] at r;rw[e',r];rfl
theorem Dd (I:Inv X pins σ H s)(h:GJ scope X.env.scope=true){x:Str}{c:Addr}(e:(Wy C scope.names (FY X.env.cells scope.names [])).lookup x=some c):(GV scope.names=some x/\c=C+1)\/X.env.cells.lookup x=some c:=by
 unfold Wy at e;cases q:GV scope.names with
 |none=>rw[q] at e;exact .inr (NS I h e)
 |some y =>
  rw[q] at e;dsimp only at e;rw[zbs] at e;cases b:x==y with
  |true=>rw[b] at e;cases e;exact .inl ⟨by rw[eq_of_beq b],rfl⟩
  |false=>rw[b] at e;exact .inr (NS I h e)
theorem NT {env:Env}(h:GJ scope env.scope=true){x:Str}{k:NameKind}(hk:(relabel scope env).names.lookup x=some k)(hc:k=.cell\/k=.free):(x,.free)∈scope.names\/GV scope.names=some x:=by
 obtain⟨k',e,q⟩:=JT hk;have m:=lookup_mem e;rcases q with q|⟨q,_⟩
 ·subst q;rcases hc with z|z
  ·subst z;exact .inr (pK (SY h) m)
  ·subst z;exact .inl m
 ·subst q;exact .inl m
theorem iD (h:PP X.N NB scope μ=true):NB.length=μ.length/\∀(j i:Nat),μ[j]?=some (some i)->∃x,NB[j]?=some x/\X.N[i]?=some x/\scope.names.lookup x=some .free:=by
 unfold PP at h;simp only[zat,decide_eq_true_eq,zcx] at h;refine⟨h.1,λ j i e=>?_⟩;have hj:j<NB.length:=by rw[h.1];exact (za3.mp e).1
 have m:(NB[j],some i)∈NB.zip μ:=by
  refine List.mem_iff_getElem?.mpr ⟨j,?_⟩;rw[List.getElem?_zip_eq_some];exact⟨z4 hj,e⟩
 have q:=h.2 _ m;dsimp only at q;simp only[zat,decide_eq_true_eq] at q;exact⟨NB[j],z4 hj,q.1,q.2⟩
theorem T4 (I:Inv X pins σ H s)(av:GJ scope X.env.scope=true)(aU:PP X.N NB scope μ=true)(g7:∀b∈fp,MG X pins H b)(lj:∀b∈fp,∃o,s.heap.get? b=some o)
 (hC:s.heap.objs.size<=C) {h4:Heap} {t4:Nat} (ns:h4.Ns C λ _=>none) (k:∀b o,s.heap.get? b=some o->h4.get? b=some o) (iw:∀x,GV scope.names=some x->h4.IsCell (C+1) none):
 Inv (blockOf X s H scope C NB fp) [] (Fc μ σ) H {s with heap:=h4,toks:=t4}:=by
 obtain⟨hlen,aU⟩:=iD aU;have sw:∀b o,s.heap.get? b=some o->b≠C:=λ b o e=>zaf (za8 (za4 e) hC);have sx:∀x c,X.env.cells.lookup x=some c->c≠C+1:=λ x c e z=>by
  obtain⟨v,o,ho,_⟩:=I.cell x c e;exact absurd (za8 (za4 ho) hC) (by rw[z];exact Nat.not_lt.mpr (Nat.le_succ C))
 have lm:∀x c,X.env.cells.lookup x=some c->c≠C:=λ x c e=>by
  obtain⟨v,o,ho,_⟩:=I.cell x c e;exact sw c o ho
 refine⟨⟨I.ok.mod,(show scope.kind=_ from Ly av),I.ok.glob,I.ok.blt,hC,λ x y c h1 h2=>?_,λ x hx=>?_,λ x c hf e=>?_,I.ok.hd,I.ok.frames,.inl rfl,λ b hb=>?_,I.bs,zbb I.ok.fV I.sz,λ b o e hb=>?_,λ b hb hz=>?_,I.stack,I.Wl⟩,
  rfl,I.bare,Un.kept k,⟨_,ns,λ j x v e1 e2 e3=>?_⟩,λ x c e=>?_,I.As.fresh hC,λ x c e=>?_,λ p hp=>(by cases hp),I.As.kept k,?_⟩
 ·rcases Dd I av h1 with ⟨a1,a2⟩|a<;>rcases Dd I av h2 with ⟨b1,b2⟩|b
  ·rw[a1] at b1;exact zad b1
  ·exact absurd a2 (sx y c b)
  ·exact absurd b2 (sx x c a)
  ·exact I.ok.inj x y c a b
 ·have q:(x,zcj)∈scope.names\/GV scope.names=some x:=by
   rcases hx with hx|hx
   ·exact NT av hx (.inl rfl)
   ·exact NT av hx (.inr rfl)
  rcases q with q|q
  ·obtain⟨c,m⟩:=NR (cells:=X.env.cells) (cs:=[]) q;refine Dv (c:=c) ?_;show (x,c)∈Wy C scope.names _;unfold Wy;split
   ·exact zx _ m
   ·exact m
  ·refine Dv (c:=C+1) ?_;show (x,C+1)∈Wy C scope.names _;unfold Wy;rw[q];exact zw
 ·have hq:GV scope.names=some x:=by simpa [blockOf] using hf
  have e':(Wy C scope.names (FY X.env.cells scope.names [])).lookup x=some c:=e;unfold Wy at e';rw[hq] at e';dsimp only at e';rw[zbs,beq_self_eq_true] at e';cases e';exact Nat.le_succ_of_le hC
 ·obtain⟨o,ho⟩:=lj b hb;refine⟨sw b o ho,λ x c e z=>?_⟩;rcases Dd I av e with ⟨_,a2⟩|e
  ·exact absurd (za8 (za4 ho) hC) (by rw[<-z,a2];exact Nat.not_lt.mpr (Nat.le_succ C))
  ·exact (g7 b hb).2.2.2.2.1 x c e z
 ·rcases (g7 b hb).2.2.2.1 with z|z
  ·exact I.ok.Zf b o e z
  ·exact absurd (za8 (za4 (I.ok.bs b o e).1) z) (Nat.lt_irrefl _)
 ·rcases z8.mp (I.UM b hz) with e|e
  ·exact (g7 b hb).2.1 e
  ·exact (g7 b hb).2.2.1 e
 ·have ix:(μ[j]?).map (λ o=>o.bind λ i=>(σ[i]?).join)=some (some v):=by
   rw[<-zaa];exact e2
  cases q:μ[j]? with
  |none=>rw[q] at ix;cases ix
  |some o =>
   rw[q] at ix;cases o with
   |none=>cases ix
   |some i =>
    have e4:(σ[i]?).join=some v:=by simpa using ix
    have e5:σ[i]?=some (some v):=by
     cases z:σ[i]? with
     |none=>rw[z] at e4;cases e4
     |some w=>rw[z] at e4;simp at e4;rw[e4]
    obtain⟨x',n1,n2,n3⟩:=aU j i q;have ex:x'=x:=zad (n1.symm.trans e1);subst ex;have m:=lookup_mem n3;have ov:=(JU av m).2.1 rfl;obtain⟨mm,hn,hl⟩:=I.loc;obtain⟨u,r,l⟩:=hl i x' v n2 e5 (ov.elim (λ z=>.inr (.inl z)) λ z=>.inr (.inr z));refine⟨u,r,.inr ⟨?_,?_⟩⟩
    ·rcases e3 with z|z|z
     ·obtain⟨k',z1,z2⟩:=JT (k:=.local) z;rw[n3] at z1;cases z1;rcases z2 with z2|⟨_,z2⟩<;>cases z2
     ·exact .inl z
     ·exact .inr z
    ·rcases l with ⟨l,_⟩|⟨_,c,l1,l2⟩
     ·rcases ov with z|z<;>(rw[show X.env.kindOf x'=_ from z] at l;cases l)
     ·obtain⟨c',m'⟩:=NR (cells:=X.env.cells) (cs:=[]) m;obtain⟨y9,l3⟩:=Dv m';have l4:=NS I av l3;rw[l1] at l4;cases l4;have l5:(Wy C scope.names (FY X.env.cells scope.names [])).lookup x'=some c:=by
       unfold Wy;cases q9:GV scope.names with
       |none=>exact l3
       |some y =>
        have ne:(x'==y)=false:=by
         cases b:x'==y with
         |false=>rfl
         |true =>
          have z:=(JU av (SW q9)).1 rfl;rw[<-eq_of_beq b] at z;rw[show scope.names.lookup x'=some .cell from z] at n3;cases n3
        dsimp only;rw[zbs,ne];exact l3
      refine⟨c,l5,?_⟩;obtain⟨o,ho,hd⟩:=l2;exact⟨o,k _ _ ho,hd⟩
 ·rcases Dd I av e with ⟨a1,rfl⟩|e
  ·exact⟨_,iw x a1⟩
  ·obtain⟨v,o,ho,hd⟩:=I.cell x c e;exact⟨v,o,k _ _ ho,hd⟩
 ·rcases Dd I av e with ⟨a1,rfl⟩|e
  ·exact I.As.fresh (Nat.le_succ_of_le hC)
  ·exact I.Fq x c e
 ·show (Fc μ σ).length=NB.length;unfold Fc;rw[zv,hlen]
theorem Gs.adopt {P:Program}{w:World}{H:Hp}{h:Heap}{a:Addr}{o:HO}(x:Gs P w H h)(hn:H a=none)(new:Bh P w (upd H a o) h a o):Gs P w (upd H a o) h:=λ b u e=>by
 by_cases hb:b=a
 ·subst hb;rw[An] at e;cases e;exact new
 ·rw[Ag hb] at e;exact (x b u e).PB (λ c v _ q=>q) (λ c q=>by rw[Ag (AJ q hn)];exact q) λ c xs q=>by rw[Ag (AJ q hn)];exact q
theorem XX {H':Hp}{s':Shared}{h':Heap}{D:Addr}{pl:List (Addr×Obj)}{σ':St}{aa:List Value}{ys:List V}{n:Nat}(I:Inv X pins σ H s)(g7:∀b∈fp,MG X pins H b)(J:Inv (blockOf X s H scope C NB fp) pl σ' H' s')
 (hC:s.heap.objs.size<=C) (hD:s.heap.objs.size<=D) (c5:D≠C) (eD:s'.heap.get? D=some {cls:=.type "list",data:=.seq aa.toArray n}) (nD:H' D=none) (r:Vals ys aa) (hz:ys.length<=sizeLine)
 (sb:Heap.SameBut C s'.heap h'):Inv X pins σ (upd H' D (.lst ys)) {s' with heap:=h' }:=by
 have fj:∀b o,s.heap.get? b=some o->b≠C:=λ b o e=>zaf (za8 (za4 e) hC);have nq:∀b o,s.heap.get? b=some o->b≠D:=λ b o e=>zaf (za8 (za4 e) hD);have freshD:H D=none:=I.As.fresh hD;have nC:H' C=none:=J.free;have u:Un (Z6 X.stack) fp H H' s.heap s'.heap:=J.base;have ff:Gs X.prog X.w H' h':=λ b ob e=>(J.As b ob e).PB (λ c v hc q=>(sb.2 c (by
  intro z;subst z;rcases hc with rfl|hc
  ·rw[nC] at e;cases e
  ·rw[nC] at hc;cases hc)).trans q) (λ _ q=>q) λ _ _ q=>q
 refine I.sW (ch:=fp) J.os ⟨λ b o e n hb hx=>?_,λ b o e n hb hx=>?_,λ b o e n hx=>?_,λ b o e hx=>?_,λ b xs e=>?_,λ b o u' e=>?_,λ b ps e=>?_⟩ (ff.adopt nD ⟨hz,aa,n,r,(sb.2 D c5).trans eD⟩) J.bare λ b hb=>?_
 ·exact (sb.2 b (fj b o e)).trans (u.keep b o e n hb hx)
 ·obtain⟨sl,q⟩:=u.slot b o e n hb hx;exact⟨sl,(sb.2 b (fj b o e)).trans q⟩
 ·rw[Ag (nq b o e)];exact u.free b o e n hx
 ·obtain⟨o',q⟩:=u.there b o e hx;exact⟨o',(sb.2 b (fj b o e)).trans q⟩
 ·rw[Ag (AJ e freshD)];exact u.PD b xs e
 ·rw[Ag (AJ e freshD)];exact u.MF b o u' e
 ·rw[Ag (AJ e freshD)];exact u.PF b ps e
 ·obtain⟨_,f1,_,f3,f4,f5⟩:=g7 b hb;exact⟨f3,f1,f4,f5⟩
end
theorem ZQ {M:Model}{A:Around}{E:Value->Shared->Prop}{s:Shared}{scope:Scope}{g:Addr}{cl:List (Str×Addr)}{qual:Str}{outer:Env}{Q:Env->Shared->Prop}(h1:(scope.names.filter Wx).length<=1)
 (hQ:∀h',h'.Ns s.heap.objs.size (λ _=>none)->(∀b o,s.heap.get? b=some o->h'.get? b=some o)->(∀x,GV scope.names=some x->h'.IsCell (s.heap.objs.size+1) none)->
  Q {scope:=scope,locals:=s.heap.objs.size,globals:=g,cells:=Wy s.heap.objs.size scope.names cl,qual:=qual,func:=none,code:=outer.code,frame:=outer.frame,builtins:=outer.builtins} {s with heap:=h' }):
 wpAny M A (newFunctionEnv scope g cl [] qual none .none (some outer)) Q E s:=by
 unfold newFunctionEnv;simp only[Option.isSome_some,if_true];refine wpAny_bind (wpAny_alloc (wpAny_bind (wpAny_layCells _ (λ x k cs=>by cases e:k==NameKind.cell<;>simp[e]) _ _ _ _ ?_)));have ok:=cellsFrom_ok scope.names (s.heap.push {cls:=.type "dict",data:=.dict #[]}) 0 [] ⟨λ _ _ z=>(by cases z),.nil⟩ (zb1 _);rw[V9 h1] at ok ⊢;rw[Heap.size_push] at ok;rw[List.forIn_nil];refine wpAny_bind (wpAny_pure (wpAny_pure ?_));have key:=hQ (pushCells (s.heap.push {cls:=.type "dict",data:=.dict #[]}) scope.names) ((Heap.Ns.new s.heap (.type "dict")).keeps (pushCells_keeps _ _)) (λ b o e=>pushCells_keeps _ _ b o (z7 _ e)) (λ x hx=>(ok.empty x (s.heap.objs.size+1) (by rw[hx];exact zw)).1);unfold Wy at key;rw[<-Heap.size_push s.heap {cls:=.type "dict",data:=.dict #[]}] at key;exact key
theorem Rq {prog:Program}{w:World}{A:Around}{R:Result->Shared->Prop}{s:Shared}{elt target iter:Expr}{ifs:List Expr}{scope:Scope}{pos:Pos}{it acc:Value}{env:Env}(I:Nat->Shared->Prop)
 (turn:∀n s,I n s->wpAny (model prog w) A (pyNext it) (λ r s₁=>match r with
  |none=>R (.ok .next) s₁
  |some v=>wpAny (model prog w) A (letOwnedTupleGo target it v) (λ _ s₁'=>wpAny (model prog w) A (assign target env v) (λ _ s₂ =>
   wpAny (model prog w) A (forIn ifs true λ c r=>if r=true then do let ok <-isTrue c env (eval c env);pure (zcy ok) else pure (zcy r)) (λ ok s₃ =>
    if ok=true then wpAny (model prog w) A (eval elt env) (λ x s₄ =>
     wpAny (model prog w) A (call (.builtin "list.append") [acc,x]) (λ _ s₅=>∃m,m<n/\I m s₅) (λ _ _=>False) s₄) (λ _ _=>False) s₃
    else ∃m,m<n/\I m s₃) (λ _ _=>False) s₂) (λ _ _=>False) s₁') (λ _ _=>False) s₁) (λ _ _=>False) s)
 (n:Nat) (h:I n s):
 codeAny (model prog w) A (.compLoop (.ListComp elt [⟨target,iter,ifs,0⟩] scope pos) 0 it acc env) R s:=by
 refine codeAny_loop rfl I (λ n s hI=>?_) n h;show wpAny _ A ((compTurn (.ListComp elt [⟨target,iter,ifs,0⟩] scope pos) 0 it acc env).onRaise (λ x=>do noteFrame x env;theTreesLotGoes x)) _ _ s;refine wpAny_noted ?_;rw[compTurn_list];refine wpAny_bind (wpAny_standAt (wpAny_bind (wpAny_mono (turn n s hI) (λ r s₁ h₁=>?_) λ _ _ h'=>h'.elim)));cases r with
 |none=>exact wpAny_pure h₁
 |some v =>
  refine wpAny_bind (wpAny_mono h₁ (λ _ s₁' h₁'=>?_) λ _ _ h'=>h'.elim);refine wpAny_bind (wpAny_mono h₁' (λ _ s₂ h₂=>wpAny_bind (wpAny_mono h₂ (λ ok s₃ h₃=>?_) λ _ _ h'=>h'.elim)) λ _ _ h'=>h'.elim);cases ok with
  |false=>exact wpAny_pure ⟨rfl,h₃⟩
  |true =>
   exact wpAny_bind (wpAny_bind (wpAny_mono h₃ (λ x s₄ h₄=>wpAny_bind (wpAny_mono h₄ (λ _ s₅ h₅=>wpAny_pure (wpAny_pure ⟨rfl,h₅⟩)) λ _ _ h'=>h'.elim)) λ _ _ h'=>h'.elim))
def sD (X:Cx)(cs:List Expr)(t:TT):Prop:=
 ∀(pins:List (Addr×Obj)) (s:Shared) (σ:St) (H:Hp) (Q:Bool->Hp->Prop),Inv X pins σ H s->t σ H Q->
  wpAny (model X.prog X.w) X.A (forIn cs true λ c r=>if r=true then do let ok <-isTrue c X.env (eval c X.env);pure (zcy ok) else pure (zcy r)) (TP X pins σ Q) X.xe s
noncomputable def yS:TT:=λ _ H Q=>Q true H
theorem iE {X:Cx}:sD X [] yS:=λ _ _ _ H _ I h=>wpAny_tests_nil ⟨H,I,h⟩
theorem iF {X:Cx}{c:Expr}{t:TT}(h:PT X c t):sD X [c] t:=λ pins s σ H Q I q=>wpAny_tests_one (h pins s σ H Q I q)
def Lz (μ:List (Option Nat))(g:TG):Prop:=∀σ x H Q,g x (Fc μ σ) H Q->g x (Fc μ σ) H λ σ' H'=>Q σ' H'/\∀(j:Nat) v,(Fc μ σ)[j]?=some (some v)->σ'[j]?=some (some v)
theorem iG {μ:List (Option Nat)}{i:Nat}(h:μ[i]?=some none):Lz μ (Qi i):=λ σ x H Q q=>by
 refine⟨q,λ j v e=>?_⟩;have ac:j≠i:=λ z=>by
  subst z;unfold Fc at e;rw[zaa,h] at e;cases e
 rw[zb9 (zb3 ac)];exact e
def zU (J:It)(H1:Hp)(Q:VK)(st:V->Hp->(St->Hp->Prop)->Prop)(tc:TT)(te:TE):Prop:=
 ∃W:Nat->Nat->List V->Hp->Prop,(∃m,W 0 m [] H1)/\∀i m ys H2,W i m ys H2->
  (J.stop i H2/\∀D,H2 D=none->Q (.ref D) (upd H2 D (.lst ys))) \/
  (J.go i H2/\ys.length<sizeLine/\∃N:List V->Hp->Prop,(∀aJ H',N aJ H'->∃m',m'<m/\W (i+1) m' aJ H')/\∀x H3,J.gB i H2 x H3->st x H3 λ σ4 H4=>tc σ4 H4 λ b H5=>if b=true then te σ4 H5 λ y H6=>N (ys++[y]) H6 else N ys H5)
noncomputable def T5 (wi:TI)(μ:List (Option Nat))(g:TG)(tc:Shared->Hp->Addr->List Addr->TT)(te:Shared->Hp->Addr->List Addr->TE):TE:=λ σ H Q=>wi σ H λ J H1=>∀s C ex,zU J H1 Q (λ x H K=>g x (Fc μ σ) H K) (tc s H1 C ex) (te s H1 C ex)
section
variable {X:Cx}{pins:List (Addr×Obj)}{σ:St}{H2:Hp}{s2:Shared}{tg elt iter:Expr}{ifs:List Expr}{scope:Scope}{pos:Pos}{NB:List Str}{μ:List (Option Nat)}{g:TG}{tc:Shared->Hp->Addr->List Addr->TT}{te:Shared->Hp->Addr->List Addr->TE}{fp:List Addr}{it:Addr}{tn:Nat->Heap->Prop}{J:It}{Q:VK}
theorem Qr (hc:X.calm=true)(I2:Inv X pins σ H2 s2)(T:Turn X.prog X.w X.K tg J fp it tn)(cv:tn 0 s2.heap)(f2:∀b∈fp,MG X pins H2 b)
 (av:GJ scope X.env.scope=true) (aU:PP X.N NB scope μ=true) (iy:Lz μ g)
 (hb:∀(s:Shared) (H:Hp) (C:Addr) (ex:List Addr),PG (blockOf X s H scope C NB ex) tg g/\sD (blockOf X s H scope C NB ex) ifs (tc s H C ex)/\PE (blockOf X s H scope C NB ex) elt (te s H C ex))
 (q:∀C,zU J H2 Q (λ x H K=>g x (Fc μ σ) H K) (tc s2 H2 C fp) (te s2 H2 C fp)) {RR:Value->Addr->Result->Shared->Prop} {E:Value->Shared->Prop}
 (fin:∀(D C:Addr) (s':Shared) (H':Hp) (ys:List V) (m:Str->Option Value),s2.heap.objs.size<=D->s2.heap.objs.size<=C->D≠C->s'.heap.Ns C m->H' C=none->(∀h',Heap.SameBut C s'.heap h'->Inv X pins σ (upd H' D (.lst ys)) {s' with heap:=h' })->Q (.ref D) (upd H' D (.lst ys))->RR (.ref D) C (.ok .next) s'):
 wpAny (model X.prog X.w) X.A (newList []) (λ acc s₃=>wpAny (model X.prog X.w) X.A (newFunctionEnv scope X.env.globals (FY X.env.cells scope.names []) [] X.env.qual none .none (some X.env)) (λ iz s₄ =>
  codeAny (model X.prog X.w) X.A (.compStart (.ListComp elt [⟨tg,iter,ifs,0⟩] scope pos) 0 (.ref it) acc {iz with scope:=relabel scope X.env}) (RR acc iz.locals) s₄) E s₃) E s2:=by
 refine wpAny_newObj_type (ZQ (SY av) λ h₁ hns₁ hk₁ hcl₁=>?_);dsimp only at hns₁ hk₁ hcl₁ ⊢;generalize nr:s2.heap.push {cls:=.type "list",dict:=none,data:=.seq ([]:List Value).toArray}=lp at hns₁ hk₁ hcl₁ ⊢;have hC:lp.objs.size=s2.heap.objs.size+1:=by rw[<-nr,Heap.size_push]
 have c5:s2.heap.objs.size≠lp.objs.size:=by rw[hC];exact zaf (Nat.lt_succ_self _)
 have fm:s2.heap.objs.size<=lp.objs.size:=by rw[hC];exact Nat.le_succ _
 have old:∀b o,s2.heap.get? b=some o->h₁.get? b=some o:=λ b o e=>hk₁ b o (nr▸z7 _ e);have eD:h₁.get? s2.heap.objs.size=some {cls:=.type "list",data:=.seq ([]:List Value).toArray}:=hk₁ _ _ (nr▸zac _ rfl);have lj:∀b∈fp,∃o,s2.heap.get? b=some o:=λ b hb=>let ⟨o,e,_⟩:=T.obj _ _ cv b hb;⟨o,e⟩;have nu:∀b∈fp,b≠s2.heap.objs.size:=λ b hb=>let ⟨o,e⟩:=lj b hb;zaf (za4 e);generalize sy:s2.heap.objs.size=D at fm c5 eD nu ⊢;generalize za:lp.objs.size=C at *;have bw:s2.heap.objs.size<=D:=by rw[sy];exact za2 _
 have bF:s2.heap.objs.size<=C:=by rw[sy];exact fm
 have I4:Inv (blockOf X s2 H2 scope C NB fp) [] (Fc μ σ) H2 {s2 with heap:=h₁}:=T4 (t4:=s2.toks) I2 av aU f2 lj bF hns₁ old hcl₁;have bd:∀ {H':Hp} {pl:List (Addr×Obj)},(∀b∈fp,H' b=none)->(∀p∈pl,p.1=D)->∀b∈fp,MG (blockOf X s2 H2 scope C NB fp) pl H' b:=fun {H' pl} hn hp b hb=>by
  refine⟨hn b hb,(I4.ok.wM b hb).1,I4.ok.Zg b hb,.inl hb,λ x c e z=>(I4.ok.wM b hb).2 x c e z,λ p i4 z=>?_⟩;have nv:p∈pl:=by simpa [blockOf] using i4
  exact nu b hb (z▸hp p nv)
 have vi:D∉(blockOf X s2 H2 scope C NB fp).fs:=λ z=>by
  obtain⟨_,o,ho,_⟩:=I4.ok.Lu.mem z;exact absurd (za4 ho) (Nat.not_lt.mpr bw)
 obtain⟨W,⟨m0,w0⟩,turn⟩:=q C;have loop:∀s₃:Shared,s₃={s2 with heap:=h₁} ->
  codeAny (model X.prog X.w) X.A (.compLoop (.ListComp elt [⟨tg,iter,ifs,0⟩] scope pos) 0 (.ref it) (.ref D) (compEnvC scope (Wy C scope.names (FY X.env.cells scope.names [])) C X.env)) (RR (.ref D) C) s₃:=by
  rintro s₃ rfl;refine Rq (λ n s'=>∃i ys aa k H',Inv (blockOf X s2 H2 scope C NB fp) [(D,{cls:=.type "list",data:=.seq aa k})] (Fc μ σ) H' s'/\tn i s'.heap/\(∀b∈fp,H' b=none)/\Vals ys aa.toList/\ys.length<=sizeLine/\W i n ys H') ?_ m0
   ⟨0,[],#[],0,H2,I4.JM λ p hp=>?_,T.keep _ _ _ cv λ b hb o e=>old b o e,λ b hb=>(f2 b hb).1,.nil,zb1 _,w0⟩
  rotate_left
  ·have e:=z6.mp hp;subst e;exact⟨eD,I2.As.fresh bw,c5,vi,λ v=>by simp⟩
  rintro n s3 ⟨i,ys,aa,k,H3,I3,ie,ig,rv,hz,w3⟩;rcases turn i n ys H3 w3 with ⟨stop,qn⟩|⟨go,af,N,hN,step⟩
  ·refine wpAny_mono (T.done (blockOf X s2 H2 scope C NB fp) rfl rfl rfl hc i _ s3 _ H3 (λ _ _=>False) I3 (bd ig (by simp)) ie stop) (λ r s4 zz=>?_) λ _ _ e=>e;obtain⟨hr,lq⟩:=zz;subst hr;obtain⟨p1,p2,p3,p4,p5⟩:=lq.pin _ (z9 _ zw);obtain⟨m,hn,_⟩:=id lq.loc;have e1:s4.heap.get? D=some {cls:=.type "list",data:=.seq aa.toList.toArray k}:=by simpa using p1
   exact fin D C s4 H3 ys m bw bF c5 hn lq.free (λ h' sb=>XX I2 f2 lq bF bw c5 e1 p2 rv hz sb) (qn D p2)
  ·refine wpAny_mono (T.item (blockOf X s2 H2 scope C NB fp) rfl rfl rfl hc i _ s3 _ H3 (λ _ _=>False) I3 (bd ig (by simp)) ie go) (λ r s4 zz=>?_) λ _ _ e=>e;obtain⟨u,hr,h4⟩:=zz;subst hr;refine Bd h4 λ _ s5 zz=>?_;obtain⟨x,H5,I5,r5,y5,e9,mx⟩:=zz;have my:=I5.pinned (bd mx (by simp)) (T.obj _ _ e9);have aS:=iy σ x H5 _ (step x H5 y5);obtain⟨hg,ht,he⟩:=hb s2 H2 C fp;refine Bd (hg _ s5 _ H5 x u _ my r5 aS) λ _ s6 zz=>?_;obtain⟨σ6,H6,I6,q6,k6⟩:=zz;refine Bd (ht _ s6 σ6 H6 _ I6 q6) λ ok s7 zz=>?_;obtain⟨H7,I7,q7⟩:=zz;have again:∀ {H8:Hp} {s8:Shared} {its':Array Value} {k':Nat} {aJ:List V},Inv (blockOf X s2 H2 scope C NB fp) ([(D,{cls:=.type "list",data:=.seq its' k' })]++Je fp s5.heap) σ6 H8 s8->Vals aJ its'.toList->aJ.length<=sizeLine->(∃m,m<n/\W (i+1) m aJ H8)->
    ∃m,m<n/\∃i ys aa k H',Inv (blockOf X s2 H2 scope C NB fp) [(D,{cls:=.type "list",data:=.seq aa k})] (Fc μ σ) H' s8/\tn i s8.heap/\(∀b∈fp,H' b=none)/\Vals ys aa.toList/\ys.length<=sizeLine/\W i m ys H':=fun {H8 s8 its' k' aJ} I8 c6 vj n8=>by
    obtain⟨m',hm,w8⟩:=n8;refine⟨m',hm,i+1,aJ,its',k',H8,(I8.JO.weak ?_ k6),T.keep _ _ _ e9 λ b hb o e=>(I8.pin (b,o) (z9 _ (z9 _ (FV hb e)))).1,λ b hb=>?_,c6,vj,w8⟩
    ·rw[I8.len];exact I4.len
    ·obtain⟨o,e,d⟩:=T.obj _ _ e9 b hb;exact (I8.pin (b,o) (z9 _ (z9 _ (FV hb e)))).2.1
   cases ok with
   |false =>
    simp only[zag,if_false] at q7 ⊢;exact again I7 rv hz (hN _ _ q7)
   |true =>
    simp only[if_true] at q7 ⊢;refine Bd (he _ s7 σ6 H7 _ I7 q7) λ uy s8 zz=>?_;obtain⟨y,H8,I8,r8,q8⟩:=zz;obtain⟨p1,p2,p3,p4,p5⟩:=I8.pin (D,_) (z9 _ (zaq _ zw));have e1:s8.heap.get? D=some {cls:=.type "list",data:=.seq aa k}:=p1;have hsz:aa.size=ys.length:=by rw[<-zd0];exact rv.length.symm
    refine call_meets F.slot_list_append ⟨_,e1,rfl⟩ F.entry_list_append (F.args_list_append_2 _ _) (PySem.list_append D aa k uy (by rw[hsz];omega)) ⟨e1,?_⟩;have ny:=PySem.IsL.update e1 (·.push uy);have Iu:Inv (blockOf X s2 H2 scope C NB fp) (Je fp s5.heap) σ6 H8 s8:=I8.JM λ p hp=>I8.pin p (z9 _ (z9 _ hp));have It:=Iu.turned (it:=D) (h':=s8.heap.update D (Obj.mapSeq (·.push uy))) (t':=s8.toks) (λ b o hb e=>(Heap.get?_update_other _ _ (zb3 hb)).trans e) p2 p3 (.inr bw) (λ x c e z=>?_) (λ p hp z=>?_)
    ·refine again (its':=aa.push uy) (k':=if (aa.push uy).size==aa.size then k else k+1) (It.JM λ p hp=>?_) (by simpa using rv.append (.cons r8 .nil)) (by rw[za6,zav];omega) (hN _ _ q8);rcases zab.mp hp with hp|hp
     ·have e:=z6.mp hp;subst e;exact⟨ny,p2,p3,p4,λ v=>by simp⟩
     ·exact It.pin p (z9 _ hp)
    ·rcases Dd I2 av e with ⟨_,a2⟩|e'
     ·exact absurd (a2.symm.trans z) (Nat.ne_of_gt (Nat.lt_succ_of_le fm))
     ·obtain⟨v,o,ho,_⟩:=I2.cell x c e';exact absurd (za4 ho) (by rw[z];exact Nat.not_lt.mpr bw)
    ·have i4:p∈Je fp s5.heap:=by simpa [blockOf] using hp
     exact nu p.1 (Qj i4).1 z
 exact codeAny_compStart_list (loop _ rfl) (T.self _ 0 _ _ _ (T.keep _ _ _ cv λ b hb o e=>old b o e) (loop _ rfl))
theorem Wz {wi:TI}(hc:X.calm=true)(hi:PI X tg iter wi)(av:GJ scope X.env.scope=true)(aU:PP X.N NB scope μ=true)(iy:Lz μ g)
 (hb:∀(s:Shared) (H:Hp) (C:Addr) (ex:List Addr),PG (blockOf X s H scope C NB ex) tg g/\sD (blockOf X s H scope C NB ex) ifs (tc s H C ex)/\PE (blockOf X s H scope C NB ex) elt (te s H C ex))
 (hs:∀x,foldedSetIterable iter X.env x=pure x:=by intro _;rfl):PE X (.ListComp elt [⟨tg,iter,ifs,0⟩] scope pos) (T5 wi μ g tc te):=by
 intro pins s σ H Q I h;have bi:∀y∈scope.names,y.2=.local->scope.names.lookup y.1=some .local:=λ y hy=>(JU av hy).2.2;have bG:closureFor scope X.env=pure (FY X.env.cells scope.names []):=IM λ y hy e=>Jj I av (x:=y.1) (by rw[<-e];exact hy);rw[eval_ListComp];refine wpAny_comprehension_free (use:=none) rfl hs bG (Ly av) bi (Bd (hi pins s σ H _ I h) λ v s1 h1=>Bd h1 λ lc s2 h2=>?_);obtain⟨it,fp,tn,J,H2,e,I2,T,cv,f2,q⟩:=h2;subst e;refine Qr (RR:=λ acc C=>compPost (model X.prog X.w) X.A X.xe none (EP X pins σ Q) acc C) hc I2 T cv f2 av aU iy hb (λ C=>q s2 C fp) ?_;intro D C s' H' ys m hD hC c5 hn nC hI hq;exact⟨m,hn,λ h' sb=>⟨.ref D,_,hI h' sb,rfl,hq⟩⟩
noncomputable def uF (i:Nat)(te:TE):TS:=λ D σ H=>te σ H λ x H1=>D.nx (σ.set i (some x)) H1
theorem WA {wi:TI}{i:Nat}{y:Str}{py ax:Pos}(hN:X.N.Nodup)(i5:X.N[i]?=some y)(hy:Loc X.env.scope y)(hc:X.calm=true)(hi:PI X tg iter wi)(av:GJ scope X.env.scope=true)(aU:PP X.N NB scope μ=true)(iy:Lz μ g)
 (hb:∀(s:Shared) (H:Hp) (C:Addr) (ex:List Addr),PG (blockOf X s H scope C NB ex) tg g/\sD (blockOf X s H scope C NB ex) ifs (tc s H C ex)/\PE (blockOf X s H scope C NB ex) elt (te s H C ex))
 (bz:swapsWith (.ListComp elt [⟨tg,iter,ifs,0⟩] scope pos) (some (.Name y py)) ax.line X.env=pure true:=by rfl)
 (hs:∀x,foldedSetIterable iter X.env x=pure x:=by intro _;rfl) (hf:X.fn y=true\/X.env.scope.names.lookup y=some .local:=by first|exact .inl rfl|exact .inr rfl|assumption):
 PS X (.Assign [.Name y py] (.ListComp elt [⟨tg,iter,ifs,0⟩] scope pos) ax) (uF i (T5 wi μ g tc te)):=by
 intro pins s σ H D' I h;have bi:∀y∈scope.names,y.2=.local->scope.names.lookup y.1=some .local:=λ y hy=>(JU av hy).2.2;have bG:closureFor scope X.env=pure (FY X.env.cells scope.names []):=IM λ y hy e=>Jj I av (x:=y.1) (by rw[<-e];exact hy);rw[exec_Assign_Name_used _ _ _ _ bz];refine wpAny_bind (wpAny_standAt (wpAny_bind ?_));show wpAny _ X.A (do let _ <-comprehension (.ListComp elt [⟨tg,iter,ifs,0⟩] scope pos) scope X.env _ (newList []) false (eval iter X.env) (some (assign (.Name y py) X.env))) _ _ s;refine wpAny_bind (wpAny_mono (wpAny_comprehension_free (use:=some (assign (.Name y py) X.env)) (Q:=λ _ s'=>SP X pins D' .next s') rfl hs bG (Ly av) bi (Bd (hi pins s σ H _ I h) λ v s1 h1=>Bd h1 λ lc s2 h2=>?_)) (λ _ s' hq=>wpAny_pure (wpAny_pure hq)) λ _ _ e=>e);obtain⟨it,fp,tn,J,H2,e,I2,T,cv,f2,q⟩:=h2;subst e;refine Qr (RR:=λ acc C=>compPost (model X.prog X.w) X.A X.xe (some (assign (.Name y py) X.env)) (λ _ s'=>SP X pins D' .next s') acc C) hc I2 T cv f2 av aU iy hb (λ C=>q s2 C fp) ?_;intro D C s' H' ys m hD hC c5 hn nC hI hq;have I':=hI s'.heap (.refl ..);show wpAny _ X.A (assign (.Name y py) X.env (.ref D)) _ _ _;refine wpAny_assign_Name (Qh (i:=i) (v:=.ref D) I' hN i5 hy rfl (λ ij vk nz=>?_) hf);obtain⟨a,sb,ha⟩:=nz;have gy:a≠C:=by
  rcases ha with z|z
  ·rw[z];exact zaf (za8 I2.lt hC)
  ·obtain⟨v,o,ho,_⟩:=I2.cell y a z;exact zaf (za8 (za4 ho) hC)
 refine⟨m,hn.sameBut sb (zb3 gy),λ h' dw=>?_⟩;refine⟨_,_,vk.turned (it:=C) (t':=ij.toks) (λ b o hb e=>(dw.2 b hb).trans e) (by rw[Ag (zb3 c5)];exact nC) (Nat.ne_of_gt (za8 I2.lt hC)) (.inr (zbb I2.sz hC)) (λ x c e z=>?_) (λ p hp z=>?_),hq⟩
 ·obtain⟨v,o,ho,_⟩:=I2.cell x c e;exact absurd (za4 ho) (by rw[z];exact Nat.not_lt.mpr hC)
 ·exact absurd (za4 (I2.pin p hp).1) (by rw[z];exact Nat.not_lt.mpr hC)
end
noncomputable def zV (K:zt)(a:Addr):It:=
 ⟨λ i H=>∃xs x,Dc K H a xs/\xs[i]?=some x,λ i H v H'=>∃p x,H p=none/\v=.ref p/\(∀xs,Dc K H a xs->xs[i]?=some x)/\H'=upd H p (.tup [.int i,x]),λ i H=>∃xs,Dc K H a xs/\xs.length<=i⟩
theorem Va {X:Cx}{pins:List (Addr×Obj)}{σ:St}{H:Hp}{s:Shared}{h':Heap}{t':Nat}{e it:Addr}(I:Inv X pins σ H s)(he:MG X pins H e)(hi:MG X pins H it)(k:∀b o,b≠e->b≠it->s.heap.get? b=some o->h'.get? b=some o):Inv X pins σ H {s with heap:=h',toks:=t' }:=by
 obtain⟨e0,e1,e2,e3,e4,e5⟩:=he;obtain⟨f0,f1,f2,f3,f4,f5⟩:=hi;have ne:∀b u,H b=some u->b≠e/\b≠it:=λ b u q=>⟨λ z=>(by rw[z,e0] at q;cases q),λ z=>(by rw[z,f0] at q;cases q)⟩;refine I.step (g':=s.gens) (d':=s.drawn) (ch:=[e,it]) (λ b hb=>?_) (λ b o _ _ hc q _=>k b o (λ z=>hc (by simp[z])) (λ z=>hc (by simp[z])) q) (λ b o _ _ hc q _=>⟨o.slots,k b o (λ z=>hc (by simp[z])) (λ z=>hc (by simp[z])) q⟩) (λ _ _ _ _ n=>n)
  (λ b o hc q=>⟨o,k b o (λ z=>hc (by simp[z])) (λ z=>hc (by simp[z])) q⟩) (λ _ _ q=>q) (λ _ _ _ q=>q) (λ b ps q=>⟨#[],by rw[q];simp⟩) (λ m hm=>?_) (λ b u q=>?_) I.bare
 ·rcases z8.mp hb with z|z
  ·subst z;exact⟨e3,e1,e4,e5⟩
  ·have z:=z6.mp z;subst z;exact⟨f3,f1,f4,f5⟩
 ·obtain⟨o,es,ep,ho,r⟩:=hm;exact⟨o,es,ep,k _ o (zb3 e1) (zb3 f1) ho,r⟩
 ·refine (I.As b u q).PB (λ c v hc z=>k c v ?_ ?_ z) (λ _ z=>z) λ _ _ z=>z
  ·rcases hc with z|z
   ·rw[z];exact (ne b u q).1
   ·exact (ne c _ z).1
  ·rcases hc with z|z
   ·rw[z];exact (ne b u q).2
   ·exact (ne c _ z).2
theorem XY {P:Program}{w:World}{K:zt}{bH:List Expr}{x1}{bf:Pos}(a e it:Addr)(ac:e≠it):
 Turn P w K (.Tuple bH x1 bf) (zV K a) [e,it] e (λ i h=>(∃old,IsEnum h e it i old)/\h.IsListIter it a i) where
 mem:=by simp
 obj:=λ i h st b hb=>by
  obtain⟨⟨old,h1⟩,o,h2,c,d⟩:=st;rcases z8.mp hb with z|z
  ·subst z;exact⟨_,h1,λ v z=>by cases z⟩
  ·have z:=z6.mp z;subst z;exact⟨o,h2,λ v z=>by rw[d] at z;cases z⟩
 keep:=λ i h h' st k=>⟨let ⟨old,h1⟩:=st.1;⟨old,k e (by simp) _ h1⟩,st.2.at λ o e=>k it (by simp) o e⟩
 item:=by
  intro X hP hw hK hc i pins s σ H E I hf st hg;subst hP hw hK;obtain⟨xs,x,hq,hx⟩:=hg;obtain⟨⟨old,he⟩,hit⟩:=st;obtain⟨aa,rv,p,hz⟩:=I.list hq;obtain⟨u,hu,ru⟩:=rv.get hx;have fe:=hf e (by simp);have fi:=hf it (by simp);refine wpAny_pyNext_enum_item he hit p.isList (x:=u) (by simpa using hu) ac λ h1 dm n4 ht hsz hk=>?_;refine⟨_,rfl,wpAny_letOwnedTupleGo_enum (s:={s with heap:=h1,toks:=s.toks+1}) dm λ h2 vm a5=>?_⟩;have bj:Heap.SameBut e h1 h2:=a5;have nt:s.heap.objs.size≠e:=Nat.ne_of_gt (za4 he);have vn:s.heap.objs.size≠it:=by
   obtain⟨o,ho,_⟩:=hit;exact Nat.ne_of_gt (za4 ho)
  have I1:Inv X pins σ H {s with heap:=h2,toks:=s.toks+1}:=Va I fe fi λ b o hb az q=>(bj.2 b hb).trans (hk b o hb az q);have tup:h2.get? s.heap.objs.size=some {cls:=.type "tuple",data:=.seq #[.int i s.toks,u]}:=(bj.2 _ nt).trans ht;have nH:H s.heap.objs.size=none:=I.As.fresh (za2 _);have vv:Vals [.int i,x] [.int i s.toks,u]:=.cons ⟨_,rfl⟩ (.cons ru .nil);have n5:Gs X.prog X.w (upd H s.heap.objs.size (.tup [.int i,x])) h2:=I1.As.adopt nH ⟨by show 2<=sizeLine;decide,_,vv,⟨_,tup,rfl,_,rfl⟩⟩;have I2:Inv X pins σ (upd H s.heap.objs.size (.tup [.int i,x])) {s with heap:=h2,toks:=s.toks+1}:=by
   refine I.step (g':=s.gens) (d':=s.drawn) (ch:=[e,it]) (λ b hb=>?_) (λ b o _ _ hc q _=>(bj.2 b (λ z=>hc (by simp[z]))).trans (hk b o (λ z=>hc (by simp[z])) (λ z=>hc (by simp[z])) q)) (λ b o _ _ hc q _=>⟨o.slots,(bj.2 b (λ z=>hc (by simp[z]))).trans (hk b o (λ z=>hc (by simp[z])) (λ z=>hc (by simp[z])) q)⟩)
    (λ b o hc q n=>by rw[Ag (zaf (za4 q))];exact n) (λ b o hc q=>⟨o,(bj.2 b (λ z=>hc (by simp[z]))).trans (hk b o (λ z=>hc (by simp[z])) (λ z=>hc (by simp[z])) q)⟩)
    (λ b xs q=>by rw[Ag (AJ q nH)];exact q) (λ b o u q=>by rw[Ag (AJ q nH)];exact q) (λ b ps q=>⟨#[],by rw[Ag (AJ q nH),q];simp⟩) (λ m hm=>?_) n5 I.bare
   ·rcases z8.mp hb with z|z
    ·subst z;exact⟨fe.2.2.2.1,fe.2.1,fe.2.2.2.2.1,fe.2.2.2.2.2⟩
    ·have z:=z6.mp z;subst z;exact⟨fi.2.2.2.1,fi.2.1,fi.2.2.2.2.1,fi.2.2.2.2.2⟩
   ·obtain⟨o,es,ep,ho,r⟩:=hm;exact⟨o,es,ep,(bj.2 _ (zb3 fe.2.1)).trans (hk _ o (zb3 fe.2.1) (zb3 fi.2.1) ho),r⟩
  refine⟨.ref s.heap.objs.size,_,I2,rfl,⟨_,x,nH,rfl,λ ys hy=>by rw[I.GQ hy hq];exact hx,rfl⟩,⟨⟨u,vm⟩,n4.at λ o q=>(bj.2 it (zb3 ac)).trans q⟩,λ b hb=>?_⟩;have az:b≠s.heap.objs.size:=by
   rcases z8.mp hb with z|z
   ·rw[z];exact zb3 nt
   ·rw[z6.mp z];exact zb3 vn
  rw[Ag az];exact (hf b hb).1
 done:=by
  intro X hP hw hK hc i pins s σ H E I hf st hg;subst hP hw hK;obtain⟨xs,hq,hx⟩:=hg;obtain⟨⟨old,he⟩,hit⟩:=st;obtain⟨aa,rv,p,hz⟩:=I.list hq;have hl:=rv.length;obtain⟨f0,f1,f2,f3,f4,f5⟩:=hf it (by simp);exact wpAny_pyNext_enum_end (I.ok.hd hc) he hit p.isList (by simp;omega) λ h' eb=>⟨rfl,I.turned (t':=s.toks) (λ b o hb e=>eb b o hb e) f0 f1 f3 f4 f5⟩
 self:=λ _ _ _ _ _ st h=>let ⟨_,he⟩:=st.1;wpAny_pyIter_enum he h
section
variable {X:Cx}
noncomputable def uG (K:zt)(ta:TA):TI:=λ σ H R=>ta σ H λ vs H1=>∃a,vs=[.ref a]/\(∃xs,Dc K H1 a xs)/\R (zV K a) H1
theorem iH {bH:List Expr}{x1}{bf:Pos}{a:Expr}{ta:TA}{p pos:Pos}(hg:Gl X "enumerate")(hm:X.mg "enumerate" = none)(ha:PA X [a] ta)(hb:bootBuiltins "enumerate" = some (.type "enumerate"):=by decide +kernel)(hs:starEach [a] X.env=[(false,eval a X.env)]:=by rfl):
 PI X (.Tuple bH x1 bf) (.Call (.Name "enumerate" p) [a] [] pos) (uG X.K ta):=by
 intro pins s σ H R I h;refine Call_ (CO I hg hm hb (zay (Bd (ha pos pins s σ H _ I h) λ us s1 zz=>?_) hs rfl));obtain⟨vs,H1,I1,r1,q1⟩:=zz;obtain⟨j,e,⟨xs,hq⟩,q⟩:=q1;subst e;cases r1 with
 |cons r rr =>
  cases rr;cases r;obtain⟨aa,rv,p,hz⟩:=I1.list hq;refine call_enumerate_list p.isList λ h' he hit hsz hk=>?_;refine wpAny_pyIter_enum (s:={s1 with heap:=h' }) he ?_;have I2:Inv X pins σ H1 {s1 with heap:=h' }:=I1.kept (t':=s1.toks) hk;refine⟨_,[s1.heap.objs.size+1,s1.heap.objs.size],_,_,H1,rfl,I2,XY j _ _ (Nat.succ_ne_self _),⟨⟨_,he⟩,hit⟩,λ b hb=>?_,q⟩;rcases z8.mp hb with z|z
  ·rw[z];exact I1.UQ (Nat.le_succ _) (I1.As.fresh (Nat.le_succ _))
  ·rw[z6.mp z];exact I1.UQ (za2 _) (I1.As.fresh (za2 _))
end
noncomputable def BK {α:Type}(o:Option (α×List Int))(b:α×List Int):Option (α×List Int):=match o with | none=>some b | some c=>if HT.lexLt b.2 c.2=true then some b else some c
noncomputable def Be {α:Type}(bs:List (α×List Int)):Option (α×List Int):=bs.foldl BK none
noncomputable def JV (bs:List (Addr×List Int)):Array Value:=match Be bs with | none=>#[] | some b=>#[.ref b.1,.ref b.1]
theorem Jk {α:Type}(bs:List (α×List Int))(b:α×List Int):Be (bs++[b])=match Be bs with | none=>some b | some c=>if HT.lexLt b.2 c.2=true then some b else some c:=by
 unfold Be;rw[List.foldl_append];rfl
theorem Qs {α:Type}:∀(bs:List (α×List Int)) (b:α×List Int),Be bs=some b->b∈bs:=by
 intro bs
 suffices h:∀(bs:List (α×List Int)) (o:Option (α×List Int)) (b:α×List Int),bs.foldl BK o=some b->b∈bs\/o=some b by
  intro b hb;rcases h bs none b hb with q|q
  ·exact q
  ·cases q
 intro bs;induction bs with
 |nil=>intro o b h;exact .inr h
 |cons x r ih =>
  intro o b h;rw[zah] at h;rcases ih _ _ h with q|q
  ·exact .inl (zx _ q)
  ·cases o with
   |none=>cases q;exact .inl zw
   |some c =>
    unfold BK at q;dsimp only at q;split at q
    ·cases q;exact .inl zw
    ·exact .inr q
theorem Jl {α:Type}(o:Option (α×List Int))(b:α×List Int):BK o b≠none:=by
 unfold BK;split
 ·intro z;cases z
 ·split<;>(intro z;cases z)
theorem NU {α:Type}:∀ {bs:List (α×List Int)},bs≠[]->Be bs≠none:=by
 intro bs h;unfold Be
 suffices z:∀(bs:List (α×List Int)) (o:Option (α×List Int)),o≠none->bs.foldl BK o≠none by
  cases bs with
  |nil=>exact (h rfl).elim
  |cons b r=>rw[zah];exact z r _ (Jl _ _)
 intro bs;induction bs with
 |nil=>intro o h;exact h
 |cons b r ih=>intro o h;rw[zah];exact ih _ (Jl _ _)
noncomputable def uH (o:Option Value):List (Str×Value):=o.toList.map λ d=>(Str.ofString "default",d)
theorem ZR (a:Value)(o:Option Value):argsOk "min" ⟨[a],uH o⟩:=by cases o<;>(unfold argsOk;kernel_rfl)
section
variable {prog:Program}{w:World}{A:Around}{R:Result->Shared->Prop}
theorem ZS (bs:List (Addr×List Int))(tv:Addr->Array Value)(l I S:Addr)(o:Option Value)(n6:o=none->bs≠[])(hh:A.handled=none)(hu:A.in1.units<cLine)(lr:S≠I)(fv:l≠I)(sB:l≠S)(n9:∀b∈bs,b.1≠I/\b.1≠S)
 (hk:∀b∈bs,IntsAre (tv b.1).toList b.2):∀(k j:Nat) (s:Shared) (c:Nat),bs.length-j=k->j<=bs.length->s.heap.IsListIter I l j->s.heap.IsList l (bs.map λ b=>zb6 b.1).toArray->(∀b∈bs,IsTup s.heap b.1 (tv b.1))->
  s.heap.get? S=some {cls:=.type "list",dict:=none,data:=.seq (JV (bs.take j)) c,slots:=#[]} ->
  (∀h' tk,(∀b o,b≠I->b≠S->s.heap.get? b=some o->h'.get? b=some o)->R (.ok (.ret (match Be bs with|none=>o.getD .none|some b=>.ref b.1))) {s with heap:=h',toks:=tk})->
  codeAny (model prog w) A (.builtin "min.loop" ⟨[.ref I,.none,.ref S],uH o⟩) R s:=by
 have aV:(toString "min" ++ toString ".loop" : String) = "min.loop" := by decide
 intro k;induction k with
 |zero =>
  intro j s c hr hj hit hl ht hS hR;have bm:j=bs.length:=by omega
  subst bm;rw[zbh] at hS;refine codeAny_builtin PySem.F.entry_min_loop ?_;rw[zcb zc4 _];show wpAny _ A.in1 (seqItems? (.ref S) >>= _) _ _ s;refine wpAny_bind (wpAny_seqItems hS rfl ?_);show wpAny _ A.in1 (tryCatch (pyNext (.ref I)) _ >>= _) _ _ s;refine wpAny_bind (wpAny_tryCatch (wpAny_pyNext_list_end (A:=A.in1) hh hit hl (by simp) λ h' eb=>?_));have aW:h'.get? S=_:=eb S _ lr hS;unfold JV at aW;cases hb:Be bs with
  |none =>
   unfold JV;rw[hb];cases o with
   |none=>exact (NU (n6 rfl) hb).elim
   |some d =>
   show wpAny _ A.in1 (rule _ >>= _) _ _ _;refine wpAny_bind (wpAny_rule (wpAny_pure ?_));have q:=hR h' s.toks λ b o h1 h2 e=>eb b o h1 e;rw[hb] at q;exact q
  |some b =>
   rw[hb] at aW;unfold JV;rw[hb];show wpAny _ A.in1 (updateSeq S (λ _=>#[]) >>= _) _ _ _;refine wpAny_bind ?_;refine wpAny_updateSeq aW rfl (wpAny_bind (wpAny_letGo (wpAny_pure ?_)));have q:=hR (h'.update S (Obj.mapSeq λ _=>#[])) s.toks λ b o h1 h2 e=>(Heap.get?_update_other _ _ (zb3 h2)).trans (eb b o h1 e);rw[hb] at q;exact q
 |succ k ih =>
  intro j s c hr hj hit hl ht hS hR;have af:j<bs.length:=by omega
  have ej:bs.take (j+1)=bs.take j++[bs[j]]:=by rw[zbm,z4 af];rfl
  have mj:bs[j]∈bs:=List.getElem_mem af;refine codeAny_builtin PySem.F.entry_min_loop ?_;rw[zcb zc4 _];show wpAny _ A.in1 (seqItems? (.ref S) >>= _) _ _ s;refine wpAny_bind (wpAny_seqItems hS rfl ?_);show wpAny _ A.in1 (tryCatch (pyNext (.ref I)) _ >>= _) _ _ s;refine wpAny_bind (wpAny_tryCatch (wpAny_pyNext_list_item (A:=A.in1) hit hl (x:=.ref bs[j].1) (by simp[af]) λ h' bn sb=>?_));have dw:Heap.SameBut I s.heap h':=sb;have aW:h'.get? S=_:=(dw.2 S lr).trans hS;have ic:h'.IsList l (bs.map λ b=>zb6 b.1).toArray:=hl.at λ o e=>(dw.2 l fv).trans e;have i6:∀b∈bs,IsTup h' b.1 (tv b.1):=λ b hb=>by
   obtain⟨o,ho,r⟩:=ht b hb;exact⟨o,(dw.2 b.1 (n9 b hb).1).trans ho,r⟩
  cases hb:Be (bs.take j) with
  |none =>
   unfold JV at aW ⊢;rw[hb] at aW ⊢;show wpAny _ A.in1 (updateSeq S (λ _=>#[.ref bs[j].1,.ref bs[j].1]) >>= _) _ _ _;refine wpAny_bind ?_;refine wpAny_updateSeq aW rfl ?_;rw[aV];have s1:=Heap.SameBut.update h' S (Obj.mapSeq λ _=>(#[.ref bs[j].1,.ref bs[j].1]:Array Value));refine wpAny_pure ⟨plainId_quiet zc4 _,ih (j+1) _ (c+1) (by omega) af (bn.at λ o e=>(s1.2 I (zb3 lr)).trans e) (ic.at λ o e=>(s1.2 l sB).trans e) (λ b hb=>?_) ?_ λ i7 tk bI=>?_⟩
   ·obtain⟨o,ho,r⟩:=i6 b hb;exact⟨o,(s1.2 b.1 (n9 b hb).2).trans ho,r⟩
   ·refine (Heap.get?_update_self _ aW rfl).trans ?_;unfold JV;rw[ej,Jk,hb];rfl
   ·exact hR i7 tk λ b o h1 h2 e=>bI b o h1 h2 ((s1.2 b h2).trans ((dw.2 b h1).trans e))
  |some m =>
   have mm:m∈bs:=zc0 (Qs _ _ hb);unfold JV at aW ⊢;rw[hb] at aW ⊢;show wpAny _ A.in1 (tryCatch (holding [.ref bs[j].1,.ref bs[j].1] (richCompare .Lt (.ref bs[j].1) (.ref m.1) >>= _)) _ >>= _) _ _ _;refine wpAny_bind (wpAny_tryCatch (wpAny_holding (wpAny_bind (HT.NJ (i6 _ mj) (i6 _ mm) (hk _ mj) (hk _ mm) hu ?_))));refine wpAny_bind (wpAny_holding (wpAny_truthy_bool ?_));refine wpAny_bind (wpAny_letGo (wpAny_pure ?_));cases hc:HT.lexLt bs[j].2 m.2 with
   |true =>
    simp only[if_true];have s1:=Heap.SameBut.update h' S (Obj.mapSeq λ _=>(#[.ref bs[j].1,.ref bs[j].1]:Array Value));refine wpAny_bind ?_;refine wpAny_updateSeq aW rfl (wpAny_bind (wpAny_letGo ?_));rw[aV];refine wpAny_pure ⟨plainId_quiet zc4 _,ih (j+1) _ c (by omega) af (bn.at λ o e=>(s1.2 I (zb3 lr)).trans e) (ic.at λ o e=>(s1.2 l sB).trans e) (λ b hb=>?_) ?_ λ i7 tk bI=>?_⟩
    ·obtain⟨o,ho,r⟩:=i6 b hb;exact⟨o,(s1.2 b.1 (n9 b hb).2).trans ho,r⟩
    ·refine (Heap.get?_update_self _ aW rfl).trans ?_;unfold JV;rw[ej,Jk,hb];simp only[hc,if_true];rfl
    ·exact hR i7 tk λ b o h1 h2 e=>bI b o h1 h2 ((s1.2 b h2).trans ((dw.2 b h1).trans e))
   |false =>
    simp only[zag,if_false];refine wpAny_bind (wpAny_letGo ?_);rw[aV];refine wpAny_pure ⟨plainId_quiet zc4 _,ih (j+1) _ c (by omega) af bn ic i6 ?_ λ i7 tk bI=>?_⟩
    ·refine aW.trans ?_;unfold JV;rw[ej,Jk,hb];simp only[hc,zag,if_false]
    ·exact hR i7 tk λ b o h1 h2 e=>bI b o h1 h2 ((dw.2 b h1).trans e)
theorem NV {E:Value->Shared->Prop}{s:Shared}{Q:Value->Shared->Prop}(bs:List (Addr×List Int))(tv:Addr->Array Value)(l:Addr)(o:Option Value)(n6:o=none->bs≠[])(hh:A.handled=none)(hu:A.in1.units<cLine)
 (hl:s.heap.IsList l (bs.map λ b=>zb6 b.1).toArray) (ht:∀b∈bs,IsTup s.heap b.1 (tv b.1)) (hk:∀b∈bs,IntsAre (tv b.1).toList b.2)
 (hQ:∀h' tk,(∀b o,s.heap.get? b=some o->h'.get? b=some o)->Q (match Be bs with|none=>o.getD .none|some b=>.ref b.1) {s with heap:=h',toks:=tk}):
 wpAny (model prog w) A (call (.builtin "min") [.ref l] (uH o)) Q E s:=by
 have aV:(toString "min" ++ toString ".loop" : String) = "min.loop" := by decide
 obtain⟨ol,oa,_⟩:=id hl;have sK:l<s.heap.objs.size:=za4 oa;refine kmk_tree PySem.F.kind_min PySem.F.plain_min PySem.F.entry_min (ZR _ _) ?_;show wpAny _ A.in1 (Builtin.Builtins.bindParams "min" ["key","default"] 0 ⟨[],uH o⟩ >>= _) _ _ s;refine wpAny_bind (wpAny_of_eq (show Builtin.Builtins.bindParams "min" ["key","default"] 0 ⟨[],uH o⟩=pure [none,o] by cases o<;>rfl) ?_);refine wpAny_bind (wpAny_pure ?_);refine wpAny_bind (wpAny_pyIter_list hl ?_);refine wpAny_bind (wpAny_newList ?_ (zb1 _));rw[aV];have hS:(s.heap.push {cls:=.type "list_iterator",data:=.fields #[.ref l,.int 0 0]}).objs.size=s.heap.objs.size+1:=Heap.size_push ..;have old:∀b o,s.heap.get? b=some o->b≠s.heap.objs.size/\b≠(s.heap.push {cls:=.type "list_iterator",data:=.fields #[.ref l,.int 0 0]}).objs.size:=λ b o e=>⟨zaf (za4 e),by rw[hS];exact zaf (Nat.lt_succ_of_lt (za4 e))⟩;have grow:∀b o,s.heap.get? b=some o->((s.heap.push {cls:=.type "list_iterator",data:=.fields #[.ref l,.int 0 0]}).push {cls:=.type "list",data:=.seq #[]}).get? b=some o:=λ b o e=>z7 _ (z7 _ e);refine wpAny_pure ⟨plainId_quiet zc4 _,?_⟩;refine ZS bs tv l s.heap.objs.size (s.heap.push {cls:=.type "list_iterator",data:=.fields #[.ref l,.int 0 0]}).objs.size o n6 hh hu (by rw[hS];exact Nat.succ_ne_self _) (old l ol oa).1 (old l ol oa).2 (λ b hb=>?_) hk _ 0 _ 0 rfl (zb1 _) ?_ ?_ (λ b hb=>?_) ?_ ?_
 ·obtain⟨o,ho,_⟩:=ht b hb;exact old b.1 o ho
 ·exact⟨_,z7 _ (zac _ rfl),rfl,rfl⟩
 ·exact hl.at λ o e=>grow l o e
 ·obtain⟨o,ho,r⟩:=ht b hb;exact⟨o,grow b.1 o ho,r⟩
 ·exact zac _ rfl
 ·intro h' tk i8;exact hQ h' tk λ b o e=>i8 b o (old b o e).1 (old b o e).2 (grow b o e)
end
section
variable {X:Cx}{e e2:Expr}{te td:TE}{p pos kp:Pos}
noncomputable def uI (K:zt)(te td:TE):TE:=λ σ H Q=>te σ H λ x H1=>td σ H1 λ d H2=>∃(a:Addr) (bs:List (Addr×List Int)),x=.ref a/\Dc K H2 a (bs.map λ b=>V.ref b.1)/\(∀b∈bs,EY K H2 b.1 (b.2.map V.int))/\Q (match Be bs with | none=>d | some b=>.ref b.1) H2
theorem LB:∀ {bs:List (Addr×List Int)}{us:List Value},Vals (bs.map λ b=>V.ref b.1) us->us=bs.map λ b=>zb6 b.1
 |[],_,.nil=>rfl
 |b::r,_,.cons h t=>by cases h;rw[LB t];rfl
theorem iI (hc:X.calm=true)(hu:X.A.units+1<cLine)(hg:Gl X "min")(hm:X.mg "min" = none)(he:PE X e te)(hd:PE X e2 td)
 (aD:starEach [e] X.env=[(false,eval e X.env)]:=by rfl) (aE:(backToKw pos (keywordEach [⟨some "default",e2,kp⟩] X.env)).all (·.1.isSome)=true:=by rfl) (oe:(backToKw pos (keywordEach [⟨some "default",e2,kp⟩] X.env)).filterMap (·.1)=([("default" : Str)]:List Str):=by rfl)
 (og:(backToKw pos (keywordEach [⟨some "default",e2,kp⟩] X.env)).any (·.1.isNone)=false:=by rfl) (bJ:backTo pos (starEach [e] X.env)=(false,eval e X.env)::backTo pos (starEach [] X.env):=by rfl) (hpl:(backTo pos (starEach [e] X.env)).any (·.1)=false:=by rfl):
 PE X (.Call (.Name "min" p) [e] [⟨some "default",e2,kp⟩] pos) (uI X.K te td):=by
 intro pins s σ H Q I h;refine wpAny_Call_Name_kw (CO I hg hm boot_min ?_ (by decide) (by decide));refine callWith_kw (Bd ((BC he CP (hs:=aD)) pos pins s σ H (λ vs H1=>match vs with|[x]=>td σ H1 λ d H2=>∃(a:Addr) (bs:List (Addr×List Int)),x=.ref a/\Dc X.K H2 a (bs.map λ b=>V.ref b.1)/\(∀b∈bs,EY X.K H2 b.1 (b.2.map V.int))/\Q (match Be bs with|none=>d|some b=>.ref b.1) H2|_=>False) I h) λ us s1 zz=>?_) bJ hpl aE og;obtain⟨vs,H1,I1,r1,q1⟩:=zz;obtain⟨x,rfl⟩:∃x,vs=[x]:=by
  match vs,q1 with
  |[x],_=>exact⟨x,rfl⟩
 refine Bd ((gL hd oU) pos pins s1 σ H1 (λ zs H2=>match zs with|[d]=>∃(a:Addr) (bs:List (Addr×List Int)),x=.ref a/\Dc X.K H2 a (bs.map λ b=>V.ref b.1)/\(∀b∈bs,EY X.K H2 b.1 (b.2.map V.int))/\Q (match Be bs with|none=>d|some b=>.ref b.1) H2|_=>False) I1 q1) λ ws s2 zz=>?_;obtain⟨zs,H2,I2,r2,q2⟩:=zz;obtain⟨d,rfl⟩:∃d,zs=[d]:=by
  match zs,q2 with
  |[d],_=>exact⟨d,rfl⟩
 obtain⟨a,bs,rfl,hl,hb,q⟩:=q2;obtain⟨ua,rfl,ra⟩:=r1.one;obtain⟨ud,rfl,rd⟩:=r2.one;cases ra;rw[oe];obtain⟨aa,rv,pl,hz⟩:=I2.list hl;have ei:=LB rv;subst ei;have tv:∀a:Addr,∃t:Array Value,∀b∈bs,b.1=a->IsTup s2.heap a t/\IntsAre t.toList b.2:=λ a=>by
  by_cases bK:∃b∈bs,b.1=a
  ·obtain⟨b,bK,rfl⟩:=bK;obtain⟨ts,rt,pt,_⟩:=I2.tuple (hb b bK);refine⟨ts.toArray,λ b' az e=>⟨pt,?_⟩⟩;have q2:=hb b' az;rw[e] at q2;have e2:=I2.Fs q2 (hb b bK);rw[<-e2] at rt;simpa using intsAre_of rt
  ·exact⟨#[],λ b az e=>absurd ⟨b,az,e⟩ bK⟩
 refine NV bs (λ b=>z3 (tv b)) a (some ud) (λ h=>by cases h) (I2.ok.hd hc) hu pl.isList (λ b az=>(zu (tv b.1) b az rfl).1) (λ b az=>(zu (tv b.1) b az rfl).2) λ h' tk hk=>?_;refine⟨match Be bs with|none=>d|some b=>.ref b.1,H2,I2.kept (t':=tk) hk,?_,q⟩;cases Be bs with
 |none=>exact rd
 |some b=>rfl
end
inductive D where
 |AN|bl (b:Bool)|int (i:Int)|str (x:Str)|tup (ds:List D)|lst (ds:List D)|JL (x:Str)|Bu (t:Bool) (ks vs:List D)|ins (x:Str) (ns:List Str) (ds:List D)
noncomputable def Cm:Key->D
 | .inl i=>.int i
 | .inr x=>.str x
def yT (a c:Addr)(h:Heap):Prop:=∃o,h.get? a=some o/\o.cls=.ref c/\PySem.W.notCls o=true
theorem Rd.same {H H':Hp}{a:Addr}{u:HO}(r:Rd H a u)(e:Ah H H'):Rd H' a u:=r.elim (λ h=>.inl (e _ _ h)) λ⟨o,h⟩=>.inr ⟨o,e _ _ h⟩
mutual
inductive BD (K:zt) (H:Hp):V->D->Prop
 |AN:BD K H .AN .AN
 |bl (b):BD K H (.bl b) (.bl b)
 |int (i):BD K H (.int i) (.int i)
 |str (x):BD K H (.str x) (.str x)
 |tup {a xs ds}:H a=some (.tup xs)->Ai K H xs ds->BD K H (.ref a) (.tup ds)
 |lst {a xs ds}:Dc K H a xs->Ai K H xs ds->BD K H (.ref a) (.lst ds)
 |Qt {a kvs ds}:Rd H a (.dK kvs)->Ai K H (kvs.map zbd) ds->BD K H (.ref a) (.Bu false (kvs.map λ kv=>Cm kv.1) ds)
 |Rr {a kvs ds}:Rd H a (.dT kvs)->Ai K H (kvs.map zbd) ds->BD K H (.ref a) (.Bu true (kvs.map λ kv=>.tup (kv.1.map Cm)) ds)
 |ins {a C dx fs x ds}:zap K mainGlobals x=some (some (.ref C))->H a=some (.ins C dx fs)->Ai K H (fs.map zbd) ds->BD K H (.ref a) (.ins x (fs.map zan) ds)
 |JL {a c x}:zap K mainGlobals x=some (some (.ref c))->H a=some (.ext (yT a c))->BD K H (.ref a) (.JL x)
inductive Ai (K:zt) (H:Hp):List V->List D->Prop
 |nil:Ai K H [] []
 |cons {x d xs ds}:BD K H x d->Ai K H xs ds->Ai K H (x::xs) (d::ds)
end
theorem Ai.length {K:zt}{H:Hp}:∀ {xs:List V}{ds:List D},Ai K H xs ds->xs.length=ds.length
 |_,_,.nil=>rfl
 |_,_,.cons _ t=>by rw[z5,z5,Ai.length t]
theorem Ai.get {K:zt}{H:Hp}:∀ {xs:List V}{ds:List D}{i:Nat}{d:D},Ai K H xs ds->ds[i]?=some d->∃x,xs[i]?=some x/\BD K H x d
 |_,_,_,_,.nil,e=>by simp at e
 |_,_,0,_,.cons r _,e=>by simp at e;subst e;exact⟨_,rfl,r⟩
 |_,_,i+1,d,.cons _ t,e=>by
  obtain⟨u,h1,h2⟩:=Ai.get (i:=i) (d:=d) t (by simpa using e);exact⟨u,by simpa using h1,h2⟩
theorem Ai.pL {K:zt}{H:Hp}:∀ {xs:List V}{ds:List D}{i:Nat}{x:V},Ai K H xs ds->xs[i]?=some x->∃d,ds[i]?=some d/\BD K H x d
 |_,_,_,_,.nil,e=>by simp at e
 |_,_,0,_,.cons r _,e=>by simp at e;subst e;exact⟨_,rfl,r⟩
 |_,_,i+1,d,.cons _ t,e=>by
  obtain⟨u,h1,h2⟩:=Ai.pL (i:=i) (x:=d) t (by simpa using e);exact⟨u,by simpa using h1,h2⟩
theorem Ai.append {K:zt}{H:Hp}:∀ {xs ys:List V}{ds es:List D},Ai K H xs ds->Ai K H ys es->Ai K H (xs++ys) (ds++es)
 |_,_,_,_,.nil,h=>h
 |_,_,_,_,.cons r t,h=>.cons r (Ai.append t h)
theorem Ai.snoc {K:zt}{H:Hp}{xs:List V}{ds:List D}{x:V}{d:D}(h:Ai K H xs ds)(r:BD K H x d):Ai K H (xs++[x]) (ds++[d]):=h.append (.cons r .nil)
theorem Ai.take {K:zt}{H:Hp}:∀ {xs:List V}{ds:List D}(n:Nat),Ai K H xs ds->Ai K H (xs.take n) (ds.take n)
 |_,_,0,_|_,_,_+1,.nil=>.nil
 |_,_,n+1,.cons r t=>.cons r (Ai.take n t)
theorem Ai.drop {K:zt}{H:Hp}:∀ {xs:List V}{ds:List D}(n:Nat),Ai K H xs ds->Ai K H (xs.drop n) (ds.drop n)
 |_,_,0,r=>r
 |_,_,_+1,.nil=>.nil
 |_,_,n+1,.cons _ t=>Ai.drop n t
theorem Ai.ints {K:zt}{H:Hp}:∀(ns:List Int),Ai K H (ns.map V.int) (ns.map D.int)
 |[]=>.nil
 |n::r=>.cons (.int n) (Ai.ints r)
theorem Ah.yU {K:zt}{H H':Hp}{a:Addr}{xs:List V}(e:Ah H H')(h:EY K H a xs):EY K H' a xs:=by
 rcases h with (h|⟨o,h⟩)|h
 ·exact .inl (.inl (e _ _ h))
 ·exact .inl (.inr ⟨o,e _ _ h⟩)
 ·exact .inr h
mutual
theorem BD.mono {K:zt}{H H':Hp}(e:Ah H H'):∀ {v:V}{d:D},BD K H v d->BD K H' v d
 |_,_,.AN=>.AN
 |_,_,.bl b=>.bl b
 |_,_,.int i=>.int i
 |_,_,.str x=>.str x
 |_,_,.tup h r=>.tup (e _ _ h) (Ai.mono e r)
 |_,_,.lst h r=>.lst (e.seq h) (Ai.mono e r)
 |_,_,.Qt h r=>.Qt (h.same e) (Ai.mono e r)
 |_,_,.Rr h r=>.Rr (h.same e) (Ai.mono e r)
 |_,_,.ins n h r=>.ins n (e _ _ h) (Ai.mono e r)
 |_,_,.JL h r=>.JL h (e _ _ r)
theorem Ai.mono {K:zt}{H H':Hp}(e:Ah H H'):∀ {vs:List V}{ds:List D},Ai K H vs ds->Ai K H' vs ds
 |_,_,.nil=>.nil
 |_,_,.cons h t=>.cons (BD.mono e h) (Ai.mono e t)
end
theorem AM {H:Hp}{p:Addr}(h:H p=none)(o:HO):Ah H (upd H p o):=λ b u q=>by rw[Ag (AJ q h)];exact q
mutual
noncomputable def Bm:D->D->Bool
 | .AN,.AN=>true
 | .bl a,.bl b| .int a,.int b| .str a,.str b=>a==b
 | .bl a,.int b=>(if a then 1 else 0)==b
 | .int a,.bl b=>a==(if b then 1 else 0)
 | .tup a,.tup b| .lst a,.lst b=>Cb a b
 | .JL a,.JL b=>a==b
 | .Bu s a b,.Bu t c d=>(s==t)&&(Cb a c&&Cb b d)
 | .ins x n a,.ins y m b=>(x==y)&&((n==m)&&Cb a b)
 |_,_=>false
noncomputable def Cb:List D->List D->Bool
 |[],[]=>true
 |a::r,b::t=>Bm a b&&Cb r t
 |_,_=>false
end
mutual
theorem T6:∀d:D,Bm d d=true
 | .AN=>by simp[Bm]
 | .bl b| .int b| .str b=>by simp[Bm]
 | .tup b| .lst b=>by simp only[Bm];exact CC b
 | .JL b=>by simp[Bm]
 | .Bu s a b=>by simp only[Bm];rw[CC a,CC b];simp
 | .ins x n a=>by simp only[Bm];rw[CC a];simp
theorem CC:∀d:List D,Cb d d=true
 |[]=>by simp[Cb]
 |a::r=>by simp only[Cb,T6 a,CC r,Bool.and_true]
end
mutual
noncomputable def C3:D->Bool
 | .tup a| .lst a=>LC a
 | .JL _| .Bu _ _ _| .ins _ _ _=>false
 |_=>true
noncomputable def LC:List D->Bool
 |[]=>true
 |a::r=>C3 a&&LC r
end
theorem Rt:∀ {ds:List D}{d:D},d∈ds->LC ds=true->C3 d=true
 |a::r,d,h,q=>by
  rw[LC,zat] at q;rcases z8.mp h with z|z
  ·subst z;exact q.1
  ·exact Rt z q.2
mutual
noncomputable def Ru:D->Nat
 | .tup a| .lst a=>Rv a+1
 |_=>0
noncomputable def Rv:List D->Nat
 |[]=>0
 |a::r=>max (Ru a) (Rv r)
end
theorem WB:∀ {ds:List D}{d:D},d∈ds->Ru d<=Rv ds
 |a::r,d,h=>by
  rw[Rv];rcases z8.mp h with z|z
  ·subst z;exact Nat.le_max_left _ _
  ·exact zbb (WB z) (Nat.le_max_right _ _)
theorem T7:∀ {a b:List D},Cb a b=true->a.length=b.length
 |[],[],_=>rfl
 |[],_::_,h|_::_,[],h=>by simp[Cb] at h
 |a::r,b::t,h=>by
  simp only[Cb,zat] at h;rw[z5,z5,T7 h.2]
theorem Jm:∀(a b:List D),a.length=b.length->(zau a.length).all (λ j=>Bm (a.getD j .AN) (b.getD j .AN))=Cb a b
 |[],[],_=>by simp[Cb]
 |a::r,b::t,h=>by
  have ih:=Jm r t (by simpa using h);rw[z5,List.range_succ_eq_map,List.all_cons,List.all_map,Cb,<-ih];simp[Function.comp_def]
 |[],_::_,h|_::_,[],h=>by cases h
theorem WC {a b:List D}(h:a.length≠b.length):Cb a b=false:=by
 cases e:Cb a b with
 |false=>rfl
 |true=>exact absurd (T7 e) h
theorem ZT (a b:List D):((zau (min a.length b.length)).all (λ j=>Bm (a.getD j .AN) (b.getD j .AN))&&(a.length==b.length))=Cb a b:=by
 by_cases h:a.length=b.length
 ·rw[<-Jm a b h,h];simp
 ·rw[WC h,beq_false_of_ne h,Bool.and_false]
section
variable {X:Cx}{pins:List (Addr×Obj)}{σ:St}{H:Hp}{s:Shared}
theorem WD (I:Inv X pins σ H s){a:Addr}{xs ys:List V}(h:Dc X.K H a xs)(h':EY X.K H a ys):False:=by
 obtain⟨aa,_,⟨o,n,e,c,_,_⟩,_⟩:=I.list h;obtain⟨its',_,⟨o',e',c',_⟩,_⟩:=I.tuple h';rw[e] at e';cases e';rw[c] at c';revert c';decide
mutual
theorem iJ (I:Inv X pins σ H s):∀ {v:V}{d d':D},C3 d=true->C3 d'=true->BD X.K H v d->BD X.K H v d'->d=d'
 |_,_,_,_,_,.AN,.AN|_,_,_,_,_,.bl _,.bl _|_,_,_,_,_,.int _,.int _|_,_,_,_,_,.str _,.str _=>rfl
 |_,_,_,n1,n2,.tup h r,.tup h' r'=>by
  have e:=I.Fs (.of h) (.of h');subst e;rw[GW I (by rw[C3] at n1;exact n1) (by rw[C3] at n2;exact n2) r r']
 |_,_,_,n1,n2,.lst h r,.lst h' r'=>by
  have e:=I.GQ h h';subst e;rw[GW I (by rw[C3] at n1;exact n1) (by rw[C3] at n2;exact n2) r r']
 |_,_,_,_,_,.tup h _,.lst h' _=>(WD I h' (.of h)).elim
 |_,_,_,_,_,.lst h _,.tup h' _=>(WD I h (.of h')).elim
 |_,_,_,n1,_,.JL _ _,_|_,_,_,n1,_,.Qt _ _,_|_,_,_,n1,_,.Rr _ _,_|_,_,_,n1,_,.ins _ _ _,_=>by rw[C3] at n1;cases n1
 |_,_,_,_,n2,_,.JL _ _|_,_,_,_,n2,_,.Qt _ _|_,_,_,_,n2,_,.Rr _ _|_,_,_,_,n2,_,.ins _ _ _=>by rw[C3] at n2;cases n2
theorem GW (I:Inv X pins σ H s):∀ {v:List V}{d d':List D},LC d=true->LC d'=true->Ai X.K H v d->Ai X.K H v d'->d=d'
 |_,_,_,_,_,.nil,.nil=>rfl
 |_,_,_,n1,n2,.cons h r,.cons h' r'=>by
  rw[LC,zat] at n1 n2;rw[iJ I n1.1 n2.1 h h',GW I n1.2 n2.2 r r']
end
theorem zW {xs:List V}{aa:List Value}(r:Vals xs aa)(j:Nat)(h:j<aa.toArray.size):∃x,xs[j]?=some x/\RelV x aa.toArray[j]:=by
 have h':j<aa.length:=by simpa using h
 have hx:j<xs.length:=by rw[r.length];exact h'
 obtain⟨u,hu,ru⟩:=r.get (z4 hx);rw[z4 h'] at hu;refine⟨xs[j],z4 hx,?_⟩;have e:aa.toArray[j]=u:=by simpa using hu
 rw[e];exact ru
theorem WE {ds:List D}{j:Nat}{d:D}(h:ds[j]?=some d):ds.getD j .AN=d:=by rw[zar,h];rfl
theorem mB (I:Inv X pins σ H s)(n:Nat):∀(A:Around) (d e:D) (v w:V) (u1 u2:Value),Ru d<=n->C3 d=true->C3 e=true->A.units+n<cLine->BD X.K H v d->BD X.K H w e->RelV v u1->RelV w u2->SeqAt.EqAt A s u1 u2 (Bm d e)/\SeqAt.RcAt A s u1 u2 (Bm d e)/\SeqAt.RcNeAt A s u1 u2 (!Bm d e):=by
 induction n using Nat.strongRecOn with
 |ind n ih =>
  intro A d e v w u1 u2 hd a8 ar hu h1 h2 r1 r2;have ai:A.units<cLine:=by omega
  have el:∀ {xs ys:List V} {ds es:List D} {aa its':List Value},Vals xs aa->Vals ys its'->Ai X.K H xs ds->Ai X.K H ys es->LC ds=true->LC es=true->Rv ds<n->∀(j:Nat) (h1:j<aa.toArray.size) (h2:j<its'.toArray.size),SeqAt.EqAt A.in1 s aa.toArray[j] its'.toArray[j] (Bm (ds.getD j .AN) (es.getD j .AN)):=λ rv c6 r r' n1 n2 hn j h1 h2=>by
   obtain⟨x,hx,rx⟩:=zW rv j h1;obtain⟨y,hy,ry⟩:=zW c6 j h2;obtain⟨dx,ex,vo⟩:=r.pL hx;obtain⟨dy,ey,vp⟩:=r'.pL hy;rw[WE ex,WE ey];exact (ih _ hn A.in1 dx dy x y _ _ (WB (za9 ex)) (Rt (za9 ex) n1) (Rt (za9 ey) n2) (by show A.units+1+_<cLine;omega) vo vp rx ry).1
  cases h1 with
  |JL _ _|Qt _ _|Rr _ _|ins _ _ _=>simp[C3] at a8
  |AN =>
   cases r1;cases h2 with
   |JL _ _|Qt _ _|Rr _ _|ins _ _ _=>simp[C3] at ar
   |AN=>cases r2;simp only[Bm];exact⟨.same _,.none_none,.none_none⟩
   |bl b=>cases r2;simp only[Bm];exact⟨.none_bool _,.none_bool _,.none_bool _⟩
   |int b=>obtain⟨t,rfl⟩:=r2;simp only[Bm];exact⟨.none_int _ _,.none_int _ _,.none_int _ _⟩
   |str b=>obtain⟨t,rfl⟩:=r2;simp only[Bm];exact⟨.none_str _ _,.none_str _ _,.none_str _ _⟩
   |tup h r=>cases r2;simp only[Bm];obtain⟨_,_,p,_⟩:=I.tuple (.of h);exact⟨.none_tuple p ai,.none_tuple p ai,.none_tuple p ai⟩
   |lst h r=>cases r2;simp only[Bm];obtain⟨_,_,p,_⟩:=I.list h;exact⟨.none_list p.isList ai,.none_list p.isList ai,.none_list p.isList ai⟩
  |bl a =>
   cases r1;cases h2 with
   |JL _ _|Qt _ _|Rr _ _|ins _ _ _=>simp[C3] at ar
   |AN=>cases r2;simp only[Bm];exact⟨.bool_none _,.bool_none _,.bool_none _⟩
   |bl b=>cases r2;simp only[Bm];exact⟨.bool_bool _ _,.bool_bool _ _,.bool_bool _ _⟩
   |int b=>obtain⟨t,rfl⟩:=r2;simp only[Bm];exact⟨.bool_int _ _ _,.bool_int _ _ _,.bool_int _ _ _⟩
   |str b=>obtain⟨t,rfl⟩:=r2;simp only[Bm];exact⟨.bool_str _ _ _,.bool_str _ _ _,.bool_str _ _ _⟩
   |tup h r=>cases r2;simp only[Bm];obtain⟨_,_,p,_⟩:=I.tuple (.of h);exact⟨.bool_tuple _ p ai,.bool_tuple _ p ai,.bool_tuple _ p ai⟩
   |lst h r=>cases r2;simp only[Bm];obtain⟨_,_,p,_⟩:=I.list h;exact⟨.bool_list _ p.isList ai,.bool_list _ p.isList ai,.bool_list _ p.isList ai⟩
  |int a =>
   obtain⟨t',rfl⟩:=r1;cases h2 with
   |JL _ _|Qt _ _|Rr _ _|ins _ _ _=>simp[C3] at ar
   |AN=>cases r2;simp only[Bm];exact⟨.int_none _ _,.int_none _ _,.int_none _ _⟩
   |bl b=>cases r2;simp only[Bm];exact⟨.int_bool _ _ _,.int_bool _ _ _,.int_bool _ _ _⟩
   |int b=>obtain⟨t,rfl⟩:=r2;simp only[Bm];exact⟨.int_int _ _ _ _,.int_int _ _ _ _,.int_int _ _ _ _⟩
   |str b=>obtain⟨t,rfl⟩:=r2;simp only[Bm];exact⟨.int_str _ _ _ _,.int_str _ _ _ _,.int_str _ _ _ _⟩
   |tup h r=>cases r2;simp only[Bm];obtain⟨_,_,p,_⟩:=I.tuple (.of h);exact⟨.int_tuple _ _ p ai,.int_tuple _ _ p ai,.int_tuple _ _ p ai⟩
   |lst h r=>cases r2;simp only[Bm];obtain⟨_,_,p,_⟩:=I.list h;exact⟨.int_list _ _ p.isList ai,.int_list _ _ p.isList ai,.int_list _ _ p.isList ai⟩
  |str a =>
   obtain⟨t',rfl⟩:=r1;cases h2 with
   |JL _ _|Qt _ _|Rr _ _|ins _ _ _=>simp[C3] at ar
   |AN=>cases r2;simp only[Bm];exact⟨.str_none _ _,.str_none _ _,.str_none _ _⟩
   |bl b=>cases r2;simp only[Bm];exact⟨.str_bool _ _ _,.str_bool _ _ _,.str_bool _ _ _⟩
   |int b=>obtain⟨t,rfl⟩:=r2;simp only[Bm];exact⟨.str_int _ _ _ _,.str_int _ _ _ _,.str_int _ _ _ _⟩
   |str b=>obtain⟨t,rfl⟩:=r2;simp only[Bm];exact⟨.str_str _ _ _ _,.str_str _ _ _ _,.str_str _ _ _ _⟩
   |tup h r=>cases r2;simp only[Bm];obtain⟨_,_,p,_⟩:=I.tuple (.of h);exact⟨.str_tuple _ _ p ai,.str_tuple _ _ p ai,.str_tuple _ _ p ai⟩
   |lst h r=>cases r2;simp only[Bm];obtain⟨_,_,p,_⟩:=I.list h;exact⟨.str_list _ _ p.isList ai,.str_list _ _ p.isList ai,.str_list _ _ p.isList ai⟩
  | @tup a xs ds h r =>
   cases r1;obtain⟨aa,rv,p,_⟩:=I.tuple (.of h);cases h2 with
   |JL _ _|Qt _ _|Rr _ _|ins _ _ _=>simp[C3] at ar
   |AN=>cases r2;simp only[Bm];exact⟨.tuple_none p ai,.tuple_none p ai,.tuple_none p ai⟩
   |bl b=>cases r2;simp only[Bm];exact⟨.tuple_bool _ p ai,.tuple_bool _ p ai,.tuple_bool _ p ai⟩
   |int b=>obtain⟨t,rfl⟩:=r2;simp only[Bm];exact⟨.tuple_int _ _ p ai,.tuple_int _ _ p ai,.tuple_int _ _ p ai⟩
   |str b=>obtain⟨t,rfl⟩:=r2;simp only[Bm];exact⟨.tuple_str _ _ p ai,.tuple_str _ _ p ai,.tuple_str _ _ p ai⟩
   | @lst a2 oh es h' r'=>cases r2;simp only[Bm];obtain⟨_,_,p',_⟩:=I.list h';exact⟨.tuple_list p p'.isList ai,.tuple_list p p'.isList ai,.tuple_list p p'.isList ai⟩
   | @tup a2 oh es h' r' =>
    cases r2;obtain⟨its',c6,p',_⟩:=I.tuple (.of h');have z1:aa.toArray.size=ds.length:=by rw[za0,<-rv.length,r.length]
    have z2:its'.toArray.size=es.length:=by rw[za0,<-c6.length,r'.length]
    have hj:=el rv c6 r r' (by rw[C3] at a8;exact a8) (by rw[C3] at ar;exact ar) (by rw[Ru] at hd;omega);have q:=SeqAt.RcAt.tuples (A:=A) (e:=λ j=>Bm (ds.getD j .AN) (es.getD j .AN)) p p' ai hj;have q':=SeqAt.RcNeAt.tuples (A:=A) (e:=λ j=>Bm (ds.getD j .AN) (es.getD j .AN)) p p' ai hj;rw[z1,z2,ZT] at q q';simp only[Bm];by_cases ha:a=a2
    ·subst ha;have e':=I.Fs (.of h) (.of h');subst e';have e2:=GW I (by rw[C3] at a8;exact a8) (by rw[C3] at ar;exact ar) r r';subst e2;rw[CC] at q q' ⊢;exact⟨.same _,q,q'⟩
    ·exact⟨.of_refs ha q,q,q'⟩
  | @lst a xs ds h r =>
   cases r1;obtain⟨aa,rv,p,_⟩:=I.list h;cases h2 with
   |JL _ _|Qt _ _|Rr _ _|ins _ _ _=>simp[C3] at ar
   |AN=>cases r2;simp only[Bm];exact⟨.list_none p.isList ai,.list_none p.isList ai,.list_none p.isList ai⟩
   |bl b=>cases r2;simp only[Bm];exact⟨.list_bool _ p.isList ai,.list_bool _ p.isList ai,.list_bool _ p.isList ai⟩
   |int b=>obtain⟨t,rfl⟩:=r2;simp only[Bm];exact⟨.list_int _ _ p.isList ai,.list_int _ _ p.isList ai,.list_int _ _ p.isList ai⟩
   |str b=>obtain⟨t,rfl⟩:=r2;simp only[Bm];exact⟨.list_str _ _ p.isList ai,.list_str _ _ p.isList ai,.list_str _ _ p.isList ai⟩
   | @tup a2 oh es h' r'=>cases r2;simp only[Bm];obtain⟨_,_,p',_⟩:=I.tuple (.of h');exact⟨.list_tuple p.isList p' ai,.list_tuple p.isList p' ai,.list_tuple p.isList p' ai⟩
   | @lst a2 oh es h' r' =>
    cases r2;obtain⟨its',c6,p',_⟩:=I.list h';have z1:aa.toArray.size=ds.length:=by rw[za0,<-rv.length,r.length]
    have z2:its'.toArray.size=es.length:=by rw[za0,<-c6.length,r'.length]
    have hj:=el rv c6 r r' (by rw[C3] at a8;exact a8) (by rw[C3] at ar;exact ar) (by rw[Ru] at hd;omega);have qq:SeqAt.RcAt A s (.ref a) (.ref a2) (Cb ds es)/\SeqAt.RcNeAt A s (.ref a) (.ref a2) (!Cb ds es):=by
     by_cases hz:aa.toArray.size=its'.toArray.size
     ·have q:=SeqAt.RcAt.lists (A:=A) (e:=λ j=>Bm (ds.getD j .AN) (es.getD j .AN)) p.isList p'.isList hz ai hj;have q':=SeqAt.RcNeAt.lists (A:=A) (e:=λ j=>Bm (ds.getD j .AN) (es.getD j .AN)) p.isList p'.isList hz ai hj;rw[z1,Jm ds es (by rw[<-z1,<-z2,hz])] at q q';exact⟨q,q'⟩
     ·rw[WC (by rw[<-z1,<-z2];exact hz)];exact⟨.lists_lengths p.isList p'.isList (by simpa using hz) ai,.lists_lengths p.isList p'.isList (by simpa using hz) ai⟩
    obtain⟨q,q'⟩:=qq;simp only[Bm];by_cases ha:a=a2
    ·subst ha;have e':=I.GQ h h';subst e';have e2:=GW I (by rw[C3] at a8;exact a8) (by rw[C3] at ar;exact ar) r r';subst e2;rw[CC] at q q' ⊢;exact⟨.same _,q,q'⟩
    ·exact⟨.of_refs ha q,q,q'⟩
noncomputable def iK (K:zt)(A:Around)(neg:Bool):R2:=λ x y H Q=>∃d e,BD K H x d/\BD K H y e/\A.units+Ru d<cLine/\C3 d=true/\C3 e=true/\Q (.bl (if neg=true then !Bm d e else Bm d e)) H
theorem ZU:FW X (compareOp .Eq) (iK X.K X.A false):=by
 intro pins s σ H x y v u Q I rx ry h;obtain⟨d,e,hd,he,hu,n1,n2,q⟩:=h;exact (mB I (Ru d) X.A d e x y v u (za2 _) n1 n2 hu hd he rx ry).2.1 X.prog X.w X.xe _ ⟨.bl _,H,I,rfl,q⟩
theorem pM:FW X (compareOp .NotEq) (iK X.K X.A true):=by
 intro pins s σ H x y v u Q I rx ry h;obtain⟨d,e,hd,he,hu,n1,n2,q⟩:=h;exact (mB I (Ru d) X.A d e x y v u (za2 _) n1 n2 hu hd he rx ry).2.2 X.prog X.w X.xe _ ⟨.bl _,H,I,rfl,q⟩
end
inductive OT where
 |sh (d:D)|lst (ts:List OT)|tup (ts:List OT)|Bu (t:Bool) (ks:List D) (ts:List OT)|ins (x:Str) (ns:List Str) (ts:List OT)
inductive Ow where
 |rows (FZ:List (List D))
 |MI (p:Nat) (ds:List D)
 |tree (p:Option Nat) (t:OT)
inductive Cl where
 |val (d:D)|own (ds:List D)|ow (o:Ow)
noncomputable abbrev Ad:=List (Option Cl)
inductive M (α:Type) where
 |ok (a:α)|ex (c:Str)|bad
noncomputable def M.bind {α β:Type}(m:M α)(k:α->M β):M β:=match m with
 | .ok a=>k a
 | .ex c=>.ex c
 | .bad=>.bad
@[simp] theorem M.Aa {α β:Type}(a:α) (k:α->M β):(M.ok a).bind k=k a:=rfl
theorem XZ {α β:Type}{m:M α}{k:α->M β}{G:M β->Prop}{R:M α->Prop}(h:G (m.bind k))(hk:∀a,G (k a)->R (.ok a))(hb:G .bad->R .bad:=by exact λ h=>h)(hx:∀x,G (.ex x)->R (.ex x):=by exact λ _ h=>h):R m:=by
 cases m with
 |ok a=>exact hk a h
 |ex x=>exact hx x h
 |bad=>exact hb h
noncomputable def del (H:Hp)(P:Addr->Prop):Hp:=λ a=>open Classical in if P a then none else H a
theorem AD {H:Hp}{P:Addr->Prop}{a:Addr}(h:¬ P a):del H P a=H a:=by unfold del;rw[if_neg h]
theorem G0 {H:Hp}{P:Addr->Prop}{a:Addr}(h:P a):del H P a=none:=by unfold del;rw[if_pos h]
theorem Am {H:Hp}{P:Addr->Prop}{a:Addr}{o:HO}(h:del H P a=some o):¬ P a/\H a=some o:=by
 by_cases hp:P a
 ·rw[G0 hp] at h;cases h
 ·rw[AD hp] at h;exact⟨hp,h⟩
theorem Rd.B2 {H:Hp}{P:Addr->Prop}{a:Addr}{u:HO}(r:Rd (del H P) a u):Rd H a u:=r.elim (λ h=>.inl (Am h).2) λ⟨o,h⟩=>.inr ⟨o,(Am h).2⟩
theorem Ah.del {H H':Hp}{P:Addr->Prop}(e:Ah H H'):Ah (del H P) (del H' P):=λ b o h=>by
 obtain⟨h1,h2⟩:=Am h;rw[AD h1];exact e b o h2
theorem CQ {H:Hp}{P P':Addr->Prop}(h:∀a,P' a->P a):Ah (L2.del H P) (L2.del H P'):=λ b o e=>by
 obtain⟨h1,h2⟩:=Am e;rw[AD λ z=>h1 (h b z)];exact h2
theorem Es {H:Hp}{P:Addr->Prop}:Ah (L2.del H P) H:=λ b o e=>(Am e).2
def EW (H:Hp)(a:Addr):Prop:=∃o,H a=some o/\∀xs,o≠.tup xs/\∀z,o≠.Gr z (.tup xs)
theorem EW.same {H H':Hp}{a:Addr}(h:EW H a)(e:Ah H H'):EW H' a:=let ⟨o,q,r⟩:=h;⟨o,e a o q,r⟩
theorem EW.no {H:Hp}{a:Addr}(h:EW H a)(e:H a=none):False:=by
 obtain⟨o,q,r⟩:=h;rw[e] at q;cases q
theorem EW.lst {H:Hp}{a:Addr}{xs:List V}(h:H a=some (.lst xs)):EW H a:=⟨_,h,λ _=>⟨λ z=>(by cases z),λ _ z=>by cases z⟩⟩
mutual
inductive BX (K:zt) (H:Hp) (P:Addr->Prop):V->OT->List Addr->Prop
 |sh {v d}:BD K (del H P) v d->BX K H P v (.sh d) []
 |lst {p xs ts fp}:H p=some (.lst xs)->Ax K H P xs ts fp->BX K H P (.ref p) (.lst ts) (p::fp)
 |tup {p xs ts fp}:del H P p=some (.tup xs)->Ax K H P xs ts fp->BX K H P (.ref p) (.tup ts) fp
 |dK {p kvs ts fp}:H p=some (.dK kvs)->Ax K H P (kvs.map zbd) ts fp->BX K H P (.ref p) (.Bu false (kvs.map λ kv=>Cm kv.1) ts) (p::fp)
 |dT {p kvs ts fp}:H p=some (.dT kvs)->Ax K H P (kvs.map zbd) ts fp->BX K H P (.ref p) (.Bu true (kvs.map λ kv=>.tup (kv.1.map Cm)) ts) (p::fp)
 |ins {p C dx fs ts fp x}:zap K mainGlobals x=some (some (.ref C))->H p=some (.ins C dx fs)->Ax K H P (fs.map zbd) ts fp->BX K H P (.ref p) (.ins x (fs.map zan) ts) (p::fp)
inductive Ax (K:zt) (H:Hp) (P:Addr->Prop):List V->List OT->List Addr->Prop
 |nil:Ax K H P [] [] []
 |cons {v t fp vs ts fq}:BX K H P v t fp->Ax K H P vs ts fq->Ax K H P (v::vs) (t::ts) (fp++fq)
end
mutual
noncomputable def er:OT->D
 | .sh d=>d
 | .lst ts=>.lst (UI ts)
 | .tup ts=>.tup (UI ts)
 | .Bu t ks ts=>.Bu t ks (UI ts)
 | .ins x ns ts=>.ins x ns (UI ts)
noncomputable def UI:List OT->List D
 |[]=>[]
 |t::r=>er t::UI r
end
mutual
theorem BX.move {K:zt}{H H':Hp}{P P':Addr->Prop}(sm:Ah (del H P) (del H' P')):∀ {v:V}{t:OT}{fp:List Addr},(∀a∈fp,H' a=H a)->BX K H P v t fp->BX K H' P' v t fp
 |_,_,_,_,.sh h=>.sh (h.mono sm)
 |_,_,_,k,.lst h r=>.lst ((k _ zw).trans h) (Ax.move sm (λ a ha=>k a (zx _ ha)) r)
 |_,_,_,k,.tup h r=>.tup (sm _ _ h) (Ax.move sm k r)
 |_,_,_,k,.dK h r=>.dK ((k _ zw).trans h) (Ax.move sm (λ a ha=>k a (zx _ ha)) r)
 |_,_,_,k,.dT h r=>.dT ((k _ zw).trans h) (Ax.move sm (λ a ha=>k a (zx _ ha)) r)
 |_,_,_,k,.ins n h r=>.ins n ((k _ zw).trans h) (Ax.move sm (λ a ha=>k a (zx _ ha)) r)
theorem Ax.move {K:zt}{H H':Hp}{P P':Addr->Prop}(sm:Ah (del H P) (del H' P')):∀ {v:List V}{t:List OT}{fp:List Addr},(∀a∈fp,H' a=H a)->Ax K H P v t fp->Ax K H' P' v t fp
 |_,_,_,_,.nil=>.nil
 |_,_,_,k,.cons h r=>.cons (BX.move sm (λ a ha=>k a (zaq _ ha)) h) (Ax.move sm (λ a ha=>k a (z9 _ ha)) r)
end
mutual
theorem BX.Cn {K:zt}{H:Hp}{P:Addr->Prop}:∀ {v:V}{t:OT}{fp:List Addr},BX K H P v t fp->∀a∈fp,EW H a
 |_,_,_,.sh h,a,ha=>by cases ha
 |_,_,_,.lst h r,a,ha=>by
  rcases z8.mp ha with rfl|ha
  ·exact .lst h
  ·exact Ax.Cn r a ha
 |_,_,_,.tup h r,a,ha=>Ax.Cn r a ha
 |_,_,_,.dK h r,a,ha=>by
  rcases z8.mp ha with rfl|ha
  ·exact⟨_,h,λ _=>⟨λ z=>(by cases z),λ _ z=>by cases z⟩⟩
  ·exact Ax.Cn r a ha
 |_,_,_,.dT h r,a,ha=>by
  rcases z8.mp ha with rfl|ha
  ·exact⟨_,h,λ _=>⟨λ z=>(by cases z),λ _ z=>by cases z⟩⟩
  ·exact Ax.Cn r a ha
 |_,_,_,.ins n h r,a,ha=>by
  rcases z8.mp ha with rfl|ha
  ·exact⟨_,h,λ _=>⟨λ z=>(by cases z),λ _ z=>by cases z⟩⟩
  ·exact Ax.Cn r a ha
theorem Ax.Cn {K:zt}{H:Hp}{P:Addr->Prop}:∀ {v:List V}{t:List OT}{fp:List Addr},Ax K H P v t fp->∀a∈fp,EW H a
 |_,_,_,.nil,a,ha=>by cases ha
 |_,_,_,.cons h r,a,ha=>by
  rcases zab.mp ha with ha|ha
  ·exact BX.Cn h a ha
  ·exact Ax.Cn r a ha
end
mutual
theorem BX.C4 {K:zt}{H:Hp}{P P':Addr->Prop}:∀ {v:V}{t:OT}{fp ah:List Addr},BX K H P v t fp->BX K H P' v t ah->fp=ah
 |_,_,_,_,.sh _,.sh _=>rfl
 |_,_,_,_,.lst h r,.lst h' r'=>by
  rw[h] at h';cases h';rw[Ax.C4 r r']
 |_,_,_,_,.tup h r,.tup h' r'=>by
  have e:=(Am h).2.symm.trans (Am h').2;cases e;exact Ax.C4 r r'
 |_,_,_,_,.dK (kvs:=kvs) (ts:=ts) h r,x=>by
  generalize ht:OT.Bu false (kvs.map λ kv=>Cm kv.1) ts=t at x;cases x with
  |dK h' r' =>
   rw[h] at h';cases h';injection ht with _ _ e
   subst e;rw[Ax.C4 r r']
  |dT h' r'=>rw[h] at h';cases h'
  |_=>cases ht
 |_,_,_,_,.dT (kvs:=kvs) (ts:=ts) h r,x=>by
  generalize ht:OT.Bu true (kvs.map λ kv=>D.tup (kv.1.map Cm)) ts=t at x;cases x with
  |dT h' r' =>
   rw[h] at h';cases h';injection ht with _ _ e
   subst e;rw[Ax.C4 r r']
  |dK h' r'=>rw[h] at h';cases h'
  |_=>cases ht
 |_,_,_,_,.ins (fs:=fs) (ts:=ts) (x:=y) n h r,x=>by
  generalize ht:OT.ins y (fs.map zan) ts=t at x;cases x with
  |ins n' h' r' =>
   rw[h] at h';cases h';injection ht with _ _ e
   subst e;rw[Ax.C4 r r']
  |_=>cases ht
theorem Ax.C4 {K:zt}{H:Hp}{P P':Addr->Prop}:∀ {v:List V}{t:List OT}{fp ah:List Addr},Ax K H P v t fp->Ax K H P' v t ah->fp=ah
 |_,_,_,_,.nil,.nil=>rfl
 |_,_,_,_,.cons h r,.cons h' r'=>by rw[BX.C4 h h',Ax.C4 r r']
end
mutual
theorem BX.has {K:zt}{H:Hp}{P P0:Addr->Prop}(hs:∀a,P0 a->P a):∀ {v:V}{t:OT}{fp:List Addr},(∀a∈fp,¬ P0 a)->BX K H P v t fp->BD K (del H P0) v (er t)
 |_,_,_,_,.sh h=>by rw[er];exact h.mono (CQ hs)
 |_,_,_,k,.lst h r=>by rw[er];exact .lst (.of (show del H P0 _=_ by rw[AD (k _ zw)];exact h)) (Ax.has hs (λ a ha=>k a (zx _ ha)) r)
 |_,_,_,k,.tup h r=>by rw[er];exact .tup (CQ hs _ _ h) (Ax.has hs k r)
 |_,_,_,k,.dK h r=>by rw[er];exact .Qt (.inl (show del H P0 _=_ by rw[AD (k _ zw)];exact h)) (Ax.has hs (λ a ha=>k a (zx _ ha)) r)
 |_,_,_,k,.dT h r=>by rw[er];exact .Rr (.inl (show del H P0 _=_ by rw[AD (k _ zw)];exact h)) (Ax.has hs (λ a ha=>k a (zx _ ha)) r)
 |_,_,_,k,.ins n h r=>by rw[er];exact .ins n (show del H P0 _=_ by rw[AD (k _ zw)];exact h) (Ax.has hs (λ a ha=>k a (zx _ ha)) r)
theorem Ax.has {K:zt}{H:Hp}{P P0:Addr->Prop}(hs:∀a,P0 a->P a):∀ {v:List V}{t:List OT}{fp:List Addr},(∀a∈fp,¬ P0 a)->Ax K H P v t fp->Ai K (del H P0) v (UI t)
 |_,_,_,_,.nil=>by rw[UI];exact .nil
 |_,_,_,k,.cons h r=>by rw[UI];exact .cons (BX.has hs (λ a ha=>k a (zaq _ ha)) h) (Ax.has hs (λ a ha=>k a (z9 _ ha)) r)
end
inductive CS (K:zt) (H:Hp) (P:Addr->Prop):List Addr->List (List D)->Prop
 |nil:CS K H P [] []
 |cons {q:Addr} {xs:List V} {ds:List D} {ps:List Addr} {FZ:List (List D)}:H q=some (.lst xs)->Ai K (del H P) xs ds->CS K H P ps FZ->CS K H P (q::ps) (ds::FZ)
def CT (K:zt)(H:Hp)(P:Addr->Prop):Cl->V->List Addr->Prop
 | .own ds,v,fp=>∃p xs,v=.ref p/\fp=[p]/\H p=some (.lst xs)/\Ai K (del H P) xs ds
 | .ow (.rows FZ),v,fp=>∃p ps,v=.ref p/\fp=p::ps/\H p=some (.lst (ps.map V.ref))/\CS K H P ps FZ
 | .ow (.MI _ ds),v,fp=>∃p xs,v=.ref p/\fp=[p]/\H p=some (.lst xs)/\Ai K (del H P) xs ds
 | .ow (.tree _ t),v,fp=>BX K H P v t fp
 | .val _,_,_=>False
noncomputable def GX:Cl->Bool
 | .val _=>false
 |_=>true
theorem CS.move {K:zt}{H H':Hp}{P P':Addr->Prop}(sm:Ah (del H P) (del H' P')):∀ {ps:List Addr}{FZ:List (List D)},(∀a∈ps,H' a=H a)->CS K H P ps FZ->CS K H' P' ps FZ
 |_,_,_,.nil=>.nil
 |_,_,k,.cons h r t=>.cons ((k _ zw).trans h) (r.mono sm) (CS.move sm (λ a ha=>k a (zx _ ha)) t)
theorem CS.at {K:zt}{H:Hp}{P:Addr->Prop}:∀ {ps:List Addr}{FZ:List (List D)},CS K H P ps FZ->∀a∈ps,∃xs,H a=some (.lst xs)
 |_,_,.nil,a,h=>by cases h
 |_,_,.cons h r t,a,ha=>by
  rcases z8.mp ha with rfl|ha
  ·exact⟨_,h⟩
  ·exact t.at a ha
theorem T8:∀ {ps qs:List Addr},ps.map V.ref=qs.map V.ref->ps=qs
 |[],[],_=>rfl
 |[],_::_,h|_::_,[],h=>by cases h
 |p::ps,q::qs,h=>by
  rw[zy,zy] at h;injection h with h1 h2
  injection h1 with h1
  rw[h1,T8 h2]
theorem CT.move {K:zt}{H H':Hp}{P P':Addr->Prop}(sm:Ah (del H P) (del H' P')){c:Cl}{v:V}{fp:List Addr}(k:∀a∈fp,H' a=H a)(h:CT K H P c v fp):CT K H' P' c v fp:=by
 cases c with
 |val d=>exact h
 |own ds =>
  obtain⟨p,xs,rfl,rfl,h1,h2⟩:=h;exact⟨p,xs,rfl,rfl,(k p zw).trans h1,h2.mono sm⟩
 |ow o =>
  cases o with
  |rows FZ =>
   obtain⟨p,ps,rfl,rfl,h1,h2⟩:=h;exact⟨p,ps,rfl,rfl,(k p zw).trans h1,h2.move sm λ a ha=>k a (zx _ ha)⟩
  |MI p ds =>
   obtain⟨p,xs,rfl,rfl,h1,h2⟩:=h;exact⟨p,xs,rfl,rfl,(k p zw).trans h1,h2.mono sm⟩
  |tree p t=>exact BX.move sm k h
theorem CT.at {K:zt}{H:Hp}{P:Addr->Prop}{c:Cl}{v:V}{fp:List Addr}(h:CT K H P c v fp):∀a∈fp,∃o,H a=some o:=by
 cases c with
 |val d=>exact h.elim
 |own ds =>
  obtain⟨p,xs,rfl,rfl,h1,h2⟩:=h;exact λ a ha=>⟨.lst xs,by rw[z6.mp ha];exact h1⟩
 |ow o =>
  cases o with
  |rows FZ =>
   obtain⟨p,ps,rfl,rfl,h1,h2⟩:=h;intro a ha;rcases z8.mp ha with rfl|ha
   ·exact⟨_,h1⟩
   ·obtain⟨xs,q⟩:=h2.at a ha;exact⟨_,q⟩
  |MI p ds =>
   obtain⟨p,xs,rfl,rfl,h1,h2⟩:=h;exact λ a ha=>⟨.lst xs,by rw[z6.mp ha];exact h1⟩
  |tree p t =>
   intro a ha;obtain⟨o,q,_⟩:=BX.Cn h a ha;exact⟨o,q⟩
theorem CT.same {K:zt}{H H':Hp}{P:Addr->Prop}(e:Ah H H'){c:Cl}{v:V}{fp:List Addr}(h:CT K H P c v fp):CT K H' P c v fp:=
 h.move e.del λ a ha=>by obtain⟨xs,q⟩:=h.at a ha;rw[q];exact e _ _ q
theorem CT.C4 {K:zt}{H:Hp}{P P':Addr->Prop}{c:Cl}{v:V}{fp ah:List Addr}(h:CT K H P c v fp)(h':CT K H P' c v ah):fp=ah:=by
 cases c with
 |val d=>exact h.elim
 |own ds =>
  obtain⟨p,xs,rfl,rfl,h1,h2⟩:=h;obtain⟨p',dz,e,rfl,ls,f6⟩:=h';cases e;rfl
 |ow o =>
  cases o with
  |rows FZ =>
   obtain⟨p,ps,rfl,rfl,h1,h2⟩:=h;obtain⟨p',zb,e,rfl,ls,f6⟩:=h';cases e;rw[h1] at ls;injection ls with e
   injection e with e
   rw[T8 e]
  |MI p ds =>
   obtain⟨p,xs,rfl,rfl,h1,h2⟩:=h;obtain⟨p',dz,e,rfl,ls,f6⟩:=h';cases e;rfl
  |tree p t=>exact BX.C4 h h'
structure DJ where
 pr:Addr->Prop
 g:Nat->Addr
instance:CoeFun DJ (λ _=>Addr->Prop):=⟨DJ.pr⟩
instance:Coe DJ (Addr->Prop):=⟨DJ.pr⟩
noncomputable def Qu:Cl->Option Nat
 | .ow (.MI n _)=>some n
 | .ow (.tree (some n) _)=>some n
 |_=>none
structure Al (K:zt)(P0:DJ)(P:Addr->Prop)(H:Hp)(σ:St)(ρ:Ad):Prop where
 sub:∀a,P0 a->P a
 Cn:∀a,P a->EW H a
 val:∀(i:Nat) d,ρ[i]?=some (some (.val d))->∃v,σ[i]?=some (some v)/\BD K (del H P) v d
 ows:∀(i:Nat) c,ρ[i]?=some (some c)->GX c=true->∃v fp,σ[i]?=some (some v)/\CT K H P c v fp/\(∀a∈fp,P a/\¬ P0 a)/\fp.Nodup
 apart:∀(i j:Nat) c c' v v' fp ah,ρ[i]?=some (some c)->ρ[j]?=some (some c')->σ[i]?=some (some v)->σ[j]?=some (some v')->CT K H P c v fp->CT K H P c' v' ah->i≠j->∀a∈fp,a∉ah
 len:σ.length=ρ.length
 pin:∀(i:Nat) c n,ρ[i]?=some (some c)->Qu c=some n->σ[i]?=some (some (.ref (P0.g n)))
theorem Al.own {K:zt}{P0:DJ}{P:Addr->Prop}{H:Hp}{σ:St}{ρ:Ad}(E:Al K P0 P H σ ρ)(i:Nat)(ds:List D)(h:ρ[i]?=some (some (.own ds))):
 ∃p xs,σ[i]?=some (some (.ref p))/\H p=some (.lst xs)/\P p/\¬ P0 p/\Ai K (del H P) xs ds:=by
 obtain⟨v,fp,h1,⟨p,xs,rfl,rfl,h2,h3⟩,h4,_⟩:=E.ows i _ h rfl;exact⟨p,xs,h1,h2,(h4 p zw).1,(h4 p zw).2,h3⟩
theorem Al.ZV {K:zt}{P0:DJ}{P P':Addr->Prop}{H H':Hp}{σ:St}{ρ:Ad}(E:Al K P0 P H σ ρ)(sm:Ah (del H P) (del H' P')){i j:Nat}{c c':Cl}{v v':V}{fp ah:List Addr}
 (ki:∀v fp,σ[i]?=some (some v)->CT K H P c v fp->∀a∈fp,H' a=H a) (kj:∀v fp,σ[j]?=some (some v)->CT K H P c' v fp->∀a∈fp,H' a=H a)
 (hi:ρ[i]?=some (some c)) (hj:ρ[j]?=some (some c')) (si:σ[i]?=some (some v)) (sj:σ[j]?=some (some v')) (h:CT K H' P' c v fp) (h':CT K H' P' c' v' ah) (ac:i≠j):∀a∈fp,a∉ah:=by
 have key:∀(k:Nat) (d:Cl) (w:V) (fq:List Addr),ρ[k]?=some (some d)->σ[k]?=some (some w)->(∀v fp,σ[k]?=some (some v)->CT K H P d v fp->∀a∈fp,H' a=H a)->CT K H' P' d w fq->CT K H P d w fq:=λ k d w fq hk sk kk ho=>by
  have io:GX d=true:=by cases d<;>first|rfl|exact ho.elim
  obtain⟨w',b5,s2,o2,_⟩:=E.ows k d hk io;rw[sk] at s2;cases s2;have o3:=o2.move sm (kk _ _ sk o2);rw[ho.C4 o3];exact o2
 exact E.apart i j c c' v v' fp ah hi hj si sj (key i c v fp hi si ki h) (key j c' v' ah hj sj kj h') ac
theorem Al.same {K:zt}{P0:DJ}{P:Addr->Prop}{H H':Hp}{σ:St}{ρ:Ad}(E:Al K P0 P H σ ρ)(e:Ah H H'):Al K P0 P H' σ ρ:=
 ⟨E.sub,λ a h=>(E.Cn a h).same e,λ i d h=>let ⟨v,h1,h2⟩:=E.val i d h;⟨v,h1,h2.mono e.del⟩,
  λ i c h io=>let ⟨v,fp,h1,h2,h3,h4⟩:=E.ows i c h io;⟨v,fp,h1,h2.same e,h3,h4⟩,
  λ i j c c' v v' fp ah hi hj si sj h h' ac=>E.ZV e.del (λ v fp _ o a ha=>by obtain⟨xs,q⟩:=o.at a ha;rw[q];exact e _ _ q) (λ v fp _ o a ha=>by obtain⟨xs,q⟩:=o.at a ha;rw[q];exact e _ _ q) hi hj si sj h h' ac,E.len,E.pin⟩
def gV (K:zt)(WX:Str->Hp->Prop)(P:Addr->Prop)(H:Hp)(Q:VK):M D->Prop
 | .ok d=>∀v H',Ah H H'->BD K (del H' P) v d->Q v H'
 | .ex x=>∀H',Ah H H'->WX x H'
 | .bad=>False
def gA (K:zt)(WX:Str->Hp->Prop)(P:Addr->Prop)(H:Hp)(Q:List V->Hp->Prop):M (List D)->Prop
 | .ok d=>∀v H',Ah H H'->Ai K (del H' P) v d->Q v H'
 | .ex x=>∀H',Ah H H'->WX x H'
 | .bad=>False
def gT (WX:Str->Hp->Prop)(H:Hp)(Q:Bool->Hp->Prop):M Bool->Prop
 | .ok b=>∀H',Ah H H'->Q b H'
 | .ex x=>∀H',Ah H H'->WX x H'
 | .bad=>False
section
variable {K:zt}{WX:Str->Hp->Prop}{P:Addr->Prop}{H H':Hp}
theorem gV.same {Q:VK}{m:M D}(h:gV K WX P H Q m)(e:Ah H H'):gV K WX P H' Q m:=by
 cases m with
 |ok d=>exact λ v H2 q hv=>h v H2 (e.trans q) hv
 |ex x=>exact λ H2 q=>h H2 (e.trans q)
 |bad=>exact h
theorem gA.same {Q:List V->Hp->Prop}{m:M (List D)}(h:gA K WX P H Q m)(e:Ah H H'):gA K WX P H' Q m:=by
 cases m with
 |ok d=>exact λ v H2 q hv=>h v H2 (e.trans q) hv
 |ex x=>exact λ H2 q=>h H2 (e.trans q)
 |bad=>exact h
theorem gT.same {Q:Bool->Hp->Prop}{m:M Bool}(h:gT WX H Q m)(e:Ah H H'):gT WX H' Q m:=by
 cases m with
 |ok d|ex x=>exact λ H2 q=>h H2 (e.trans q)
 |bad=>exact h
end
def Lv (c:Bool)(P0:DJ)(P:Addr->Prop):Addr->Prop:=if c=true then P else P0.pr
def DE (X:Cx)(WX:Str->Hp->Prop)(c:Bool)(e:Expr)(f:Ad->M D):Prop:=
 ∃t,PE X e t/\∀P0 P σ H Q ρ,Al X.K P0 P H σ ρ->gV X.K WX (Lv c P0 P) H Q (f ρ)->t σ H Q
def DA (X:Cx)(WX:Str->Hp->Prop)(c:Bool)(es:List Expr)(f:Ad->M (List D)):Prop:=
 ∃t,PA X es t/\(∀P0 P σ H Q ρ,Al X.K P0 P H σ ρ->gA X.K WX (Lv c P0 P) H Q (f ρ)->t σ H Q)/\∀ρ ds,f ρ=.ok ds->ds.length=es.length
def DT (X:Cx)(WX:Str->Hp->Prop)(e:Expr)(f:Ad->M Bool):Prop:=
 ∃t,PT X e t/\∀P0 P σ H Q ρ,Al X.K P0 P H σ ρ->gT WX H Q (f ρ)->t σ H Q
def DW (X:Cx)(WX:Str->Hp->Prop)(e:Expr)(f:Ad->M Bool):Prop:=
 ∃t,PW X e t/\∀P0 P σ H Q ρ,Al X.K P0 P H σ ρ->gT WX H Q (f ρ)->t σ H Q
theorem DW.dt {X:Cx}{WX:Str->Hp->Prop}{e:Expr}{f:Ad->M Bool}(h:DW X WX e f):DT X WX e f:=let ⟨t,h1,h2⟩:=h;⟨t,h1.pt,h2⟩
section
variable {X:Cx}{WX:Str->Hp->Prop}{c:Bool}{P0:DJ}{P:Addr->Prop}{H:Hp}{σ:St}{ρ:Ad}
theorem Al.lv (E:Al X.K P0 P H σ ρ)(c:Bool):∀a,Lv c P0 P a->P a:=λ a h=>by
 cases c with
 |true=>exact h
 |false=>exact E.sub a h
theorem Al.uJ (E:Al X.K P0 P H σ ρ)(c:Bool):∀a,Lv c P0 P a->EW H a:=λ a h=>E.Cn a (E.lv c a h)
theorem Vb {e:Expr}{f:Ad->M D}(h:DE X WX true e f):DE X WX false e f:=by
 obtain⟨t,h1,h2⟩:=h;refine⟨t,h1,λ P0 P σ H Q ρ E g=>h2 P0 P σ H Q ρ E ?_⟩;cases e:f ρ with
 |ok d=>rw[e] at g;exact λ v H' s hv=>g v H' s (hv.mono (CQ E.sub))
 |ex x|bad=>rw[e] at g;exact g
noncomputable def uK:D->Bool
 | .tup _ | .lst _ | .JL _ | .Bu _ _ _ | .ins _ _ _=>false
 |_=>true
noncomputable def fl (m:M D):M D:=m.bind λ d=>if uK d=true then .ok d else .bad
noncomputable def rv (i:Nat)(ρ:Ad):M D:=match ρ[i]? with | some (some (.val d))=>.ok d | _=>.bad
noncomputable def ra (i:Nat)(ρ:Ad):M D:=match ρ[i]? with | some (some (.val d))=>.ok d | some (some (.own ds))=>.ok (.lst ds) | some (some (.ow (.rows FZ)))=>.ok (.lst (FZ.map D.lst)) | some (some (.ow (.MI _ ds)))=>.ok (.lst ds) | some (some (.ow (.tree _ t)))=>.ok (er t) | _=>.bad
theorem pN (i:Nat){x:Str}{pos:Pos}(h:PE X (.Name x pos) (UN i)):DE X WX true (.Name x pos) (rv i):=by
 refine⟨_,h,λ P0 P σ H Q ρ E g=>?_⟩;unfold rv at g;split at g
 ·rename_i d e;obtain⟨v,h1,h2⟩:=E.val i d e;exact⟨v,h1,g v H (Ah.refl H) h2⟩
 ·exact g.elim
theorem A3 {i j pos}:DE X WX c (.Constant (.int i) j pos) (λ _=>.ok (.int i)):=⟨_,nT,λ P0 P σ H Q ρ E g=>g _ H (Ah.refl H) (.int i)⟩
theorem Cd {b j pos}:DE X WX c (.Constant (.bool b) j pos) (λ _=>.ok (.bl b)):=⟨_,sX,λ P0 P σ H Q ρ E g=>g _ H (Ah.refl H) (.bl b)⟩
theorem Ct {j pos}:DE X WX c (.Constant .none j pos) (λ _=>.ok .AN):=⟨_,nU,λ P0 P σ H Q ρ E g=>g _ H (Ah.refl H) .AN⟩
def WG (K:zt)(WX:Str->Hp->Prop)(r:R2)(aH:D->D->M D):Prop:=
 ∀(P:Addr->Prop) (H:Hp) (x y:D) (v w:V) (Q:VK),(∀a,P a->EW H a)->BD K (del H P) v x->BD K (del H P) w y->gV K WX P H Q (aH x y)->r v w H Q
variable {a b:Expr}{f g:Ad->M D}{pos:Pos}
theorem T9 {ta tb:TE}{r:R2}{aH:D->D->M D}(ha:∀P0 P σ H Q ρ,Al X.K P0 P H σ ρ->gV X.K WX (Lv c P0 P) H Q (f ρ)->ta σ H Q)(hb:∀P0 P σ H Q ρ,Al X.K P0 P H σ ρ->gV X.K WX (Lv c P0 P) H Q (g ρ)->tb σ H Q)
 (hr:WG X.K WX r aH) {Q:VK} (E:Al X.K P0 P H σ ρ) (h:gV X.K WX (Lv c P0 P) H Q ((f ρ).bind λ x=>(g ρ).bind λ y=>aH x y)):sC r ta tb σ H Q:=by
 refine ha P0 P σ H _ ρ E ?_;cases e:f ρ with
 |bad|ex x=>rw[e] at h;exact h
 |ok x =>
  rw[e] at h;intro v H1 s1 hv;refine hb P0 P σ H1 _ ρ (E.same s1) ?_;cases e2:g ρ with
  |bad=>rw[e2] at h;exact h
  |ex y=>rw[e2] at h;exact gV.same (m:=.ex y) h s1
  |ok y =>
   rw[e2] at h;intro w H2 s2 hw;exact hr _ H2 x y v w Q (λ a q=>((E.same s1).same s2).uJ c a q) (hv.mono s2.del) hw ((gV.same h s1).same s2)
theorem Qv {op:Operator}{r:R2}{aH:D->D->M D}(ho:FW X (binaryOp op) r)(hr:WG X.K WX r aH)(ha:DE X WX c a f)(hb:DE X WX c b g):DE X WX c (.BinOp a op b pos) (λ ρ=>(f ρ).bind λ x=>(g ρ).bind λ y=>aH x y):=by
 obtain⟨ta,a1,a2⟩:=ha;obtain⟨tb,b1,b2⟩:=hb;exact⟨_,Zp ho a1 b1,λ P0 P σ H Q ρ E h=>T9 a2 b2 hr E h⟩
theorem Vc {op:CmpOp}{r:R2}{aH:D->D->M D}(ho:FW X (compareOp op) r)(hr:WG X.K WX r aH)(ha:DE X WX c a f)(hb:DE X WX c b g)(hm:behindInMarks op b=false):DE X WX c (.Compare a [op] [b] pos) (λ ρ=>(f ρ).bind λ x=>(g ρ).bind λ y=>aH x y):=by
 obtain⟨ta,a1,a2⟩:=ha;obtain⟨tb,b1,b2⟩:=hb;exact⟨_,gF ho a1 b1 hm,λ P0 P σ H Q ρ E h=>T9 a2 b2 hr E h⟩
theorem uL {r:R2}{aH:D->D->M D}(ho:gQ X r)(hr:WG X.K WX r aH)(ha:DE X WX c a f)(hb:DE X WX c b g)(hs:Rj b):DE X WX c (.Subscript a b pos) (λ ρ=>(f ρ).bind λ x=>(g ρ).bind λ y=>aH x y):=by
 obtain⟨ta,a1,a2⟩:=ha;obtain⟨tb,b1,b2⟩:=hb;exact⟨_,tX ho a1 b1 hs,λ P0 P σ H Q ρ E h=>T9 a2 b2 hr E h⟩
noncomputable def Bg (k:Int->Int->M D)(x y:D):M D:=match x,y with | .int i,.int j=>k i j | _,_=>.bad
theorem BD.int_inv {K:zt}{H:Hp}{v:V}{i:Int}(h:BD K H v (.int i)):v=.int i:=by cases h;rfl
theorem BD.NW {K:zt}{H:Hp}{v:V}{i:Bool}(h:BD K H v (.bl i)):v=.bl i:=by cases h;rfl
theorem Rw {C:Int->Int->Prop}{gv:Int->Int->V}{gd:Int->Int->D}[∀i j,Decidable (C i j)](hg:∀i j K H,BD K H (gv i j) (gd i j)):WG X.K WX (rI C gv) (Bg λ i j=>if C i j then .ok (gd i j) else .bad):=by
 intro P H x y v w Q ht hx hy h;unfold Bg at h;split at h
 ·rename_i i j;rw[hx.int_inv,hy.int_inv];dsimp only at h;by_cases hc:C i j
  ·rw[if_pos hc] at h;exact⟨i,j,rfl,rfl,hc,h _ H (Ah.refl H) (hg i j _ _)⟩
  ·rw[if_neg hc] at h;exact h.elim
 ·exact h.elim
theorem N1 {gv:Int->Int->V}{gd:Int->Int->D}(hg:∀i j K H,BD K H (gv i j) (gd i j)):WG X.K WX (Z8 gv) (Bg λ i j=>.ok (gd i j)):=by
 intro P H x y v w Q ht hx hy h;unfold Bg at h;split at h
 ·rename_i i j;rw[hx.int_inv,hy.int_inv];exact⟨i,j,rfl,rfl,h _ H (Ah.refl H) (hg i j _ _)⟩
 ·exact h.elim
instance (i j:Int):Decidable (Zq i j):=by unfold Zq;infer_instance
instance (i j:Int):Decidable (gD i j):=by unfold gD;infer_instance
instance (i j:Int):Decidable (Zr i j):=by unfold Zr;infer_instance
noncomputable def pO:=Bg λ i j=>.ok (.int (i+j))
noncomputable def uM:=Bg λ i j=>.ok (.int (i-j))
noncomputable def G1:=Bg λ i j=>if 0<j then .ok (.int (i%j)) else .bad
noncomputable def Fu:=Bg λ i j=>if Zq i j then .ok (.int (i / j)) else .bad
noncomputable def Y0:=Bg λ i j=>if gD i j then .ok (.int (i^j.toNat)) else .bad
noncomputable def zX:=Bg λ i j=>.ok (.bl (decide (i<j)))
noncomputable def dLe:=Bg λ i j=>.ok (.bl (decide (i<=j)))
noncomputable def zY:=Bg λ i j=>.ok (.bl (decide (j<i)))
noncomputable def dGe:=Bg λ i j=>.ok (.bl (decide (j<=i)))
theorem C5 (ha:DE X WX c a f)(hb:DE X WX c b g):DE X WX c (.BinOp a .Add b pos) (λ ρ=>(f ρ).bind λ x=>(g ρ).bind λ y=>pO x y):=Qv oK (N1 λ _ _ _ _=>.int _) ha hb
theorem pQ (ha:DE X WX c a f)(hb:DE X WX c b g):DE X WX c (.BinOp a .Sub b pos) (λ ρ=>(f ρ).bind λ x=>(g ρ).bind λ y=>uM x y):=Qv oM (N1 λ _ _ _ _=>.int _) ha hb
theorem BF (ha:DE X WX c a f)(hb:DE X WX c b g):DE X WX c (.BinOp a .Mod b pos) (λ ρ=>(f ρ).bind λ x=>(g ρ).bind λ y=>G1 x y):=Qv oN (Rw λ _ _ _ _=>.int _) ha hb
theorem Cr (ha:DE X WX c a f)(hb:DE X WX c b g):DE X WX c (.BinOp a .FloorDiv b pos) (λ ρ=>(f ρ).bind λ x=>(g ρ).bind λ y=>Fu x y):=Qv gE (Rw λ _ _ _ _=>.int _) ha hb
theorem ZW (ha:DE X WX c a f)(hb:DE X WX c b g):DE X WX c (.BinOp a .Pow b pos) (λ ρ=>(f ρ).bind λ x=>(g ρ).bind λ y=>Y0 x y):=Qv oO (Rw λ _ _ _ _=>.int _) ha hb
noncomputable def fP (n:Nat)(x y:D):M D:=if Ru x<=n/\C3 x=true/\C3 y=true then .ok (.bl (Bm x y)) else .bad
noncomputable def Y1 (n:Nat)(x y:D):M D:=if Ru x<=n/\C3 x=true/\C3 y=true then .ok (.bl (!Bm x y)) else .bad
theorem ZX {n:Nat}(hu:X.A.units+n<cLine):WG X.K WX (iK X.K X.A false) (fP n):=by
 intro P H x y v w Q ht hx hy h;unfold fP at h;by_cases hd:Ru x<=n/\C3 x=true/\C3 y=true
 ·rw[if_pos hd] at h;exact⟨x,y,hx.mono Es,hy.mono Es,by omega,hd.2.1,hd.2.2,h _ H (Ah.refl H) (.bl _)⟩
 ·rw[if_neg hd] at h;exact h.elim
theorem pR {n:Nat}(hu:X.A.units+n<cLine):WG X.K WX (iK X.K X.A true) (Y1 n):=by
 intro P H x y v w Q ht hx hy h;unfold Y1 at h;by_cases hd:Ru x<=n/\C3 x=true/\C3 y=true
 ·rw[if_pos hd] at h;exact⟨x,y,hx.mono Es,hy.mono Es,by omega,hd.2.1,hd.2.2,h _ H (Ah.refl H) (.bl _)⟩
 ·rw[if_neg hd] at h;exact h.elim
theorem WH {n:Nat}(hu:X.A.units+n<cLine)(ha:DE X WX c a f)(hb:DE X WX c b g):DE X WX c (.Compare a [.Eq] [b] pos) (λ ρ=>(f ρ).bind λ x=>(g ρ).bind λ y=>fP n x y):=Vc ZU (ZX hu) ha hb (Jf _)
noncomputable def AV:D->Bool
 | .AN=>true
 |_=>false
theorem BD.yV {K:zt}{H:Hp}{v:V}{d:D}(h:BD K H v d):decide (v=.AN)=AV d:=by
 cases h<;>simp[AV]
theorem ZY {j pos'}(ha:DE X WX c a f):DE X WX c (.Compare a [.Is] [.Constant .none j pos'] pos) (λ ρ=>(f ρ).bind λ x=>.ok (.bl (AV x))):=by
 obtain⟨ta,a1,a2⟩:=ha;refine⟨_,nV (Zh a1),λ P0 P σ H Q ρ E h=>?_⟩;dsimp only at h;refine a2 P0 P σ H _ ρ E ?_;cases e:f ρ with
 |bad|ex x=>rw[e] at h;exact h
 |ok x=>rw[e] at h;exact λ v H1 s1 hv=>h _ H1 s1 (by rw[hv.yV];exact .bl _)
noncomputable def sE (x y:D):M D:=match x,y with
 | .tup ds,.int i| .lst ds,.int i=>(match Wt ds i with|some d=>.ok d|none=>.bad)
 |_,_=>.bad
theorem Ai.Wt {K:zt}{H:Hp}{xs:List V}{ds:List D}{i:Int}{d:D}(h:Ai K H xs ds)(e:L2.Wt ds i=some d):∃v,L2.Wt xs i=some v/\BD K H v d:=by
 unfold L2.Wt at e ⊢;rw[<-h.length] at e;cases q:fO xs.length i with
 |none=>rw[q] at e;cases e
 |some j =>
  rw[q] at e;exact h.get e
theorem Dc.B2 {K:zt}{H:Hp}{P:Addr->Prop}{a:Addr}{xs:List V}(h:Dc K (del H P) a xs):Dc K H a xs:=Es.seq h
theorem EY.B2 {K:zt}{H:Hp}{P:Addr->Prop}{a:Addr}{xs:List V}(h:EY K (del H P) a xs):EY K H a xs:=Es.yU h
theorem GY:WG X.K WX (λ x y H Q=>oW X.K x y H Q\/oX X.K x y H Q) sE:=by
 intro P H x y v w Q ht hx hy h;unfold sE at h;split at h
 ·rename_i ds i;split at h
  ·rename_i d e;cases hy;cases hx with
   |tup hs hl =>
    obtain⟨u,h1,h2⟩:=hl.Wt e;exact .inr ⟨_,_,i,u,rfl,rfl,EY.of (Am hs).2,h1,h _ H (Ah.refl H) h2⟩
  ·exact h.elim
 ·rename_i ds i;split at h
  ·rename_i d e;cases hy;cases hx with
   |lst hs hl =>
    obtain⟨u,h1,h2⟩:=hl.Wt e;exact .inl ⟨_,_,i,u,rfl,rfl,hs.B2,h1,h _ H (Ah.refl H) h2⟩
  ·exact h.elim
 ·exact h.elim
theorem A6:DA X WX c [] (λ _=>.ok []):=⟨_,CP,λ P0 P σ H Q ρ E h=>h [] H (Ah.refl H) .nil,λ ρ ds h=>by cases h;rfl⟩
theorem A1 {e:Expr}{es:List Expr}{f:Ad->M D}{fs:Ad->M (List D)}(he:DE X WX c e f)(hr:DA X WX c es fs)(hs:starEach (e::es) X.env=(false,eval e X.env)::starEach es X.env:=by rfl):
 DA X WX c (e::es) (λ ρ=>(f ρ).bind λ d=>(fs ρ).bind λ ds=>.ok (d::ds)):=by
 obtain⟨te,e1,e2⟩:=he;obtain⟨tr,r1,r2,r3⟩:=hr;refine⟨_,BC e1 r1 hs,λ P0 P σ H Q ρ E h=>?_,λ ρ ds h=>?_⟩
 rotate_left
 ·dsimp only at h;cases q:f ρ with
  |bad|ex x=>rw[q] at h;cases h
  |ok x =>
   rw[q] at h;cases q2:fs ρ with
   |bad|ex x=>rw[q2] at h;cases h
   |ok xs =>
    rw[q2] at h;cases h;rw[z5,z5,r3 ρ xs q2]
 dsimp only at h;refine e2 P0 P σ H _ ρ E ?_;cases q:f ρ with
 |bad|ex x=>rw[q] at h;exact h
 |ok x =>
  rw[q] at h;intro v H1 s1 hv;refine r2 P0 P σ H1 _ ρ (E.same s1) ?_;cases q2:fs ρ with
  |bad=>rw[q2] at h;exact h
  |ex y=>rw[q2] at h;exact gA.same (m:=.ex y) h s1
  |ok ds =>
   rw[q2] at h;exact λ vs H2 s2 aB=>h _ H2 (s1.trans s2) (.cons (hv.mono s2.del) aB)
theorem JW {H:Hp}{P:Addr->Prop}{p:Addr}{o:HO}(hn:H p=none)(ht:∀a,P a->EW H a):del (upd H p o) P p=some o:=by
 rw[AD λ z=>(ht p z).no hn];exact An
theorem AF {es:List Expr}{fs:Ad->M (List D)}{x1}(ha:DA X WX c es fs)(hz:es.length<=1000:=by decide):DE X WX c (.Tuple es x1 pos) (λ ρ=>(fs ρ).bind λ ds=>if ds.length<=1000 then .ok (.tup ds) else .bad):=by
 obtain⟨ta,a1,a2,a3⟩:=ha;refine⟨_,ZA a1,λ P0 P σ H Q ρ E h=>?_⟩;dsimp only at h;refine a2 P0 P σ H _ ρ E ?_;cases q:fs ρ with
 |bad|ex y=>rw[q] at h;exact h
 |ok ds =>
  rw[q] at h;simp only[M.Aa] at h;by_cases hd:ds.length<=1000
  ·rw[if_pos hd] at h;intro vs H1 s1 aB;refine⟨zbk (AH (by rw[aB.length];exact hd)),λ p hp=>h _ _ (s1.trans (AM hp _)) (.tup (JW hp λ a q=>(E.same s1).uJ c a q) (aB.mono (AM hp _).del))⟩
  ·rw[if_neg hd] at h;exact h.elim
theorem Fe {es:List Expr}{fs:Ad->M (List D)}(ha:DA X WX c es fs):DE X WX c (.List es pos) (λ ρ=>(fs ρ).bind λ ds=>if ds.length<=1000 then .ok (.lst ds) else .bad):=by
 obtain⟨ta,a1,a2,a3⟩:=ha;refine⟨_,V0 a1,λ P0 P σ H Q ρ E h=>?_⟩;dsimp only at h;refine a2 P0 P σ H _ ρ E ?_;cases q:fs ρ with
 |bad|ex y=>rw[q] at h;exact h
 |ok ds =>
  rw[q] at h;simp only[M.Aa] at h;by_cases hd:ds.length<=1000
  ·rw[if_pos hd] at h;intro vs H1 s1 aB;refine⟨zbk (AH (by rw[aB.length];exact hd)),λ p hp=>h _ _ (s1.trans (AM hp _)) (.lst (.of (JW hp λ a q=>(E.same s1).uJ c a q)) (aB.mono (AM hp _).del))⟩
  ·rw[if_neg hd] at h;exact h.elim
end
noncomputable def PQ (d:D):M Bool:=match d with | .bl b=>.ok b | _=>.bad
section
variable {X:Cx}{WX:Str->Hp->Prop}{c:Bool}{P0:DJ}{P:Addr->Prop}{H:Hp}{σ:St}{ρ:Ad}{a b e:Expr}{f g:Ad->M D}{ft gt:Ad->M Bool}{pos:Pos}
theorem mC {WX:Str->Hp->Prop}{P:Addr->Prop}{K:zt}{H:Hp}{Q:Bool->Hp->Prop}{m:M D}(h:gT WX H Q (m.bind PQ)):gV K WX P H (λ x H'=>∃k,x=.bl k/\Q k H') m:=by
 cases m with
 |bad|ex x=>exact h
 |ok d =>
  intro v H' s hv;simp only[M.Aa] at h;unfold PQ at h;split at h
  ·rename_i b;exact⟨b,hv.NW,h H' s⟩
  ·exact h.elim
theorem G2 {op:CmpOp}{r:R2}{aH:D->D->M D}(ho:FW X (compareOp op) r)(hr:WG X.K WX r aH)(ha:DE X WX c a f)(hb:DE X WX c b g)(hm:behindInMarks op b=false):DT X WX (.Compare a [op] [b] pos) (λ ρ=>((f ρ).bind λ x=>(g ρ).bind λ y=>aH x y).bind PQ):=by
 obtain⟨ta,a1,a2⟩:=ha;obtain⟨tb,b1,b2⟩:=hb;exact⟨_,gH ho a1 b1 hm,λ P0 P σ H Q ρ E h=>T9 a2 b2 hr E (mC h)⟩
theorem uN (ha:DE X WX c a f)(hb:DE X WX c b g):DT X WX (.Compare a [.Lt] [b] pos) (λ ρ=>((f ρ).bind λ x=>(g ρ).bind λ y=>zX x y).bind PQ):=G2 Zs (N1 λ _ _ _ _=>.bl _) ha hb (Jf _)
theorem uO (ha:DE X WX c a f)(hb:DE X WX c b g):DT X WX (.Compare a [.Gt] [b] pos) (λ ρ=>((f ρ).bind λ x=>(g ρ).bind λ y=>zY x y).bind PQ):=G2 tP (N1 λ _ _ _ _=>.bl _) ha hb (Jf _)
theorem JX {n:Nat}(hu:X.A.units+n<cLine)(ha:DE X WX c a f)(hb:DE X WX c b g):DT X WX (.Compare a [.Eq] [b] pos) (λ ρ=>((f ρ).bind λ x=>(g ρ).bind λ y=>fP n x y).bind PQ):=G2 ZU (ZX hu) ha hb (Jf _)
theorem Fv {n:Nat}(hu:X.A.units+n<cLine)(ha:DE X WX c a f)(hb:DE X WX c b g):DT X WX (.Compare a [.NotEq] [b] pos) (λ ρ=>((f ρ).bind λ x=>(g ρ).bind λ y=>Y1 n x y).bind PQ):=G2 pM (pR hu) ha hb (Jf _)
theorem De {j pos'}(ha:DE X WX c a f):DT X WX (.Compare a [.Is] [.Constant .none j pos'] pos) (λ ρ=>(f ρ).bind λ x=>.ok (AV x)):=by
 obtain⟨ta,a1,a2⟩:=ha;refine⟨_,Zi (Zh a1),λ P0 P σ H Q ρ E h=>?_⟩;dsimp only at h;refine a2 P0 P σ H _ ρ E ?_;cases e:f ρ with
 |bad|ex x=>rw[e] at h;exact h
 |ok x=>rw[e] at h;exact λ v H1 s1 hv=>⟨_,rfl,by rw[hv.yV];exact h H1 s1⟩
theorem HY {j pos'}(ha:DE X WX c a f):DT X WX (.Compare a [.IsNot] [.Constant .none j pos'] pos) (λ ρ=>(f ρ).bind λ x=>.ok (!AV x)):=by
 obtain⟨ta,a1,a2⟩:=ha;refine⟨_,Zi (fX a1),λ P0 P σ H Q ρ E h=>?_⟩;dsimp only at h;refine a2 P0 P σ H _ ρ E ?_;cases e:f ρ with
 |bad|ex x=>rw[e] at h;exact h
 |ok x=>rw[e] at h;exact λ v H1 s1 hv=>⟨_,rfl,by rw[hv.yV];exact h H1 s1⟩
theorem Bo (ha:DT X WX a ft):DT X WX (.UnaryOp .Not a pos) (λ ρ=>(ft ρ).bind λ b=>.ok (!b)):=by
 obtain⟨ta,a1,a2⟩:=ha;refine⟨_,nW a1,λ P0 P σ H Q ρ E h=>?_⟩;dsimp only at h;refine a2 P0 P σ H _ ρ E ?_;cases e:ft ρ with
 |bad|ex x=>rw[e] at h;exact h
 |ok x=>rw[e] at h;exact λ H1 s1=>h H1 s1
theorem G3 (ha:DT X WX a ft):DW X WX (.BoolOp .And [a] pos) ft:=let ⟨ta,a1,a2⟩:=ha;⟨_,pw_and1 a1,a2⟩
theorem C1 (ha:DT X WX a ft):DW X WX (.BoolOp .Or [a] pos) ft:=let ⟨ta,a1,a2⟩:=ha;⟨_,pw_or1 a1,a2⟩
theorem GZ {rest:List Expr}(ha:DT X WX a ft)(hb:DW X WX (.BoolOp .And (b::rest) pos) gt):DW X WX (.BoolOp .And (a::b::rest) pos) (λ ρ=>(ft ρ).bind λ k=>if k=true then gt ρ else .ok false):=by
 obtain⟨ta,a1,a2⟩:=ha;obtain⟨tb,b1,b2⟩:=hb;refine⟨_,pw_and a1 b1,λ P0 P σ H Q ρ E h=>?_⟩;dsimp only at h;refine a2 P0 P σ H _ ρ E ?_;cases e:ft ρ with
 |bad|ex x=>rw[e] at h;exact h
 |ok k =>
  rw[e] at h;intro H1 s1;cases k with
  |true =>
   simp only[M.Aa,if_true] at h ⊢;exact b2 P0 P σ H1 _ ρ (E.same s1) (h.same s1)
  |false =>
   simp only[M.Aa,zag,if_false] at h ⊢;exact h H1 s1
theorem Cp {rest:List Expr}(ha:DT X WX a ft)(hb:DW X WX (.BoolOp .Or (b::rest) pos) gt):DW X WX (.BoolOp .Or (a::b::rest) pos) (λ ρ=>(ft ρ).bind λ k=>if k=true then .ok true else gt ρ):=by
 obtain⟨ta,a1,a2⟩:=ha;obtain⟨tb,b1,b2⟩:=hb;refine⟨_,pw_or a1 b1,λ P0 P σ H Q ρ E h=>?_⟩;dsimp only at h;refine a2 P0 P σ H _ ρ E ?_;cases e:ft ρ with
 |bad|ex x=>rw[e] at h;exact h
 |ok k =>
  rw[e] at h;intro H1 s1;cases k with
  |true =>
   simp only[M.Aa,if_true] at h ⊢;exact h H1 s1
  |false =>
   simp only[M.Aa,zag,if_false] at h ⊢;exact b2 P0 P σ H1 _ ρ (E.same s1) (h.same s1)
theorem Rx {op}(ha:DE X WX c a f):DE X WX c (.BoolOp op [a] pos) f:=let ⟨ta,a1,a2⟩:=ha;⟨_,nX a1,a2⟩
theorem Ry {rest:List Expr}(ha:DE X WX c a f)(hb:DE X WX c (.BoolOp .And (b::rest) pos) g):DE X WX c (.BoolOp .And (a::b::rest) pos) (λ ρ=>((f ρ).bind PQ).bind λ k=>if k=true then g ρ else .ok (.bl false)):=by
 obtain⟨ta,a1,a2⟩:=ha;obtain⟨tb,b1,b2⟩:=hb;refine⟨_,nY a1 b1,λ P0 P σ H Q ρ E h=>?_⟩;dsimp only at h;refine a2 P0 P σ H _ ρ E ?_;cases e:f ρ with
 |bad|ex x=>rw[e] at h;exact h
 |ok d =>
  rw[e] at h;simp only[M.Aa] at h;unfold PQ at h;split at h
  ·rename_i k;intro v H1 s1 hv;refine⟨k,hv.NW,?_⟩;cases k with
   |true =>
    simp only[M.Aa,if_true] at h ⊢;exact b2 P0 P σ H1 _ ρ (E.same s1) (h.same s1)
   |false =>
    simp only[M.Aa,zag,if_false] at h ⊢;exact h _ H1 s1 (.bl _)
  ·exact h.elim
theorem uP {rest:List Expr}(ha:DE X WX c a f)(hb:DE X WX c (.BoolOp .Or (b::rest) pos) g):DE X WX c (.BoolOp .Or (a::b::rest) pos) (λ ρ=>((f ρ).bind PQ).bind λ k=>if k=true then .ok (.bl true) else g ρ):=by
 obtain⟨ta,a1,a2⟩:=ha;obtain⟨tb,b1,b2⟩:=hb;refine⟨_,tE a1 b1,λ P0 P σ H Q ρ E h=>?_⟩;dsimp only at h;refine a2 P0 P σ H _ ρ E ?_;cases e:f ρ with
 |bad|ex x=>rw[e] at h;exact h
 |ok d =>
  rw[e] at h;simp only[M.Aa] at h;unfold PQ at h;split at h
  ·rename_i k;intro v H1 s1 hv;refine⟨k,hv.NW,?_⟩;cases k with
   |true =>
    simp only[M.Aa,if_true] at h ⊢;exact h _ H1 s1 (.bl _)
   |false =>
    simp only[M.Aa,zag,if_false] at h ⊢;exact b2 P0 P σ H1 _ ρ (E.same s1) (h.same s1)
  ·exact h.elim
theorem pS (ha:DE X WX c a f):DE X WX c (.UnaryOp .Not a pos) (λ ρ=>((f ρ).bind PQ).bind λ k=>.ok (.bl (!k))):=by
 obtain⟨ta,a1,a2⟩:=ha;refine⟨_,nZ a1,λ P0 P σ H Q ρ E h=>?_⟩;dsimp only at h;refine a2 P0 P σ H _ ρ E ?_;cases e:f ρ with
 |bad|ex x=>rw[e] at h;exact h
 |ok d =>
  rw[e] at h;simp only[M.Aa] at h;unfold PQ at h;split at h
  ·rename_i k;exact λ v H1 s1 hv=>⟨k,hv.NW,h _ H1 s1 (.bl _)⟩
  ·exact h.elim
theorem yW (ha:DE X WX c a f):DE X WX c (.UnaryOp .USub a pos) (λ ρ=>(f ρ).bind λ d=>match d with | .int i=>.ok (.int (-i)) | _=>.bad):=by
 obtain⟨ta,a1,a2⟩:=ha;refine⟨_,tN oP a1,λ P0 P σ H Q ρ E h=>?_⟩;dsimp only at h;refine a2 P0 P σ H _ ρ E ?_;cases e:f ρ with
 |bad|ex x=>rw[e] at h;exact h
 |ok d =>
  rw[e] at h;simp only[M.Aa] at h;split at h
  ·rename_i i;exact λ v H1 s1 hv=>⟨i,hv.int_inv,h _ H1 s1 (.int _)⟩
  ·exact h.elim
theorem Y2 {d:Expr}{h:Ad->M D}{op be:CmpOp}{p q:Int->Int->Bool}(ho:FW X (compareOp op) (Z8 λ i j=>.bl (p i j)))(aF:FW X (compareOp be) (Z8 λ i j=>.bl (q i j)))(ha:DE X WX c a f)(hb:DE X WX c b g)(hd:DE X WX c d h)
 (hm:lastMarks [op,be] [b,d]=false:=by with_unfolding_all rfl):DE X WX c (.Compare a [op,be] [b,d] pos) (λ ρ=>(f ρ).bind λ x=>(g ρ).bind λ y=>Bg (λ i j=>if p i j=true then (h ρ).bind λ z=>Bg (λ _ k=>.ok (.bl (q j k))) (.int 0) z else .ok (.bl false)) x y):=by
 obtain⟨ta,a1,a2⟩:=ha;obtain⟨tb,b1,b2⟩:=hb;obtain⟨td,d1,d2⟩:=hd;refine⟨_,Zv ho aF a1 b1 d1 hm,λ P0 P σ H Q ρ E hh=>?_⟩;dsimp only at hh;refine a2 P0 P σ H _ ρ E ?_;cases e:f ρ with
 |bad|ex x=>rw[e] at hh;exact hh
 |ok x =>
  rw[e] at hh;intro v H1 s1 hv;refine b2 P0 P σ H1 _ ρ (E.same s1) ?_;cases e2:g ρ with
  |bad=>rw[e2] at hh;exact hh
  |ex y=>rw[e2] at hh;exact gV.same (m:=.ex y) hh s1
  |ok y =>
   rw[e2] at hh;simp only[M.Aa] at hh;unfold Bg at hh;split at hh
   ·rename_i i j;intro w H2 s2 hw;refine⟨i,j,hv.int_inv,hw.int_inv,p i j,rfl,?_⟩;dsimp only at hh;by_cases hp:p i j=true
    ·rw[if_pos hp] at hh ⊢;refine d2 P0 P σ H2 _ ρ ((E.same s1).same s2) ?_;cases e3:h ρ with
     |bad=>rw[e3] at hh;exact hh
     |ex z=>rw[e3] at hh;exact gV.same (gV.same (m:=.ex z) hh s1) s2
     |ok z =>
      rw[e3] at hh;simp only[M.Aa] at hh;cases z with
      |int k=>exact λ u H3 s3 hu=>⟨j,k,hw.int_inv,hu.int_inv,hh _ H3 ((s1.trans s2).trans s3) (.bl _)⟩
      |_=>exact hh.elim
    ·rw[if_neg hp] at hh ⊢;exact hh _ H2 (s1.trans s2) (.bl _)
   ·exact hh.elim
def Mb (K:zt)(WX:Str->Hp->Prop)(r:List V->Hp->VK->Prop)(dF:List D->M D):Prop:=
 ∀(P:Addr->Prop) (H:Hp) (ds:List D) (vs:List V) (Q:VK),(∀a,P a->EW H a)->Ai K (del H P) vs ds->gV K WX P H Q (dF ds)->r vs H Q
variable {x:Str}{p:Pos}{es:List Expr}{fs:Ad->M (List D)}{id T:String}{r:List V->Hp->VK->Prop}{dF:List D->M D}
theorem ZZ {ta:TA}(ha:∀P0 P σ H Q ρ,Al X.K P0 P H σ ρ->gA X.K WX (Lv c P0 P) H Q (fs ρ)->ta σ H Q)(hr:Mb X.K WX r dF){Q:VK}(E:Al X.K P0 P H σ ρ)(h:gV X.K WX (Lv c P0 P) H Q ((fs ρ).bind dF)):yK r ta σ H Q:=by
 refine ha P0 P σ H _ ρ E ?_;cases e:fs ρ with
 |bad|ex x=>rw[e] at h;exact h
 |ok ds =>
  rw[e] at h;exact λ vs H1 s1 aB=>hr _ H1 ds vs Q (λ a q=>(E.same s1).uJ c a q) aB (h.same s1)
theorem JY (hc:Gu X (.builtin id) r)(hr:Mb X.K WX r dF)(hg:Gl X x)(hm:X.mg x=none)(hv:bootBuiltins x=some (.builtin id))(ha:DA X WX c (e::es) fs)(hn:x ≠ "__name__" := by decide)(aT:(x==("__debug__" : Str))=false:=by decide)
 (he:starEach (e::es) X.env=(false,eval e X.env)::starEach es X.env:=by rfl) (hpl:(backTo pos (starEach es X.env)).any (·.1)=false:=by rfl):DE X WX c (.Call (.Name x p) (e::es) [] pos) (λ ρ=>(fs ρ).bind dF):=by
 obtain⟨ta,a1,a2,a3⟩:=ha;exact⟨_,SM hc hg hm hv a1 hn aT he hpl,λ P0 P σ H Q ρ E h=>ZZ a2 hr E h⟩
theorem Y3 (hc:Gu X (.type T) r)(hr:Mb X.K WX r dF)(hg:Gl X x)(hm:X.mg x=none)(hv:bootBuiltins x=some (.type T))(ha:DA X WX c (e::es) fs)(hn:x ≠ "__name__" := by decide)(aT:(x==("__debug__" : Str))=false:=by decide)
 (he:starEach (e::es) X.env=(false,eval e X.env)::starEach es X.env:=by rfl) (hpl:(backTo pos (starEach es X.env)).any (·.1)=false:=by rfl):DE X WX c (.Call (.Name x p) (e::es) [] pos) (λ ρ=>(fs ρ).bind dF):=by
 obtain⟨ta,a1,a2,a3⟩:=ha;exact⟨_,Lx hc hg hm hv a1 hn aT he hpl,λ P0 P σ H Q ρ E h=>ZZ a2 hr E h⟩
noncomputable def Vd (ds:List D):M D:=match ds with
 |[.lst xs]|[.tup xs]=>.ok (.int xs.length)
 |_=>.bad
theorem Ai.one {K:zt}{H:Hp}{vs:List V}{d:D}(h:Ai K H vs [d]):∃v,vs=[v]/\BD K H v d:=by
 cases h with
 |cons h t=>cases t;exact⟨_,rfl,h⟩
theorem Ai.two {K:zt}{H:Hp}{vs:List V}{d e:D}(h:Ai K H vs [d,e]):∃v w,vs=[v,w]/\BD K H v d/\BD K H w e:=by
 cases h with
 |cons h t =>
  obtain⟨w,rfl,hw⟩:=t.one;exact⟨_,w,rfl,h,hw⟩
theorem pT:Mb X.K WX (λ xs H Q=>∃p ys,xs=[.ref p]/\(Dc X.K H p ys\/EY X.K H p ys)/\Q (.int ys.length) H) Vd:=by
 intro P H ds vs Q ht hl h;unfold Vd at h;split at h
 ·obtain⟨v,rfl,hv⟩:=hl.one;cases hv with
  |lst hs hh=>exact⟨_,_,rfl,.inl hs.B2,by rw[hh.length];exact h _ H (Ah.refl H) (.int _)⟩
 ·obtain⟨v,rfl,hv⟩:=hl.one;cases hv with
  |tup hs hh=>exact⟨_,_,rfl,.inr (EY.of (Am hs).2),by rw[hh.length];exact h _ H (Ah.refl H) (.int _)⟩
 ·exact h.elim
theorem CU (hg:Gl X "len")(hm:X.mg "len" = none)(ha:DE X WX c e f)(hs:starEach [e] X.env=[(false,eval e X.env)]:=by rfl):DE X WX c (.Call (.Name "len" p) [e] [] pos) (λ ρ=>((f ρ).bind λ d=>(M.ok []).bind λ ds=>.ok (d::ds)).bind Vd):=
 JY Rl pT hg hm PySem.boot_len (A1 ha A6 hs) (he:=hs)
noncomputable def Ve (ds:List D):M D:=match ds with
 |[.lst xs]|[.tup xs]=>.ok (.tup xs)
 |_=>.bad
theorem bL:Mb X.K WX (λ xs H Q=>∃p ys,xs=[.ref p]/\((Dc X.K H p ys/\∀l,H l=none->Q (.ref l) (upd H l (.tup ys)))\/(EY X.K H p ys/\Q (.ref p) H))) Ve:=by
 intro P H ds vs Q ht hl h;unfold Ve at h;split at h
 ·obtain⟨v,rfl,hv⟩:=hl.one;cases hv with
  |lst hs hh=>exact⟨_,_,rfl,.inl ⟨hs.B2,λ l hn=>h _ _ (AM hn _) (.tup (JW hn ht) (hh.mono (AM hn _).del))⟩⟩
 ·obtain⟨v,rfl,hv⟩:=hl.one;cases hv with
  |tup hs hh=>exact⟨_,_,rfl,.inr ⟨EY.of (Am hs).2,h _ H (Ah.refl H) (.tup hs hh)⟩⟩
 ·exact h.elim
theorem bM (hg:Gl X "tuple")(hm:X.mg "tuple" = none)(ha:DE X WX c e f)(hb:bootBuiltins "tuple" = some (.type "tuple"):=by decide +kernel)(hs:starEach [e] X.env=[(false,eval e X.env)]:=by rfl):DE X WX c (.Call (.Name "tuple" p) [e] [] pos) (λ ρ=>((f ρ).bind λ d=>(M.ok []).bind λ ds=>.ok (d::ds)).bind Ve):=
 Y3 PM bL hg hm hb (A1 ha A6 hs) (he:=hs)
noncomputable def mD:D->String
 | .AN => "NoneType"
 | .bl _ => "bool"
 | .int _ => "int"
 | .str _ => "str"
 | .tup _ => "tuple"
 | .lst _ => "list"
 | .JL _ => "NoneType"
 | .Bu _ _ _ => "dict"
 | .ins _ _ _ => "NoneType"
noncomputable def EX (T:String)(d:D):Bool:=(mD d==T)||(mD d == "bool" && T == "int")
noncomputable def IQ (T:String)(d:D):M D:=match d with
 | .JL _| .ins _ _ _=>.bad
 |d=>.ok (.bl (EX T d))
noncomputable def uQ:D->Bool
 | .JL _| .ins _ _ _=>true
 |_=>false
theorem bN {T:String}{d:D}(h:uQ d=false):IQ T d=.ok (.bl (EX T d)):=by cases d<;>first | rfl | cases h
def yX (K:zt)(T:String):List V->Hp->VK->Prop:=λ xs H Q=>∃x d,xs=[x,.ty T]/\BD K H x d/\uQ d=false/\Q (.bl (EX T d)) H
theorem bO {T:String}(hk:∀d:D,PySem.W.kitOne X.K (.type (mD d)) (.type T)=some (EX T d)):Gu X (.builtin "isinstance") (yX X.K T):=by
 intro pins s σ H xs us Q I r h;obtain⟨x,d,rfl,hd,hx,q⟩:=h;obtain⟨u,w,rfl,rx,bh⟩:=r.two;cases bh;have fin:∀tk,EP X pins σ Q (.bool (EX T d)) {s with toks:=tk}:=λ tk=>⟨.bl _,H,I.tok tk,rfl,q⟩;have e:=hk d;cases hd with
 |JL _ _|ins _ _ _=>cases hx
 |Qt hs hl =>
  cases rx;obtain⟨⟨o,h1,h2⟩,_,_⟩:=V8 I (.inl ⟨_,hs⟩);exact zc9 PySem.W.kitx_dict I.Pw ⟨o,h1,h2⟩ e (λ z=>nomatch z) fin
 |Rr hs hl =>
  cases rx;obtain⟨⟨o,h1,h2⟩,_,_⟩:=V8 I (.inr ⟨_,hs⟩);exact zc9 PySem.W.kitx_dict I.Pw ⟨o,h1,h2⟩ e (λ z=>nomatch z) fin
 |AN=>cases rx;exact zc9 PySem.W.kitx_none I.Pw zcg e (λ z=>nomatch z) fin
 |bl b=>cases rx;exact zc9 PySem.W.kitx_bool I.Pw zcg e (λ z=>nomatch z) fin
 |int b=>obtain⟨t,rfl⟩:=rx;exact zc9 PySem.W.kitx_int I.Pw zcg e (λ z=>nomatch z) fin
 |str b=>obtain⟨t,rfl⟩:=rx;exact zc9 PySem.W.kitx_str I.Pw zcg e (λ z=>nomatch z) fin
 |tup hs hl =>
  cases rx;obtain⟨_,_,⟨o,h1,h2,_⟩,_⟩:=I.tuple (.of hs);exact zc9 PySem.W.kitx_tuple I.Pw ⟨o,h1,h2⟩ e (λ z=>nomatch z) fin
 |lst hs hl =>
  cases rx;obtain⟨_,_,⟨o,n,h1,h2,_⟩,_⟩:=I.list hs;exact zc9 PySem.W.kitx_list I.Pw ⟨o,h1,h2⟩ e (λ z=>nomatch z) fin
theorem CV {T:String}{x2:Str}{p2:Pos}(hk:∀d:D,PySem.W.kitOne X.K (.type (mD d)) (.type T)=some (EX T d))(hg:Gl X "isinstance")(hm:X.mg "isinstance" = none)(c7:Gl X x2)(aQ:X.mg x2=none)(i9:bootBuiltins x2=some (.type T))(ha:DE X WX c e f)
 (hb:bootBuiltins "isinstance" = some (.builtin "isinstance"):=by decide +kernel) (aw:x2 ≠ "__name__" := by decide) (oj:(x2==("__debug__" : Str))=false:=by decide) (hs:starEach [e,.Name x2 p2] X.env=(false,eval e X.env)::starEach [.Name x2 p2] X.env:=by rfl) (a5:starEach [.Name x2 p2] X.env=[(false,eval (.Name x2 p2) X.env)]:=by rfl)
 (hpl:(backTo pos (starEach [.Name x2 p2] X.env)).any (·.1)=false:=by rfl):
 DE X WX c (.Call (.Name "isinstance" p) [e,.Name x2 p2] [] pos) (λ ρ=>(f ρ).bind λ d=>IQ T d):=by
 obtain⟨ta,a1,a2⟩:=ha;refine⟨_,SM (bO hk) hg hm hb (BC a1 (BC (fW (v:=.ty T) c7 aQ i9 rfl aw oj) CP a5) hs) (by decide) (by decide) hs hpl,λ P0 P σ H Q ρ E h=>?_⟩;dsimp only at h;refine a2 P0 P σ H _ ρ E ?_;refine XZ h λ d h=>?_;cases hx:uQ d with
 |true=>cases d<;>first|exact h.elim|cases hx
 |false =>
  rw[bN hx] at h;exact λ v H1 s1 hv=>⟨v,d,rfl,hv.mono Es,hx,h _ H1 s1 (.bl _)⟩
theorem G4 (K:zt)(d:D):PySem.W.kitOne K (.type (mD d)) (.type "tuple")=some (EX "tuple" d):=by cases d<;>rfl
theorem HZ (K:zt)(d:D):PySem.W.kitOne K (.type (mD d)) (.type "list")=some (EX "list" d):=by cases d<;>rfl
theorem LD (K:zt)(d:D):PySem.W.kitOne K (.type (mD d)) (.type "bool")=some (EX "bool" d):=by cases d<;>rfl
theorem NX (K:zt)(d:D):PySem.W.kitOne K (.type (mD d)) (.type "int")=some (EX "int" d):=by cases d<;>rfl
noncomputable def mE (lo hi:Option Int)(d:D):M D:=match d with
 | .lst ds=>.ok (.lst ((ds.drop (HT.NK ds.length 0 lo)).take (HT.NK ds.length ds.length hi-HT.NK ds.length 0 lo)))
 |_=>.bad
def DO (X:Cx)(WX:Str->Hp->Prop)(c:Bool)(e:Option Expr)(f:Ad->M (Option Int)):Prop:=
 ∃t,PO X e t/\∀P0 P σ H Q ρ,Al X.K P0 P H σ ρ->(match f ρ with | .ok o=>∀H',Ah H H'->Q o H' | .ex x=>∀H',Ah H H'->WX x H' | .bad=>False)->t σ H Q
theorem RB:DO X WX c none (λ _=>.ok none):=⟨_,gN,λ P0 P σ H Q ρ E h=>h H (Ah.refl H)⟩
noncomputable def zZ (d:D):M (Option Int):=match d with | .int i=>.ok (some i) | _=>.bad
theorem JZ (ha:DE X WX c e f):DO X WX c (some e) (λ ρ=>(f ρ).bind zZ):=by
 obtain⟨ta,a1,a2⟩:=ha;refine⟨_,gO a1,λ P0 P σ H Q ρ E h=>?_⟩;dsimp only at h;refine a2 P0 P σ H _ ρ E ?_;cases q:f ρ with
 |bad|ex x=>rw[q] at h;exact h
 |ok d =>
  rw[q] at h;cases d with
  |int i=>exact λ v H1 s1 hv=>⟨i,hv.int_inv,h H1 s1⟩
  |_=>exact h.elim
end
inductive Out where
 |ret (d:D)|next (ρ:Ad)|brk (ρ:Ad)|cont (ρ:Ad)|CM (c:Cl)|Fw (t:OT) (ρ:Ad)
def Tr (P0 P:Addr->Prop)(H:Hp)(P':Addr->Prop)(H':Hp):Prop:=Ah (del H P) (del H' P')/\∀a,P0 a->H' a=H a
theorem Tr.refl {P0 P:Addr->Prop}{H:Hp}:Tr P0 P H P H:=⟨Ah.refl _,λ _ _=>rfl⟩
theorem Tr.trans {P0 P P1 P2:Addr->Prop}{H H1 H2:Hp}(a:Tr P0 P H P1 H1)(b:Tr P0 P1 H1 P2 H2):Tr P0 P H P2 H2:=⟨a.1.trans b.1,λ x h=>(b.2 x h).trans (a.2 x h)⟩
theorem Al.tr {K:zt}{P0:DJ}{P:Addr->Prop}{H H':Hp}{σ:St}{ρ:Ad}(E:Al K P0 P H σ ρ)(e:Ah H H'):Tr P0 P H P H':=
 ⟨e.del,λ a h=>by obtain⟨o,q,_⟩:=E.Cn a (E.sub a h);rw[e a o q,q]⟩
def gS (K:zt)(WX:Str->Hp->Prop)(P0:DJ)(P:Addr->Prop)(H:Hp)(Z:Ends):M Out->Prop
 | .ok (.ret d)=>∀v H' P',Tr P0 P H P' H'->BD K (del H' P0) v d->Z.rt v H'
 | .ok (.next ρ)=>∀σ' H' P',Tr P0 P H P' H'->Al K P0 P' H' σ' ρ->Z.nx σ' H'
 | .ok (.brk ρ)=>∀σ' H' P',Tr P0 P H P' H'->Al K P0 P' H' σ' ρ->Z.bk σ' H'
 | .ok (.cont ρ)=>∀σ' H' P',Tr P0 P H P' H'->Al K P0 P' H' σ' ρ->Z.ct σ' H'
 | .ok (.CM c)=>∀v fp H' P',Tr P0 P H P' H'->(∀a,P0 a->P' a)->(∀a,P' a->EW H' a)->CT K H' P' c v fp->(∀a∈fp,P' a/\¬ P0 a)->fp.Nodup->Z.rt v H'
 | .ok (.Fw t ρ)=>∀v fp σ' H' P',Tr P0 P H P' H'->Al K P0 P' H' σ' ρ->BX K H' P' v t fp->fp.Nodup->(∀a∈fp,P' a/\¬ P0 a/\∀(j:Nat) c v' fq,ρ[j]?=some (some c)->σ'[j]?=some (some v')->CT K H' P' c v' fq->a∉fq)->Z.rt v H'
 | .ex x=>∀H' P',Tr P0 P H P' H'->WX x H'
 | .bad=>False
theorem gS.tr {K:zt}{WX:Str->Hp->Prop}{P0:DJ}{P P':Addr->Prop}{H H':Hp}{Z:Ends}{m:M Out}(h:gS K WX P0 P H Z m)(t:Tr P0 P H P' H'):gS K WX P0 P' H' Z m:=by
 cases m with
 |bad=>exact h
 |ex x=>exact λ H2 P2 t2=>h H2 P2 (t.trans t2)
 |ok o =>
  cases o with
  |ret d=>exact λ v H2 P2 t2 hv=>h v H2 P2 (t.trans t2) hv
  |next ρ|brk ρ|cont ρ=>exact λ σ2 H2 P2 t2 hv=>h σ2 H2 P2 (t.trans t2) hv
  |CM c=>exact λ v fp H2 P2 t2=>h v fp H2 P2 (t.trans t2)
  |Fw c ρ=>exact λ v fp σ2 H2 P2 t2=>h v fp σ2 H2 P2 (t.trans t2)
def DS (X:Cx)(WX:Str->Hp->Prop)(st:Stmt)(g:Ad->M Out):Prop:=
 ∃t,PS X st t/\∀P0 P σ H Z ρ,Al X.K P0 P H σ ρ->gS X.K WX P0 P H Z (g ρ)->t Z σ H
def UJ (X:Cx)(WX:Str->Hp->Prop)(st:List Stmt)(g:Ad->M Out):Prop:=
 ∃t,Wm X st t/\∀P0 P σ H Z ρ,Al X.K P0 P H σ ρ->gS X.K WX P0 P H Z (g ρ)->t Z σ H
noncomputable def bP (m:M Out)(k:Ad->M Out):M Out:=match m with
 | .ok (.next ρ)=>k ρ
 |m=>m
section
variable {X:Cx}{WX:Str->Hp->Prop}{c:Bool}{P0:DJ}{P:Addr->Prop}{H:Hp}{σ:St}{ρ:Ad}{a b e:Expr}{f g:Ad->M D}{ft gt:Ad->M Bool}{pos:Pos}{st:Stmt}{rest:List Stmt}{g1 g2:Ad->M Out}
theorem Ap:UJ X WX [] (λ ρ=>.ok (.next ρ)):=⟨_,fY,λ P0 P σ H Z ρ E h=>h σ H P Tr.refl E⟩
theorem A4 (h:DS X WX st g1):UJ X WX [st] g1:=let ⟨t,h1,h2⟩:=h;⟨_,fZ h1,h2⟩
theorem A2 (h:DS X WX st g1)(hr:UJ X WX rest g2):UJ X WX (st::rest) (λ ρ=>bP (g1 ρ) g2):=by
 obtain⟨t,h1,h2⟩:=h;obtain⟨u,r1,r2⟩:=hr;refine⟨_,Zj h1 r1,λ P0 P σ H Z ρ E h=>?_⟩;dsimp only at h;refine h2 P0 P σ H {Z with nx:=u Z} ρ E ?_;cases q:g1 ρ with
 |bad|ex x=>rw[q] at h;exact h
 |ok o =>
  rw[q] at h;cases o with
  |ret d|brk d|cont d|CM d|Fw d ρ2=>exact h
  |next ρ'=>exact λ σ' H' P' t E'=>r2 P0 P' σ' H' Z ρ' E' (gS.tr h t)
theorem bQ (ha:DE X WX false e f):DS X WX (.Return (some e) pos) (λ ρ=>(f ρ).bind λ d=>.ok (.ret d)):=by
 obtain⟨ta,a1,a2⟩:=ha;refine⟨_,UO a1,λ P0 P σ H Z ρ E h=>?_⟩;dsimp only at h;refine a2 P0 P σ H _ ρ E ?_;cases q:f ρ with
 |bad=>rw[q] at h;exact h
 |ex x=>rw[q] at h;exact λ H' s=>h H' P (E.tr s)
 |ok d=>rw[q] at h;exact λ v H' s hv=>h v H' P (E.tr s) hv
theorem AS {c:Expr}{sa sb:List Stmt}(hc:DT X WX c ft)(ha:UJ X WX sa g1)(hb:UJ X WX sb g2):DS X WX (.If c sa sb pos) (λ ρ=>(ft ρ).bind λ k=>if k=true then g1 ρ else g2 ρ):=by
 obtain⟨tc,c1,c2⟩:=hc;obtain⟨ta,a1,a2⟩:=ha;obtain⟨tb,b1,b2⟩:=hb;refine⟨_,tI c1 a1 b1,λ P0 P σ H Z ρ E h=>?_⟩;dsimp only at h;refine c2 P0 P σ H _ ρ E ?_;cases q:ft ρ with
 |bad=>rw[q] at h;exact h
 |ex x=>rw[q] at h;exact λ H' s=>h H' P (E.tr s)
 |ok k =>
  rw[q] at h;intro H1 s1;cases k with
  |true =>
   simp only[M.Aa,if_true] at h ⊢;exact a2 P0 P σ H1 Z ρ (E.same s1) (h.tr (E.tr s1))
  |false =>
   simp only[M.Aa,zag,if_false] at h ⊢;exact b2 P0 P σ H1 Z ρ (E.same s1) (h.tr (E.tr s1))
theorem get_set {α:Type}{l:List α}{i j:Nat}{x y:α}(h:(l.set i x)[j]?=some y):(i=j/\i<l.length/\x=y)\/(i≠j/\l[j]?=some y):=by
 by_cases e:i=j
 ·subst e;rw[List.getElem?_set_self'] at h;cases q:l[i]? with
  |none=>rw[q] at h;cases h
  |some z =>
   rw[q] at h;exact .inl ⟨rfl,(za3.mp q).1,by simpa using h⟩
 ·rw[zb9 e] at h;exact .inr ⟨e,h⟩
theorem Al.Vf {K:zt}(E:Al K P0 P H σ ρ){i:Nat}{v:V}{d:D}(hv:BD K (del H P) v d):Al K P0 P H (σ.set i (some v)) (ρ.set i (some (.val d))):=by
 have gs:∀ {j:Nat},i≠j->(σ.set i (some v))[j]?=σ[j]? :=λ h=>zb9 h;refine⟨E.sub,E.Cn,λ j e h=>?_,λ j c h io=>?_,λ j k c c' u u' fp ah h1 h2 h3 h4 h5 h6 ac=>?_,by rw[zbl,zbl];exact E.len,λ j c n h hp=>?_⟩
 rotate_left 3
 ·rcases get_set h with ⟨rfl,hl,e1⟩|⟨ac,h⟩
  ·cases e1;cases hp
  ·rw[gs ac];exact E.pin j c n h hp
 ·rcases get_set h with ⟨rfl,hl,e1⟩|⟨ac,h⟩
  ·cases e1;exact⟨v,zas (by rw[E.len];exact hl),hv⟩
  ·obtain⟨w,h1,h2⟩:=E.val j e h;exact⟨w,by rw[gs ac];exact h1,h2⟩
 ·rcases get_set h with ⟨rfl,hl,e1⟩|⟨ac,h⟩
  ·cases e1;cases io
  ·obtain⟨w,fp,h1,h2⟩:=E.ows j c h io;exact⟨w,fp,by rw[gs ac];exact h1,h2⟩
 ·rcases get_set h1 with ⟨rfl,hl,e1⟩|⟨bR,h1⟩
  ·cases e1;exact h5.elim
  ·rcases get_set h2 with ⟨rfl,hl,e1⟩|⟨aw,h2⟩
   ·cases e1;exact h6.elim
   ·rw[gs bR] at h3;rw[gs aw] at h4;exact E.apart j k c c' u u' fp ah h1 h2 h3 h4 h5 h6 ac
theorem Al.iL {K:zt}(E:Al K P0 P H σ ρ){P':Addr->Prop}{H':Hp}{i:Nat}{v:V}{c:Cl}{fp:List Addr}(hs:∀a,P a->P' a)(ht:∀a,P' a->EW H' a)(sm:Ah (del H P) (del H' P'))
 (keep:∀(j:Nat) c' v' ah,i≠j->ρ[j]?=some (some c')->σ[j]?=some (some v')->CT K H P c' v' ah->∀a∈ah,H' a=H a/\a∉fp)
 (new:CT K H' P' c v fp) (hp:∀a∈fp,P' a/\¬ P0 a) (nd:fp.Nodup) (f7:∀n,Qu c=some n->v=.ref (P0.g n):=by intro n z;cases z):Al K P0 P' H' (σ.set i (some v)) (ρ.set i (some c)):=by
 have gs:∀ {j:Nat},i≠j->(σ.set i (some v))[j]?=σ[j]? :=λ h=>zb9 h;refine⟨λ a h=>hs a (E.sub a h),ht,λ j e h=>?_,λ j c' h io=>?_,λ j k c1 c2 u u' au b5 h1 h2 h3 h4 h5 h6 ac=>?_,by rw[zbl,zbl];exact E.len,λ j c' n h hp=>?_⟩
 rotate_left 3
 ·rcases get_set h with ⟨rfl,hl,e1⟩|⟨ac,h⟩
  ·cases e1;rw[zas (by rw[E.len];exact hl),f7 n hp]
  ·rw[gs ac];exact E.pin j c' n h hp
 ·rcases get_set h with ⟨rfl,hl,e1⟩|⟨ac,h⟩
  ·cases e1;exact new.elim
  ·obtain⟨w,h1,h2⟩:=E.val j e h;exact⟨w,by rw[gs ac];exact h1,h2.mono sm⟩
 ·rcases get_set h with ⟨rfl,hl,e1⟩|⟨ac,h⟩
  ·cases e1;exact⟨v,fp,zas (by rw[E.len];exact hl),new,hp,nd⟩
  ·obtain⟨w,fq,h1,h2,h3,h4⟩:=E.ows j c' h io;exact⟨w,fq,by rw[gs ac];exact h1,h2.move sm λ a ha=>(keep j c' w fq ac h h1 h2 a ha).1,λ a ha=>⟨hs a (h3 a ha).1,(h3 a ha).2⟩,h4⟩
 ·have back:∀(l:Nat) (d:Cl) (w:V) (fq:List Addr),i≠l->ρ[l]?=some (some d)->σ[l]?=some (some w)->CT K H' P' d w fq->∃fr,CT K H P d w fr/\fr=fq:=λ l d w fq hn hk sk ho=>by
   have io:GX d=true:=by cases d<;>first|rfl|exact ho.elim
   obtain⟨w',b5,s2,o2,_⟩:=E.ows l d hk io;rw[sk] at s2;cases s2;exact⟨b5,o2,(o2.move sm λ a ha=>(keep l d w b5 hn hk sk o2 a ha).1).C4 ho⟩
  rcases get_set h1 with ⟨rfl,hl,e1⟩|⟨bR,h1⟩
  ·cases e1;rw[zas (by rw[E.len];exact hl)] at h3;cases h3;rcases get_set h2 with ⟨e,_⟩|⟨aw,h2⟩
   ·exact (ac e).elim
   ·rw[gs aw] at h4;obtain⟨fr,o,rfl⟩:=back k c2 u' b5 aw h2 h4 h6;intro a ha hb;rw[new.C4 h5] at keep;exact (keep k c2 u' fr aw h2 h4 o a hb).2 ha
  ·rw[gs bR] at h3;obtain⟨fr,o,rfl⟩:=back j c1 u au bR h1 h3 h5;rcases get_set h2 with ⟨rfl,hl,e1⟩|⟨aw,h2⟩
   ·cases e1;rw[zas (by rw[E.len];exact hl)] at h4;cases h4;intro a ha;rw[new.C4 h6] at keep;exact (keep j c1 u fr bR h1 h3 o a ha).2
   ·rw[gs aw] at h4;obtain⟨om,o2,rfl⟩:=back k c2 u' b5 aw h2 h4 h6;exact E.apart j k c1 c2 u u' fr om h1 h2 h3 h4 o o2 ac
theorem Al.uR {K:zt}(E:Al K P0 P H σ ρ){P':Addr->Prop}{H':Hp}{i:Nat}{v:V}{c:Cl}{fp:List Addr}(hs:∀a,P0 a->P' a)(ht:∀a,P' a->EW H' a)(sm:Ah (del H P) (del H' P'))
 (keep:∀(j:Nat) c' v' ah,i≠j->ρ[j]?=some (some c')->σ[j]?=some (some v')->CT K H P c' v' ah->∀a∈ah,H' a=H a/\a∉fp/\P' a)
 (new:CT K H' P' c v fp) (hp:∀a∈fp,P' a/\¬ P0 a) (nd:fp.Nodup) (f7:∀n,Qu c=some n->v=.ref (P0.g n):=by intro n z;cases z):Al K P0 P' H' (σ.set i (some v)) (ρ.set i (some c)):=by
 have gs:∀ {j:Nat},i≠j->(σ.set i (some v))[j]?=σ[j]? :=λ h=>zb9 h;refine⟨hs,ht,λ j e h=>?_,λ j c' h io=>?_,λ j k c1 c2 u u' au b5 h1 h2 h3 h4 h5 h6 ac=>?_,by rw[zbl,zbl];exact E.len,λ j c' n h hp=>?_⟩
 rotate_left 3
 ·rcases get_set h with ⟨rfl,hl,e1⟩|⟨ac,h⟩
  ·cases e1;rw[zas (by rw[E.len];exact hl),f7 n hp]
  ·rw[gs ac];exact E.pin j c' n h hp
 ·rcases get_set h with ⟨rfl,hl,e1⟩|⟨ac,h⟩
  ·cases e1;exact new.elim
  ·obtain⟨w,h1,h2⟩:=E.val j e h;exact⟨w,by rw[gs ac];exact h1,h2.mono sm⟩
 ·rcases get_set h with ⟨rfl,hl,e1⟩|⟨ac,h⟩
  ·cases e1;exact⟨v,fp,zas (by rw[E.len];exact hl),new,hp,nd⟩
  ·obtain⟨w,fq,h1,h2,h3,h4⟩:=E.ows j c' h io;exact⟨w,fq,by rw[gs ac];exact h1,h2.move sm λ a ha=>(keep j c' w fq ac h h1 h2 a ha).1,λ a ha=>⟨(keep j c' w fq ac h h1 h2 a ha).2.2,(h3 a ha).2⟩,h4⟩
 ·have back:∀(l:Nat) (d:Cl) (w:V) (fq:List Addr),i≠l->ρ[l]?=some (some d)->σ[l]?=some (some w)->CT K H' P' d w fq->∃fr,CT K H P d w fr/\fr=fq:=λ l d w fq hn hk sk ho=>by
   have io:GX d=true:=by cases d<;>first|rfl|exact ho.elim
   obtain⟨w',b5,s2,o2,_⟩:=E.ows l d hk io;rw[sk] at s2;cases s2;exact⟨b5,o2,(o2.move sm λ a ha=>(keep l d w b5 hn hk sk o2 a ha).1).C4 ho⟩
  rcases get_set h1 with ⟨rfl,hl,e1⟩|⟨bR,h1⟩
  ·cases e1;rw[zas (by rw[E.len];exact hl)] at h3;cases h3;rcases get_set h2 with ⟨e,_⟩|⟨aw,h2⟩
   ·exact (ac e).elim
   ·rw[gs aw] at h4;obtain⟨fr,o,rfl⟩:=back k c2 u' b5 aw h2 h4 h6;intro a ha hb;rw[new.C4 h5] at keep;exact (keep k c2 u' fr aw h2 h4 o a hb).2.1 ha
  ·rw[gs bR] at h3;obtain⟨fr,o,rfl⟩:=back j c1 u au bR h1 h3 h5;rcases get_set h2 with ⟨rfl,hl,e1⟩|⟨aw,h2⟩
   ·cases e1;rw[zas (by rw[E.len];exact hl)] at h4;cases h4;intro a ha;rw[new.C4 h6] at keep;exact (keep j c1 u fr bR h1 h3 o a ha).2.1
   ·rw[gs aw] at h4;obtain⟨om,o2,rfl⟩:=back k c2 u' b5 aw h2 h4 h6;exact E.apart j k c1 c2 u u' fr om h1 h2 h3 h4 o o2 ac
theorem RC {α:Type}:∀ {l:List α}{i:Nat}{x:α},l[i]?=some x->l.set i x=l
 |[],_,_,h=>by cases h
 |y::r,0,x,h=>by cases h;rfl
 |y::r,i+1,x,h=>by rw[za1,RC (by simpa using h)]
theorem Al.mut {K:zt}(E:Al K P0 P H σ ρ){i p:Nat}{xs:List V}{ds lu:List D}(ho:ρ[i]?=some (some (.own ds)))(hs:σ[i]?=some (some (.ref p)))(pP:P p)(lw:¬ P0 p)(hx:Ai K (del H P) xs lu):
 Al K P0 P (upd H p (.lst xs)) σ (ρ.set i (some (.own lu)))/\Tr P0 P H P (upd H p (.lst xs)):=by
 have sd:del (upd H p (.lst xs)) P=del H P:=by
  funext b;by_cases hb:P b
  ·rw[G0 hb,G0 hb]
  ·rw[AD hb,AD hb,Ag (λ z=>hb (by rw[z];exact pP))]
 have sm:Ah (del H P) (del (upd H p (.lst xs)) P):=by rw[sd];exact Ah.refl _
 obtain⟨v,fp,s1,o1,_⟩:=E.ows i _ ho rfl;rw[hs] at s1;cases s1;have key:=E.iL (P':=P) (H':=upd H p (.lst xs)) (i:=i) (v:=.ref p) (c:=.own lu) (fp:=[p]) (λ a h=>h) (λ a h=>?_) sm (λ j c' v' ah ac h1 h2 h3 a ha=>?_) ⟨p,xs,rfl,rfl,An,by rw[sd];exact hx⟩ (λ a ha=>by rw[z6.mp ha];exact⟨pP,lw⟩) (by simp)
 ·rw[RC hs] at key;exact⟨key,sm,λ a h=>by rw[Ag (λ z=>lw (by rw[<-z];exact h))]⟩
 ·by_cases ha:a=p
  ·subst ha;exact EW.lst An
  ·unfold EW;rw[Ag ha];exact E.Cn a h
 ·obtain⟨p',dz,e,rfl,_⟩:=o1;cases e;have hn:a≠p:=λ z=>E.apart j i c' _ v' _ ah [p] h1 ho h2 hs h3 ⟨p,dz,rfl,rfl,by assumption⟩ (zb3 ac) a ha (by rw[z];exact z6.mpr rfl);exact⟨Ag hn,λ z=>hn (z6.mp z)⟩
theorem Al.grow {K:zt}(E:Al K P0 P H σ ρ){i p:Nat}{xs:List V}{ds:List D}{v:V}{d:D}(ho:ρ[i]?=some (some (.own ds)))(hs:σ[i]?=some (some (.ref p)))(hp:H p=some (.lst xs))(pP:P p)(lw:¬ P0 p)(hx:Ai K (del H P) xs ds)(hv:BD K (del H P) v d):
 Al K P0 P (upd H p (.lst (xs++[v]))) σ (ρ.set i (some (.own (ds++[d]))))/\Tr P0 P H P (upd H p (.lst (xs++[v]))):=E.mut ho hs pP lw (hx.snoc hv)
theorem Av (i:Nat){x:Str}{pos':Pos}(hN:X.N.Nodup)(hi:X.N[i]?=some x)(hx:Loc X.env.scope x)(ha:DE X WX true e f)(hs:swapsWith e (some (.Name x pos')) pos.line X.env=pure false:=by rfl)(hf:X.fn x=true\/X.env.scope.names.lookup x=some .local:=by first | exact .inl rfl | exact .inr rfl | assumption):
 DS X WX (.Assign [.Name x pos'] e pos) (λ ρ=>(f ρ).bind λ d=>.ok (.next (ρ.set i (some (.val d))))):=by
 obtain⟨ta,a1,a2⟩:=ha;refine⟨_,UP hN hi hx a1 hs hf,λ P0 P σ H Z ρ E h=>?_⟩;dsimp only at h;refine a2 P0 P σ H _ ρ E ?_;cases q:f ρ with
 |bad=>rw[q] at h;exact h
 |ex x=>rw[q] at h;exact λ H' s=>h H' P (E.tr s)
 |ok d=>rw[q] at h;exact λ v H' s hv=>h _ H' P (E.tr s) ((E.same s).Vf hv)
theorem iM {K:zt}{WX:Str->Hp->Prop}{P0:DJ}{P:Addr->Prop}{H:Hp}{Z:Ends}{σ:St}{ρ:Ad}{α:Type}{m:M α}{k:α->M Out}{R:M α->Prop}(h:gS K WX P0 P H Z (m.bind k))(E:Al K P0 P H σ ρ)(hk:∀a,gS K WX P0 P H Z (k a)->R (.ok a))(hb:False->R .bad:=by exact λ h=>h)(hx:∀x,(∀H',Ah H H'->WX x H')->R (.ex x):=by exact λ _ h=>h):R m:=by
 cases m with
 |ok a=>exact hk a h
 |ex x=>exact hx x λ H' s=>h H' P (E.tr s)
 |bad=>exact hb h
noncomputable def Y4 (i:Nat)(ρ:Ad)(m:M D):M Out:=match ρ[i]? with
 |some (some (.own ds))=>m.bind λ d=>if ds.length<1000 then .ok (.next (ρ.set i (some (.own (ds++[d]))))) else .bad
 |_=>.bad
theorem Fx (i:Nat){x:Str}{p1 apos ad:Pos}(hv:PE X (.Name x p1) (UN i))(ha:DE X WX true e f)(hs:starEach [e] X.env=[(false,eval e X.env)]:=by rfl)
 (bz:swapsWith (.Call (.Attribute (.Name x p1) "append" apos) [e] [] ad) none pos.line X.env=pure false:=by rfl)
 (aj:attributeBase (.Name x p1) "append" X.env (eval (.Name x p1) X.env)=eval (.Name x p1) X.env:=by rfl)
 (aK:((backTo ad (starEach [e] X.env)).all (λ x => !x.1)&&(backToKw ad (keywordEach [] X.env)).all (λ x=>x.1.isSome)&&decide (([e]:List Expr).length+([]:List Keyword).length+(if ([]:List Keyword).isEmpty then 0 else 1)<30))=true:=by rfl)
 (ak:(apos.endLine==ad.line)=true:=by rfl) (ao:(backTo ad (starEach [] X.env)).any (·.1)=false:=by rfl):
 DS X WX (.Expr (.Call (.Attribute (.Name x p1) "append" apos) [e] [] ad) pos) (λ ρ=>Y4 i ρ (f ρ)):=by
 obtain⟨ta,a1,a2⟩:=ha;refine⟨_,JN (Ww zce PySem.F.slot_list_append PySem.F.type_list_append Qo hv (BC a1 CP hs) aj aK ak hs ao) bz,λ P0 P σ H Z ρ E h=>?_⟩;dsimp only at h;unfold Y4 at h;split at h
 ·rename_i ds e1;obtain⟨p,xs,h1,h2,h3,h4,h5⟩:=E.own i ds e1;refine⟨_,h1,.inl ⟨rfl,xs,.of h2⟩,?_⟩;refine a2 P0 P σ H _ ρ E ?_;refine iM h E λ d h=>?_;by_cases hl:ds.length<1000
  ·rw[if_pos hl] at h;intro v H1 s1 hv;have E1:=E.same s1;have f6:H1 p=some (.lst xs):=s1 _ _ h2;refine⟨p,xs,v,rfl,rfl,f6,AH (by rw[h5.length];omega),?_⟩;obtain⟨E2,t2⟩:=E1.grow e1 h1 f6 h3 h4 (h5.mono s1.del) hv;exact h _ _ _ ((E.tr s1).trans t2) E2
  ·rw[if_neg hl] at h;exact h.elim
 ·exact h.elim
end
def gG (K:zt)(P0:DJ)(P:Addr->Prop)(H:Hp)(Q:St->Hp->Prop):M Ad->Prop
 | .ok ρ=>∀σ',Al K P0 P H σ' ρ->Q σ' H
 |_=>False
def DG (X:Cx)(tg:Expr)(gt:D->Ad->M Ad):Prop:=
 ∃g:TG,PG X tg g/\∀P0 P σ H Q ρ v d,Al X.K P0 P H σ ρ->BD X.K (del H P) v d->gG X.K P0 P H Q (gt d ρ)->g v σ H Q
def wW (X:Cx)(vq:List Expr)(gt:List D->Ad->M Ad):Prop:=
 ∃g:Z7,sA X vq g/\∀P0 P σ H Q ρ v d,Al X.K P0 P H σ ρ->Ai X.K (del H P) v d->gG X.K P0 P H Q (gt d ρ)->g v σ H Q
structure Vg (K:zt)(J:It)(P:Addr->Prop)(H:Hp)(ds:List D):Prop where
 go:∀(i:Nat) P' H',Ah (del H P) (del H' P')->i<ds.length->J.go i H'
 stop:∀(i:Nat) P' H',Ah (del H P) (del H' P')->ds.length<=i->J.stop i H'
 gB:∀(i:Nat) P' H' v c8 d,Ah (del H P) (del H' P')->(∀a,P' a->EW H' a)->ds[i]?=some d->J.gB i H' v c8->Ah H' c8/\BD K (del c8 P') v d
def DI (X:Cx)(WX:Str->Hp->Prop)(tg iter:Expr)(f:Ad->M (List D)):Prop:=
 ∃wi,PI X tg iter wi/\∀P0 P σ H R ρ,Al X.K P0 P H σ ρ->(match f ρ with | .ok ds=>∀J H',Ah H H'->Vg X.K J P H' ds->R J H' | .ex x=>∀H',Ah H H'->WX x H' | .bad=>False)->wi σ H R
noncomputable def forM (gt:D->Ad->M Ad)(body:Ad->M Out):List D->Ad->M Out
 |[],ρ=>.ok (.next ρ)
 |d::r,ρ=>match gt d ρ with
  | .ok ρ1=>(match body ρ1 with
   | .ok (.next ρ2)| .ok (.cont ρ2)=>forM gt body r ρ2
   | .ok (.brk ρ2)=>.ok (.next ρ2)
   |m=>m)
  |_=>.bad
section
variable {X:Cx}{WX:Str->Hp->Prop}{c:Bool}{P0:DJ}{P:Addr->Prop}{H:Hp}{σ:St}{ρ:Ad}{a b e tg iter:Expr}{f g:Ad->M D}{ft:Ad->M Bool}{pos:Pos}{gt:D->Ad->M Ad}{c9:List D->Ad->M Ad}{gb:Ad->M Out}{fi:Ad->M (List D)}
theorem Az (i:Nat){x:Str}(hN:X.N.Nodup)(hi:X.N[i]?=some x)(hx:Loc X.env.scope x)(hf:X.fn x=true\/X.env.scope.names.lookup x=some .local:=by first | exact .inl rfl | exact .inr rfl | assumption):DG X (.Name x pos) (λ d ρ=>.ok (ρ.set i (some (.val d)))):=
 ⟨_,Rh hN hi hx hf,λ P0 P σ H Q ρ v d E hv h=>h _ (E.Vf hv)⟩
theorem I9:wW X [] (λ ds ρ=>match ds with | []=>.ok ρ | _=>.bad):=⟨_,Wo,λ P0 P σ H Q ρ v d E hv h=>by
 cases hv with
 |nil=>exact⟨rfl,h σ E⟩
 |cons _ _=>exact h.elim⟩
theorem B3 {es:List Expr}(h1:DG X e gt)(h2:wW X es c9)(hs:(assignEach (e::es) X.env).map (·.2)=assign e X.env::(assignEach es X.env).map (·.2):=by rfl):
 wW X (e::es) (λ ds ρ=>match ds with|d::r=>(gt d ρ).bind (c9 r)|[]=>.bad):=by
 obtain⟨t,a1,a2⟩:=h1;obtain⟨u,b1,b2⟩:=h2;refine⟨_,SH a1 b1 hs,λ P0 P σ H Q ρ v d E hv h=>?_⟩;cases hv with
 |nil=>exact h.elim
 | @cons x d xs ds hx cm =>
  refine⟨x,xs,rfl,a2 P0 P σ H _ ρ x d E hx ?_⟩;dsimp only at h;cases q:gt d ρ with
  |bad|ex y=>rw[q] at h;exact h
  |ok ρ1=>rw[q] at h;exact λ σ' E'=>b2 P0 P σ' H Q ρ1 xs ds E' cm h
theorem LF {es:List Expr}{k n:Nat}(hc:X.calm=true)(h:wW X es c9)(hn:(assignEach es X.env).length=n:=by rfl)(aD:(assignEach es X.env).findIdx? (·.1)=none:=by rfl):
 DG X (.Tuple es k pos) (λ d ρ=>match d with | .tup ds=>if ds.length=n then c9 ds ρ else .bad|_=>.bad):=by
 obtain⟨t,a1,a2⟩:=h;refine⟨_,Zl hc a1 hn aD,λ P0 P σ H Q ρ v d E hv h=>?_⟩;cases hv with
 | @tup a xs ds hs hl =>
  dsimp only at h;by_cases hd:ds.length=n
  ·rw[if_pos hd] at h;exact⟨a,xs,rfl,EY.of (Am hs).2,by rw[hl.length];exact hd,a2 P0 P σ H Q ρ xs ds E hl h⟩
  ·rw[if_neg hd] at h;exact h.elim
 |_=>exact h.elim
theorem bS (ha:DE X WX true e f)(hg:DG X tg gt)(hs:swapsWithSole [tg] e pos.line X.env=pure false:=by rfl)(hw:swappedStores [tg] e X.env=pure none:=by rfl)(h1:(assignEach [tg] X.env).map (·.2)=[assign tg X.env]:=by rfl):
 DS X WX (.Assign [tg] e pos) (λ ρ=>(f ρ).bind λ d=>match gt d ρ with | .ok ρ'=>.ok (.next ρ')|_=>.bad):=by
 obtain⟨ta,a1,a2⟩:=ha;obtain⟨t,b1,b2⟩:=hg;refine⟨_,Zm a1 b1 hs hw h1,λ P0 P σ H Z ρ E h=>?_⟩;dsimp only at h;refine a2 P0 P σ H _ ρ E ?_;refine iM h E λ d h=>?_;intro v H' s hv;refine b2 P0 P σ H' _ ρ v d (E.same s) hv ?_;cases q2:gt d ρ with
 |ok ρ'=>rw[q2] at h;exact λ σ' E'=>h σ' H' P (E.tr s) E'
 |_=>rw[q2] at h;exact h.elim
theorem AR (ha:DE X WX true e f):DI X WX tg e (λ ρ=>(f ρ).bind λ d=>match d with | .lst ds=>.ok ds | _=>.bad):=by
 obtain⟨ta,a1,a2⟩:=ha;refine⟨_,gC a1,λ P0 P σ H R ρ E h=>?_⟩;dsimp only at h;refine a2 P0 P σ H _ ρ E ?_;cases q:f ρ with
 |bad|ex x=>rw[q] at h;exact h
 |ok d =>
  rw[q] at h;cases d with
  |lst ds =>
   intro v H1 s1 hv;cases hv with
   | @lst a xs _ hs hl =>
    refine⟨a,rfl,⟨xs,hs.B2⟩,h _ H1 s1 ⟨λ i P' H' s hi=>?_,λ i P' H' s hi=>?_,λ i P' H' v c8 d s ht hd y=>?_⟩⟩
    ·obtain⟨x,hx,_⟩:=hl.get (z4 hi);exact⟨xs,x,(s.seq hs).B2,hx⟩
    ·exact⟨xs,(s.seq hs).B2,by rw[hl.length];exact hi⟩
    ·obtain⟨rfl,y⟩:=y;obtain⟨x,hx,aO⟩:=hl.get hd;have e:=y xs (s.seq hs).B2;rw[hx] at e;cases e;exact⟨Ah.refl _,aO.mono s⟩
  |_=>exact h.elim
noncomputable def Ce (lo:Int):Nat->List D
 |0=>[]
 |n+1=>.int lo::Ce (lo+1) n
theorem Et (lo:Int):∀n:Nat,(Ce lo n).length=n:=by
 intro n;induction n generalizing lo with
 |zero=>rfl
 |succ n ih=>rw[Ce,z5,ih]
theorem G5 {lo:Int}{n i:Nat}{d:D}(h:(Ce lo n)[i]?=some d):d=.int (lo+i)/\i<n:=by
 have hi:i<n:=by
  have:=(za3.mp h).1;rw[Et] at this;exact this
 refine⟨?_,hi⟩;induction n generalizing lo i with
 |zero=>omega
 |succ n ih =>
  cases i with
  |zero=>rw[Ce] at h;simp at h;rw[<-h];simp
  |succ i =>
   rw[Ce,zak] at h;rw[ih h (by omega)];congr 1;omega
theorem Vh {K:zt}{P:Addr->Prop}{H:Hp}(lo:Int)(n:Nat):Vg K (wN lo n) P H (Ce lo n):=
 ⟨λ i P' H' _ hi=>by rw[Et] at hi;exact hi,λ i P' H' _ hi=>by rw[Et] at hi;exact hi,λ i P' H' v c8 d _ _ hd y=>by
  obtain⟨rfl,rfl⟩:=y;obtain⟨rfl,_⟩:=G5 hd;exact⟨Ah.refl _,.int _⟩⟩
noncomputable def Vi:D->M (List D)
 | .int j=>@ite _ (-(2^62)<=j/\j<2^62) (zcz _) (.ok (Ce 0 j.toNat)) .bad
 |_=>.bad
theorem Ta {j:Int}(h1 : -(2^62)<=j)(h2:j<2^62):Vi (.int j)=.ok (Ce 0 j.toNat):=if_pos ⟨h1,h2⟩
theorem NY {n:Nat}(h:n<=1000):Vi (.int (n:Int))=.ok (Ce 0 n):=by
 rw[Ta (by omega) (by omega),zba]
theorem Ia {p:Pos}(hg:Gl X "range")(hm:X.mg "range" = none)(ha:DE X WX c a f)(hs:starEach [a] X.env=[(false,eval a X.env)]:=by rfl):
 DI X WX tg (.Call (.Name "range" p) [a] [] pos) (λ ρ=>(f ρ).bind Vi):=by
 obtain⟨ta,a1,a2⟩:=ha;refine⟨_,XG hg hm (BC a1 CP hs) hs,λ P0 P σ H R ρ E h=>?_⟩;dsimp only at h;refine a2 P0 P σ H _ ρ E ?_;cases q:f ρ with
 |bad|ex x=>rw[q] at h;exact h
 |ok d =>
  rw[q] at h;cases d with
  |int j =>
   simp only[M.Aa] at h;by_cases hj : -(2^62)<=j/\j<2^62
   ·rw[Ta hj.1 hj.2] at h;exact λ v H1 s1 hv=>⟨j,by rw[hv.int_inv],hj.1,hj.2,h _ H1 s1 (Vh 0 _)⟩
   ·have e:Vi (.int j)=.bad:=if_neg hj;rw[e] at h;exact h.elim
  |_=>exact h.elim
noncomputable def Gv (k:Nat):List D->List D
 |[]=>[]
 |d::r=>.tup [.int k,d]::Gv (k+1) r
theorem CD (k:Nat)(ds:List D):(Gv k ds).length=ds.length:=by
 induction ds generalizing k with
 |nil=>rfl
 |cons d r ih=>rw[Gv,z5,z5,ih]
theorem Fy {k i:Nat}{ds:List D}{e:D}(h:(Gv k ds)[i]?=some e):∃d,ds[i]?=some d/\e=.tup [.int ((k+i:Nat):Int),d]:=by
 induction ds generalizing k i with
 |nil=>rw[Gv] at h;simp at h
 |cons d r ih =>
  cases i with
  |zero=>rw[Gv] at h;simp at h;exact⟨d,rfl,by rw[<-h];rfl⟩
  |succ i =>
   rw[Gv,zak] at h;obtain⟨d',h1,h2⟩:=ih h;refine⟨d',by simpa using h1,?_⟩;rw[h2];congr 3;omega
theorem N2 {bH:List Expr}{x1}{bf p:Pos}(hg:Gl X "enumerate")(hm:X.mg "enumerate" = none)(ha:DE X WX true a f)(hb:bootBuiltins "enumerate" = some (.type "enumerate"):=by decide +kernel)(hs:starEach [a] X.env=[(false,eval a X.env)]:=by rfl):
 DI X WX (.Tuple bH x1 bf) (.Call (.Name "enumerate" p) [a] [] pos) (λ ρ=>(f ρ).bind λ d=>match d with | .lst ds=>.ok (Gv 0 ds)|_=>.bad):=by
 obtain⟨ta,a1,a2⟩:=ha;refine⟨_,iH hg hm (BC a1 CP hs) hb hs,λ P0 P σ H R ρ E h=>?_⟩;dsimp only at h;refine a2 P0 P σ H _ ρ E ?_;cases q:f ρ with
 |bad|ex x=>rw[q] at h;exact h
 |ok d =>
  rw[q] at h;cases d with
  |lst ds =>
   intro v H1 s1 hv;cases hv with
   | @lst a xs _ hs hl =>
    refine⟨a,rfl,⟨xs,hs.B2⟩,h _ H1 s1 ⟨λ i P' H' s hi=>?_,λ i P' H' s hi=>?_,λ i P' H' v c8 d s ht hd y=>?_⟩⟩
    ·rw[CD] at hi;obtain⟨x,hx,_⟩:=hl.get (z4 hi);exact⟨xs,x,(s.seq hs).B2,hx⟩
    ·rw[CD] at hi;exact⟨xs,(s.seq hs).B2,by rw[hl.length];exact hi⟩
    ·obtain⟨p,x,hn,rfl,y,rfl⟩:=y;obtain⟨d',bT,rfl⟩:=Fy hd;obtain⟨x',hx,aO⟩:=hl.get bT;have e:=y xs (s.seq hs).B2;rw[hx] at e;cases e;refine⟨AM hn _,.tup (JW hn ht) (.cons ?_ (.cons ((aO.mono s).mono (AM hn _).del) .nil))⟩;rw[Nat.zero_add];exact .int _
  |_=>exact h.elim
theorem H9 {α:Type}{l:List α}{i:Nat}(h:i<l.length):l.drop i=l[i]::l.drop (i+1):=zc8 h
theorem BM {body:List Stmt}(hp:PassesOwn (model X.prog X.w) X.A X.env X.xe)(hc:X.calm=true)(hi:DI X WX tg iter fi)(hg:DG X tg gt)(hb:UJ X WX body gb)(hs:∀x,foldedSetIterable iter X.env x=pure x:=by intro _;rfl):
 DS X WX (.For tg iter body [] pos) (λ ρ=>(fi ρ).bind λ ds=>forM gt gb ds ρ):=by
 obtain⟨wi,i1,i2⟩:=hi;obtain⟨t,a1,a2⟩:=hg;obtain⟨tb,b1,b2⟩:=hb;refine⟨_,oH hp hc i1 a1 b1 hs,λ P0 P σ H Z ρ E h=>?_⟩;dsimp only at h;refine i2 P0 P σ H _ ρ E ?_;cases q:fi ρ with
 |bad=>rw[q] at h;exact h
 |ex x=>rw[q] at h;exact λ H' s=>h H' P (E.tr s)
 |ok ds =>
  rw[q] at h;simp only[M.Aa] at h;intro J H1 s1 ok;refine⟨λ i m σ' H'=>m=ds.length-i/\i<=ds.length/\∃P' ρ',Tr P0 P H1 P' H'/\Al X.K P0 P' H' σ' ρ'/\gS X.K WX P0 P' H' Z (forM gt gb (ds.drop i) ρ'),
   ⟨ds.length,by simp,zb1 _,P,ρ,Tr.refl,E.same s1,by rw[zcu];exact h.tr (E.tr s1)⟩,?_⟩
  rintro i m σ' H' ⟨rfl,hi,P',ρ',t',E',g'⟩;by_cases af:i<ds.length
  ·refine .inr ⟨ok.go i P' H' t'.1 af,λ σ2 H2=>i+1<=ds.length/\∃P2 ρ2,Tr P0 P H1 P2 H2/\Al X.K P0 P2 H2 σ2 ρ2/\gS X.K WX P0 P2 H2 Z (forM gt gb (ds.drop (i+1)) ρ2),λ σ2 H2 hq=>⟨ds.length-(i+1),by omega,rfl,hq.1,hq.2⟩,λ v H2 y=>?_⟩;obtain⟨s2,hv⟩:=ok.gB i P' H' v H2 ds[i] t'.1 E'.Cn (z4 af) y;rw[H9 af,forM] at g';have E2:=E'.same s2;refine a2 P0 P' σ' H2 _ ρ' v ds[i] E2 hv ?_;cases q1:gt ds[i] ρ' with
   |bad=>rw[q1] at g';exact g'
   |ex x=>rw[q1] at g';exact g'.elim
   |ok ρ1 =>
    rw[q1] at g';dsimp only at g';intro σ3 E3;refine b2 P0 P' σ3 H2 _ ρ1 E3 ?_;have tt:Tr P0 P H1 P' H2:=t'.trans (E'.tr s2);cases q2:gb ρ1 with
    |bad=>rw[q2] at g';exact g'
    |ex x=>rw[q2] at g';exact gS.tr (m:=.ex x) g' (E'.tr s2)
    |ok o =>
     rw[q2] at g';cases o with
     |ret d=>exact gS.tr (m:=.ok (.ret d)) g' (E'.tr s2)
     |CM d=>exact gS.tr (m:=.ok (.CM d)) g' (E'.tr s2)
     |Fw d ρ2=>exact gS.tr (m:=.ok (.Fw d ρ2)) g' (E'.tr s2)
     |next ρ2|cont ρ2=>exact λ σ4 H4 P4 t4 E4=>⟨af,P4,ρ2,tt.trans t4,E4,gS.tr g' ((E'.tr s2).trans t4)⟩
     |brk ρ2=>exact λ σ4 H4 P4 t4 E4=>g' σ4 H4 P4 ((E'.tr s2).trans t4) E4
  ·have e:i=ds.length:=by omega
   subst e;refine .inl ⟨ok.stop _ P' H' t'.1 (za2 _),?_⟩;rw[zcf,forM] at g';exact g' σ' H' P' Tr.refl E'
end
noncomputable def Vj (K:zt)(n:Nat)(F:List D->M D):Sp:=λ vs H Q _=>vs.length=n/\∃P ds,(∀a,P a->EW H a)/\Ai K (del H P) vs ds/\gV K (λ _ _=>False) P H Q (F ds)
noncomputable def Dx (N:List Str)(ds:List D):Ad:=ds.map (λ d=>some (.val d))++za7 (N.length-ds.length) none
noncomputable def yY:Cl->M D
 | .val d=>.ok d
 | .own ds=>.ok (.lst ds)
 | .ow (.rows FZ)=>.ok (.lst (FZ.map D.lst))
 | .ow (.MI _ _)=>.bad
 | .ow (.tree _ t)=>.ok (er t)
noncomputable def fin (m:M Out):M D:=match m with
 | .ok (.ret d)=>.ok d
 | .ok (.CM c)=>yY c
 | .ok (.next _)=>.ok .AN
 |_=>.bad
theorem Qw {K:zt}{P:Addr->Prop}{H:Hp}{N:List Str}{vs:List V}{ds:List D}(ht:∀a,P a->EW H a)(h:Ai K (del H P) vs ds):Al K ⟨P,λ _=>0⟩ P H (start N vs) (Dx N ds):=by
 have hl:=h.length;have key:∀(i:Nat) (c:Cl),(Dx N ds)[i]?=some (some c)->∃d,ds[i]?=some d/\c=.val d:=λ i c e=>by
  unfold Dx at e;by_cases hi:i<ds.length
  ·rw[zbz (by simpa using hi),zaa] at e;cases q:ds[i]? with
   |none=>rw[q] at e;cases e
   |some d=>rw[q] at e;cases e;exact⟨d,rfl,rfl⟩
  ·rw[zcs (by simpa using hi),zc3] at e;split at e<;>cases e
 refine⟨λ _ h=>h,ht,λ i d e=>?_,λ i es e io=>?_,λ i j c c' v v' fp ah e _ _ _ ho _ _=>?_,?_,λ i c n e hp=>?_⟩
 rotate_left 4
 ·obtain⟨d',q,z⟩:=key i _ e;cases z;cases hp
 ·obtain⟨d',q,z⟩:=key i _ e;cases z;obtain⟨v,hv,hd⟩:=h.get q;refine⟨v,?_,hd⟩;unfold start;rw[zbz (by rw[zv];exact (za3.mp hv).1),zaa,hv];rfl
 ·obtain⟨d',q,z⟩:=key i _ e;cases z;cases io
 ·obtain⟨d',q,z⟩:=key i _ e;cases z;exact ho.elim
 ·unfold start Dx;simp[hl]
theorem E8 {P:Addr->Prop}{H H':Hp}{P':Addr->Prop}(t:Tr P P H P' H'):Ah H H':=λ b o e=>by
 by_cases hb:P b
 ·rw[t.2 b hb];exact e
 ·exact (Am (t.1 b o (by rw[AD hb];exact e))).2
theorem CS.pU {K:zt}{H:Hp}{P P0:Addr->Prop}(hs:∀a,P0 a->P a):∀ {ps:List Addr}{FZ:List (List D)},(∀a∈ps,¬ P0 a)->CS K H P ps FZ->Ai K (del H P0) (ps.map V.ref) (FZ.map D.lst)
 |_,_,_,.nil=>.nil
 |_,_,k,.cons h r t=>.cons (.lst (.of (show del H P0 _=_ by rw[AD (k _ zw)];exact h)) (r.mono (CQ hs))) (CS.pU hs (λ a ha=>k a (zx _ ha)) t)
theorem iN {K:zt}{WX:Str->Hp->Prop}{P P2:Addr->Prop}{H H':Hp}{Q:VK}{c:Cl}{v:V}{fp:List Addr}(h:gV K WX P H Q (yY c))(t':Tr P P H P2 H')(hs:∀a,P a->P2 a)(ht:∀a,P2 a->EW H' a)(ho:CT K H' P2 c v fp)(hp:∀a∈fp,P2 a/\¬ P a):Q v H':=by
 cases c with
 |val d=>exact ho.elim
 |own ds =>
  obtain⟨p,xs,rfl,rfl,h1,h2⟩:=ho;exact h _ H' (E8 t') (.lst (.of (show del H' P p=_ by rw[AD (hp p zw).2];exact h1)) (h2.mono (CQ hs)))
 |ow o =>
  cases o with
  |rows FZ =>
   obtain⟨p,ps,rfl,rfl,h1,h2⟩:=ho;exact h _ H' (E8 t') (.lst (.of (show del H' P p=_ by rw[AD (hp p zw).2];exact h1)) (h2.pU hs λ a ha=>(hp a (zx _ ha)).2))
  |MI p ds=>exact h.elim
  |tree p t=>exact h _ H' (E8 t') (BX.has hs (λ a ha=>(hp a ha).2) ho)
section
variable {P:Program}{w:World}{K:zt}{mg:Str->Option Value}{base:Heap}
theorem uS {x qual:Str}{st:Stmt}{f:Addr}{fd:FuncData}{N ps:List Str}{k:Nat}(F:Z9 K x qual st f fd)(S:Ae N ps (A5 st))(g:Ad->M Out)
 (hb:∀(B1:Value) (A:Around) (outer:List Env) (s:Shared) (H:Hp) (E:XK),BL k (A.deeper (envOfC qual (A5 st) s.heap.objs.size f B1))->UJ (SJ hX P w K mg base N qual (A5 st) f B1 A outer s H E).tF (λ _ _=>False) (AQ st) g):
 E7 P w K mg base hX (k+1) f fd ps (Vj K ps.length λ ds=>fin (g (Dx N ds))):=by
 refine F.ok S (λ vs H Q E h=>h.1) λ B1 A outer s H vs Q E hr h=>?_;obtain⟨hl,P',ds,ht,hv,hq⟩:=h;obtain⟨t,h1,h2⟩:=hb B1 A outer s H E hr;refine⟨t,h1,h2 ⟨P',λ _=>0⟩ P' _ H _ _ (Qw ht hv) ?_⟩;dsimp only at hq;revert hq;cases g (Dx N ds) with
 |bad|ex x=>exact λ h=>h.elim
 |ok o =>
  cases o with
  |ret d=>exact λ h v H' P2 t hv=>h v H' (E8 t) hv
  |next ρ=>exact λ h σ' H' P2 t E=>h .AN H' (E8 t) .AN
  |brk ρ|cont ρ=>exact λ h=>h.elim
  |CM c=>exact λ h v fp H' P2 t hs ht ho hp nd=>iN h t hs ht ho hp
  |Fw d ρ=>exact λ h=>h.elim
end
section
variable {X:Cx}{WX:Str->Hp->Prop}{c:Bool}{P0:DJ}{P:Addr->Prop}{H:Hp}{σ:St}{ρ:Ad}{a b e tg iter:Expr}{f g:Ad->M D}{ft:Ad->M Bool}{pos:Pos}{gt:D->Ad->M Ad}{fi:Ad->M (List D)}{es:List Expr}{fs:Ad->M (List D)}
noncomputable def B8 (μ:List (Option Nat))(ρ:Ad):Ad:=μ.map λ o=>o.bind λ i=>match ρ[i]? with | some (some (.val d))=>some (.val d) | _=>none
theorem Ib {μ:List (Option Nat)}{ρ:Ad}{j:Nat}{cl:Cl}(h:(B8 μ ρ)[j]?=some (some cl)):∃i d,μ[j]?=some (some i)/\ρ[i]?=some (some (.val d))/\cl=.val d:=by
 unfold B8 at h;rw[zaa] at h;cases q:μ[j]? with
 |none=>rw[q] at h;cases h
 |some o =>
  rw[q] at h;cases o with
  |none=>cases h
  |some i =>
   simp only[zb8,Option.bind_some,Option.some.injEq] at h;split at h
   ·rename_i d e;cases h;exact⟨i,d,rfl,e,rfl⟩
   ·cases h
theorem Al.block {K:zt}(E:Al K P0 P H σ ρ)(μ:List (Option Nat)):Al K P0 P H (Fc μ σ) (B8 μ ρ):=by
 refine⟨E.sub,E.Cn,λ j d h=>?_,λ j ds h io=>?_,λ j k c c' v v' fp ah h _ _ _ ho _ _=>?_,by unfold Fc B8;simp,λ j c n h hp=>by obtain⟨i,d',h1,h2,h3⟩:=Ib h;subst h3;cases hp⟩
 ·obtain⟨i,d',h1,h2,h3⟩:=Ib h;cases h3;obtain⟨v,h4,h5⟩:=E.val i d h2;refine⟨v,?_,h5⟩;unfold Fc;rw[zaa,h1];simp[h4]
 ·obtain⟨i,d',h1,h2,h3⟩:=Ib h;cases h3;cases io
 ·obtain⟨i,d',h1,h2,h3⟩:=Ib h;cases h3;exact ho.elim
noncomputable def B4 (gt:D->Ad->M Ad)(ft:Ad->M Bool)(fe:Ad->M D):List D->Ad->M (List D)
 |[],_=>.ok []
 |d::r,ρ=>match gt d ρ with
  | .ok ρ1=>(match ft ρ1 with
   | .ok k=>if k=true then (match fe ρ1 with
    | .ok y=>(match B4 gt ft fe r ρ with | .ok ys=>.ok (y::ys)|_=>.bad)
    |_=>.bad) else B4 gt ft fe r ρ
   |_=>.bad)
  |_=>.bad
def sF (X:Cx)(scope:Scope)(NB:List Str)(μ:List (Option Nat))(tg:Expr)(gt:D->Ad->M Ad):Prop:=
 ∃g:TG,(∀s H C ex,PG (blockOf X s H scope C NB ex) tg g)/\Lz μ g/\∀P0 P σ H Q ρ v d,Al X.K P0 P H σ ρ->BD X.K (del H P) v d->gG X.K P0 P H Q (gt d ρ)->g v σ H Q
theorem Bw {scope:Scope}{NB:List Str}{μ:List (Option Nat)}(i:Nat){x:Str}(hN:NB.Nodup)(hi:NB[i]?=some x)(hx:(relabel scope X.env).names.lookup x=some .local)(hm:μ[i]?=some none):sF X scope NB μ (.Name x pos) (λ d ρ=>.ok (ρ.set i (some (.val d)))):=
 ⟨Qi i,λ s H C ex=>Rh (X:=blockOf X s H scope C NB ex) hN hi (.inl hx) (.inr hx),iG hm,λ P0 P σ H Q ρ v d E hv h=>h _ (E.Vf hv)⟩
def sG (X:Cx)(cs:List Expr)(f:Ad->M Bool):Prop:=
 ∃t,sD X cs t/\∀P0 P σ H Q ρ,Al X.K P0 P H σ ρ->gT (λ _ _=>False) H Q (f ρ)->t σ H Q
theorem E9:sG X [] (λ _=>.ok true):=⟨_,iE,λ P0 P σ H Q ρ E h=>h H (Ah.refl H)⟩
theorem Ea (h:DT X (λ _ _=>False) a ft):sG X [a] ft:=let ⟨t,h1,h2⟩:=h;⟨_,iF h1,h2⟩
noncomputable def K0 (m:M (List D)):M D:=match m with | .ok ys=>.ok (.lst ys) | _=>.bad
theorem pV {μ:List (Option Nat)}{wi:TI}{gg:TG}{tc:Shared->Hp->Addr->List Addr->TT}{te:Shared->Hp->Addr->List Addr->TE}{fe:Ad->M D}
 (i2:∀P0 P σ H R ρ,Al X.K P0 P H σ ρ->(match fi ρ with | .ok ds=>∀J H',Ah H H'->Vg X.K J P H' ds->R J H' | .ex x=>∀H',Ah H H'->WX x H' | .bad=>False)->wi σ H R)
 (g2:∀P0 P σ H Q ρ v d,Al X.K P0 P H σ ρ->BD X.K (del H P) v d->gG X.K P0 P H Q (gt d ρ)->gg v σ H Q)
 (t2:∀s H' C ex P0 P σ H Q ρ,Al X.K P0 P H σ ρ->gT (λ _ _=>False) H Q (ft ρ)->tc s H' C ex σ H Q)
 (e2:∀s H' C ex P0 P σ H Q ρ,Al X.K P0 P H σ ρ->gV X.K (λ _ _=>False) (Lv c P0 P) H Q (fe ρ)->te s H' C ex σ H Q) {Q:VK}
 (E:Al X.K P0 P H σ ρ) (h:gV X.K WX (Lv c P0 P) H Q ((fi ρ).bind λ ds=>if ds.length<=1000 then K0 (B4 gt ft fe ds (B8 μ ρ)) else .bad)):T5 wi μ gg tc te σ H Q:=by
 refine i2 P0 P σ H _ ρ E ?_;cases q:fi ρ with
 |bad|ex x=>rw[q] at h;exact h
 |ok ds =>
  rw[q] at h;simp only[M.Aa] at h;by_cases hd:¬ ds.length<=1000
  ·rw[if_neg hd] at h;exact h.elim
  have hd:ds.length<=1000:=by omega
  rw[if_pos hd] at h;intro J H1 s1 ok s C ex;cases qc:B4 gt ft fe ds (B8 μ ρ) with
  |bad|ex x=>rw[qc] at h;exact h.elim
  |ok total =>
   rw[qc] at h;unfold K0 at h;dsimp only at h;have E1:=E.same s1;refine⟨λ i m ys H2=>m=ds.length-i/\i<=ds.length/\ys.length<=i/\Ah H1 H2/\∃es rest,Ai X.K (del H2 (Lv c P0 P)) ys es/\B4 gt ft fe (ds.drop i) (B8 μ ρ)=.ok rest/\es++rest=total,
    ⟨ds.length,by simp,zb1 _,za2 _,Ah.refl _,[],total,.nil,by rw[zcu];exact qc,rfl⟩,?_⟩
   rintro i m ys H2 ⟨rfl,hi,hy,s2,es,rest,b9,ae,a6⟩;by_cases af:i<ds.length
   ·refine .inr ⟨ok.go i P H2 s2.del af,Nat.lt_of_le_of_lt hy (AH (by omega)),λ aJ H'=>i+1<=ds.length/\aJ.length<=i+1/\Ah H1 H'/\∃es rest,Ai X.K (del H' (Lv c P0 P)) aJ es/\B4 gt ft fe (ds.drop (i+1)) (B8 μ ρ)=.ok rest/\es++rest=total,λ aJ H' hq=>⟨ds.length-(i+1),by omega,rfl,hq.1,hq.2.1,hq.2.2.1,hq.2.2.2⟩,λ v H3 y=>?_⟩;have E2:=E1.same s2;obtain⟨s3,hv⟩:=ok.gB i P H2 v H3 ds[i] s2.del E2.Cn (z4 af) y;rw[H9 af,B4] at ae;have E3:=(E2.same s3).block μ;refine g2 P0 P _ H3 _ (B8 μ ρ) v ds[i] E3 hv ?_;cases q1:gt ds[i] (B8 μ ρ) with
    |bad|ex x=>rw[q1] at ae;cases ae
    |ok ρ1 =>
     rw[q1] at ae;dsimp only at ae;intro σ4 E4;refine t2 s H1 C ex P0 P σ4 H3 _ ρ1 E4 ?_;cases q2:ft ρ1 with
     |bad|ex x=>rw[q2] at ae;cases ae
     |ok k =>
      rw[q2] at ae;dsimp only at ae;intro H5 s5;cases k with
      |false =>
       simp only[zag,if_false] at ae ⊢;exact⟨af,by omega,(s2.trans s3).trans s5,es,rest,(b9.mono s3.del).mono s5.del,ae,a6⟩
      |true =>
       simp only[if_true] at ae ⊢;refine e2 s H1 C ex P0 P σ4 H5 _ ρ1 (E4.same s5) ?_;cases q3:fe ρ1 with
       |bad|ex x=>rw[q3] at ae;cases ae
       |ok y' =>
        rw[q3] at ae;dsimp only at ae;cases q4:B4 gt ft fe (ds.drop (i+1)) (B8 μ ρ) with
        |bad|ex x=>rw[q4] at ae;cases ae
        |ok ja =>
         rw[q4] at ae;cases ae;intro w H6 s6 hw;refine⟨af,by rw[za6,zav];omega,((s2.trans s3).trans s5).trans s6,es++[y'],ja,(((b9.mono s3.del).mono s5.del).mono s6.del).snoc hw,rfl,?_⟩;rw[zb5];exact a6
   ·have e:i=ds.length:=by omega
    subst e;rw[zcf,B4] at ae;cases ae;rw[zb0] at a6;subst a6;refine .inl ⟨ok.stop _ P H2 s2.del (za2 _),λ D0 hn=>h _ _ ((s1.trans s2).trans (AM hn _)) (.lst (.of (JW hn λ a q=>(E1.same s2).uJ c a q)) (b9.mono (AM hn _).del))⟩
theorem K1 {scope:Scope}{NB:List Str}{ifs:List Expr}{elt:Expr}{fe:Ad->M D}(i:Nat){x:Str}{px ax:Pos}(μ:List (Option Nat))(hN:X.N.Nodup)(i5:X.N[i]?=some x)(hx:Loc X.env.scope x)(hc:X.calm=true)(hi:DI X WX tg iter fi)(av:GJ scope X.env.scope=true)(aU:PP X.N NB scope μ=true)(hg:sF X scope NB μ tg gt)
 (ht:∀s H C ex,sG (blockOf X s H scope C NB ex) ifs ft) (he:∀s H C ex,DE (blockOf X s H scope C NB ex) (λ _ _=>False) true elt fe)
 (bz:swapsWith (.ListComp elt [⟨tg,iter,ifs,0⟩] scope pos) (some (.Name x px)) ax.line X.env=pure true:=by rfl) (hs:∀x,foldedSetIterable iter X.env x=pure x:=by intro _;rfl) (hf:X.fn x=true\/X.env.scope.names.lookup x=some .local:=by first|exact .inl rfl|exact .inr rfl|assumption):
 DS X WX (.Assign [.Name x px] (.ListComp elt [⟨tg,iter,ifs,0⟩] scope pos) ax) (λ ρ=>((fi ρ).bind λ ds=>if ds.length<=1000 then K0 (B4 gt ft fe ds (B8 μ ρ)) else .bad).bind λ d=>.ok (.next (ρ.set i (some (.val d))))):=by
 obtain⟨wi,i1,i2⟩:=hi;obtain⟨gg,g1,gk,g2⟩:=hg;refine⟨_,WA hN i5 hx hc i1 av aU gk (λ s H C ex=>⟨g1 s H C ex,(zu (ht s H C ex)).1,(zu (he s H C ex)).1⟩) bz hs hf,λ P0 P σ H Z ρ E h=>?_⟩;refine pV (c:=true) i2 g2 (λ s H' C ex P0 P σ H Q ρ E h=>(zu (ht s H' C ex)).2 P0 P σ H Q ρ E h) (λ s H' C ex P0 P σ H Q ρ E h=>(zu (he s H' C ex)).2 P0 P σ H Q ρ E h) E ?_;dsimp only at h;revert h;cases ((fi ρ).bind λ ds=>if ds.length<=1000 then K0 (B4 gt ft fe ds (B8 μ ρ)) else .bad) with
 |bad=>exact λ h=>h
 |ex y=>exact λ h H' s=>h H' P (E.tr s)
 |ok d=>exact λ h v H' s hv=>h _ H' P (E.tr s) ((E.same s).Vf hv)
end
section
variable {X:Cx}{WX:Str->Hp->Prop}{c:Bool}{P0:DJ}{P:Addr->Prop}{H:Hp}{σ:St}{ρ:Ad}{a b e k:Expr}{f g:Ad->M D}{te tk:TE}{pos p2:Pos}
noncomputable def aaz (x y:D):M D:=match x,y with | .lst ds,.int i=>if i = -1 then .ok (.lst ds.reverse) else .bad | _,_=>.bad
noncomputable def CF:List D->Option (List Int)
 |[]=>some []
 | .int i::r=>(CF r).map (i::·)
 |_=>none
noncomputable def bU:D->Option (List Int)
 | .tup ds=>CF ds
 |_=>none
noncomputable def Ha:List D->Option (List (D×List Int))
 |[]=>some []
 |d::r=>(bU d).bind λ k=>(Ha r).map ((d,k)::·)
noncomputable def WI (l d:D):M D:=match l with
 | .lst ds=>(match Ha ds with|some ks=>.ok (match Be ks with|none=>d|some b=>b.1)|none=>.bad)
 |_=>.bad
theorem LG {K:zt}{H:Hp}:∀ {xs:List V}{ds:List D}{ns:List Int},Ai K H xs ds->CF ds=some ns->xs=ns.map V.int
 |_,_,_,.nil,e=>by simp only[CF] at e;cases e;rfl
 |_,_,_,.cons (d:=d) h t,e=>by
  cases d with
  |int i =>
   simp only[CF] at e;cases q:CF _ with
   |none=>rw[q] at e;cases e
   |some ns =>
    rw[q] at e;cases e;rw[h.int_inv,LG t q];rfl
  |_=>simp[CF] at e
noncomputable abbrev Alike (K:zt)(H:Hp):List (Addr×List Int)->List (D×List Int)->Prop:=Paired λ p q=>p.2=q.2/\BD K H (.ref p.1) q.1
theorem Jn {K:zt}{H:Hp}:∀ {xs:List V}{ds:List D}{ks:List (D×List Int)},Ai K H xs ds->Ha ds=some ks->∃bs:List (Addr×List Int),xs=bs.map (λ b=>V.ref b.1)/\(∀b∈bs,EY K H b.1 (b.2.map V.int))/\Alike K H bs ks
 |_,_,_,.nil,e=>by simp only[Ha] at e;cases e;exact⟨[],rfl,by simp,.nil⟩
 |_,_,_,.cons (d:=d) h t,e=>by
  simp only[Ha] at e;cases q:bU d with
  |none=>rw[q] at e;cases e
  |some k =>
   rw[q] at e;simp only[Option.bind_some] at e;cases q2:Ha _ with
   |none=>rw[q2] at e;cases e
   |some ks =>
    rw[q2] at e;cases e;obtain⟨bs,h1,h2,h3⟩:=Jn t q2;cases d with
    |tup es =>
     have h':=h;cases h with
     | @tup a xs _ hs hl =>
      simp only[bU] at q;have e1:=LG hl q;subst e1;refine⟨(a,k)::bs,by rw[h1];rfl,λ b hb=>?_,.cons ⟨rfl,h'⟩ h3⟩;rcases z8.mp hb with z|z
      ·subst z;exact EY.of hs
      ·exact h2 b z
    |_=>simp[bU] at q
theorem NZ {K:zt}{H:Hp}{bs:List (Addr×List Int)}{ks:List (D×List Int)}(h:Alike K H bs ks):(Be bs=none/\Be ks=none)\/∃b k,Be bs=some b/\Be ks=some k/\b.2=k.2/\BD K H (.ref b.1) k.1:=by
 unfold Be
 suffices z:∀(o:Option (Addr×List Int)) (o':Option (D×List Int)),((o=none/\o'=none)\/∃b k,o=some b/\o'=some k/\b.2=k.2/\BD K H (.ref b.1) k.1)->
  ((bs.foldl BK o=none/\ks.foldl BK o'=none) \/
   ∃b k,bs.foldl BK o=some b/\ks.foldl BK o'=some k/\b.2=k.2/\BD K H (.ref b.1) k.1) from z none none (.inl ⟨rfl,rfl⟩)
 induction h with
 |nil=>intro o o' h;exact h
 | @cons b k bs ks hh t ih =>
  intro o o' h;rw[zah,zah];refine ih _ _ ?_;rcases h with ⟨rfl,rfl⟩|⟨b',k',rfl,rfl,e1,e2⟩
  ·exact .inr ⟨b,k,rfl,rfl,hh⟩
  ·unfold BK;dsimp only;rw[hh.1,e1];by_cases hl:HT.lexLt k.2 k'.2=true
   ·rw[if_pos hl,if_pos hl];exact .inr ⟨b,k,rfl,rfl,hh⟩
   ·rw[if_neg hl,if_neg hl];exact .inr ⟨b',k',rfl,rfl,e1,e2⟩
theorem iO {p kp:Pos}{e2:Expr}(hc:X.calm=true)(hu:X.A.units+1<cLine)(hg:Gl X "min")(hm:X.mg "min" = none)(ha:DE X WX c e f)(hb:DE X WX c e2 g)
 (aD:starEach [e] X.env=[(false,eval e X.env)]:=by rfl) (aE:(backToKw pos (keywordEach [⟨some "default",e2,kp⟩] X.env)).all (·.1.isSome)=true:=by rfl) (oe:(backToKw pos (keywordEach [⟨some "default",e2,kp⟩] X.env)).filterMap (·.1)=([("default" : Str)]:List Str):=by rfl)
 (og:(backToKw pos (keywordEach [⟨some "default",e2,kp⟩] X.env)).any (·.1.isNone)=false:=by rfl) (bJ:backTo pos (starEach [e] X.env)=(false,eval e X.env)::backTo pos (starEach [] X.env):=by rfl) (hpl:(backTo pos (starEach [e] X.env)).any (·.1)=false:=by rfl):
 DE X WX c (.Call (.Name "min" p) [e] [⟨some "default",e2,kp⟩] pos) (λ ρ=>(f ρ).bind λ x=>(g ρ).bind λ y=>WI x y):=by
 obtain⟨ta,a1,a2⟩:=ha;obtain⟨tb,b1,b2⟩:=hb;refine⟨_,iI hc hu hg hm a1 b1 aD aE oe og bJ hpl,λ P0 P σ H Q ρ E h=>T9 (r:=λ x d H2 Q=>∃(a:Addr) (bs:List (Addr×List Int)),x=.ref a/\Dc X.K H2 a (bs.map λ b=>V.ref b.1)/\(∀b∈bs,EY X.K H2 b.1 (b.2.map V.int))/\Q (match Be bs with|none=>d|some b=>.ref b.1) H2) a2 b2 ?_ E h⟩;intro P H x y v w Q ht hx hy h;unfold WI at h;split at h
 ·rename_i ds;split at h
  ·rename_i ks e1;cases hx with
   | @lst a xs _ hs hl =>
    obtain⟨bs,rfl,h2,h3⟩:=Jn hl e1;refine⟨a,bs,rfl,hs.B2,λ b hb=>(h2 b hb).B2,?_⟩;rcases NZ h3 with ⟨q1,q2⟩|⟨b,k,q1,q2,_,q3⟩
    ·rw[q1];rw[q2] at h;exact h _ H (Ah.refl H) hy
    ·rw[q1];rw[q2] at h;exact h _ H (Ah.refl H) q3
  ·exact h.elim
 ·exact h.elim
end
theorem huR {A:Around}{k:Nat}(hr:BL k A)(n:Nat)(hn:n<=64):A.units+n<cLine:=by have:=hr.units;omega
structure AG (K:zt)(mg:Str->Option Value)(x:Str)(st:Stmt)(ps:List Str):Prop where
 ex:∃f fd,Z9 K x x st f fd/\mg x=some (.ref f)/\Binds K fd ps []
theorem bV (ds:List D)(n:Nat):mE none (some (n:Int)) (.lst ds)=.ok (.lst (ds.take n)):=by
 unfold mE;dsimp only;rw[HT.SN,HT.N0,zcu,Nat.sub_zero];congr 2;rw[Nat.min_def];split
 ·rfl
 ·rw[zci (za2 _),zci (by omega)]
noncomputable def Za (P:Program)(w:World)(base:Heap):Wq:=λ _ _ _ _ _ _=>False
noncomputable abbrev mF (P:Program)(w:World)(K:zt)(mg:Str->Option Value)(base:Heap)(N:List Str)(qual:Str)(scope:Scope)(f:Addr)(cd:Value)(A:Around)(outer:List Env)(s:Shared)(H:Hp)(E:XK):Cx:=
 SJ (Za P w base) P w K mg base N qual scope f cd A outer s H E
structure IR (X:Cx)(E:XK):Prop where
 call:Jh (Za X.prog X.w X.base) X E
 own:PassesOwn (model X.prog X.w) X.A X.env X.xe
theorem A7 {P:Program}{w:World}{K:zt}{mg:Str->Option Value}{base:Heap}{N:List Str}{qual:Str}{scope:Scope}{f:Addr}{cd:Value}{A:Around}{outer:List Env}{s:Shared}{H:Hp}{E:XK}:
 IR (mF P w K mg base N qual scope f cd A outer s H E) E:=⟨λ _ _ _ _ _ _ _ h=>h.elim,PassesOwn.leaving⟩
theorem BN {X:Cx}(h:X.xe=λ _ _=>False):IR X E0:=⟨λ _ _ _ _ _ _ _ h=>h.elim,by rw[h];exact PassesOwn.never⟩
theorem IR.toXCall {X:Cx}{E:XK}(h:IR X E):IR X E:=h
def Ff (K:zt)(E:XK):Str->Hp->Prop:=λ x H=>∃c,zap K mainGlobals x=some (some (.ref c))/\E (.ref c) none H
section
variable {X:Cx}{WX:Str->Hp->Prop}{c:Bool}{a b e:Expr}{f g:Ad->M D}{pos p:Pos}
noncomputable def mG (K:zt):R2:=λ x y H Q=>∃l b xs zs,x=.ref l/\y=.ref b/\Dc K H l xs/\Dc K H b zs/\xs.length+zs.length<=sizeLine/\∀p,H p=none->Q (.ref p) (upd H p (.lst (xs++zs)))
theorem iP:FW X (binaryOp .Add) (mG X.K):=by
 intro pins s σ H x y v u Q I rx ry h;obtain⟨l,b,xs,zs,rfl,rfl,h1,h2,hz,q⟩:=h;cases rx;cases ry;obtain⟨aa,r,⟨⟨c1,d1,t1,vt⟩,n,e1,q1,q2,q3⟩,bW⟩:=I.list h1;obtain⟨aG,r2,⟨⟨c2,d2,t2,im⟩,n2,e2,q4,q5,q6⟩,zc⟩:=I.list h2;dsimp only at q1 q2 q3 q4 q5 q6;subst q1 q2 q3 q4 q5 q6;have l1:=r.length;have l2:=r2.length;refine concat_meets ⟨_,e1,rfl⟩ ⟨_,e2,rfl⟩ noFill_list_add seq_list_add PySem.F.slot_list_add PySem.F.entry_list_add (PySem.F.args_list_add_2 _ _) (list_addW l b aa.toArray aG.toArray n n2 none none vt im (by rw[za0,za0];omega)) ⟨e1,e2,?_⟩;rw[show aa.toArray++aG.toArray=(aa++aG).toArray by simp];exact⟨.ref _,_,I.tZ (t':=s.toks) (r.append r2) (by rw[za6];omega),rfl,q _ I.fresh⟩
noncomputable def aab (x y:D):M D:=match x,y with
 | .int i,.int j=>.ok (.int (i+j))
 | .lst ds,.lst es=>if ds.length+es.length<=1000 then .ok (.lst (ds++es)) else .bad
 |_,_=>.bad
theorem Ai.uT {K:zt}{H:Hp}:∀ {xs ys:List V}{ds es:List D},Ai K H xs ds->Ai K H ys es->Ai K H (xs++ys) (ds++es)
 |_,_,_,_,.nil,h=>h
 |_,_,_,_,.cons a t,h=>.cons a (t.uT h)
noncomputable def wX (neg:Bool)(x y:D):M D:=match x,y with
 | .int i,.lst ds=>(match CF ds with|some ns=>.ok (.bl (if neg then !ns.contains i else ns.contains i))|none=>.bad)
 |_,_=>.bad
theorem bX (i:Int)(ns:List Int):wQ (.int i) (ns.map V.int)=ns.contains i:=by
 unfold wQ;induction ns with
 |nil=>rfl
 |cons n r ih =>
  rw[zy,zcr,ih,List.contains_cons];congr 1;show (n==i)=(i==n);rw[zcd,beq_iff_eq,beq_iff_eq];exact eq_comm
theorem Y5 (ns:List Int):(ns.map V.int).all JP=true:=by
 induction ns with
 |nil=>rfl
 |cons n r ih=>rw[zy,List.all_cons,ih];rfl
theorem Hb {neg:Bool}:WG X.K WX (wR X.K neg) (wX neg):=by
 intro P H x y v w Q ht hx hy h;unfold wX at h;split at h
 ·rename_i i ds;split at h
  ·rename_i ns hn;cases hx;cases hy with
   |lst h1 h2 =>
    have e:=LG h2 hn;subst e;refine⟨_,_,rfl,.inl h1.B2,rfl,Y5 ns,?_⟩;rw[bX];exact h _ H (Ah.refl H) (.bl _)
  ·exact h.elim
 ·exact h.elim
end
section
variable {X:Cx}{WX:Str->Hp->Prop}
theorem Vk {st:Stmt}:DS X WX st (λ _=>.bad):=⟨λ _ _ _=>False,λ _ _ _ _ _ _ h=>h.elim,λ _ _ _ _ _ _ _ h=>h.elim⟩
end
def Tb (i j:Int):Prop:=(i.natAbs<2^1000/\j.natAbs<2^1000)\/Zr i j
instance (i j:Int):Decidable (Tb i j):=by unfold Tb;infer_instance
theorem Qx {i:Int}(h:i.natAbs<2^1000):zbc i<=2^20:=by
 unfold zbc;split
 ·exact zb1 _
 ·rename_i z;have h0:i.natAbs≠0:=λ q=>z (by rw[Int.natAbs_eq_zero.mp q];rfl);have:=(Nat.log2_lt h0).mpr h;have h3:(1000:Nat)<=2^20:=by decide
  exact zbb this h3
theorem Tb.ok {i j:Int}(h:Tb i j):IntMulOk i j:=by
 rcases h with ⟨h1,h2⟩|h
 ·exact IntMulOk.of_bits (Qx h1) (Qx h2)
 ·exact h.ok
theorem O0 (n:Nat):Ce 0 n=(zau n).map λ i:Nat=>D.int (i:Int):=by
 apply List.ext_getElem?;intro i;rw[zaa];by_cases h:i<n
 ·have hi:i<(Ce 0 n).length:=by rw[Et];exact h
  have e:=z4 hi;obtain⟨h1,_⟩:=G5 e;rw[e,h1,zbx h,Int.zero_add];rfl
 ·rw[zbg (by rw[Et];omega),zbg (by simp;omega)];rfl
theorem Ej (ns:List Int):CF (ns.map D.int)=some ns:=by
 induction ns with
 |nil=>rfl
 |cons n r ih=>rw[zy,CF,ih];rfl
theorem bY (ds:List D)(n:Nat):mE (some (n:Int)) none (.lst ds)=.ok (.lst (ds.drop n)):=by
 unfold mE;dsimp only;rw[HT.SN,HT.N0];congr 2;by_cases h:n<=ds.length
 ·rw[Nat.min_eq_left h,zci (by rw[List.length_drop];exact za2 _)]
 ·rw[Nat.min_eq_right (by omega),List.drop_of_length_le (za2 _),List.drop_of_length_le (by omega),List.take_nil]
def Pl (n:Nat)(d:D):Prop:=Ru d<=n/\C3 d=true
theorem RD {n:Nat}:∀ {ds:List D},(∀d∈ds,Ru d<=n)->Rv ds<=n
 |[],_=>by rw[Rv];exact zb1 _
 |d::r,h=>by
  rw[Rv];exact Nat.max_le.mpr ⟨h d zw,RD λ d hd=>h d (zx _ hd)⟩
theorem RE:∀ {ds:List D},(∀d∈ds,C3 d=true)->LC ds=true
 |[],_=>by rw[LC]
 |d::r,h=>by
  rw[LC,h d zw,RE λ d hd=>h d (zx _ hd)];rfl
theorem Cg {n:Nat}(i:Int):Pl n (.int i):=⟨by rw[Ru];exact zb1 _;all_goals simp,by rw[C3];all_goals simp⟩
theorem bZ {n:Nat}:Pl n .AN:=⟨by rw[Ru];exact zb1 _;all_goals simp,by rw[C3];all_goals simp⟩
theorem Vl {n:Nat}{ds:List D}(h:∀d∈ds,Pl n d):Pl (n+1) (.tup ds):=
 ⟨by rw[Ru];exact Nat.succ_le_succ (RD λ d hd=>(h d hd).1),by rw[C3];exact RE λ d hd=>(h d hd).2⟩
theorem Vm {n:Nat}{ds:List D}(h:∀d∈ds,Pl n d):Pl (n+1) (.lst ds):=
 ⟨by rw[Ru];exact Nat.succ_le_succ (RD λ d hd=>(h d hd).1),by rw[C3];exact RE λ d hd=>(h d hd).2⟩
theorem WJ {n:Nat}(ns:List Int):Pl (n+1) (.lst (ns.map D.int)):=Vm λ d hd=>by
 obtain⟨i,_,rfl⟩:=zae.mp hd;exact Cg i
theorem Pl.le {n m:Nat}{d:D}(h:Pl n d)(k:n<=m):Pl m d:=⟨zbb h.1 k,h.2⟩
theorem Vn {n:Nat}:∀d∈([]:List D),Pl n d:=λ d h=>by cases h
theorem EZ {n:Nat}{d:D}{ds:List D}(h:Pl n d)(t:∀d∈ds,Pl n d):∀e∈d::ds,Pl n e:=λ e he=>by
 rcases z8.mp he with rfl|he
 ·exact h
 ·exact t e he
theorem RF {n:Nat}{x y:D}(h:Pl n x)(k:Pl n y):fP n x y=.ok (.bl (Bm x y)):=by
 unfold fP;rw[if_pos ⟨h.1,h.2,k.2⟩]
theorem RG {n:Nat}{x y:D}(h:Pl n x)(k:Pl n y):Y1 n x y=.ok (.bl (!Bm x y)):=by
 unfold Y1;rw[if_pos ⟨h.1,h.2,k.2⟩]
theorem O1 {n:Nat}{x:D}(h:Pl n x):Y1 n x x=.ok (.bl false):=by rw[RG h h,T6];rfl
theorem iQ (ds:List D)(a b:Nat):mE (some (a:Int)) (some (b:Int)) (.lst ds)=.ok (.lst ((ds.drop a).take (b-a))):=by
 unfold mE;dsimp only;rw[HT.N0,HT.N0];congr 2;by_cases h:a<=ds.length
 ·rw[Nat.min_eq_left h];by_cases h2:b<=ds.length
  ·rw[Nat.min_eq_left h2]
  ·rw[Nat.min_eq_right (by omega),zci (by rw[List.length_drop];exact za2 _),zci (by rw[List.length_drop];omega)]
 ·rw[Nat.min_eq_right (show ds.length<=a by omega),List.drop_of_length_le (za2 _),List.drop_of_length_le (show ds.length<=a by omega),List.take_nil,List.take_nil]
section
variable {X:Cx}{WX:Str->Hp->Prop}{c:Bool}{P0:DJ}{P:Addr->Prop}{H:Hp}{σ:St}{ρ:Ad}{a b e:Expr}{f g:Ad->M D}{ft gt:Ad->M Bool}{pos:Pos}{st:Stmt}{rest:List Stmt}{g1 g2:Ad->M Out}
theorem Tc {K:zt}{H:Hp}{v:V}{d:D}(h:BD K H v d):∀n:Nat,Ai K H (za7 n v) (za7 n d)
 |0=>.nil
 |n+1=>by rw[zbw,zbw];exact .cons h (Tc h n)
theorem Td {K:zt}{H:Hp}{v:V}{d:D}(h:BD K H v d):∀ {vs:List V}{ds:List D}(n:Nat),Ai K H vs ds->Ai K H (vs.set n v) (ds.set n d)
 |_,_,_,.nil=>.nil
 |_,_,0,.cons _ t=>.cons h t
 |_,_,n+1,.cons a t=>.cons a (Td h n t)
noncomputable def aaA (i:Nat)(ρ:Ad)(d k:D):M Out:=match k with
 | .int j=>if 0<=j/\j.toNat<=1000 then .ok (.next (ρ.set i (some (.own (za7 j.toNat d))))) else .bad
 |_=>.bad
theorem Qy {α:Type}(v:α):∀n:Nat,(za7 n [v]).flatten=za7 n v
 |0=>rfl
 |n+1=>by rw[zbw,List.flatten_cons,Qy v n];rfl
noncomputable def pW (i:Nat)(ρ:Ad)(ds:List D)(d k:D):M Out:=match k with
 | .int j=>(match fO ds.length j with|some n=>.ok (.next (ρ.set i (some (.own (ds.set n d)))))|none=>.bad)
 |_=>.bad
noncomputable def iR (i:Nat)(ρ:Ad)(m:M D)(d:D):M Out:=match ρ[i]? with
 |some (some (.own ds))=>m.bind (pW i ρ ds d)
 |_=>.bad
theorem O2 (i:Nat){x:Str}{p1 ax:Pos}(hv:PE X (.Name x p1) (UN i))(ha:DE X WX true a f)(hk:DE X WX true b g)
 (hs:swapsWithSole [.Subscript (.Name x p1) b ax] a pos.line X.env=pure false:=by rfl) (hw:swappedStores [.Subscript (.Name x p1) b ax] a X.env=pure none:=by rfl) (h1:(assignEach [.Subscript (.Name x p1) b ax] X.env).map (·.2)=[assign (.Subscript (.Name x p1) b ax) X.env]:=by rfl)
 (on:∀v,assign (.Subscript (.Name x p1) b ax) X.env v=(do
  let ov <-holding [v] (eval (.Name x p1) X.env);let iv <-holding [v,ov] (eval b X.env)
  standAt ax
  holding [v,ov,iv] (setItem ov iv v)
  release [v,ov,iv] []):=by intro _;rfl):
 DS X WX (.Assign [.Subscript (.Name x p1) b ax] a pos) (λ ρ=>(f ρ).bind (iR i ρ (g ρ))):=by
 obtain⟨ta,a1,a2⟩:=ha;obtain⟨tb,b1,b2⟩:=hk;refine⟨_,Zm a1 (oE hv b1 set_list on) hs hw h1,λ P0 P σ H Z ρ E h=>?_⟩;dsimp only at h;refine a2 P0 P σ H _ ρ E ?_;refine iM h E λ d h=>?_;intro v H1 s1 hv;have E1:=E.same s1;unfold iR at h;split at h
 ·rename_i ds e1;obtain⟨p,xs,h1,h2,h3,h4,h5⟩:=E1.own i ds e1;refine⟨_,h1,b2 P0 P σ H1 _ ρ E1 ?_⟩;cases q2:g ρ with
  |bad=>rw[q2] at h;exact h.elim
  |ex x=>rw[q2] at h;exact λ H' s2=>h H' P ((E.tr s1).trans (E1.tr s2))
  |ok k =>
   rw[q2] at h;simp only[M.Aa] at h;unfold pW at h;intro w H2 s2 hw;split at h
   ·rename_i j;cases hw;split at h
    ·rename_i n en;have E2:=E1.same s2;refine⟨p,xs,j,n,rfl,rfl,s2 _ _ h2,by rw[h5.length];exact en,?_⟩;obtain⟨E3,t3⟩:=E2.mut e1 h1 h3 h4 (Td (hv.mono s2.del) n (h5.mono s2.del));exact h _ _ _ ((E.tr s1).trans ((E1.tr s2).trans t3)) E3
    ·exact h.elim
   ·exact h.elim
 ·exact h.elim
noncomputable def Ay (c:Ad->M Bool)(b:Ad->M Out):Nat->Ad->M Out
 |0,_=>.bad
 |n+1,ρ=>match c ρ with
  | .ok true=>(match b ρ with
   | .ok (.next ρ')| .ok (.cont ρ')=>Ay c b n ρ'
   | .ok (.brk ρ')=>.ok (.next ρ')
   |r=>r)
  | .ok false=>.ok (.next ρ)
  | .ex x=>.ex x
  | .bad=>.bad
noncomputable def Mc (c:Ad->M Bool)(b:Ad->M Out)(ρ:Ad):M Out:=
 @dite _ (∃n,Ay c b n ρ≠.bad) (zcz _) (λ h=>Ay c b (z3 h) ρ) (λ _=>.bad)
theorem CG {c:Ad->M Bool}{b:Ad->M Out}:∀ {n:Nat}{ρ:Ad},Ay c b n ρ≠.bad->∀m,Ay c b (n+m) ρ=Ay c b n ρ
 |0,ρ,h,m=>(h rfl).elim
 |n+1,ρ,h,m=>by
  rw[show n+1+m=(n+m)+1 by omega];rw[Ay] at h;rw[Ay,Ay];cases q:c ρ with
  |bad|ex x=>rfl
  |ok k =>
   rw[q] at h;cases k with
   |false=>rfl
   |true =>
    dsimp only at h ⊢;cases q2:b ρ with
    |bad|ex x=>rfl
    |ok o =>
     rw[q2] at h;cases o with
     |next ρ'=>dsimp only at h ⊢;exact CG h m
     |cont ρ'=>dsimp only at h ⊢;exact CG h m
     |brk ρ'=>rfl
     |ret d|CM d|Fw d ρ2=>rfl
theorem cB {c:Ad->M Bool}{b:Ad->M Out}{n:Nat}{ρ:Ad}(h:Ay c b n ρ≠.bad):Mc c b ρ=Ay c b n ρ:=by
 unfold Mc;have hx:∃n,Ay c b n ρ≠.bad:=⟨n,h⟩;rw[dif_pos hx];have hc:=zu hx;have e1:=CG h (z3 hx);have e2:=CG hc n;rw[Nat.add_comm] at e2;rw[<-e1,e2]
theorem Y6 {c:Ad->M Bool}{b:Ad->M Out}{ρ:Ad}(h:Mc c b ρ≠.bad):∃n,Ay c b n ρ≠.bad/\Mc c b ρ=Ay c b n ρ:=by
 by_cases hx:∃n,Ay c b n ρ≠.bad
 ·obtain⟨n,hn⟩:=hx;exact⟨n,hn,cB hn⟩
 ·exact (h (by unfold Mc;rw[dif_neg hx])).elim
theorem uU {K:zt}{Z:Ends}{m:M Out}(h:gS K WX P0 P H Z m):m≠.bad:=λ e=>by rw[e] at h;exact h
theorem K2 {body:List Stmt}(hp:PassesOwn (model X.prog X.w) X.A X.env X.xe)(hc:DT X WX a ft)(hb:UJ X WX body g1):DS X WX (.While a body [] pos) (Mc ft g1):=by
 obtain⟨tc,c1,c2⟩:=hc;obtain⟨tb,b1,b2⟩:=hb;refine⟨_,Zn hp c1 b1,λ P0 P σ H Z ρ E h=>?_⟩;obtain⟨n,hn,en⟩:=Y6 (uU h);rw[en] at h;refine⟨λ m σ' H'=>∃ρ' P',Al X.K P0 P' H' σ' ρ'/\Tr P0 P H P' H'/\gS X.K WX P0 P' H' Z (Ay ft g1 m ρ'),⟨n,ρ,P,E,Tr.refl,h⟩,?_⟩;rintro m σ1 H1 ⟨ρ1,P1,E1,t1,h1⟩;cases m with
 |zero=>exact h1.elim
 |succ m =>
  rw[Ay] at h1;refine c2 P0 P1 σ1 H1 _ ρ1 E1 ?_;cases q:ft ρ1 with
  |bad=>rw[q] at h1;exact h1
  |ex x=>rw[q] at h1;exact λ H2 s2=>h1 H2 P1 (E1.tr s2)
  |ok k =>
   rw[q] at h1;intro H2 s2;have E2:=E1.same s2;cases k with
   |false =>
    rw[if_neg (by simp)];exact h1 σ1 H2 P1 (E1.tr s2) E2
   |true =>
    rw[if_pos rfl];dsimp only at h1;refine⟨λ σ' H'=>∃ρ' P',Al X.K P0 P' H' σ' ρ'/\Tr P0 P H P' H'/\gS X.K WX P0 P' H' Z (Ay ft g1 m ρ'),λ σ' H' z=>⟨m,Nat.lt_succ_self m,z⟩,?_⟩;refine b2 P0 P1 σ1 H2 _ ρ1 E2 ?_;cases q2:g1 ρ1 with
    |bad=>rw[q2] at h1;exact h1
    |ex x=>rw[q2] at h1;exact λ H3 P3 t3=>h1 H3 P3 ((E1.tr s2).trans t3)
    |ok o =>
     rw[q2] at h1;have t2:=t1.trans (E1.tr s2);cases o with
     |next ρ'=>exact λ σ3 H3 P3 t3 E3=>⟨ρ',P3,E3,t2.trans t3,h1.tr ((E1.tr s2).trans t3)⟩
     |cont ρ'=>exact λ σ3 H3 P3 t3 E3=>⟨ρ',P3,E3,t2.trans t3,h1.tr ((E1.tr s2).trans t3)⟩
     |brk ρ'=>exact λ σ3 H3 P3 t3 E3=>h1 σ3 H3 P3 ((E1.tr s2).trans t3) E3
     |ret d=>exact λ v H3 P3 t3 hv=>h1 v H3 P3 ((E1.tr s2).trans t3) hv
     |CM d=>exact λ v fp H3 P3 t3=>h1 v fp H3 P3 ((E1.tr s2).trans t3)
     |Fw d ρ2=>exact λ v fp σ3 H3 P3 t3=>h1 v fp σ3 H3 P3 ((E1.tr s2).trans t3)
noncomputable def aac (ds:List D):M D:=match ds with
 |[.int i]=>.ok (.int i)
 |[.bl b]=>.ok (.int (if b then 1 else 0))
 |_=>.bad
noncomputable def Hc:List D->Option (List Bool)
 |[]=>some []
 | .bl b::r=>(Hc r).map (b::·)
 |_=>none
theorem O3 (bs:List Bool):Hc (bs.map D.bl)=some bs:=by
 induction bs with
 |nil=>rfl
 |cons b r ih=>rw[zy,Hc,ih];rfl
theorem O4:∀ {ds:List D}{bs:List Bool},Hc ds=some bs->ds=bs.map D.bl
 |[],bs,h=>by cases h;rfl
 | .bl b::r,bs,h=>by
  rw[Hc] at h;cases q:Hc r with
  |none=>rw[q] at h;cases h
  |some vw=>rw[q] at h;cases h;rw[O4 q];rfl
 | .AN::r,bs,h| .int _::r,bs,h| .str _::r,bs,h| .tup _::r,bs,h| .lst _::r,bs,h| .JL _::r,bs,h| .Bu _ _ _::r,bs,h| .ins _ _ _::r,bs,h=>by cases h
theorem O5 {K:zt}{H:Hp}:∀ {vs:List V}{bs:List Bool},Ai K H vs (bs.map D.bl)->vs=bs.map V.bl
 |_,[],.nil=>rfl
 |_,b::r,.cons h t=>by cases h;rw[O5 t];rfl
theorem O6:∀ {bs:List Bool}{us:List Value},Vals (bs.map V.bl) us->LSm.BoolsAre us bs
 |[],_,.nil=>.nil
 |b::r,_,.cons h t=>by cases h;exact .cons b (O6 t)
theorem O7 (hc:X.calm=true):Gu X (.builtin "all") (λ xs H Q=>∃p bs,xs=[.ref p]/\Dc X.K H p (List.map V.bl bs)/\Q (.bl (bs.all id)) H):=by
 intro pins s σ H xs us Q I r h;obtain⟨p,bs,rfl,hq,q⟩:=h;obtain⟨u,rfl,rx⟩:=vals1 r;cases rx;obtain⟨aa,r',pl,hz⟩:=I.list hq;have hl:=pl.isList;have hb:=O6 r';have af:p<s.heap.objs.size:=by obtain⟨_,e,_⟩:=hl;exact za4 e
 refine call_all_walk (wpAny_pyIter_list hl ?_);refine⟨s.heap.objs.size,[s.heap.objs.size,p],[s.heap.objs.size],aa.toArray.size,_,_,λ i=>(bs[i]?).getD true,rfl,Walks.list (A:=X.A.in1) (I.ok.hd hc) _ p (zaf af) aa.toArray,
  ⟨⟨_,zac _ rfl,rfl,rfl⟩,hl.push _⟩,λ i v s' Q' E' hP hQ=>?_,λ h' tk hk=>?_⟩
 ·obtain⟨b,e,rfl⟩:=hb.get i v (by simpa using hP);simp only[e,Option.getD_some] at hQ;exact wpAny_truthy_bool hQ
 ·have e:((zau aa.toArray.size).all λ i=>(bs[i]?).getD true)=bs.all id:=by
   rw[za0,hb.length];exact LSm.range_all bs
  rw[e];exact⟨.bl _,H,I.kept (t':=tk) (LSm.kept_iter hk),rfl,q⟩
noncomputable def Y7 (ds:List D):M D:=match ds with
 |[.lst xs]=>(match Hc xs with|some bs=>.ok (.bl (bs.all id))|none=>.bad)
 |_=>.bad
theorem pX:Mb X.K WX (λ xs H Q=>∃p bs,xs=[.ref p]/\Dc X.K H p (List.map V.bl bs)/\Q (.bl (bs.all id)) H) Y7:=by
 intro P H ds vs Q ht hl h;unfold Y7 at h;split at h
 ·rename_i xs;obtain⟨v,rfl,hv⟩:=hl.one;split at h
  ·rename_i bs eb;have:=O4 eb;subst this;cases hv with
   |lst hs hh =>
    have:=O5 hh;subst this;exact⟨_,bs,rfl,hs.B2,h _ H (Ah.refl H) (.bl _)⟩
  ·exact h.elim
 ·exact h.elim
theorem cC {p:Pos}(hc:X.calm=true)(hg:Gl X "all")(hm:X.mg "all" = none)(ha:DE X WX c e f)(hb:bootBuiltins "all" = some (.builtin "all"):=by decide +kernel)(hs:starEach [e] X.env=[(false,eval e X.env)]:=by rfl):DE X WX c (.Call (.Name "all" p) [e] [] pos) (λ ρ=>((f ρ).bind λ d=>(M.ok []).bind λ ds=>.ok (d::ds)).bind Y7):=
 JY (O7 hc) pX hg hm hb (A1 ha A6 hs) (he:=hs)
end
def Sm (n:Int):Prop:=zbc n<=2^20
theorem cD:∀ {ns:List Int},W.WData.weightAll (ns.map W.WData.int)<=2^20->∀n∈ns,Sm n
 |m::r,h,n,hn=>by
  rw[zy,W.WData.weightAll,W.WData.weight] at h;rcases z8.mp hn with rfl|hn
  ·unfold Sm zbc;omega
  ·exact cD (by omega) n hn
theorem uV {ns:List Int}(h:W.WData.layableAll [W.WData.list (ns.map W.WData.int)]=true):∀n∈ns,Sm n:=by
 unfold W.WData.layableAll at h;rw[List.all_cons,zat] at h;have h1:=h.1;unfold W.WData.layable at h1;rw[zat,decide_eq_true_eq,W.WData.weight] at h1;exact cD h1.2
end L2
namespace HT
open PySem PySem.W PyProof.Rows Spec Calls sr
theorem Qz {l:OpenLaw}{n:Nat}{q:Program}{loose:List Str}{XP:(Str->Option Value)->Heap->Prop}{YP:World->Heap->Prop}{d:DefRec}
 (hn:l.most=some n) (f8:d.params.defaults=[])
 (run:∀(w:World) (s₀ s₁:Shared) (mg mb:Str->Option Value) (fa:Addr) (o:Obj) (pm cd doc:Value) (a:Addr) (vs:List Value) (ns:List Int),(∀n∈ns,L2.Sm n)->
  Ground q loose [] XP w s₀ mg mb s₁.heap->YP w s₁.heap->s₁.heap.get? fa=some o->o.data=.func (docDef d.name d.params d.body d.scope pm cd doc)->s₁.heap.CodeRec cd d.name->mg d.name=some (.ref fa)->
  s₁.heap.get? a=some {cls:=.type "list",data:=.seq vs.toArray}->IntsAre vs ns->ns.length<=n->s₁.gens=#[]->
  codeAny (model l.prog w) callerA (.call (.ref fa) ⟨[.ref a],[]⟩) (λ r s'=>r=.ok (.ret (.bool true))/\OldK s₁.heap s'.heap/\s'.os=s₁.os/\AllBare s'.gens) s₁):
 WalkO q loose XP YP l.row.toRowW d [] (λ f vs=>PySem.call f vs):=by
 intro w s₀ s₁ mg mb G Y fa o pm cd doc dV kV ho hd aP hD f9 hg args vals as c3 oq g8 lh zd;obtain rfl:dV=.none:=Dflts.none hD f8;obtain rfl:kV=.none:=Dflts.noKw hD;obtain⟨a,vs,ns,rfl,rfl,cb,aX,hlen⟩:=XS hn c3 lh;refine enter_call (codeAny_mono (run w s₀ s₁ mg mb fa o pm cd doc a vs ns (L2.uV oq) G Y ho (fd_plain hd) aP f9 cb aX hlen hg) λ r s' hq=>?_);obtain⟨rfl,h2,h3,h4⟩:=hq;exact⟨.inl ⟨.bool true,.bool true,[],rfl,λ _=>rfl,.bool true,XT l _,λ _=>⟨List.Pairwise.nil,λ _ hm=>(nomatch hm)⟩⟩,h2,h3,h4⟩
end HT
namespace L2
open PySem PySem.Spec PyProof.Rows
theorem wY {l:PySem.W.OpenLaw}{n k:Nat}{q:Program}{loose:List Str}{XP:(Str->Option Value)->Heap->Prop}{YP:World->Heap->Prop}{d:DefRec}{K:Params->zt}{CX:World->Wq}{sp:World->Sp}{x:Str}
 (hn:l.most=some n) (aw:n<=sizeLine) (f8:d.params.defaults=[]) (hr:BL k callerA) (hY:∀(w:World) (h:Heap),YP w h->(K w.params).In h)
 (F:∀(w:World) (mg:Str->Option Value) (fa:Addr) (h:Heap),(K w.params).In h->h.Ns mainGlobals mg->mg d.name=some (.ref fa)->∃fd:FuncData,(∀(s:Shared) (u:Value),BindsTo s fd ⟨[u],[]⟩ [(x,u)])/\
  ∀base:Heap,(K w.params).In base->base.Ns mainGlobals mg->E7 l.prog w (K w.params) mg base (CX w) k fa fd [x] (sp w))
 (bv:∀(w:World) (H:Hp) (a:Addr) (ns:List Int),(∀n∈ns,Sm n)->ns.length<=n->hV H->Dc (K w.params) H a (ns.map V.int)->sp w [.ref a] H (λ v _=>v=.bl true) λ _ _ _=>False)
 (iu:∀(w:World) (H:Hp) (s:Shared) (e:Value) (s':Shared),CX w [] H s (λ _ _ _=>False) e s'->False):PySem.W.WalkO q loose XP YP l.row.toRowW d [] (λ f vs=>PySem.call f vs):=by
 refine HT.Qz hn f8 λ w s₀ s₁ mg mb fa o pm cd doc a vs ns bt G Y ho hd aP f9 cb aX hlen hg=>?_;have KX:=hY w _ Y;obtain⟨fd,hb,hF⟩:=F w mg fa _ KX G.T.g f9;exact SR KX G.T.g G.T.b G.T.builtins G.T.nolimit hg cb aX (zbb hlen aw) hr hF hb (λ H hO hS=>bv w H a ns bt hlen hO hS) λ H e s'=>iu w H s₁ e s'
theorem iS {F:List D->M D}(h:∀ns:List Int,ns.length<=63->(∀n∈ns,Sm n)->F [.lst (ns.map D.int)]=.ok (.bl true))(K:zt)(H:Hp)(a:Addr)(ns:List Int)(bt:∀n∈ns,Sm n)(hl:ns.length<=63)(hS:Dc K H a (ns.map V.int)):Vj K 1 F [.ref a] H (λ v _=>v=.bl true) λ _ _ _=>False:=by
 refine⟨rfl,λ _=>False,[.lst (ns.map D.int)],λ _ z=>z.elim,.cons (.lst ?_ (Ai.ints ns)) .nil,?_⟩
 ·have e:del H (λ _=>False)=H:=by funext b;exact AD (λ z=>z)
  rw[e];exact hS
 ·rw[h ns hl bt];exact λ v H' s hv=>hv.NW
def QA (i j:Int):Prop:=(zbc i<=2^20+1/\zbc j<=2^10)\/Tb i j
theorem Y8 {a b:Int}(h:zbc a+zbc b<=2^21):IntMulOk a b:=by
 have e:(2:Nat)^21=2097152:=by decide
 have h2:Builtin.Int.intTooBig (zbc a+zbc b)=false:=by
  unfold Builtin.Int.intTooBig bitsLine;exact decide_eq_false (by omega)
 unfold IntMulOk;rw[h2];simp
theorem QA.ok {i j:Int}(h:QA i j):IntMulOk i j:=by
 rcases h with ⟨h1,h2⟩|h
 ·exact Y8 (by omega)
 ·exact h.ok
theorem iT {X:Cx}:FW X (binaryOp .Mult) (rI QA λ i j=>.int (i*j)):=wO λ _ _ _ _ _ _ _ hc q=>mul_int q hc.ok
noncomputable instance (i j:Int):Decidable (QA i j):=zcz _
noncomputable def O8:=Bg λ i j=>if QA i j then .ok (.int (i*j)) else .bad
theorem K3 {i j:Int}(h:QA i j):O8 (.int i) (.int j)=.ok (.int (i*j)):=by
 unfold O8 Bg;dsimp only;rw[if_pos h]
theorem N3 {X:Cx}{WX:Str->Hp->Prop}{c:Bool}{a b:Expr}{f g:Ad->M D}{pos:Pos}(ha:DE X WX c a f)(hb:DE X WX c b g):DE X WX c (.BinOp a .Mult b pos) (λ ρ=>(f ρ).bind λ x=>(g ρ).bind λ y=>O8 x y):=Qv iT (Rw λ _ _ _ _=>.int _) ha hb
mutual
noncomputable def LH:D->Bool
 | .tup a=>K4 a
 | .lst _| .JL _| .Bu _ _ _| .ins _ _ _=>false
 |_=>true
noncomputable def K4:List D->Bool
 |[]=>true
 |a::r=>LH a&&K4 r
end
theorem WK {H:Hp}{P0 P:Addr->Prop}{a:Addr}{xs:List V}(ht:∀a,P a->EW H a)(h:del H P0 a=some (.tup xs)):del H P a=some (.tup xs):=by
 obtain⟨h1,h2⟩:=Am h;rw[AD λ z=>by
  obtain⟨o',q,r⟩:=ht a z;rw[h2] at q;cases q;exact (r xs).1 rfl]
 exact h2
mutual
theorem BD.LH {K:zt}{H:Hp}{P0 P:Addr->Prop}(ht:∀a,P a->EW H a):∀ {v:V}{d:D},LH d=true->BD K (del H P0) v d->BD K (del H P) v d
 |_,_,_,.AN=>.AN
 |_,_,_,.bl b=>.bl b
 |_,_,_,.int i=>.int i
 |_,_,_,.str x=>.str x
 |_,_,n,.tup h r=>.tup (WK ht h) (Ai.LH ht (by rw[L2.LH] at n;exact n) r)
 |_,_,n,.lst h r|_,_,n,.JL h r|_,_,n,.Qt h r|_,_,n,.Rr h r|_,_,n,.ins _ h r=>by rw[L2.LH] at n;cases n
theorem Ai.LH {K:zt}{H:Hp}{P0 P:Addr->Prop}(ht:∀a,P a->EW H a):∀ {vs:List V}{ds:List D},K4 ds=true->Ai K (del H P0) vs ds->Ai K (del H P) vs ds
 |_,_,_,.nil=>.nil
 |_,_,n,.cons h t=>by
  rw[K4,zat] at n;exact .cons (BD.LH ht n.1 h) (Ai.LH ht n.2 t)
end
noncomputable def dp (m:M D):M D:=m.bind λ d=>if LH d=true then .ok d else .bad
section
variable {α:Type}(lt:α->α->Prop)
def Px:List α->List α->Prop
 |y::ys,x::xs=>(lt y x/\ys.length=xs.length)\/(y=x/\Px ys xs)
 |_,_=>False
theorem Px.len:∀ {ys xs:List α},Px lt ys xs->ys.length=xs.length
 |y::ys,x::xs,h=>by
  rcases h with ⟨_,h⟩|⟨_,h⟩
  ·rw[z5,z5,h]
  ·rw[z5,z5,Px.len h]
 |[],[],h|[],_::_,h|_::_,[],h=>h.elim
theorem cE (n:Nat)(ih:∀xs:List α,xs.length=n->Acc (Px lt) xs){x:α}(hx:Acc lt x):∀ {xs:List α},xs.length=n->Acc (Px lt) xs->Acc (Px lt) (x::xs):=by
 induction hx with
 |intro x _ vx =>
  intro xs hl cm;induction cm with
  |intro xs _ oy =>
   refine .intro _ λ zs h=>?_;cases zs with
   |nil=>exact h.elim
   |cons y ys =>
    rcases h with ⟨h1,h2⟩|⟨h1,h2⟩
    ·exact vx y h1 (h2.trans hl) (ih ys (h2.trans hl))
    ·subst h1;exact oy ys h2 ((Px.len lt h2).trans hl)
theorem O9 (h:∀x,Acc lt x):∀(n:Nat) (xs:List α),xs.length=n->Acc (Px lt) xs
 |0,[],_=>.intro _ λ zs h=>by cases zs<;>exact h.elim
 |n+1,x::xs,e=>cE lt n (O9 h n) (h x) (by simpa using e) (O9 h n xs (by simpa using e))
theorem WL:∀ {xs:List α}{i:Nat}{y:α}{x:α},xs[i]?=some x->lt y x->Px lt (xs.set i y) xs
 |[],_,_,_,h,_=>by cases h
 |z::zs,0,y,x,h,hl=>by
  cases h;exact .inl ⟨hl,rfl⟩
 |z::zs,i+1,y,x,h,hl=>.inr ⟨rfl,WL (by simpa using h) hl⟩
theorem Px.trans (ht:∀a b c,lt a b->lt b c->lt a c):∀ {xs ys zs:List α},Px lt xs ys->Px lt ys zs->Px lt xs zs
 |x::xs,y::ys,z::zs,h1,h2=>by
  rcases h1 with ⟨a,b⟩|⟨rfl,b⟩
  ·rcases h2 with ⟨c,d⟩|⟨rfl,d⟩
   ·exact .inl ⟨ht _ _ _ a c,b.trans d⟩
   ·exact .inl ⟨a,b.trans (Px.len lt d)⟩
  ·rcases h2 with ⟨c,d⟩|⟨rfl,d⟩
   ·exact .inl ⟨c,(Px.len lt b).trans d⟩
   ·exact .inr ⟨rfl,Px.trans ht b d⟩
 |[],_,_,h,_|_::_,[],_,h,_|_::_,_::_,[],_,h=>by cases h
end
section
variable {X:Cx}{WX:Str->Hp->Prop}{c:Bool}{P0:DJ}{P:Addr->Prop}{H:Hp}{σ:St}{ρ:Ad}{a b e:Expr}{f g g2:Ad->M D}{pos:Pos}
theorem Ek:∀ {ds:List D}{ns:List Int},CF ds=some ns->ds=ns.map D.int
 |[],ns,h=>by cases h;rfl
 | .int b::r,bs,h=>by
  rw[CF] at h;cases q:CF r with
  |none=>rw[q] at h;cases h
  |some vw=>rw[q] at h;cases h;rw[Ek q];rfl
 | .AN::r,bs,h| .bl _::r,bs,h| .str _::r,bs,h| .tup _::r,bs,h| .lst _::r,bs,h| .JL _::r,bs,h| .Bu _ _ _::r,bs,h| .ins _ _ _::r,bs,h=>by cases h
theorem Df {K:zt}{H:Hp}:∀ {vs:List V}{bs:List Int},Ai K H vs (bs.map D.int)->vs=bs.map V.int
 |_,[],.nil=>rfl
 |_,b::r,.cons h t=>by cases h;rw[Df t];rfl
end
theorem pY {P P2:Addr->Prop}{H H':Hp}(t:Tr P P H P2 H'){a:Addr}(h:P2 a)(hn:¬ P a):H a=none:=by
 cases q:H a with
 |none=>rfl
 |some o =>
  have:=t.1 a o (by rw[AD hn];exact q);exact ((Am this).1 h).elim
section
variable {X:Cx}{WX:Str->Hp->Prop}{c:Bool}{P0:DJ}{P:Addr->Prop}{H:Hp}{σ:St}{ρ:Ad}{a b e:Expr}{f g:Ad->M D}{pos:Pos}
noncomputable def iU (i:Nat)(ρ:Ad)(mk md:M D):M Out:=match ρ[i]? with
 |some (some (.own ds))=>mk.bind λ k=>md.bind λ d=>match k with
  | .int j=>if 0<=j/\j.toNat<=ds.length/\ds.length<1000 then .ok (.next (ρ.set i (some (.own (ds.take j.toNat++d::ds.drop j.toNat))))) else .bad
  |_=>.bad
 |_=>.bad
theorem QB {K:zt}{H:Hp}:∀ {vs:List V}{ds:List D}(n:Nat),Ai K H vs ds->Ai K H (vs.take n) (ds.take n)
 |_,_,0,_=>by rw[List.take_zero,List.take_zero];exact .nil
 |_,_,_+1,.nil=>.nil
 |_,_,n+1,.cons h t=>by rw[List.take_succ_cons,List.take_succ_cons];exact .cons h (QB n t)
noncomputable def uW (ds:List D):M D:=match ds with
 |[.lst xs]=>(match Hc xs with|some bs=>.ok (.bl (bs.any id))|none=>.bad)
 |_=>.bad
end
noncomputable def kids:OT->List OT
 | .sh _=>[]
 | .lst ts| .tup ts| .Bu _ _ ts| .ins _ _ ts=>ts
noncomputable def N4:OT->List OT->OT
 | .sh d,_=>.sh d
 | .lst _,ts=>.lst ts
 | .tup _,ts=>.tup ts
 | .Bu b ks _,ts=>.Bu b ks ts
 | .ins x ns _,ts=>.ins x ns ts
noncomputable def LI:OT->List Nat->Option OT
 |t,[]=>some t
 |t,j::π=>match (kids t)[j]? with|some s=>LI s π|none=>none
noncomputable def Eu:OT->List Nat->OT->OT
 |_,[],u=>u
 |t,j::π,u=>match (kids t)[j]? with|some s=>N4 t ((kids t).set j (Eu s π u))|none=>t
@[simp] theorem cF (t:OT):LI t []=some t:=by unfold LI;rfl
@[simp] theorem Ew (t u:OT):Eu t [] u=u:=by unfold Eu;rfl
theorem Y9 {t s:OT}{j:Nat}{π:List Nat}(h:(kids t)[j]?=some s):LI t (j::π)=LI s π:=by rw[LI,h]
theorem Yb {t s u:OT}{j:Nat}{π:List Nat}(h:(kids t)[j]?=some s):Eu t (j::π) u=N4 t ((kids t).set j (Eu s π u)):=by rw[Eu,h]
section
variable {K:zt}{H H':Hp}{P P':Addr->Prop}
def CH (K:zt)(H:Hp)(P:Addr->Prop)(v:V)(t:OT)(q:List Addr)(xs:List V):Prop:=match t with
 | .sh _=>False
 | .lst ts=>∃p,v=.ref p/\q=[p]/\H p=some (.lst xs)
 | .tup ts=>∃p,v=.ref p/\q=[]/\del H P p=some (.tup xs)
 | .Bu false ks ts=>∃p kvs,v=.ref p/\q=[p]/\H p=some (.dK kvs)/\ks=(kvs.map λ kv=>Cm kv.1)/\xs=kvs.map zbd
 | .Bu true ks ts=>∃p kvs,v=.ref p/\q=[p]/\H p=some (.dT kvs)/\ks=(kvs.map λ kv=>.tup (kv.1.map Cm))/\xs=kvs.map zbd
 | .ins x ns ts=>∃p C dx fs,v=.ref p/\q=[p]/\zap K mainGlobals x=some (some (.ref C))/\H p=some (.ins C dx fs)/\ns=fs.map zan/\xs=fs.map zbd
theorem CH.own {v:V}{t:OT}{q:List Addr}{xs:List V}{fp:List Addr}(h:CH K H P v t q xs)(r:Ax K H P xs (kids t) fp):BX K H P v t (q++fp):=by
 cases t with
 |sh d=>exact h.elim
 |lst ts=>obtain⟨p,rfl,rfl,h⟩:=h;exact .lst h r
 |tup ts=>obtain⟨p,rfl,rfl,h⟩:=h;exact .tup h r
 |Bu b ks ts =>
  cases b with
  |false=>obtain⟨p,kvs,rfl,rfl,h,rfl,rfl⟩:=h;exact .dK h r
  |true=>obtain⟨p,kvs,rfl,rfl,h,rfl,rfl⟩:=h;exact .dT h r
 |ins x ns ts=>obtain⟨p,C,dx,fs,rfl,rfl,n,h,rfl,rfl⟩:=h;exact .ins n h r
theorem BX.node {v:V}{t:OT}{fp:List Addr}(h:BX K H P v t fp)(hk:kids t≠[]\/∀d,t≠.sh d):∃q xs fq,fp=q++fq/\CH K H P v t q xs/\Ax K H P xs (kids t) fq:=by
 cases h with
 |sh h=>rcases hk with hk|hk;exact (hk rfl).elim;exact (hk _ rfl).elim
 |lst h r=>exact⟨[_],_,_,rfl,⟨_,rfl,rfl,h⟩,r⟩
 |tup h r=>exact⟨[],_,_,rfl,⟨_,rfl,rfl,h⟩,r⟩
 |dK h r|dT h r=>exact⟨[_],_,_,rfl,⟨_,_,rfl,rfl,h,rfl,rfl⟩,r⟩
 |ins n h r=>exact⟨[_],_,_,rfl,⟨_,_,_,_,rfl,rfl,n,h,rfl,rfl⟩,r⟩
theorem CH.move (sm:Ah (del H P) (del H' P')){v:V}{t:OT}{q:List Addr}{xs:List V}(k:∀a∈q,H' a=H a)(h:CH K H P v t q xs):CH K H' P' v t q xs:=by
 cases t with
 |sh d=>exact h.elim
 |lst ts=>obtain⟨p,rfl,rfl,h⟩:=h;exact⟨p,rfl,rfl,(k p zw).trans h⟩
 |tup ts=>obtain⟨p,rfl,rfl,h⟩:=h;exact⟨p,rfl,rfl,sm _ _ h⟩
 |Bu b ks ts =>
  cases b with
  |false|true=>obtain⟨p,kvs,rfl,rfl,h,rfl,rfl⟩:=h;exact⟨p,kvs,rfl,rfl,(k p zw).trans h,rfl,rfl⟩
 |ins x ns ts=>obtain⟨p,C,dx,fs,rfl,rfl,n,h,rfl,rfl⟩:=h;exact⟨p,C,dx,fs,rfl,rfl,n,(k p zw).trans h,rfl,rfl⟩
theorem CH.kids {v:V}{t:OT}{q:List Addr}{xs:List V}(h:CH K H P v t q xs)(ts:List OT):CH K H P v (N4 t ts) q xs:=by
 cases t with
 |sh d=>exact h.elim
 |lst us|tup us=>exact h
 |Bu b ks us=>cases b<;>exact h
 |ins x ns us=>exact h
theorem RH {v:V}{t:OT}{q:List Addr}{xs:List V}(h:CH K H P v t q xs)(ts:List OT):L2.kids (N4 t ts)=ts:=by
 cases t with
 |sh d=>exact h.elim
 |lst us|tup us|Bu b ks us|ins x ns us=>rfl
theorem CH.inj {v:V}{t:OT}{q q':List Addr}{xs dz:List V}(h:CH K H P v t q xs)(h':CH K H P v t q' dz):q=q'/\xs=dz:=by
 cases t with
 |sh d=>exact h.elim
 |lst ts|tup ts=>obtain⟨p,rfl,rfl,h⟩:=h;obtain⟨p',e,rfl,h'⟩:=h';cases e;rw[h] at h';cases h';exact⟨rfl,rfl⟩
 |Bu b ks ts =>
  cases b with
  |false|true=>obtain⟨p,kvs,rfl,rfl,h,_,rfl⟩:=h;obtain⟨p',pc,e,rfl,h',_,rfl⟩:=h';cases e;rw[h] at h';cases h';exact⟨rfl,rfl⟩
 |ins x ns ts=>obtain⟨p,C,dx,fs,rfl,rfl,n,h,_,rfl⟩:=h;obtain⟨p',C',ze,bC,e,rfl,n',h',_,rfl⟩:=h';cases e;rw[h] at h';cases h';exact⟨rfl,rfl⟩
inductive K5 (K:zt) (H:Hp) (P:Addr->Prop):V->OT->List Nat->V->OT->Prop
 |nil {v t}:K5 K H P v t [] v t
 |cons {v t q xs j x s π v1 t1}:CH K H P v t q xs->xs[j]?=some x->(kids t)[j]?=some s->K5 K H P x s π v1 t1->K5 K H P v t (j::π) v1 t1
theorem K5.sub {v v1:V}{t t1:OT}{π:List Nat}(h:K5 K H P v t π v1 t1):LI t π=some t1:=by
 induction h with
 |nil=>exact cF _
 |cons _ _ hs _ ih=>rw[Y9 hs];exact ih
theorem Ax.get:∀ {xs:List V}{ts:List OT}{fp:List Addr}{j:Nat}{x:V}{s:OT},Ax K H P xs ts fp->xs[j]?=some x->ts[j]?=some s->∃pre fs post,fp=pre++fs++post/\BX K H P x s fs
 |_,_,_,_,_,_,.nil,e,_=>by simp at e
 |_,_,_,0,_,_,.cons h r,e,e'=>by
  simp at e e';subst e;subst e';exact⟨[],_,_,rfl,h⟩
 |_,_,_,j+1,_,_,.cons (fp:=f1) h r,e,e'=>by
  obtain⟨pre,fs,post,z,q⟩:=Ax.get r (by simpa using e) (by simpa using e');exact⟨f1++pre,fs,post,by rw[z];simp,q⟩
theorem Ax.len:∀ {xs:List V}{ts:List OT}{fp:List Addr},Ax K H P xs ts fp->xs.length=ts.length
 |_,_,_,.nil=>rfl
 |_,_,_,.cons _ r=>by rw[z5,z5,r.len]
theorem BX.part {v v1:V}{t t1:OT}{π:List Nat}{fp:List Addr}(h:BX K H P v t fp)(s:K5 K H P v t π v1 t1):∃au,BX K H P v1 t1 au/\(∀a∈au,a∈fp)/\(fp.Nodup->au.Nodup):=by
 induction s generalizing fp with
 |nil=>exact⟨fp,h,λ _ h=>h,λ h=>h⟩
 |cons n hx hs _ ih =>
  obtain⟨q,xs,fq,rfl,n',r⟩:=h.node (.inl λ z=>by rw[z] at hs;cases hs);obtain⟨rfl,rfl⟩:=n.inj n';obtain⟨pre,fs,post,rfl,o⟩:=r.get hx hs;obtain⟨au,o1,k,kn⟩:=ih o;exact⟨au,o1,λ a ha=>z9 _ (zaq _ (z9 _ (k a ha))),λ nd=>kn (zaj.mp (zaj.mp (zaj.mp nd).2.1).1).2.1⟩
theorem Ax.put (sm:Ah (del H P) (del H' P')):∀ {xs:List V}{ts:List OT}{fp:List Addr}{j:Nat}{x:V}{s s':OT}{fs bC:List Addr},Ax K H P xs ts fp->xs[j]?=some x->ts[j]?=some s->BX K H P x s fs->BX K H' P' x s' bC->(∀a∈fp,a∉fs->H' a=H a)->fp.Nodup->bC.Nodup->(∀a∈bC,a∈fp->a∈fs)->
 ∃ah,Ax K H' P' xs (ts.set j s') ah/\ah.Nodup/\∀a∈ah,a∈bC\/(a∈fp/\a∉fs)
 |_,_,_,_,_,_,_,_,_,.nil,e,_,_,_,_,_,_,_=>by simp at e
 |_,_,_,0,x,s,s',fs,bC,.cons (fp:=f1) (fq:=f2) h r,e,e',o,o',k,nd,jb,dj=>by
  simp at e e';subst e;subst e';have:=h.C4 o;subst this;have aM:=zaj.mp nd;have k2:∀a∈f2,a∉f1:=λ a ha hb=>aM.2.2 a hb a ha rfl;refine⟨bC++f2,.cons o' (r.move sm λ a ha=>k a (z9 _ ha) (k2 a ha)),zaj.mpr ⟨jb,aM.2.1,λ a ha b hb z=>?_⟩,λ a ha=>?_⟩
  ·subst z;exact k2 a hb (dj a ha (z9 _ hb))
  ·rcases zab.mp ha with ha|ha
   ·exact .inl ha
   ·exact .inr ⟨z9 _ ha,k2 a ha⟩
 |_,_,_,j+1,x,s,s',fs,bC,.cons (vs:=sv) (ts:=vy) (fp:=f1) (fq:=f2) h r,e,e',o,o',k,nd,jb,dj=>by
  have aM:=zaj.mp nd;have e2:sv[j]?=some x:=by simpa using e
  have e3:vy[j]?=some s:=by simpa using e'
  obtain⟨pre,fx,post,hf,ox⟩:=r.get e2 e3;have:=ox.C4 o;subst this;have k1:∀a∈f1,a∉fx:=λ a ha hb=>aM.2.2 a ha a (by rw[hf];exact zaq _ (z9 _ hb)) rfl;obtain⟨ah,q1,q2,q3⟩:=Ax.put sm r e2 e3 o o' (λ a ha hn=>k a (z9 _ ha) hn) aM.2.1 jb (λ a ha hb=>dj a ha (z9 _ hb));refine⟨f1++ah,.cons (h.move sm λ a ha=>k a (zaq _ ha) (k1 a ha)) q1,zaj.mpr ⟨aM.1,q2,λ a ha b hb z=>?_⟩,λ a ha=>?_⟩
  ·subst z;rcases q3 a hb with z|z
   ·exact k1 a ha (dj a z (zaq _ ha))
   ·exact aM.2.2 a ha a z.1 rfl
  ·rcases zab.mp ha with ha|ha
   ·exact .inr ⟨zaq _ ha,k1 a ha⟩
   ·rcases q3 a ha with z|z
    ·exact .inl z
    ·exact .inr ⟨z9 _ z.1,z.2⟩
theorem BX.put (sm:Ah (del H P) (del H' P')){v v1:V}{t t1 u:OT}{π:List Nat}{fp au fu:List Addr}(h:BX K H P v t fp)(s:K5 K H P v t π v1 t1)(o:BX K H P v1 t1 au)(o':BX K H' P' v1 u fu)(k:∀a∈fp,a∉au->H' a=H a)(nd:fp.Nodup)(jb:fu.Nodup)(dj:∀a∈fu,a∈fp->a∈au):
 ∃ah,BX K H' P' v (Eu t π u) ah/\ah.Nodup/\∀a∈ah,a∈fu\/(a∈fp/\a∉au):=by
 induction s generalizing fp with
 |nil =>
  rw[Ew];exact⟨fu,o',jb,λ a ha=>.inl ha⟩
 | @cons v t q xs j x s π v1 t1 n hx hs s1 ih =>
  obtain⟨q',dz,fq,rfl,n',r⟩:=h.node (.inl λ z=>by rw[z] at hs;cases hs);obtain⟨rfl,rfl⟩:=n.inj n';have jc:=zaj.mp nd;obtain⟨pre,fs,post,hf,ox⟩:=r.get hx hs;have sub:∀a∈fs,a∈fq:=λ a ha=>by rw[hf];exact zaq _ (z9 _ ha)
  have vz:fs.Nodup:=by
   have:=jc.2.1;rw[hf] at this;exact (zaj.mp (zaj.mp this).1).2.1
  obtain⟨fz,oz,kz,_⟩:=ox.part s1;have:=oz.C4 o;subst this;obtain⟨bC,q1,q2,q3⟩:=ih ox o o' (λ a ha hn=>k a (z9 _ (sub a ha)) hn) vz (λ a ha hb=>dj a ha (z9 _ (sub a hb)));have qf:∀a∈q,a∉fs:=λ a ha hb=>jc.2.2 a ha a (sub a hb) rfl;have kq:∀a∈q,H' a=H a:=λ a ha=>k a (zaq _ ha) λ z=>qf a ha (kz a z);obtain⟨ah,p1,p2,p3⟩:=r.put sm hx hs ox q1 (λ a ha hn=>k a (z9 _ ha) λ z=>hn (kz a z)) jc.2.1 q2 (λ a ha hb=>by
   rcases q3 a ha with z|z
   ·exact kz a (dj a z (z9 _ hb))
   ·exact z.1)
  rw[Yb hs];have n2:=(n.move sm kq).kids ((kids t).set j (Eu s π u));have o2:=n2.own (fp:=ah) (by rw[RH n];exact p1);refine⟨q++ah,o2,zaj.mpr ⟨jc.1,p2,λ a ha b hb z=>?_⟩,λ a ha=>?_⟩
  ·subst z;rcases p3 a hb with z|z
   ·rcases q3 a z with y|y
    ·exact qf a ha (kz a (dj a y (zaq _ ha)))
    ·exact qf a ha y.1
   ·exact jc.2.2 a ha a z.1 rfl
  ·rcases zab.mp ha with ha|ha
   ·exact .inr ⟨zaq _ ha,λ z=>qf a ha (kz a z)⟩
   ·rcases p3 a ha with z|z
    ·rcases q3 a z with y|y
     ·exact .inl y
     ·exact .inr ⟨z9 _ (sub a y.1),y.2⟩
    ·exact .inr ⟨z9 _ z.1,λ y=>z.2 (kz a y)⟩
end
def PU (P:Addr->Prop)(fp:List Addr):Addr->Prop:=λ a=>P a\/a∈fp
theorem LJ {P:Addr->Prop}{fp:List Addr}:∀a,P a->PU P fp a:=λ a h=>.inl h
theorem CW {P:Addr->Prop}{fp:List Addr}{H H':Hp}(s:Ah H H')(hn:∀a∈fp,H a=none):Ah (del H P) (del H' (PU P fp)):=λ b o e=>by
 obtain⟨h1,h2⟩:=Am e;rw[AD λ z=>z.elim h1 λ w=>by rw[hn b w] at h2;cases h2];exact s b o h2
theorem Vo {P:Addr->Prop}{H:Hp}:del H (PU P [])=del H P:=by
 funext b;by_cases h:P b
 ·rw[G0 h,G0 (.inl h)]
 ·rw[AD h,AD λ z=>z.elim h λ w=>by cases w]
theorem Jo {P:Addr->Prop}{fp:List Addr}{K:zt}{H':Hp}{Q:Addr->Prop}{v:V}{t:OT}(hP:∀a,P a->EW H' a)(o:BX K H' Q v t fp):∀a,PU P fp a->EW H' a:=λ a h=>h.elim (hP a) (o.Cn a)
theorem WM {P:Addr->Prop}{fp:List Addr}{K:zt}{H':Hp}{Q:Addr->Prop}{v:List V}{t:List OT}(hP:∀a,P a->EW H' a)(o:Ax K H' Q v t fp):∀a,PU P fp a->EW H' a:=λ a h=>h.elim (hP a) (o.Cn a)
theorem Al.more {K:zt}{P0:DJ}{P P':Addr->Prop}{H H':Hp}{σ:St}{ρ:Ad}(E:Al K P0 P H σ ρ)(e:Ah H H')(hs:∀a,P a->P' a)(ht:∀a,P' a->EW H' a)(sm:Ah (del H P) (del H' P')):Al K P0 P' H' σ ρ:=by
 have keep:∀(c:Cl) (v:V) (fp:List Addr),CT K H P c v fp->∀a∈fp,H' a=H a:=λ c v fp o a ha=>by
  obtain⟨xs,q⟩:=o.at a ha;rw[q];exact e _ _ q
 exact⟨λ a h=>hs a (E.sub a h),ht,λ i d h=>let ⟨v,h1,h2⟩:=E.val i d h;⟨v,h1,h2.mono sm⟩,
  λ i c h io=>let ⟨v,fp,h1,h2,h3,h4⟩:=E.ows i c h io;⟨v,fp,h1,h2.move sm (keep c v fp h2),λ a ha=>⟨hs a (h3 a ha).1,(h3 a ha).2⟩,h4⟩,
  λ i j c c' v v' fp ah hi hj si sj h h' ac=>E.ZV sm (λ v fp _ o a ha=>keep _ _ _ o a ha) (λ v fp _ o a ha=>keep _ _ _ o a ha) hi hj si sj h h' ac,E.len,E.pin⟩
def Zb (K:zt)(WX:Str->Hp->Prop)(P:Addr->Prop)(H:Hp)(Q:VK):M OT->Prop
 | .ok t=>∀v fp H',Ah H H'->(∀a∈fp,H a=none)->fp.Nodup->BX K H' (PU P fp) v t fp->Q v H'
 | .ex x=>∀H',Ah H H'->WX x H'
 | .bad=>False
def gNs (K:zt)(WX:Str->Hp->Prop)(P:Addr->Prop)(H:Hp)(Q:List V->Hp->Prop):M (List OT)->Prop
 | .ok t=>∀v fp H',Ah H H'->(∀a∈fp,H a=none)->fp.Nodup->Ax K H' (PU P fp) v t fp->Q v H'
 | .ex x=>∀H',Ah H H'->WX x H'
 | .bad=>False
theorem El {H H':Hp}(s:Ah H H'){a:Addr}(h:H' a=none):H a=none:=by
 cases q:H a with
 |none=>rfl
 |some o=>rw[s a o q] at h;cases h
section
variable {K:zt}{WX:Str->Hp->Prop}{P:Addr->Prop}{H H':Hp}
theorem Zb.same {Q:VK}{m:M OT}(h:Zb K WX P H Q m)(e:Ah H H'):Zb K WX P H' Q m:=by
 cases m with
 |ok d=>exact λ v fp H2 q hn nd o=>h v fp H2 (e.trans q) (λ a ha=>El e (hn a ha)) nd o
 |ex x=>exact λ H2 q=>h H2 (e.trans q)
 |bad=>exact h
end
def DN (X:Cx)(WX:Str->Hp->Prop)(e:Expr)(f:Ad->M OT):Prop:=
 ∃t,PE X e t/\∀P0 P σ H Q ρ,Al X.K P0 P H σ ρ->Zb X.K WX P H Q (f ρ)->t σ H Q
def uX (X:Cx)(WX:Str->Hp->Prop)(es:List Expr)(f:Ad->M (List OT)):Prop:=
 ∃t,PA X es t/\(∀P0 P σ H Q ρ,Al X.K P0 P H σ ρ->gNs X.K WX P H Q (f ρ)->t σ H Q)/\∀ρ ts,f ρ=.ok ts->ts.length=es.length
noncomputable def sH (d:D):M OT:=.ok (.sh d)
noncomputable def sI (t:OT):M D:=.ok (er t)
section
variable {X:Cx}{WX:Str->Hp->Prop}{c:Bool}{P0:DJ}{P:Addr->Prop}{H:Hp}{σ:St}{ρ:Ad}{a b e:Expr}{f g:Ad->M D}{fn:Ad->M OT}{pos:Pos}{es:List Expr}
theorem AA (h:DE X WX true e f):DN X WX e (λ ρ=>(f ρ).bind sH):=by
 obtain⟨t,h1,h2⟩:=h;refine⟨t,h1,λ P0 P σ H Q ρ E g=>h2 P0 P σ H Q ρ E ?_⟩;dsimp only at g;cases q:f ρ with
 |bad|ex x=>rw[q] at g;exact g
 |ok d=>rw[q] at g;exact λ v H' s hv=>g v [] H' s (λ a ha=>by cases ha) zbn (.sh (by rw[Vo];exact hv))
theorem Aj (h:DN X WX e fn):DE X WX c e (λ ρ=>(fn ρ).bind sI):=by
 suffices z:DE X WX true e (λ ρ=>(fn ρ).bind sI) by
  cases c with
  |true=>exact z
  |false=>exact Vb z
 obtain⟨t,h1,h2⟩:=h;refine⟨t,h1,λ P0 P σ H Q ρ E g=>h2 P0 P σ H Q ρ E ?_⟩;dsimp only at g;cases q:fn ρ with
 |bad|ex x=>rw[q] at g;exact g
 |ok d =>
  rw[q] at g;exact λ v fp H' s hn nd o=>g v H' s (o.has LJ λ a ha z=>(E.Cn a z).no (hn a ha))
theorem Cc:uX X WX [] (λ _=>.ok []):=⟨_,CP,λ P0 P σ H Q ρ E h=>h [] [] H (Ah.refl H) (λ a ha=>by cases ha) zbn .nil,λ ρ ds h=>by cases h;rfl⟩
theorem C6 {es:List Expr}{fs:Ad->M (List OT)}(he:DN X WX e fn)(hr:uX X WX es fs)(hs:starEach (e::es) X.env=(false,eval e X.env)::starEach es X.env:=by rfl):
 uX X WX (e::es) (λ ρ=>(fn ρ).bind λ d=>(fs ρ).bind λ ds=>.ok (d::ds)):=by
 obtain⟨te,e1,e2⟩:=he;obtain⟨tr,r1,r2,r3⟩:=hr;refine⟨_,BC e1 r1 hs,λ P0 P σ H Q ρ E h=>?_,λ ρ ds h=>?_⟩
 rotate_left
 ·dsimp only at h;cases q:fn ρ with
  |bad|ex x=>rw[q] at h;cases h
  |ok x =>
   rw[q] at h;cases q2:fs ρ with
   |bad|ex x=>rw[q2] at h;cases h
   |ok xs =>
    rw[q2] at h;cases h;rw[z5,z5,r3 ρ xs q2]
 dsimp only at h;refine e2 P0 P σ H _ ρ E ?_;cases q:fn ρ with
 |bad|ex x=>rw[q] at h;exact h
 |ok x =>
  rw[q] at h;intro v fp H1 s1 n1 ga o1;have E1:Al X.K P0 (PU P fp) H1 σ ρ:=E.more s1 LJ (Jo (E.same s1).Cn o1) (CW s1 n1);refine r2 P0 (PU P fp) σ H1 _ ρ E1 ?_;cases q2:fs ρ with
  |bad=>rw[q2] at h;exact h
  |ex y=>rw[q2] at h;exact λ H' s=>h H' (s1.trans s)
  |ok ds =>
   rw[q2] at h;intro vs fq H2 s2 n2 aM o2;have dj:∀a∈fp,a∉fq:=λ a ha hb=>(o1.Cn a ha).no (n2 a hb);have eP:PU (PU P fp) fq=PU P (fp++fq):=by
    funext a;simp only[PU,zab,or_assoc]
   have sm:Ah (del H1 (PU P fp)) (del H2 (PU P (fp++fq))):=by rw[<-eP];exact CW s2 n2
   refine h _ (fp++fq) H2 (s1.trans s2) (λ a ha=>?_) (zaj.mpr ⟨ga,aM,λ a ha b hb z=>dj a ha (by rw[z];exact hb)⟩) (.cons (o1.move sm λ a ha=>?_) (by rw[<-eP];exact o2))
   ·rcases zab.mp ha with ha|ha
    ·exact n1 a ha
    ·exact El s1 (n2 a ha)
   ·obtain⟨o,z,_⟩:=o1.Cn a ha;rw[z];exact s2 _ _ z
theorem pZ {P:Addr->Prop}{fp:List Addr}{p:Addr}{H:Hp}{o:HO}(hn:H p=none)(hP:∀a,PU P fp a->EW H a):Ah (del H (PU P fp)) (del (upd H p o) (PU P (p::fp))):=λ b u e=>by
 obtain⟨h1,h2⟩:=Am e;have hb:b≠p:=AJ h2 hn;rw[AD λ z=>z.elim (λ z=>h1 (.inl z)) λ w=>(z8.mp w).elim hb λ w=>h1 (.inr w),Ag hb];exact h2
theorem G6 {fs:Ad->M (List OT)}(ha:uX X WX es fs)(hz:es.length<=1000:=by decide):DN X WX (.List es pos) (λ ρ=>(fs ρ).bind λ ts=>.ok (.lst ts)):=by
 obtain⟨ta,a1,a2,a3⟩:=ha;refine⟨_,V0 a1,λ P0 P σ H Q ρ E h=>?_⟩;dsimp only at h;refine a2 P0 P σ H _ ρ E ?_;cases q:fs ρ with
 |bad|ex y=>rw[q] at h;exact h
 |ok ts =>
  rw[q] at h;simp only[M.Aa] at h;intro vs fp H1 s1 n1 ga o1;have hP:=WM (E.same s1).Cn o1;refine⟨zbk (AH (by rw[o1.len,a3 ρ ts q];exact hz)),λ p hp=>?_⟩;have ac:∀a∈fp,a≠p:=λ a ha z=>(o1.Cn a ha).no (by rw[z];exact hp);exact h _ (p::fp) _ (s1.trans (AM hp _)) (λ a ha=>(z8.mp ha).elim (λ z=>by rw[z];exact El s1 hp) (n1 a)) (zaw.mpr ⟨λ z=>ac p z rfl,ga⟩) (.lst An (o1.move (pZ hp hP) λ a ha=>Ag (ac a ha)))
theorem iV {P:Addr->Prop}{fp:List Addr}{p:Addr}{H:Hp}{o:HO}(hn:H p=none)(hP:∀a,PU P fp a->EW H a):Ah (del H (PU P fp)) (del (upd H p o) (PU P fp)):=λ b u e=>by
 obtain⟨h1,h2⟩:=Am e;have hb:b≠p:=AJ h2 hn;rw[AD h1,Ag hb];exact h2
theorem RI {fs:Ad->M (List OT)}{x1}(ha:uX X WX es fs)(hz:es.length<=1000:=by decide):DN X WX (.Tuple es x1 pos) (λ ρ=>(fs ρ).bind λ ts=>.ok (.tup ts)):=by
 obtain⟨ta,a1,a2,a3⟩:=ha;refine⟨_,ZA a1,λ P0 P σ H Q ρ E h=>?_⟩;dsimp only at h;refine a2 P0 P σ H _ ρ E ?_;cases q:fs ρ with
 |bad|ex y=>rw[q] at h;exact h
 |ok ts =>
  rw[q] at h;simp only[M.Aa] at h;intro vs fp H1 s1 n1 ga o1;have hP:=WM (E.same s1).Cn o1;refine⟨zbk (AH (by rw[o1.len,a3 ρ ts q];exact hz)),λ p hp=>?_⟩;have ac:∀a∈fp,a≠p:=λ a ha z=>(o1.Cn a ha).no (by rw[z];exact hp);refine h _ fp _ (s1.trans (AM hp _)) n1 ga (.tup ?_ (o1.move (iV hp hP) λ a ha=>Ag (ac a ha)));rw[AD λ z=>(hP p z).no hp];exact An
theorem Ai.ows {K:zt}{H:Hp}{P:Addr->Prop}:∀ {xs:List V}{ds:List D},Ai K (del H P) xs ds->Ax K H P xs (ds.map .sh) []
 |_,_,.nil=>.nil
 |_,_,.cons h t=>.cons (.sh h) t.ows
theorem Zb.II {K:zt}{WX:Str->Hp->Prop}{P:Addr->Prop}{H H1:Hp}{Q:VK}{xs:List V}{ds:List D}(h:Zb K WX P H Q (.ok (.lst (ds.map .sh))))(s1:Ah H H1)(hx:Ai K (del H1 P) xs ds):∀p,H1 p=none->Q (.ref p) (upd H1 p (.lst xs)):=λ p hp=>by
 have hn:∀a∈[p],H1 a=none:=λ a ha=>by rw[z6.mp ha];exact hp
 exact h _ [p] _ (s1.trans (AM hp _)) (λ a ha=>El s1 (hn a ha)) (by simp) (.lst An (hx.mono (CW (AM hp _) hn)).ows)
theorem Ax.qA {K:zt}{H:Hp}{P:Addr->Prop}:∀ {xs:List V}{ds:List D}{fp:List Addr},Ax K H P xs (ds.map .sh) fp->fp=[]/\Ai K (del H P) xs ds
 |_,[],_,.nil=>⟨rfl,.nil⟩
 |_,d::ds,_,.cons (.sh h) r=>by
  obtain⟨rfl,q⟩:=Ax.qA r;exact⟨rfl,.cons h q⟩
noncomputable def MJ:Cl->Cl
 | .val d=>.val d
 | .own ds=>.val (.lst ds)
 | .ow (.rows FZ)=>.val (.lst (FZ.map D.lst))
 | .ow (.MI _ ds)=>.val (.lst ds)
 | .ow (.tree _ t)=>.val (er t)
noncomputable def FA (ρ:Ad):Ad:=ρ.map λ o=>o.map MJ
@[simp] theorem K6:FA []=[]:=rfl
@[simp] theorem Ic (ρ:Ad):FA (none::ρ)=none::FA ρ:=rfl
@[simp] theorem Ie (c:Cl) (ρ:Ad):FA (some c::ρ)=some (MJ c)::FA ρ:=rfl
theorem Al.low {K:zt}{P0:DJ}{P:Addr->Prop}{H:Hp}{σ:St}{ρ:Ad}(E:Al K P0 P H σ ρ):Al K P0 P0 H σ (FA ρ):=by
 have key:∀(i:Nat) (c:Cl),(FA ρ)[i]?=some (some c)->∃c',ρ[i]?=some (some c')/\c=MJ c':=λ i c h=>by
  unfold FA at h;rw[zaa] at h;cases q:ρ[i]? with
  |none=>rw[q] at h;cases h
  |some o =>
   rw[q] at h;cases o with
   |none=>cases h
   |some c'=>cases h;exact⟨c',rfl,rfl⟩
 have pd:∀c,GX (MJ c)=false:=λ c=>by
  cases c with
  |val d|own ds=>rfl
  |ow o=>cases o<;>rfl
 have jd:∀c,Qu (MJ c)=none:=λ c=>by
  cases c with
  |val d|own ds=>rfl
  |ow o=>cases o<;>rfl
 have v3:∀c v fp,¬ CT K H P0 (MJ c) v fp:=λ c v fp h=>by
  cases c with
  |val d|own ds=>exact h
  |ow o=>cases o<;>exact h
 refine⟨λ _ h=>h,λ a h=>E.Cn a (E.sub a h),λ i d h=>?_,λ i c h io=>?_,λ i j c c' v v' fp ah hi hj si sj h h' ac=>?_,by unfold FA;rw[zv];exact E.len,λ i c n h hp=>by obtain⟨c',h1,rfl⟩:=key i _ h;rw[jd] at hp;cases hp⟩
 ·obtain⟨c,h1,h2⟩:=key i _ h;cases c with
  |val d' =>
   cases h2;obtain⟨v,q1,q2⟩:=E.val i d h1;exact⟨v,q1,q2.mono (CQ E.sub)⟩
  |own ds =>
   cases h2;obtain⟨p,xs,q1,q2,q3,q4,q5⟩:=E.own i ds h1;exact⟨_,q1,.lst (.of (show del H P0 p=_ by rw[AD q4];exact q2)) (q5.mono (CQ E.sub))⟩
  |ow o =>
   obtain⟨v,fp,q1,q2,q3,q4⟩:=E.ows i _ h1 rfl;cases o with
   |rows FZ =>
    cases h2;obtain⟨p,ps,rfl,rfl,q5,q6⟩:=q2;exact⟨_,q1,.lst (.of (show del H P0 p=_ by rw[AD (q3 p zw).2];exact q5)) (q6.pU E.sub λ a ha=>(q3 a (zx _ ha)).2)⟩
   |MI p ds =>
    cases h2;obtain⟨p,xs,rfl,rfl,q5,q6⟩:=q2;exact⟨_,q1,.lst (.of (show del H P0 p=_ by rw[AD (q3 p zw).2];exact q5)) (q6.mono (CQ E.sub))⟩
   |tree p t =>
    cases h2;exact⟨_,q1,BX.has E.sub (λ a ha=>(q3 a ha).2) q2⟩
 ·obtain⟨c',h1,rfl⟩:=key i _ h;rw[pd] at io;cases io
 ·obtain⟨c1,h1,rfl⟩:=key i _ hi;exact (v3 _ _ _ h).elim
theorem Jp {ft:Ad->M Bool}(h:DT X WX e ft):DT X WX e (λ ρ=>ft (FA ρ)):=by
 obtain⟨t,h1,h2⟩:=h;exact⟨t,h1,λ P0 P σ H Q ρ E g=>h2 P0 P0 σ H Q (FA ρ) E.low g⟩
mutual
noncomputable def Hd:OT->Bool
 | .sh d=>LH d
 | .lst ts| .tup ts| .Bu _ _ ts| .ins _ _ ts=>Gw ts
noncomputable def Gw:List OT->Bool
 |[]=>true
 |t::r=>Hd t&&Gw r
end
mutual
theorem BX.clean {K:zt}{H:Hp}{P P':Addr->Prop}(ht:∀a,P' a->EW H a):∀ {v:V}{t:OT}{fp:List Addr},Hd t=true->BX K H P v t fp->BX K H P' v t fp
 |_,_,_,n,.sh h=>.sh (h.LH ht (by rw[Hd] at n;exact n))
 |_,_,_,n,.lst h r=>.lst h (Ax.clean ht (by rw[Hd] at n;exact n) r)
 |_,_,_,n,.tup h r=>.tup (WK ht h) (Ax.clean ht (by rw[Hd] at n;exact n) r)
 |_,_,_,n,.dK h r=>.dK h (Ax.clean ht (by rw[Hd] at n;exact n) r)
 |_,_,_,n,.dT h r=>.dT h (Ax.clean ht (by rw[Hd] at n;exact n) r)
 |_,_,_,n,.ins x h r=>.ins x h (Ax.clean ht (by rw[Hd] at n;exact n) r)
theorem Ax.clean {K:zt}{H:Hp}{P P':Addr->Prop}(ht:∀a,P' a->EW H a):∀ {v:List V}{t:List OT}{fp:List Addr},Gw t=true->Ax K H P v t fp->Ax K H P' v t fp
 |_,_,_,_,.nil=>.nil
 |_,_,_,n,.cons h r=>by
  rw[Gw,zat] at n;exact .cons (BX.clean ht n.1 h) (Ax.clean ht n.2 r)
end
noncomputable def UK (m:M OT):M OT:=m.bind λ t=>if Hd t=true then .ok t else .bad
theorem Ex (h:DN X WX e fn):DN X WX e (λ ρ=>UK (fn (FA ρ))):=by
 obtain⟨t,h1,h2⟩:=h;refine⟨t,h1,λ P0 P σ H Q ρ E g=>h2 P0 P0 σ H Q (FA ρ) E.low ?_⟩;unfold UK at g;dsimp only at g;cases q:fn (FA ρ) with
 |bad|ex x=>rw[q] at g;exact g
 |ok t =>
  rw[q] at g;simp only[M.Aa] at g;by_cases hf:Hd t=true
  ·rw[if_pos hf] at g;exact λ v fp H' s hn nd o=>g v fp H' s hn nd (o.clean (Jo (E.same s).Cn o) hf)
  ·rw[if_neg hf] at g;exact g.elim
noncomputable def II (d:D):M OT:=match d with
 | .lst ds| .tup ds=>.ok (.lst (ds.map .sh))
 |_=>.bad
theorem N5 {p:Pos}(hg:Gl X "list")(hm:X.mg "list" = none)(ha:DE X WX true e f)(hb:bootBuiltins "list" = some (.type "list"):=by decide +kernel)(aD:starEach [e] X.env=[(false,eval e X.env)]:=by rfl):
 DN X WX (.Call (.Name "list" p) [e] [] pos) (λ ρ=>(f ρ).bind II):=by
 obtain⟨ta,a1,a2⟩:=ha;refine⟨_,Lx Rm hg hm hb (BC a1 CP aD) (he:=aD),λ P0 P σ H Q ρ E h=>?_⟩;dsimp only at h;refine a2 P0 P σ H _ ρ E ?_;refine XZ h λ d h=>?_;intro v H1 s1 hv;unfold II at h;split at h
 ·cases hv with
  |lst hs hh=>exact⟨_,_,rfl,.inl hs.B2,h.II s1 hh⟩
 ·cases hv with
  |tup hs hh=>exact⟨_,_,rfl,.inr (EY.of (Am hs).2),h.II s1 hh⟩
 ·exact h.elim
def OpN (K:zt)(WX:Str->Hp->Prop)(r:R2)(aH:D->D->M OT):Prop:=
 ∀(P:Addr->Prop) (H:Hp) (x y:D) (v w:V) (Q:VK),(∀a,P a->EW H a)->BD K (del H P) v x->BD K (del H P) w y->Zb K WX P H Q (aH x y)->r v w H Q
theorem uY {ta tb:TE}{r:R2}{aH:D->D->M OT}(ha:∀P0 P σ H Q ρ,Al X.K P0 P H σ ρ->gV X.K WX (Lv true P0 P) H Q (f ρ)->ta σ H Q)(hb:∀P0 P σ H Q ρ,Al X.K P0 P H σ ρ->gV X.K WX (Lv true P0 P) H Q (g ρ)->tb σ H Q)
 (hr:OpN X.K WX r aH) {Q:VK} (E:Al X.K P0 P H σ ρ) (h:Zb X.K WX P H Q ((f ρ).bind λ x=>(g ρ).bind λ y=>aH x y)):sC r ta tb σ H Q:=by
 refine ha P0 P σ H _ ρ E ?_;cases e:f ρ with
 |bad|ex x=>rw[e] at h;exact h
 |ok x =>
  rw[e] at h;intro v H1 s1 hv;refine hb P0 P σ H1 _ ρ (E.same s1) ?_;cases e2:g ρ with
  |bad=>rw[e2] at h;exact h
  |ex y=>rw[e2] at h;exact λ H' s=>h H' (s1.trans s)
  |ok y =>
   rw[e2] at h;intro w H2 s2 hw;exact hr _ H2 x y v w Q ((E.same s1).same s2).Cn (hv.mono s2.del) hw ((h.same s1).same s2)
noncomputable def Md (x y:D):M OT:=match x,y with
 | .lst a,.lst b=>if a.length+b.length<=1000 then .ok (.lst ((a++b).map .sh)) else .bad
 |_,_=>.bad
end
noncomputable def spT (K:zt)(n:Nat)(F:List D->M OT):Sp:=λ vs H Q E=>vs.length=n/\∃P ds,(∀a,P a->EW H a)/\Ai K (del H P) vs ds/\Zb K (Ff K E) P H Q (F ds)
noncomputable def uZ:Cl->M OT
 | .val d=>.ok (.sh d)
 | .own ds=>.ok (.lst (ds.map .sh))
 | .ow (.rows FZ)=>.ok (.lst (FZ.map λ ds=>.lst (ds.map .sh)))
 | .ow (.MI _ _)=>.bad
 | .ow (.tree none t)=>.ok t
 | .ow (.tree (some _) _)=>.bad
noncomputable def Yc (m:M Out):M OT:=match m with
 | .ok (.ret d)=>.ok (.sh d)
 | .ok (.CM c)=>uZ c
 | .ok (.next _)=>.ok (.sh .AN)
 | .ex x=>.ex x
 |_=>.bad
theorem CS.ows {K:zt}{H:Hp}{P:Addr->Prop}:∀ {ps:List Addr}{FZ:List (List D)},CS K H P ps FZ->Ax K H P (ps.map V.ref) (FZ.map λ ds=>.lst (ds.map .sh)) ps
 |_,_,.nil=>.nil
 |_,_,.cons h r t=>.cons (.lst h r.ows) t.ows
theorem CT.tree {K:zt}{H:Hp}{P:Addr->Prop}{c:Cl}{v:V}{fp:List Addr}{t:OT}(h:CT K H P c v fp)(e:uZ c=.ok t):BX K H P v t fp:=by
 cases c with
 |val d=>exact h.elim
 |own ds =>
  cases e;obtain⟨p,xs,rfl,rfl,h1,h2⟩:=h;exact .lst h1 h2.ows
 |ow o =>
  cases o with
  |rows FZ =>
   cases e;obtain⟨p,ps,rfl,rfl,h1,h2⟩:=h;exact .lst h1 h2.ows
  |MI p ds=>cases e
  |tree p t' =>
   cases p with
   |none=>cases e;exact h
   |some q=>cases e
section
variable {P:Program}{w:World}{K:zt}{mg:Str->Option Value}{base:Heap}
theorem iW {WX:Str->Hp->Prop}{P P2:Addr->Prop}{H H':Hp}{Q:VK}{c:Cl}{v:V}{fp:List Addr}(h:Zb K WX P H Q (uZ c))(t:Tr P P H P2 H')(hs:∀a,P a->P2 a)(ho:CT K H' P2 c v fp)(hp:∀a∈fp,P2 a/\¬ P a)(nd:fp.Nodup):Q v H':=by
 cases q:uZ c with
 |bad=>rw[q] at h;exact h.elim
 |ex x=>cases c with
  |val d|own ds=>cases q
  |ow o =>
   cases o with
   |rows FZ|MI p ds=>cases q
   |tree p t'=>cases p<;>cases q
 |ok u =>
  rw[q] at h;have o:=ho.tree q;refine h v fp H' (E8 t) (λ a ha=>pY t (hp a ha).1 (hp a ha).2) nd (o.move (CQ λ a ha=>ha.elim (hs a) λ z=>(hp a z).1) λ _ _=>rfl)
theorem vA {x qual:Str}{st:Stmt}{f:Addr}{fd:FuncData}{N ps:List Str}{k:Nat}(F:Z9 K x qual st f fd)(S:Ae N ps (A5 st))(g:Ad->M Out)
 (hb:∀(B1:Value) (A:Around) (outer:List Env) (s:Shared) (H:Hp) (E:XK),BL k (A.deeper (envOfC qual (A5 st) s.heap.objs.size f B1))->UJ (mF P w K mg base N qual (A5 st) f B1 A outer s H E) (Ff K E) (AQ st) g):
 E7 P w K mg base (Za P w base) (k+1) f fd ps (spT K ps.length λ ds=>Yc (g (Dx N ds))):=by
 obtain⟨oc,od,kV,doc,pm,an,B1,ct,UH,rfl,lk,aP⟩:=F.ex;refine Ws lk aP S (λ vs H Q E h=>h.1) λ A outer s H vs Q E hr h=>?_;obtain⟨hl,P',ds,ht,hv,hq⟩:=h;obtain⟨t,h1,h2⟩:=hb B1 A outer s H E hr;refine⟨t,h1,h2 ⟨P',λ _=>0⟩ P' _ H _ _ (Qw ht hv) ?_⟩;dsimp only at hq;revert hq;cases g (Dx N ds) with
 |bad=>exact λ h=>h.elim
 |ex x=>exact λ h H' P2 t=>h H' (E8 t)
 |ok o =>
  cases o with
  |ret d=>exact λ h v H' P2 t hv=>h v [] H' (E8 t) (λ a ha=>by cases ha) zbn (.sh (by rw[Vo];exact hv))
  |next ρ=>exact λ h σ' H' P2 t E=>h .AN [] H' (E8 t) (λ a ha=>by cases ha) zbn (.sh .AN)
  |brk ρ|cont ρ=>exact λ h=>h.elim
  |CM c=>exact λ h v fp H' P2 t hs ht ho hp nd=>iW h t hs ho hp nd
  |Fw d ρ=>exact λ h=>h.elim
end
structure yZ (P:Program)(w:World)(K:zt)(mg:Str->Option Value)(base:Heap)(x:Str)(k n:Nat)(F:List D->M OT):Prop where
 ex:∃fa fd ps,E7 P w K mg base (Za P w base) k fa fd ps (spT K n F)/\mg x=some (.ref fa)/\zb4 K (.ref fa)=true/\Binds K fd ps []
theorem Au {P:Program}{w:World}{K:zt}{mg:Str->Option Value}{base:Heap}{x:Str}{st:Stmt}{N ps:List Str}{k n:Nat}(T:AG K mg x st ps)(S:Ae N ps (A5 st))(g:Ad->M Out)
 (hb:∀(f:Addr) (B1:Value) (A:Around) (outer:List Env) (s:Shared) (H:Hp) (E:XK),BL k (A.deeper (envOfC x (A5 st) s.heap.objs.size f B1))->UJ (mF P w K mg base N x (A5 st) f B1 A outer s H E) (Ff K E) (AQ st) g) (hn:ps.length=n:=by rfl):
 yZ P w K mg base x (k+1) n (λ ds=>Yc (g (Dx N ds))):=by
 obtain⟨f,fd,F,hm,hB⟩:=T.ex;subst hn;exact⟨⟨f,fd,ps,vA F S g (hb f),hm,F.kp,hB⟩⟩
section
variable {X:Cx}{E:XK}{WX:Str->Hp->Prop}{c:Bool}{e:Expr}{es:List Expr}{fs:Ad->M (List D)}{f:Ad->M D}{fn:Ad->M OT}{ft:Ad->M Bool}{pos:Pos}
theorem Ab {k n:Nat}{F:List D->M OT}{x:Str}{p:Pos}(xo:IR X E)(G:yZ X.prog X.w X.K X.mg X.base x k n F)(hr:BL k X.A)(hg:Gl X x)(ha:DA X (Ff X.K E) true (e::es) fs)(hn:(e::es).length=n)
 (aT:(x==("__debug__" : Str))=false:=by decide) (he:starEach (e::es) X.env=(false,eval e X.env)::starEach es X.env:=by rfl) (hpl:(backTo pos (starEach es X.env)).any (·.1)=false:=by rfl):
 DN X (Ff X.K E) (.Call (.Name x p) (e::es) [] pos) (λ ρ=>(fs ρ).bind F):=by
 obtain⟨fa,fd,ps,hF,hm,hk,hb⟩:=G.ex;obtain⟨ta,a1,a2,a3⟩:=ha;refine⟨_,Wr hF hr hg hm hk hb .nil xo.call a1 aT he hpl,λ P0 P σ H Q ρ E h=>?_⟩;dsimp only at h;refine a2 P0 P σ H _ ρ E ?_;cases q:fs ρ with
 |bad|ex x=>rw[q] at h;exact h
 |ok ds =>
  rw[q] at h;simp only[M.Aa] at h;intro vs H1 s1 aB;rw[zb0];exact⟨by rw[aB.length,a3 ρ ds q];exact hn,P,ds,(E.same s1).Cn,aB,h.same s1⟩
theorem Cu (h:DN X WX e fn):DN X (λ _ _=>False) e fn:=by
 obtain⟨t,h1,h2⟩:=h;refine⟨t,h1,λ P0 P σ H Q ρ E g=>h2 P0 P σ H Q ρ E ?_⟩;cases q:fn ρ with
 |bad=>rw[q] at g;exact g
 |ex x=>rw[q] at g;exact (g H (Ah.refl H)).elim
 |ok t=>rw[q] at g;exact g
noncomputable def Yd (t:OT):M Out:=match t with
 | .sh d=>.ok (.ret d)
 |t=>.ok (.CM (.ow (.tree none t)))
end
section
variable {X:Cx}{WX:Str->Hp->Prop}{c:Bool}{P0:DJ}{P:Addr->Prop}{H:Hp}{σ:St}{ρ:Ad}{a b e:Expr}{f g:Ad->M D}{fn:Ad->M OT}{pos:Pos}
theorem Al.wZ {K:zt}{H':Hp}{fp:List Addr}(E:Al K P0 P H σ ρ)(s:Ah H H')(hn:∀a∈fp,H a=none):Tr P0 P H (PU P fp) H':=
 ⟨CW s hn,λ a ha=>by obtain⟨o,q,_⟩:=E.Cn a (E.sub a ha);rw[q];exact s _ _ q⟩
theorem Ac (ha:DN X WX e fn):DS X WX (.Return (some e) pos) (λ ρ=>(fn ρ).bind Yd):=by
 obtain⟨ta,a1,a2⟩:=ha;refine⟨_,UO a1,λ P0 P σ H Z ρ E h=>?_⟩;dsimp only at h;refine a2 P0 P σ H _ ρ E ?_;refine iM h E λ t h=>?_;intro v fp H' s hn nd o;have key:gS X.K WX P0 P H Z (.ok (.CM (.ow (.tree none t))))->Z.rt v H':=λ h =>
  h v fp H' (PU P fp) (E.wZ s hn) (λ a ha=>.inl (E.sub a ha)) (Jo (E.same s).Cn o) o (λ a ha=>⟨.inr ha,λ z=>(E.Cn a (E.sub a z)).no (hn a ha)⟩) nd
 cases t with
 |sh d =>
  cases o with
  |sh hv=>exact h v H' P (E.tr s) (hv.mono (CQ λ a ha=>.inl (E.sub a ha)))
 |lst ts|tup ts|Bu b ks ts|ins x ns ts=>exact key h
noncomputable def Ey:List OT->Option (List D)
 |[]=>some []
 | .sh d::r=>(Ey r).map (d::·)
 |_::_=>none
theorem CI:∀ds:List D,Ey (ds.map .sh)=some ds
 |[]=>rfl
 |d::r=>by rw[zy,Ey,CI r];rfl
theorem Dg:∀ {ts:List OT}{ds:List D},Ey ts=some ds->ts=ds.map .sh
 |[],ds,h=>by cases h;rfl
 | .sh d::r,ds,h=>by
  rw[Ey] at h;cases q:Ey r with
  |none=>rw[q] at h;cases h
  |some es=>rw[q] at h;cases h;rw[zy,<-Dg q]
 | .lst _::r,ds,h| .tup _::r,ds,h| .Bu _ _ _::r,ds,h| .ins _ _ _::r,ds,h=>by cases h
noncomputable def toCl (p:Option Nat)(t:OT):Cl:=match t with
 | .lst ts=>(match Ey ts with
  |some ds=>(match p with|none=>.own ds|some q=>.ow (.MI q ds))
  |none=>.ow (.tree p (.lst ts)))
 |t=>.ow (.tree p t)
@[simp] theorem toCl_list (ds:List D):toCl none (.lst (ds.map .sh))=.own ds:=by unfold toCl;simp only[CI]
@[simp] theorem toCl_listP (q:Nat) (ds:List D):toCl (some q) (.lst (ds.map .sh))=.ow (.MI q ds):=by unfold toCl;simp only[CI]
@[simp] theorem toCl_dct (p:Option Nat) (b:Bool) (ks:List D) (ts:List OT):toCl p (.Bu b ks ts)=.ow (.tree p (.Bu b ks ts)):=rfl
noncomputable def treeOf:Cl->Option (Option Nat×OT)
 | .own ds=>some (none,.lst (ds.map .sh))
 | .ow (.MI p ds)=>some (some p,.lst (ds.map .sh))
 | .ow (.rows FZ)=>some (none,.lst (FZ.map λ ds=>.lst (ds.map .sh)))
 | .ow (.tree p t)=>some (p,t)
 | .val _=>none
theorem CT.toT {K:zt}{H:Hp}{P:Addr->Prop}{c:Cl}{v:V}{fp:List Addr}{p:Option Nat}{t:OT}(h:CT K H P c v fp)(e:treeOf c=some (p,t)):BX K H P v t fp:=by
 cases c with
 |val d=>exact h.elim
 |own ds =>
  cases e;obtain⟨p,xs,rfl,rfl,h1,h2⟩:=h;exact .lst h1 h2.ows
 |ow o =>
  cases o with
  |rows FZ =>
   cases e;obtain⟨p,ps,rfl,rfl,h1,h2⟩:=h;exact .lst h1 h2.ows
  |MI p ds =>
   cases e;obtain⟨p,xs,rfl,rfl,h1,h2⟩:=h;exact .lst h1 h2.ows
  |tree p t'=>cases e;exact h
theorem CT.toCl {K:zt}{H:Hp}{P:Addr->Prop}{v:V}{fp:List Addr}{p:Option Nat}{t:OT}(h:BX K H P v t fp):CT K H P (toCl p t) v fp:=by
 unfold L2.toCl;split
 ·rename_i ts;cases q:Ey ts with
  |none=>exact h
  |some ds =>
   have e:=Dg q;subst e;cases h with
   |lst h1 h2 =>
    obtain⟨rfl,h3⟩:=h2.qA;cases p with
    |none|some q=>exact⟨_,_,rfl,rfl,h1,h3⟩
 ·exact h
theorem G7 (p:Option Nat)(t:OT):Qu (toCl p t)=p:=by
 unfold toCl;split
 ·rename_i ts;cases q:Ey ts with
  |none|some ds=>cases p<;>rfl
 ·cases p<;>rfl
theorem Jq {c:Cl}{p:Option Nat}{t:OT}(h:treeOf c=some (p,t)):Qu c=p:=by
 cases c with
 |val d=>cases h
 |own ds=>cases h;rfl
 |ow o =>
  cases o with
  |rows FZ|MI p ds=>cases h;rfl
  |tree p t=>cases h;cases p<;>rfl
noncomputable def RJ (i:Nat)(ρ:Ad)(t:OT):M Out:=match t with
 | .sh d=>.ok (.next (ρ.set i (some (.val d))))
 |t=>.ok (.next (ρ.set i (some (toCl none t))))
theorem mH {K:zt}{i:Nat}{t:OT}{v:V}{fp:List Addr}{H':Hp}{Z:Ends}(E:Al K P0 P H σ ρ)(s:Ah H H')(hn:∀a∈fp,H a=none)(nd:fp.Nodup)(o:BX K H' (PU P fp) v t fp)(h:gS K WX P0 P H Z (RJ i ρ t)):Z.nx (σ.set i (some v)) H':=by
 have key:gS K WX P0 P H Z (.ok (.next (ρ.set i (some (toCl none t)))))->Z.nx (σ.set i (some v)) H':=λ h=>by
  refine h _ H' (PU P fp) (E.wZ s hn) (E.iL LJ (Jo (E.same s).Cn o) (CW s hn) (λ j c' v' ah ac g1 g2 g3 a ha=>?_) (CT.toCl o) (λ a ha=>⟨.inr ha,λ z=>(E.Cn a (E.sub a z)).no (hn a ha)⟩) nd (λ n z=>by rw[G7] at z;cases z));obtain⟨xs,z⟩:=g3.at a ha;exact⟨by rw[z];exact s _ _ z,λ w=>by rw[hn a w] at z;cases z⟩
 cases t with
 |sh d =>
  cases o with
  |sh hv=>exact h _ H' P (E.tr s) ((E.same s).Vf (by rw[Vo] at hv;exact hv))
 |lst ts|tup ts|Bu b ks ts|ins x ns ts=>exact key h
theorem BE (i:Nat){x:Str}{pos':Pos}(hN:X.N.Nodup)(hi:X.N[i]?=some x)(hx:Loc X.env.scope x)(ha:DN X WX e fn)(hs:swapsWith e (some (.Name x pos')) pos.line X.env=pure false:=by rfl)(hf:X.fn x=true\/X.env.scope.names.lookup x=some .local:=by first | exact .inl rfl | exact .inr rfl | assumption):
 DS X WX (.Assign [.Name x pos'] e pos) (λ ρ=>(fn ρ).bind (RJ i ρ)):=by
 obtain⟨ta,a1,a2⟩:=ha;refine⟨_,UP hN hi hx a1 hs hf,λ P0 P σ H Z ρ E h=>?_⟩;dsimp only at h;refine a2 P0 P σ H _ ρ E ?_;cases q:fn ρ with
 |bad=>rw[q] at h;exact h
 |ex x=>rw[q] at h;exact λ H' s=>h H' P (E.tr s)
 |ok t =>
  rw[q] at h;exact λ v fp H' s hn nd o=>mH E s hn nd o h
noncomputable def Vp (i:Nat)(ρ:Ad):M Out:=match ρ[i]? with
 |some (some (.val d))=>.ok (.ret d)
 |some (some c)=>.ok (.CM c)
 |_=>.bad
theorem CY (i:Nat){x:Str}{p1:Pos}(hv:PE X (.Name x p1) (UN i)):DS X WX (.Return (some (.Name x p1)) pos) (Vp i):=by
 refine⟨_,UO hv,λ P0 P σ H Z ρ E h=>?_⟩;unfold Vp at h;split at h
 ·rename_i d e1;obtain⟨v,h1,h2⟩:=E.val i d e1;exact⟨v,h1,h v H P Tr.refl (h2.mono (CQ E.sub))⟩
 ·rename_i c hc e1;have io:GX c=true:=by
   cases c with
   |val d=>exact (hc d rfl).elim
   |own ds|ow o=>rfl
  obtain⟨v,fp,h1,h2,h3,h4⟩:=E.ows i _ e1 io;exact⟨v,h1,h v fp H P Tr.refl E.sub E.Cn h2 h3 h4⟩
 ·exact h.elim
theorem Oa:∀ds:List D,UI (ds.map .sh)=ds
 |[]=>rfl
 |d::r=>by rw[zy,UI,er,Oa r]
noncomputable def cG (i:Nat)(ρ:Ad):Ad:=match ρ[i]? with
 |some (some c)=>ρ.set i (some (MJ c))
 |_=>ρ
end
section
variable {K:zt}{H H':Hp}{P P':Addr->Prop}
theorem CH.same {v:V}{t:OT}{q:List Addr}{xs:List V}(e:Ah H H')(h:CH K H P v t q xs):CH K H' P v t q xs:=by
 cases t with
 |sh d=>exact h.elim
 |lst ts=>obtain⟨p,rfl,rfl,h⟩:=h;exact⟨p,rfl,rfl,e _ _ h⟩
 |tup ts=>obtain⟨p,rfl,rfl,h⟩:=h;exact⟨p,rfl,rfl,e.del _ _ h⟩
 |Bu b ks ts =>
  cases b with
  |false|true=>obtain⟨p,kvs,rfl,rfl,h,rfl,rfl⟩:=h;exact⟨p,kvs,rfl,rfl,e _ _ h,rfl,rfl⟩
 |ins x ns ts=>obtain⟨p,C,dx,fs,rfl,rfl,n,h,rfl,rfl⟩:=h;exact⟨p,C,dx,fs,rfl,rfl,n,e _ _ h,rfl,rfl⟩
theorem K5.same {v v1:V}{t t1:OT}{π:List Nat}(e:Ah H H')(h:K5 K H P v t π v1 t1):K5 K H' P v t π v1 t1:=by
 induction h with
 |nil=>exact .nil
 |cons n hx hs _ ih=>exact .cons (n.same e) hx hs ih
theorem CH.more {v:V}{t:OT}{q:List Addr}{xs:List V}(sm:Ah (del H P) (del H' P'))(e:Ah H H')(h:CH K H P v t q xs):CH K H' P' v t q xs:=by
 cases t with
 |sh d=>exact h.elim
 |lst ts=>obtain⟨p,rfl,rfl,h⟩:=h;exact⟨p,rfl,rfl,e _ _ h⟩
 |tup ts=>obtain⟨p,rfl,rfl,h⟩:=h;exact⟨p,rfl,rfl,sm _ _ h⟩
 |Bu b ks ts =>
  cases b with
  |false|true=>obtain⟨p,kvs,rfl,rfl,h,rfl,rfl⟩:=h;exact⟨p,kvs,rfl,rfl,e _ _ h,rfl,rfl⟩
 |ins x ns ts=>obtain⟨p,C,dx,fs,rfl,rfl,n,h,rfl,rfl⟩:=h;exact⟨p,C,dx,fs,rfl,rfl,n,e _ _ h,rfl,rfl⟩
theorem K5.more {v v1:V}{t t1:OT}{π:List Nat}(sm:Ah (del H P) (del H' P'))(e:Ah H H')(h:K5 K H P v t π v1 t1):K5 K H' P' v t π v1 t1:=by
 induction h with
 |nil=>exact .nil
 |cons n hx hs _ ih=>exact .cons (n.more sm e) hx hs ih
end
noncomputable def WN (i:Nat)(ρ:Ad)(π:List Nat):Option OT:=match ρ[i]? with
 |some (some c)=>(match treeOf c with|some (_,t)=>LI t π|none=>none)
 |_=>none
structure Bj (K:zt)(P:Addr->Prop)(H:Hp)(σ:St)(ρ:Ad)(i:Nat)(π:List Nat)(v:V)(t1:OT):Prop where
 ex:∃v0 c p t,ρ[i]?=some (some c)/\treeOf c=some (p,t)/\σ[i]?=some (some v0)/\K5 K H P v0 t π v t1
theorem Bj.at {K:zt}{P:Addr->Prop}{H:Hp}{σ:St}{ρ:Ad}{i:Nat}{π:List Nat}{v:V}{t1:OT}(h:Bj K P H σ ρ i π v t1):WN i ρ π=some t1:=by
 obtain⟨v0,c,p,t,h1,h2,h3,h4⟩:=h.ex;unfold WN;simp only[h1,h2];exact h4.sub
theorem Bj.same {K:zt}{P:Addr->Prop}{H H':Hp}{σ:St}{ρ:Ad}{i:Nat}{π:List Nat}{v:V}{t1:OT}(e:Ah H H')(h:Bj K P H σ ρ i π v t1):Bj K P H' σ ρ i π v t1:=by
 obtain⟨v0,c,p,t,h1,h2,h3,h4⟩:=h.ex;exact⟨v0,c,p,t,h1,h2,h3,h4.same e⟩
theorem Bj.more {K:zt}{P P':Addr->Prop}{H H':Hp}{σ:St}{ρ:Ad}{i:Nat}{π:List Nat}{v:V}{t1:OT}(sm:Ah (del H P) (del H' P'))(e:Ah H H')(h:Bj K P H σ ρ i π v t1):Bj K P' H' σ ρ i π v t1:=by
 obtain⟨v0,c,p,t,h1,h2,h3,h4⟩:=h.ex;exact⟨v0,c,p,t,h1,h2,h3,h4.more sm e⟩
theorem Bj.own {K:zt}{P0:DJ}{P:Addr->Prop}{H:Hp}{σ:St}{ρ:Ad}{i:Nat}{π:List Nat}{v:V}{t1:OT}(h:Bj K P H σ ρ i π v t1)(E:Al K P0 P H σ ρ):∃au,BX K H P v t1 au/\(∀a∈au,P a/\¬ P0 a)/\au.Nodup:=by
 obtain⟨v0,c,p,t,h1,h2,h3,h4⟩:=h.ex;have io:GX c=true:=by cases c<;>first|rfl|cases h2
 obtain⟨w,fp,k1,k2,k3,k4⟩:=E.ows i c h1 io;rw[h3] at k1;cases k1;obtain⟨au,o1,hk,kn⟩:=(k2.toT h2).part h4;exact⟨au,o1,λ a ha=>k3 a (hk a ha),kn k4⟩
def gP (K:zt)(WX:Str->Hp->Prop)(P:Addr->Prop)(H:Hp)(σ:St)(ρ:Ad)(i:Nat)(Q:VK):M (List Nat)->Prop
 | .ok π=>∀v t1 H',Ah H H'->Bj K P H' σ ρ i π v t1->Q v H'
 | .ex x=>∀H',Ah H H'->WX x H'
 | .bad=>False
def DP (X:Cx)(WX:Str->Hp->Prop)(e:Expr)(i:Nat)(f:Ad->M (List Nat)):Prop:=
 ∃t,PE X e t/\∀P0 P σ H Q ρ,Al X.K P0 P H σ ρ->gP X.K WX P H σ ρ i Q (f ρ)->t σ H Q
section
variable {X:Cx}{WX:Str->Hp->Prop}{c:Bool}{P0:DJ}{P:Addr->Prop}{H:Hp}{σ:St}{ρ:Ad}{a b e:Expr}{f g:Ad->M D}{fn:Ad->M OT}{fp:Ad->M (List Nat)}{pos:Pos}{i:Nat}
noncomputable def Te (i:Nat)(ρ:Ad):M (List Nat):=match WN i ρ [] with | some _=>.ok [] | none=>.bad
theorem Bx (i:Nat){x:Str}{p1:Pos}(hv:PE X (.Name x p1) (UN i)):DP X WX (.Name x p1) i (Te i):=by
 refine⟨_,hv,λ P0 P σ H Q ρ E h=>?_⟩;unfold Te at h;split at h
 ·rename_i t e;unfold WN at e;split at e
  ·rename_i cl e1;split at e
   ·rename_i p t0 e2;have io:GX cl=true:=by cases cl<;>first|rfl|cases e2
    obtain⟨v,fp,h1,h2,h3,h4⟩:=E.ows i cl e1 io;exact⟨v,h1,h v t0 H (Ah.refl H) ⟨v,cl,p,t0,e1,e2,h1,.nil⟩⟩
   ·cases e
  ·cases e
 ·exact h.elim
noncomputable def zA (i:Nat)(ρ:Ad)(π:List Nat):M D:=match WN i ρ π with
 |some (.sh d)=>.ok d
 |_=>.bad
theorem Al.vB {K:zt}{P':Addr->Prop}{H':Hp}{π:List Nat}{v1:V}{t1 u:OT}{au fu:List Addr}(E:Al K P0 P H σ ρ)(pl:Bj K P H σ ρ i π v1 t1)(o:BX K H P v1 t1 au)(hs:∀a,P a->P' a)(ht:∀a,P' a->EW H' a)(sm:Ah (del H P) (del H' P'))(keep:∀a,P a->a∉au->H' a=H a)
 (o':BX K H' P' v1 u fu) (nd:fu.Nodup) (hf:∀a∈fu,a∈au\/(P' a/\¬ P0 a/\∀(j:Nat) c v fp,ρ[j]?=some (some c)->σ[j]?=some (some v)->CT K H P c v fp->a∉fp)):
 ∃c p t,ρ[i]?=some (some c)/\treeOf c=some (p,t)/\Al K P0 P' H' σ (ρ.set i (some (toCl p (Eu t π u))))/\Tr P0 P H P' H':=by
 obtain⟨v0,c,p,t,h1,h2,h3,h4⟩:=pl.ex;have io:GX c=true:=by cases c<;>first|rfl|cases h2
 obtain⟨w,fp,k1,k2,k3,k4⟩:=E.ows i c h1 io;rw[h3] at k1;cases k1;have ot:=k2.toT h2;obtain⟨fz,oz,kz,_⟩:=ot.part h4;have:=oz.C4 o;subst this;obtain⟨ah,q1,q2,q3⟩:=ot.put sm h4 o o' (λ a ha hn=>keep a (k3 a ha).1 hn) k4 nd (λ a ha hb=>(hf a ha).elim id λ z=>(z.2.2 i c v0 fp h1 h3 k2 hb).elim);refine⟨c,p,t,h1,h2,?_,sm,λ a ha=>keep a (E.sub a ha) λ z=>(k3 a (kz a z)).2 ha⟩;have key:=E.iL (P':=P') (H':=H') (i:=i) (v:=v0) (c:=toCl p (Eu t π u)) (fp:=ah) hs ht sm (λ j c' v' fq ac g1 g2 g3 a ha=>?_) (CT.toCl q1) (λ a ha=>?_) q2 (λ n z=>by rw[G7] at z;subst z;have:=E.pin i c n h1 (Jq h2);rw[h3] at this;cases this;rfl)
 ·rw[RC h3] at key;exact key
 ·have pe:a∉fp:=E.apart j i c' c v' v0 fq fp g1 h1 g2 h3 g3 k2 (zb3 ac) a ha;have je:GX c'=true:=by cases c'<;>first|rfl|exact g3.elim
  obtain⟨w',fr,m1,m2,m3,m4⟩:=E.ows j c' g1 je;rw[g2] at m1;cases m1;have:=m2.C4 g3;subst this;refine⟨keep a (m3 a ha).1 λ z=>pe (kz a z),λ z=>?_⟩;rcases q3 a z with y|y
  ·rcases hf a y with x|x
   ·exact pe (kz a x)
   ·exact x.2.2 j c' v' fr g1 g2 g3 ha
  ·exact pe y.1
 ·rcases q3 a ha with y|y
  ·rcases hf a y with x|x
   ·exact⟨hs a (k3 a (kz a x)).1,(k3 a (kz a x)).2⟩
   ·exact⟨x.1,x.2.1⟩
  ·exact⟨hs a (k3 a y.1).1,(k3 a y.1).2⟩
theorem Al.qB {K:zt}{π:List Nat}{l:Addr}{xs ys:List V}{ts us:List OT}{fq fu:List Addr}(E:Al K P0 P H σ ρ)(pl:Bj K P H σ ρ i π (.ref l) (.lst ts))(hH:H l=some (.lst xs))(o:Ax K H P xs ts fq)(o':Ax K H P ys us fu)(nd:fu.Nodup)(hl:l∉fu)
 (hf:∀a∈fu,a∈fq\/(P a/\¬ P0 a/\∀(j:Nat) c v fp,ρ[j]?=some (some c)->σ[j]?=some (some v)->CT K H P c v fp->a∉fp)):
 ∃c p t,ρ[i]?=some (some c)/\treeOf c=some (p,t)/\Al K P0 P (upd H l (.lst ys)) σ (ρ.set i (some (toCl p (Eu t π (.lst us)))))/\Tr P0 P H P (upd H l (.lst ys)):=by
 have ot:BX K H P (.ref l) (.lst ts) (l::fq):=.lst hH o;obtain⟨au,o1,hp,_⟩:=pl.own E;have:=o1.C4 ot;subst this;have pP:P l:=(hp l zw).1;have sd:del (upd H l (.lst ys)) P=del H P:=by
  funext b;by_cases hb:P b
  ·rw[G0 hb,G0 hb]
  ·rw[AD hb,AD hb,Ag (λ z=>hb (by rw[z];exact pP))]
 have sm:Ah (del H P) (del (upd H l (.lst ys)) P):=by rw[sd];exact Ah.refl _
 refine E.vB pl ot (λ _ h=>h) (λ a h=>?_) sm (λ a ha hn=>Ag λ z=>hn (by rw[z];exact zw)) (.lst An (o'.move sm λ a ha=>Ag λ z=>hl (by rw[<-z];exact ha))) (zaw.mpr ⟨hl,nd⟩) (λ a ha=>?_)
 ·by_cases ha:a=l
  ·subst ha;exact EW.lst An
  ·unfold EW;rw[Ag ha];exact E.Cn a h
 ·rcases z8.mp ha with z|z
  ·exact .inl (by rw[z];exact zw)
  ·rcases hf a z with y|y
   ·exact .inl (zx _ y)
   ·exact .inr y
end
noncomputable def kd:D->Option Key
 | .int i=>some (.inl i)
 | .str x=>some (.inr x)
 |_=>none
noncomputable def sJ:List D->Option (List Key)
 |[]=>some []
 |d::r=>match kd d,sJ r with|some k,some ks=>some (k::ks)|_,_=>none
theorem mI {d:D}{k:Key}(h:kd d=some k):d=Cm k:=by
 cases d<;>simp[kd] at h<;>subst h<;>rfl
theorem cH:∀ {ds:List D}{ks:List Key},sJ ds=some ks->ds=ks.map Cm
 |[],ks,h=>by cases h;rfl
 |d::r,ks,h=>by
  rw[sJ] at h;cases q:kd d with
  |none=>rw[q] at h;cases h
  |some k =>
   cases q2:sJ r with
   |none=>rw[q,q2] at h;cases h
   |some v4 =>
    rw[q,q2] at h;cases h;rw[zy,<-mI q,<-cH q2]
inductive iX:Bool->D->Prop
 |k (κ:Key):iX false (Cm κ)
 |t (κ:List Key):iX true (.tup (κ.map Cm))
noncomputable def keyOk (b:Bool)(d:D):Bool:=match b,d with
 |false,d=>(kd d).isSome
 |true,.tup ds=>(sJ ds).isSome
 |_,_=>false
theorem Ez {b:Bool}{d:D}(h:keyOk b d=true):iX b d:=by
 cases b with
 |false =>
  obtain⟨k,hk⟩:=zbe.mp (show (kd d).isSome=true from h);rw[mI hk];exact .k k
 |true =>
  cases d with
  |tup ds =>
   obtain⟨k,hk⟩:=zbe.mp (show (sJ ds).isSome=true from h);rw[cH hk];exact .t k
  |_=>cases h
theorem He (a b:Key):Bm (Cm a) (Cm b)=decide (a=b):=by
 cases a with
 |inl i =>
  cases b with
  |inl j=>simp only[Cm,Bm];rw[zcd];simp
  |inr y=>simp[Cm,Bm]
 |inr x =>
  cases b with
  |inl j=>simp[Cm,Bm]
  |inr y=>simp only[Cm,Bm];rw[zcd];simp
theorem N6:∀a b:List Key,Cb (a.map Cm) (b.map Cm)=decide (a=b)
 |[],[]|[],_::_|_::_,[]=>by simp[Cb]
 |a::r,b::t=>by
  rw[zy,zy,Cb,He,N6 r t,zcd];simp
noncomputable def GL {α:Type}:List D->List α->D->Option α
 |k::ks,v::vs,y=>if Bm k y=true then some v else GL ks vs y
 |_,_,_=>none
noncomputable def Jr {α:Type}:List D->List α->D->α->List α
 |k::ks,v::vs,y,z=>(if Bm k y=true then z else v)::Jr ks vs y z
 |_,vs,_,_=>vs
noncomputable def MK (ks:List D)(y:D):Bool:=ks.any λ k=>Bm k y
section
variable {κ:Type} [DecidableEq κ] {fk:κ->D}(hf:∀a b,Bm (fk a) (fk b)=decide (a=b))
include hf
theorem Ob {α:Type}:∀(kvs:List (κ×α)) (k:κ),GL (kvs.map λ kv=>fk kv.1) (kvs.map zbd) (fk k)=(kvs.find? λ kv=>decide (kv.1=k)).map (·.2)
 |[],k=>rfl
 |p::r,k=>by
  rw[zy,zy,GL,hf,zcn];by_cases e:p.1=k
  ·rw[decide_eq_true e];rfl
  ·rw[decide_eq_false e];simp only[zag,if_false];exact Ob r k
theorem K7 {α:Type}(kvs:List (κ×α))(k:κ):MK (kvs.map λ kv=>fk kv.1) (fk k)=kvs.any λ kv=>decide (kv.1=k):=by
 unfold MK;rw[List.any_map];congr 1;funext kv;exact hf _ _
theorem Hf (k:κ)(v:V):∀(kvs:List (κ×V)),Jr (kvs.map λ kv=>fk kv.1) (kvs.map zbd) (fk k) v=(kvs.map λ kv=>if kv.1=k then (kv.1,v) else kv).map zbd
 |[]=>rfl
 |p::r=>by
  rw[zy,zy,Jr,hf,zy,zy,Hf k v r];by_cases e:p.1=k
  ·rw[decide_eq_true e,if_pos e];rfl
  ·rw[decide_eq_false e,if_neg e];rfl
theorem Hg (k:κ)(v:V):∀(kvs:List (κ×V)),(kvs.map λ kv=>if kv.1=k then (kv.1,v) else kv).map (λ kv=>fk kv.1)=kvs.map λ kv=>fk kv.1
 |[]=>rfl
 |p::r=>by
  rw[zy,zy,zy,Hg k v r];by_cases e:p.1=k
  ·rw[if_pos e]
  ·rw[if_neg e]
end
theorem Oc {K:zt}{H:Hp}:∀ {ks:List D}{xs:List V}{ds:List D}{y d:D},Ai K H xs ds->GL ks ds y=some d->∃x,GL ks xs y=some x/\BD K H x d
 |[],_,_,_,_,_,e|_::_,_,_,_,_,.nil,e=>by simp[GL] at e
 |k::ks,_,_,y,d,.cons h t,e=>by
  rw[GL] at e ⊢;by_cases q:Bm k y=true
  ·rw[if_pos q] at e ⊢;cases e;exact⟨_,rfl,h⟩
  ·rw[if_neg q] at e ⊢;exact Oc t e
theorem Ig {α:Type}:∀ {ks:List D}{xs:List α}{y:D},xs.length=ks.length->MK ks y=(GL ks xs y).isSome
 |[],[],y,_=>rfl
 |k::ks,x::xs,y,h=>by
  unfold MK;rw[zcr,GL];cases q:Bm k y with
  |true=>rfl
  |false =>
   simp only[Bool.false_or,zag,if_false];exact Ig (by simpa using h)
 |[],_::_,_,h|_::_,[],_,h=>by cases h
theorem Hh {K:zt}{H:Hp}{P:Addr->Prop}{y d:D}{v:V}(hv:BD K (del H P) v d):∀ {ks:List D}{xs:List V}{ds:List D},Ai K (del H P) xs ds->Ai K (del H P) (Jr ks xs y v) (Jr ks ds y d)
 |[],_,_,h=>by simp only[Jr];exact h
 |_::_,_,_,.nil=>by simp only[Jr];exact .nil
 |k::ks,_,_,.cons h t=>by
  rw[Jr,Jr];refine .cons ?_ (Hh hv t);by_cases q:Bm k y=true
  ·rw[if_pos q,if_pos q];exact hv
  ·rw[if_neg q,if_neg q];exact h
section
variable {K:zt}{H:Hp}{P:Addr->Prop}
theorem Ai.keys:∀ {xs:List V}(κ:List Key),Ai K H xs (κ.map Cm)->xs=κ.map kV
 |_,[],.nil=>rfl
 |_,k::r,.cons h t=>by
  rw[zy,<-Ai.keys r t];congr 1;cases k with
  |inl i=>exact h.int_inv
  |inr x=>cases h;rfl
theorem BD.iY {y:V}{κ:Key}(h:BD K H y (Cm κ)):y=kV κ:=by
 cases κ with
 |inl i=>exact h.int_inv
 |inr x=>cases h;rfl
theorem RK {v y:V}{b:Bool}{ks vs:List D}{k:D}(hv:BD K (del H P) v (.Bu b ks vs))(hy:BD K (del H P) y k)(hk:iX b k):∃a xs,v=.ref a/\Ro H a y (GL ks xs k)/\Ai K (del H P) xs vs/\xs.length=ks.length:=by
 cases hv with
 |Qt hh hl =>
  cases hk with
  |k κ =>
   refine⟨_,_,rfl,?_,hl,by simp⟩;rw[hy.iY,Ob He];exact .inl ⟨_,κ,hh.B2,rfl,rfl⟩
 |Rr hh hl =>
  cases hk with
  |t κ =>
   cases hy with
   |tup ht am =>
    have e:=Ai.keys κ am;subst e;refine⟨_,_,rfl,?_,hl,by simp⟩;rw[Ob (fk:=λ κ:List Key=>D.tup (κ.map Cm)) (λ a b=>by simp only[Bm];exact N6 a b)];exact .inr ⟨_,κ,_,hh.B2,rfl,(Am ht).2,rfl⟩
end
section
variable {X:Cx}{WX:Str->Hp->Prop}{c:Bool}{P0:DJ}{P:Addr->Prop}{H:Hp}{σ:St}{ρ:Ad}{a b e:Expr}{f g:Ad->M D}{fn:Ad->M OT}{fp:Ad->M (List Nat)}{pos:Pos}{i:Nat}
noncomputable def vC:R2:=λ x y H Q=>∃a v,x=.ref a/\Ro H a y (some v)/\Q v H
theorem iZ (hu:X.A.units+1<cLine):gQ X vC:=by
 intro value slice pins s σ H x y v u Q I rx ry h hs;obtain⟨a,z,rfl,g,q⟩:=h;cases rx;have hT:=SU I g;have h₂:wpAny (model X.prog X.w) X.A (getItem (.ref a) u) (EP X pins σ Q) X.xe s:=XU hu I g ry λ w' s3 I3 bh=>⟨z,H,I3,bh,q⟩;unfold subscriptTail;refine wpAny_bind ?_;rw[getitemInPython_of_ne hT.not_modules];refine wpAny_bind (wpAny_specialOf hT PySem.F.slot_dict_getitem.lookup ?_);have fin:wpAny (model X.prog X.w) X.A (subscripted slice false (.ref a) u) (λ r s₃=>wpAny (model X.prog X.w) X.A (letTemporaryGo value (.ref a) r >>= λ _=>pure r) (EP X pins σ Q) X.xe s₃) X.xe s:=by
  rw[hs];exact wpAny_operating (wpAny_mono h₂ (λ r s₃ h₃=>wpAny_bind (wpAny_letTemporaryGo (wpAny_pure h₃))) λ _ _ x=>x)
 first
  |exact wpAny_pure (wpAny_bind fin)
  |exact wpAny_bind (wpAny_pure (wpAny_bind fin))
  |exact wpAny_bind fin
noncomputable def AE (x y:D):M D:=match x with
 | .Bu b ks vs=>if keyOk b y=true then (match GL ks vs y with|some d=>.ok d|none=>.bad) else .bad
 |x=>sE x y
theorem jA:WG X.K WX (λ x y H Q=>(oW X.K x y H Q\/oX X.K x y H Q)\/vC x y H Q) AE:=by
 intro P H x y v w Q ht hx hy h;cases x with
 |Bu b ks vs =>
  simp only[AE] at h;by_cases hk:keyOk b y=true
  ·rw[if_pos hk] at h;obtain⟨a,xs,rfl,g,hl,_⟩:=RK hx hy (Ez hk);split at h
   ·rename_i d e;obtain⟨u,e1,e2⟩:=Oc hl e;rw[e1] at g;exact .inr ⟨a,u,rfl,g,h _ H (Ah.refl H) e2⟩
   ·exact h.elim
  ·rw[if_neg hk] at h;exact h.elim
 |AN|bl b|int b|str b|tup b|lst b|JL b|ins b _ _=>exact .inl (GY P H _ y v w Q ht hx hy h)
theorem A8 {n:Nat}(hu:X.A.units+n<cLine)(ha:DE X WX c a f)(hb:DE X WX c b g)(hs:Rj b:=by exact λ _ _=>rfl)(hn:1<=n:=by decide):DE X WX c (.Subscript a b pos) (λ ρ=>(f ρ).bind λ x=>(g ρ).bind λ y=>AE x y):=uL ((gR.or oY).or (iZ (by omega))) jA ha hb hs
noncomputable def qC (neg:Bool):R2:=λ y x H Q=>∃a o,x=.ref a/\Ro H a y o/\Q (.bl (if neg=true then !o.isSome else o.isSome)) H
theorem Vq (hu:X.A.units+1<cLine):FW X (compareOp .In) (qC false):=by
 intro pins s σ H x y v u Q I rx ry h;obtain⟨a,o,rfl,g,q⟩:=h;cases ry;exact yQ hu I g rx λ s3 I3=>⟨.bl o.isSome,H,I3,rfl,q⟩
theorem IS (hu:X.A.units+1<cLine):FW X (compareOp .NotIn) (qC true):=by
 intro pins s σ H x y v u Q I rx ry h;obtain⟨a,o,rfl,g,q⟩:=h;cases ry;exact hZ hu I g rx λ s3 I3=>⟨.bl (!o.isSome),H,I3,rfl,q⟩
noncomputable def Js (neg:Bool)(y x:D):M D:=match x with
 | .Bu b ks vs=>if keyOk b y=true then .ok (.bl (if neg=true then !MK ks y else MK ks y)) else .bad
 |x=>wX neg y x
theorem RL {neg:Bool}:WG X.K WX (λ x y H Q=>wR X.K neg x y H Q\/qC neg x y H Q) (Js neg):=by
 intro P H x y v w Q ht hx hy h;cases y with
 |Bu b ks vs =>
  simp only[Js] at h;by_cases hk:keyOk b x=true
  ·rw[if_pos hk] at h;obtain⟨a,xs,rfl,g,hl,hn⟩:=RK hy hx (Ez hk);rw[Ig (xs:=xs) hn] at h;exact .inr ⟨a,_,rfl,g,h _ H (Ah.refl H) (.bl _)⟩
  ·rw[if_neg hk] at h;exact h.elim
 |AN|bl b|int b|str b|tup b|lst b|JL b|ins b _ _=>exact .inl (Hb P H x _ v w Q ht hx hy h)
theorem jB {n:Nat}(hu:X.A.units+n<cLine)(ha:DE X WX c a f)(hb:DE X WX c b g)(hm:behindInMarks .NotIn b=false:=by rfl)(hn:1<=n:=by decide):DE X WX c (.Compare a [.NotIn] [b] pos) (λ ρ=>(f ρ).bind λ x=>(g ρ).bind λ y=>Js true x y):=Vc (JR.or (IS (by omega))) RL ha hb hm
theorem Jt {n:Nat}(hu:X.A.units+n<cLine)(ha:DE X WX c a f)(hb:DE X WX c b g)(hm:behindInMarks .In b=false:=by rfl)(hn:1<=n:=by decide):DT X WX (.Compare a [.In] [b] pos) (λ ρ=>((f ρ).bind λ x=>(g ρ).bind λ y=>Js false x y).bind PQ):=G2 (XO.or (Vq (by omega))) RL ha hb hm
theorem K8 {n:Nat}(hu:X.A.units+n<cLine)(ha:DE X WX c a f)(hb:DE X WX c b g)(hm:behindInMarks .NotIn b=false:=by rfl)(hn:1<=n:=by decide):DT X WX (.Compare a [.NotIn] [b] pos) (λ ρ=>((f ρ).bind λ x=>(g ρ).bind λ y=>Js true x y).bind PQ):=G2 (JR.or (IS (by omega))) RL ha hb hm
noncomputable def Eb:D->M Bool
 | .AN=>.ok false
 | .bl b=>.ok b
 | .int i=>.ok (i != 0)
 | .tup ds| .lst ds=>.ok (!ds.isEmpty)
 |_=>.bad
theorem K9 {K:zt}{H:Hp}{xs:List V}{ds:List D}(h:Ai K H xs ds):(!ds.isEmpty) = !xs.isEmpty:=by cases h<;>rfl
theorem B7 (h:DE X WX c e f)(he:∀whole,isTrue e X.env whole=(do let v <-whole;standAt e.pos;holding [v] (truthy v)):=by intro _;rfl):DT X WX e (λ ρ=>(f ρ).bind Eb):=by
 obtain⟨t,h1,h2⟩:=h;refine⟨_,Zx h1 he,λ P0 P σ H Q ρ E h=>h2 P0 P σ H _ ρ E ?_⟩;dsimp only at h;refine XZ h λ d h=>?_;intro v H' s hv;cases hv with
 |AN=>exact⟨false,rfl,h H' s⟩
 |bl b=>exact⟨b,rfl,h H' s⟩
 |int i=>exact⟨_,rfl,h H' s⟩
 |tup hs hl=>exact⟨_,.inr (.inl ⟨_,EY.of (Am hs).2,rfl⟩),by rw[<-K9 hl];exact h H' s⟩
 |lst hs hl=>exact⟨_,.inl ⟨_,hs.B2,rfl⟩,by rw[<-K9 hl];exact h H' s⟩
 |_=>exact h.elim
end
noncomputable def Gx (m:M (List D)):M OT:=match m with | .ok ys=>.ok (.lst (ys.map .sh)) | _=>.bad
section
variable {X:Cx}{WX:Str->Hp->Prop}{c:Bool}{P0:DJ}{P:Addr->Prop}{H:Hp}{σ:St}{ρ:Ad}{a b e tg iter:Expr}{f g:Ad->M D}{ft:Ad->M Bool}{pos:Pos}{gt:D->Ad->M Ad}{fi:Ad->M (List D)}{es:List Expr}{fs:Ad->M (List D)}
theorem cI {μ:List (Option Nat)}{wi:TI}{gg:TG}{tc:Shared->Hp->Addr->List Addr->TT}{te:Shared->Hp->Addr->List Addr->TE}{fe:Ad->M D}
 (i2:∀P0 P σ H R ρ,Al X.K P0 P H σ ρ->(match fi ρ with | .ok ds=>∀J H',Ah H H'->Vg X.K J P H' ds->R J H' | .ex x=>∀H',Ah H H'->WX x H' | .bad=>False)->wi σ H R)
 (g2:∀P0 P σ H Q ρ v d,Al X.K P0 P H σ ρ->BD X.K (del H P) v d->gG X.K P0 P H Q (gt d ρ)->gg v σ H Q)
 (t2:∀s H' C ex P0 P σ H Q ρ,Al X.K P0 P H σ ρ->gT (λ _ _=>False) H Q (ft ρ)->tc s H' C ex σ H Q)
 (e2:∀s H' C ex P0 P σ H Q ρ,Al X.K P0 P H σ ρ->gV X.K (λ _ _=>False) (Lv true P0 P) H Q (fe ρ)->te s H' C ex σ H Q) {Q:VK}
 (E:Al X.K P0 P H σ ρ) (h:Zb X.K WX P H Q ((fi ρ).bind λ ds=>if ds.length<=1000 then Gx (B4 gt ft fe ds (B8 μ ρ)) else .bad)):T5 wi μ gg tc te σ H Q:=by
 refine i2 P0 P σ H _ ρ E ?_;cases q:fi ρ with
 |bad|ex x=>rw[q] at h;exact h
 |ok ds =>
  rw[q] at h;simp only[M.Aa] at h;by_cases hd:¬ ds.length<=1000
  ·rw[if_neg hd] at h;exact h.elim
  have hd:ds.length<=1000:=by omega
  rw[if_pos hd] at h;intro J H1 s1 ok s C ex;cases qc:B4 gt ft fe ds (B8 μ ρ) with
  |bad|ex x=>rw[qc] at h;exact h.elim
  |ok total =>
   rw[qc] at h;unfold Gx at h;dsimp only at h;have E1:=E.same s1;refine⟨λ i m ys H2=>m=ds.length-i/\i<=ds.length/\ys.length<=i/\Ah H1 H2/\∃es rest,Ai X.K (del H2 P) ys es/\B4 gt ft fe (ds.drop i) (B8 μ ρ)=.ok rest/\es++rest=total,
    ⟨ds.length,by simp,zb1 _,za2 _,Ah.refl _,[],total,.nil,by rw[zcu];exact qc,rfl⟩,?_⟩
   rintro i m ys H2 ⟨rfl,hi,hy,s2,es,rest,b9,ae,a6⟩;by_cases af:i<ds.length
   ·refine .inr ⟨ok.go i P H2 s2.del af,Nat.lt_of_le_of_lt hy (AH (by omega)),λ aJ H'=>i+1<=ds.length/\aJ.length<=i+1/\Ah H1 H'/\∃es rest,Ai X.K (del H' P) aJ es/\B4 gt ft fe (ds.drop (i+1)) (B8 μ ρ)=.ok rest/\es++rest=total,λ aJ H' hq=>⟨ds.length-(i+1),by omega,rfl,hq.1,hq.2.1,hq.2.2.1,hq.2.2.2⟩,λ v H3 y=>?_⟩;have E2:=E1.same s2;obtain⟨s3,hv⟩:=ok.gB i P H2 v H3 ds[i] s2.del E2.Cn (z4 af) y;rw[H9 af,B4] at ae;have E3:=(E2.same s3).block μ;refine g2 P0 P _ H3 _ (B8 μ ρ) v ds[i] E3 hv ?_;cases q1:gt ds[i] (B8 μ ρ) with
    |bad|ex x=>rw[q1] at ae;cases ae
    |ok ρ1 =>
     rw[q1] at ae;dsimp only at ae;intro σ4 E4;refine t2 s H1 C ex P0 P σ4 H3 _ ρ1 E4 ?_;cases q2:ft ρ1 with
     |bad|ex x=>rw[q2] at ae;cases ae
     |ok k =>
      rw[q2] at ae;dsimp only at ae;intro H5 s5;cases k with
      |false =>
       simp only[zag,if_false] at ae ⊢;exact⟨af,by omega,(s2.trans s3).trans s5,es,rest,(b9.mono s3.del).mono s5.del,ae,a6⟩
      |true =>
       simp only[if_true] at ae ⊢;refine e2 s H1 C ex P0 P σ4 H5 _ ρ1 (E4.same s5) ?_;cases q3:fe ρ1 with
       |bad|ex x=>rw[q3] at ae;cases ae
       |ok y' =>
        rw[q3] at ae;dsimp only at ae;cases q4:B4 gt ft fe (ds.drop (i+1)) (B8 μ ρ) with
        |bad|ex x=>rw[q4] at ae;cases ae
        |ok ja =>
         rw[q4] at ae;cases ae;intro w H6 s6 hw;refine⟨af,by rw[za6,zav];omega,((s2.trans s3).trans s5).trans s6,es++[y'],ja,(((b9.mono s3.del).mono s5.del).mono s6.del).snoc hw,rfl,?_⟩;rw[zb5];exact a6
   ·have e:i=ds.length:=by omega
    subst e;rw[zcf,B4] at ae;cases ae;rw[zb0] at a6;subst a6;exact .inl ⟨ok.stop _ P H2 s2.del (za2 _),λ D0 hn=>h.II (s1.trans s2) b9 D0 hn⟩
theorem CZ {scope:Scope}{NB:List Str}{ifs:List Expr}{elt:Expr}{fe:Ad->M D}(μ:List (Option Nat))(hc:X.calm=true)(hi:DI X WX tg iter fi)(av:GJ scope X.env.scope=true)(aU:PP X.N NB scope μ=true)(hg:sF X scope NB μ tg gt)
 (ht:∀s H C ex,sG (blockOf X s H scope C NB ex) ifs ft) (he:∀s H C ex,DE (blockOf X s H scope C NB ex) (λ _ _=>False) true elt fe) (hs:∀x,foldedSetIterable iter X.env x=pure x:=by intro _;rfl):
 DN X WX (.ListComp elt [⟨tg,iter,ifs,0⟩] scope pos) (λ ρ=>(fi ρ).bind λ ds=>if ds.length<=1000 then Gx (B4 gt ft fe ds (B8 μ ρ)) else .bad):=by
 obtain⟨wi,i1,i2⟩:=hi;obtain⟨gg,g1,gk,g2⟩:=hg;refine⟨_,Wz hc i1 av aU gk (λ s H C ex=>⟨g1 s H C ex,(zu (ht s H C ex)).1,(zu (he s H C ex)).1⟩) hs,λ P0 P σ H Q ρ E h=>?_⟩;exact cI i2 g2 (λ s H' C ex P0 P σ H Q ρ E h=>(zu (ht s H' C ex)).2 P0 P σ H Q ρ E h) (λ s H' C ex P0 P σ H Q ρ E h=>(zu (he s H' C ex)).2 P0 P σ H Q ρ E h) E h
theorem cJ {scope:Scope}{NB:List Str}{ifs:List Expr}{elt:Expr}{fe:Ad->M D}(i:Nat){x:Str}{px ax:Pos}(μ:List (Option Nat))(hN:X.N.Nodup)(i5:X.N[i]?=some x)(hx:Loc X.env.scope x)(hc:X.calm=true)(hi:DI X WX tg iter fi)(av:GJ scope X.env.scope=true)(aU:PP X.N NB scope μ=true)(hg:sF X scope NB μ tg gt)
 (ht:∀s H C ex,sG (blockOf X s H scope C NB ex) ifs ft) (he:∀s H C ex,DE (blockOf X s H scope C NB ex) (λ _ _=>False) true elt fe)
 (bz:swapsWith (.ListComp elt [⟨tg,iter,ifs,0⟩] scope pos) (some (.Name x px)) ax.line X.env=pure true:=by rfl) (hs:∀x,foldedSetIterable iter X.env x=pure x:=by intro _;rfl) (hf:X.fn x=true\/X.env.scope.names.lookup x=some .local:=by first|exact .inl rfl|exact .inr rfl|assumption):
 DS X WX (.Assign [.Name x px] (.ListComp elt [⟨tg,iter,ifs,0⟩] scope pos) ax) (λ ρ=>(UK ((fi (FA ρ)).bind λ ds=>if ds.length<=1000 then Gx (B4 gt ft fe ds (B8 μ (FA ρ))) else .bad)).bind (RJ i ρ)):=by
 obtain⟨wi,i1,i2⟩:=hi;obtain⟨gg,g1,gk,g2⟩:=hg;refine⟨_,WA hN i5 hx hc i1 av aU gk (λ s H C ex=>⟨g1 s H C ex,(zu (ht s H C ex)).1,(zu (he s H C ex)).1⟩) bz hs hf,λ P0 P σ H Z ρ E h=>?_⟩;refine cI (P0:=P0) (P:=P0) i2 g2 (λ s H' C ex P0 P σ H Q ρ E h=>(zu (ht s H' C ex)).2 P0 P σ H Q ρ E h) (λ s H' C ex P0 P σ H Q ρ E h=>(zu (he s H' C ex)).2 P0 P σ H Q ρ E h) E.low ?_;dsimp only at h;revert h;cases ((fi (FA ρ)).bind λ ds=>if ds.length<=1000 then Gx (B4 gt ft fe ds (B8 μ (FA ρ))) else .bad) with
 |bad=>exact λ h=>h
 |ex y=>exact λ h H' s=>h H' P (E.tr s)
 |ok t =>
  unfold UK;simp only[M.Aa];by_cases hf:Hd t=true
  ·rw[if_pos hf];exact λ h v fp H' s hn nd o=>mH E s hn nd (o.clean (Jo (E.same s).Cn o) hf) h
  ·rw[if_neg hf];exact λ h=>h.elim
end
def zB (K:zt)(WX:Str->Hp->Prop)(P:Addr->Prop)(p:Addr)(fp:List Addr)(H:Hp)(Q:VK):M (OT×OT)->Prop
 | .ok (t,r)=>∀v H' P' ah fr,(∀a,P a->a∉fp->P' a/\H' a=H a)->(∀a,P' a->EW H' a)->Ah (del H P) (del H' P')->BX K H' P' (.ref p) t ah->ah.Nodup->BX K H' P' v r fr->fr.Nodup->(∀a∈fr,a∉ah)->
  (∀a∈ah,P' a/\(P a->a∈fp))->(∀a∈fr,P' a/\(P a->a∈fp))->Q v H'
 | .ex _| .bad=>False
noncomputable def Tf (K:zt)(n:Nat)(F:OT->List D->M (OT×OT)):Sp:=λ vs H Q E=>vs.length=n/\∃P p t fp rest ap,vs=.ref p::rest/\(∀a,P a->EW H a)/\(∀a∈fp,P a)/\fp.Nodup/\BX K H P (.ref p) t fp/\Ai K (del H P) rest ap/\zB K (Ff K E) P p fp H Q (F t ap)
noncomputable def D6 (N:List Str)(t:OT)(ap:List D):Ad:=some (toCl (some 0) t)::(ap.map (λ d=>some (.val d))++za7 (N.length-(ap.length+1)) none)
noncomputable def Hi (ρ:Ad):Option OT:=match ρ[0]? with
 |some (some c)=>(match treeOf c with|some (some 0,t)=>some t|_=>none)
 |_=>none
noncomputable def EA (m:M Out):M (OT×OT):=match m with
 | .ok (.next ρ)=>(match Hi ρ with|some t=>.ok (t,.sh .AN)|none=>.bad)
 | .ok (.Fw r ρ)=>(match Hi ρ with|some t=>.ok (t,r)|none=>.bad)
 |_=>.bad
theorem Ye (p:Option Nat)(t:OT):GX (toCl p t)=true:=by
 unfold toCl;split
 ·rename_i ts;cases q:Ey ts with
  |none=>rfl
  |some ds=>cases p<;>rfl
 ·rfl
theorem Ka {K:zt}{P:Addr->Prop}{H:Hp}{N:List Str}{p:Addr}{t:OT}{fp:List Addr}{rest:List V}{ap:List D}(ht:∀a,P a->EW H a)(hp:∀a∈fp,P a)(nd:fp.Nodup)(o:BX K H P (.ref p) t fp)(h:Ai K (del H P) rest ap):
 Al K ⟨λ a=>P a/\a∉fp,λ _=>p⟩ P H (start N (.ref p::rest)) (D6 N t ap):=by
 have hl:=h.length;have key:∀(i:Nat) (c:Cl),(ap.map (λ d=>some (Cl.val d))++za7 (N.length-(ap.length+1)) none)[i]?=some (some c)->∃d,ap[i]?=some d/\c=.val d:=λ i c e=>by
  by_cases hi:i<ap.length
  ·rw[zbz (by simpa using hi),zaa] at e;cases q:ap[i]? with
   |none=>rw[q] at e;cases e
   |some d=>rw[q] at e;cases e;exact⟨d,rfl,rfl⟩
  ·rw[zcs (by simpa using hi),zc3] at e;split at e<;>cases e
 have tf:(start N (.ref p::rest))[0]?=some (some (.ref p)):=by unfold start;rfl
 refine⟨λ a h=>h.1,ht,λ i d e=>?_,λ i c e io=>?_,λ i j c c' v v' fp ah e1 e2 _ _ o1 o2 ac=>?_,?_,λ i c n e v5=>?_⟩
 rotate_left 4
 ·cases i with
  |zero=>exact tf
  |succ i =>
   obtain⟨d',q,z⟩:=key i _ (by unfold D6 at e;simpa using e);cases z;cases v5
 ·cases i with
  |zero =>
   have e':some (toCl (some 0) t)=some (.val d):=by simpa [D6] using e
   have:=Ye (some 0) t;rw[zad e'] at this;cases this
  |succ i =>
   obtain⟨d',q,z⟩:=key i _ (by unfold D6 at e;simpa using e);cases z;obtain⟨v,hv,hd⟩:=h.get q;refine⟨v,?_,hd⟩;unfold start;rw[zy,zcw,zak,zbz (by rw[zv];exact (za3.mp hv).1),zaa,hv];rfl
 ·cases i with
  |zero =>
   have e':toCl (some 0) t=c:=by simpa [D6] using e
   subst e';exact⟨_,fp,tf,CT.toCl o,λ a ha=>⟨hp a ha,λ z=>z.2 ha⟩,nd⟩
  |succ i =>
   obtain⟨d',q,z⟩:=key i _ (by unfold D6 at e;simpa using e);cases z;cases io
 ·cases i with
  |zero =>
   cases j with
   |zero=>exact (ac rfl).elim
   |succ j =>
    obtain⟨d',q,z⟩:=key j _ (by unfold D6 at e2;simpa using e2);cases z;exact o2.elim
  |succ i =>
   obtain⟨d',q,z⟩:=key i _ (by unfold D6 at e1;simpa using e1);cases z;exact o1.elim
 ·unfold start D6;simp[hl]
section
variable {P:Program}{w:World}{K:zt}{mg:Str->Option Value}{base:Heap}
theorem N7 {P0:DJ}{P':Addr->Prop}{H':Hp}{σ':St}{ρ:Ad}{t:OT}(E:Al K P0 P' H' σ' ρ)(h:Hi ρ=some t):∃c ah,ρ[0]?=some (some c)/\σ'[0]?=some (some (.ref (P0.g 0)))/\CT K H' P' c (.ref (P0.g 0)) ah/\BX K H' P' (.ref (P0.g 0)) t ah/\ah.Nodup/\∀a∈ah,P' a/\¬ P0 a:=by
 unfold Hi at h;split at h
 ·rename_i c e;split at h
  ·rename_i t' e2;cases h;have io:GX c=true:=by cases c<;>first|rfl|cases e2
   obtain⟨v,fp,k1,k2,k3,k4⟩:=E.ows 0 c e io;have:=E.pin 0 c 0 e (Jq e2);rw[k1] at this;cases this;exact⟨c,fp,e,k1,k2,k2.toT e2,k4,k3⟩
  ·cases h
 ·cases h
theorem qD {x qual:Str}{st:Stmt}{f:Addr}{fd:FuncData}{N ps:List Str}{k:Nat}(F:Z9 K x qual st f fd)(S:Ae N ps (A5 st))(g:Ad->M Out)
 (hb:∀(B1:Value) (A:Around) (outer:List Env) (s:Shared) (H:Hp) (E:XK),BL k (A.deeper (envOfC qual (A5 st) s.heap.objs.size f B1))->UJ (mF P w K mg base N qual (A5 st) f B1 A outer s H E) (Ff K E) (AQ st) g):
 E7 P w K mg base (Za P w base) (k+1) f fd ps (Tf K ps.length λ t ap=>EA (g (D6 N t ap))):=by
 obtain⟨oc,od,kV,doc,pm,an,B1,ct,UH,rfl,lk,aP⟩:=F.ex;refine Ws lk aP S (λ vs H Q E h=>h.1) λ A outer s H vs Q E hr h=>?_;obtain⟨hl,P',p,t,fp,rest,ap,rfl,ht,hp,nd,ho,hv,hq⟩:=h;obtain⟨tt,h1,h2⟩:=hb B1 A outer s H E hr;refine⟨tt,h1,h2 ⟨λ a=>P' a/\a∉fp,λ _=>p⟩ P' _ H _ _ (Ka ht hp nd ho hv) ?_⟩;dsimp only at hq;revert hq;cases g (D6 N t ap) with
 |bad|ex x=>exact λ h=>h.elim
 |ok o =>
  have sub:∀ {P2:Addr->Prop} {H2:Hp} {σ2:St} {ρ:Ad},Al K ⟨λ a=>P' a/\a∉fp,λ _=>p⟩ P2 H2 σ2 ρ->∀a,P2 a/\¬ (P' a/\a∉fp)->P2 a/\(P' a->a∈fp):=λ E a ha=>⟨ha.1,λ z=>zcp λ w=>ha.2 ⟨z,w⟩⟩;cases o with
  |ret d|CM d=>exact λ h=>h.elim
  |next ρ =>
   intro hq σ' H' P2 t2 E2;unfold EA at hq;dsimp only at hq;split at hq
   ·rename_i t' e;obtain⟨c,ah,k1,k2,k3,k4,k5,k6⟩:=N7 E2 e;exact hq .AN H' P2 ah [] (λ a ha hn=>⟨E2.sub a ⟨ha,hn⟩,t2.2 a ⟨ha,hn⟩⟩) E2.Cn t2.1 k4 k5 (.sh .AN) zbn (λ a ha=>by cases ha) (λ a ha=>sub E2 a (k6 a ha)) (λ a ha=>by cases ha)
   ·exact hq.elim
  |Fw r ρ =>
   intro hq v fr σ' H' P2 t2 E2 o2 aM hf;unfold EA at hq;dsimp only at hq;split at hq
   ·rename_i t' e;obtain⟨c,ah,k1,k2,k3,k4,k5,k6⟩:=N7 E2 e;exact hq v H' P2 ah fr (λ a ha hn=>⟨E2.sub a ⟨ha,hn⟩,t2.2 a ⟨ha,hn⟩⟩) E2.Cn t2.1 k4 k5 o2 aM (λ a ha=>(hf a ha).2.2 0 c _ ah k1 k2 k3) (λ a ha=>sub E2 a (k6 a ha)) (λ a ha=>sub E2 a ⟨(hf a ha).1,(hf a ha).2.1⟩)
   ·exact hq.elim
  |brk ρ|cont ρ=>exact λ h=>h.elim
end
structure QC (P:Program)(w:World)(K:zt)(mg:Str->Option Value)(base:Heap)(x:Str)(k n:Nat)(F:OT->List D->M (OT×OT)):Prop where
 ex:∃fa fd ps,E7 P w K mg base (Za P w base) k fa fd ps (Tf K n F)/\mg x=some (.ref fa)/\zb4 K (.ref fa)=true/\Binds K fd ps []
theorem Tg {P:Program}{w:World}{K:zt}{mg:Str->Option Value}{base:Heap}{x:Str}{st:Stmt}{N ps:List Str}{k n:Nat}(T:AG K mg x st ps)(S:Ae N ps (A5 st))(g:Ad->M Out)
 (hb:∀(f:Addr) (B1:Value) (A:Around) (outer:List Env) (s:Shared) (H:Hp) (E:XK),BL k (A.deeper (envOfC x (A5 st) s.heap.objs.size f B1))->UJ (mF P w K mg base N x (A5 st) f B1 A outer s H E) (Ff K E) (AQ st) g) (hn:ps.length=n:=by rfl):
 QC P w K mg base x (k+1) n (λ t ap=>EA (g (D6 N t ap))):=by
 obtain⟨f,fd,F,hm,hB⟩:=T.ex;subst hn;exact⟨⟨f,fd,ps,qD F S g (hb f),hm,F.kp,hB⟩⟩
section
variable {X:Cx}{WX:Str->Hp->Prop}{c:Bool}{P0:DJ}{P:Addr->Prop}{H:Hp}{σ:St}{ρ:Ad}{a b e:Expr}{f g:Ad->M D}{fn:Ad->M OT}{fp:Ad->M (List Nat)}{pos:Pos}{i:Nat}{es:List Expr}{fs:Ad->M (List D)}
theorem Al.new {K:zt}{P':Addr->Prop}{H':Hp}(E:Al K P0 P H σ ρ)(s:Ah H H')(sm:Ah (del H P) (del H' P')){a:Addr}(hn:H a=none):∀(j:Nat) c v fq,ρ[j]?=some (some c)->σ[j]?=some (some v)->CT K H' P' c v fq->a∉fq:=λ j c v fq h1 h2 h3 ha=>by
 have io:GX c=true:=by cases c<;>first|rfl|exact h3.elim
 obtain⟨w,fr,k1,k2,k3,k4⟩:=E.ows j c h1 io;rw[h2] at k1;cases k1;have m:=k2.move sm λ b hb=>by obtain⟨o,q⟩:=k2.at b hb;rw[q];exact s _ _ q
 rw[h3.C4 m] at ha;obtain⟨o,q⟩:=k2.at a ha;rw[hn] at q;cases q
theorem Al.vD {K:zt}{P':Addr->Prop}{H':Hp}{π:List Nat}{v1 v2:V}{t1 u r:OT}{au fu fr:List Addr}(E:Al K P0 P H σ ρ)(pl:Bj K P H σ ρ i π v1 t1)(o:BX K H P v1 t1 au)(hs:∀a,P a->a∉au->P' a/\H' a=H a)(ht:∀a,P' a->EW H' a)(sm:Ah (del H P) (del H' P'))
 (o':BX K H' P' v1 u fu) (nd:fu.Nodup) (hf:∀a∈fu,P' a/\(P a->a∈au)) (or:BX K H' P' v2 r fr) (zf:fr.Nodup) (hr:∀a∈fr,P' a/\(P a->a∈au)) (dj:∀a∈fr,a∉fu):
 ∃c p t,ρ[i]?=some (some c)/\treeOf c=some (p,t)/\Al K P0 P' H' σ (ρ.set i (some (toCl p (Eu t π u))))/\Tr P0 P H P' H'/\
  ∀a∈fr,P' a/\¬ P0 a/\∀(j:Nat) c' v fq,(ρ.set i (some (toCl p (Eu t π u))))[j]?=some (some c')->σ[j]?=some (some v)->CT K H' P' c' v fq->a∉fq:=by
 obtain⟨v0,c,p,t,h1,h2,h3,h4⟩:=pl.ex;have io:GX c=true:=by cases c<;>first|rfl|cases h2
 obtain⟨w,fp,k1,k2,k3,k4⟩:=E.ows i c h1 io;rw[h3] at k1;cases k1;have ot:=k2.toT h2;obtain⟨fz,oz,kz,_⟩:=ot.part h4;have:=oz.C4 o;subst this;obtain⟨ah,q1,q2,q3⟩:=ot.put sm h4 o o' (λ a ha hn=>(hs a (k3 a ha).1 hn).2) k4 nd (λ a ha hb=>(hf a ha).2 (k3 a hb).1);have tj:∀(j:Nat) c' v' fq,i≠j->ρ[j]?=some (some c')->σ[j]?=some (some v')->CT K H P c' v' fq->∀a∈fq,P a/\a∉fp:=λ j c' v' fq ac g1 g2 g3 a ha=>by
  have je:GX c'=true:=by cases c'<;>first|rfl|exact g3.elim
  obtain⟨w',pf,m1,m2,m3,m4⟩:=E.ows j c' g1 je;rw[g2] at m1;cases m1;have:=m2.C4 g3;subst this;exact⟨(m3 a ha).1,E.apart j i c' c v' v0 pf fp g1 h1 g2 h3 g3 k2 (zb3 ac) a ha⟩
 have key:=E.uR (P':=P') (H':=H') (i:=i) (v:=v0) (c:=toCl p (Eu t π u)) (fp:=ah) (λ a ha=>(hs a (E.sub a ha) λ z=>(k3 a (kz a z)).2 ha).1) ht sm (λ j c' v' fq ac g1 g2 g3 a ha=>?_) (CT.toCl q1) (λ a ha=>?_) q2 (λ n z=>by rw[G7] at z;subst z;have:=E.pin i c n h1 (Jq h2);rw[h3] at this;cases this;rfl)
 ·rw[RC h3] at key;refine⟨c,p,t,h1,h2,key,⟨sm,λ a ha=>(hs a (E.sub a ha) λ z=>(k3 a (kz a z)).2 ha).2⟩,λ a ha=>⟨(hr a ha).1,λ z=>(k3 a (kz a ((hr a ha).2 (E.sub a z)))).2 z,λ j c' v fq g1 g2 g3 hb=>?_⟩⟩;rcases get_set g1 with ⟨rfl,hl,z⟩|⟨ac,g1⟩
  ·cases z;rw[h3] at g2;cases g2;rw[g3.C4 (CT.toCl q1)] at hb;rcases q3 a hb with y|y
   ·exact dj a ha y
   ·exact y.2 ((hr a ha).2 (k3 a y.1).1)
  ·have je:GX c'=true:=by cases c'<;>first|rfl|exact g3.elim
   obtain⟨w',pf,m1,m2,m3,m4⟩:=E.ows j c' g1 je;rw[g2] at m1;cases m1;have o2:=tj j c' v pf ac g1 g2 m2;have mv:=m2.move sm λ b az=>(hs b (o2 b az).1 λ z=>(o2 b az).2 (kz b z)).2;rw[g3.C4 mv] at hb;exact (o2 a hb).2 (kz a ((hr a ha).2 (o2 a hb).1))
 ·have o2:=tj j c' v' fq ac g1 g2 g3 a ha;have hk:=hs a o2.1 λ z=>o2.2 (kz a z);refine⟨hk.2,λ z=>?_,hk.1⟩;rcases q3 a z with y|y
  ·exact o2.2 (kz a ((hf a y).2 o2.1))
  ·exact o2.2 y.1
 ·rcases q3 a ha with y|y
  ·exact⟨(hf a y).1,λ z=>(k3 a (kz a ((hf a y).2 (E.sub a z)))).2 z⟩
  ·exact⟨(hs a (k3 a y.1).1 y.2).1,(k3 a y.1).2⟩
end
noncomputable def IJ (i:Nat)(ρ:Ad)(π:List Nat)(u:OT):M Out:=match ρ[i]? with
 |some (some c)=>(match treeOf c with|some (p,t)=>.ok (.next (ρ.set i (some (toCl p (Eu t π u)))))|none=>.bad)
 |_=>.bad
noncomputable def FC (i:Nat)(ρ:Ad)(π:List Nat):M (List OT):=match WN i ρ π with | some (.lst ts)=>.ok ts | _=>.bad
theorem Ih {i:Nat}{ρ:Ad}{π:List Nat}{u:OT}{c:Cl}{p:Option Nat}{t:OT}(h:ρ[i]?=some (some c))(ht:treeOf c=some (p,t)):IJ i ρ π u=.ok (.next (ρ.set i (some (toCl p (Eu t π u))))):=by
 unfold IJ;simp only[h,ht]
theorem Ax.append {K:zt}{H:Hp}{P:Addr->Prop}:∀ {xs ys:List V}{ts us:List OT}{fp fq:List Addr},Ax K H P xs ts fp->Ax K H P ys us fq->Ax K H P (xs++ys) (ts++us) (fp++fq)
 |_,_,_,_,_,_,.nil,h=>h
 |_,_,_,_,_,_,.cons a t,h=>by rw[zb5];exact .cons a (t.append h)
section
variable {X:Cx}{WX:Str->Hp->Prop}{c:Bool}{P0:DJ}{P:Addr->Prop}{H:Hp}{σ:St}{ρ:Ad}{a b e:Expr}{f g:Ad->M D}{fn:Ad->M OT}{fp:Ad->M (List Nat)}{pos:Pos}{i:Nat}{es:List Expr}{fs:Ad->M (List D)}
theorem Bj.lst {K:zt}{π:List Nat}{v:V}{t1:OT}{ts:List OT}(pl:Bj K P H σ ρ i π v t1)(E:Al K P0 P H σ ρ)(h:FC i ρ π=.ok ts):t1=.lst ts/\∃l xs fq,v=.ref l/\H l=some (.lst xs)/\Ax K H P xs ts fq/\l∉fq/\fq.Nodup:=by
 unfold FC at h;rw[pl.at] at h;split at h
 ·rename_i ph e;cases e;cases h;obtain⟨au,o1,hp,nd⟩:=pl.own E;cases o1 with
  |lst hh hr=>exact⟨rfl,_,_,_,rfl,hh,hr,(zaw.mp nd).1,(zaw.mp nd).2⟩
 ·cases h
theorem qE (ha:DP X WX a i fp)(he:DN X WX e fn){apos ad:Pos}(hs:starEach [e] X.env=[(false,eval e X.env)]:=by rfl)
 (bz:swapsWith (.Call (.Attribute a "append" apos) [e] [] ad) none pos.line X.env=pure false:=by rfl)
 (aj:attributeBase a "append" X.env (eval a X.env)=eval a X.env:=by rfl)
 (aK:((backTo ad (starEach [e] X.env)).all (λ x => !x.1)&&(backToKw ad (keywordEach [] X.env)).all (λ x=>x.1.isSome)&&decide (([e]:List Expr).length+([]:List Keyword).length+(if ([]:List Keyword).isEmpty then 0 else 1)<30))=true:=by rfl)
 (ak:(apos.endLine==ad.line)=true:=by rfl) (ao:(backTo ad (starEach [] X.env)).any (·.1)=false:=by rfl):
 DS X WX (.Expr (.Call (.Attribute a "append" apos) [e] [] ad) pos) (λ ρ=>(fp ρ).bind λ π=>(FC i ρ π).bind λ ts=>(fn ρ).bind λ t=>if ts.length<1000 then IJ i ρ π (.lst (ts++[t])) else .bad):=by
 obtain⟨ta,a1,a2⟩:=ha;obtain⟨te,e1,e2⟩:=he;refine⟨_,JN (Ww zce PySem.F.slot_list_append PySem.F.type_list_append Qo a1 (BC e1 CP hs) aj aK ak hs ao) bz,λ P0 P σ H Z ρ E h=>?_⟩;dsimp only at h;refine a2 P0 P σ H _ ρ E ?_;refine iM h E λ π h=>?_;intro v t1 H1 s1 pl;have E1:=E.same s1;cases q1:FC i ρ π with
 |bad=>rw[q1] at h;exact h.elim
 |ex x=>unfold FC at q1;split at q1<;>cases q1
 |ok ts =>
  rw[q1] at h;simp only[M.Aa] at h;obtain⟨rfl,l,xs,fq,rfl,hl,ol,nl,v6⟩:=pl.lst E1 q1;refine⟨.inl ⟨rfl,xs,.of hl⟩,e2 P0 P σ H1 _ ρ E1 ?_⟩;cases q2:fn ρ with
  |bad=>rw[q2] at h;exact h
  |ex y=>rw[q2] at h;exact λ H' s=>h H' P ((E.tr s1).trans (E1.tr s))
  |ok t =>
   rw[q2] at h;simp only[M.Aa] at h;by_cases hz:ts.length<1000
   ·rw[if_pos hz] at h;intro w fw H2 s2 n2 aM o2;have sm:=CW (P:=P) s2 n2;have E2:Al X.K P0 (PU P fw) H2 σ ρ:=E1.more s2 LJ (Jo (E1.same s2).Cn o2) sm;have keep:∀b∈fq,H2 b=H1 b:=λ b hb=>by obtain⟨o,z,_⟩:=ol.Cn b hb;rw[z];exact s2 _ _ z
    have d0:=ol.move sm keep;have am:=s2 _ _ hl;have dj:∀b∈fq,b∉fw:=λ b hb hc=>(ol.Cn b hb).no (n2 b hc);obtain⟨c,p,t0,g1,g2,E3,t3⟩:=E2.qB (pl.more sm s2) am d0 (us:=ts++[t]) (ys:=xs++[w]) (d0.append (.cons o2 .nil)) (by rw[zb0];exact zaj.mpr ⟨v6,aM,λ b hb d hd z=>dj b hb (by rw[z];exact hd)⟩) (by
     rw[zb0];intro z;rcases zab.mp z with z|z
     ·exact nl z
     ·rw[n2 l z] at hl;cases hl) (by
     intro b hb;rw[zb0] at hb;rcases zab.mp hb with z|z
     ·exact .inl z
     ·exact .inr ⟨.inr z,λ y=>(E1.Cn b (E1.sub b y)).no (n2 b z),E1.new s2 sm (n2 b z)⟩)
    rw[Ih g1 g2] at h;exact⟨l,xs,w,rfl,rfl,am,AH (by rw[ol.len];exact zbk hz),h _ _ _ (((E.tr s1).trans (E1.wZ s2 n2)).trans t3) E3⟩
   ·rw[if_neg hz] at h;exact h.elim
noncomputable def jC {α:Type}(o:Option α):M α:=match o with | some x=>.ok x | none=>.bad
noncomputable def Sx (i:Nat)(ρ:Ad)(π:List Nat):M (List D):=match WN i ρ π with | some (.lst ts)=>(match Ey ts with | some ds=>.ok ds | none=>.bad) | _=>.bad
theorem Bj.shl {K:zt}{π:List Nat}{v:V}{t1:OT}{ds:List D}(pl:Bj K P H σ ρ i π v t1)(E:Al K P0 P H σ ρ)(h:Sx i ρ π=.ok ds):t1=.lst (ds.map .sh)/\∃l xs,v=.ref l/\H l=some (.lst xs)/\Ai K (del H P) xs ds:=by
 unfold Sx at h;rw[pl.at] at h;split at h
 ·rename_i ph e;split at h
  ·rename_i lu e';cases e;cases h;have z:=Dg e';subst z;obtain⟨au,o1,hp,nd⟩:=pl.own E;cases o1 with
   |lst hh hr=>exact⟨rfl,_,_,rfl,hh,hr.qA.2⟩
  ·cases h
 ·cases h
theorem Vr {π:List Nat}{x:Str}(h:Sx i ρ π=.ex x):False:=by
 unfold Sx at h;split at h
 ·split at h<;>cases h
 ·cases h
theorem Al.vE {K:zt}{π:List Nat}{l:Addr}{xs ys:List V}{ds es:List D}(E:Al K P0 P H σ ρ)(pl:Bj K P H σ ρ i π (.ref l) (.lst (ds.map .sh)))(hH:H l=some (.lst xs))(o:Ai K (del H P) xs ds)(o':Ai K (del H P) ys es):
 ∃c p t,ρ[i]?=some (some c)/\treeOf c=some (p,t)/\Al K P0 P (upd H l (.lst ys)) σ (ρ.set i (some (toCl p (Eu t π (.lst (es.map .sh))))))/\Tr P0 P H P (upd H l (.lst ys)):=
 E.qB pl hH o.ows o'.ows zbn (λ z=>by cases z) (λ a ha=>by cases ha)
noncomputable def jD (t:OT):M (List D):=match t with | .lst us=>jC (Ey us) | _=>.bad
theorem Vs (ha:DP X WX a i fp)(he:DN X WX e fn){apos ad:Pos}(hs:starEach [e] X.env=[(false,eval e X.env)]:=by rfl)
 (bz:swapsWith (.Call (.Attribute a "extend" apos) [e] [] ad) none pos.line X.env=pure false:=by rfl)
 (aj:attributeBase a "extend" X.env (eval a X.env)=eval a X.env:=by rfl)
 (aK:((backTo ad (starEach [e] X.env)).all (λ x => !x.1)&&(backToKw ad (keywordEach [] X.env)).all (λ x=>x.1.isSome)&&decide (([e]:List Expr).length+([]:List Keyword).length+(if ([]:List Keyword).isEmpty then 0 else 1)<30))=true:=by rfl)
 (ak:(apos.endLine==ad.line)=true:=by rfl) (ao:(backTo ad (starEach [] X.env)).any (·.1)=false:=by rfl):
 DS X WX (.Expr (.Call (.Attribute a "extend" apos) [e] [] ad) pos) (λ ρ=>(fp ρ).bind λ π=>(Sx i ρ π).bind λ ds=>((fn ρ).bind jD).bind λ es=>if ds.length+es.length<=1000 then IJ i ρ π (.lst ((ds++es).map .sh)) else .bad):=by
 obtain⟨ta,a1,a2⟩:=ha;obtain⟨te,e1,e2⟩:=he;refine⟨_,JN (Ww zce PySem.F.slot_list_extend PySem.F.type_list_extend XR a1 (BC e1 CP hs) aj aK ak hs ao) bz,λ P0 P σ H Z ρ E h=>?_⟩;dsimp only at h;refine a2 P0 P σ H _ ρ E ?_;refine iM h E λ π h=>?_;intro v t1 H1 s1 pl;have E1:=E.same s1;cases q1:Sx i ρ π with
 |bad=>rw[q1] at h;exact h.elim
 |ex x=>exact (Vr q1).elim
 |ok ds =>
  rw[q1] at h;simp only[M.Aa] at h;obtain⟨rfl,l,xs,rfl,hl,ol⟩:=pl.shl E1 q1;refine⟨.inl ⟨rfl,xs,.of hl⟩,e2 P0 P σ H1 _ ρ E1 ?_⟩;cases q2:fn ρ with
  |bad=>rw[q2] at h;exact h
  |ex y=>rw[q2] at h;exact λ H' s=>h H' P ((E.tr s1).trans (E1.tr s))
  |ok t =>
   rw[q2] at h;simp only[M.Aa] at h;intro w fw H2 s2 n2 aM o2;have sm:=CW (P:=P) s2 n2;have E2:Al X.K P0 (PU P fw) H2 σ ρ:=E1.more s2 LJ (Jo (E1.same s2).Cn o2) sm;cases t with
   |lst us =>
    simp only[jD] at h;cases q3:Ey us with
    |none=>rw[q3] at h;exact h.elim
    |some es =>
     rw[q3] at h;simp only[jC,M.Aa] at h;have z:=Dg q3;subst z;cases o2 with
     |lst hb hr =>
      by_cases hz:ds.length+es.length<=1000
      ·rw[if_pos hz] at h;have he:=hr.qA.2;have d0:=ol.mono sm;have am:=s2 _ _ hl;obtain⟨c,p,t0,g1,g2,E3,t3⟩:=E2.vE (pl.more sm s2) am d0 (d0.append he);rw[Ih g1 g2] at h;exact⟨l,_,xs,_,rfl,rfl,am,hb,zbk (AH (by rw[ol.length,he.length];exact hz)),h _ _ _ (((E.tr s1).trans (E1.wZ s2 n2)).trans t3) E3⟩
      ·rw[if_neg hz] at h;exact h.elim
   |_=>exact h.elim
end
def gX (K:zt)(WX:Str->Hp->Prop)(P0:DJ)(P:Addr->Prop)(H:Hp)(σ:St)(Q:VK):M (Ad×OT)->Prop
 | .ok (ρ,t)=>∀v fp H' P',Tr P0 P H P' H'->Al K P0 P' H' σ ρ->BX K H' P' v t fp->fp.Nodup->(∀a∈fp,P' a/\¬ P0 a/\∀(j:Nat) c v' fq,ρ[j]?=some (some c)->σ[j]?=some (some v')->CT K H' P' c v' fq->a∉fq)->Q v H'
 | .ex x=>∀H' P',Tr P0 P H P' H'->WX x H'
 | .bad=>False
def DX (X:Cx)(WX:Str->Hp->Prop)(e:Expr)(f:Ad->M (Ad×OT)):Prop:=
 ∃t,PE X e t/\∀P0 P σ H Q ρ,Al X.K P0 P H σ ρ->gX X.K WX P0 P H σ Q (f ρ)->t σ H Q
noncomputable def cK:OT->Bool
 | .sh _=>false
 |_=>true
noncomputable def Th (i:Nat)(F:OT->List D->M (OT×OT))(ρ:Ad)(π:List Nat)(ap:List D):M (Ad×OT):=match ρ[i]? with
 |some (some c)=>(match treeOf c with
  |some (p,t)=>(match LI t π with
   |some t1=>if cK t1=true then (match F t1 ap with | .ok (t2,r)=>.ok (ρ.set i (some (toCl p (Eu t π t2))),r)|_=>.bad) else .bad
   |none=>.bad)
  |none=>.bad)
 |_=>.bad
section
variable {X:Cx}{E:XK}{WX:Str->Hp->Prop}{c:Bool}{P0:DJ}{P:Addr->Prop}{H:Hp}{σ:St}{ρ:Ad}{a b e:Expr}{f g:Ad->M D}{fn:Ad->M OT}{fx:Ad->M (Ad×OT)}{fp:Ad->M (List Nat)}{pos:Pos}{i:Nat}{es:List Expr}{fs:Ad->M (List D)}
theorem cL {F:OT->List D->M (OT×OT)}{π:List Nat}{ap:List D}{c:Cl}{p:Option Nat}{t t1 t2 r:OT}(h:ρ[i]?=some (some c))(ht:treeOf c=some (p,t))(hs:LI t π=some t1)(hN:cK t1=true)(hF:F t1 ap=.ok (t2,r)):Th i F ρ π ap=.ok (ρ.set i (some (toCl p (Eu t π t2))),r):=by
 unfold Th;simp only[h,ht,hs,hN,if_true,hF]
theorem cM {k n:Nat}{F:OT->List D->M (OT×OT)}{x:Str}{p:Pos}(xo:IR X E)(G:QC X.prog X.w X.K X.mg X.base x k n F)(hr:BL k X.A)(hg:Gl X x)(hp:DP X (Ff X.K E) a i fp)(ha:DA X (Ff X.K E) true es fs)(hn:es.length+1=n)
 (aT:(x==("__debug__" : Str))=false:=by decide) (he:starEach (a::es) X.env=(false,eval a X.env)::starEach es X.env:=by rfl) (hpl:(backTo pos (starEach es X.env)).any (·.1)=false:=by rfl):
 DX X (Ff X.K E) (.Call (.Name x p) (a::es) [] pos) (λ ρ=>(fp ρ).bind λ π=>(fs ρ).bind λ ap=>Th i F ρ π ap):=by
 obtain⟨fa,fd,ps,hF,hm,hk,hb⟩:=G.ex;obtain⟨tp,p1,p2⟩:=hp;obtain⟨ta,a1,a2,a3⟩:=ha;refine⟨_,Wr hF hr hg hm hk hb .nil xo.call (BC p1 a1 he) aT he hpl,λ P0 P σ H Q ρ Ev h=>?_⟩;dsimp only at h;refine p2 P0 P σ H _ ρ Ev ?_;cases q:fp ρ with
 |bad=>rw[q] at h;exact h
 |ex x=>rw[q] at h;exact λ H' s=>h H' P (Ev.tr s)
 |ok π =>
  rw[q] at h;simp only[M.Aa] at h;intro v t1 H1 s1 pl;have E1:=Ev.same s1;refine a2 P0 P σ H1 _ ρ E1 ?_;cases q2:fs ρ with
  |bad=>rw[q2] at h;exact h
  |ex y=>rw[q2] at h;exact λ H' s=>h H' P ((Ev.tr s1).trans (E1.tr s))
  |ok ap =>
   rw[q2] at h;simp only[M.Aa] at h;intro vs H2 s2 aB;have E2:=E1.same s2;have da:=pl.same s2;show Tf X.K n F ((v::vs)++[]) H2 Q E;rw[zb0];obtain⟨v0,c,pp,t,g1,g2,g3,g4⟩:=da.ex;unfold Th at h;simp only[g1,g2,g4.sub] at h;by_cases hx:cK t1=true
   ·rw[if_pos hx] at h;obtain⟨au,o1,v7,ga⟩:=da.own E2;have jf:∃l,v=.ref l:=by
     cases o1 with
     |sh hv=>exact absurd hx (by simp[cK])
     |lst _ _|tup _ _|dK _ _|dT _ _|ins _ _ _=>exact⟨_,rfl⟩
    obtain⟨l,rfl⟩:=jf;refine⟨by rw[z5,aB.length,a3 ρ ap q2];exact hn,P,l,t1,au,vs,ap,rfl,E2.Cn,λ b hb=>(v7 b hb).1,ga,o1,aB,?_⟩;cases qF:F t1 ap with
    |bad|ex x=>rw[qF] at h;exact h.elim
    |ok z =>
    obtain⟨t2,r⟩:=z;rw[qF] at h;intro w H' P' fu fr k1 k2 k3 k4 k5 k6 k7 k8 k9 tu;obtain⟨c',p',t',m1,m2,m3,m4,m5⟩:=E2.vD da o1 k1 k2 k3 k4 k5 k9 k6 k7 tu k8;rw[g1] at m1;cases m1;rw[g2] at m2;cases m2;exact h w fr H' P' (((Ev.tr s1).trans (E1.tr s2)).trans m4) m3 k6 k7 m5
   ·rw[if_neg hx] at h;exact h.elim
theorem Od (he:DX X WX e fx)(hs:swapsWith e none pos.line X.env=pure false:=by rfl):DS X WX (.Expr e pos) (λ ρ=>(fx ρ).bind λ z=>.ok (.next z.1)):=by
 obtain⟨te,e1,e2⟩:=he;refine⟨_,JN e1 hs,λ P0 P σ H Z ρ E h=>?_⟩;dsimp only at h;refine e2 P0 P σ H _ ρ E ?_;cases q:fx ρ with
 |bad|ex x=>rw[q] at h;exact h
 |ok z=>rw[q] at h;exact λ v fp H' P' t E' o nd hf=>h σ H' P' t E'
theorem jE (j:Nat){x:Str}{pos':Pos}(hN:X.N.Nodup)(hi:X.N[j]?=some x)(hx:Loc X.env.scope x)(he:DX X WX e fx)(hs:swapsWith e (some (.Name x pos')) pos.line X.env=pure false:=by rfl)(hf:X.fn x=true\/X.env.scope.names.lookup x=some .local:=by first | exact .inl rfl | exact .inr rfl | assumption):
 DS X WX (.Assign [.Name x pos'] e pos) (λ ρ=>(fx ρ).bind λ z=>RJ j z.1 z.2):=by
 obtain⟨te,e1,e2⟩:=he;refine⟨_,UP hN hi hx e1 hs hf,λ P0 P σ H Z ρ E h=>?_⟩;dsimp only at h;refine e2 P0 P σ H _ ρ E ?_;refine XZ h λ z h=>?_;intro v fp H' P' tr E' o nd hf;have h':=h.tr tr;have key:gS X.K WX P0 P' H' Z (.ok (.next (z.1.set j (some (toCl none z.2)))))->Z.nx (σ.set j (some v)) H':=λ h=>by
  refine h _ H' P' Tr.refl (E'.iL (λ _ h=>h) E'.Cn (Ah.refl _) (λ k c' v' ah ac g1 g2 g3 b hb=>⟨rfl,λ w=>(hf b w).2.2 k c' v' ah g1 g2 g3 hb⟩) (CT.toCl o) (λ b hb=>⟨(hf b hb).1,(hf b hb).2.1⟩) nd (λ n z=>by rw[G7] at z;cases z))
 obtain⟨ρ1,u⟩:=z;cases u with
 |sh d =>
  cases o with
  |sh hv=>exact h' _ H' P' Tr.refl (E'.Vf hv)
 |lst ts|tup ts|Bu b ks ts|ins x ns ts=>exact key h'
end
noncomputable def Gy (i:Nat)(ρ:Ad)(π:List Nat):M (Bool×List D×List D):=match WN i ρ π with
 |some (.Bu b ks ts)=>(match Ey ts with|some vs=>.ok (b,ks,vs)|none=>.bad)
 |_=>.bad
noncomputable def putD (ks vs:List D)(k v:D):List D×List D:=if MK ks k=true then (ks,Jr ks vs k v) else (ks++[k],vs++[v])
section
variable {X:Cx}{E:XK}{WX:Str->Hp->Prop}{c:Bool}{P0:DJ}{P:Addr->Prop}{H:Hp}{σ:St}{ρ:Ad}{a b e:Expr}{f g:Ad->M D}{fn:Ad->M OT}{fx:Ad->M (Ad×OT)}{fp:Ad->M (List Nat)}{pos:Pos}{i:Nat}{es:List Expr}{fs:Ad->M (List D)}
theorem Bj.Bu {K:zt}{π:List Nat}{v:V}{t1:OT}{bl:Bool}{ks vs:List D}(pl:Bj K P H σ ρ i π v t1)(E:Al K P0 P H σ ρ)(h:Gy i ρ π=.ok (bl,ks,vs)):t1=.Bu bl ks (vs.map .sh)/\∃l xs,v=.ref l/\P l/\Ai K (del H P) xs vs/\BX K H P (.ref l) (.Bu bl ks (vs.map .sh)) [l]/\
 ((bl=false/\∃kvs,H l=some (.dK kvs)/\ks=(kvs.map λ kv=>Cm kv.1)/\xs=kvs.map zbd)\/(bl=true/\∃kvs,H l=some (.dT kvs)/\ks=(kvs.map λ kv=>.tup (kv.1.map Cm))/\xs=kvs.map zbd)):=by
 unfold Gy at h;rw[pl.at] at h;split at h
 ·rename_i b' v4 ph e;split at h
  ·rename_i a9 e';cases e;cases h;have z:=Dg e';subst z;obtain⟨au,o1,hp,nd⟩:=pl.own E;generalize ht:OT.Bu bl ks (vs.map .sh)=t at o1;cases o1 with
   |dK hh hr =>
    injection ht with h1 h2 h3
    subst h1 h2 h3;obtain⟨rfl,hs⟩:=hr.qA;exact⟨rfl,_,_,rfl,(hp _ zw).1,hs,.dK hh hr,.inl ⟨rfl,_,hh,rfl,rfl⟩⟩
   |dT hh hr =>
    injection ht with h1 h2 h3
    subst h1 h2 h3;obtain⟨rfl,hs⟩:=hr.qA;exact⟨rfl,_,_,rfl,(hp _ zw).1,hs,.dT hh hr,.inr ⟨rfl,_,hh,rfl,rfl⟩⟩
   |_=>cases ht
  ·cases h
 ·cases h
theorem cN {π:List Nat}{x:Str}(h:Gy i ρ π=.ex x):False:=by
 unfold Gy at h;split at h
 ·split at h<;>cases h
 ·cases h
theorem Al.qG {K:zt}{π:List Nat}{l:Addr}{t1 u:OT}{o':HO}(E:Al K P0 P H σ ρ)(pl:Bj K P H σ ρ i π (.ref l) t1)(ot:BX K H P (.ref l) t1 [l])(hn:∀xs,o'≠.tup xs/\∀z,o'≠.Gr z (.tup xs))(new:Ah (del H P) (del (upd H l o') P)->BX K (upd H l o') P (.ref l) u [l]):
 ∃c p t,ρ[i]?=some (some c)/\treeOf c=some (p,t)/\Al K P0 P (upd H l o') σ (ρ.set i (some (toCl p (Eu t π u))))/\Tr P0 P H P (upd H l o'):=by
 obtain⟨au,o1,hp,_⟩:=pl.own E;have:=o1.C4 ot;subst this;have pP:P l:=(hp l zw).1;have sd:del (upd H l o') P=del H P:=by
  funext b;by_cases hb:P b
  ·rw[G0 hb,G0 hb]
  ·rw[AD hb,AD hb,Ag (λ z=>hb (by rw[z];exact pP))]
 have sm:Ah (del H P) (del (upd H l o') P):=by rw[sd];exact Ah.refl _
 refine E.vB pl ot (λ _ h=>h) (λ a h=>?_) sm (λ a ha hn=>Ag λ z=>hn (by rw[z];exact zw)) (new sm) (by simp) (λ a ha=>.inl ha);by_cases ha:a=l
 ·subst ha;exact⟨_,An,hn⟩
 ·unfold EW;rw[Ag ha];exact E.Cn a h
theorem N8 {n:Nat}(hu:X.A.units+n<cLine)(ha:DP X WX a i fp)(hk:DE X WX true b g)(hv:DE X WX true e f){pos':Pos}(hs:swapsWith e (some (.Subscript a b pos')) pos.line X.env=pure false:=by rfl)(hn:1<=n:=by decide):
 DS X WX (.Assign [.Subscript a b pos'] e pos) (λ ρ=>(f ρ).bind λ v=>(fp ρ).bind λ π=>(g ρ).bind λ k=>(Gy i ρ π).bind λ z=>if keyOk z.1 k=true/\z.2.1.length<1000 then IJ i ρ π (.Bu z.1 (putD z.2.1 z.2.2 k v).1 ((putD z.2.1 z.2.2 k v).2.map .sh)) else .bad):=by
 obtain⟨ta,a1,a2⟩:=ha;obtain⟨tk,k1,k2⟩:=hk;obtain⟨tv,v1,v2⟩:=hv;refine⟨_,iA (by omega) a1 k1 v1 hs,λ P0 P σ H Z ρ E h=>?_⟩;dsimp only at h;refine v2 P0 P σ H _ ρ E ?_;refine iM h E λ d h=>?_;intro w H0 s0 hw;have E0:=E.same s0;refine a2 P0 P σ H0 _ ρ E0 ?_;cases q:fp ρ with
 |bad=>rw[q] at h;exact h
 |ex x=>rw[q] at h;exact λ H' s=>h H' P ((E.tr s0).trans (E0.tr s))
 |ok π =>
  rw[q] at h;simp only[M.Aa] at h;intro v t1 H1 s1 pl;have E1:=E0.same s1;refine k2 P0 P σ H1 _ ρ E1 ?_;cases q2:g ρ with
  |bad=>rw[q2] at h;exact h
  |ex y=>rw[q2] at h;exact λ H' s=>h H' P (((E.tr s0).trans (E0.tr s1)).trans (E1.tr s))
  |ok k =>
   rw[q2] at h;simp only[M.Aa] at h;intro y H2 s2 hy;have E2:=E1.same s2;have da:=pl.same s2;have lx:=(hw.mono s1.del).mono s2.del;have tw:=((E.tr s0).trans (E0.tr s1)).trans (E1.tr s2);cases q3:Gy i ρ π with
   |bad=>rw[q3] at h;exact h.elim
   |ex x=>exact (cN q3).elim
   |ok z =>
    obtain⟨bb,ks,vs⟩:=z;rw[q3] at h;simp only[M.Aa] at h;by_cases hc:keyOk bb k=true/\ks.length<1000
    ·rw[if_pos hc] at h;obtain⟨rfl,l,xs,rfl,hP,cm,ot,jg⟩:=da.Bu E2 q3;have hK:=Ez hc.1;rcases jg with ⟨rfl,kvs,hH,rfl,rfl⟩|⟨rfl,kvs,hH,rfl,rfl⟩
     ·cases hK with
      |k κ =>
       have ey:=hy.iY;refine⟨l,_,rfl,.inl ⟨kvs,κ,hH,ey,AH (by have:=hc.2;rw[zv] at this;omega),rfl⟩,?_⟩;have aL:∃a9,(putD (kvs.map λ kv=>Cm kv.1) vs (Cm κ) d)=((putK kvs κ w).map (λ kv=>Cm kv.1),a9)/\Ai X.K (del H2 P) ((putK kvs κ w).map zbd) a9:=by
        unfold putD putK;rw[K7 He];by_cases hh:(kvs.any λ kv=>decide (kv.1=κ))=true
        ·rw[if_pos hh,if_pos hh];refine⟨_,by rw[Hg (fk:=Cm) He],?_⟩;rw[<-Hf (fk:=Cm) He];exact Hh lx cm
        ·rw[if_neg hh,if_neg hh];refine⟨_,by rw[zao];rfl,?_⟩;rw[zao];exact cm.snoc lx
       obtain⟨a9,e1,e2⟩:=aL;obtain⟨c,p,t0,g1,g2,E3,t3⟩:=E2.qG (o':=.dK (putK kvs κ w)) (u:=.Bu false ((putK kvs κ w).map λ kv=>Cm kv.1) (a9.map .sh)) da ot (λ _=>⟨λ z=>(by cases z),λ _ z=>by cases z⟩) (λ mv=>.dK An (e2.mono mv).ows);rw[e1,Ih g1 g2] at h;exact h _ _ _ (tw.trans t3) E3
     ·cases hK with
      |t κ =>
       cases hy with
       |tup ht am =>
        have ey:=Ai.keys κ am;subst ey;refine⟨l,_,rfl,.inr ⟨kvs,κ,_,hH,rfl,(Am ht).2,AH (by have:=hc.2;rw[zv] at this;omega),rfl⟩,?_⟩;have hf:∀a b:List Key,Bm (.tup (a.map Cm)) (.tup (b.map Cm))=decide (a=b):=λ a b=>by simp only[Bm];exact N6 a b
        have aL:∃a9,(putD (kvs.map λ kv=>.tup (kv.1.map Cm)) vs (.tup (κ.map Cm)) d)=((putK kvs κ w).map (λ kv=>.tup (kv.1.map Cm)),a9)/\Ai X.K (del H2 P) ((putK kvs κ w).map zbd) a9:=by
         unfold putD putK;rw[K7 (fk:=λ κ:List Key=>D.tup (κ.map Cm)) hf];by_cases hh:(kvs.any λ kv=>decide (kv.1=κ))=true
         ·rw[if_pos hh,if_pos hh];refine⟨_,by rw[Hg (fk:=λ κ:List Key=>D.tup (κ.map Cm)) hf],?_⟩;rw[<-Hf (fk:=λ κ:List Key=>D.tup (κ.map Cm)) hf];exact Hh lx cm
         ·rw[if_neg hh,if_neg hh];refine⟨_,by rw[zao];rfl,?_⟩;rw[zao];exact cm.snoc lx
        obtain⟨a9,e1,e2⟩:=aL;obtain⟨c,p,t0,g1,g2,E3,t3⟩:=E2.qG (o':=.dT (putK kvs κ w)) (u:=.Bu true ((putK kvs κ w).map λ kv=>.tup (kv.1.map Cm)) (a9.map .sh)) da ot (λ _=>⟨λ z=>(by cases z),λ _ z=>by cases z⟩) (λ mv=>.dT An (e2.mono mv).ows);rw[e1,Ih g1 g2] at h;exact h _ _ _ (tw.trans t3) E3
    ·rw[if_neg hc] at h;exact h.elim
theorem Ti (tk:Bool):DN X WX (.Dict [] [] pos) (λ _=>.ok (.Bu tk [] [])):=by
 cases tk with
 |false =>
  refine⟨_,ZM,λ P0 P σ H Q ρ E h p hp=>?_⟩;exact h _ [p] _ (AM hp _) (λ a ha=>by rw[z6.mp ha];exact hp) (by simp) (.dK (kvs:=[]) An .nil)
 |true =>
  refine⟨_,ZN,λ P0 P σ H Q ρ E h p hp=>?_⟩;exact h _ [p] _ (AM hp _) (λ a ha=>by rw[z6.mp ha];exact hp) (by simp) (.dT (kvs:=[]) An .nil)
end
section
variable {X:Cx}{WX:Str->Hp->Prop}{c:Bool}{e:Expr}{f:Ad->M D}{pos:Pos}
def mJ (K:zt):List V->Hp->VK->Prop:=λ xs H Q=>∃(a:Addr) (bs:List (Addr×List Int)) (b:Addr×List Int),xs=[.ref a]/\Dc K H a (bs.map λ b=>V.ref b.1)/\(∀b∈bs,EY K H b.1 (b.2.map V.int))/\Be bs=some b/\Q (.ref b.1) H
theorem Yg (hc:X.calm=true)(hu:X.A.units+1<cLine):Gu X (.builtin "min") (mJ X.K):=by
 intro pins s σ H xs us Q I r h;obtain⟨a,bs,b0,rfl,hl,hb,he,q⟩:=h;obtain⟨ua,rfl,ra⟩:=r.one;cases ra;obtain⟨aa,rv,pl,hz⟩:=I.list hl;have ei:=LB rv;subst ei;have tv:∀a:Addr,∃t:Array Value,∀b∈bs,b.1=a->IsTup s.heap a t/\IntsAre t.toList b.2:=λ a=>by
  by_cases bK:∃b∈bs,b.1=a
  ·obtain⟨b,bK,rfl⟩:=bK;obtain⟨ts,rt,pt,_⟩:=I.tuple (hb b bK);refine⟨ts.toArray,λ b' az e=>⟨pt,?_⟩⟩;have q2:=hb b' az;rw[e] at q2;have e2:=I.Fs q2 (hb b bK);rw[<-e2] at rt;simpa using intsAre_of rt
  ·exact⟨#[],λ b az e=>absurd ⟨b,az,e⟩ bK⟩
 have ac:bs≠[]:=λ z=>by subst z;cases he
 refine NV bs (λ b=>z3 (tv b)) a none (λ _=>ac) (I.ok.hd hc) hu pl.isList (λ b az=>(zu (tv b.1) b az rfl).1) (λ b az=>(zu (tv b.1) b az rfl).2) λ h' tk hk=>?_;rw[he];exact⟨.ref b0.1,H,I.kept (t':=tk) hk,rfl,q⟩
noncomputable def WO (ds:List D):M D:=match ds with
 |[.lst xs]=>(match Ha xs with|some ks=>(match Be ks with|some k=>.ok k.1|none=>.bad)|none=>.bad)
 |_=>.bad
theorem jF:Mb X.K WX (mJ X.K) WO:=by
 intro P H ds vs Q ht hl h;unfold WO at h;split at h
 ·rename_i xs;obtain⟨v,rfl,hv⟩:=hl.one;split at h
  ·rename_i ks e1;cases hv with
   |lst hs hh =>
    obtain⟨bs,rfl,h2,h3⟩:=Jn hh e1;split at h
    ·rename_i k e2;rcases NZ h3 with ⟨q1,q2⟩|⟨b,k',q1,q2,_,q3⟩
     ·rw[q2] at e2;cases e2
     ·rw[q2] at e2;cases e2;exact⟨_,bs,b,rfl,hs.B2,λ b hb=>(h2 b hb).B2,q1,h _ H (Ah.refl H) q3⟩
    ·exact h.elim
  ·exact h.elim
 ·exact h.elim
theorem jG {p:Pos}{n:Nat}(hc:X.calm=true)(hu:X.A.units+n<cLine)(hg:Gl X "min")(hm:X.mg "min" = none)(ha:DE X WX c e f)(hb:bootBuiltins "min" = some (.builtin "min"):=by decide +kernel)(hs:starEach [e] X.env=[(false,eval e X.env)]:=by rfl)(hn:1<=n:=by decide):DE X WX c (.Call (.Name "min" p) [e] [] pos) (λ ρ=>((f ρ).bind λ d=>(M.ok []).bind λ ds=>.ok (d::ds)).bind WO):=
 JY (Yg hc (by omega)) jF hg hm hb (A1 ha A6 hs) (he:=hs)
end
section
variable {X:Cx}{E:XK}{WX:Str->Hp->Prop}{c:Bool}{P0:DJ}{P:Addr->Prop}{H:Hp}{σ:St}{ρ:Ad}{a b e:Expr}{f g:Ad->M D}{fn:Ad->M OT}{fp:Ad->M (List Nat)}{pos:Pos}{i:Nat}
def jH:V->List V->Hp->VK->Prop:=λ x vs H Q=>∃(l:Addr) (ns:List Int) (k:Int),x=.ref l/\vs=[.int k]/\H l=some (.lst (ns.map V.int))/\k∈ns/\Q .AN (upd H l (.lst ((ns.erase k).map V.int)))
theorem QD {α β:Type}(f:α->β):∀(l:List α) (k:Nat),(l.eraseIdx k).map f=(l.map f).eraseIdx k
 |[],_|_::_,0=>rfl
 |x::r,k+1=>by rw[List.eraseIdx_cons_succ,zy,zy,List.eraseIdx_cons_succ,QD f r k]
noncomputable def Vt (k:Int):Value->Bool
 | .int i _=>i==k
 |_=>false
theorem Yh:wU X "list.remove" jH:=by
 intro pins s σ H x vs v us Q I rx rv h;obtain⟨l,ns,k,rfl,rfl,hH,hk,q⟩:=h;cases rx;obtain⟨u,rfl,ru⟩:=rv.one;obtain⟨tk,rfl⟩:=ru;obtain⟨z,aa,n,r,hl,e⟩:=I.XQ hH;have hlen:=r.length;have gc:ns.idxOf k<ns.length:=List.idxOf_lt_length_iff.mpr hk;have ge:∀m (hm:m<aa.toArray.size) (tz:m<ns.length),∃t,aa.toArray[m]=Value.int ns[m] t:=λ m hm tz=>by
  have hx:(ns.map V.int)[m]?=some (V.int ns[m]):=by rw[zaa,z4 tz];rfl
  obtain⟨w,hw,bh⟩:=r.get hx;obtain⟨t,rfl⟩:=bh;refine⟨t,?_⟩;have:aa[m]?=some aa[m]:=z4 (by simpa using hm);rw[hw] at this;simpa using (zad this).symm
 have hsz:aa.toArray.size=ns.length:=by rw[za0,<-hlen,zv]
 have hm:=MeetsSeq.list_remove l aa.toArray n (.int k tk) (Vt k) (λ y hy=>by
  obtain⟨m,hm,rfl⟩:=Array.mem_iff_getElem.mp hy;obtain⟨t,ht⟩:=ge m hm (by rw[<-hsz];exact hm);rw[ht];exact MeetsSeq.EqGives.int _ _ _ _) (ns.idxOf k) (by rw[hsz];exact gc) (by
  obtain⟨t,ht⟩:=ge (ns.idxOf k) (by rw[hsz];exact gc) gc;rw[ht];simp[Vt]) (λ m hm af=>by
  obtain⟨t,ht⟩:=ge m hm (by omega);rw[ht];have:=List.not_of_lt_findIdx (p:=(· == k)) (xs:=ns) (i:=m) af;simpa [Vt] using this) (by rw[za0];omega)
 refine call_meets F.slot_list_remove ⟨_,e,rfl⟩ F.entry_list_remove (F.args_list_remove_2 _ _) hm ⟨e,?_⟩;refine⟨.AN,_,I.gW (its':=aa.eraseIdx (ns.idxOf k)) hH e ?_ ?_ ?_,rfl,q⟩
 ·show aa.toArray.eraseIdxIfInBounds _=_;rw[List.eraseIdxIfInBounds_toArray]
 ·rw[show ns.erase k=ns.eraseIdx (ns.idxOf k) from List.erase_eq_eraseIdx_of_idxOf rfl,QD];exact r.eraseIdx _
 ·rw[zv];have:=List.length_erase_le (a:=k) (l:=ns);rw[zv] at z;omega
theorem Yi (ha:DP X WX a i fp)(he:DE X WX true e f){apos ad:Pos}(hs:starEach [e] X.env=[(false,eval e X.env)]:=by rfl)
 (bz:swapsWith (.Call (.Attribute a "remove" apos) [e] [] ad) none pos.line X.env=pure false:=by rfl)
 (aj:attributeBase a "remove" X.env (eval a X.env)=eval a X.env:=by rfl)
 (aK:((backTo ad (starEach [e] X.env)).all (λ x => !x.1)&&(backToKw ad (keywordEach [] X.env)).all (λ x=>x.1.isSome)&&decide (([e]:List Expr).length+([]:List Keyword).length+(if ([]:List Keyword).isEmpty then 0 else 1)<30))=true:=by rfl)
 (ak:(apos.endLine==ad.line)=true:=by rfl) (ao:(backTo ad (starEach [] X.env)).any (·.1)=false:=by rfl):
 DS X WX (.Expr (.Call (.Attribute a "remove" apos) [e] [] ad) pos) (λ ρ=>(fp ρ).bind λ π=>(Sx i ρ π).bind λ ds=>(f ρ).bind λ d=>match d,CF ds with
  | .int k,some ns=>if k∈ns then IJ i ρ π (.lst (((ns.erase k).map D.int).map .sh)) else .bad
  |_,_=>.bad):=by
 obtain⟨ta,a1,a2⟩:=ha;obtain⟨te,e1,e2⟩:=he;refine⟨_,JN (Ww zce PySem.F.slot_list_remove PySem.F.type_list_remove Yh a1 (BC e1 CP hs) aj aK ak hs ao) bz,λ P0 P σ H Z ρ E h=>?_⟩;dsimp only at h;refine a2 P0 P σ H _ ρ E ?_;refine iM h E λ π h=>?_;intro v t1 H1 s1 pl;have E1:=E.same s1;cases q1:Sx i ρ π with
 |bad=>rw[q1] at h;exact h.elim
 |ex x=>exact (Vr q1).elim
 |ok ds =>
  rw[q1] at h;simp only[M.Aa] at h;obtain⟨rfl,l,xs,rfl,hl,ol⟩:=pl.shl E1 q1;refine⟨.inl ⟨rfl,xs,.of hl⟩,e2 P0 P σ H1 _ ρ E1 ?_⟩;cases q2:f ρ with
  |bad=>rw[q2] at h;exact h
  |ex y=>rw[q2] at h;exact λ H' s=>h H' P ((E.tr s1).trans (E1.tr s))
  |ok d =>
   rw[q2] at h;simp only[M.Aa] at h;intro w H2 s2 hw;have E2:=E1.same s2;have da:=pl.same s2;cases d with
   |int k =>
    cases q3:CF ds with
    |none=>rw[q3] at h;exact h.elim
    |some ns =>
     rw[q3] at h;dsimp only at h;by_cases hk:k∈ns
     ·rw[if_pos hk] at h;have:=Ek q3;subst this;have d0:=ol.mono s2.del;have ex:=Df d0;subst ex;have am:=s2 _ _ hl;obtain⟨c,p,t0,g1,g2,E3,t3⟩:=E2.vE (ys:=(ns.erase k).map V.int) (es:=(ns.erase k).map D.int) da am d0 (Ai.ints _);rw[Ih g1 g2] at h;exact⟨l,ns,k,rfl,by rw[hw.int_inv],am,hk,h _ _ _ (((E.tr s1).trans (E1.tr s2)).trans t3) E3⟩
     ·rw[if_neg hk] at h;exact h.elim
   |_=>exact h.elim
end
section
variable {X:Cx}{WX:Str->Hp->Prop}{c:Bool}{P0:DJ}{P:Addr->Prop}{H:Hp}{σ:St}{ρ:Ad}{a b e:Expr}{f g:Ad->M D}{fn:Ad->M OT}{pos:Pos}{te:TE}
noncomputable def vF (ds:List D):M D:=match ds with
 |[.lst xs]=>(match CF xs with|some ns=>.ok (.int ns.sum)|none=>.bad)
 |_=>.bad
noncomputable def zC (te:TE):TE:=λ σ H Q=>te σ H λ x H1=>∃n:Nat,x=.int (n:Int)/\n<=1000/\∀r,H1 r=none->Q (.ref r) (upd H1 r (.lst ((zau n).map λ i:Nat=>V.int (i:Int))))
theorem Yj {acc:Array Value}{n:Nat}(h:ItemsOf (λ i v=>∃t,v=Value.int (0+(i:Int)*1) t) acc n):Vals ((zau n).map λ i:Nat=>V.int (i:Int)) acc.toList:=by
 obtain⟨h1,h2⟩:=h;have key:∀(l:List Value) (k:Nat),(∀i v,l[i]?=some v->∃t,v=Value.int ((k+i:Nat):Int) t)->Vals ((List.range' k l.length).map λ i:Nat=>V.int (i:Int)) l:=by
  intro l;induction l with
  |nil=>intro k _;exact .nil
  |cons v r ih =>
   intro k hk;rw[z5,List.range'_succ,zy];refine .cons (by obtain⟨t,e⟩:=hk 0 v rfl;exact⟨t,by simpa using e⟩) (ih (k+1) λ i w hw=>?_);obtain⟨t,e⟩:=hk (i+1) w (by simpa using hw);exact⟨t,by rw[e];congr 1;omega⟩
 have:=key acc.toList 0 (λ i v hv=>by
  obtain⟨t,e⟩:=h2 i v (by rw[<-Array.getElem?_toList];exact hv);exact⟨t,by rw[e];congr 1;omega⟩)
 rw[zd0,h1] at this;rw[List.range_eq_range'];exact this
theorem RM {p p2 a7:Pos}(hc:X.calm=true)(hg:Gl X "list")(hm:X.mg "list" = none)(c7:Gl X "range")(aQ:X.mg "range" = none)(he:PE X e te)
 (hv:bootBuiltins "list" = some (.type "list"):=by decide +kernel)
 (hs:starEach [.Call (.Name "range" p2) [e] [] a7] X.env=[(false,eval (.Call (.Name "range" p2) [e] [] a7) X.env)]:=by rfl) (a5:starEach [e] X.env=[(false,eval e X.env)]:=by rfl):
 PE X (.Call (.Name "list" p) [.Call (.Name "range" p2) [e] [] a7] [] pos) (zC te):=by
 intro pins s σ H Q I h;refine wpAny_Call_Name_kw (CO I hg hm hv ?_);refine zay ?_ hs;rw[hs];refine zbp ?_;refine wpAny_Call_Name_kw (CO I c7 aQ boot_range ?_);refine zay ?_ a5;rw[a5];refine zbp (Bd (he pins s σ H _ I h) λ u s1 zz=>?_);obtain⟨x,H1,I1,r1,q1⟩:=zz;obtain⟨n,rfl,hn,q⟩:=q1;obtain⟨t,rfl⟩:=r1;refine zbv ?_;refine call_range_1 ?_;refine zbv ?_;have h4:((n:Nat):Int)<2^62:=by omega
 refine call_list_range (n:=n) (I1.ok.hd hc) (IsRange.new ..) (small_one (by omega) (by omega) (by omega) h4) (by rw[rangeSize_one];split<;>omega) (by omega) λ h' tk pj c' hk aW db=>?_;have kp:∀b o,s1.heap.get? b=some o->h'.get? b=some o:=λ b o e=>hk b o (z7 _ e);have rv:=Yj db;have d4:∀o:Obj,s1.heap.objs.size<=(s1.heap.push o).objs.size:=λ o=>by simp[Heap.push]
 refine⟨.ref _,_,I1.laid (t':=tk) (o:=.lst ((zau n).map λ i:Nat=>V.int (i:Int))) kp (d4 _) ⟨?_,pj.toList,c',rv,by simpa using aW⟩,rfl,q _ (I1.As.fresh (d4 _))⟩;rw[zv,zc5];exact zbk (AH hn)
noncomputable def xA (d:D):M OT:=match d with
 | .int j=>@ite _ (0<=j/\j<=1000) (zcz _) (.ok (.lst ((Ce 0 j.toNat).map .sh))) .bad
 |_=>.bad
theorem RN {n:Nat}(h:n<=1000):xA (.int (n:Int))=.ok (.lst (((zau n).map λ i:Nat=>D.int (i:Int)).map .sh)):=by
 unfold xA;dsimp only;rw[if_pos ⟨by omega,by omega⟩,zba,O0]
theorem Kb {p p2 a7:Pos}(hc:X.calm=true)(hg:Gl X "list")(hm:X.mg "list" = none)(c7:Gl X "range")(aQ:X.mg "range" = none)(he:DE X WX true e f)
 (hv:bootBuiltins "list" = some (.type "list"):=by decide +kernel)
 (hs:starEach [.Call (.Name "range" p2) [e] [] a7] X.env=[(false,eval (.Call (.Name "range" p2) [e] [] a7) X.env)]:=by rfl) (a5:starEach [e] X.env=[(false,eval e X.env)]:=by rfl):
 DN X WX (.Call (.Name "list" p) [.Call (.Name "range" p2) [e] [] a7] [] pos) (λ ρ=>(f ρ).bind xA):=by
 obtain⟨te,e1,e2⟩:=he;refine⟨_,RM hc hg hm c7 aQ e1 hv hs a5,λ P0 P σ H Q ρ E h=>?_⟩;refine e2 P0 P σ H _ ρ E ?_;dsimp only at h;refine XZ h λ d h=>?_;intro v H1 s1 hv;cases d with
 |int j =>
  by_cases hj:0<=j/\j<=1000
  ·obtain⟨n,rfl⟩:∃n:Nat,j=n:=⟨j.toNat,by omega⟩;rw[RN (by omega)] at h;refine⟨n,hv.int_inv,by omega,λ r hr=>h.II s1 (xs:=(zau n).map λ i:Nat=>V.int (i:Int)) ?_ r hr⟩;have:∀l:List Nat,Ai X.K (del H1 P) (l.map λ i:Nat=>V.int (i:Int)) (l.map λ i:Nat=>D.int (i:Int)):=λ l=>by
    induction l with
    |nil=>exact .nil
    |cons x r ih=>exact .cons (.int _) ih
   exact this _
  ·have e:xA (.int j)=.bad:=if_neg hj;rw[e] at h;exact h.elim
 |_=>exact h.elim
noncomputable def cO (lo hi:Option Int)(d:D):M OT:=match d with
 | .lst ds=>.ok (.lst (((ds.drop (HT.NK ds.length 0 lo)).take (HT.NK ds.length ds.length hi-HT.NK ds.length 0 lo)).map .sh))
 |_=>.bad
theorem Kc {lo hi:Option Expr}{pk fh:Ad->M (Option Int)}{p2:Pos}(ha:DE X WX true e f)(hl:DO X WX true lo pk)(hh:DO X WX true hi fh):DN X WX (.Subscript e (.Slice lo hi none p2) pos) (λ ρ=>(f ρ).bind λ d=>(pk ρ).bind λ l=>(fh ρ).bind λ u=>cO l u d):=by
 obtain⟨ta,a1,a2⟩:=ha;obtain⟨tl,l1,l2⟩:=hl;obtain⟨th,h1,h2⟩:=hh;refine⟨_,ZF gU a1 l1 h1,λ P0 P σ H Q ρ E h=>?_⟩;dsimp only at h;refine a2 P0 P σ H _ ρ E ?_;cases q:f ρ with
 |bad|ex x=>rw[q] at h;exact h
 |ok d =>
  rw[q] at h;intro v H1 s1 hv;refine l2 P0 P σ H1 _ ρ (E.same s1) ?_;cases q2:pk ρ with
  |bad=>rw[q2] at h;exact h
  |ex y=>rw[q2] at h;exact λ H' s=>h H' (s1.trans s)
  |ok l =>
   rw[q2] at h;intro H2 s2;refine h2 P0 P σ H2 _ ρ ((E.same s1).same s2) ?_;cases q3:fh ρ with
   |bad=>rw[q3] at h;exact h
   |ex y=>rw[q3] at h;exact λ H' s=>h H' ((s1.trans s2).trans s)
   |ok u =>
    rw[q3] at h;simp only[M.Aa] at h;intro H3 s3;unfold cO at h;split at h
    ·cases hv with
     |lst hs hl =>
      refine⟨_,_,rfl,(s3.seq (s2.seq hs.B2)),λ p hp=>h.II ((s1.trans s2).trans s3) ?_ p hp⟩;unfold ZG;rw[hl.length];exact ((((hl.drop _).take _).mono s2.del).mono s3.del)
    ·exact h.elim
theorem cP:OpN X.K WX (mG X.K) Md:=by
 intro P H x y v w Q ht hx hy h;unfold Md at h;split at h
 ·rename_i ds es;by_cases hl:ds.length+es.length<=1000
  ·rw[if_pos hl] at h;cases hx with
   |lst h1 h2 =>
    cases hy with
    |lst h3 h4=>exact⟨_,_,_,_,rfl,rfl,h1.B2,h3.B2,zbk (AH (by rw[h2.length,h4.length];exact hl)),h.II (Ah.refl _) (h2.uT h4)⟩
  ·rw[if_neg hl] at h;exact h.elim
 ·exact h.elim
theorem N9 (ha:DE X WX true a f)(hb:DE X WX true b g):DN X WX (.BinOp a .Add b pos) (λ ρ=>(f ρ).bind λ x=>(g ρ).bind λ y=>Md x y):=by
 obtain⟨ta,a1,a2⟩:=ha;obtain⟨tb,b1,b2⟩:=hb;exact⟨_,Zp iP a1 b1,λ P0 P σ H Q ρ E h=>uY a2 b2 cP E h⟩
def GK (μ:List (Option Nat))(g:TG):Prop:=∀σ0 σ x H Q,(∀(j:Nat) v,(Fc μ σ0)[j]?=some (some v)->σ[j]?=some (some v))->g x σ H Q->g x σ H λ σ' H'=>Q σ' H'/\∀(j:Nat) v,(Fc μ σ0)[j]?=some (some v)->σ'[j]?=some (some v)
def vG (μ:List (Option Nat))(g:Z7):Prop:=∀σ0 σ x H Q,(∀(j:Nat) v,(Fc μ σ0)[j]?=some (some v)->σ[j]?=some (some v))->g x σ H Q->g x σ H λ σ' H'=>Q σ' H'/\∀(j:Nat) v,(Fc μ σ0)[j]?=some (some v)->σ'[j]?=some (some v)
theorem GK.keeps {μ:List (Option Nat)}{g:TG}(h:GK μ g):Lz μ g:=λ σ x H Q q=>h σ (Fc μ σ) x H Q (λ _ _ z=>z) q
theorem jI {μ:List (Option Nat)}{i:Nat}(h:μ[i]?=some none):GK μ (Qi i):=λ σ0 σ x H Q hk q=>by
 refine⟨q,λ j v hj=>?_⟩;have ac:i≠j:=λ z=>by
  subst z;unfold Fc at hj;rw[zaa,h] at hj;cases hj
 rw[zb9 ac];exact hk j v hj
theorem jJ {μ:List (Option Nat)}:vG μ oB:=λ σ0 σ x H Q hk q=>⟨q.1,q.2,hk⟩
theorem cQ {μ:List (Option Nat)}{t:TG}{u:Z7}(mono:∀v σ H Q Q',(∀σ' H',Q σ' H'->Q' σ' H')->t v σ H Q->t v σ H Q')(ht:GK μ t)(hu:vG μ u):vG μ (Zk t u):=λ σ0 σ x H Q hk q=>by
 obtain⟨v,r,rfl,q⟩:=q;exact⟨v,r,rfl,mono _ _ _ _ _ (λ σ' H' z=>hu σ0 σ' r H' Q z.2 z.1) (ht σ0 σ v H _ hk q)⟩
theorem qH {K:zt}{μ:List (Option Nat)}{n:Nat}{t:Z7}(h:vG μ t):GK μ (oC K n t):=λ σ0 σ x H Q hk q=>by
 obtain⟨a,xs,rfl,h1,h2,q⟩:=q;exact⟨a,xs,rfl,h1,h2,h σ0 σ xs H Q hk q⟩
variable {c9:List D->Ad->M Ad}{gt:D->Ad->M Ad}{es:List Expr}
def jK (X:Cx)(scope:Scope)(NB:List Str)(μ:List (Option Nat))(es:List Expr)(gt:List D->Ad->M Ad):Prop:=
 ∃g:Z7,(∀s H C ex,sA (blockOf X s H scope C NB ex) es g)/\vG μ g/\∀P0 P σ H Q ρ vs ds,Al X.K P0 P H σ ρ->Ai X.K (del H P) vs ds->gG X.K P0 P H Q (gt ds ρ)->g vs σ H Q
theorem Kd {scope:Scope}{NB:List Str}{μ:List (Option Nat)}:jK X scope NB μ [] (λ ds ρ=>match ds with | []=>.ok ρ | _=>.bad):=
 ⟨oB,λ s H C ex=>Wo,jJ,λ P0 P σ H Q ρ vs ds E hv h=>by
  cases hv with
  |nil=>exact⟨rfl,h σ E⟩
  |cons _ _=>exact h.elim⟩
theorem CJ {scope:Scope}{NB:List Str}{μ:List (Option Nat)}(i:Nat){x:Str}{px:Pos}(hN:NB.Nodup)(hi:NB[i]?=some x)(hx:(relabel scope X.env).names.lookup x=some .local)(hm:μ[i]?=some none)(hr:jK X scope NB μ es c9)
 (hs:∀s H C ex,(assignEach (.Name x px::es) (blockOf X s H scope C NB ex).env).map (·.2)=assign (.Name x px) (blockOf X s H scope C NB ex).env::(assignEach es (blockOf X s H scope C NB ex).env).map (·.2):=by intro _ _ _ _;rfl):
 jK X scope NB μ (.Name x px::es) (λ ds ρ=>match ds with|d::r=>c9 r (ρ.set i (some (.val d)))|[]=>.bad):=by
 obtain⟨gr,r1,r2,r3⟩:=hr;refine⟨Zk (Qi i) gr,λ s H C ex=>SH (Rh (X:=blockOf X s H scope C NB ex) hN hi (.inl hx) (.inr hx)) (r1 s H C ex) (hs s H C ex),cQ (λ v σ H Q Q' hq h=>hq _ _ h) (jI hm) r2,λ P0 P σ H Q ρ vs ds E hv h=>?_⟩;cases hv with
 |nil=>exact h.elim
 |cons h1 h2=>exact⟨_,_,rfl,r3 P0 P _ H Q _ _ _ (E.Vf h1) h2 h⟩
theorem Na {scope:Scope}{NB:List Str}{μ:List (Option Nat)}{k n:Nat}{pt:Pos}(hc:X.calm=true)(h:jK X scope NB μ es c9)
 (hn:∀s H C ex,(assignEach es (blockOf X s H scope C NB ex).env).length=n:=by intro _ _ _ _;rfl) (aD:∀s H C ex,(assignEach es (blockOf X s H scope C NB ex).env).findIdx? (·.1)=none:=by intro _ _ _ _;rfl):
 sF X scope NB μ (.Tuple es k pt) (λ d ρ=>match d with | .tup ds=>if ds.length=n then c9 ds ρ else .bad|_=>.bad):=by
 obtain⟨t,a1,a2,a3⟩:=h;refine⟨oC X.K n t,λ s H C ex=>Zl (X:=blockOf X s H scope C NB ex) hc (a1 s H C ex) (hn s H C ex) (aD s H C ex),(qH a2).keeps,λ P0 P σ H Q ρ v d E hv h=>?_⟩;cases hv with
 | @tup a xs ds hs hl =>
  dsimp only at h;by_cases hd:ds.length=n
  ·rw[if_pos hd] at h;exact⟨a,xs,rfl,EY.of (Am hs).2,by rw[hl.length];exact hd,a3 P0 P σ H Q ρ xs ds E hl h⟩
  ·rw[if_neg hd] at h;exact h.elim
 |_=>exact h.elim
end
section
variable {X:Cx}{E:XK}{WX:Str->Hp->Prop}{c:Bool}{P0:DJ}{P:Addr->Prop}{H:Hp}{σ:St}{ρ:Ad}{a b e:Expr}{f g:Ad->M D}{fn:Ad->M OT}{fx:Ad->M (Ad×OT)}{fp:Ad->M (List Nat)}{pos:Pos}{i:Nat}{te:TE}
theorem jL:Mb X.K WX (λ xs H Q=>∃i j,xs=[.int i,.int j]/\Q (.int (if j<i then j else i)) H) (λ ds=>match ds with | [.int i,.int j]=>.ok (.int (if j<i then j else i)) | _=>.bad):=by
 intro P H ds vs Q ht hl h;dsimp only at h;split at h
 ·obtain⟨v,w,rfl,h1,h2⟩:=hl.two;exact⟨_,_,by rw[h1.int_inv,h2.int_inv],h _ H (Ah.refl H) (.int _)⟩
 ·exact h.elim
theorem jM {p:Pos}(hc:X.calm=true)(hg:Gl X "min")(hm:X.mg "min" = none)(ha:DE X WX c a f)(v8:DE X WX c b g)(hb:bootBuiltins "min" = some (.builtin "min"):=by decide +kernel)(hs:starEach [a,b] X.env=(false,eval a X.env)::starEach [b] X.env:=by rfl)(a5:starEach [b] X.env=[(false,eval b X.env)]:=by rfl)
 (hpl:(backTo pos (starEach [b] X.env)).any (·.1)=false:=by rfl):
 DE X WX c (.Call (.Name "min" p) [a,b] [] pos) (λ ρ=>((f ρ).bind λ d=>((g ρ).bind λ d2=>(M.ok []).bind λ ds=>.ok (d2::ds)).bind λ ds=>.ok (d::ds)).bind (λ ds=>match ds with|[.int i,.int j]=>.ok (.int (if j<i then j else i))|_=>.bad)):=
 JY (XH hc) jL hg hm hb (A1 ha (A1 v8 A6 a5) hs) (he:=hs) (hpl:=hpl)
end
def WP (m:M Out)(nx:Ad->Prop)(rt:Out->Prop)(ex:Str->Prop):Prop:=match m with
 | .ok (.next ρ)=>nx ρ
 | .ok o=>rt o
 | .ex x=>ex x
 | .bad=>False
section
variable {nx:Ad->Prop}{rt:Out->Prop}{ex:Str->Prop}{m:M Out}{k:Ad->M Out}{ρ ρ':Ad}
theorem Bf (h:m=.ok (.next ρ'))(hn:nx ρ'):WP m nx rt ex:=by rw[h];exact hn
theorem WP.mono {t5:Ad->Prop}{t6:Out->Prop}{mn:Str->Prop}(h:WP m nx rt ex)(h1:∀ρ,nx ρ->t5 ρ)(h2:∀o,rt o->t6 o)(h3:∀x,ex x->mn x):WP m t5 t6 mn:=by
 cases m with
 |bad=>exact h
 |ex x=>exact h3 x h
 |ok o =>
  cases o with
  |next ρ=>exact h1 ρ h
  |ret d|brk d|cont d|CM d|Fw d ρ=>exact h2 _ h
theorem wp_seq (h:WP m (λ ρ=>WP (k ρ) nx rt ex) rt ex):WP (bP m k) nx rt ex:=by
 cases m with
 |bad|ex x=>exact h
 |ok o =>
  cases o with
  |next ρ|ret d|brk d|cont d|CM d|Fw d ρ=>exact h
theorem wp_step (h:m=.ok (.next ρ'))(hk:WP (k ρ') nx rt ex):WP (bP m k) nx rt ex:=by rw[h];exact hk
theorem BO {I:Ad->Prop}(h:WP m I rt ex)(hk:∀ρ,I ρ->WP (k ρ) nx rt ex):WP (bP m k) nx rt ex:=wp_seq (h.mono hk (λ _ h=>h) λ _ h=>h)
def inLoop (I:Ad->Prop)(nx:Ad->Prop)(rt:Out->Prop)(o:Out):Prop:=match o with
 | .cont ρ=>I ρ
 | .brk ρ=>nx ρ
 |o=>rt o
theorem BP {gt:D->Ad->M Ad}{gb:Ad->M Out}{ds:List D}(I:Nat->Ad->Prop)(h0:I 0 ρ)
 (step:∀i d ρ,ds[i]?=some d->I i ρ->∃ρ1,gt d ρ=.ok ρ1/\WP (gb ρ1) (I (i+1)) (inLoop (I (i+1)) nx rt) ex) (done:∀ρ,I ds.length ρ->nx ρ):WP (forM gt gb ds ρ) nx rt ex:=by
 have key:∀(n i:Nat) (ρ:Ad),i+n=ds.length->I i ρ->WP (forM gt gb (ds.drop i) ρ) nx rt ex:=by
  intro n;induction n with
  |zero =>
   intro i ρ hi h;have e:i=ds.length:=by omega
   subst e;rw[zcf,forM];exact done ρ h
  |succ n ih =>
   intro i ρ hi h;have af:i<ds.length:=by omega
   obtain⟨ρ1,h1,h2⟩:=step i ds[i] ρ (z4 af) h;rw[H9 af,forM,h1];dsimp only;cases q:gb ρ1 with
   |bad|ex x=>rw[q] at h2;exact h2
   |ok o =>
    rw[q] at h2;cases o with
    |next ρ2=>exact ih (i+1) ρ2 (by omega) h2
    |ret d|CM d|Fw d ρ2=>exact h2
    |cont ρ2=>exact ih (i+1) ρ2 (by omega) h2
    |brk ρ2=>exact h2
 have:=key ds.length 0 ρ (by omega) h0;rw[zcu] at this;exact this
theorem Ke {α:Type}{c:Ad->M Bool}{b:Ad->M Out}{lt:α->α->Prop}(J:α->Ad->Prop){x:α}(hx:Acc lt x)(h0:J x ρ)
 (step:∀x ρ,J x ρ->(c ρ=.ok false/\nx ρ)\/(c ρ=.ok true/\WP (b ρ) (λ ρ2=>∃y,lt y x/\J y ρ2) (inLoop (λ ρ2=>∃y,lt y x/\J y ρ2) nx rt) ex)):WP (Mc c b ρ) nx rt ex:=by
 have key:∀x,Acc lt x->∀ρ,J x ρ->∃n,Ay c b n ρ≠.bad/\WP (Ay c b n ρ) nx rt ex:=by
  intro x hx;induction hx with
  |intro x _ ih =>
   intro ρ h;rcases step x ρ h with ⟨h1,h2⟩|⟨h1,h2⟩
   ·refine⟨1,?_,?_⟩
    ·rw[Ay,h1];intro z;cases z
    ·rw[Ay,h1];exact h2
   ·cases q:b ρ with
    |bad=>rw[q] at h2;exact h2.elim
    |ex y =>
     rw[q] at h2;refine⟨1,?_,?_⟩
     ·rw[Ay,h1];dsimp only;rw[q];intro z;cases z
     ·rw[Ay,h1];dsimp only;rw[q];exact h2
    |ok o =>
     rw[q] at h2;have go:∀ρ2,(∃y,lt y x/\J y ρ2)->(∀n,Ay c b (n+1) ρ=Ay c b n ρ2)->∃n,Ay c b n ρ≠.bad/\WP (Ay c b n ρ) nx rt ex:=by
      rintro ρ2 ⟨y,hy,hJ⟩ e;obtain⟨n,h3,h4⟩:=ih y hy ρ2 hJ;exact⟨n+1,by rw[e];exact h3,by rw[e];exact h4⟩
     cases o with
     |next ρ2|cont ρ2=>exact go ρ2 h2 λ n=>by rw[Ay,h1];dsimp only;rw[q]
     |brk ρ2 =>
      refine⟨1,?_,?_⟩
      ·rw[Ay,h1];dsimp only;rw[q];intro z;cases z
      ·rw[Ay,h1];dsimp only;rw[q];exact h2
     |ret d =>
      refine⟨1,?_,?_⟩
      ·rw[Ay,h1];dsimp only;rw[q];intro z;cases z
      ·rw[Ay,h1];dsimp only;rw[q];exact h2
     |CM d =>
      refine⟨1,?_,?_⟩
      ·rw[Ay,h1];dsimp only;rw[q];intro z;cases z
      ·rw[Ay,h1];dsimp only;rw[q];exact h2
     |Fw d ρ2 =>
      refine⟨1,?_,?_⟩
      ·rw[Ay,h1];dsimp only;rw[q];intro z;cases z
      ·rw[Ay,h1];dsimp only;rw[q];exact h2
 obtain⟨n,h1,h2⟩:=key x hx ρ h0;unfold Mc;have hx:∃n,Ay c b n ρ≠.bad:=⟨n,h1⟩;rw[dif_pos hx];have e:Ay c b (z3 hx) ρ=Ay c b n ρ:=by
  have a:=CG (zu hx) n;have b':=CG h1 (z3 hx);rw[Nat.add_comm] at b';rw[<-a,<-b']
 rw[e];exact h2
def rtT (Q:OT->Prop)(o:Out):Prop:=match o with
 | .ret d=>Q (.sh d)
 | .CM c=>∃t,uZ c=.ok t/\Q t
 |_=>False
theorem IT {Q:OT->Prop}(h:WP m (λ _=>Q (.sh .AN)) (rtT Q) (λ _=>False)):∃t,Yc m=.ok t/\Q t:=by
 cases m with
 |bad|ex x=>exact h.elim
 |ok o =>
  cases o with
  |next ρ|ret d=>exact⟨_,rfl,h⟩
  |CM c=>exact h
  |Fw c ρ|brk ρ|cont ρ=>exact h.elim
theorem B5 {t:OT}(h:WP m (λ _=>OT.sh .AN=t) (rtT (·=t)) (λ _=>False)):Yc m=.ok t:=by
 obtain⟨u,h1,h2⟩:=IT (Q:=(·=t)) h;rw[h1,h2]
def rtD (Q:D->Prop)(o:Out):Prop:=match o with
 | .ret d=>Q d
 | .CM c=>∃t,yY c=.ok t/\Q t
 |_=>False
theorem vH {Q:D->Prop}(h:WP m (λ _=>Q .AN) (rtD Q) (λ _=>False)):∃t,fin m=.ok t/\Q t:=by
 cases m with
 |bad|ex x=>exact h.elim
 |ok o =>
  cases o with
  |next ρ|ret d=>exact⟨_,rfl,h⟩
  |CM c=>exact h
  |Fw c ρ|brk ρ|cont ρ=>exact h.elim
theorem vI {d:D}(h:WP m (λ _=>D.AN=d) (rtD (·=d)) (λ _=>False)):fin m=.ok d:=by
 obtain⟨u,h1,h2⟩:=vH (Q:=(·=d)) h;rw[h1,h2]
end
section
variable {d:D}{ds es:List D}{ρ ρ':Ad}{o:Option Cl}{i n:Nat}{p:Option Nat}{t u:OT}{π:List Nat}{b:Bool}{ks vs:List D}{ts:List OT}{m:M D}
theorem vJ:rv 0 (some (.val d)::ρ)=.ok d:=rfl
theorem vK:rv (i+1) (o::ρ)=rv i ρ:=rfl
noncomputable def Tj (f:Ad->Ad)(m:M Out):M Out:=match m with
 | .ok (.next ρ)=>.ok (.next (f ρ))
 |m=>m
theorem Kf {f:Ad->Ad}:Tj f (.ok (.next ρ))=.ok (.next (f ρ)):=rfl
theorem Kg:Te 0 (some (.own ds)::ρ)=.ok []:=rfl
theorem Kh:Te 0 (some (.ow (.MI n ds))::ρ)=.ok []:=rfl
theorem Ii:Te 0 (some (.ow (.tree p t))::ρ)=.ok []:=by unfold Te WN;simp[treeOf]
theorem WQ:Te (i+1) (o::ρ)=Te i ρ:=rfl
theorem WR:WN 0 (some (.own ds)::ρ) π=LI (.lst (ds.map .sh)) π:=rfl
theorem WS:WN 0 (some (.ow (.MI n ds))::ρ) π=LI (.lst (ds.map .sh)) π:=rfl
theorem Oe:WN 0 (some (.ow (.tree p t))::ρ) π=LI t π:=rfl
theorem Nb:Sx 0 (some (.own ds)::ρ) []=.ok ds:=by unfold Sx;simp[WR,CI]
theorem Nc:Sx 0 (some (.ow (.MI n ds))::ρ) []=.ok ds:=by unfold Sx;simp[WS,CI]
theorem Ki:Sx 0 (some (.ow (.tree p (.lst (ds.map .sh))))::ρ) []=.ok ds:=by unfold Sx;simp[Oe,CI]
theorem jN:Sx (i+1) (o::ρ) π=Sx i ρ π:=rfl
theorem Ij:FC 0 (some (.own ds)::ρ) []=.ok (ds.map .sh):=by unfold FC;simp[WR]
theorem Ik:FC 0 (some (.ow (.MI n ds))::ρ) []=.ok (ds.map .sh):=by unfold FC;simp[WS]
theorem G8:FC 0 (some (.ow (.tree p (.lst ts)))::ρ) []=.ok ts:=by unfold FC;simp[Oe]
theorem RO:FC (i+1) (o::ρ) π=FC i ρ π:=rfl
theorem Dh:Gy 0 (some (.ow (.tree p (.Bu b ks (vs.map .sh))))::ρ) []=.ok (b,ks,vs):=by unfold Gy;simp[Oe,CI]
theorem RP:Gy (i+1) (o::ρ) π=Gy i ρ π:=rfl
theorem Kj:IJ 0 (some (.own ds)::ρ) [] u=.ok (.next (some (toCl none u)::ρ)):=by unfold IJ;simp[treeOf]
theorem Kk:IJ 0 (some (.ow (.MI n ds))::ρ) [] u=.ok (.next (some (toCl (some n) u)::ρ)):=by unfold IJ;simp[treeOf]
theorem Il:IJ 0 (some (.ow (.tree p t))::ρ) π u=.ok (.next (some (toCl p (Eu t π u))::ρ)):=by unfold IJ;simp[treeOf]
theorem WT:IJ (i+1) (o::ρ) π u=Tj (o::·) (IJ i ρ π u):=by
 unfold IJ Tj;simp only[zak,za1];split
 ·rename_i c e;split<;>simp_all
 ·simp_all
theorem Kl:Y4 0 (some (.own ds)::ρ) (.ok d)=if ds.length<1000 then .ok (.next (some (.own (ds++[d]))::ρ)) else .bad:=rfl
theorem WU:Y4 (i+1) (o::ρ) m=Tj (o::·) (Y4 i ρ m):=by
 unfold Y4;rw[zak];cases q:ρ[i]? with
 |none=>rfl
 |some oo =>
  cases oo with
  |none=>rfl
  |some c =>
   cases c with
   |own ds =>
    cases m with
    |ok d =>
     simp only[M.Aa,za1];by_cases h:ds.length<1000
     ·rw[if_pos h,if_pos h];rfl
     ·rw[if_neg h,if_neg h];rfl
    |ex x|bad=>rfl
   |val d|ow w=>rfl
theorem Km {j:Int}:iU 0 (some (.own ds)::ρ) (.ok (.int j)) (.ok d)=if 0<=j/\j.toNat<=ds.length/\ds.length<1000 then .ok (.next (some (.own (ds.take j.toNat++d::ds.drop j.toNat))::ρ)) else .bad:=rfl
theorem WV {m2:M D}:iU (i+1) (o::ρ) m m2=Tj (o::·) (iU i ρ m m2):=by
 unfold iU;rw[zak];cases q:ρ[i]? with
 |none=>rfl
 |some oo =>
  cases oo with
  |none=>rfl
  |some c =>
   cases c with
   |own ds =>
    cases m with
    |ok d =>
     cases m2 with
     |ok d2 =>
      simp only[M.Aa,za1];cases d with
      |int j =>
       dsimp only;by_cases h:0<=j/\j.toNat<=ds.length/\ds.length<1000
       ·rw[if_pos h,if_pos h];rfl
       ·rw[if_neg h,if_neg h];rfl
      |_=>rfl
     |ex x|bad=>rfl
    |ex x|bad=>rfl
   |val d|ow w=>rfl
theorem Kn:Vp 0 (some (.val d)::ρ)=.ok (.ret d):=rfl
theorem Ko:Vp 0 (some (.own ds)::ρ)=.ok (.CM (.own ds)):=rfl
theorem Nd {w:Ow}:Vp 0 (some (.ow w)::ρ)=.ok (.CM (.ow w)):=rfl
theorem WW:Vp (i+1) (o::ρ)=Vp i ρ:=rfl
theorem aag:zA i ρ π=match WN i ρ π with | some (.sh d)=>.ok d | _=>.bad:=rfl
theorem jO:cG (i+1) (o::ρ)=o::cG i ρ:=by
 unfold cG;simp only[zak,za1];split<;>simp_all
theorem jP {c:Cl}:cG 0 (some c::ρ)=some (MJ c)::ρ:=rfl
theorem Kq:MJ (.val d)=.val d:=rfl
theorem Kr:MJ (.own ds)=.val (.lst ds):=rfl
theorem Ks:MJ (.ow (.MI n ds))=.val (.lst ds):=rfl
theorem Nf:MJ (.ow (.tree p t))=.val (er t):=rfl
theorem Ju:er (.Bu b ks (vs.map .sh))=.Bu b ks vs:=by rw[er,Oa]
theorem LK:er (.lst (ds.map .sh))=.lst ds:=by rw[er,Oa]
theorem QE:er (.sh d)=d:=rfl
theorem xB {l:List (Option Nat)}:B8 (none::l) ρ=none::B8 l ρ:=rfl
theorem xC:B8 [] ρ=[]:=rfl
theorem jQ {l:List (Option Nat)}:B8 (some i::l) ρ=(match ρ[i]? with | some (some (.val d))=>some (.val d) | _=>none)::B8 l ρ:=rfl
theorem jR {α:Type}{x y:α}:(if ([]:List D).length<=1000 then x else y)=x:=if_pos (by show 0<=1000;decide)
theorem jS {α:Type}{x y:α}{a:D}:(if [a].length<=1000 then x else y)=x:=if_pos (by show 1<=1000;decide)
theorem jT {α:Type}{x y:α}{a b:D}:(if [a,b].length<=1000 then x else y)=x:=if_pos (by show 2<=1000;decide)
theorem jU {α:Type}{x y:α}{a b c:D}:(if [a,b,c].length<=1000 then x else y)=x:=if_pos (by show 3<=1000;decide)
theorem jV {α:Type}{x y:α}{a b c d:D}:(if [a,b,c,d].length<=1000 then x else y)=x:=if_pos (by show 4<=1000;decide)
theorem toCl_nil:toCl none (.lst [])=.own []:=rfl
theorem BA {α:Type}{gt:D->Ad->M Ad}{ft:Ad->M Bool}{fe:Ad->M D}{g:α->D}(p:α->Bool)(f:α->D):∀ {l:List α},(∀x∈l,∃ρ1,gt (g x) ρ=.ok ρ1/\ft ρ1=.ok (p x)/\(p x=true->fe ρ1=.ok (f x)))->B4 gt ft fe (l.map g) ρ=.ok ((l.filter p).map f)
 |[],_=>rfl
 |x::r,h=>by
  obtain⟨ρ1,h1,h2,h3⟩:=h x zw;have ih:=BA (gt:=gt) (ft:=ft) (fe:=fe) (g:=g) p f (l:=r) λ y hy=>h y (zx _ hy);rw[zy,B4,h1];dsimp only;rw[h2];dsimp only;rw[List.filter_cons];cases hp:p x with
  |true =>
   rw[if_pos rfl,h3 hp];dsimp only;rw[ih];simp
  |false=>simp[ih]
theorem BQ {α:Type}{gt:D->Ad->M Ad}{ft:Ad->M Bool}{fe:Ad->M D}{g:α->D}(f:α->D){l:List α}(h:∀x∈l,∃ρ1,gt (g x) ρ=.ok ρ1/\ft ρ1=.ok true/\fe ρ1=.ok (f x)):B4 gt ft fe (l.map g) ρ=.ok (l.map f):=by
 have:=BA (gt:=gt) (ft:=ft) (fe:=fe) (ρ:=ρ) (g:=g) (λ _=>true) f (l:=l) λ x hx=>by
  obtain⟨ρ1,h1,h2,h3⟩:=h x hx;exact⟨ρ1,h1,h2,λ _=>h3⟩
 rw[this,List.filter_eq_self.mpr (λ _ _=>rfl)]
theorem Bi {α:Type}{g:α->D}{l:List α}{i:Nat}{d:D}(h:(l.map g)[i]?=some d):∃x,l[i]?=some x/\d=g x:=by
 rw[zaa] at h;cases q:l[i]? with
 |none=>rw[q] at h;cases h
 |some x=>rw[q] at h;cases h;exact⟨x,rfl,rfl⟩
theorem RQ:jD (.lst (ds.map .sh))=.ok ds:=by unfold jD;simp[CI,jC]
theorem Im {α:Type}{x:α}:jC (some x)=.ok x:=rfl
theorem Ng:RJ i ρ (.sh d)=.ok (.next (ρ.set i (some (.val d)))):=rfl
theorem Kt:RJ i ρ (.lst ts)=.ok (.next (ρ.set i (some (toCl none (.lst ts))))):=rfl
theorem Ku:RJ i ρ (.tup ts)=.ok (.next (ρ.set i (some (.ow (.tree none (.tup ts)))))):=rfl
theorem Kv:RJ i ρ (.Bu b ks ts)=.ok (.next (ρ.set i (some (.ow (.tree none (.Bu b ks ts)))))):=rfl
theorem Kw {x:Str}{ns:List Str}:RJ i ρ (.ins x ns ts)=.ok (.next (ρ.set i (some (.ow (.tree none (.ins x ns ts)))))):=rfl
theorem Nh:Yd (.sh d)=.ok (.ret d):=rfl
theorem Kx:Yd (.lst ts)=.ok (.CM (.ow (.tree none (.lst ts)))):=rfl
theorem Ky:Yd (.tup ts)=.ok (.CM (.ow (.tree none (.tup ts)))):=rfl
theorem Kz:Yd (.Bu b ks ts)=.ok (.CM (.ow (.tree none (.Bu b ks ts)))):=rfl
theorem Tn {α:Type}{f:α->D}(h:∀x,LH (f x)=true):∀l:List α,K4 (l.map f)=true
 |[]=>by simp[K4]
 |x::r=>by rw[zy,K4,h x,Tn h r];rfl
theorem To:∀ds:List D,Gw (ds.map .sh)=K4 ds
 |[]=>by simp[K4,Gw]
 |d::r=>by rw[zy,Gw,Hd,To r,K4]
theorem qI (h:LH d=true):UK (.ok (.sh d))=.ok (.sh d):=by unfold UK;simp[Hd,h]
theorem jW (h:K4 ds=true):UK (.ok (.lst (ds.map .sh)))=.ok (.lst (ds.map .sh)):=by unfold UK;simp[Hd,To,h]
theorem jX {i:Int}:LH (.int i)=true:=by simp[LH]
theorem Tp:Eb (.lst ds)=.ok (!ds.isEmpty):=rfl
theorem qJ {a s m:Int}(h0:0<=a)(h1:a<m)(s0:1<=s)(s1:s<m):(a+s)%m≠a:=by
 by_cases h:a+s<m
 ·rw[Int.emod_eq_of_lt (by omega) h];omega
 ·have e:(a+s)%m=(a+s-m)%m:=by rw[Int.sub_emod_right]
  rw[e,Int.emod_eq_of_lt (by omega) (by omega)];omega
theorem Ni {k:Nat}(i j:Int):fP k (.int i) (.int j)=.ok (.bl (decide (i=j))):=by
 rw[RF (Cg _) (Cg _)];simp only[Bm,Bool.beq_eq_decide_eq]
theorem Nj {k:Nat}(i j:Int):Y1 k (.int i) (.int j)=.ok (.bl (!decide (i=j))):=by
 rw[RG (Cg _) (Cg _)];simp only[Bm,Bool.beq_eq_decide_eq]
theorem KA {i j:Int}:pO (.int i) (.int j)=.ok (.int (i+j)):=rfl
theorem KC {i j:Int}:uM (.int i) (.int j)=.ok (.int (i-j)):=rfl
theorem Nk {i j:Int}:zX (.int i) (.int j)=.ok (.bl (decide (i<j))):=rfl
theorem Nl {i j:Int}:dLe (.int i) (.int j)=.ok (.bl (decide (i<=j))):=rfl
theorem Nm {i j:Int}:zY (.int i) (.int j)=.ok (.bl (decide (j<i))):=rfl
theorem Nn {i j:Int}:dGe (.int i) (.int j)=.ok (.bl (decide (j<=i))):=rfl
theorem Np {i:Int}:zZ (.int i)=.ok (some i):=rfl
theorem KD:Vd [.lst ds]=.ok (.int ds.length):=rfl
theorem KG:Vd [.tup ds]=.ok (.int ds.length):=rfl
theorem ite_tt {α:Type}{x y:α}:(if true=true then x else y)=x:=rfl
theorem ite_ff {α:Type}{x y:α}:(if false=true then x else y)=y:=rfl
theorem Vu {lo hi:Option Int}{x:D}(h:mE lo hi x=.ok (.lst ds)):cO lo hi x=.ok (.lst (ds.map .sh)):=by
 unfold mE at h;unfold cO;cases x with
 |lst xs=>dsimp only at h ⊢;injection h with h;injection h with h;rw[h]
 |_=>cases h
theorem cR (xs:List D)(k:Nat):cO none (some (k:Int)) (.lst xs)=.ok (.lst ((xs.take k).map .sh)):=Vu (bV xs k)
theorem Tq (xs:List D)(k:Nat):cO (some (k:Int)) none (.lst xs)=.ok (.lst ((xs.drop k).map .sh)):=Vu (bY xs k)
theorem jY (xs:List D)(a b:Nat):cO (some (a:Int)) (some (b:Int)) (.lst xs)=.ok (.lst (((xs.drop a).take (b-a)).map .sh)):=Vu (iQ xs a b)
theorem KH:II (.lst ds)=.ok (.lst (ds.map .sh)):=rfl
theorem KI:II (.tup ds)=.ok (.lst (ds.map .sh)):=rfl
theorem Io {ns:List Int}:vF [.lst (ns.map D.int)]=.ok (.int ns.sum):=by unfold vF;dsimp only;rw[Ej]
theorem Ip {T:String}:IQ T (.lst ds)=.ok (.bl (EX T (.lst ds))):=rfl
theorem Iq {T:String}:IQ T (.tup ds)=.ok (.bl (EX T (.tup ds))):=rfl
theorem Ir {T:String}{k:Int}:IQ T (.int k)=.ok (.bl (EX T (.int k))):=rfl
theorem Iv {T:String}:IQ T .AN=.ok (.bl (EX T .AN)):=rfl
theorem KJ {T:String}{k:Bool}:IQ T (.bl k)=.ok (.bl (EX T (.bl k))):=rfl
theorem Iw {T:String}{k:Str}:IQ T (.str k)=.ok (.bl (EX T (.str k))):=rfl
theorem Iy {T:String}:IQ T (.Bu b ks vs)=.ok (.bl (EX T (.Bu b ks vs))):=rfl
theorem WY:EX "list" (.lst ds)=true:=rfl
theorem WZ:EX "tuple" (.tup ds)=true:=rfl
theorem X0 {k:Int}:EX "int" (.int k)=true:=rfl
theorem X1 {k:Int}:EX "bool" (.int k)=false:=rfl
theorem X2:EX "dict" (.Bu b ks vs)=true:=rfl
theorem Iz {neg:Bool}{k:Int}{ns:List Int}:Js neg (.int k) (.lst (ns.map D.int))=.ok (.bl (if neg then !ns.contains k else ns.contains k)):=by
 unfold Js wX;dsimp only;rw[Ej]
noncomputable def vO (s:Option D):Option Cl:=s.map .val
theorem Nq {s:Option D}:FA (vO s::ρ)=vO s::FA ρ:=by cases s<;>rfl
end
noncomputable def Vv (x:Int):List Int->List Int
 |[]=>[x]
 |y::r=>if x<=y then x::y::r else y::Vv x r
noncomputable def Hj:List Int->List Int
 |[]=>[]
 |x::r=>Vv x (Hj r)
theorem LL (x:Int):∀l:List Int,(Vv x l).Perm (x::l)
 |[]=>.refl _
 |y::r=>by
  unfold Vv;split
  ·exact .refl _
  ·exact ((LL x r).cons y).trans (.swap x y r)
theorem EB:∀l:List Int,(Hj l).Perm l
 |[]=>.refl _
 |x::r=>(LL x (Hj r)).trans ((EB r).cons x)
theorem Me (x:Int):∀l:List Int,l.Pairwise (·<=·)->(Vv x l).Pairwise (·<=·)
 |[],_=>by simp[Vv]
 |y::r,h=>by
  unfold Vv;have hy:=List.pairwise_cons.mp h;split
  ·rename_i ce;exact List.pairwise_cons.mpr ⟨λ z hz=>by
    rcases z8.mp hz with rfl|hz
    ·exact ce
    ·exact Int.le_trans ce (hy.1 z hz),h⟩
  ·rename_i ce;exact List.pairwise_cons.mpr ⟨λ z hz=>by
    rcases z8.mp ((LL x r).mem_iff.mp hz) with rfl|hz
    ·omega
    ·exact hy.1 z hz,Me x r hy.2⟩
theorem G9:∀l:List Int,(Hj l).Pairwise (·<=·)
 |[]=>.nil
 |x::r=>Me x _ (G9 r)
theorem Hk:∀ {a b:List Int},a.Perm b->a.Pairwise (·<=·)->b.Pairwise (·<=·)->a=b
 |[],b,hp,_,_=>(List.nil_perm.mp hp).symm
 |x::r,[],hp,_,_=>by have:=hp.length_eq;simp at this
 |x::r,y::t,hp,ha,hb=>by
  have b6:=List.pairwise_cons.mp ha;have az:=List.pairwise_cons.mp hb;have e:x=y:=by
   have h1:x∈y::t:=hp.mem_iff.mp (zw ..);have h2:y∈x::r:=hp.mem_iff.mpr (zw ..);rcases z8.mp h1 with e|h1
   ·exact e
   rcases z8.mp h2 with e|h2
   ·exact e.symm
   have:=b6.1 _ h2;have:=az.1 _ h1;omega
  subst e;rw[Hk (List.Perm.cons_inv hp) b6.2 az.2]
theorem KL:∀ {us:List Value}{ns:List Int},IntsAre us ns->Vals (ns.map V.int) us
 |_,_,.nil=>.nil
 |_,_,.cons n t h=>.cons ⟨t,rfl⟩ (KL h)
theorem Of {K:zt}{H:Hp}:∀l:List Int,Ai K H (l.map V.int) (l.map D.int)
 |[]=>.nil
 |x::r=>.cons (.int _) (Of r)
section
variable {X:Cx}{WX:Str->Hp->Prop}{c:Bool}{P0:DJ}{P:Addr->Prop}{H:Hp}{σ:St}{ρ:Ad}{a b e:Expr}{f g:Ad->M D}{fn:Ad->M OT}{pos:Pos}{te:TE}
noncomputable def zD (X:Cx)(te:TE):TE:=λ σ H Q=>te σ H λ x H1=>∃p ns,x=.ref p/\Dc X.K H1 p (List.map V.int ns)/\ns.length<64/\∀r,H1 r=none->Q (.ref r) (upd H1 r (.lst ((Hj ns).map V.int)))
theorem Yk {p:Pos}(hc:X.calm=true)(hg:Gl X "sorted")(hm:X.mg "sorted" = none)(he:PE X e te)
 (hv:bootBuiltins "sorted" = some (.builtin "sorted"):=by decide +kernel)
 (hs:starEach [e] X.env=[(false,eval e X.env)]:=by rfl):
 PE X (.Call (.Name "sorted" p) [e] [] pos) (zD X te):=by
 intro pins s σ H Q I h;refine wpAny_Call_Name_kw (CO I hg hm hv ?_);refine PyProof.Rows.callWith_builtin1 ?_ hs;rw[hs];refine zbp (Bd (he pins s σ H _ I h) λ u s1 zz=>?_);obtain⟨x,H1,I1,r1,q1⟩:=zz;obtain⟨q,ns,rfl,hq,v9,h⟩:=q1;cases r1;refine zbv ?_;obtain⟨aa,r',pl,hz⟩:=I1.list hq;have hi:=intsAre_of r';have b7:=r'.length;rw[zv] at b7;refine sorted_ints pl.isList hi (by omega) λ out cz b1 b2 b3=>?_;obtain⟨c',aW⟩:=sortedAll_at s1.heap aa out;have e:cz=Hj ns:=Hk (b2.trans (EB ns).symm) b3 (G9 ns);subst e;refine⟨.ref _,_,I1.laid (t':=s1.toks) (o:=.lst ((Hj ns).map V.int)) (λ b o e=>sortedAll_old e) (Nat.le_succ _) ⟨?_,out.toList,c',KL b1,by simpa using aW⟩,rfl,h _ (I1.As.fresh (Nat.le_succ _))⟩;rw[zv,(EB ns).length_eq];exact zbk (AH (by omega))
noncomputable def jZ (d:D):M OT:=match d with
 | .lst xs=>(match CF xs with|some ns=>if ns.length<64 then .ok (.lst (((Hj ns).map .int).map .sh)) else .bad|none=>.bad)
 |_=>.bad
theorem Yl {ns:List Int}(h:ns.length<64):jZ (.lst (ns.map .int))=.ok (.lst (((Hj ns).map .int).map .sh)):=by
 unfold jZ;dsimp only;rw[Ej];dsimp only;rw[if_pos h]
theorem Ym {p:Pos}(hc:X.calm=true)(hg:Gl X "sorted")(hm:X.mg "sorted" = none)(he:DE X WX true e f)
 (hv:bootBuiltins "sorted" = some (.builtin "sorted"):=by decide +kernel)
 (hs:starEach [e] X.env=[(false,eval e X.env)]:=by rfl):
 DN X WX (.Call (.Name "sorted" p) [e] [] pos) (λ ρ=>(f ρ).bind jZ):=by
 obtain⟨te,e1,e2⟩:=he;refine⟨_,Yk hc hg hm e1 hv hs,λ P0 P σ H Q ρ E h=>?_⟩;refine e2 P0 P σ H _ ρ E ?_;dsimp only at h;refine XZ h λ d h=>?_;intro v H1 s1 hv;unfold jZ at h;split at h
 ·rename_i xs;split at h
  ·rename_i ns eb;have:=Ek eb;subst this;split at h
   ·rename_i hl;cases hv with
    |lst hs hh =>
     have:=Df hh;subst this;exact⟨_,ns,rfl,hs.B2,hl,h.II s1 (Of _)⟩
   ·exact h.elim
  ·exact h.elim
 ·exact h.elim
noncomputable def kA (d k:D):M OT:=match k with
 | .int j=>if 0<=j/\j.toNat<=1000 then .ok (.lst ((za7 j.toNat d).map .sh)) else .bad
 |_=>.bad
theorem Og {d:D}{n:Nat}(h:n<=1000):kA d (.int (n:Int))=.ok (.lst ((za7 n d).map .sh)):=by
 unfold kA;dsimp only;rw[if_pos ⟨by omega,by omega⟩,zba]
theorem Vw {pq:Pos}(ha:DE X WX true a f)(hb:DE X WX true b g)(aD:starEach [a] X.env=[(false,eval a X.env)]:=by rfl):
 DN X WX (.BinOp (.List [a] pq) .Mult b pos) (λ ρ=>(f ρ).bind λ d=>(g ρ).bind λ k=>kA d k):=by
 obtain⟨ta,a1,a2⟩:=ha;obtain⟨tb,b1,b2⟩:=hb;refine⟨_,Zp pE (V0 (BC a1 CP aD)) b1,λ P0 P σ H Q ρ E h=>?_⟩;dsimp only at h;refine a2 P0 P σ H _ ρ E ?_;refine XZ h λ d h=>?_;intro v H1 s1 hv;have E1:=E.same s1;refine⟨zbk (AH (by simp)),λ p hp=>?_⟩;have s2:Ah H1 (upd H1 p (.lst [v])):=AM hp _;have E2:=E1.same s2;refine b2 P0 P σ _ _ ρ E2 ?_;cases q2:g ρ with
 |bad=>rw[q2] at h;exact h
 |ex x=>rw[q2] at h;exact λ H' s3=>h H' ((s1.trans s2).trans s3)
 |ok k =>
  rw[q2] at h;simp only[M.Aa] at h;unfold kA at h;intro w H3 s3 hw;cases k with
  |int j =>
   dsimp only at h;by_cases hj:0<=j/\j.toNat<=1000
   ·rw[if_pos hj] at h;cases hw;refine⟨p,j,[v],rfl,rfl,s3 _ _ An,by omega,by omega,zbk (AH (by simp;omega)),?_⟩;rw[Qy];exact h.II ((s1.trans s2).trans s3) (Tc ((hv.mono s2.del).mono s3.del) j.toNat)
   ·rw[if_neg hj] at h;exact h.elim
  |_=>exact h.elim
end
noncomputable def kB (f:Str):List Str->List D->Option D
 |n::ns,d::ds=>if f==n then some d else kB f ns ds
 |_,_=>none
theorem Ts {K:zt}{H:Hp}{f:Str}:∀ {fs:List (Str×V)}{ds:List D}{d:D},Ai K H (fs.map zbd) ds->kB f (fs.map zan) ds=some d->∃v,fs.lookup f=some v/\BD K H v d
 |[],ds,d,_,h=>by simp[kB] at h
 |(n,v)::fs,_,d,.cons hv ht,h=>by
  rw[zy,kB] at h;rw[zbs];cases q:f==n with
  |true=>rw[q,if_pos rfl] at h;cases h;exact⟨v,rfl,hv⟩
  |false=>rw[q,if_neg (by simp)] at h;exact Ts ht h
theorem Oh {K:zt}{H:Hp}{f:Str}:∀ {fs:List (Str×V)}{ds:List D},Ai K H (fs.map zbd) ds->kB f (fs.map zan) ds=none->fs.lookup f=none
 |[],ds,_,h=>rfl
 |(n,v)::fs,_,.cons hv ht,h=>by
  rw[zy,kB] at h;rw[zbs];cases q:f==n with
  |true=>rw[q,if_pos rfl] at h;cases h
  |false=>rw[q,if_neg (by simp)] at h;exact Oh ht h
structure IU (K:zt)(x f:Str):Prop where
 ex:∃C,zap K mainGlobals x=some (some (.ref C))/\XM K C/\Jg K C f
noncomputable def ML (cs:List Str)(f:Str)(d:D):M D:=match d with
 | .ins x ns ds=>if x∈cs then (match kB f ns ds with|some e=>.ok e|none=>.bad) else .bad
 |_=>.bad
section
variable {X:Cx}{E:XK}{WX:Str->Hp->Prop}{c:Bool}{P0:DJ}{P:Addr->Prop}{H:Hp}{σ:St}{ρ:Ad}{a b e:Expr}{es:List Expr}{f g:Ad->M D}{fs:Ad->M (List D)}{fn:Ad->M OT}{pos:Pos}{te:TE}
theorem Di (cs:List Str){fl:Str}(d5:∀x∈cs,IU X.K x fl)(ha:DE X WX c a f)(hb:attributeBase a fl X.env (eval a X.env)=eval a X.env:=by rfl):DE X WX c (.Attribute a fl pos) (λ ρ=>(f ρ).bind (ML cs fl)):=by
 obtain⟨ta,a1,a2⟩:=ha;refine⟨_,oR a1 hb,λ P0 P σ H Q ρ E h=>?_⟩;dsimp only at h;refine a2 P0 P σ H _ ρ E ?_;cases e:f ρ with
 |bad|ex x=>rw[e] at h;exact h
 |ok d =>
  rw[e] at h;simp only[M.Aa] at h;intro v H1 s1 hv;unfold ML at h;split at h
  ·rename_i x ns ds;split at h
   ·rename_i hx;split at h
    ·rename_i d' el;cases hv with
     |ins hn ha hl =>
      obtain⟨C,bc,hc,cn⟩:=(d5 x hx).ex;rw[hn] at bc;cases bc;obtain⟨v',l1,l2⟩:=Ts hl el;exact⟨_,_,_,_,v',rfl,(Am ha).2,hc,cn,l1,h v' H1 s1 l2⟩
    ·exact h.elim
   ·exact h.elim
  ·exact h.elim
structure Oi (K:zt)(x m qual:Str)(st:Stmt)(ps:List Str):Prop where
 ex:∃C f fd,zap K mainGlobals x=some (some (.ref C))/\XM K C/\Meth K C m f/\Z9 K m qual st f fd/\Binds K fd ps []
structure Hl (P:Program)(w:World)(K:zt)(mg:Str->Option Value)(base:Heap)(x m:Str)(k n:Nat)(F:List D->M OT):Prop where
 ex:∃C fa fd ps,zap K mainGlobals x=some (some (.ref C))/\XM K C/\Meth K C m fa/\E7 P w K mg base (Za P w base) k fa fd ps (spT K n F)/\Binds K fd ps []
theorem KN {P:Program}{w:World}{K:zt}{mg:Str->Option Value}{base:Heap}{x m qual:Str}{st:Stmt}{N ps:List Str}{k n:Nat}(T:Oi K x m qual st ps)(S:Ae N ps (A5 st))(g:Ad->M Out)
 (hb:∀(f:Addr) (B1:Value) (A:Around) (outer:List Env) (s:Shared) (H:Hp) (E:XK),BL k (A.deeper (envOfC qual (A5 st) s.heap.objs.size f B1))->UJ (mF P w K mg base N qual (A5 st) f B1 A outer s H E) (Ff K E) (AQ st) g) (hn:ps.length=n:=by rfl):
 Hl P w K mg base x m (k+1) n (λ ds=>Yc (g (Dx N ds))):=by
 obtain⟨C,f,fd,h1,h2,h3,F,hB⟩:=T.ex;subst hn;exact⟨⟨C,f,fd,ps,h1,h2,h3,vA F S g (hb f),hB⟩⟩
noncomputable def xD (x:Str):List (Str×(List D->M OT))->Option (List D->M OT)
 |[]=>none
 |(y,F)::r=>if x=y then some F else xD x r
theorem X3 {x:Str}{F:List D->M OT}:∀ {ms:List (Str×(List D->M OT))},xD x ms=some F->(x,F)∈ms
 |[],h=>by cases h
 |(y,G)::r,h=>by
  unfold xD at h;split at h
  ·rename_i e;cases h;subst e;exact zw
  ·exact zx _ (X3 h)
noncomputable def FD (ms:List (Str×(List D->M OT)))(m:Str)(d:D):M (List D->M OT):=match d with
 | .ins x ns es=>(match xD x ms with
  |some F=>(match kB m ns es with|none=>.ok F|some _=>.bad)
  |none=>.bad)
 |_=>.bad
theorem Tt {ms:List (Str×(List D->M OT))}{m:Str}{d:D}{F:List D->M OT}(h:FD ms m d=.ok F):∃x ns es,d=.ins x ns es/\(x,F)∈ms/\kB m ns es=none:=by
 unfold FD at h;split at h
 ·rename_i x ns es;split at h
  ·rename_i G e;split at h
   ·rename_i e2;cases h;exact⟨x,ns,es,rfl,X3 e,e2⟩
   ·cases h
  ·cases h
 ·cases h
theorem QF {ms:List (Str×(List D->M OT))}{m:Str}{d:D}{x:Str}:FD ms m d≠.ex x:=λ h=>by
 unfold FD at h;split at h
 ·split at h
  ·split at h<;>cases h
  ·cases h
 ·cases h
noncomputable def cS (X:Cx)(m:Str)(k:Nat)(E:XK)(ta:TE)(t:TA):TE:=λ σ H Q=>ta σ H λ x H1=>∃a C dx fs f fd ps n F,x=.ref a/\H1 a=some (.ins C dx fs)/\fs.lookup m=none/\XM X.K C/\Meth X.K C m f/\E7 X.prog X.w X.K X.mg X.base (Za X.prog X.w X.base) k f fd ps (spT X.K n F)/\Binds X.K fd ps []/\
 t σ H1 λ vs H2=>spT X.K n F (x::vs) H2 Q E
theorem cT {pl:Sem Bool}{o:Expr}{m:Str}{k:Nat}{ta:TE}{t:TA}{apos:Pos}(he:PE X o ta)(hr:BL k X.A)(hx:Jh (Za X.prog X.w X.base) X E)(ha:PA X (e::es) t)
 (aD:starEach (e::es) X.env=(false,eval e X.env)::starEach es X.env:=by rfl) (hpl:(backTo pos (starEach es X.env)).any (·.1)=false:=by rfl)
 (ht:eval (.Call (.Attribute o m apos) (e::es) [] pos) X.env=(do
  let ov <-eval o X.env
  standAt apos.atName
  let (f,first) <-holding [ov] (getMethod ov m pl)
  callWith pos f first (backTo pos (starEach (e::es) X.env)) (backToKw pos (keywordEach [] X.env))):=by rfl):
 PE X (.Call (.Attribute o m apos) (e::es) [] pos) (cS X m k E ta t):=by
 intro pins s σ H Q I h;refine PySem.W.methodCall_KW (pl:=pl) (Bd (he pins s σ H _ I h) λ u s1 zz=>?_) ht;obtain⟨x,H1,I1,rx,a,C,dx,fs,f,fd,ps,n,F,ex,ea,l,c,hm,hF,hb,q⟩:=zz;subst ex;obtain rfl:u=zb6 a:=rx;refine NG I1 ea c hm l ?_;refine PySem.W.callWith_K (first:=[.ref a]) (h₀:=X.base) I.ok.mod.XE hm.kp (Bd (ha pos pins s1 σ H1 _ I1 q) λ us s2 ⟨vs,H2,I2,r,q2⟩=>⟨I2.Pw,?_⟩) aD hpl;exact V2 (us:=.ref a::us) (vs:=.ref a::vs) hF hr hb .nil hx I2 (.cons rfl r) (by rw[zb0];exact q2)
theorem Yn {pl:Sem Bool}{o:Expr}{m:Str}{k:Nat}{ta:TE}{apos:Pos}(he:PE X o ta)(hr:BL k X.A)(hx:Jh (Za X.prog X.w X.base) X E)
 (ht:eval (.Call (.Attribute o m apos) [] [] pos) X.env=(do
  let ov <-eval o X.env
  standAt apos.atName
  let (f,first) <-holding [ov] (getMethod ov m pl)
  callWith pos f first (backTo pos (starEach [] X.env)) (backToKw pos (keywordEach [] X.env))):=by rfl):
 PE X (.Call (.Attribute o m apos) [] [] pos) (cS X m k E ta oT):=by
 intro pins s σ H Q I h;refine PySem.W.methodCall_KW (pl:=pl) (Bd (he pins s σ H _ I h) λ u s1 zz=>?_) ht;obtain⟨x,H1,I1,rx,a,C,dx,fs,f,fd,ps,n,F,ex,ea,l,c,hm,hF,hb,q⟩:=zz;subst ex;obtain rfl:u=zb6 a:=rx;refine NG I1 ea c hm l ?_;exact PySem.W.callWith_K0 (first:=[.ref a]) I1.Pw hm.kp (V2 (us:=[.ref a]) (vs:=[.ref a]) hF hr hb .nil hx I1 (.cons rfl .nil) q)
theorem X4 {P:Program}{w:World}{K:zt}{mg:Str->Option Value}{base:Heap}{CX:Wq}{k k':Nat}{f:Addr}{fd:FuncData}{ps:List Str}{sp:Sp}(h:k<=k')(F:E7 P w K mg base CX k f fd ps sp):E7 P w K mg base CX k' f fd ps sp:=
 ⟨F.len,λ A stack s H args us vs Q E hr=>F.run A stack s H args us vs Q E (hr.mono h)⟩
theorem IA {o:Expr}{fo:Ad->M D}{m:Str}{k n:Nat}{apos:Pos}{pl:Sem Bool}(ms:List (Str×(List D->M OT)))(xo:IR X E)(pw:∀p∈ms,∃k',k'<=k/\Hl X.prog X.w X.K X.mg X.base p.1 m k' n p.2)(hr:BL k X.A)(ho:DE X (Ff X.K E) true o fo)(ha:DA X (Ff X.K E) true (e::es) fs)(a4:(e::es).length+1=n)
 (aD:starEach (e::es) X.env=(false,eval e X.env)::starEach es X.env:=by rfl) (hpl:(backTo pos (starEach es X.env)).any (·.1)=false:=by rfl)
 (ht:eval (.Call (.Attribute o m apos) (e::es) [] pos) X.env=(do
  let ov <-eval o X.env
  standAt apos.atName
  let (f,first) <-holding [ov] (getMethod ov m pl)
  callWith pos f first (backTo pos (starEach (e::es) X.env)) (backToKw pos (keywordEach [] X.env))):=by rfl):
 DN X (Ff X.K E) (.Call (.Attribute o m apos) (e::es) [] pos) (λ ρ=>(fo ρ).bind λ d=>(FD ms m d).bind λ F=>(fs ρ).bind λ ds=>F (d::ds)):=by
 obtain⟨ta,a1,a2⟩:=ho;obtain⟨tb,b1,b2,b3⟩:=ha;refine⟨_,cT (pl:=pl) a1 hr xo.call b1 aD hpl ht,λ P0 P σ H Q ρ Ev h=>?_⟩;dsimp only at h;refine a2 P0 P σ H _ ρ Ev ?_;refine XZ h λ d h=>?_;intro v H1 s1 hv;cases q2:FD ms m d with
 |bad=>rw[q2] at h;exact h.elim
 |ex y=>exact (QF q2).elim
 |ok F =>
  rw[q2] at h;simp only[M.Aa] at h;obtain⟨x,ns,wa,rfl,aI,pz⟩:=Tt q2;obtain⟨k',i8,M0⟩:=pw _ aI;obtain⟨C,fa,fd,ps,h1,h2,h3,h4,h5⟩:=M0.ex;cases hv with
  |ins hn hH hl =>
   rw[hn] at h1;cases h1;refine⟨_,_,_,_,fa,fd,ps,n,F,rfl,(Am hH).2,Oh hl pz,h2,h3,X4 i8 h4,h5,?_⟩;refine b2 P0 P σ H1 _ ρ (Ev.same s1) ?_;cases q3:fs ρ with
   |bad=>rw[q3] at h;exact h
   |ex y=>rw[q3] at h;exact λ H' s=>h H' (s1.trans s)
   |ok ds =>
    rw[q3] at h;simp only[M.Aa] at h;intro vs H2 s2 aB;have jh:=(BD.ins hn hH hl).mono s2.del;exact⟨by rw[z5,aB.length,b3 ρ ds q3];exact a4,P,_,((Ev.same s1).same s2).Cn,.cons jh aB,h.same (s1.trans s2)⟩
theorem FE {o:Expr}{fo:Ad->M D}{m:Str}{k:Nat}{apos:Pos}{pl:Sem Bool}(ms:List (Str×(List D->M OT)))(xo:IR X E)(pw:∀p∈ms,∃k',k'<=k/\Hl X.prog X.w X.K X.mg X.base p.1 m k' 1 p.2)(hr:BL k X.A)(ho:DE X (Ff X.K E) true o fo)
 (ht:eval (.Call (.Attribute o m apos) [] [] pos) X.env=(do
  let ov <-eval o X.env
  standAt apos.atName
  let (f,first) <-holding [ov] (getMethod ov m pl)
  callWith pos f first (backTo pos (starEach [] X.env)) (backToKw pos (keywordEach [] X.env))):=by rfl):
 DN X (Ff X.K E) (.Call (.Attribute o m apos) [] [] pos) (λ ρ=>(fo ρ).bind λ d=>(FD ms m d).bind λ F=>F [d]):=by
 obtain⟨ta,a1,a2⟩:=ho;refine⟨_,Yn (pl:=pl) a1 hr xo.call ht,λ P0 P σ H Q ρ Ev h=>?_⟩;dsimp only at h;refine a2 P0 P σ H _ ρ Ev ?_;refine XZ h λ d h=>?_;intro v H1 s1 hv;cases q2:FD ms m d with
 |bad=>rw[q2] at h;exact h.elim
 |ex y=>exact (QF q2).elim
 |ok F =>
  rw[q2] at h;simp only[M.Aa] at h;obtain⟨x,ns,wa,rfl,aI,pz⟩:=Tt q2;obtain⟨k',i8,M0⟩:=pw _ aI;obtain⟨C,fa,fd,ps,h1,h2,h3,h4,h5⟩:=M0.ex;cases hv with
  |ins hn hH hl =>
   rw[hn] at h1;cases h1;refine⟨_,_,_,_,fa,fd,ps,1,F,rfl,(Am hH).2,Oh hl pz,h2,h3,X4 i8 h4,h5,?_⟩;exact⟨rfl,P,_,(Ev.same s1).Cn,.cons (BD.ins hn hH hl) .nil,h.same s1⟩
end
section
variable {X:Cx}{E:XK}{WX:Str->Hp->Prop}{c:Bool}{P0:DJ}{P:Addr->Prop}{H:Hp}{σ:St}{ρ:Ad}{a b e:Expr}{es:List Expr}{f g:Ad->M D}{fs:Ad->M (List D)}{fn:Ad->M OT}{pos:Pos}{te:TE}
structure vL (K:zt)(mg:Str->Option Value)(x:Str)(C:Addr):Prop where
 ns:zap K mainGlobals x=some (some (.ref C))
 mg':mg x=some (.ref C)
theorem Yo {p dx C:Addr}(hp:H p=none)(hd:H dx=none):Ah H (upd (upd H dx (.own p)) p (.ins C dx [])):=λ b u q=>by
 rw[Ag (AJ q hp),Ag (AJ q hd)];exact q
noncomputable def cU (m:M (OT×OT)):M OT:=match m with
 | .ok (t,.sh .AN)=>.ok t
 |_=>.bad
end
noncomputable def QG (i:Nat)(ρ:Ad)(π:List Nat):M (Str×List Str×List D):=match WN i ρ π with
 |some (.ins x ns ts)=>(match Ey ts with|some vs=>.ok (x,ns,vs)|none=>.bad)
 |_=>.bad
theorem cV {i:Nat}{ρ:Ad}{π:List Nat}{x:Str}(h:QG i ρ π=.ex x):False:=by
 unfold QG at h;split at h
 ·split at h<;>cases h
 ·cases h
noncomputable def cW (f:Str):List Str->List Str
 |[]=>[f]
 |g::r=>if g=f then g::r else g::cW f r
noncomputable def cX (f:Str)(d:D):List Str->List D->List D
 |[],_=>[d]
 |g::r,e::t=>if g=f then d::t else e::cX f d r t
 |_::_,[]=>[]
theorem Tu (f:Str)(v:V):∀fs:List (Str×V),(Er f v fs).map zan=cW f (fs.map zan)
 |[]=>rfl
 |(g,x)::r=>by
  rw[zy,cW,Er];split
  ·rfl
  ·rw[zy,Tu f v r]
theorem Tv {K:zt}{H:Hp}{f:Str}{v:V}{d:D}(hv:BD K H v d):∀ {fs:List (Str×V)}{ds:List D},Ai K H (fs.map zbd) ds->Ai K H ((Er f v fs).map zbd) (cX f d (fs.map zan) ds)
 |[],_,.nil=>.cons hv .nil
 |(g,x)::r,_,.cons hx ht=>by
  rw[zy,cX,Er];split
  ·exact .cons hv ht
  ·exact .cons hx (Tv hv ht)
section
variable {X:Cx}{E:XK}{WX:Str->Hp->Prop}{c:Bool}{P0:DJ}{P:Addr->Prop}{H:Hp}{σ:St}{ρ:Ad}{a b e:Expr}{f g:Ad->M D}{fn:Ad->M OT}{fp:Ad->M (List Nat)}{pos:Pos}{i:Nat}{es:List Expr}{fs:Ad->M (List D)}
theorem Bj.ins {K:zt}{π:List Nat}{v:V}{t1:OT}{x:Str}{ns:List Str}{vs:List D}(pl:Bj K P H σ ρ i π v t1)(E:Al K P0 P H σ ρ)(h:QG i ρ π=.ok (x,ns,vs)):
 t1=.ins x ns (vs.map .sh)/\∃l C dx fs,v=.ref l/\Ai K (del H P) (fs.map zbd) vs/\BX K H P (.ref l) (.ins x ns (vs.map .sh)) [l]/\zap K mainGlobals x=some (some (.ref C))/\H l=some (.ins C dx fs)/\ns=fs.map zan:=by
 unfold QG at h;rw[pl.at] at h;split at h
 ·rename_i x' cz ph e;split at h
  ·rename_i a9 e';cases e;cases h;have z:=Dg e';subst z;obtain⟨au,o1,hp,nd⟩:=pl.own E;generalize ht:OT.ins x ns (vs.map .sh)=t at o1;cases o1 with
   |ins hn hh hr =>
    injection ht with h1 h2 h3
    subst h1 h2 h3;obtain⟨rfl,hs⟩:=hr.qA;exact⟨rfl,_,_,_,_,rfl,hs,.ins hn hh hr,hn,hh,rfl⟩
   |_=>cases ht
  ·cases h
 ·cases h
theorem Nr (cs:List Str){fl:Str}(d5:∀x∈cs,IU X.K x fl)(ha:DP X WX a i fp)(hv:DE X WX true e f){pos':Pos}(hs:swapsWith e (some (.Attribute a fl pos')) pos.line X.env=pure false:=by rfl):
 DS X WX (.Assign [.Attribute a fl pos'] e pos) (λ ρ=>(f ρ).bind λ v=>(fp ρ).bind λ π=>(QG i ρ π).bind λ z=>if z.1∈cs/\z.2.1.length<1000 then IJ i ρ π (.ins z.1 (cW fl z.2.1) ((cX fl v z.2.1 z.2.2).map .sh)) else .bad):=by
 obtain⟨ta,a1,a2⟩:=ha;obtain⟨tv,v1,v2⟩:=hv;refine⟨_,oS a1 v1 hs,λ P0 P σ H Z ρ E h=>?_⟩;dsimp only at h;refine v2 P0 P σ H _ ρ E ?_;refine iM h E λ d h=>?_;intro w H0 s0 hw;have E0:=E.same s0;refine a2 P0 P σ H0 _ ρ E0 ?_;cases q:fp ρ with
 |bad=>rw[q] at h;exact h
 |ex x=>rw[q] at h;exact λ H' s=>h H' P ((E.tr s0).trans (E0.tr s))
 |ok π =>
  rw[q] at h;simp only[M.Aa] at h;intro v t1 H1 s1 pl;have E1:=E0.same s1;have wb:=(E.tr s0).trans (E0.tr s1);cases q3:QG i ρ π with
  |bad=>rw[q3] at h;exact h.elim
  |ex x=>exact (cV q3).elim
  |ok z =>
   obtain⟨x,ns,vs⟩:=z;rw[q3] at h;simp only[M.Aa] at h;by_cases hc:x∈cs/\ns.length<1000
   ·rw[if_pos hc] at h;obtain⟨rfl,l,C,dx,fs,rfl,cm,ot,hn,hH,rfl⟩:=pl.ins E1 q3;obtain⟨C',bc,iw,cn⟩:=(d5 x hc.1).ex;rw[hn] at bc;cases bc;have wc:=hw.mono s1.del;obtain⟨c,p,t0,g1,g2,E3,t3⟩:=E1.qG (o':=.ins C dx (Er fl w fs)) (u:=.ins x (cW fl (fs.map zan)) ((cX fl d (fs.map zan) vs).map .sh)) pl ot (λ _=>⟨λ z=>(by cases z),λ _ z=>by cases z⟩) (λ mv=>by
     have:=BX.ins (K:=X.K) (H:=upd H1 l (.ins C dx (Er fl w fs))) (P:=P) (p:=l) (fs:=Er fl w fs) (x:=x) hn An (((Tv wc cm).mono mv).ows);rw[Tu] at this;exact this)
    rw[Ih g1 g2] at h;exact⟨l,C,dx,fs,rfl,hH,iw,cn,by have:=hc.2;rw[zv] at this;exact this,h _ _ _ (wb.trans t3) E3⟩
   ·rw[if_neg hc] at h;exact h.elim
end
section
variable {X:Cx}{E:XK}{WX:Str->Hp->Prop}{c:Bool}{P0:DJ}{P:Addr->Prop}{H:Hp}{σ:St}{ρ:Ad}{a b e:Expr}{f g:Ad->M D}{fn:Ad->M OT}{fp:Ad->M (List Nat)}{pos:Pos}{i:Nat}{es:List Expr}{fs:Ad->M (List D)}
noncomputable def cY (i:Nat)(ρ:Ad)(π:List Nat)(ds:List D):M (Ad×OT):=match ds[ds.length-1]? with
 |some d=>(match ρ[i]? with
  |some (some c)=>(match treeOf c with|some (p,t)=>.ok (ρ.set i (some (toCl p (Eu t π (.lst (ds.dropLast.map .sh))))),.sh d)|none=>.bad)
  |_=>.bad)
 |none=>.bad
theorem X5 {π:List Nat}{ds:List D}{d:D}{c:Cl}{p:Option Nat}{t:OT}(h:ρ[i]?=some (some c))(ht:treeOf c=some (p,t))(hd:ds[ds.length-1]?=some d):cY i ρ π ds=.ok (ρ.set i (some (toCl p (Eu t π (.lst (ds.dropLast.map .sh))))),.sh d):=by
 unfold cY;simp only[h,ht,hd]
theorem PR {K:zt}{H:Hp}{vs:List V}{ds:List D}(h:Ai K H vs ds):Ai K H vs.dropLast ds.dropLast:=by
 rw[List.dropLast_eq_take,List.dropLast_eq_take,h.length];exact QB _ h
theorem qK (ha:DP X WX a i fp){apos ad:Pos}(aj:attributeBase a "pop" X.env (eval a X.env)=eval a X.env:=by rfl)(ak:(apos.endLine==ad.line)=true:=by rfl):
 DX X WX (.Call (.Attribute a "pop" apos) [] [] ad) (λ ρ=>(fp ρ).bind λ π=>(Sx i ρ π).bind λ ds=>cY i ρ π ds):=by
 obtain⟨ta,a1,a2⟩:=ha;refine⟨_,pB zce PySem.F.slot_list_pop PySem.F.type_list_pop pC a1 aj ak,λ P0 P σ H Q ρ E h=>?_⟩;dsimp only at h;refine a2 P0 P σ H _ ρ E ?_;cases q:fp ρ with
 |bad=>rw[q] at h;exact h
 |ex x=>rw[q] at h;exact λ H' s=>h H' P (E.tr s)
 |ok π =>
  rw[q] at h;simp only[M.Aa] at h;intro v t1 H1 s1 pl;have E1:=E.same s1;cases q1:Sx i ρ π with
  |bad=>rw[q1] at h;exact h.elim
  |ex x=>exact (Vr q1).elim
  |ok ds =>
   rw[q1] at h;simp only[M.Aa] at h;obtain⟨rfl,l,xs,rfl,hl,ol⟩:=pl.shl E1 q1;refine⟨.inl ⟨rfl,xs,.of hl⟩,?_⟩;cases hd:ds[ds.length-1]? with
   |none=>unfold cY at h;rw[hd] at h;exact h.elim
   |some d =>
    obtain⟨y,hy,ly⟩:=ol.get hd;obtain⟨c,p,t0,g1,g2,E3,t3⟩:=E1.qB pl hl ol.ows (us:=ds.dropLast.map .sh) (ys:=xs.dropLast) (PR ol).ows (by simp) (by simp) (by simp);rw[X5 g1 g2 hd] at h;refine⟨l,xs,y,rfl,rfl,hl,by rw[ol.length];exact hy,?_⟩;have sd:Ah (del H1 P) (del (upd H1 l (.lst xs.dropLast)) P):=t3.1;exact h y [] _ _ ((E.tr s1).trans t3) E3 (.sh (ly.mono sd)) (by simp) (by simp)
end
theorem By {K:zt}{f:Str}:∀y∈([]:List Str),IU K y f:=λ y h=>by cases h
theorem Ba {K:zt}{f x:Str}{xs:List Str}(h:IU K x f)(t:∀y∈xs,IU K y f):∀y∈x::xs,IU K y f:=λ y hy=>by
 rcases z8.mp hy with rfl|hy
 ·exact h
 ·exact t y hy
theorem Cs {P:Program}{w:World}{K:zt}{mg:Str->Option Value}{base:Heap}{m:Str}{k n:Nat}:∀p∈([]:List (Str×(List D->M OT))),∃k',k'<=k/\Hl P w K mg base p.1 m k' n p.2:=λ p h=>by cases h
theorem BV {P:Program}{w:World}{K:zt}{mg:Str->Option Value}{base:Heap}{m x:Str}{k k' n:Nat}{F:List D->M OT}{ms:List (Str×(List D->M OT))}(hk:k'<=k)(h:Hl P w K mg base x m k' n F)(t:∀p∈ms,∃k',k'<=k/\Hl P w K mg base p.1 m k' n p.2):
 ∀p∈(x,F)::ms,∃k',k'<=k/\Hl P w K mg base p.1 m k' n p.2:=λ p hp=>by
 rcases z8.mp hp with rfl|hp
 ·exact⟨k',hk,h⟩
 ·exact t p hp
end L2
set_option maxRecDepth 1000000
set_option maxHeartbeats 0
namespace L2
open PySem
theorem IB:entryFor table "dict.update.loop" = some Builtin.«dict.update.loop»:=by unfold entryFor;rfl
open PySem PySem.Spec PySem.Calls PyProof.Rows PySem.W PySem.Builtin PySem.Builtin.ObjectAttr
section
variable {prog:Program}{w:World}{A:Around}{E:Value->Shared->Prop}{s:Shared}
theorem call_meets {T id:String}{nm:Str}{B:Builtin}{self:Value}{rest:List Value}{Sp:PySem.Spec}{Q:Value->Shared->Prop}(SL:Slot T nm id)(hB:entryFor table id=some B)(ht:s.TypeIs self T)(ha:argsOk id ⟨self::rest,[]⟩)(m:Meets (B ⟨self::rest,[]⟩) Sp)
 (h:Sp A (λ r s'=>match r with | .ok (.ret v)=>Q v s' | .ok _=>False | .error e=>E e s') s):wpAny (model prog w) A (call (.builtin id) (self::rest)) Q E s:=
 wpAny_call (codeAny_call_builtin SL.plain hB (SL.check _ _ _ _ _ _ _ _ ht ha (m prog w A _ s h)))
theorem Mf {l:Addr}{xs:Array Value}{k:Nat}{sl:Array (Option Value)}{Q:Option Value->Shared->Prop}(hh:A.handled=none)(hl:s.heap.get? l=some {cls:=.type "list",data:=.seq xs k,slots:=sl})
 (h:∀h' tk,(∀b o,s.heap.get? b=some o->h'.get? b=some o)->Q none {s with heap:=h',toks:=tk}):wpAny (model prog w) A (getAttr? (.ref l) "keys") Q E s:=by
 have miss:typeLookup (.type "list") "keys" = pure none:=am_miss_of_fast (by decide +kernel);have T0:∀hp:Heap,hp.get? l=some {cls:=.type "list",data:=.seq xs k,slots:=sl}->Looks (model prog w) hp (typeOf (.ref l)) (.type "list"):=λ hp e=>(Looks.ld e).andThen .now;have SL:=PySem.F.slot_list_getattribute;have a8:(onTheHeap (Value.type "list")&&Value.builtin "list.__getattribute__" == Value.builtin "object.__getattribute__")=false:=rfl;have p6:(false&&onTheHeap (Value.builtin "list.__getattribute__"))=false:=rfl;unfold getAttr? getAttrBy?;refine wpAny_bind (wpAny_mkText (wpAny_bind (wpAny_attempt ?_)));unfold getAttrBy;refine wpAny_holding (wpAny_bind ((T0 _ hl).at (wpAny_bind ?_)));rw[SL.lookup];refine wpAny_pure ?_;dsimp only;rw[a8,if_neg zai];unfold getAttrByItsOwn hookBefore;rw[if_neg (show ¬ onTheHeap (Value.type "list")=true from zai)];refine wpAny_bind (wpAny_pure (wpAny_bind (wpAny_attempt (wpAny_holding ?_))));unfold callGetattribute;rw[p6,if_neg zai];unfold boundAndCalled;rw[SL.bind];refine wpAny_bind (wpAny_pure ?_);dsimp only;refine call_meets SL am_entry_list_getattribute ⟨_,hl,rfl⟩ (PySem.F.args_list_getattribute_2 _ _) (meets_getattribute_miss_list l xs k sl "keys" s.toks miss rfl (by decide)) ⟨hl,hh,λ h' tk e ne=>?_⟩;dsimp only;obtain⟨kp,nw,t,u,he⟩:=ne;have T1:Looks (model prog w) h' (typeOf (.ref e)) (.type "AttributeError"):=(Looks.ld he).andThen .now;unfold getattributeRaised isInstance;refine wpAny_bind (wpAny_bind (T1.at ?_));rw[sub_AttributeError];refine wpAny_pure ?_;rw[if_pos rfl];unfold hookBehind;rw[if_neg (show ¬ onTheHeap (Value.type "list")=true from zai),am_list_getattr_none];refine wpAny_bind (wpAny_pure ?_);unfold hookOrError attributeErrorLeaves;dsimp only;rw[if_pos (show (!false)=true from rfl)];refine wpAny_bind (wpAny_throw ?_);refine wpAny_bind (wpAny_bind (T1.at ?_));rw[sub_AttributeError];refine wpAny_pure ?_;rw[if_pos rfl];exact wpAny_pure (h h' tk kp)
theorem QH {t:Addr}{aa:Array Value}{Q:List Value->Shared->Prop}(ht:IsTup s.heap t aa)(h:Q aa.toList s):wpAny (model prog w) A (Dict.pairItems (.ref t)) Q E s:=by
 obtain⟨o,h1,h2,n,h3⟩:=ht;have T0:Looks (model prog w) s.heap (typeOf (.ref t)) (.type "tuple"):=h2▸(Looks.ld h1).andThen .now;unfold Dict.pairItems;refine wpAny_bind (T0.at ?_);have hx:(Value.type "tuple" == Value.type "list" || Value.type "tuple" == Value.type "tuple")=true:=by decide
 rw[if_pos hx];exact wpAny_bind (wpAny_seqItems h1 h3 (wpAny_pure h))
theorem CK:plainId "dict.update.loop" = true:=by decide +kernel
theorem Oj {K:Type}[DecidableEq K]{knd:KeyKind prog w K}{h h':Heap}{d I l:Addr}{i:Nat}{xs:List (List K×Addr×Value)}(hd:h.DictOfH (tupleKind knd) d xs)(hit:h.IsListIter I l i)(sb:∀b o,b≠I->h.get? b=some o->h'.get? b=some o):
 h'.DictOfH (tupleKind knd) d xs:=by
 obtain⟨o,es,ep,h1,h2,h3,h4,h5,h6⟩:=hd;obtain⟨oi,i1,i2,i3⟩:=hit;refine⟨o,es,ep,sb d o (λ z=>?_) h1,h2,h3,h4,λ x hx=>?_,h6⟩
 ·subst z;rw[i1] at h1;cases h1;rw[i3] at h3;cases h3
 ·obtain⟨ok,aa,n,k1,k2,k3,k4⟩:=h5 x hx;refine⟨ok,aa,n,sb _ _ (λ z=>?_) k1,k2,k3,k4⟩;rw[z,i1] at k1;cases k1;rw[i3] at k3;cases k3
theorem Vx {K:Type}[DecidableEq K]{knd:KeyKind prog w K}{R:Result->Shared->Prop}{d I l:Addr}{items:Array Value}{h0:Heap}(ps:List (List K×Addr×Value))(hh:A.handled=none)(aY:A.in1.units<cLine)(fv:l≠I)(p7:d≠I)(d6:l≠d)
 (ji:ps.length=items.size) (hsz:items.size+1<=sizeLine) (hl:h0.IsList l items)
 (hp:∀(j:Nat) p,ps[j]?=some p->(p.2.1≠d/\p.2.1≠I/\(tupleKind knd).is h0 p.1 p.2.1)/\∃t,items[j]?=some (.ref t)/\t≠d/\t≠I/\IsTup h0 t #[.ref p.2.1,p.2.2]):
 ∀(m i:Nat) (xs:List (List K×Addr×Value)) (s:Shared),items.size-i=m->i<=items.size->xs.length<=i->s.heap.IsListIter I l i->s.heap.DictOfH (tupleKind knd) d xs->(∀b o,b≠d->b≠I->h0.get? b=some o->s.heap.get? b=some o)->
  (∀h' tk,h'.DictOfH (tupleKind knd) d ((ps.drop i).foldl (λ acc p=>storedH acc p.1 p.2.1 p.2.2) xs)->(∀b o,b≠d->b≠I->h0.get? b=some o->h'.get? b=some o)->R (.ok (.ret .none)) {s with heap:=h',toks:=tk})->
  codeAny (model prog w) A (.builtin "dict.update.loop" ⟨[.ref d,.ref I,rawInt i,.none],[]⟩) R s:=by
 intro m;induction m with
 |zero =>
  intro i xs s hm hi p8 hit hd hf h;have bm:i=items.size:=by omega
  refine codeAny_builtin IB ?_;rw[zcb CK _];show wpAny _ A.in1 (pyNext (.ref I) >>= _) _ _ s;refine wpAny_bind (wpAny_pyNext_list_end (A:=A.in1) hh hit (hl.at λ o e=>hf l o d6 fv e) (by simp[bm]) λ h' eb=>?_);have hd2:=Oj hd hit λ b o hb e=>eb b o hb e;show wpAny _ A.in1 (Dict.addKeywords d [] >>= _) _ _ _;unfold Dict.addKeywords;refine wpAny_bind (wpAny_bind ?_);refine wpAny_pure (wpAny_pure (wpAny_pure ?_));have ed:ps.drop i=[]:=by rw[List.drop_eq_nil_iff];omega
  rw[ed] at h;exact h h' s.toks hd2 λ b o h1 h2 e=>eb b o h2 (hf b o h1 h2 e)
 |succ m ih =>
  intro i xs s hm hi p8 hit hd hf h;have af:i<items.size:=by omega
  obtain⟨p,gf⟩:∃p,ps[i]?=some p:=⟨ps[i]'(by omega),z4 _⟩;obtain⟨⟨p1,p2,p3⟩,t,ht,t1,t2,t3⟩:=hp i p gf;refine codeAny_builtin IB ?_;rw[zcb CK _];show wpAny _ A.in1 (pyNext (.ref I) >>= _) _ _ s;refine wpAny_bind (wpAny_pyNext_list_item (A:=A.in1) hit (hl.at λ o e=>hf l o d6 fv e) ht λ h' bn sb=>?_);have hd2:h'.DictOfH (tupleKind knd) d xs:=Oj hd hit λ b o hb e=>(sb.2 b hb).trans e;have g9:∀b o,b≠d->b≠I->h0.get? b=some o->h'.get? b=some o:=λ b o h1 h2 e=>(sb.2 b h2).trans (hf b o h1 h2 e);have t4:IsTup h' t #[.ref p.2.1,p.2.2]:=by
   obtain⟨o,e1,e2⟩:=t3;exact⟨o,g9 t o t1 t2 e1,e2⟩
  have p4:(tupleKind knd).is h' p.1 p.2.1:=by
   obtain⟨o,aa,n,e1,e2⟩:=p3;exact⟨o,aa,n,g9 _ o p1 p2 e1,e2⟩
  dsimp only;refine wpAny_bind (wpAny_holding (wpAny_bind (wpAny_tryCatch (QH t4 ?_))));show wpAny _ A.in1 (holding [.ref p.2.1,p.2.2] (dictSet d (.ref p.2.1) p.2.2)) _ _ _;refine wpAny_holding (wpAny_dictSet_heap (knd:=tupleKind knd) (hsz:=by omega) aY p4 hd2 λ h3 gh jj=>?_);refine wpAny_pure ⟨plainId_quiet CK _,?_⟩;have gi:h3.IsListIter I l (i+1):=by
   obtain⟨o,e1,e2⟩:=bn;exact⟨o,(jj.2 I (zb3 p7)).trans e1,e2⟩
  have ed:ps.drop i=p::ps.drop (i+1):=by
   rw[zc8 (by omega:i<ps.length)];rw[z4 (by omega:i<ps.length)] at gf;rw[zad gf]
  rw[ed,zah] at h;have b7:(storedH xs p.1 p.2.1 p.2.2).length<=i+1:=by
   unfold storedH;split
   ·rw[zv];omega
   ·rw[za6,zav];omega
  have q:=ih (i+1) (storedH xs p.1 p.2.1 p.2.2) {s with heap:=h3,toks:=s.toks+(tupleKind knd).draws p.1} (by omega) (by omega) b7 gi gh (λ b o h1 h2 e=>(jj.2 b h1).trans (g9 b o h1 h2 e)) h;exact q
theorem MM {K:Type}[DecidableEq K]{knd:KeyKind prog w K}{Q:Value->Shared->Prop}{l:Addr}{items:Array Value}{n:Nat}{sl:Array (Option Value)}(ps:List (List K×Addr×Value))(hh:A.handled=none)(aY:A.units+2<cLine)
 (ji:ps.length=items.size) (hsz:items.size+1<=sizeLine) (hl:s.heap.get? l=some {cls:=.type "list",data:=.seq items n,slots:=sl})
 (hp:∀(j:Nat) p,ps[j]?=some p->(tupleKind knd).is s.heap p.1 p.2.1/\∃t,items[j]?=some (.ref t)/\IsTup s.heap t #[.ref p.2.1,p.2.2])
 (h:∀h' tk,h'.DictOfH (tupleKind knd) s.heap.objs.size (ps.foldl (λ acc p=>storedH acc p.1 p.2.1 p.2.2) [])->(∀b o,s.heap.get? b=some o->h'.get? b=some o)->Q (.ref s.heap.objs.size) {s with heap:=h',toks:=tk}):
 wpAny (model prog w) A (call (.type "dict") [.ref l]) Q E s:=by
 refine callType_codes (Q₁:=λ obj s₁=>obj=.ref s.heap.objs.size/\s₁={s with heap:=s.heap.push {cls:=.type "dict",data:=.dict #[]} }) PySem.F.kt_called_dict (PySem.F.kt_typeCall_dict_1 _) PySem.F.entry_dict_init
  (kt_code_dict_new _ ⟨rfl,rfl⟩) λ obj s₁ h₁=>?_
 obtain⟨rfl,rfl⟩:=h₁;have hS:(s.heap.push {cls:=.type "dict",data:=.dict #[]}).get? s.heap.objs.size=some {cls:=.type "dict",data:=.dict #[]}:=zac _ rfl;have ll:l<s.heap.objs.size:=za4 hl;have bo:(s.heap.push {cls:=.type "dict",data:=.dict #[]}).get? l=some {cls:=.type "list",data:=.seq items n,slots:=sl}:=z7 _ hl;refine⟨⟨_,hS,rfl⟩,PySem.F.args_dict_init_2 _ _,?_⟩;have TD:Looks (model prog w) (s.heap.push {cls:=.type "dict",data:=.dict #[]}) (typeOf (.ref s.heap.objs.size)) (.type "dict"):=(Looks.ld hS).andThen .now;have TL:Looks (model prog w) (s.heap.push {cls:=.type "dict",data:=.dict #[]}) (typeOf (.ref l)) (.type "list"):=(Looks.ld bo).andThen .now;unfold Builtin.«dict.__init__» Dict.selfAndRest Dict.notOrdered;dsimp only;rw[if_pos (by decide)];refine wpAny_bind (wpAny_bind (wpAny_bind (TD.at ?_)));rw[if_neg (by decide)];refine wpAny_pure ?_;unfold Dict.addrOf;refine wpAny_bind (wpAny_pure (wpAny_pure ?_));unfold Dict.updateCommon Dict.updateFrom;dsimp only;refine wpAny_bind (TL.at ?_);rw[if_pos (by decide)];refine wpAny_bind (Mf (A:=A.in1.in1) hh bo λ h2 we gj=>?_);rw[if_pos (show (none:Option Value).isNone=true from rfl)];refine wpAny_bind (wpAny_rule ?_);have am:h2.IsList l items:=⟨_,gj _ _ bo,rfl,n,rfl⟩;have jk:=gj _ _ hS;refine wpAny_bind (wpAny_pyIter_list am ?_);refine wpAny_pure ⟨plainId_quiet CK _,?_⟩;have lz:s.heap.objs.size<h2.objs.size:=za4 jk;have p9:∀b o,s.heap.get? b=some o->(h2.push {cls:=.type "list_iterator",data:=.fields #[.ref l,.int 0 0]}).get? b=some o:=λ b o e=>z7 _ (gj _ _ (z7 _ e));have gh:(h2.push {cls:=.type "list_iterator",data:=.fields #[.ref l,.int 0 0]}).DictOfH (tupleKind knd) s.heap.objs.size []:=
  ⟨_,#[],0,z7 _ jk,⟨rfl,rfl,rfl⟩,rfl,rfl,λ x hx=>absurd hx List.not_mem_nil,zbn⟩
 have af:∀b o,s.heap.get? b=some o->b≠s.heap.objs.size/\b≠h2.objs.size:=λ b o e=>by
  have:=za4 e;exact⟨zaf this,zaf (Nat.lt_trans this lz)⟩
 refine Vx (A:=A.in1) (knd:=knd) (l:=l) (h0:=s.heap) ps hh aY (zaf (Nat.lt_trans ll lz)) (zaf lz) (zaf ll) ji hsz ⟨_,hl,rfl,n,rfl⟩ (λ j p hj=>?_) items.size 0 [] _ (by omega) (by omega) (by simp) ⟨_,zac _ rfl,rfl,rfl⟩ gh (λ b o h1 f6 e=>p9 b o e) λ h' tk aO qd=>?_
 ·obtain⟨q1,t,q2,q3⟩:=hp j p hj;obtain⟨o1,_,_,e1,_⟩:=id q1;obtain⟨o2,e2,_⟩:=id q3;exact⟨⟨(af _ _ e1).1,(af _ _ e1).2,q1⟩,t,q2,(af _ _ e2).1,(af _ _ e2).2,q3⟩
 ·exact⟨rfl,h h' tk aO λ b o e=>qd b o (af _ _ e).1 (af _ _ e).2 e⟩
end
structure Yp where
 (t:Addr) (κ:List Key) (b:Addr) (v:V)
def kC (H:Hp)(p:Yp):Prop:=H p.t=some (.tup [.ref p.b,p.v])/\H p.b=some (.tup (p.κ.map kV))
noncomputable def xE (ps:List Yp):List (List Key×V):=ps.foldl (λ acc p=>putK acc p.κ p.v) []
noncomputable def tDP (X:Cx)(te:TE):TE:=λ σ H Q=>te σ H λ x H1=>∃(l:Addr) (ps:List Yp),x=.ref l/\Dc X.K H1 l (ps.map λ p=>V.ref p.t)/\(∀p∈ps,kC H1 p)/\ps.length<=1000/\∀r,H1 r=none->Q (.ref r) (upd H1 r (.dT (xE ps)))
theorem Tw:∀ {ps:List Yp}{us:List Value},Vals (ps.map λ p=>V.ref p.t) us->us=ps.map λ p=>zb6 p.t
 |[],_,.nil=>rfl
 |p::ps,_,.cons h t=>by
  cases h;rw[zy,<-Tw t]
theorem mK {H:Hp}:∀ {ps:List Yp}{qs:List (List Key×Addr×Value)}{kvs:List (List Key×V)}{xs:List (List Key×Addr×Value)},(∀p∈ps,kC H p)->Paired (λ(p:Yp) (q:List Key×Addr×Value)=>p.κ=q.1/\p.b=q.2.1/\RelV p.v q.2.2) ps qs->KT H kvs xs->KT H (ps.foldl (λ acc p=>putK acc p.κ p.v) kvs) (qs.foldl (λ acc p=>storedH acc p.1 p.2.1 p.2.2) xs)
 |[],_,_,_,_,.nil,h=>h
 |p::ps,_,_,_,ho,.cons (b:=q) hq t,h=>by
  obtain⟨q1,q2,q3⟩:=q;obtain⟨e1,e2,e3⟩:=hq;dsimp only at e1 e2 e3;subst e1 e2;have r:=mK (ps:=ps) (λ p' hp=>ho p' (zx _ hp)) t (h.put p.κ (ho p zw).2 e3);exact r
theorem cZ:∀(ps:List Yp) (kvs:List (List Key×V)),(ps.foldl (λ acc p=>putK acc p.κ p.v) kvs).length<=kvs.length+ps.length
 |[],kvs=>za2 _
 |p::ps,kvs=>by
  have h1:=cZ ps (putK kvs p.κ p.v);have h2:=Dw kvs p.κ p.v;rw[zah,z5];omega
theorem X6 {h:Heap}{H:Hp}{P:Program}{w:World}(ok:Gs P w H h):∀ {ps:List Yp},(∀p∈ps,kC H p)->∃qs:List (List Key×Addr×Value),Paired (λ(p:Yp) (q:List Key×Addr×Value)=>p.κ=q.1/\p.b=q.2.1/\RelV p.v q.2.2) ps qs/\
 ∀(j:Nat) q,qs[j]?=some q->(tupleKind (AL P w)).is h q.1 q.2.1/\∃t,(ps.map λ p=>zb6 p.t)[j]?=some (.ref t)/\IsTup h t #[.ref q.2.1,q.2.2]
 |[],_=>⟨[],.nil,λ j q e=>by simp at e⟩
 |p::ps,ho=>by
  obtain⟨qs,h1,h2⟩:=X6 ok λ p hp=>ho p (zx _ hp);obtain⟨o1,o2⟩:=ho p zw;obtain⟨_,aa,r,it⟩:=(show Bh P w H h p.t (.tup [.ref p.b,p.v]) from ok p.t _ o1);obtain⟨u,v,rfl,ru,rv⟩:=r.two;cases ru;refine⟨(p.κ,p.b,v)::qs,.cons ⟨rfl,rfl,rv⟩ h1,λ j q e=>?_⟩;cases j with
  |zero =>
   rw[zbj] at e;cases e;exact⟨Ji ok o2,p.t,by simp,it⟩
  |succ j =>
   rw[zak] at e;obtain⟨a1,t,a2,a3⟩:=h2 j q e;exact⟨a1,t,by simpa using a2,a3⟩
section
variable {X:Cx}{WX:Str->Hp->Prop}{c:Bool}{P0:DJ}{P:Addr->Prop}{H:Hp}{σ:St}{ρ:Ad}{a b e:Expr}{f g:Ad->M D}{fn:Ad->M OT}{pos:Pos}{te:TE}
theorem dA {p:Pos}{n:Nat}(hc:X.calm=true)(hu:X.A.units+n<cLine)(hg:Gl X "dict")(hm:X.mg "dict" = none)(he:PE X e te)
 (hv:bootBuiltins "dict" = some (.type "dict"):=by decide +kernel)
 (hs:starEach [e] X.env=[(false,eval e X.env)]:=by rfl) (hn:2<=n:=by decide):
 PE X (.Call (.Name "dict" p) [e] [] pos) (tDP X te):=by
 intro pins s σ H Q I h;refine wpAny_Call_Name_kw (CO I hg hm hv ?_);refine zay ?_ hs;rw[hs];refine zbp (Bd (he pins s σ H _ I h) λ u s1 zz=>?_);obtain⟨x,H1,I1,r1,q1⟩:=zz;obtain⟨l,ps,rfl,hq,ho,hlen,q⟩:=q1;cases r1;refine zbv ?_;obtain⟨aa,r',pl,hz⟩:=I1.list hq;have hits:=Tw r';subst hits;obtain⟨⟨qe,jl,jm,gl⟩,n0,o1,o2,o3,o4⟩:=pl;dsimp only at o2 o3 o4;subst o2 o3 o4;obtain⟨qs,h1,h2⟩:=X6 I1.As ho;refine MM (knd:=AL X.prog X.w) qs (I1.ok.hd hc) (by omega) (by rw[za0,zv,<-h1.length]) (AH (by rw[za0,zv];omega)) o1 (λ j p hj=>?_) λ h' tk hd kp=>?_
 ·obtain⟨a1,t,a2,a3⟩:=h2 j p hj;exact⟨a1,t,by rw[List.getElem?_toArray];exact a2,a3⟩
 ·have qg:=mK ho h1 (show KT H1 [] [] from .nil);have d4:s1.heap.objs.size<=s1.heap.objs.size:=za2 _;have bu:=I1.As.fresh d4;have l6:=cZ ps [];obtain⟨o,es,ep,g1,g2,g3,g4,g5,g6⟩:=hd;refine⟨.ref _,_,I1.laid (t':=tk) (o:=.dT (xE ps)) kp d4 ⟨zbk (AH (by unfold xE;simp at l6;omega)),beq_eq_false_iff_ne.mpr (zb3 (zaf I1.big)),_,qg.keeps (λ b ys eb=>by rw[Ag (λ z=>by rw[z,bu] at eb;cases eb)];exact eb),o,es,ep,g1,g2,g3,g4,g6⟩,rfl,q _ bu⟩
noncomputable def RS:List D->Option (List (D×D))
 |[]=>some []
 | .tup [k,v]::r=>(RS r).map ((k,v)::·)
 |_=>none
noncomputable def mL (l:List (D×D)):List D×List D:=l.foldl (λ z kv=>putD z.1 z.2 kv.1 kv.2) ([],[])
noncomputable def kD (d:D):M OT:=match d with
 | .lst xs=>(match RS xs with|some l=>if l.length<=1000/\(l.all λ kv=>keyOk true kv.1)=true then .ok (.Bu true (mL l).1 ((mL l).2.map .sh)) else .bad|none=>.bad)
 |_=>.bad
theorem X7 {K:zt}{H:Hp}{P:Addr->Prop}:∀ {xs:List V}{ds:List D}{l:List (D×D)},Ai K (del H P) xs ds->RS ds=some l->(l.all λ kv=>keyOk true kv.1)=true->
 ∃ps:List Yp,xs=ps.map (λ p=>V.ref p.t)/\(∀p∈ps,kC H p)/\Paired (λ(p:Yp) (kv:D×D)=>kv.1=.tup (p.κ.map Cm)/\BD K (del H P) p.v kv.2) ps l
 |_,[],l,.nil,e,_=>by cases e;exact⟨[],rfl,λ p hp=>(by cases hp),.nil⟩
 |_,d::ds,l,.cons hd ht,e,hk=>by
  unfold RS at e;split at e
  ·rename_i bJ;cases bJ
  ·rename_i k v r bJ;cases bJ;obtain⟨l',e1,e2⟩:=Option.map_eq_some_iff.mp e;subst e2;rw[List.all_cons,zat] at hk;obtain⟨ps,q1,q2,q3⟩:=X7 ht e1 hk.2;have hK:=Ez hk.1;cases hK with
   |t κ =>
    cases hd with
    |tup h1 h2 =>
     obtain⟨x,y,rfl,hx,hy⟩:=h2.two;cases hx with
     |tup g1 g2 =>
      rename_i tt bb dz;have ey:=Ai.keys κ g2;subst ey;refine⟨⟨tt,κ,bb,y⟩::ps,by rw[zy,q1],λ p hp=>?_,.cons ⟨rfl,hy⟩ q3⟩;rcases z8.mp hp with rfl|hp
      ·exact⟨(Am h1).2,(Am g1).2⟩
      ·exact q2 p hp
  ·cases e
theorem dB {K:zt}{H:Hp}{P:Addr->Prop}:∀ {ps:List Yp}{l:List (D×D)}{kvs:List (List Key×V)}{vs:List D},Paired (λ(p:Yp) (kv:D×D)=>kv.1=.tup (p.κ.map Cm)/\BD K (del H P) p.v kv.2) ps l->Ai K (del H P) (kvs.map zbd) vs->
 ∃a9,l.foldl (λ z kv=>putD z.1 z.2 kv.1 kv.2) (kvs.map (λ kv=>D.tup (kv.1.map Cm)),vs)=((ps.foldl (λ acc p=>putK acc p.κ p.v) kvs).map (λ kv=>D.tup (kv.1.map Cm)),a9)/\Ai K (del H P) ((ps.foldl (λ acc p=>putK acc p.κ p.v) kvs).map zbd) a9
 |[],_,kvs,vs,.nil,h=>⟨vs,rfl,h⟩
 |p::ps,_,kvs,vs,.cons (b:=kv) hq t,h=>by
  obtain⟨k,d⟩:=kv;obtain⟨e1,e2⟩:=hq;dsimp only at e1 e2;subst e1;have hf:∀a b:List Key,Bm (.tup (a.map Cm)) (.tup (b.map Cm))=decide (a=b):=λ a b=>by simp only[Bm];exact N6 a b
  have aL:∃a9,(putD (kvs.map λ kv=>.tup (kv.1.map Cm)) vs (.tup (p.κ.map Cm)) d)=((putK kvs p.κ p.v).map (λ kv=>.tup (kv.1.map Cm)),a9)/\Ai K (del H P) ((putK kvs p.κ p.v).map zbd) a9:=by
   unfold putD putK;rw[K7 (fk:=λ κ:List Key=>D.tup (κ.map Cm)) hf];by_cases hh:(kvs.any λ kv=>decide (kv.1=p.κ))=true
   ·rw[if_pos hh,if_pos hh];refine⟨_,by rw[Hg (fk:=λ κ:List Key=>D.tup (κ.map Cm)) hf],?_⟩;rw[<-Hf (fk:=λ κ:List Key=>D.tup (κ.map Cm)) hf];exact Hh e2 h
   ·rw[if_neg hh,if_neg hh];refine⟨_,by rw[zao];rfl,?_⟩;rw[zao];exact h.snoc e2
  obtain⟨wg,g1,g2⟩:=aL;obtain⟨qh,g3,g4⟩:=dB t g2;refine⟨qh,?_,g4⟩;rw[zah];dsimp only;rw[g1];exact g3
theorem Tx {p:Pos}{n:Nat}(hc:X.calm=true)(hu:X.A.units+n<cLine)(hg:Gl X "dict")(hm:X.mg "dict" = none)(he:DE X WX true e f)
 (hv:bootBuiltins "dict" = some (.type "dict"):=by decide +kernel)
 (hs:starEach [e] X.env=[(false,eval e X.env)]:=by rfl) (hn:2<=n:=by decide):
 DN X WX (.Call (.Name "dict" p) [e] [] pos) (λ ρ=>(f ρ).bind kD):=by
 obtain⟨te,e1,e2⟩:=he;refine⟨_,dA hc hu hg hm e1 hv hs hn,λ P0 P σ H Q ρ E h=>?_⟩;refine e2 P0 P σ H _ ρ E ?_;dsimp only at h;refine XZ h λ d h=>?_;intro v H1 s1 hv;unfold kD at h;split at h
 ·rename_i xs;split at h
  ·rename_i l eb;split at h
   ·rename_i hl;cases hv with
    |lst hs hh =>
     obtain⟨ps,q1,q2,q3⟩:=X7 hh eb hl.2;subst q1;obtain⟨a9,g1,g2⟩:=dB (kvs:=[]) q3 .nil;refine⟨_,ps,rfl,hs.B2,q2,by rw[q3.length];exact hl.1,λ r hr=>?_⟩;have e3:mL l=((xE ps).map (λ kv=>D.tup (kv.1.map Cm)),a9):=g1;rw[e3] at h;have bc:∀a∈[r],H1 a=none:=λ a ha=>by rw[z6.mp ha];exact hr
     exact h _ [r] _ (s1.trans (AM hr _)) (λ a ha=>El s1 (bc a ha)) (by simp) (.dT An (g2.mono (CW (AM hr _) bc)).ows)
   ·exact h.elim
  ·exact h.elim
 ·exact h.elim
end
open PySem PySem.Spec PyProof.Rows
section
variable {X:Cx}{WX:Str->Hp->Prop}{c:Bool}{P0:DJ}{P:Addr->Prop}{H:Hp}{σ:St}{ρ:Ad}{a b e:Expr}{f g:Ad->M D}{fn:Ad->M OT}{pos:Pos}{te:TE}
noncomputable def dC (x y:D):M D:=match x,y with
 | .tup xs,.tup ys=>(match CF xs,CF ys with|some ns,some ms=>.ok (.bl (HT.lexLt ns ms))|_,_=>.bad)
 |_,_=>.bad
theorem X8:WG X.K WX (tW X.K) dC:=by
 intro P H x y v w Q ht hx hy h;unfold dC at h;split at h
 ·rename_i xs ys;split at h
  ·rename_i ns ms e1 e2;have:=Ek e1;subst this;have:=Ek e2;subst this;cases hx with
   |tup h1 h2 =>
    cases hy with
    |tup h3 h4 =>
     have:=Df h2;subst this;have:=Df h4;subst this;exact⟨_,_,ns,ms,rfl,rfl,EY.of (Am h1).2,EY.of (Am h3).2,h _ H (Ah.refl H) (.bl _)⟩
  ·exact h.elim
 ·exact h.elim
theorem zE {n:Nat}(hu:X.A.units+n<cLine)(ha:DE X WX c a f)(hb:DE X WX c b g):DE X WX c (.Compare a [.Lt] [b] pos) (λ ρ=>(f ρ).bind λ x=>(g ρ).bind λ y=>dC x y):=Vc (ZH (by omega)) X8 ha hb (Jf _)
theorem dD {n:Nat}(hu:X.A.units+n<cLine)(ha:DE X WX c a f)(hb:DE X WX c b g):DT X WX (.Compare a [.Lt] [b] pos) (λ ρ=>((f ρ).bind λ x=>(g ρ).bind λ y=>dC x y).bind PQ):=G2 (ZH (by omega)) X8 ha hb (Jf _)
theorem dE (hk:DE X WX true a f)(hv:DE X WX true b g):DN X WX (.Dict [some a] [b] pos) (λ ρ=>(f ρ).bind λ k=>(g ρ).bind λ v=>if keyOk false k=true then .ok (.Bu false [k] [.sh v]) else .bad):=by
 obtain⟨tk,k1,k2⟩:=hk;obtain⟨tv,v1,v2⟩:=hv;refine⟨_,iC (ZO k1 v1 iB) rfl rfl (by simp) (by simp),λ P0 P σ H Q ρ E h p hp=>?_⟩;dsimp only at h;have hn:∀a∈[p],H a=none:=λ a ha=>by rw[z6.mp ha];exact hp
 have s0:Ah H (upd H p (.dK [])):=AM hp _;have E1:Al X.K P0 (PU P [p]) (upd H p (.dK [])) σ ρ:=E.more s0 LJ (λ a ha=>ha.elim (λ z=>(E.Cn a z).same s0) λ z=>by
  rw[z6.mp z];exact⟨_,An,λ _=>⟨λ z=>(by cases z),λ _ z=>by cases z⟩⟩) (CW s0 hn)
 refine k2 P0 (PU P [p]) σ _ _ ρ E1 ?_;cases q:f ρ with
 |bad=>rw[q] at h;exact h
 |ex x=>rw[q] at h;exact λ H' s=>h H' (s0.trans s)
 |ok k =>
  rw[q] at h;simp only[M.Aa] at h;intro y H2 s2 hy;have E2:=E1.same s2;refine v2 P0 (PU P [p]) σ H2 _ ρ E2 ?_;cases q2:g ρ with
  |bad=>rw[q2] at h;exact h
  |ex x=>rw[q2] at h;exact λ H' s=>h H' ((s0.trans s2).trans s)
  |ok d =>
   rw[q2] at h;simp only[M.Aa] at h;intro w H3 s3 hw;by_cases hc:keyOk false k=true
   ·rw[if_pos hc] at h;have hK:=Ez hc;cases hK with
    |k κ =>
     have ey:=hy.iY;subst ey;refine⟨s3 _ _ (s2 _ _ An),[(κ,w)],rfl,by simp,?_⟩;have s4:Ah H (upd H3 p (.dK (GU [] [(κ,w)]))):=λ a o ha=>by
      rw[Ag (λ z=>by rw[z,hp] at ha;cases ha)];exact s3 _ _ (s2 _ _ (s0 _ _ ha))
     have s5:Ah (del H3 (PU P [p])) (del (upd H3 p (.dK (GU [] [(κ,w)]))) (PU P [p])):=λ a o ha=>by
      obtain⟨n1,n2⟩:=Am ha;rw[AD n1,Ag (λ z=>n1 (.inr (by rw[z];exact z6.mpr rfl)))];exact n2
     refine h _ [p] _ s4 hn (by simp) ?_;have e1:GU [] [(κ,w)]=[(κ,w)]:=rfl;rw[e1] at s5 ⊢;exact .dK (kvs:=[(κ,w)]) An (.cons (.sh (hw.mono s5)) .nil)
   ·rw[if_neg hc] at h;exact h.elim
noncomputable def QI (x:D)(m:M D):M D:=match x with
 | .Bu b ks vs=>m.bind λ y=>if keyOk b y=true then .ok ((GL ks vs y).getD .AN) else .bad
 |_=>.bad
theorem kE {K:zt}{v:V}{bb:Bool}{ks vs:List D}{P:Addr->Prop}(h:BD K (del H P) v (.Bu bb ks vs)):∃a,v=.ref a/\yR H a:=by
 cases h with
 |Qt h1 h2=>exact⟨_,rfl,.inl ⟨_,h1.B2⟩⟩
 |Rr h1 h2=>exact⟨_,rfl,.inr ⟨_,h1.B2⟩⟩
theorem Ol {n:Nat}{o k:Expr}{apos ad:Pos}(hu:X.A.units+n<cLine)(ha:DE X WX c o f)(hb:DE X WX c k g)(m:M1 X o "get" apos k ad:=by exact⟨rfl,rfl,rfl,rfl⟩)(hn:1<=n:=by decide):
 DE X WX c (.Call (.Attribute o "get" apos) [k] [] ad) (λ ρ=>(f ρ).bind λ x=>QI x (g ρ)):=by
 obtain⟨ta,a1,a2⟩:=ha;obtain⟨tb,b1,b2⟩:=hb;refine⟨_,ZP (by omega) a1 b1 m,λ P0 P σ H Q ρ E h=>?_⟩;dsimp only at h;refine a2 P0 P σ H _ ρ E ?_;refine XZ h λ x h=>?_;intro v H1 s1 hv;unfold QI at h;split at h
 ·rename_i bb ks vs;obtain⟨a,rfl,hD⟩:=kE hv;refine⟨a,rfl,hD,b2 P0 P σ H1 _ ρ (E.same s1) ?_⟩;cases e2:g ρ with
  |bad=>rw[e2] at h;exact h
  |ex y=>rw[e2] at h;exact gV.same (m:=.ex y) h s1
  |ok y =>
   rw[e2] at h;simp only[M.Aa] at h;intro w H2 s2 hw;by_cases hk:keyOk bb y=true
   ·rw[if_pos hk] at h;obtain⟨a',xs,ea,g',hl,bc⟩:=RK (hv.mono s2.del) hw (Ez hk);cases ea;refine⟨_,g',?_⟩;refine gV.same (gV.same h s1) s2 _ H2 (Ah.refl _) ?_;cases eg:GL ks vs y with
    |none =>
     have:GL ks xs y=none:=by
      cases wj:GL ks xs y with
      |none=>rfl
      |some z =>
       have h1:=Ig (xs:=xs) (y:=y) bc;have h2:=Ig (ks:=ks) (xs:=vs) (y:=y) (by rw[<-hl.length,bc]);rw[h1,wj,eg] at h2;cases h2
     rw[this];exact .AN
    |some d =>
     obtain⟨x,e3,e4⟩:=Oc hl eg;rw[e3];exact e4
   ·rw[if_neg hk] at h;exact h.elim
 ·exact h.elim
end
noncomputable def Itv (K:zt)(a:Addr)(n:Nat):It:=
 ⟨λ i H=>∃xs x,Dc K H a xs/\xs.length=n/\i<n/\xs[n-1-i]?=some x,λ i H x H'=>H'=H/\∀xs,Dc K H a xs->xs[n-1-i]?=some x,λ i H=>∃xs,Dc K H a xs/\xs.length=n/\n<=i⟩
theorem dG {h:Heap}{it a:Addr}{i:Int}{xs:Array Value}(h1:h.IsRevIter it a i)(h2:h.IsList a xs):a≠it:=λ z=>by
 subst z;obtain⟨o,e1,e2,_⟩:=h1;obtain⟨o2,e3,e4,_⟩:=h2;rw[e1] at e3;cases e3;rw[e2] at e4;exact absurd (Value.type.inj e4) (by decide)
theorem dH {P:Program}{w:World}{K:zt}{tg:Expr}(a it:Addr)(n:Nat):Turn P w K tg (Itv K a n) [it] it (λ i h=>i<=n/\h.IsRevIter it a ((n:Int)-1-i)) where
 mem:=by simp
 obj:=λ i h st b hb=>by
  have e:b=it:=by simpa using hb
  subst e;obtain⟨_,o,e,c,d⟩:=st;exact⟨o,e,λ v z=>by rw[d] at z;cases z⟩
 keep:=λ i h h' st k=>⟨st.1,st.2.at λ o e=>k it (by simp) o e⟩
 item:=by
  intro X hP hw hK hc i pins s σ H E I hf st hg;subst hP hw hK;obtain⟨xs,x,hq,qi,bm,hx⟩:=hg;obtain⟨aa,rv,p,hz⟩:=I.list hq;obtain⟨u,hu,ru⟩:=rv.get hx;obtain⟨f0,f1,f2,f3,f4,f5⟩:=hf it (by simp);have hl:=rv.length;have qj:aa.toArray.size=n:=by rw[za0,<-hl,qi]
  have W:=Walks.listRev (prog:=X.prog) (w:=X.w) (A:=X.A) (I.ok.hd hc) it a (dG st.2 p.isList) aa.toArray;rw[qj] at W;refine W.item i s _ _ bm ⟨st.1,st.2,p.isList⟩ λ v h' tk hv aS kp=>?_;have ev:v=u:=by
   rw[List.getElem?_toArray,hu] at hv;exact (zad hv).symm
  subst ev;have I1:Inv X pins σ H {s with heap:=h',toks:=tk}:=I.turned (t':=tk) (λ b o hb e=>kp b o (by simpa using hb) e) f0 f1 f3 f4 f5;obtain⟨o,e,c,d⟩:=id aS.2.1;exact⟨v,rfl,SI (s:={s with heap:=h',toks:=tk}) e c d (by decide) ⟨x,H,I1,ru,⟨rfl,λ ys hy=>by rw[I.GQ hy hq];exact hx⟩,⟨aS.1,aS.2.1⟩,λ b hb=>(hf b hb).1⟩⟩
 done:=by
  intro X hP hw hK hc i pins s σ H E I hf st hg;subst hP hw hK;obtain⟨xs,hq,qi,bm⟩:=hg;obtain⟨aa,rv,p,hz⟩:=I.list hq;obtain⟨f0,f1,f2,f3,f4,f5⟩:=hf it (by simp);have hl:=rv.length;have qj:aa.toArray.size=n:=by rw[za0,<-hl,qi]
  have W:=Walks.listRev (prog:=X.prog) (w:=X.w) (A:=X.A) (I.ok.hd hc) it a (dG st.2 p.isList) aa.toArray;rw[qj] at W;have qk:i=n:=Nat.le_antisymm st.1 bm;subst qk;exact W.done s _ _ ⟨st.1,st.2,p.isList⟩ λ h' tk kp=>⟨rfl,I.turned (t':=tk) (λ b o hb e=>kp b o (by simpa using hb) e) f0 f1 f3 f4 f5⟩
 self:=λ _ _ _ _ _ st h=>wpAny_pyIter_revIter st.2 h
section
variable {X:Cx}{WX:Str->Hp->Prop}{tg a:Expr}{f:Ad->M D}{pos p:Pos}{te:TE}
noncomputable def zF (K:zt)(ta:TA):TI:=λ σ H R=>ta σ H λ vs H1=>∃a xs,vs=[.ref a]/\Dc K H1 a xs/\R (Itv K a xs.length) H1
theorem qL {ta:TA}(hg:Gl X "reversed")(hm:X.mg "reversed" = none)(ha:PA X [a] ta)(hb:bootBuiltins "reversed" = some (.type "reversed"):=by decide +kernel)(hs:starEach [a] X.env=[(false,eval a X.env)]:=by rfl):
 PI X tg (.Call (.Name "reversed" p) [a] [] pos) (zF X.K ta):=by
 intro pins s σ H R I h;refine Call_ (CO I hg hm hb (zay (Bd (ha pos pins s σ H _ I h) λ us s1 zz=>?_) hs rfl));obtain⟨vs,H1,I1,r1,q1⟩:=zz;obtain⟨j,xs,e,hq,q⟩:=q1;subst e;cases r1 with
 |cons r rr =>
  cases rr;cases r;obtain⟨aa,rv,p,hz⟩:=I1.list hq;have hl:=rv.length;refine call_reversed_list p.isList ?_;have hit:(s1.heap.push (revObj j ((aa.toArray.size:Int)-1))).IsRevIter s1.heap.objs.size j ((xs.length:Int)-1-(0:Nat)):=by
   rw[za0,<-hl];exact⟨_,zac _ rfl,rfl,by simp[revObj]⟩
  refine wpAny_pyIter_revIter (s:={s1 with heap:=s1.heap.push (revObj j ((aa.toArray.size:Int)-1))}) hit ?_;refine⟨s1.heap.objs.size,[s1.heap.objs.size],_,_,H1,rfl,I1.kept (t':=s1.toks) λ b o e=>z7 _ e,dH j _ xs.length,⟨zb1 _,hit⟩,λ b hb=>?_,q⟩;have e:b=s1.heap.objs.size:=by simpa using hb
  subst e;exact I1.UQ (za2 _) (I1.As.fresh (za2 _))
theorem qM (hg:Gl X "reversed")(hm:X.mg "reversed" = none)(ha:DE X WX true a f)(hb:bootBuiltins "reversed" = some (.type "reversed"):=by decide +kernel)(hs:starEach [a] X.env=[(false,eval a X.env)]:=by rfl):
 DI X WX tg (.Call (.Name "reversed" p) [a] [] pos) (λ ρ=>(f ρ).bind λ d=>match d with | .lst ds=>.ok ds.reverse|_=>.bad):=by
 obtain⟨ta,a1,a2⟩:=ha;refine⟨_,qL hg hm (BC a1 CP hs) hb hs,λ P0 P σ H R ρ E h=>?_⟩;dsimp only at h;refine a2 P0 P σ H _ ρ E ?_;cases q:f ρ with
 |bad|ex x=>rw[q] at h;exact h
 |ok d =>
  rw[q] at h;cases d with
  |lst ds =>
   intro v H1 s1 hv;cases hv with
   | @lst a xs _ hs hl =>
    have hlen:=hl.length;refine⟨a,xs,rfl,hs.B2,h _ H1 s1 ⟨λ i P' H' s hi=>?_,λ i P' H' s hi=>?_,λ i P' H' v c8 d s ht hd y=>?_⟩⟩
    ·rw[zb7] at hi;obtain⟨x,hx,_⟩:=hl.get (z4 (show xs.length-1-i<ds.length by omega));exact⟨xs,x,(s.seq hs).B2,rfl,by omega,hx⟩
    ·rw[zb7] at hi;exact⟨xs,(s.seq hs).B2,rfl,by omega⟩
    ·obtain⟨rfl,y⟩:=y;have af:=(za3.mp hd).1;rw[zb7] at af;rw[List.getElem?_reverse af] at hd;obtain⟨x,hx,aO⟩:=hl.get hd;have e:=y xs (s.seq hs).B2;rw[hlen,hx] at e;cases e;exact⟨Ah.refl _,aO.mono s⟩
  |_=>exact h.elim
end
structure qN (K:zt)(x qual:Str)(st:Stmt)(f:Addr)(fd:FuncData):Prop where
 ex:∃(oc:Value) (od:Option Addr) (dV kV doc pm:Value) (an:Option Addr) (B1 ct:Value) (UH:Array (Option Value)),
  fd=zb2 x qual (Bt st) (AQ st) (A5 st) dV kV doc pm an B1 ct/\K.lookup f=some ⟨oc,od,.func fd,UH⟩/\zbu K B1 qual=true
 kp:zb4 K (.ref f)=true
section
variable {P:Program}{w:World}{K:zt}{mg:Str->Option Value}{base:Heap}
theorem kF {x qual:Str}{st:Stmt}{f:Addr}{fd:FuncData}{N ps:List Str}{k:Nat}(F:qN K x qual st f fd)(S:Ae N ps (A5 st))(g:Ad->M Out)
 (hb:∀(B1:Value) (A:Around) (outer:List Env) (s:Shared) (H:Hp) (E:XK),BL k (A.deeper (envOfC qual (A5 st) s.heap.objs.size f B1))->UJ (mF P w K mg base N qual (A5 st) f B1 A outer s H E) (Ff K E) (AQ st) g):
 E7 P w K mg base (Za P w base) (k+1) f fd ps (Tf K ps.length λ t ap=>EA (g (D6 N t ap))):=by
 obtain⟨oc,od,dV,kV,doc,pm,an,B1,ct,UH,rfl,lk,aP⟩:=F.ex;refine Ws lk aP S (λ vs H Q E h=>h.1) λ A outer s H vs Q E hr h=>?_;obtain⟨hl,P',p,t,fp,rest,ap,rfl,ht,hp,nd,ho,hv,hq⟩:=h;obtain⟨tt,h1,h2⟩:=hb B1 A outer s H E hr;refine⟨tt,h1,h2 ⟨λ a=>P' a/\a∉fp,λ _=>p⟩ P' _ H _ _ (Ka ht hp nd ho hv) ?_⟩;dsimp only at hq;revert hq;cases g (D6 N t ap) with
 |bad|ex x=>exact λ h=>h.elim
 |ok o =>
  have sub:∀ {P2:Addr->Prop} {H2:Hp} {σ2:St} {ρ:Ad},Al K ⟨λ a=>P' a/\a∉fp,λ _=>p⟩ P2 H2 σ2 ρ->∀a,P2 a/\¬ (P' a/\a∉fp)->P2 a/\(P' a->a∈fp):=λ E a ha=>⟨ha.1,λ z=>zcp λ w=>ha.2 ⟨z,w⟩⟩;cases o with
  |ret d|CM d=>exact λ h=>h.elim
  |next ρ =>
   intro hq σ' H' P2 t2 E2;unfold EA at hq;dsimp only at hq;split at hq
   ·rename_i t' e;obtain⟨c,ah,k1,k2,k3,k4,k5,k6⟩:=N7 E2 e;exact hq .AN H' P2 ah [] (λ a ha hn=>⟨E2.sub a ⟨ha,hn⟩,t2.2 a ⟨ha,hn⟩⟩) E2.Cn t2.1 k4 k5 (.sh .AN) zbn (λ a ha=>by cases ha) (λ a ha=>sub E2 a (k6 a ha)) (λ a ha=>by cases ha)
   ·exact hq.elim
  |Fw r ρ =>
   intro hq v fr σ' H' P2 t2 E2 o2 aM hf;unfold EA at hq;dsimp only at hq;split at hq
   ·rename_i t' e;obtain⟨c,ah,k1,k2,k3,k4,k5,k6⟩:=N7 E2 e;exact hq v H' P2 ah fr (λ a ha hn=>⟨E2.sub a ⟨ha,hn⟩,t2.2 a ⟨ha,hn⟩⟩) E2.Cn t2.1 k4 k5 o2 aM (λ a ha=>(hf a ha).2.2 0 c _ ah k1 k2 k3) (λ a ha=>sub E2 a (k6 a ha)) (λ a ha=>sub E2 a ⟨(hf a ha).1,(hf a ha).2.1⟩)
   ·exact hq.elim
  |brk ρ|cont ρ=>exact λ h=>h.elim
end
theorem kG {K:zt}{x qual:Str}{st:Stmt}{f:Addr}{oc:Value}{od an:Option Addr}{UH:Array (Option Value)}{dV kV doc pm B1 ct:Value}(l:K.lookup f=some ⟨oc,od,.func (zb2 x qual (Bt st) (AQ st) (A5 st) dV kV doc pm an B1 ct),UH⟩)
 (c:zbu K B1 qual=true) (k:zb4 K (.ref f)=true):qN K x qual st f (zb2 x qual (Bt st) (AQ st) (A5 st) dV kV doc pm an B1 ct):=⟨⟨oc,od,dV,kV,doc,pm,an,B1,ct,UH,rfl,l,c⟩,k⟩
structure X9 (P:Program)(w:World)(K:zt)(mg:Str->Option Value)(base:Heap)(x:Str)(k n:Nat)(F:OT->List D->M (OT×OT)):Prop where
 ex:∃C fa fd ps,vL K mg x C/\Mk K C fa/\E7 P w K mg base (Za P w base) k fa fd ps (Tf K n F)/\Binds K fd ps []/\Binds K fd ps [.none]
structure Vy (K:zt)(mg:Str->Option Value)(x qual:Str)(st:Stmt)(ps:List Str):Prop where
 ex:∃C f fd,vL K mg x C/\Mk K C f/\qN K "__init__" qual st f fd/\Binds K fd ps []/\Binds K fd ps [.none]
theorem dI {P:Program}{w:World}{K:zt}{mg:Str->Option Value}{base:Heap}{x qual:Str}{st:Stmt}{N ps:List Str}{k n:Nat}(T:Vy K mg x qual st ps)(S:Ae N ps (A5 st))(g:Ad->M Out)
 (hb:∀(f:Addr) (B1:Value) (A:Around) (outer:List Env) (s:Shared) (H:Hp) (E:XK),BL k (A.deeper (envOfC qual (A5 st) s.heap.objs.size f B1))->UJ (mF P w K mg base N qual (A5 st) f B1 A outer s H E) (Ff K E) (AQ st) g) (hn:ps.length=n:=by rfl):
 X9 P w K mg base x (k+1) n (λ t ap=>EA (g (D6 N t ap))):=by
 obtain⟨C,f,fd,h1,h2,F,hB⟩:=T.ex;subst hn;exact⟨⟨C,f,fd,ps,h1,h2,kF F S g (hb f),hB⟩⟩
section
variable {X:Cx}{E:XK}{WX:Str->Hp->Prop}{c:Bool}{e:Expr}{es:List Expr}{fs:Ad->M (List D)}{pos:Pos}{H:Hp}
theorem dJ {x:Str}{k n:Nat}{F:OT->List D->M (OT×OT)}{p:Pos}(xo:IR X E)(G:X9 X.prog X.w X.K X.mg X.base x k n F)(hr:BL (k+1) X.A)(hg:Gl X x)(ha:DA X (Ff X.K E) true (e::es) fs)(a4:(e::es).length+2=n)
 (aT:(x==("__debug__" : Str))=false:=by decide) (he:starEach (e::es) X.env=(false,eval e X.env)::starEach es X.env:=by rfl) (hpl:(backTo pos (starEach es X.env)).any (·.1)=false:=by rfl):
 DN X (Ff X.K E) (.Call (.Name x p) (e::es) [] pos) (λ ρ=>(fs ρ).bind λ ds=>cU (F (.ins x [] []) (ds++[.AN]))):=by
 obtain⟨C,fa,fd,ps,hT,hM,hF,_,hb⟩:=G.ex;obtain⟨ta,a1,a2,a3⟩:=ha;refine⟨_,gK hM hF hr hg hT.mg' hb (show Vals [.AN] [.none] from .cons (show RelV .AN .none from rfl) .nil) xo.call a1 aT he hpl,λ P0 P σ H Q ρ Ev h=>?_⟩;dsimp only at h;refine a2 P0 P σ H _ ρ Ev ?_;cases q:fs ρ with
 |bad|ex x=>rw[q] at h;exact h
 |ok ds =>
  rw[q] at h;simp only[M.Aa] at h;intro vs H1 s1 aB y dx hy hd ac;have E1:=Ev.same s1;have sm:=Yo (C:=C) hy hd;have bR:∀a∈[y],H1 a=none:=λ a ha=>by rw[z6.mp ha];exact hy
  refine⟨by rw[z5,za6,aB.length,a3 ρ ds q];exact a4,PU P [y],y,.ins x [] [],[y],vs++[.AN],ds++[.AN],rfl,λ a ha=>?_,λ a ha=>.inr ha,by simp,BX.ins (fs:=[]) hT.ns An .nil,(aB.mono (CW sm bR)).append (.cons .AN .nil),?_⟩
  ·rcases ha with ha|ha
   ·exact (E1.Cn a ha).same sm
   ·rw[z6.mp ha];exact⟨_,An,λ xs=>⟨(λ z=>by cases z),(λ z w=>by cases w)⟩⟩
  ·cases q2:F (.ins x [] []) (ds++[.AN]) with
   |bad|ex z=>rw[q2] at h;exact h
   |ok tr =>
    obtain⟨t,r⟩:=tr;rw[q2] at h;simp only[cU] at h;intro v H' P' ah fr k1 k2 k3 k4 k5 k6 k7 k8 k9 tu;cases r with
    |sh d =>
     cases d with
     |AN =>
      cases k6 with
      |sh hv =>
       cases hv;refine⟨rfl,h _ ah H' ?_ ?_ k5 ?_⟩
       ·intro b u eb;have e1:=s1 b u eb;have h7:b≠y:=λ z=>by rw[z,hy] at e1;cases e1
        have e2:=sm b u e1;by_cases hP:P b
        ·exact (k1 b (.inl hP) (by simp[h7])).2.trans e2
        ·exact (Am (k3 b u (by rw[AD λ z=>z.elim hP λ w=>h7 (z6.mp w)];exact e2))).2
       ·intro b t7;cases eb:H b with
        |none=>rfl
        |some u =>
         exfalso;have e1:=s1 b u eb;have h7:b≠y:=λ z=>by rw[z,hy] at e1;cases e1
         have e2:=sm b u e1;have hn:=λ z=>h7 (z6.mp ((k9 b t7).2 z));exact (Am (k3 b u (by rw[AD hn];exact e2))).1 (k9 b t7).1
       ·refine k4.move (λ b u eb=>?_) λ _ _=>rfl;obtain⟨g1,g2⟩:=Am eb;rw[AD]
        ·exact g2
        ·rintro (z|z)
         ·have h7:b≠y:=λ w=>by
           obtain⟨o,e1,_⟩:=E1.Cn b z;rw[w,hy] at e1;cases e1
          exact g1 (k1 b (.inl z) (by simp[h7])).1
         ·exact g1 (k9 b z).1
     |_=>exact h.elim
    |_=>exact h.elim
end
theorem ln0 {P:List Value->Prop}(h:P [])(us:List Value)(hl:us.length=0):P us:=by
 cases us with
 |nil=>exact h
 |cons _ _=>cases hl
theorem xF {P:List Value->Prop}(h:∀a,P [a])(us:List Value)(hl:us.length=1):P us:=by
 cases us with
 |nil=>cases hl
 |cons a us=>exact ln0 (P:=λ l=>P (a::l)) (h a) us (Nat.succ.inj hl)
theorem ln2 {P:List Value->Prop}(h:∀a b,P [a,b])(us:List Value)(hl:us.length=2):P us:=by
 cases us with
 |nil=>cases hl
 |cons a us=>exact xF (P:=λ l=>P (a::l)) (λ b=>h a b) us (Nat.succ.inj hl)
theorem zG {P:List Value->Prop}(h:∀a b c,P [a,b,c])(us:List Value)(hl:us.length=3):P us:=by
 cases us with
 |nil=>cases hl
 |cons a us=>exact ln2 (P:=λ l=>P (a::l)) (λ b c=>h a b c) us (Nat.succ.inj hl)
theorem ln4 {P:List Value->Prop}(h:∀a b c d,P [a,b,c,d])(us:List Value)(hl:us.length=4):P us:=by
 cases us with
 |nil=>cases hl
 |cons a us=>exact zG (P:=λ l=>P (a::l)) (λ b c d=>h a b c d) us (Nat.succ.inj hl)
theorem AO {K:zt}{mg:Str->Option Value}{h:Heap}{x:Str}{st:Stmt}{ps:List Str}(X:K.In h)(G:h.Ns mainGlobals mg)(p:FP K x st)(hb:∀(kV dc pm:Value) (an:Option Addr) (cd ct:Value) (us:List Value),us.length=ps.length->bindArgs (zb2 x x (Bt st) (AQ st) (A5 st) .none kV dc pm an cd ct) ⟨us,[]⟩=pure (ps.zip us):=by first | exact (λ _ _ _ _ _ _=>xF λ _=>rfl) | exact (λ _ _ _ _ _ _=>ln2 λ _ _=>rfl) | exact (λ _ _ _ _ _ _=>zG λ _ _ _=>rfl) | exact (λ _ _ _ _ _ _=>ln4 λ _ _ _ _=>rfl)):AG K mg x st ps:=by
 obtain⟨f,oc,od,an,sl,kV,dc,pm,cd,ct,a,l,c,k⟩:=p.ex;have F:=V6 (st:=st) l c k;exact⟨⟨_,_,F,PySem.W.mg_of X G a,F.binds hb⟩⟩
theorem Tz {K:zt}{C:Addr}{x m qual:Str}{st:Stmt}{ps:List Str}(aC:zap K mainGlobals x=some (some (.ref C)))(cl:XM K C)(p:MP K C m qual st)(hb:∀(kV dc pm:Value) (an:Option Addr) (cd ct:Value) (us:List Value),us.length=ps.length->bindArgs (zb2 m qual (Bt st) (AQ st) (A5 st) .none kV dc pm an cd ct) ⟨us,[]⟩=pure (ps.zip us):=by first | exact (λ _ _ _ _ _ _=>xF λ _=>rfl) | exact (λ _ _ _ _ _ _=>ln2 λ _ _=>rfl) | exact (λ _ _ _ _ _ _=>zG λ _ _ _=>rfl) | exact (λ _ _ _ _ _ _=>ln4 λ _ _ _ _=>rfl)):Oi K x m qual st ps:=by
 obtain⟨f,oc,od,an,sl,kV,dc,pm,cd,ct,a,i,l,c,k⟩:=p.ex;have F:=V6 (st:=st) l c k;exact⟨⟨_,_,_,aC,cl,⟨a,i,k⟩,F,F.binds hb⟩⟩
open PySem PySem.W PySem.Calls PyProof.Rows
noncomputable def R0:Rn:=⟨topRun,Heap.nsMap,importEnds,fenceModules?,PySem.start,treeTable⟩
theorem qO:R0=R1:=by
 unfold R0 R1;rw[PySem.W.Fast.te14082659384304107361,PySem.W.Fast.te8920871248978507458,PySem.W.Fast.te10274390034422433532,PySem.W.Fast.te14289696077712309145,PySem.W.Fast.te1435165496053646825,PySem.W.Fast.te14364793385576792824]
theorem Xa (p:Program)(w:World)(N:Nat):openEnds treeTable p w N=NC R0 p w N:=by
 unfold openEnds fencedOpening NC;rfl
theorem Om {h:Heap}{a:Addr}{o:Obj}:∀ {as:List Addr},(wK h as).lookup a=some o->h.get? a=some o
 |[],e=>by cases e
 |b::r,e=>by
  unfold wK at e;rw[zby] at e;cases q:h.get? b with
  |none=>rw[q] at e;exact Om (as:=r) e
  |some u =>
   rw[q] at e;dsimp only [zb8] at e;rw[zbs] at e;cases c:a==b with
   |true=>rw[c] at e;cases e;rw[eq_of_beq c];exact q
   |false=>rw[c] at e;exact Om (as:=r) e
def vM (h h':Heap):Prop:=∀(b:Addr) (o:Obj),h.get? b=some o->h'.get? b=some o
theorem qP {h h':Heap}{as:List Addr}(s:vM h h'):(wK h as).In h':=λ a o e=>s a o (Om e)
theorem kH {p q:Program}{Xt:Shared->Bool}{N:Nat}(h:∀w:World,(openEnds treeTable p w N).map (λ s=>openSeen q [] (importedModules p.main.body) Xt true s)=some (openGood q [])):LeftO p q [] Xt (λ s=>s.heap) (λ w=>Zd R0 p w N) N:=λ w=>by
 have e:=h w;unfold Zd;dsimp only;rw[<-Xa];cases q':openEnds treeTable p w N with
 |none=>rw[q'] at e;cases e
 |some s =>
  rw[q'] at e;rw[zb8] at e ⊢;dsimp only;rw[zad e]
theorem RT {α β γ:Type}{o:Option γ}{f:γ->α×β}{a:α×β}(h:o.map (λ s=>(f s).1)=some a.1)(k:o.map (λ s=>(f s).2)=some a.2):o.map f=some a:=by
 cases o with
 |none=>cases h
 |some s =>
  rw[zb8] at h k ⊢;exact congrArg some (Prod.ext (zad h) (zad k))
theorem vN {l:PySem.W.OpenLaw}{n k:Nat}{q:Program}{loose:List Str}{XP:(Str->Option Value)->Heap->Prop}{YP:World->Heap->Prop}{d:DefRec}{K:World->zt}{CX:World->Wq}{sp:World->Sp}{x:Str}
 (hn:l.most=some n) (aw:n<=sizeLine) (f8:d.params.defaults=[]) (hr:BL k callerA) (hY:∀(w:World) (h:Heap),YP w h->(K w).In h)
 (F:∀(w:World) (mg:Str->Option Value) (fa:Addr) (h:Heap),(K w).In h->h.Ns mainGlobals mg->mg d.name=some (.ref fa)->∃fd:FuncData,(∀(s:Shared) (u:Value),BindsTo s fd ⟨[u],[]⟩ [(x,u)])/\
  ∀base:Heap,(K w).In base->base.Ns mainGlobals mg->E7 l.prog w (K w) mg base (CX w) k fa fd [x] (sp w))
 (bv:∀(w:World) (H:Hp) (a:Addr) (ns:List Int),(∀n∈ns,Sm n)->ns.length<=n->hV H->Dc (K w) H a (ns.map V.int)->sp w [.ref a] H (λ v _=>v=.bl true) λ _ _ _=>False)
 (iu:∀(w:World) (H:Hp) (s:Shared) (e:Value) (s':Shared),CX w [] H s (λ _ _ _=>False) e s'->False):PySem.W.WalkO q loose XP YP l.row.toRowW d [] (λ f vs=>PySem.call f vs):=by
 refine HT.Qz hn f8 λ w s₀ s₁ mg mb fa o pm cd doc a vs ns bt G Y ho hd aP f9 cb aX hlen hg=>?_;have KX:=hY w _ Y;obtain⟨fd,hb,hF⟩:=F w mg fa _ KX G.T.g f9;exact SR KX G.T.g G.T.b G.T.builtins G.T.nolimit hg cb aX (zbb hlen aw) hr hF hb (λ H hO hS=>bv w H a ns bt hlen hO hS) λ H e s'=>iu w H s₁ e s'
noncomputable def cst:Option (Int×Int)->D
 |none=>.AN
 |some p=>.tup [.int p.1,.int p.2]
noncomputable def Aq:Option (Int×Int)->Option (Int×Int)->Option (Int×Int)
 |some p,some q=>some (p.1+q.1,p.2+q.2)
 |_,_=>none
noncomputable def kI (p q:Int×Int):Int×Int:=if p.1<q.1\/(p.1=q.1/\p.2<=q.2) then p else q
noncomputable def EC:Option (Int×Int)->Option (Int×Int)->Option (Int×Int)
 |none,b=>b
 |some p,none=>some p
 |some p,some q=>some (kI p q)
noncomputable def Ec (cs:List (Option (Int×Int))):Option (Int×Int):=cs.foldl EC none
theorem Mg (cs:List (Option (Int×Int))):B4 (λ d ρ=>.ok (ρ.set 0 (some (.val d)))) (λ ρ=>(rv 0 ρ).bind λ x=>.ok (!AV x)) (rv 0) (cs.map cst) [none]=.ok ((cs.filterMap id).map λ p=>cst (some p)):=by
 induction cs with
 |nil=>rfl
 |cons c r ih =>
  rw[zy,B4];cases c with
  |none =>
   show B4 _ _ _ (r.map cst) [none]=_;rw[ih];rfl
  |some p =>
   show (match B4 _ _ _ (r.map cst) [none] with | .ok ys=>M.ok (cst (some p)::ys)|_=>.bad)=_;rw[ih];rfl
theorem Yq (ps:List (Int×Int)):Ha (ps.map λ p=>cst (some p))=some (ps.map λ p=>(cst (some p),[p.1,p.2])):=by
 induction ps with
 |nil=>rfl
 |cons p r ih=>rw[zy,Ha,ih];rfl
theorem dM (cs:List (Option (Int×Int))):Be ((cs.filterMap id).map λ p=>(cst (some p),[p.1,p.2]))=(Ec cs).map λ p=>(cst (some p),[p.1,p.2]):=by
 have key:∀(cs:List (Option (Int×Int))) (z:Option (Int×Int)),((cs.filterMap id).map λ p=>(cst (some p),[p.1,p.2])).foldl BK (z.map λ p=>(cst (some p),[p.1,p.2]))=(cs.foldl EC z).map λ p=>(cst (some p),[p.1,p.2]):=by
  intro cs;induction cs with
  |nil=>intro z;rfl
  |cons c r ih =>
   intro z;cases c with
   |none =>
    rw[show List.filterMap id (none::r)=List.filterMap id r from rfl,zah,ih z];cases z<;>rfl
   |some q =>
    rw[show List.filterMap id (some q::r)=q::List.filterMap id r from rfl,zy,zah,zah,<-ih (EC z (some q))];congr 1;cases z with
    |none=>rfl
    |some p =>
     simp only[zb8,BK,HT.FX,HT.Fb,EC,kI];by_cases h1:q.1=p.1
     ·by_cases h2:q.2=p.2
      ·rw[if_pos (show p.1<q.1\/(p.1=q.1/\p.2<=q.2) by omega)];simp[h1,h2]
      ·by_cases h3:q.2<p.2
       ·rw[if_neg (show ¬ (p.1<q.1\/(p.1=q.1/\p.2<=q.2)) by omega)];simp[h1,h2,h3]
       ·rw[if_pos (show p.1<q.1\/(p.1=q.1/\p.2<=q.2) by omega)];simp[h1,h2,h3]
     ·by_cases h3:q.1<p.1
      ·rw[if_neg (show ¬ (p.1<q.1\/(p.1=q.1/\p.2<=q.2)) by omega)];simp[h1,h3]
      ·rw[if_pos (show p.1<q.1\/(p.1=q.1/\p.2<=q.2) by omega)];simp[h1,h3]
 exact key cs none
theorem kJ (cs:List (Option (Int×Int))):WI (.lst ((cs.filterMap id).map λ p=>cst (some p))) .AN=.ok (cst (Ec cs)):=by
 simp only[WI,Yq,dM];cases Ec cs<;>rfl
theorem dN (cs:List (Option (Int×Int))):K0 (B4 (λ d ρ=>.ok (ρ.set 0 (some (.val d)))) (λ ρ=>(rv 0 ρ).bind λ x=>.ok (!AV x)) (rv 0) (cs.map cst) [none])=.ok (.lst ((cs.filterMap id).map λ p=>cst (some p))):=by
 rw[Mg];rfl
noncomputable abbrev Co:=Option (Int×Int)
def BG:Co->Co->Prop
 |_,none=>True
 |none,some _=>False
 |some p,some q=>p.1<q.1\/(p.1=q.1/\p.2<=q.2)
theorem C7:∀a:Co,BG a a
 |none=>trivial
 |some p=>.inr ⟨rfl,zco _⟩
theorem Aw:∀ {a b c:Co},BG a b->BG b c->BG a c
 |_,_,none,_,_=>trivial
 |none,none,some _,_,h|some _,none,some _,_,h|none,some _,some _,h,_=>h.elim
 |some p,some q,some r,h1,h2=>by simp only[BG] at *;omega
theorem KO:∀ {a b:Co},BG a b->BG b a->a=b
 |none,none,_,_=>rfl
 |none,some _,h,_|some _,none,_,h=>h.elim
 |some p,some q,h1,h2=>by
  obtain⟨p1,p2⟩:=p;obtain⟨q1,q2⟩:=q;simp only[BG] at h1 h2;have e1:p1=q1:=by omega
  have e2:p2=q2:=by omega
  rw[e1,e2]
theorem Dj:∀a b:Co,(EC a b=a/\BG a b)\/(EC a b=b/\BG b a/\a≠b)
 |none,none=>.inl ⟨rfl,trivial⟩
 |none,some q=>.inr ⟨rfl,trivial,λ h=>by cases h⟩
 |some p,none=>.inl ⟨rfl,trivial⟩
 |some p,some q=>by
  unfold EC kI;by_cases h:p.1<q.1\/(p.1=q.1/\p.2<=q.2)
  ·dsimp only;rw[if_pos h];exact .inl ⟨rfl,h⟩
  ·dsimp only;rw[if_neg h];refine .inr ⟨rfl,?_,λ e=>?_⟩
   ·simp only[BG];omega
   ·cases e;exact h (.inr ⟨rfl,zco _⟩)
theorem Ga (a b:Co):BG (EC a b) a:=by
 rcases Dj a b with ⟨e,h⟩|⟨e,h,_⟩
 ·rw[e];exact C7 a
 ·rw[e];exact h
theorem IC (a b:Co):BG (EC a b) b:=by
 rcases Dj a b with ⟨e,h⟩|⟨e,h,_⟩
 ·rw[e];exact h
 ·rw[e];exact C7 b
theorem TB (cs:List Co):∀z:Co,BG (cs.foldl EC z) z/\(∀x∈cs,BG (cs.foldl EC z) x)/\(cs.foldl EC z=z\/cs.foldl EC z∈cs):=by
 induction cs with
 |nil=>intro z;exact⟨C7 z,(λ x h=>by cases h),.inl rfl⟩
 |cons c r ih =>
  intro z;obtain⟨h1,h2,h3⟩:=ih (EC z c);rw[zah];refine⟨Aw h1 (Ga z c),λ x hx=>?_,?_⟩
  ·rcases z8.mp hx with rfl|hx
   ·exact Aw h1 (IC z x)
   ·exact h2 x hx
  ·rcases h3 with h3|h3
   ·rw[h3];rcases Dj z c with ⟨e,_⟩|⟨e,_⟩
    ·exact .inl e
    ·rw[e];exact .inr zw
   ·exact .inr (zx _ h3)
theorem Nt {cs:List Co}{x:Co}(h:x∈cs):BG (Ec cs) x:=(TB cs none).2.1 x h
theorem KQ (cs:List Co):Ec cs=none\/Ec cs∈cs:=(TB cs none).2.2
theorem RU {cs:List Co}{v:Co}(h1:∀x∈cs,BG v x)(h2:v≠none->∃x∈cs,BG x v):Ec cs=v:=by
 refine KO ?_ ?_
 ·cases v with
  |none=>cases Ec cs<;>exact trivial
  |some p =>
   obtain⟨x,hx,hl⟩:=h2 (by intro z;cases z);exact Aw (Nt hx) hl
 ·rcases KQ cs with h|h
  ·rw[h];cases v<;>exact trivial
  ·exact h1 _ h
theorem FF:∀a b:Co,Aq a b=Aq b a
 |none,none=>rfl
 |none,some _|some _,none=>rfl
 |some p,some q=>by simp only[Aq];rw[Int.add_comm,Int.add_comm p.2]
theorem Dk:∀ {a b:Co}(c:Co),BG a b->BG (Aq a c) (Aq b c)
 |_,none,c,_=>by cases c<;>exact trivial
 |none,some _,c,h=>h.elim
 |some p,some q,none,h=>trivial
 |some p,some q,some r,h=>by simp only[Aq,BG] at *;omega
def NN:Co->Prop
 |none=>True
 |some p=>0<=p.1/\0<=p.2
theorem dO:∀ {a b:Co},NN a->NN b->NN (Aq a b)
 |none,none,_,_=>trivial
 |none,some _,_,_|some _,none,_,_=>trivial
 |some p,some q,h1,h2=>by simp only[Aq,NN] at *;omega
theorem vP {a b:Co}(h1:NN a)(h2:NN b):NN (EC a b):=by
 rcases Dj a b with ⟨e,_⟩|⟨e,_⟩
 ·rw[e];exact h1
 ·rw[e];exact h2
def ltN (a b:Co):Prop:=NN a/\BG a b/\a≠b
theorem Yr (a b c:Co)(h1:ltN a b)(h2:ltN b c):ltN a c:=
 ⟨h1.1,Aw h1.2.1 h2.2.1,λ e=>by subst e;exact h1.2.2 (KO h1.2.1 h2.2.1)⟩
noncomputable def rank:Co->Nat×Nat×Nat
 |none=>(1,0,0)
 |some p=>(0,p.1.toNat,p.2.toNat)
theorem qQ:∀a:Co,NN a->Acc ltN a:=by
 have wf:WellFounded (InvImage (Prod.Lex (· < ·) (Prod.Lex (· < ·) (· < ·))) rank):=InvImage.wf rank (Prod.lex Nat.lt_wfRel (Prod.lex Nat.lt_wfRel Nat.lt_wfRel)).wf;intro a;induction a using wf.induction with
 |h a ih =>
  intro ha;refine .intro _ λ b ⟨hb,hl,ac⟩=>ih b ?_ hb;cases b with
  |none=>cases a with
   |none=>exact (ac rfl).elim
   |some p=>exact hl.elim
  |some q=>cases a with
   |none=>exact Prod.Lex.left _ _ (by decide)
   |some p =>
    obtain⟨p1,p2⟩:=p;obtain⟨q1,q2⟩:=q;simp only[BG,NN] at hl ha hb;show Prod.Lex _ _ (0,q1.toNat,q2.toNat) (0,p1.toNat,p2.toNat);refine Prod.Lex.right _ ?_;by_cases h:q1<p1
    ·exact Prod.Lex.left _ _ (by omega)
    ·have e:q1=p1:=by omega
     subst e;have h2:q2≠p2:=λ e=>ac (by rw[e]);exact Prod.Lex.right _ (by omega)
theorem kK (a:Co):Acc ltN a:=.intro _ λ b h=>qQ b h.1
theorem Ys (cs:List Co):Acc (Px ltN) cs:=O9 ltN kK cs.length cs rfl
structure Road where
 a:Int
 b:Int
 l:Option Int
 w:Int
noncomputable def CN:Option Int->D
 |none=>.AN
 |some i=>.int i
noncomputable def BR (r:Road):D:=.tup [.int r.a,.int r.b,CN r.l,.int r.w]
noncomputable def Ak (m:Int)(rs:List Road):D:=.tup [.int m,.lst (rs.map BR)]
noncomputable def BS (r:Road):Co:=match r.l with | none=>none | some l=>some (l,1)
structure ID (m:Nat)(r:Road):Prop where
 a0:0<=r.a
 a1:r.a<m
 b0:0<=r.b
 b1:r.b<m
 l0:∀l,r.l=some l->0<=l
noncomputable def KR (r:Road):Road:=⟨r.b,r.a,r.l,r.w⟩
theorem mM {m:Nat}{r:Road}(h:ID m r):NN (BS r):=by
 unfold BS;split
 ·trivial
 ·rename_i l e;exact⟨h.l0 l e,by show (0:Int)<=1;decide⟩
noncomputable def atC (cs:List Co)(i:Int):Co:=cs.getD i.toNat none
theorem F0 {cs:List Co}{i:Int}(h0:0<=i)(h1:i<cs.length):cs[i.toNat]?=some (atC cs i):=by
 unfold atC;rw[zar,z4 (show i.toNat<cs.length by omega)];rfl
theorem set_same {α:Type}:∀ {l:List α}{i:Nat}{x:α},l[i]?=some x->l.set i x=l
 |[],_,_,h=>by cases h
 |y::r,0,x,h=>by cases h;rfl
 |y::r,i+1,x,h=>by rw[za1,set_same (by simpa using h)]
noncomputable def Dl (r:Road)(cs:List Co):List Co:=cs.set r.b.toNat (EC (atC cs r.b) (Aq (atC cs r.a) (BS r)))
theorem Nu {cs:List Co}{i j:Int}{v:Co}(hi:0<=i)(hj:0<=j)(h1:i<cs.length):atC (cs.set i.toNat v) j=if j=i then v else atC cs j:=by
 unfold atC;rw[zar,zar];by_cases h:j=i
 ·subst h;rw[if_pos rfl,zas (by omega)];rfl
 ·rw[if_neg h,zb9 (by omega)]
structure Good (m s:Nat)(rs:List Road)(cs:List Co):Prop where
 len:cs.length=m
 st:atC cs s=some (0,0)
 nn:∀c∈cs,NN c
 sup:∀p:Int,0<=p->p<m->p≠s->atC cs p≠none->∃r∈rs,r.b=p/\BG (Aq (atC cs r.a) (BS r)) (atC cs p)
theorem Good.mN {m s:Nat}{rs:List Road}{cs:List Co}(g:Good m s rs cs){i:Int}(h0:0<=i)(h1:i<m):NN (atC cs i):=
 g.nn _ (za9 (F0 h0 (by rw[g.len];exact h1)))
theorem Yt {m s:Nat}{rs:List Road}{cs:List Co}{r:Road}(g:Good m s rs cs)(hr:r∈rs)(As:∀r∈rs,ID m r):
 Good m s rs (Dl r cs)/\(∀i:Int,0<=i->BG (atC (Dl r cs) i) (atC cs i))/\(EC (atC cs r.b) (Aq (atC cs r.a) (BS r))=atC cs r.b->Dl r cs=cs)/\
 (EC (atC cs r.b) (Aq (atC cs r.a) (BS r))≠atC cs r.b->Px ltN (Dl r cs) cs):=by
 have ok:=As r hr;have h8:r.b<cs.length:=by rw[g.len];exact ok.b1
 have hx:NN (Aq (atC cs r.a) (BS r)):=dO (g.mN ok.a0 ok.a1) (mM ok);have hv:NN (EC (atC cs r.b) (Aq (atC cs r.a) (BS r))):=vP (g.mN ok.b0 ok.b1) hx;have bp:∀i:Int,0<=i->atC (Dl r cs) i=if i=r.b then EC (atC cs r.b) (Aq (atC cs r.a) (BS r)) else atC cs i:=λ i hi=>Nu ok.b0 hi h8
 have le:∀i:Int,0<=i->BG (atC (Dl r cs) i) (atC cs i):=λ i hi=>by
  rw[bp i hi];by_cases h:i=r.b
  ·rw[if_pos h,h];exact Ga _ _
  ·rw[if_neg h];exact C7 _
 refine⟨⟨by unfold Dl;rw[zbl];exact g.len,?_,λ c hc=>?_,λ p h0 h1 hp hn=>?_⟩,le,λ h=>?_,λ h=>?_⟩
 ·rw[bp s (by omega)];by_cases h:(s:Int)=r.b
  ·rw[if_pos h,<-h,g.st];cases q:Aq (atC cs r.a) (BS r) with
   |none=>rfl
   |some x =>
    rw[q] at hx;unfold EC kI;dsimp only;rw[if_pos (by simp only[NN] at hx;omega)]
  ·rw[if_neg h];exact g.st
 ·unfold Dl at hc;rcases List.mem_or_eq_of_mem_set hc with h|h
  ·exact g.nn c h
  ·rw[h];exact hv
 ·rw[bp p h0] at hn ⊢;by_cases h:p=r.b
  ·rw[if_pos h] at hn ⊢;rcases Dj (atC cs r.b) (Aq (atC cs r.a) (BS r)) with ⟨e,_⟩|⟨e,_⟩
   ·rw[e] at hn ⊢;subst h;obtain⟨r',h2,h3,h4⟩:=g.sup r.b h0 h1 hp hn;exact⟨r',h2,h3,Aw (Dk _ (le r'.a (As r' h2).a0)) h4⟩
   ·rw[e];exact⟨r,hr,h.symm,Dk _ (le r.a ok.a0)⟩
  ·rw[if_neg h] at hn ⊢;obtain⟨r',h2,h3,h4⟩:=g.sup p h0 h1 hp hn;exact⟨r',h2,h3,Aw (Dk _ (le r'.a (As r' h2).a0)) h4⟩
 ·unfold Dl;rw[h];exact set_same (F0 ok.b0 h8)
 ·unfold Dl;exact WL ltN (F0 ok.b0 h8) ⟨hv,Ga _ _,h⟩
def Right (m s:Nat)(rs:List Road)(cs:List Co):Prop:=
 cs.length=m/\atC cs s=some (0,0)/\(∀c∈cs,NN c)/\∀p:Int,0<=p->p<m->p≠s->atC cs p=Ec ((rs.filter λ r=>decide (r.b=p)).map λ r=>Aq (BS r) (atC cs r.a))
theorem right_of {m s:Nat}{rs:List Road}{cs:List Co}(g:Good m s rs cs)(h:∀r∈rs,EC (atC cs r.b) (Aq (atC cs r.a) (BS r))=atC cs r.b):Right m s rs cs:=by
 refine⟨g.len,g.st,g.nn,λ p h0 h1 hp=>?_⟩;symm;refine RU (λ x hx=>?_) λ hn=>?_
 ·obtain⟨r,hr,rfl⟩:=zae.mp hx;obtain⟨h2,h3⟩:=zal.mp hr;have e:r.b=p:=by simpa using h3
  have:=IC (atC cs r.b) (Aq (atC cs r.a) (BS r));rw[h r h2,e] at this;rw[FF];exact this
 ·obtain⟨r,h2,h3,h4⟩:=g.sup p h0 h1 hp hn;refine⟨_,zae.mpr ⟨r,zal.mpr ⟨h2,by simpa using h3⟩,rfl⟩,?_⟩;rw[FF];exact h4
theorem Vz {m s:Nat}(rs:List Road)(h:s<m):Good m s rs ((za7 m none).set s (some (0,0))):=by
 have hl:(za7 m (none:Co)).length=m:=List.length_replicate;have bp:∀i:Int,0<=i->atC ((za7 m none).set s (some (0,0))) i=if i=s then some (0,0) else none:=λ i hi=>by
  have:=Nu (cs:=za7 m none) (i:=(s:Int)) (j:=i) (v:=some (0,0)) (by omega) hi (by rw[hl];omega);rw[zba] at this;rw[this];by_cases h:i=s
  ·rw[if_pos h,if_pos h]
  ·rw[if_neg h,if_neg h];unfold atC;rw[zar,zc3];split<;>rfl
 refine⟨by rw[zbl,hl],?_,λ c hc=>?_,λ p h0 h1 hp hn=>?_⟩
 ·rw[bp s (by omega),if_pos rfl]
 ·rcases List.mem_or_eq_of_mem_set hc with h|h
  ·rw[List.eq_of_mem_replicate h];trivial
  ·rw[h];exact⟨zco _,zco _⟩
 ·rw[bp p h0,if_neg hp] at hn;exact (hn rfl).elim
theorem qR {α:Type}{l:List α}{n:Int}(h:0<=n/\n<l.length):Wt l n=l[n.toNat]? :=by
 unfold Wt fO;obtain⟨h1,h2⟩:=h;simp[h1,h2]
theorem kL {n:Nat}{j:Int}(h:0<=j/\j<n):fO n j=some j.toNat:=by
 unfold fO;obtain⟨h1,h2⟩:=h;simp[h1,h2]
theorem Gb {α:Type}{f:α->D}{l:List α}{n:Int}{x:α}(h0:0<=n)(h:l[n.toNat]?=some x):sE (.lst (l.map f)) (.int n)=.ok (f x):=by
 have h1:=(za3.mp h).1;unfold sE;dsimp only;rw[qR (by rw[zv];omega),zaa,h];rfl
theorem C8 {cs:List Co}{i:Int}(h0:0<=i)(h1:i<cs.length):sE (.lst (cs.map cst)) (.int i)=.ok (cst (atC cs i)):=Gb h0 (F0 h0 h1)
theorem RV {n:Nat}(c:Co):Pl (n+1) (cst c):=by
 cases c with
 |none=>exact bZ
 |some p=>exact Vl (EZ (Cg _) (EZ (Cg _) Vn))
theorem Xb (a b:Co):Bm (cst a) (cst b)=decide (a=b):=by
 rcases a with _|⟨a1,a2⟩<;>rcases b with _|⟨b1,b2⟩
 ·simp[cst,Bm]
 ·simp[cst,Bm]
 ·simp[cst,Bm]
 ·rw[zcd];simp[cst,Bm,Cb]
theorem kM (a b:Co):Y1 16 (cst a) (cst b)=.ok (.bl (!decide (a=b))):=by rw[RG (RV (n:=15) a) (RV (n:=15) b),Xb]
theorem KS (a b:Co):fP 16 (cst a) (cst b)=.ok (.bl (decide (a=b))):=by rw[RF (RV (n:=15) a) (RV (n:=15) b),Xb]
theorem Xc (c:Co):LH (cst c)=true:=by
 cases c<;>simp[cst,LH,K4]
theorem RW (c:Co):dp (.ok (cst c))=.ok (cst c):=by
 unfold dp;rw[M.Aa,if_pos (Xc c)]
theorem qS {n:Nat}(l:Option Int):Pl n (CN l):=by
 cases l with
 |none=>exact bZ
 |some i=>exact Cg i
theorem vQ (r:Road):Pl 1 (BR r):=Vl (EZ (Cg _) (EZ (Cg _) (EZ (qS r.l) (EZ (Cg _) Vn))))
theorem Bp {a b:Int}(h:0<b):G1 (.int a) (.int b)=.ok (.int (a%b)):=by
 unfold G1 Bg;dsimp only;rw[if_pos h]
theorem BY {a b:Int}(h:Zq a b):Fu (.int a) (.int b)=.ok (.int (a / b)):=by
 unfold Fu Bg;dsimp only;rw[if_pos h]
inductive Wk (rs:List Road):Int->Int->Int×Int->Prop
 |nil (u:Int):Wk rs u u (0,0)
 |cons {r:Road} {l:Int} {w:Int} {c:Int×Int}:r∈rs->r.l=some l->Wk rs r.b w c->Wk rs r.a w (l+c.1,1+c.2)
theorem Wk.trans {rs:List Road}{u v w:Int}{c d:Int×Int}(h:Wk rs u v c)(k:Wk rs v w d):Wk rs u w (c.1+d.1,c.2+d.2):=by
 induction h with
 |nil u=>simpa using k
 |cons hr hl _ ih =>
  have:=Wk.cons hr hl (ih k);simpa [zct] using this
theorem Wk.one {rs:List Road}{r:Road}{l:Int}(hr:r∈rs)(hl:r.l=some l):Wk rs r.a r.b (l,1):=by
 have:=Wk.cons hr hl (Wk.nil (rs:=rs) r.b);simpa using this
def Bk (rs:List Road)(u w:Int)(x:Co):Prop:=(∀c,Wk rs u w c->BG x (some c))/\∀p,x=some p->Wk rs u w p
theorem Bk.C4 {rs:List Road}{u w:Int}{x y:Co}(h:Bk rs u w x)(k:Bk rs u w y):x=y:=by
 refine KO ?_ ?_
 ·cases y with
  |none=>cases x<;>exact trivial
  |some q=>exact h.1 q (k.2 q rfl)
 ·cases x with
  |none=>cases y<;>exact trivial
  |some q=>exact k.1 q (h.2 q rfl)
theorem Hm {r:Road}{c:Int×Int}(h:BS r=some c):∃l,r.l=some l/\c=(l,1):=by
 unfold BS at h;split at h
 ·cases h
 ·rename_i l e;cases h;exact⟨l,e,rfl⟩
theorem Em {a b:Co}{c:Int×Int}(h:Aq a b=some c):∃p q,a=some p/\b=some q/\c=(p.1+q.1,p.2+q.2):=by
 cases a with
 |none=>cases h
 |some p=>cases b with
  |none=>cases h
  |some q=>cases h;exact⟨p,q,rfl,rfl,rfl⟩
theorem Right.min_le {m s:Nat}{rs:List Road}{cs:List Co}(h:Right m s rs cs){r:Road}(hr:r∈rs)(As:ID m r):BG (atC cs r.b) (Aq (BS r) (atC cs r.a)):=by
 obtain⟨h1,h2,h3,h4⟩:=h;by_cases hs:r.b=s
 ·rw[hs,h2];have hn:NN (Aq (BS r) (atC cs r.a)):=dO (mM As) (h3 _ (za9 (F0 As.a0 (by rw[h1];exact As.a1))));cases q:Aq (BS r) (atC cs r.a) with
  |none=>exact trivial
  |some p=>rw[q] at hn;simp only[NN] at hn;simp only[BG];omega
 ·rw[h4 r.b As.b0 As.b1 hs];exact Nt (zae.mpr ⟨r,zal.mpr ⟨hr,by simp⟩,rfl⟩)
theorem Yu {m s:Nat}{rs:List Road}{cs:List Co}(h:Right m s rs cs)(As:∀r∈rs,ID m r){u w:Int}{c:Int×Int}(k:Wk rs u w c):BG (atC cs w) (Aq (atC cs u) (some c)):=by
 induction k with
 |nil u =>
  cases atC cs u with
  |none=>exact trivial
  |some p=>simp only[Aq,BG];omega
 | @cons r l w c hr hl _ ih =>
  refine Aw ih ?_;have h1:=h.min_le hr (As r hr);have e:BS r=some (l,1):=by unfold BS;rw[hl]
  rw[e] at h1;cases q:atC cs r.a with
  |none=>exact trivial
  |some p =>
   rw[q] at h1;cases q2:atC cs r.b with
   |none=>rw[q2] at h1;exact h1.elim
   |some p2=>rw[q2] at h1;simp only[Aq,BG] at *;omega
theorem Yv {m s:Nat}{rs:List Road}{cs:List Co}(h:Right m s rs cs)(As:∀r∈rs,ID m r):∀(n:Nat) (w:Int) (p:Int×Int),0<=w->w<m->atC cs w=some p->p.2.toNat=n->Wk rs s w p:=by
 obtain⟨h1,h2,h3,h4⟩:=h;intro n;induction n with
 |zero =>
  intro w p h0 hw hp hn;by_cases hs:w=s
  ·rw[hs,h2] at hp;cases hp;rw[hs];exact .nil _
  ·exfalso;have e:=h4 w h0 hw hs;rw[hp] at e;rcases KQ ((rs.filter λ r=>decide (r.b=w)).map λ r=>Aq (BS r) (atC cs r.a)) with z|z
   ·rw[z] at e;cases e
   ·rw[<-e] at z;obtain⟨r,hr,e2⟩:=zae.mp z;have aY:=(zal.mp hr).1;obtain⟨p1,p2,e3,e4,e5⟩:=Em e2;obtain⟨l,hl,rfl⟩:=Hm e3;have ok:=As r aY;have nn:=h3 _ (za9 (F0 ok.a0 (by rw[h1];exact ok.a1)));rw[e4] at nn;simp only[NN] at nn;rw[e5] at hn;simp only at hn;omega
 |succ n ih =>
  intro w p h0 hw hp hn;by_cases hs:w=s
  ·rw[hs,h2] at hp;cases hp;rw[hs];exact .nil _
  ·have e:=h4 w h0 hw hs;rw[hp] at e;rcases KQ ((rs.filter λ r=>decide (r.b=w)).map λ r=>Aq (BS r) (atC cs r.a)) with z|z
   ·rw[z] at e;cases e
   ·rw[<-e] at z;obtain⟨r,hr,e2⟩:=zae.mp z;obtain⟨aY,ql⟩:=zal.mp hr;have ql:r.b=w:=by simpa using ql
    obtain⟨p1,p2,e3,e4,e5⟩:=Em e2;obtain⟨l,hl,rfl⟩:=Hm e3;have ok:=As r aY;have nn:=h3 _ (za9 (F0 ok.a0 (by rw[h1];exact ok.a1)));rw[e4] at nn;simp only[NN] at nn;subst e5;simp only at hn;have w1:=ih r.a p2 ok.a0 ok.a1 e4 (by omega);have w2:=w1.trans (Wk.one aY hl);rw[ql] at w2;have e6:((l+p2.1,1+p2.2):Int×Int)=(p2.1+l,p2.2+1):=by rw[Int.add_comm l,Int.add_comm 1]
    show Wk rs s w (l+p2.1,1+p2.2);rw[e6];exact w2
theorem Right.mO {m s:Nat}{rs:List Road}{cs:List Co}(h:Right m s rs cs)(As:∀r∈rs,ID m r){w:Int}(h0:0<=w)(hw:w<m):Bk rs s w (atC cs w):=by
 refine⟨λ c k=>?_,λ p hp=>Yv h As _ w p h0 hw hp rfl⟩;have:=Yu h As k;rw[h.2.1] at this;have e:Aq (some (0,0)) (some c)=some c:=by simp[Aq]
 rw[e] at this;exact this
theorem VA {a b c d:Co}(h:BG a b)(k:BG c d):BG (Aq a c) (Aq b d):=by
 refine Aw (Dk c h) ?_;rw[FF b c,FF b d];exact Dk b k
noncomputable def over (k:Int)(A:Int->Int->Co):Int->Int->Co:=λ x y=>EC (A x y) (Aq (A x k) (A k y))
noncomputable def hit (rs:List Road)(cs:List Co)(p:Nat)(k:Nat):Bool:=match rs[k]? with
 |some r=>decide (r.b=(p:Int))&&decide (Aq (atC cs r.a) (BS r)≠none)&&decide (Aq (atC cs r.a) (BS r)=atC cs (p:Int))
 |none=>false
noncomputable def pbr (rs:List Road)(cs:List Co)(p:Int):Co:=Ec ((rs.filter λ r=>decide (r.a=p)).map λ r=>Aq (BS r) (atC cs r.b))
noncomputable def VB (m:Nat)(rs:List Road)(g:Nat)(cs:List Co):Bool:=(zau m).all λ p=>decide (atC cs (p:Int)=if p=g then some (0,0) else pbr rs cs (p:Int))
theorem Wk.nn {m:Nat}{rs:List Road}(As:∀r∈rs,ID m r){u w:Int}{c:Int×Int}(h:Wk rs u w c):0<=c.1/\0<=c.2:=by
 induction h with
 |nil=>exact⟨zco _,zco _⟩
 |cons hr hl _ ih =>
  have:=(As _ hr).l0 _ hl;simp only;omega
theorem RX {m g:Nat}{rs:List Road}{cs:List Co}(hg:g<m)(As:∀r∈rs,ID m r)(h:∀u:Int,0<=u->u<m->Bk rs u g (atC cs u)):VB m rs g cs=true:=by
 unfold VB;rw[zcx];intro p hp;have hp:=zbo.mp hp;rw[decide_eq_true_eq];have hm:=h p (by omega) (by omega);by_cases e:p=g
 ·rw[if_pos e];subst e;refine KO (hm.1 _ (.nil _)) ?_;cases q:atC cs (p:Int) with
  |none=>exact trivial
  |some c =>
   have:=(hm.2 c q).nn As;simp only[BG];omega
 ·rw[if_neg e];symm;refine RU (λ x hx=>?_) λ hn=>?_
  ·obtain⟨r,hr,rfl⟩:=zae.mp hx;obtain⟨h1,h2⟩:=zal.mp hr;have wk:r.a=(p:Int):=by simpa using h2
   have ok:=As r h1;have hb:=h r.b ok.b0 ok.b1;cases q1:BS r with
   |none =>
    have:Aq none (atC cs r.b)=none:=by cases atC cs r.b<;>rfl
    rw[this];cases atC cs (p:Int)<;>exact trivial
   |some z =>
    obtain⟨l,hl,rfl⟩:=Hm q1;cases q2:atC cs r.b with
    |none =>
     have:Aq (some (l,1)) none=none:=rfl;rw[this];cases atC cs (p:Int)<;>exact trivial
    |some c =>
     have w:=Wk.cons h1 hl (hb.2 c q2);rw[wk] at w;exact hm.1 _ w
  ·obtain⟨c,hc⟩:=Option.ne_none_iff_exists'.mp hn;have w:=hm.2 c hc;rw[hc];generalize zg:(p:Int)=pi at w;cases w with
   |nil=>exact (e (by omega)).elim
   | @cons r l w c' hr hl w' =>
    have ok:=As r hr;have hb:=(h r.b ok.b0 ok.b1).1 c' w';refine⟨_,zae.mpr ⟨r,zal.mpr ⟨hr,by simpa using rfl⟩,rfl⟩,?_⟩;have e1:BS r=some (l,1):=by unfold BS;rw[hl]
    rw[e1];have:=VA (C7 (some (l,1))) hb;exact this
noncomputable def pD (p:Int×Int):D:=.tup [.int p.1,.int p.2]
theorem Gd (p q:Int×Int):Bm (pD p) (pD q)=decide (p=q):=by
 obtain⟨a,b⟩:=p;obtain⟨c,d⟩:=q;unfold pD;simp only[Bm,Cb,Bool.and_true];rw[zcd];simp
theorem Hn (p:Int×Int):keyOk true (pD p)=true:=rfl
theorem Xd (B:List (Int×Int))(p:Int×Int):MK (B.map pD) (pD p)=decide (p∈B):=by
 unfold MK;rw[List.any_map,zcd];simp only[List.any_eq_true,Function.comp,Gd,decide_eq_true_eq];constructor
 ·rintro ⟨x,hx,rfl⟩;exact hx
 ·intro h;exact⟨p,h,rfl⟩
theorem RY (B:List (Int×Int))(vs:List D)(neg:Bool)(a b:Int):Js neg (.tup [.int a,.int b]) (.Bu true (B.map pD) vs)=.ok (.bl (if neg=true then !decide ((a,b)∈B) else decide ((a,b)∈B))):=by
 unfold Js;dsimp only;have h1:keyOk true (D.tup [D.int a,D.int b])=true:=rfl;have h2:MK (B.map pD) (D.tup [D.int a,D.int b])=decide ((a,b)∈B):=Xd B (a,b);rw[if_pos h1,h2]
noncomputable def LM (B:List (Int×Int))(p:Int×Int):List (Int×Int):=if p∈B then B else B++[p]
noncomputable def Dy {α:Type}(B:List α):List D:=B.map λ _=>.bl true
theorem QJ {α:Type}(f:α->D)(y:D):∀B:List α,Jr (B.map f) (Dy B) y (.bl true)=Dy B
 |[]=>rfl
 |b::r=>by
  show Jr (f b::r.map f) (.bl true::Dy r) y (.bl true)=.bl true::Dy r;rw[Jr,QJ f y r];split<;>rfl
theorem Xe (B:List (Int×Int))(p:Int×Int):putD (B.map pD) (Dy B) (pD p) (.bl true)=((LM B p).map pD,Dy (LM B p)):=by
 unfold putD LM;rw[Xd];by_cases h:p∈B
 ·rw[decide_eq_true h,if_pos rfl,if_pos h,QJ]
 ·rw[decide_eq_false h,if_neg (by simp),if_neg h];unfold Dy;simp
theorem TC {B:List (Int×Int)}{p q:Int×Int}:q∈LM B p↔q∈B\/q=p:=by
 unfold LM;split
 ·constructor
  ·exact .inl
  ·rintro (h|rfl)
   ·exact h
   ·assumption
 ·simp
theorem VC {B:List (Int×Int)}{p:Int×Int}(h:B.Nodup):(LM B p).Nodup:=by
 unfold LM;split
 ·exact h
 ·rename_i hn;exact zaj.mpr ⟨h,by simp,λ a ha b hb z=>by simp at hb;subst hb;subst z;exact hn ha⟩
theorem En {α:Type}[DecidableEq α]:∀ {l u:List α},l.Nodup->(∀x∈l,x∈u)->l.length<=u.length
 |[],_,_,_=>zb1 _
 |x::r,u,nd,h=>by
  have aM:=zaw.mp nd;have hx:=h x zw;have ih:=En (l:=r) (u:=u.erase x) aM.2 λ y hy=>(List.mem_erase_of_ne (λ z=>aM.1 (by rw[<-z];exact hy))).mpr (h y (zx _ hy));have e:=List.length_erase_of_mem hx;have:0<u.length:=List.length_pos_of_mem hx;rw[z5];omega
theorem dP (p:Int×Int):LH (pD p)=true:=by simp[pD,LH,K4]
noncomputable def BJ (m:Nat):List Int:=(zau m).map λ i:Nat=>(i:Int)
theorem Oo (m:Nat):((zau m).map λ i:Nat=>D.int (i:Int))=(BJ m).map D.int:=by unfold BJ;rw[zbf];rfl
theorem Dz (m:Nat):(BJ m).length=m:=by unfold BJ;simp
theorem FG {m:Nat}{p:Int}:p∈BJ m↔0<=p/\p<m:=by
 unfold BJ;constructor
 ·intro h;obtain⟨i,hi,rfl⟩:=zae.mp h;have:=zbo.mp hi;omega
 ·rintro ⟨h0,h1⟩;exact zae.mpr ⟨p.toNat,zbo.mpr (by omega),by omega⟩
noncomputable def Bb (B:List (Int×Int))(L:List Int)(v:Int):List (Int×Int):=(L.filter λ u=>decide ((u,v)∈B)).flatMap λ u=>((L.filter λ w=>decide ((v,w)∈B)).filter λ w=>decide (u≠w) && !decide ((u,w)∈B)).map λ w=>(u,w)
def qT (B:List (Int×Int)):Prop:=∀x,(x,x)∉B
theorem Yw (B:List (Int×Int))(L:List Int)(v:Int):(Bb B L v).length<=L.length*L.length:=by
 unfold Bb;rw[List.length_flatMap];have key:∀l:List Int,(l.map λ u=>(((L.filter λ w=>decide ((v,w)∈B)).filter λ w=>decide (u≠w) && !decide ((u,w)∈B)).map λ w=>(u,w)).length).sum<=l.length*L.length:=by
  intro l;induction l with
  |nil=>simp
  |cons u r ih =>
   rw[zy,List.sum_cons,z5,Nat.succ_mul];have:(((L.filter λ w=>decide ((v,w)∈B)).filter λ w=>decide (u≠w) && !decide ((u,w)∈B)).map λ w=>(u,w)).length<=L.length:=by
    rw[zv];exact zbb (zcm _ _) (zcm _ _)
   omega
 exact zbb (key _) (Nat.mul_le_mul_right _ (zcm _ _))
theorem QK {α:Type}(f:α->List Int):∀l:List α,Ha (l.map λ x=>D.tup ((f x).map D.int))=some (l.map λ x=>(D.tup ((f x).map D.int),f x))
 |[]=>rfl
 |x::r=>by
  rw[zy,Ha,QK f r];simp[bU,Ej]
theorem QL {B:List (Int×Int)}{L:List Int}{v:Int}{p:Int×Int}(h:p∈Bb B L v):p.1∈L/\p.2∈L/\p.1≠p.2:=by
 unfold Bb at h;obtain⟨u,hu,h⟩:=List.mem_flatMap.mp h;obtain⟨w,hw,rfl⟩:=zae.mp h;have h1:=zal.mp hw;have h2:=zal.mp h1.1;have h3:=zal.mp hu;simp at h1;exact⟨h3.1,h2.1,h1.2.1⟩
noncomputable def Ci (B ps:List (Int×Int)):List (Int×Int):=ps.foldl LM B
structure Cj (m:Nat)(B:List (Int×Int)):Prop where
 nd:B.Nodup
 no:qT B
 inn:∀p∈B,(0<=p.1/\p.1<m)/\(0<=p.2/\p.2<m)
theorem Cj.add {m:Nat}{B:List (Int×Int)}(h:Cj m B){p:Int×Int}(hp:p.1≠p.2)(h1:0<=p.1/\p.1<m)(h2:0<=p.2/\p.2<m):Cj m (LM B p):=by
 refine⟨VC h.nd,λ x hx=>?_,λ q hq=>?_⟩
 ·rcases TC.mp hx with z|z
  ·exact h.no x z
  ·subst z;exact hp rfl
 ·rcases TC.mp hq with z|z
  ·exact h.inn q z
  ·subst z;exact⟨h1,h2⟩
theorem Cj.Ci {m:Nat}{B:List (Int×Int)}(h:Cj m B):∀ {ps:List (Int×Int)},(∀p∈ps,p.1≠p.2/\(0<=p.1/\p.1<m)/\(0<=p.2/\p.2<m))->Cj m (L2.Ci B ps):=by
 intro ps;induction ps generalizing B with
 |nil=>intro _;exact h
 |cons p r ih =>
  intro hp;have:=hp p zw;exact ih (h.add this.1 this.2.1 this.2.2) λ q hq=>hp q (zx _ hq)
theorem Cj.len {m:Nat}{B:List (Int×Int)}(h:Cj m B)(hm:m<=20):B.length<1000:=by
 have key:=En (l:=B) (u:=(zau m).flatMap λ i:Nat=>(zau m).map λ j:Nat=>((i:Int),(j:Int))) h.nd λ p hp=>by
  obtain⟨h1,h2⟩:=h.inn p hp;refine List.mem_flatMap.mpr ⟨p.1.toNat,zbo.mpr (by omega),zae.mpr ⟨p.2.toNat,zbo.mpr (by omega),?_⟩⟩;rw[Int.toNat_of_nonneg h1.1,Int.toNat_of_nonneg h2.1]
 have e:((zau m).flatMap λ i:Nat=>(zau m).map λ j:Nat=>((i:Int),(j:Int))).length=m*m:=by
  rw[List.length_flatMap];simp[List.map_const',List.sum_replicate_nat]
 rw[e] at key;have:m*m<=20*20:=Nat.mul_le_mul hm hm;omega
theorem Fg (a b c d:Int):HT.lexLt [a,b] [c,d]=decide (a<c\/(a=c/\b<d)):=by
 rw[HT.FX,HT.FX,HT.Fb,zcd];by_cases h1:a=c
 ·subst h1;by_cases h2:b=d
  ·subst h2;simp
  ·simp[h2]
 ·simp[h1]
theorem Yx {α β:Type}(f:α->β):∀bs:List (α×List Int),Be (bs.map λ b=>(f b.1,b.2))=(Be bs).map λ b=>(f b.1,b.2):=by
 intro bs;unfold Be
 suffices z:∀o:Option (α×List Int),(bs.map λ b=>(f b.1,b.2)).foldl BK (o.map λ b=>(f b.1,b.2))=(bs.foldl BK o).map λ b=>(f b.1,b.2) from z none
 induction bs with
 |nil=>intro o;rfl
 |cons b r ih =>
  intro o;rw[zy,zah,zah,<-ih];congr 1;cases o with
  |none=>rfl
  |some c =>
   unfold BK;dsimp only [zb8];split<;>rfl
theorem dQ {α:Type}:∀(bs:List (α×List Int)) (o:Option (α×List Int)) (b:α×List Int),bs.foldl BK o=some b->b∈bs\/o=some b:=by
 intro bs;induction bs with
 |nil=>intro o b h;exact .inr h
 |cons x r ih =>
  intro o b h;rw[zah] at h;rcases ih _ _ h with q|q
  ·exact .inl (zx _ q)
  ·cases o with
   |none=>cases q;exact .inl zw
   |some c =>
    unfold BK at q;dsimp only at q;split at q
    ·cases q;exact .inl zw
    ·exact .inr q
theorem Yy {α:Type}{bs:List (α×List Int)}(h2:∀b∈bs,∃x y:Int,b.2=[x,y]){b:α×List Int}(hb:Be bs=some b):∀c∈bs,HT.lexLt c.2 b.2=false:=by
 unfold Be at hb
 suffices z:∀(bs:List (α×List Int)) (o:Option (α×List Int)),(∀b∈bs,∃x y:Int,b.2=[x,y])->(∀b,o=some b->∃x y:Int,b.2=[x,y])->∀b,bs.foldl BK o=some b->(∀c∈bs,HT.lexLt c.2 b.2=false)/\(∀c,o=some c->HT.lexLt c.2 b.2=false) from (z bs none h2 (λ b h=>by cases h) b hb).1
 intro bs;induction bs with
 |nil =>
  intro o _ ho b h;refine⟨λ c hc=>(by cases hc),λ c hc=>?_⟩;have e:o=some b:=h;rw[hc] at e;cases e;obtain⟨x,y,e⟩:=ho _ hc;rw[e,Fg];simp
 |cons d r ih =>
  intro o h2 ho b h;rw[zah] at h;have hd:=h2 d zw;have aD:∀b,BK o d=some b->∃x y:Int,b.2=[x,y]:=λ b hb=>by
   unfold BK at hb;cases o with
   |none=>cases hb;exact hd
   |some c =>
    dsimp only at hb;split at hb
    ·cases hb;exact hd
    ·cases hb;exact ho _ rfl
  obtain⟨i1,i2⟩:=ih (BK o d) (λ c hc=>h2 c (zx _ hc)) aD b h;have wl:=Jl o d;obtain⟨k,hk⟩:∃k,BK o d=some k:=by
   cases q:BK o d with
   |none=>exact (wl q).elim
   |some k=>exact⟨k,rfl⟩
  have wm:=i2 k hk;obtain⟨kx,ky,ek⟩:=aD k hk;have fb:∃x y:Int,b.2=[x,y]:=by
   have:=dQ r (BK o d) b h;rcases this with z|z
   ·exact h2 b (zx _ z)
   ·exact aD b z
  obtain⟨bx,zh,eb⟩:=fb;obtain⟨dx,dy,ed⟩:=hd;rw[ek,eb,Fg,decide_eq_false_iff_not] at wm;have cf:HT.lexLt d.2 b.2=false/\∀c,o=some c->HT.lexLt c.2 b.2=false:=by
   unfold BK at hk;cases o with
   |none =>
    cases hk;rw[ed] at ek;injection ek with e1 e2
    injection e2 with e2 _
    refine⟨?_,λ c hc=>by cases hc⟩;rw[ed,eb,Fg,decide_eq_false_iff_not];omega
   |some c =>
    obtain⟨cx,cy,ec⟩:=ho c rfl;dsimp only at hk;rw[ed,ec,Fg] at hk;by_cases hl:dx<cx\/(dx=cx/\dy<cy)
    ·rw[if_pos (decide_eq_true hl)] at hk;cases hk;rw[ed] at ek;injection ek with e1 e2
     injection e2 with e2 _
     refine⟨?_,λ c' bq=>?_⟩
     ·rw[ed,eb,Fg,decide_eq_false_iff_not];omega
     ·cases bq;rw[ec,eb,Fg,decide_eq_false_iff_not];omega
    ·rw[if_neg (by simpa using hl)] at hk;cases hk;rw[ec] at ek;injection ek with e1 e2
     injection e2 with e2 _
     refine⟨?_,λ c' bq=>?_⟩
     ·rw[ed,eb,Fg,decide_eq_false_iff_not];omega
     ·cases bq;rw[ec,eb,Fg,decide_eq_false_iff_not];omega
  refine⟨λ c hc=>?_,cf.2⟩;rcases z8.mp hc with z|z
  ·rw[z];exact cf.1
  ·exact i1 c z
noncomputable def Bz (B:List (Int×Int))(L:List Int):Int:=match Be (L.map λ p=>(p,[((Bb B L p).length:Int),p])) with
 |some k=>k.1
 |none=>0
theorem QM {B:List (Int×Int)}{L:List Int}(h:L≠[]):Bz B L∈L/\∀p∈L,¬ (((Bb B L p).length:Int)<(Bb B L (Bz B L)).length\/(((Bb B L p).length:Int)=(Bb B L (Bz B L)).length/\p<Bz B L)):=by
 unfold Bz;cases q:Be (L.map λ p=>(p,[((Bb B L p).length:Int),p])) with
 |none=>exact (NU (λ z=>h (List.map_eq_nil_iff.mp z)) q).elim
 |some k =>
  obtain⟨p,hp,rfl⟩:=zae.mp (Qs _ _ q);refine⟨hp,λ p' i4=>?_⟩;have:=Yy (λ b hb=>by obtain⟨x,_,rfl⟩:=zae.mp hb;exact⟨_,_,rfl⟩) q _ (zae.mpr ⟨p',i4,rfl⟩);rw[Fg,decide_eq_false_iff_not] at this;exact this
noncomputable def Yz:Nat->List (Int×Int)->List Int->List Int
 |0,_,_=>[]
 |n+1,B,L=>if L=[] then [] else Bz B L::Yz n (Ci B (Bb B L (Bz B L))) (L.erase (Bz B L))
noncomputable def C9 (rs:List Road):List (Int×Int):=rs.foldl (λ B r=>match r.l with | none=>B | some _=>LM B (r.a,r.b)) []
theorem TF {m:Nat}:∀ {rs:List Road},(∀r∈rs,ID m r/\r.a≠r.b)->Cj m (C9 rs):=by
 intro rs
 suffices z:∀(rs:List Road) (B:List (Int×Int)),Cj m B->(∀r∈rs,ID m r/\r.a≠r.b)->Cj m (rs.foldl (λ B r=>match r.l with|none=>B|some _=>LM B (r.a,r.b)) B) from λ h=>z rs [] ⟨zbn,λ x h=>(by cases h),λ p h=>(by cases h)⟩ h
 intro rs;induction rs with
 |nil=>intro B h _;exact h
 |cons r t ih =>
  intro B h hr;rw[zah];refine ih _ ?_ λ r' h'=>hr r' (zx _ h');have:=hr r zw;cases r.l with
  |none=>exact h
  |some l=>exact h.add this.2 ⟨this.1.a0,this.1.a1⟩ ⟨this.1.b0,this.1.b1⟩
theorem FH {f:Int->Int->M D}{a b:Int}:Bg f (.int a) (.int b)=f a b:=rfl
theorem Ho {bs:List Bool}:Y7 [.lst (bs.map D.bl)]=.ok (.bl (bs.all id)):=by unfold Y7;dsimp only;rw[O3]
theorem KU {bs:List Bool}:uW [.lst (bs.map D.bl)]=.ok (.bl (bs.any id)):=by unfold uW;dsimp only;rw[O3]
theorem Nv {a b:List D}(h:a.length+b.length<=1000):Md (.lst a) (.lst b)=.ok (.lst ((a++b).map .sh)):=if_pos h
theorem TH (m:Nat):(BJ m).Pairwise (·<=·):=by
 unfold BJ;rw[List.pairwise_map];exact (List.pairwise_lt_range (n:=m)).imp λ h=>by omega
theorem Oq (m:Nat):(BJ m).Nodup:=by
 unfold BJ List.Nodup;rw[List.pairwise_map];exact (List.pairwise_lt_range (n:=m)).imp λ h=>by omega
theorem YA {m:Nat}{L:List Int}:Hj L=BJ m↔L.Perm (BJ m):=
 ⟨λ h=>by rw[<-h];exact (EB L).symm,λ h=>Hk ((EB L).trans h) (G9 L) (TH m)⟩
theorem KW {m:Nat}{L:List Int}(h:L.Perm (BJ m)):L.length=m:=by rw[h.length_eq,Dz]
theorem B6 {m:Nat}{L:List Int}(h:L.Perm (BJ m)){p:Int}:p∈L↔0<=p/\p<m:=by rw[h.mem_iff,FG]
theorem Ge {m:Nat}{L:List Int}(h:L.Perm (BJ m)):L.Nodup:=h.nodup_iff.mpr (Oq m)
theorem QN:∀ {a b:List Int},Cb (a.map D.int) (b.map D.int)=decide (a=b)
 |[],[]=>by simp[Cb]
 |[],y::t=>by simp[Cb]
 |x::r,[]=>by simp[Cb]
 |x::r,y::t=>by
  rw[zy,zy,Cb,QN,Bm];by_cases h:x=y<;>by_cases k:r=t<;>simp[h,k]
theorem dR {a b:List Int}:Bm (.lst (a.map D.int)) (.lst (b.map D.int))=decide (a=b):=by rw[Bm];exact QN
theorem dS {a b:List Int}:fP 16 (.lst (a.map D.int)) (.lst (b.map D.int))=.ok (.bl (decide (a=b))):=by rw[RF (WJ (n:=15) a) (WJ (n:=15) b),dR]
theorem KY {i:Nat}{ρ:Ad}{ds:List D}{d:D}{p:Int}(hi:ρ[i]?=some (some (.own ds)))(h0:0<=p)(h1:p<ds.length):iR i ρ (.ok (.int p)) d=.ok (.next (ρ.set i (some (.own (ds.set p.toNat d))))):=by
 unfold iR;rw[hi];dsimp only;rw[M.Aa];unfold pW;dsimp only;rw[kL ⟨h0,h1⟩]
theorem kN {ρ:Ad}:cG 0 (none::ρ)=none::ρ:=rfl
theorem dU:∃T Q:Int,Y0 (.int 10) (.int 60)=.ok (.int T)/\Y0 (.int 982451653) (.int 7)=.ok (.int Q)/\1000000<T/\T.natAbs<2^200/\0<Q/\Q.natAbs<2^250:=⟨10^60,982451653^7,rfl,rfl,by decide,by decide,by decide,by decide⟩
noncomputable def QO:Int:=z3 dU
theorem mP:∃Q:Int,Y0 (.int 10) (.int 60)=.ok (.int QO)/\Y0 (.int 982451653) (.int 7)=.ok (.int Q)/\1000000<QO/\QO.natAbs<2^200/\0<Q/\Q.natAbs<2^250:=zu dU
theorem mQ:Y0 (.int 10) (.int 60)=.ok (.int QO):=(zu mP).1
theorem VD:1000000<QO:=(zu mP).2.2.1
theorem kO {i:Int}:G1 (.int i) (.int QO)=.ok (.int (i%QO)):=Bp (by have:=VD;omega)
def cl:Nat->D->Prop
 |0,d=>uQ d=false
 |n+1,d=>uQ d=false/\∀ds,(d=.tup ds\/d=.lst ds)->∀e∈ds,cl n e
structure LN (m:Nat)(r:Road):Prop where
 a0:0<=r.a
 a1:r.a<m
 b0:0<=r.b
 b1:r.b<m
 ab:r.a≠r.b
 l0:∀l,r.l=some l->0<=l/\l<QO
 w0:0<=r.w
 w1:r.w<QO
theorem dW {S:List D}{q:Int}(h:0<S.length)(h0:0<=q):G1 (.int q) (.int (S.length:Int))=.ok (.int (q%S.length))/\∃y,y∈S/\AE (.lst S) (.int (q%(S.length:Int)))=.ok y:=by
 have bv:(0:Int)<(S.length:Int):=by omega
 have b0:0<=q%(S.length:Int):=zbq _ (by omega);have b1:q%(S.length:Int)<S.length:=zbr _ bv;refine⟨Bp bv,S[(q%(S.length:Int)).toNat]'(by omega),List.getElem_mem _,?_⟩;have:=Gb (f:=λ d:D=>d) (l:=S) b0 (z4 (by omega));rw[List.map_id'] at this;exact this
theorem kQ {a b:OT}:er (.tup [a,b])=.tup [er a,er b]:=by simp[er,UI]
section
variable {α β:Type}{a b c d e f g:α}{x y:β}
theorem kR:(if [a,b,c,d,e].length<=1000 then x else y)=x:=rfl
theorem kS:(if [a,b,c,d,e,f].length<=1000 then x else y)=x:=rfl
theorem kT:(if [a,b,c,d,e,f,g].length<=1000 then x else y)=x:=rfl
theorem Nw {t:Bool}:er (.Bu t [] [])=.Bu t [] []:=by simp[er,UI]
end
structure UL (m:Nat)(rs:List Road)(rk:Int->Nat)(Af:Int->Int->Co):Prop where
 snd:∀x y c,Af x y=some c->Wk rs x y c/\x≠y/\(0<=x/\x<m)/\0<=y/\y<m
 road:∀r∈rs,BG (Af r.a r.b) (BS r)
 tri:∀p x y,x≠y->rk p<rk x->rk p<rk y->BG (Af x y) (Aq (Af x p) (Af p y))
 inj:∀x y:Int,0<=x->x<m->0<=y->y<m->rk x=rk y->x=y
 nn:∀x y c,Wk rs x y c->0<=c.1/\0<=c.2
inductive KZ (Af:Int->Int->Co) (rk:Int->Nat) (s:Int):Int->Int×Int->Prop
 |nil:KZ Af rk s s (0,0)
 |snoc {x y:Int} {c d:Int×Int}:KZ Af rk s x c->rk x<rk y->Af x y=some d->KZ Af rk s y (c.1+d.1,c.2+d.2)
inductive RZ (Af:Int->Int->Co) (rk:Int->Nat) (t:Int):Nat->Int->Int×Int->Prop
 |nil:RZ Af rk t 0 t (0,0)
 |snoc {n:Nat} {x y:Int} {c d:Int×Int}:RZ Af rk t n x c->rk y<rk x->Af x y=some d->RZ Af rk t (n+1) y (c.1+d.1,c.2+d.2)
def Nx (p q:Int×Int):Prop:=p.1<q.1\/(p.1=q.1/\p.2<=q.2)
theorem Ot {a:Co}{q:Int×Int}(h:BG a (some q)):∃p,a=some p/\Nx p q:=by
 cases a with
 |none=>exact h.elim
 |some p=>exact⟨p,rfl,h⟩
def UD (Af:Int->Int->Co)(rk:Int->Nat)(s w:Int)(c:Int×Int):Prop:=∃t n c1 c2,KZ Af rk s t c1/\RZ Af rk t n w c2/\Nx (c1.1+c2.1,c1.2+c2.2) c
section
variable {m:Nat}{rs:List Road}{rk:Int->Nat}{Af Cf:Int->Int->Co}{s w:Int}
theorem KZ.walk (L:UL m rs rk Af){t:Int}{c:Int×Int}(h:KZ Af rk s t c):Wk rs s t c:=by
 induction h with
 |nil=>exact .nil s
 |snoc _ _ ha ih=>exact ih.trans (L.snd _ _ _ ha).1
theorem RZ.walk (L:UL m rs rk Af){t x:Int}{n:Nat}{c:Int×Int}(h:RZ Af rk t n x c):Wk rs t x c:=by
 induction h with
 |nil=>exact .nil t
 |snoc _ _ ha ih=>exact ih.trans (L.snd _ _ _ ha).1
theorem qU (L:UL m rs rk Af):∀(n:Nat){t x y:Int}{c1 c2 d:Int×Int},KZ Af rk s t c1->RZ Af rk t n x c2->Af x y=some d->UD Af rk s y (c1.1+c2.1+d.1,c1.2+c2.2+d.2):=by
 intro n;induction n with
 |zero =>
  intro t x y c1 c2 d hu hd ha;obtain⟨_,ac,hx,hy⟩:=L.snd _ _ _ ha;cases hd with
  |nil =>
   by_cases h:rk y<rk t
   ·exact⟨t,1,c1,_,hu,.snoc .nil h ha,by simp only[Nx];omega⟩
   ·have h2:rk t<rk y:=by
     have hq:rk t≠rk y:=λ e=>ac (L.inj t y hx.1 hx.2 hy.1 hy.2 e);omega
    exact⟨y,0,_,_,.snoc hu h2 ha,.nil,by simp only[Nx];omega⟩
 |succ n ih =>
  intro t x y c1 c2 d hu hd ha;obtain⟨hw,ac,hx,hy⟩:=L.snd _ _ _ ha;by_cases h:rk y<rk x
  ·exact⟨t,n+2,c1,_,hu,.snoc hd h ha,by simp only[Nx];omega⟩
  ·have h2:rk x<rk y:=by
    have hq:rk x≠rk y:=λ e=>ac (L.inj x y hx.1 hx.2 hy.1 hy.2 e);omega
   cases hd with
   | @snoc _ z _ c e aO hr b6 =>
    have n1:=L.nn _ _ _ hw;have n2:=L.nn _ _ _ (L.snd _ _ _ b6).1;by_cases hz:z=y
    ·subst hz;exact⟨t,n,c1,c,hu,aO,by simp only[Nx];omega⟩
    ·have q:=L.tri x z y hz hr h2;rw[b6,ha] at q;obtain⟨f,hf,hle⟩:=Ot q;obtain⟨t',n',jn,jo,g1,g2,g3⟩:=ih hu aO hf;refine⟨t',n',jn,jo,g1,g2,?_⟩;simp only[Nx] at *;omega
theorem kU (L:UL m rs rk Af){u:Int}{c:Int×Int}(h:Wk rs u w c):∀ {c0:Int×Int},UD Af rk s u c0->UD Af rk s w (c0.1+c.1,c0.2+c.2):=by
 induction h with
 |nil u =>
  intro c0 h;simpa using h
 | @cons r l w c hr hl _ ih =>
  intro c0 h0;obtain⟨t,n,c1,c2,g1,g2,g3⟩:=h0;have q:=L.road r hr;unfold BS at q;rw[hl] at q;obtain⟨d,hd,hle⟩:=Ot q;obtain⟨t',n',jn,jo,k1,k2,k3⟩:=qU L n g1 g2 hd;have r1:=@ih (c0.1+l,c0.2+1) ⟨t',n',jn,jo,k1,k2,by simp only[Nx] at *;omega⟩;simpa [zct] using r1
def Kept (rs:List Road)(Af Cf:Int->Int->Co):Prop:=∀x y c,Cf x y=some c↔(Af x y=some c/\Bk rs x y (some c))
theorem kW (L:UL m rs rk Af)(K:Kept rs Af Cf){t:Int}{c1:Int×Int}(h:KZ Af rk s t c1):∀ {c2:Int×Int},Wk rs t w c2->(∀c,Wk rs s w c->Nx (c1.1+c2.1,c1.2+c2.2) c)->KZ Cf rk s t c1:=by
 induction h with
 |nil=>exact λ _ _=>.nil
 | @snoc x y c d hu hr ha ih =>
  intro c2 hw hm;have b6:=(L.snd _ _ _ ha).1;refine .snoc (ih (c2:=(d.1+c2.1,d.2+c2.2)) (b6.trans hw) λ c' bq=>?_) hr ((K x y d).mpr ⟨ha,λ e he=>?_,λ p hp=>by cases hp;exact b6⟩)
  ·have:=hm c' bq;simp only[Nx] at *;omega
  ·have:=hm _ (((hu.walk L).trans he).trans hw);simp only[Nx,BG] at *;omega
theorem kX (L:UL m rs rk Af)(K:Kept rs Af Cf){t x:Int}{n:Nat}{c2:Int×Int}{c1:Int×Int}(hs:Wk rs s t c1)(h:RZ Af rk t n x c2):(∀c,Wk rs s x c->Nx (c1.1+c2.1,c1.2+c2.2) c)->RZ Cf rk t n x c2:=by
 induction h with
 |nil=>exact λ _=>.nil
 | @snoc n x y c d hd hr ha ih =>
  intro hm;have b6:=(L.snd _ _ _ ha).1;refine .snoc (ih λ c' bq=>?_) hr ((K x y d).mpr ⟨ha,λ e he=>?_,λ p hp=>by cases hp;exact b6⟩)
  ·have:=hm _ (bq.trans b6);simp only[Nx] at *;omega
  ·have:=hm _ ((hs.trans (hd.walk L)).trans he);simp only[Nx,BG] at *;omega
theorem TJ (L:UL m rs rk Af)(K:Kept rs Af Cf){c:Int×Int}(h:Bk rs s w (some c)):∃t n c1 c2,KZ Cf rk s t c1/\RZ Cf rk t n w c2/\c=(c1.1+c2.1,c1.2+c2.2):=by
 obtain⟨t,n,c1,c2,g1,g2,g3⟩:=kU L (h.2 c rfl) (c0:=(0,0)) ⟨s,0,_,_,.nil,.nil,by simp[Nx]⟩;have hw:=(g1.walk L).trans (g2.walk L);have q:=h.1 _ hw;have e:c=(c1.1+c2.1,c1.2+c2.2):=by
  obtain⟨a,b⟩:=c;simp only[Nx,BG] at *;refine Prod.ext ?_ ?_<;>dsimp only<;>omega
 refine⟨t,n,c1,c2,kW L K g1 (g2.walk L) λ c' bq=>?_,kX L K (g1.walk L) g2 λ c' bq=>?_,e⟩
 ·have:=h.1 _ bq;rw[e] at this;exact this
 ·have:=h.1 _ bq;rw[e] at this;exact this
structure xG (rk:Int->Nat)(Cf:Int->Int->Co)(s:Int)(R:Int->Co):Prop where
 st:BG (R s) (some (0,0))
 cl:∀x y,rk x<rk y->BG (R y) (Aq (R x) (Cf x y))
 sd:∀x c,R x=some c->KZ Cf rk s x c
theorem xG.le {R:Int->Co}(h:xG rk Cf s R){t:Int}{c:Int×Int}(u:KZ Cf rk s t c):BG (R t) (some c):=by
 induction u with
 |nil=>exact h.st
 | @snoc x y c d hu hr ha ih =>
  refine Aw (h.cl x y hr) ?_;rw[ha];exact Dk (some d) ih
structure xH (rk:Int->Nat)(Cf:Int->Int->Co)(s:Int)(R T:Int->Co)(m:Nat):Prop where
 top:∀x:Int,0<=x->x<m->BG (T x) (R x)
 cl:∀x y:Int,0<=x->x<m->0<=y->y<m->rk y<rk x->BG (T y) (Aq (T x) (Cf x y))
 sd:∀x c,T x=some c->∃t n c1 c2,KZ Cf rk s t c1/\RZ Cf rk t n x c2/\c=(c1.1+c2.1,c1.2+c2.2)
theorem Kept.Zc (K:Kept rs Af Cf){x y:Int}{c:Int×Int}(h:Cf x y=some c):Af x y=some c:=((K x y c).mp h).1
theorem KZ.of_kept (K:Kept rs Af Cf){t:Int}{c:Int×Int}(h:KZ Cf rk s t c):KZ Af rk s t c:=by
 induction h with
 |nil=>exact .nil
 |snoc _ hr ha ih=>exact .snoc ih hr (K.Zc ha)
theorem RZ.of_kept (K:Kept rs Af Cf){t x:Int}{n:Nat}{c:Int×Int}(h:RZ Cf rk t n x c):RZ Af rk t n x c:=by
 induction h with
 |nil=>exact .nil
 |snoc _ hr ha ih=>exact .snoc ih hr (K.Zc ha)
theorem vR (L:UL m rs rk Af)(K:Kept rs Af Cf){t x:Int}{n:Nat}{c:Int×Int}(h:RZ Cf rk t n x c)(ht:0<=t/\t<m):0<=x/\x<m:=by
 cases h with
 |nil=>exact ht
 |snoc _ hr ha=>exact (L.snd _ _ _ (K.Zc ha)).2.2.2
theorem vS (L:UL m rs rk Af)(K:Kept rs Af Cf){t:Int}{c:Int×Int}(h:KZ Cf rk s t c)(ht:0<=s/\s<m):0<=t/\t<m:=by
 cases h with
 |nil=>exact ht
 |snoc _ hr ha=>exact (L.snd _ _ _ (K.Zc ha)).2.2.2
theorem xH.le (L:UL m rs rk Af)(K:Kept rs Af Cf){R T:Int->Co}(h:xH rk Cf s R T m){t x:Int}{n:Nat}{c1 c2:Int×Int}(ht:0<=t/\t<m)(hT:BG (T t) (some c1))(u:RZ Cf rk t n x c2):BG (T x) (some (c1.1+c2.1,c1.2+c2.2)):=by
 induction u with
 |nil=>simpa using hT
 | @snoc n x y c d hd hr ha ih =>
  have hx:=vR L K hd ht;have hy:=(L.snd _ _ _ (K.Zc ha)).2.2.2;refine Aw (h.cl x y hx.1 hx.2 hy.1 hy.2 hr) ?_;rw[ha];have:=Dk (some d) ih;simp only[Aq,zct] at this;exact this
theorem YB (L:UL m rs rk Af)(K:Kept rs Af Cf){R T:Int->Co}(hs:0<=s/\s<m)(hR:xG rk Cf s R)(hT:xH rk Cf s R T m){x:Co}(hx:Bk rs s w x):Bk rs s w (T w):=by
 have key:BG (T w) x:=by
  cases x with
  |none=>cases T w<;>exact trivial
  |some c =>
   obtain⟨t,n,c1,c2,g1,g2,e⟩:=TJ L K hx;have ht:=vS L K g1 hs;rw[e];exact hT.le L K ht (Aw (hT.top t ht.1 ht.2) (hR.le g1)) g2
 refine⟨λ c hc=>Aw key (hx.1 c hc),λ p hp=>?_⟩;obtain⟨t,n,c1,c2,g1,g2,rfl⟩:=hT.sd w p hp;exact ((g1.of_kept K).walk L).trans ((g2.of_kept K).walk L)
end
theorem Wk.turn {rs:List Road}{u w:Int}{c:Int×Int}(h:Wk rs u w c):Wk (rs.map KR) w u c:=by
 induction h with
 |nil u=>exact .nil u
 | @cons r l w c hr hl _ ih =>
  have h1:Wk (rs.map KR) (KR r).a (KR r).b (l,1):=Wk.one (zae.mpr ⟨r,hr,rfl⟩) hl;have:=ih.trans h1;have e:(c.1+l,c.2+1)=(l+c.1,1+c.2):=by rw[Int.add_comm,Int.add_comm c.2]
  rw[<-e];exact this
theorem FI (rs:List Road):(rs.map KR).map KR=rs:=by
 rw[zbf];exact (List.map_congr_left λ r _=>rfl).trans (List.map_id rs)
theorem Bk.turn {rs:List Road}{u w:Int}{x:Co}(h:Bk rs u w x):Bk (rs.map KR) w u x:=by
 refine⟨λ c hc=>h.1 c ?_,λ p hp=>(h.2 p hp).turn⟩;have:=hc.turn;rw[FI] at this;exact this
theorem UL.turn {m:Nat}{rs:List Road}{rk:Int->Nat}{Af:Int->Int->Co}(L:UL m rs rk Af):UL m (rs.map KR) rk (λ x y=>Af y x):=by
 refine⟨λ x y c h=>?_,λ r hr=>?_,λ p x y ac h1 h2=>?_,L.inj,λ x y c h=>?_⟩
 ·obtain⟨a,b,c,d⟩:=L.snd _ _ _ h;exact⟨a.turn,zb3 b,d,c⟩
 ·obtain⟨r',bA,rfl⟩:=zae.mp hr;exact L.road r' bA
 ·rw[FF];exact L.tri p y x (zb3 ac) h2 h1
 ·have:=h.turn;rw[FI] at this;exact L.nn _ _ _ this
theorem Kept.turn {rs:List Road}{Af Cf:Int->Int->Co}(K:Kept rs Af Cf):Kept (rs.map KR) (λ x y=>Af y x) (λ x y=>Cf y x):=λ x y c=>by
 refine (K y x c).trans ⟨λ h=>⟨h.1,h.2.turn⟩,λ h=>⟨h.1,?_⟩⟩;have:=h.2.turn;rw[FI] at this;exact this
section
variable {κ β:Type} [DecidableEq κ]
noncomputable def Ao:List (κ×β)->κ->Option β
 |[],_=>none
 |(k,v)::r,x=>if k=x then some v else Ao r x
noncomputable def Dm (A:List (κ×β))(k:κ)(v:β):List (κ×β):=if (Ao A k).isSome=true then A.map λ kv=>if kv.1=k then (kv.1,v) else kv else A++[(k,v)]
theorem S0 (k j:κ)(v:β):∀A:List (κ×β),Ao (A.map λ kv=>if kv.1=k then (kv.1,v) else kv) j=if j=k then (Ao A j).map λ _=>v else Ao A j
 |[]=>by simp[Ao]
 |(k',v')::r=>by
  rw[zy];by_cases h1:k'=k
  ·rw[if_pos h1];subst h1;simp only[Ao];by_cases h2:k'=j
   ·subst h2;simp
   ·rw[if_neg h2,if_neg h2,S0 k' j v r]
  ·rw[if_neg h1];simp only[Ao];by_cases h2:k'=j
   ·subst h2;rw[if_pos rfl,if_pos rfl,if_neg h1]
   ·rw[if_neg h2,if_neg h2,S0 k j v r]
theorem TK (k j:κ)(v:β):∀A:List (κ×β),Ao A k=none->Ao (A++[(k,v)]) j=if j=k then some v else Ao A j
 |[],_=>by
  simp only[List.nil_append,Ao];by_cases h:k=j
  ·subst h;simp
  ·rw[if_neg h,if_neg (zb3 h)]
 |(k',v')::r,h=>by
  simp only[Ao] at h;by_cases h1:k'=k
  ·rw[if_pos h1] at h;cases h
  ·rw[if_neg h1] at h;rw[zcw];simp only[Ao];rw[TK k j v r h];by_cases h2:k'=j
   ·subst h2;rw[if_pos rfl,if_pos rfl,if_neg h1]
   ·rw[if_neg h2,if_neg h2]
theorem F1 (A:List (κ×β))(k j:κ)(v:β):Ao (Dm A k v) j=if j=k then some v else Ao A j:=by
 unfold Dm;by_cases h:(Ao A k).isSome=true
 ·rw[if_pos h,S0];by_cases hj:j=k
  ·subst hj;rw[if_pos rfl,if_pos rfl];obtain⟨x,hx⟩:=zbe.mp h;rw[hx];rfl
  ·rw[if_neg hj,if_neg hj]
 ·rw[if_neg h];exact TK k j v A (by cases e:Ao A k with|none=>rfl|some x=>rw[e] at h;exact (h rfl).elim)
theorem Gf:∀ {A:List (κ×β)}{k:κ},(Ao A k).isSome=true↔k∈A.map zan
 |[],k=>by simp[Ao]
 |(k',v')::r,k=>by
  simp only[Ao,zy,z8];by_cases h:k'=k
  ·rw[if_pos h];simp[h]
  ·rw[if_neg h,Gf];simp[zb3 h]
theorem TM {A:List (κ×β)}{k:κ}:Ao A k=none↔k∉A.map zan:=by
 rw[<-Gf];cases Ao A k<;>simp
theorem TN (A:List (κ×β))(k:κ)(v:β):(Dm A k v).map zan=if (Ao A k).isSome=true then A.map zan else A.map zan++[k]:=by
 unfold Dm;split
 ·rw[zbf];refine List.map_congr_left λ kv _=>?_;dsimp only [Function.comp];split<;>rfl
 ·rw[zao];rfl
theorem LO {A:List (κ×β)}{k:κ}{v:β}(h:(A.map zan).Nodup):((Dm A k v).map zan).Nodup:=by
 rw[TN];split
 ·exact h
 ·rename_i hn;rw[Gf] at hn;rw[zaj];exact⟨h,by simp,λ x hx y hy=>by rw[z6.mp hy];exact λ e=>hn (e▸hx)⟩
theorem Ou {A:List (κ×β)}{k x:κ}{v:β}(h:x∈(Dm A k v).map zan):x∈A.map zan\/x=k:=by
 rw[TN] at h;split at h
 ·exact .inl h
 ·rcases zab.mp h with h|h
  ·exact .inl h
  ·exact .inr (z6.mp h)
theorem Ov:∀ {A:List (κ×β)}{k:κ}{v:β},Ao A k=some v->(k,v)∈A
 |(k',v')::r,k,v,h=>by
  simp only[Ao] at h;split at h
  ·rename_i e;cases h;subst e;exact zw
  ·exact zx _ (Ov h)
theorem S1:∀ {A:List (κ×β)}{k:κ}{v:β},(A.map zan).Nodup->(k,v)∈A->Ao A k=some v
 |(k',v')::r,k,v,hn,h=>by
  rw[zy,zaw] at hn;simp only[Ao];rcases z8.mp h with e|h
  ·cases e;rw[if_pos rfl]
  ·have:k'≠k:=λ e=>hn.1 (e▸zae.mpr ⟨_,h,rfl⟩);rw[if_neg this];exact S1 hn.2 h
variable {kf:κ->D}{vf:β->D}(he:∀a b,Bm (kf a) (kf b)=decide (a=b))
include he
theorem L0 (A:List (κ×β))(k:κ):MK (A.map λ kv=>kf kv.1) (kf k)=(Ao A k).isSome:=by
 induction A with
 |nil=>rfl
 |cons kv r ih =>
  obtain⟨k',v'⟩:=kv;unfold MK at ih ⊢;rw[zy,zcr,ih,he];simp only[Ao];by_cases h:k'=k
  ·rw[if_pos h,decide_eq_true h];rfl
  ·rw[if_neg h,decide_eq_false h];rfl
theorem Hq (A:List (κ×β))(k:κ):GL (A.map λ kv=>kf kv.1) (A.map λ kv=>vf kv.2) (kf k)=(Ao A k).map vf:=by
 induction A with
 |nil=>rfl
 |cons kv r ih =>
  obtain⟨k',v'⟩:=kv;rw[zy,zy,GL,he,ih];simp only[Ao];by_cases h:k'=k
  ·rw[decide_eq_true h,if_pos rfl,if_pos h];rfl
  ·rw[decide_eq_false h,if_neg zai,if_neg h]
theorem dX (k:κ)(v:β)(A:List (κ×β)):Jr (A.map λ kv=>kf kv.1) (A.map λ kv=>vf kv.2) (kf k) (vf v)=(A.map λ kv=>if kv.1=k then (kv.1,v) else kv).map λ kv=>vf kv.2:=by
 induction A with
 |nil=>rfl
 |cons kv r ih =>
  obtain⟨k',v'⟩:=kv;rw[zy,zy,Jr,he,ih,zy,zy];by_cases h:k'=k
  ·rw[decide_eq_true h,if_pos rfl,if_pos h]
  ·rw[decide_eq_false h,if_neg zai,if_neg h]
theorem L1 (A:List (κ×β))(k:κ)(v:β):putD (A.map λ kv=>kf kv.1) (A.map λ kv=>vf kv.2) (kf k) (vf v)=((Dm A k v).map (λ kv=>kf kv.1),(Dm A k v).map λ kv=>vf kv.2):=by
 unfold putD Dm;rw[L0 he];by_cases h:(Ao A k).isSome=true
 ·rw[if_pos h,if_pos h,dX he];refine Prod.ext ?_ rfl;dsimp only;rw[zbf];refine List.map_congr_left λ kv _=>?_;dsimp only [Function.comp];split<;>rfl
 ·rw[if_neg h,if_neg h,zao,zao];rfl
end
theorem Hr (a b:Int):Bm (.int a) (.int b)=decide (a=b):=by
 simp only[Bm];by_cases h:a=b
 ·subst h;simp
 ·simp[h]
noncomputable abbrev LA:=List ((Int×Int)×((Int×Int)×Option Int))
noncomputable def VE (v:(Int×Int)×Option Int):D:=.tup [cst (some v.1),CN v.2]
noncomputable def PV (A:LA):D:=.Bu true (A.map λ kv=>pD kv.1) (A.map λ kv=>VE kv.2)
noncomputable def MN (A:LA):OT:=.Bu true (A.map λ kv=>pD kv.1) ((A.map λ kv=>VE kv.2).map .sh)
noncomputable def A9 (A:LA)(p:Int×Int):Co:=(Ao A p).map zan
noncomputable def layA (A:LA)(p:Int×Int)(c:Co)(mid:Option Int):LA:=match c with
 |none=>A
 |some c=>(match Ao A p with
  |none=>Dm A p (c,mid)
  |some z=>if c.1<z.1.1\/(c.1=z.1.1/\c.2<z.1.2) then Dm A p (c,mid) else A)
theorem Hs (A:LA)(p q:Int×Int)(c:Co)(mid:Option Int):A9 (layA A p c mid) q=if q=p then EC (A9 A p) c else A9 A q:=by
 unfold layA A9;cases c with
 |none =>
  by_cases h:q=p
  ·subst h;rw[if_pos rfl];cases Ao A q<;>rfl
  ·rw[if_neg h]
 |some c =>
  cases e:Ao A p with
  |none =>
   dsimp only;rw[F1];by_cases h:q=p
   ·rw[if_pos h,if_pos h];rfl
   ·rw[if_neg h,if_neg h]
  |some z =>
   dsimp only;by_cases hc:c.1<z.1.1\/(c.1=z.1.1/\c.2<z.1.2)
   ·rw[if_pos hc,F1];by_cases h:q=p
    ·rw[if_pos h,if_pos h];simp only[zb8,EC,kI];rw[if_neg (by omega)]
    ·rw[if_neg h,if_neg h]
   ·rw[if_neg hc];by_cases h:q=p
    ·subst h;rw[if_pos rfl,e];simp only[zb8,EC,kI];rw[if_pos (by omega)]
    ·rw[if_neg h]
theorem VF (A:LA)(p q:Int×Int)(c:Co)(mid:Option Int):BG (A9 (layA A p c mid) q) (A9 A q):=by
 rw[Hs];split
 ·rename_i h;subst h;exact Ga _ _
 ·exact C7 _
theorem dY {A:LA}{p x:Int×Int}{c:Co}{mid:Option Int}(h:x∈(layA A p c mid).map zan):x∈A.map zan\/x=p:=by
 unfold layA at h;split at h
 ·exact .inl h
 ·split at h
  ·exact Ou h
  ·split at h
   ·exact Ou h
   ·exact .inl h
theorem YC {A:LA}{p:Int×Int}{c:Co}{mid:Option Int}(h:(A.map zan).Nodup):((layA A p c mid).map zan).Nodup:=by
 unfold layA;split
 ·exact h
 ·split
  ·exact LO h
  ·split
   ·exact LO h
   ·exact h
noncomputable def Ny (p u:Int)(A:LA)(w:Int):LA:=if u=w then A else layA A (u,w) (Aq (A9 A (u,p)) (A9 A (p,w))) (some p)
noncomputable def YD (p:Int)(H:List Int)(A:LA)(u:Int):LA:=H.foldl (Ny p u) A
noncomputable def kY (A:LA)(p:Int)(H:List Int):LA:=H.foldl (YD p H) A
noncomputable def Py:LA->List Int->LA
 |A,[]=>A
 |A,p::r=>Py (kY A p r) r
noncomputable def lay0 (rs:List Road):LA:=rs.foldl (λ A r=>layA A (r.a,r.b) (BS r) none) []
noncomputable def Bq (rs:List Road)(L:List Int):LA:=Py (lay0 rs) L
structure GN (m:Nat)(A:LA):Prop where
 nd:(A.map zan).Nodup
 rg:∀p∈A.map zan,p.1≠p.2/\(0<=p.1/\p.1<m)/\0<=p.2/\p.2<m
theorem GN.lay {m:Nat}{A:LA}(h:GN m A){p:Int×Int}{c:Co}{mid:Option Int}(hp:p.1≠p.2/\(0<=p.1/\p.1<m)/\0<=p.2/\p.2<m):GN m (layA A p c mid):=
 ⟨YC h.nd,λ q hq=>(dY hq).elim (h.rg q) λ e=>e▸hp⟩
theorem GN.len {m:Nat}{A:LA}(h:GN m A)(hm:m<=20):A.length<1000:=by
 have:=Cj.len (B:=A.map zan) (m:=m) ⟨h.nd,λ x hx=>(h.rg _ hx).1 rfl,λ q hq=>⟨(h.rg q hq).2.1,(h.rg q hq).2.2⟩⟩ hm;rwa[zv] at this
theorem FJ {α β:Type}{f:β->α->β}(P:List α->β->Prop):∀ {L pre:List α}{b:β},P pre b->(∀a∈L,∀pre b,P pre b->P (pre++[a]) (f b a))->P (pre++L) (L.foldl f b)
 |[],pre,b,h,_=>by rw[zb0];exact h
 |a::L,pre,b,h,hs=>by
  have:=FJ P (L:=L) (hs a zw pre b h) λ x hx=>hs x (zx _ hx);rw[zb5] at this;exact this
def kZ (rs:List Road)(A:LA):Prop:=∀x y c,A9 A (x,y)=some c->Wk rs x y c
theorem kZ.lay {rs:List Road}{A:LA}(h:kZ rs A){x y:Int}{c:Co}{mid:Option Int}(hc:∀p,c=some p->Wk rs x y p):kZ rs (layA A (x,y) c mid):=λ u w d hd=>by
 rw[Hs] at hd;split at hd
 ·rename_i e;cases e;rcases Dj (A9 A (x,y)) c with ⟨e,_⟩|⟨e,_⟩
  ·rw[e] at hd;exact h _ _ _ hd
  ·rw[e] at hd;exact hc d hd
 ·exact h _ _ _ hd
structure Over (m:Nat)(rs:List Road)(p:Int)(H:List Int)(A0 A:LA):Prop where
 ok:GN m A
 sd:kZ rs A
 le:∀q,BG (A9 A q) (A9 A0 q)
 sm:∀x y,(x∉H\/y∉H)->A9 A (x,y)=A9 A0 (x,y)
theorem YE {m:Nat}{rs:List Road}{p:Int}{H:List Int}{A0 A:LA}(hp:p∉H)(hH:∀x∈H,0<=x/\x<m)(h:Over m rs p H A0 A){u w:Int}(hu:u∈H)(hw:w∈H):Over m rs p H A0 (Ny p u A w)/\(u≠w->BG (A9 (Ny p u A w) (u,w)) (Aq (A9 A0 (u,p)) (A9 A0 (p,w)))):=by
 unfold Ny;by_cases e:u=w
 ·rw[if_pos e];exact⟨h,λ z=>(z e).elim⟩
 ·rw[if_neg e];have e1:=h.sm u p (.inr hp);have e2:=h.sm p w (.inl hp);refine⟨⟨h.ok.lay ⟨e,hH u hu,hH w hw⟩,h.sd.lay λ c hc=>?_,λ q=>Aw (VF _ _ _ _ _) (h.le q),λ x y ce=>?_⟩,λ _=>?_⟩
  ·obtain⟨a,b,ha,hb,rfl⟩:=Em hc;exact (h.sd _ _ _ ha).trans (h.sd _ _ _ hb)
  ·rw[Hs,if_neg (λ z=>by cases z;exact ce.elim (λ q=>q hu) λ q=>q hw)];exact h.sm x y ce
  ·rw[Hs,if_pos rfl,e1,e2];exact IC _ _
theorem mR {p u:Int}{A:LA}{w:Int}(q:Int×Int):BG (A9 (Ny p u A w) q) (A9 A q):=by
 unfold Ny;split
 ·exact C7 _
 ·exact VF _ _ _ _ _
theorem mS {p u:Int}(q:Int×Int):∀(H:List Int) (A:LA),BG (A9 (H.foldl (Ny p u) A) q) (A9 A q)
 |[],A=>C7 _
 |w::H,A=>Aw (mS q H (Ny p u A w)) (mR q)
theorem qV {m:Nat}{rs:List Road}{p:Int}{H:List Int}{A0 A:LA}(hp:p∉H)(hH:∀x∈H,0<=x/\x<m)(h:Over m rs p H A0 A){u:Int}(hu:u∈H):Over m rs p H A0 (YD p H A u)/\∀w∈H,u≠w->BG (A9 (YD p H A u) (u,w)) (Aq (A9 A0 (u,p)) (A9 A0 (p,w))):=by
 unfold YD;have:=FJ (L:=H) (pre:=[]) (f:=Ny p u) (b:=A) (λ W A=>Over m rs p H A0 A/\∀w∈W,u≠w->BG (A9 A (u,w)) (Aq (A9 A0 (u,p)) (A9 A0 (p,w)))) ⟨h,λ w hw=>by cases hw⟩ λ w hw W B hB=>by
  obtain⟨b1,b2⟩:=hB;obtain⟨c1,c2⟩:=YE hp hH b1 hu hw;refine⟨c1,λ x hx ac=>?_⟩;rcases zab.mp hx with hx|hx
  ·exact Aw (mR _) (b2 x hx ac)
  ·rw[z6.mp hx] at ac ⊢;exact c2 ac
 exact this
theorem dZ {m:Nat}{rs:List Road}{p:Int}{H:List Int}{A:LA}(hp:p∉H)(hH:∀x∈H,0<=x/\x<m)(h1:GN m A)(h2:kZ rs A):Over m rs p H A (kY A p H)/\∀u∈H,∀w∈H,u≠w->BG (A9 (kY A p H) (u,w)) (Aq (A9 A (u,p)) (A9 A (p,w))):=by
 unfold kY;have:=FJ (L:=H) (pre:=[]) (f:=YD p H) (b:=A) (λ U B=>Over m rs p H A B/\∀u∈U,∀w∈H,u≠w->BG (A9 B (u,w)) (Aq (A9 A (u,p)) (A9 A (p,w)))) ⟨⟨h1,h2,λ q=>C7 _,λ x y _=>rfl⟩,λ u hu=>by cases hu⟩ λ u hu U B hB=>by
  obtain⟨b1,b2⟩:=hB;obtain⟨c1,c2⟩:=qV hp hH b1 hu;refine⟨c1,λ x hx w hw ac=>?_⟩;rcases zab.mp hx with hx|hx
  ·exact Aw (mS _ H B) (b2 x hx w hw ac)
  ·rw[z6.mp hx] at ac ⊢;exact c2 w hw ac
 exact this
theorem S2 {m:Nat}{rs:List Road}(As:∀r∈rs,ID m r/\r.a≠r.b):GN m (lay0 rs)/\kZ rs (lay0 rs)/\∀r∈rs,BG (A9 (lay0 rs) (r.a,r.b)) (BS r):=by
 unfold lay0;have:=FJ (L:=rs) (pre:=[]) (f:=λ A r=>layA A (r.a,r.b) (BS r) none) (b:=[]) (λ W A=>GN m A/\kZ rs A/\∀r∈W,BG (A9 A (r.a,r.b)) (BS r)) ⟨⟨by simp,λ p hp=>by cases hp⟩,⟨(λ _ _ _ h=>by cases h),λ r hr=>by cases hr⟩⟩ λ r hr W B hB=>by
  obtain⟨b1,b2,b3⟩:=hB;obtain⟨o1,o2⟩:=As r hr;refine⟨b1.lay ⟨o2,⟨o1.a0,o1.a1⟩,o1.b0,o1.b1⟩,b2.lay λ c hc=>?_,λ x hx=>?_⟩
  ·obtain⟨l,hl,rfl⟩:=Hm hc;exact Wk.one hr hl
  ·rcases zab.mp hx with hx|hx
   ·exact Aw (VF _ _ _ _ _) (b3 x hx)
   ·rw[z6.mp hx,Hs,if_pos rfl];exact IC _ _
 exact this
noncomputable def BU:List Int->Int->Nat
 |[],_=>0
 |a::l,x=>if a=x then 0 else BU l x+1
theorem Xf:∀ {pre post:List Int}{p:Int},p∉pre->BU (pre++p::post) p=pre.length
 |[],post,p,_=>by simp[BU]
 |a::pre,post,p,h=>by
  rw[z8,not_or] at h;rw[zcw,BU,if_neg (zb3 h.1),Xf h.2];rfl
theorem VG:∀ {pre post:List Int}{x:Int},x∈pre->BU (pre++post) x<pre.length
 |a::pre,post,x,h=>by
  rw[zcw,BU];by_cases e:a=x
  ·rw[if_pos e];simp
  ·rw[if_neg e,z5];have:=VG (post:=post) ((z8.mp h).resolve_left (zb3 e));omega
theorem S3:∀ {pre post:List Int}{x:Int},x∉pre->pre.length<=BU (pre++post) x
 |[],post,x,_=>zb1 _
 |a::pre,post,x,h=>by
  rw[z8,not_or] at h;rw[zcw,BU,if_neg (zb3 h.1),z5];have:=S3 (post:=post) h.2;omega
theorem S4:∀ {L:List Int}{x y:Int},x∈L->y∈L->BU L x=BU L y->x=y
 |a::l,x,y,hx,hy,e=>by
  rw[BU,BU] at e;by_cases h1:a=x
  ·by_cases h2:a=y
   ·rw[<-h1,<-h2]
   ·rw[if_pos h1,if_neg h2] at e;omega
  ·by_cases h2:a=y
   ·rw[if_neg h1,if_pos h2] at e;omega
   ·rw[if_neg h1,if_neg h2] at e;exact S4 ((z8.mp hx).resolve_left (zb3 h1)) ((z8.mp hy).resolve_left (zb3 h2)) (by omega)
theorem VH {L:List Int}{x:Int}(h:BU L x<L.length):x∈L:=by
 refine zcp λ hn=>?_;have:=S3 (pre:=L) (post:=[]) hn;rw[zb0] at this;omega
theorem eA:∀(L:List Int) (x:Int),BU L x<=L.length
 |[],_=>za2 _
 |a::l,x=>by
  rw[BU,z5];split
  ·omega
  ·have:=eA l x;omega
theorem Mh:∀ {L:List Int}{p:Int},p∈L->∃pre post,L=pre++p::post/\p∉pre
 |a::l,p,h=>by
  by_cases ha:a=p
  ·subst ha;exact⟨[],l,rfl,by simp⟩
  ·obtain⟨pre,post,e2,hn⟩:=Mh ((z8.mp h).resolve_left (zb3 ha));exact⟨a::pre,post,by rw[zcw,<-e2],by simp[zb3 ha,hn]⟩
theorem eB {L:List Int}{p:Int}(h:BU L p<L.length):∃pre post,L=pre++p::post/\p∉pre/\∀x,BU L p<BU L x->x∈L->x∈post:=by
 obtain⟨pre,post,e,hn⟩:=Mh (VH h);refine⟨pre,post,e,hn,λ x hr hx=>?_⟩;subst e;rw[Xf hn] at hr;rcases zab.mp hx with hx|hx
 ·have:=VG (post:=p::post) hx;omega
 ·rcases z8.mp hx with rfl|hx
  ·rw[Xf hn] at hr;omega
  ·exact hx
theorem qW {m:Nat}{rs:List Road}{L:List Int}(hL:L.Nodup)(hr:∀x∈L,0<=x/\x<m):∀(post pre:List Int) (A:LA),L=pre++post->GN m A->kZ rs A->(∀r∈rs,BG (A9 A (r.a,r.b)) (BS r))->
 (∀pa p pb,L=pa++p::pb->pa.length<pre.length->∀x∈pb,∀y∈pb,x≠y->BG (A9 A (x,y)) (Aq (A9 A (x,p)) (A9 A (p,y))))->
 GN m (Py A post)/\kZ rs (Py A post)/\(∀r∈rs,BG (A9 (Py A post) (r.a,r.b)) (BS r))/\∀pa p pb,L=pa++p::pb->∀x∈pb,∀y∈pb,x≠y->BG (A9 (Py A post) (x,y)) (Aq (A9 (Py A post) (x,p)) (A9 (Py A post) (p,y))):=by
 intro post;induction post with
 |nil =>
  intro pre A e h1 h2 h3 h4;rw[zb0] at e;refine⟨h1,h2,h3,λ pa p pb e2=>h4 pa p pb e2 ?_⟩;rw[<-e,e2,za6,z5];omega
 |cons p post ih =>
  intro pre A e h1 h2 h3 h4;rw[Py];have hn:(pre++p::post).Nodup:=e▸hL;rw[zaj,zaw] at hn;have bm:∀x∈post,0<=x/\x<m:=λ x hx=>hr x (by rw[e];simp[hx]);obtain⟨o,ov⟩:=dZ (p:=p) hn.2.1.1 bm h1 h2;refine ih (pre++[p]) (kY A p post) (by rw[e];simp) o.ok o.sd (λ r bA=>Aw (o.le _) (h3 r bA)) λ pa q pb e2 af x hx y hy ac=>?_;rw[za6,zav] at af;by_cases hq:pa.length<pre.length
  ·-- an l7 one
   have t8:q∉post:=λ fc=>by
    have e3:pre++p::post=pa++q::pb:=by rw[<-e,e2]
    have q1:q∈pre:=by
     have:=congrArg (λ l=>l[pa.length]?) e3;rw[zbz hq,zcs (za2 _),Nat.sub_self] at this;exact za9 this
    exact hn.2.2 q q1 q (zx _ fc) rfl
   rw[o.sm x q (.inr t8),o.sm q y (.inl t8)];exact Aw (o.le _) (h4 pa q pb e2 hq x hx y hy ac)
  ·have hpl:pa.length=pre.length:=by omega
   have e3:pa++q::pb=pre++p::post:=by rw[<-e2,e]
   obtain⟨rfl,e4⟩:=List.append_inj e3 hpl;cases e4;rw[o.sm x p (.inr hn.2.1.1),o.sm p y (.inl hn.2.1.1)];exact ov x hx y hy ac
theorem L3 {m:Nat}{rs:List Road}{L:List Int}(hL:L.Perm (BJ m))(As:∀r∈rs,ID m r/\r.a≠r.b):GN m (Bq rs L)/\UL m rs (BU L) (λ x y=>A9 (Bq rs L) (x,y)):=by
 have jf:L.Nodup:=Ge hL;obtain⟨a1,a2,a3⟩:=S2 As;obtain⟨b1,b2,b3,b4⟩:=qW jf (λ x hx=>(B6 hL).mp hx) L [] (lay0 rs) rfl a1 a2 a3 (λ pa p pb _ h=>by simp at h);refine⟨b1,λ x y c h=>?_,b3,λ p x y ac h1 h2=>?_,λ x y x0 x1 y0 y1 e=>S4 ((B6 hL).mpr ⟨x0,x1⟩) ((B6 hL).mpr ⟨y0,y1⟩) e,λ x y c h=>Wk.nn (λ r hr=>(As r hr).1) h⟩
 ·have hm:(x,y)∈(Py (lay0 rs) L).map zan:=by
   rw[<-Gf];unfold A9 at h;cases q:Ao (Bq rs L) (x,y) with
   |none=>rw[q] at h;cases h
   |some z=>unfold Bq at q;rw[q];rfl
  have:=b1.rg _ hm;exact⟨b2 _ _ _ h,this.1,this.2.1,this.2.2⟩
 ·have aI:∀ {x y:Int} {c:Int×Int},A9 (Bq rs L) (x,y)=some c->x∈L/\y∈L:=fun {x y c} h=>by
   have hm:(x,y)∈(Py (lay0 rs) L).map zan:=by
    rw[<-Gf];unfold A9 at h;cases q:Ao (Bq rs L) (x,y) with
    |none=>rw[q] at h;cases h
    |some z=>unfold Bq at q;rw[q];rfl
   have:=b1.rg _ hm;exact⟨(B6 hL).mpr this.2.1,(B6 hL).mpr this.2.2⟩
  have hpl:BU L p<L.length:=za8 h1 (eA L x);obtain⟨pre,post,e,hn,d8⟩:=eB hpl;cases q1:A9 (Bq rs L) (x,p) with
  |none=>cases A9 (Bq rs L) (x,y)<;>exact trivial
  |some c1 =>
   cases q2:A9 (Bq rs L) (p,y) with
   |none=>cases A9 (Bq rs L) (x,y)<;>exact trivial
   |some c2 =>
    have r:=b4 pre p post e x (d8 x h1 (aI q1).1) y (d8 y h2 (aI q2).2) ac;rw[<-q1,<-q2];exact r
noncomputable abbrev CA:=List ((Int×Int)×(Int×Int))
noncomputable def Sy (C:CA):D:=.Bu true (C.map λ kv=>pD kv.1) (C.map λ kv=>cst (some kv.2))
noncomputable def xI (C:CA):OT:=.Bu true (C.map λ kv=>pD kv.1) ((C.map λ kv=>cst (some kv.2)).map .sh)
noncomputable abbrev RA:=List (Int×(Int×Int))
noncomputable def YF (R:RA):D:=.Bu false (R.map λ kv=>D.int kv.1) (R.map λ kv=>cst (some kv.2))
noncomputable def VI (R:RA):OT:=.Bu false (R.map λ kv=>D.int kv.1) ((R.map λ kv=>cst (some kv.2)).map .sh)
theorem S5 (A:LA):er (MN A)=PV A:=Ju
theorem S6 (C:CA):er (xI C)=Sy C:=Ju
theorem S7 (R:RA):er (VI R)=YF R:=Ju
theorem LP (i:Int):keyOk false (.int i)=true:=rfl
theorem S8 (A:LA)(p:Int×Int)(neg:Bool):Js neg (pD p) (PV A)=.ok (.bl (if neg=true then !(Ao A p).isSome else (Ao A p).isSome)):=by
 unfold PV Js;dsimp only;rw[if_pos (Hn p),L0 Gd]
theorem Ox {A:LA}{p:Int×Int}{v:(Int×Int)×Option Int}(h:Ao A p=some v):AE (PV A) (pD p)=.ok (VE v):=by
 unfold PV AE;dsimp only;rw[if_pos (Hn p),Hq Gd,h];rfl
theorem qX (C:CA)(p:Int×Int)(neg:Bool):Js neg (pD p) (Sy C)=.ok (.bl (if neg=true then !(Ao C p).isSome else (Ao C p).isSome)):=by
 unfold Sy Js;dsimp only;rw[if_pos (Hn p),L0 Gd]
theorem qY {C:CA}{p:Int×Int}{c:Int×Int}(h:Ao C p=some c):AE (Sy C) (pD p)=.ok (cst (some c)):=by
 unfold Sy AE;dsimp only;rw[if_pos (Hn p),Hq (vf:=λ c=>cst (some c)) Gd,h];rfl
theorem qZ (C:CA)(p:Int×Int):QI (Sy C) (.ok (pD p))=.ok (cst (Ao C p)):=by
 unfold Sy QI;simp only[M.Aa];rw[if_pos (Hn p),Hq (vf:=λ c=>cst (some c)) Gd];cases Ao C p<;>rfl
theorem eC (R:RA)(p:Int)(neg:Bool):Js neg (.int p) (YF R)=.ok (.bl (if neg=true then !(Ao R p).isSome else (Ao R p).isSome)):=by
 unfold YF Js;dsimp only;rw[if_pos (LP p),L0 (kf:=D.int) Hr]
theorem VJ {R:RA}{p:Int}{c:Int×Int}(h:Ao R p=some c):AE (YF R) (.int p)=.ok (cst (some c)):=by
 unfold YF AE;dsimp only;rw[if_pos (LP p),Hq (kf:=D.int) (vf:=λ c=>cst (some c)) Hr,h];rfl
theorem eE (R:RA)(p:Int):QI (YF R) (.ok (.int p))=.ok (cst (Ao R p)):=by
 unfold YF QI;simp only[M.Aa];rw[if_pos (LP p),Hq (kf:=D.int) (vf:=λ c=>cst (some c)) Hr];cases Ao R p<;>rfl
theorem eF (A:LA)(p:Int×Int)(v:(Int×Int)×Option Int):putD (A.map λ kv=>pD kv.1) (A.map λ kv=>VE kv.2) (pD p) (VE v)=((Dm A p v).map (λ kv=>pD kv.1),(Dm A p v).map λ kv=>VE kv.2):=L1 Gd A p v
theorem rA (R:RA)(p:Int)(c:Int×Int):putD (R.map λ kv=>D.int kv.1) (R.map λ kv=>cst (some kv.2)) (.int p) (cst (some c))=((Dm R p c).map (λ kv=>D.int kv.1),(Dm R p c).map λ kv=>cst (some kv.2)):=L1 (kf:=D.int) (vf:=λ c=>cst (some c)) Hr R p c
theorem S9 {α:Type}(k v:α->D):∀l:List α,RS (l.map λ x=>.tup [k x,v x])=some (l.map λ x=>(k x,v x))
 |[]=>rfl
 |x::l=>by rw[zy,RS,S9 k v l];rfl
theorem mT:∀(C C0:CA),((C0++C).map zan).Nodup->(C.map λ kv=>(pD kv.1,cst (some kv.2))).foldl (λ z kv=>putD z.1 z.2 kv.1 kv.2) (C0.map (λ kv=>pD kv.1),C0.map λ kv=>cst (some kv.2))=((C0++C).map (λ kv=>pD kv.1),(C0++C).map λ kv=>cst (some kv.2))
 |[],C0,_=>by simp
 |kv::C,C0,hn=>by
  obtain⟨p,c⟩:=kv;rw[zy,zah];dsimp only;have h0:Ao C0 p=none:=by
   rw[TM];intro hm;rw[zao,zaj] at hn;exact hn.2.2 p hm p (by simp) rfl
  have e:Dm C0 p c=C0++[(p,c)]:=by unfold Dm;rw[h0];rfl
  rw[L1 (vf:=λ c=>cst (some c)) Gd,e,mT C (C0++[(p,c)]) (by rw[zb5];exact hn),zb5];rfl
theorem eG {C:CA}(hn:(C.map zan).Nodup)(hl:C.length<=1000):kD (.lst (C.map λ kv=>.tup [pD kv.1,cst (some kv.2)]))=.ok (xI C):=by
 unfold kD;dsimp only;rw[S9 (λ kv:(Int×Int)×(Int×Int)=>pD kv.1) (λ kv=>cst (some kv.2))];dsimp only;have e:=mT C [] hn;rw[if_pos ⟨by rw[zv];exact hl,by rw[List.all_map];exact zcx.mpr λ x _=>rfl⟩];have e2:mL (C.map λ kv=>(pD kv.1,cst (some kv.2)))=(C.map (λ kv=>pD kv.1),C.map λ kv=>cst (some kv.2)):=e;rw[e2];rfl
noncomputable def AW (m:Nat)(rs:List Road)(L:List Int)(A:LA)(K:List (Int×Int)):D:=.ins "Ladder" ["own_map","own_order","laid","kept_ones"] [Ak m rs,.lst (L.map D.int),PV A,.lst (K.map pD)]
structure Bc (m:Nat)(rs:List Road)(L:List Int)(A:LA)(K:List (Int×Int)):Prop where
 m1:1<=m
 m2:m<=16
 rl:rs.length<=60
 ok:∀r∈rs,ID m r/\r.a≠r.b
 pm:L.Perm (BJ m)
 la:A=Bq rs L
 kn:K.Nodup
 km:∀p,p∈K↔∃c,A9 A p=some c/\Bk rs p.1 p.2 (some c)
theorem Bc.vT {m:Nat}{rs:List Road}{L:List Int}{A:LA}{K:List (Int×Int)}(h:Bc m rs L A K):GN m A:=by
 rw[h.la];exact (L3 h.pm h.ok).1
theorem Bc.Zc {m:Nat}{rs:List Road}{L:List Int}{A:LA}{K:List (Int×Int)}(h:Bc m rs L A K):UL m rs (BU L) (λ x y=>A9 A (x,y)):=by
 rw[h.la];exact (L3 h.pm h.ok).2
theorem ED {A:LA}{p:Int×Int}{c:Int×Int}(h:A9 A p=some c):p∈A.map zan:=by
 rw[<-Gf];unfold A9 at h;cases q:Ao A p with
 |none=>rw[q] at h;cases h
 |some z=>rfl
theorem Bc.XE {m:Nat}{rs:List Road}{L:List Int}{A:LA}{K:List (Int×Int)}(h:Bc m rs L A K){p:Int×Int}(hp:p∈K):p.1≠p.2/\(0<=p.1/\p.1<m)/\0<=p.2/\p.2<m:=by
 obtain⟨c,hc,_⟩:=(h.km p).mp hp;exact h.vT.rg p (ED hc)
theorem Bc.kl {m:Nat}{rs:List Road}{L:List Int}{A:LA}{K:List (Int×Int)}(h:Bc m rs L A K):K.length<1000:=
 Cj.len (m:=m) ⟨h.kn,λ x hx=>(h.XE hx).1 rfl,λ q hq=>⟨(h.XE hq).2.1,(h.XE hq).2.2⟩⟩ (by have:=h.m2;omega)
noncomputable def GO (A:LA)(K:List (Int×Int)):CA:=K.map λ p=>(p,(A9 A p).getD (0,0))
theorem Oy (A:LA)(K:List (Int×Int)):(GO A K).map zan=K:=by
 unfold GO;rw[zbf];exact (List.map_congr_left λ p _=>rfl).trans (List.map_id K)
theorem Bc.kept {m:Nat}{rs:List Road}{L:List Int}{A:LA}{K:List (Int×Int)}(h:Bc m rs L A K):Kept rs (λ x y=>A9 A (x,y)) (λ x y=>Ao (GO A K) (x,y)):=λ x y c=>by
 have hn:((GO A K).map zan).Nodup:=by rw[Oy];exact h.kn
 constructor
 ·intro hf;have hm:=Ov hf;unfold GO at hm;obtain⟨p,hp,e⟩:=zae.mp hm;obtain⟨c',hc,aA⟩:=(h.km p).mp hp;rw[hc] at e;cases e;exact⟨hc,aA⟩
 ·rintro ⟨h1,h2⟩;refine S1 hn ?_;unfold GO;exact zae.mpr ⟨(x,y),(h.km (x,y)).mpr ⟨c,h1,h2⟩,by rw[show A9 A (x,y)=some c from h1];rfl⟩
noncomputable def PX (C:CA):CA:=C.map λ kv=>((kv.1.2,kv.1.1),kv.2)
theorem YG {C:CA}(h:(C.map zan).Nodup):((PX C).map zan).Nodup:=by
 have e:(PX C).map zan=(C.map zan).map λ p=>(p.2,p.1):=by
  unfold PX;rw[zbf,zbf];rfl
 rw[e];exact (List.pairwise_map.mpr (h.imp fun {a b} jp e=>jp (by cases a;cases b;cases e;rfl)))
theorem L4 (x y:Int):∀C:CA,Ao (PX C) (x,y)=Ao C (y,x)
 |[]=>rfl
 |((a,b),c)::C=>by
  unfold PX;rw[zy,Ao,Ao];have:=L4 x y C;unfold PX at this;rw[this];by_cases h:a=y/\b=x
  ·rw[if_pos (by rw[h.1,h.2]),if_pos (by rw[h.1,h.2])]
  ·rw[if_neg (λ e=>h (by cases e;exact⟨rfl,rfl⟩)),if_neg (λ e=>h (by cases e;exact⟨rfl,rfl⟩))]
theorem vU (p q:Int×Int):dC (cst (some p)) (cst (some q))=.ok (.bl (decide (p.1<q.1\/(p.1=q.1/\p.2<q.2)))):=by
 rw[<-Fg];rfl
theorem VL {m:M Out}{t r:OT}(h:WP m (λ ρ=>Hi ρ=some t/\OT.sh .AN=r) (λ o=>match o with | .Fw r' ρ=>Hi ρ=some t/\r'=r | _=>False) (λ _=>False)):EA m=.ok (t,r):=by
 cases m with
 |bad|ex x=>exact h.elim
 |ok o =>
  cases o with
  |next ρ=>obtain⟨h1,h2⟩:=(show Hi ρ=some t/\OT.sh .AN=r from h);unfold EA;dsimp only;rw[h1,<-h2]
  |Fw r' ρ=>obtain⟨h1,h2⟩:=(show Hi ρ=some t/\r'=r from h);unfold EA;dsimp only;rw[h1,<-h2]
  |ret d|CM d|brk d|cont d=>exact h.elim
theorem LQ {F:OT->List D->M (OT×OT)}{ρ:Ad}{p:Option Nat}{t t2 r:OT}{ap:List D}{i:Nat}(h:ρ[i]?=some (some (.ow (.tree p t))))(hN:cK t=true)(hF:F t ap=.ok (t2,r)):Th i F ρ [] ap=.ok (ρ.set i (some (toCl p t2)),r):=by
 rw[cL h rfl rfl hN hF,Ew]
theorem Eo {A:LA}{p:Option Nat}{ρ:Ad}:Gy 0 (some (.ow (.tree p (MN A)))::ρ) []=.ok (true,A.map (λ kv=>pD kv.1),A.map λ kv=>VE kv.2):=Dh
theorem IE {R:RA}{p:Option Nat}{ρ:Ad}:Gy 0 (some (.ow (.tree p (VI R)))::ρ) []=.ok (false,R.map (λ kv=>D.int kv.1),R.map λ kv=>cst (some kv.2)):=Dh
theorem GN.ov {m:Nat}{A:LA}(h:GN m A){p u w:Int}(hu:0<=u/\u<m)(hw:0<=w/\w<m):GN m (Ny p u A w):=by
 unfold Ny;split
 ·exact h
 ·rename_i e;exact h.lay ⟨e,hu,hw⟩
theorem GN.ou {m:Nat}{p u:Int}(hu:0<=u/\u<m):∀ {H:List Int}{A:LA},GN m A->(∀x∈H,0<=x/\x<m)->GN m (H.foldl (Ny p u) A)
 |[],A,h,_=>h
 |w::H,A,h,hH=>by
  have r:=GN.ou (A:=Ny p u A w) (H:=H) (p:=p) hu (h.ov hu (hH w zw)) λ x hx=>hH x (zx _ hx);exact r
theorem EE {α β:Type}{f:β->α->β}{l:List α}{i:Nat}{x:α}{b:β}(h:l[i]?=some x):(l.take (i+1)).foldl f b=f ((l.take i).foldl f b) x:=by
 rw[zbm,h,Option.toList_some,List.foldl_append];rfl
theorem GN.lo {m:Nat}{p:Int}{H0:List Int}(h0:∀x∈H0,0<=x/\x<m):∀ {H:List Int}{A:LA},GN m A->(∀x∈H,0<=x/\x<m)->GN m (H.foldl (YD p H0) A)
 |[],A,h,_=>h
 |w::H,A,h,hH=>by
  have r:=GN.lo (p:=p) (A:=YD p H0 A w) (H:=H) h0 (GN.ou (hH w zw) h h0) λ x hx=>hH x (zx _ hx);exact r
theorem Nz (c:Co):UK (.ok (.sh (cst c)))=.ok (.sh (cst c)):=by
 cases c<;>rfl
def zH (a b:List Co×Bool):Prop:=b.2=true/\(a.2=false\/(a.2=true/\Px ltN a.1 b.1))
theorem rB (x:List Co):Acc zH (x,false):=.intro _ λ y h=>by cases h.1
theorem rC (x:List Co):Acc zH (x,true):=by
 have:=Ys x;induction this with
 |intro x _ ih =>
  refine .intro _ λ y h=>?_;obtain⟨y,b⟩:=y;rcases h.2 with e|⟨e,h2⟩
  ·dsimp only at e;subst e;exact rB y
  ·dsimp only at e;subst e;exact ih y h2
theorem VM (n:Nat):Ce 0 n=(BJ n).map D.int:=by rw[O0,Oo]
theorem LN.okR {m:Nat}{r:Road}(h:LN m r):ID m r/\r.a≠r.b:=⟨⟨h.a0,h.a1,h.b0,h.b1,λ l hl=>(h.l0 l hl).1⟩,h.ab⟩
def KP (rs:List Road)(A:LA)(p:Int×Int):Prop:=∃c,A9 A p=some c/\Bk rs p.1 p.2 (some c)
noncomputable def vV (A:LA)(cs:List Co)(u w:Int):Bool:=match A9 A (u,w) with
 |none=>false
 |some c=>decide (some c=atC cs w)
theorem eI {m s:Nat}{rs:List Road}{cs:List Co}{A:LA}(hR:Right m s rs cs)(As:∀r∈rs,ID m r){w:Int}(h0:0<=w)(h1:w<m):vV A cs s w=true↔KP rs A (s,w):=by
 have hm:=hR.mO As h0 h1;unfold vV KP;cases q:A9 A ((s:Int),w) with
 |none=>simp
 |some c =>
  dsimp only;constructor
  ·intro h;have e:=of_decide_eq_true h;exact⟨c,rfl,e▸hm⟩
  ·rintro ⟨c',e,h⟩;cases e;exact decide_eq_true (h.C4 hm)
theorem rD {m:Nat}{rs:List Road}{A:LA}{K:List (Int×Int)}(hA:GN m A)(hm:m<=20)(hn:K.Nodup)(hK:∀p∈K,KP rs A p):K.length<1000:=by
 have hr:∀p∈K,p.1≠p.2/\(0<=p.1/\p.1<m)/\0<=p.2/\p.2<m:=λ p hp=>by
  obtain⟨c,hc,_⟩:=hK p hp;exact hA.rg p (ED hc)
 exact Cj.len (m:=m) ⟨hn,λ x hx=>(hr _ hx).1 rfl,λ q hq=>⟨(hr q hq).2.1,(hr q hq).2.2⟩⟩ hm
theorem LR:∀ds:List D,(∀d∈ds,LH d=true)->Gw (ds.map .sh)=true
 |[],_=>rfl
 |d::ds,h=>by
  rw[zy,Gw,Hd,h d zw,LR ds λ x hx=>h x (zx _ hx)];rfl
theorem Oz {ds:List D}(h:∀d∈ds,LH d=true):UK (.ok (.lst (ds.map .sh)))=.ok (.lst (ds.map .sh)):=by
 unfold UK;simp only[M.Aa];rw[Hd,LR ds h];rfl
theorem eJ (L:List Int):UK (.ok (.lst ((L.map D.int).map .sh)))=.ok (.lst ((L.map D.int).map .sh)):=Oz λ d hd=>by
 obtain⟨x,_,rfl⟩:=zae.mp hd;rfl
theorem lA (K:List (Int×Int)):UK (.ok (.lst ((K.map pD).map .sh)))=.ok (.lst ((K.map pD).map .sh)):=Oz λ d hd=>by
 obtain⟨x,_,rfl⟩:=zae.mp hd;exact dP x
theorem eK (cs:List Co):UK (.ok (.lst ((cs.map cst).map .sh)))=.ok (.lst ((cs.map cst).map .sh)):=Oz λ d hd=>by
 obtain⟨x,_,rfl⟩:=zae.mp hd;exact Xc x
theorem rE (v:(Int×Int)×Option Int):LH (VE v)=true:=by
 obtain⟨c,l⟩:=v;cases l<;>rfl
theorem lB (A:LA):UK (.ok (MN A))=.ok (MN A):=by
 unfold UK MN;simp only[M.Aa];rw[Hd,LR _ λ d hd=>by
  obtain⟨x,_,rfl⟩:=zae.mp hd;exact rE x.2]
 rfl
theorem OA {L:List Int}(hn:L.Nodup){i:Nat}{x:Int}(h:L[i]?=some x):BU L x=i:=by
 have af:=(za3.mp h).1;have e:L=L.take i++x::L.drop (i+1):=by
  have h2:L.drop i=x::L.drop (i+1):=by
   rw[zc8 af];rw[z4 af] at h;rw[zad h]
  rw[<-h2,zc6]
 have hx:x∉L.take i:=λ hm=>by
  rw[e,zaj] at hn;exact hn.2.2 x hm x zw rfl
 rw[e,Xf hx,zbi];omega
theorem Xg {L:List Int}(hn:L.Nodup){i:Nat}{y:Int}(h:y∈L.drop i):i<=BU L y:=by
 have hy:y∉L.take i:=λ hm=>by
  rw[<-zc6 i L,zaj] at hn;exact hn.2.2 y hm y h rfl
 have h1:=S3 (pre:=L.take i) (post:=L.drop i) hy;rw[zc6,zbi] at h1;have h2:L.drop i≠[]:=λ e=>by rw[e] at h;cases h
 have h3:i<L.length:=by
  rw[Ne,List.drop_eq_nil_iff] at h2;omega
 omega
theorem lC {L:List Int}{i:Nat}{y:Int}(h:y∈L)(hr:i<=BU L y):y∈L.drop i:=by
 rw[<-zc6 i L] at h;rcases zab.mp h with h|h
 ·have h1:=VG (post:=L.drop i) h;rw[zc6,zbi] at h1;omega
 ·exact h
structure Pz (L:List Int)(C:CA)(s:Int)(i:Nat)(R:RA):Prop where
 nd:(R.map zan).Nodup
 rg:∀k∈R.map zan,k∈L
 st:BG (Ao R s) (some (0,0))
 sd:∀y c,Ao R y=some c->KZ (λ x y=>Ao C (x,y)) (BU L) s y c
 cl:∀x y,BU L x<i->BU L x<BU L y->BG (Ao R y) (Aq (Ao R x) (Ao C (x,y)))
theorem Pz.len {L:List Int}{C:CA}{s:Int}{i:Nat}{R:RA}(h:Pz L C s i R):R.length<=L.length:=by
 have:=En h.nd h.rg;rwa[zv] at this
structure mU (L:List Int)(C:CA)(s:Int)(i:Nat)(x:Int)(c0:Int×Int)(W:List Int)(R0 R:RA):Prop where
 nd:(R.map zan).Nodup
 rg:∀k∈R.map zan,k∈L
 sd:∀y c,Ao R y=some c->KZ (λ x y=>Ao C (x,y)) (BU L) s y c
 le:∀y,BG (Ao R y) (Ao R0 y)
 sm:∀y,BU L y<=i->Ao R y=Ao R0 y
 cw:∀y∈W,BG (Ao R y) (Aq (some c0) (Ao C (x,y)))
theorem mU.put {L:List Int}{C:CA}{s:Int}{i:Nat}{x:Int}{c0:Int×Int}{W:List Int}{R0 R:RA}(h:mU L C s i x c0 W R0 R){y:Int}{d v:Int×Int}(hy:y∈L)(hr:i<BU L y)(hx:BU L x=i)(p6:Ao R0 x=some c0)(hd:Ao C (x,y)=some d)(hv:EC (Ao R y) (some (c0.1+d.1,c0.2+d.2))=some v):mU L C s i x c0 (W++[y]) R0 (Dm R y v):=by
 have hle:BG (some v) (Ao R y):=hv▸Ga _ _;refine⟨LO h.nd,λ k hk=>(Ou hk).elim (h.rg k) λ e=>e▸hy,λ z c hz=>?_,λ z=>?_,λ z hz=>?_,λ z hz=>?_⟩
 ·rw[F1] at hz;split at hz
  ·rename_i e;subst e;cases hz;rcases Dj (Ao R z) (some (c0.1+d.1,c0.2+d.2)) with ⟨e,_⟩|⟨e,_⟩
   ·rw[hv] at e;exact h.sd z _ e.symm
   ·rw[hv] at e;cases e;have a8:=h.sd x c0 (by rw[h.sm x (by omega)];exact p6);exact .snoc a8 (by omega) hd
  ·exact h.sd z c hz
 ·rw[F1];split
  ·rename_i e;subst e;exact Aw hle (h.le z)
  ·exact h.le z
 ·rw[F1,if_neg (λ e=>by subst e;omega)];exact h.sm z hz
 ·rw[F1];split
  ·rename_i e;subst e;rw[hd];exact hv▸IC _ _
  ·rename_i e;rcases zab.mp hz with hz|hz
   ·exact h.cw z hz
   ·exact (e (z6.mp hz)).elim
theorem mU.skip {L:List Int}{C:CA}{s:Int}{i:Nat}{x:Int}{c0:Int×Int}{W:List Int}{R0 R:RA}(h:mU L C s i x c0 W R0 R){y:Int}(hd:Ao C (x,y)=none):mU L C s i x c0 (W++[y]) R0 R:=
 ⟨h.nd,h.rg,h.sd,h.le,h.sm,λ z hz=>by
  rcases zab.mp hz with hz|hz
  ·exact h.cw z hz
  ·rw[z6.mp hz,hd];cases Ao R y<;>exact trivial⟩
theorem Pz.go {L:List Int}{C:CA}{s:Int}{i:Nat}{x:Int}{c0:Int×Int}{R0 R:RA}(hC:∀p c,Ao C p=some c->p.2∈L)(h0:Pz L C s i R0)(hx:L[i]?=some x)(hn:L.Nodup)(hc:Ao R0 x=some c0)(h:mU L C s i x c0 (L.drop (i+1)) R0 R):Pz L C s (i+1) R:=by
 have qm:=OA hn hx;refine⟨h.nd,h.rg,Aw (h.le s) h0.st,h.sd,λ u y hu hy=>?_⟩;by_cases e:BU L u<i
 ·rw[h.sm u (by omega)];exact Aw (h.le y) (h0.cl u y e hy)
 ·have e2:BU L u=i:=by omega
  have hi:=(za3.mp hx).1;have qo:u∈L:=VH (by omega);have eu:u=x:=S4 qo (za9 hx) (by omega);subst eu;rw[h.sm u (by omega),hc];cases q:Ao C (u,y) with
  |none=>cases Ao R y<;>exact trivial
  |some d =>
   have:=h.cw y (lC (hC _ _ q) (by omega));rw[q] at this;exact this
theorem Pz.skip {L:List Int}{C:CA}{s:Int}{i:Nat}{x:Int}{R:RA}(h0:Pz L C s i R)(hx:L[i]?=some x)(hn:L.Nodup)(hc:Ao R x=none):Pz L C s (i+1) R:=by
 have qm:=OA hn hx;refine⟨h0.nd,h0.rg,h0.st,h0.sd,λ u y hu hy=>?_⟩;by_cases e:BU L u<i
 ·exact h0.cl u y e hy
 ·have hi:=(za3.mp hx).1;have eu:u=x:=S4 (VH (by omega)) (za9 hx) (by omega);subst eu;rw[hc];cases Ao C (u,y)<;>cases Ao R y<;>exact trivial
theorem Pz.start {L:List Int}{C:CA}{s:Int}(hs:s∈L):Pz L C s 0 [(s,(0,0))]:=by
 refine⟨by simp,λ k hk=>by simp at hk;rw[hk];exact hs,by simp[Ao,BG],λ y c h=>?_,λ x y h=>by omega⟩;simp only[Ao] at h;split at h
 ·rename_i e;subst e;cases h;exact .nil
 ·cases h
theorem Pz.zI {m:Nat}{L:List Int}{C:CA}{s:Int}{R:RA}(h:Pz L C s L.length R)(hC:∀p c,Ao C p=some c->p.1∈L/\p.2∈L):xG (BU L) (λ x y=>Ao C (x,y)) s (Ao R):=by
 refine⟨h.st,λ x y hr=>?_,h.sd⟩;cases q:Ao C (x,y) with
 |none=>cases Ao R x<;>cases Ao R y<;>exact trivial
 |some d =>
  have hx:BU L x<L.length:=za8 hr (eA L y);have:=h.cl x y hx hr;rw[q] at this;exact this
structure fQ (m:Nat)(L:List Int)(C:CA)(s:Int)(R:RA)(W:List Int)(T:List Co):Prop where
 len:T.length=m
 no:∀x:Int,0<=x->x<m->x∉W->atC T x=none
 top:∀x∈W,BG (atC T x) (Ao R x)
 cl:∀x∈W,∀y∈W,BU L y<BU L x->BG (atC T y) (Aq (atC T x) (Ao C (x,y)))
 sd:∀(x:Int) c,0<=x->x<m->atC T x=some c->∃t n c1 c2,KZ (λ x y=>Ao C (x,y)) (BU L) s t c1/\RZ (λ x y=>Ao C (x,y)) (BU L) t n x c2/\c=(c1.1+c2.1,c1.2+c2.2)
theorem fQ.step {m:Nat}{L:List Int}{C:CA}{s:Int}{R:RA}{W:List Int}{T:List Co}(hR:∀y c,Ao R y=some c->KZ (λ x y=>Ao C (x,y)) (BU L) s y c)(h:fQ m L C s R W T){y:Int}(qp:0<=y)(wn:y<m)(qr:y∉W)(hW:∀x∈W,(0<=x/\x<m)/\BU L y<BU L x):
 fQ m L C s R (W++[y]) (T.set y.toNat (Ec (Ao R y::W.map λ x=>Aq (atC T x) (Ao C (x,y))))):=by
 obtain⟨v,hv⟩:∃v,v=Ec (Ao R y::W.map λ x=>Aq (atC T x) (Ao C (x,y))):=⟨_,rfl⟩;rw[<-hv];have bp:∀i:Int,0<=i->atC (T.set y.toNat v) i=if i=y then v else atC T i:=λ i hi=>Nu qp hi (by rw[h.len];exact wn)
 have ce:∀x∈W,x≠y:=λ x hx e=>qr (e▸hx);refine⟨by rw[zbl];exact h.len,λ x h0 h1 hx=>?_,λ x hx=>?_,λ x hx z hz hr=>?_,λ x c h0 h1 hx=>?_⟩
 ·rw[zab,not_or] at hx;rw[bp x h0,if_neg (λ e=>hx.2 (z6.mpr e))];exact h.no x h0 h1 hx.1
 ·rcases zab.mp hx with hx|hx
  ·rw[bp x (hW x hx).1.1,if_neg (ce x hx)];exact h.top x hx
  ·have e:=z6.mp hx;subst e;rw[bp x qp,if_pos rfl,hv];exact Nt zw
 ·rcases zab.mp hx with a8|a8
  ·rcases zab.mp hz with bW|bW
   ·rw[bp x (hW x a8).1.1,if_neg (ce x a8),bp z (hW z bW).1.1,if_neg (ce z bW)];exact h.cl x a8 z bW hr
   ·have e:=z6.mp bW;rw[e] at hr ⊢;rw[bp x (hW x a8).1.1,if_neg (ce x a8),bp y qp,if_pos rfl,hv];exact Nt (zx _ (zae.mpr ⟨x,a8,rfl⟩))
  ·have e:=z6.mp a8;rw[e] at hr;rcases zab.mp hz with bW|bW
   ·have:=(hW z bW).2;omega
   ·rw[z6.mp bW] at hr;omega
 ·rw[bp x h0] at hx;split at hx
  ·rename_i e;subst e;rw[hv] at hx;rcases KQ (Ao R x::W.map λ z=>Aq (atC T z) (Ao C (z,x))) with e|e
   ·rw[e] at hx;cases hx
   ·rw[hx] at e;rcases z8.mp e with e|e
    ·exact⟨x,0,c,(0,0),hR x c e.symm,.nil,by simp⟩
    ·obtain⟨z,hz,e⟩:=zae.mp e;obtain⟨p,q,e1,e2,rfl⟩:=Em e;obtain⟨t,n,c1,c2,g1,g2,rfl⟩:=h.sd z p (hW z hz).1.1 (hW z hz).1.2 e1;exact⟨t,n+1,c1,_,g1,.snoc g2 (hW z hz).2 e2,by simp only[zct]⟩
  ·exact h.sd x c h0 h1 hx
theorem fQ.start {m:Nat}{L:List Int}{C:CA}{s:Int}{R:RA}:fQ m L C s R [] (za7 m none):=by
 have cn:∀x:Int,atC (za7 m none) x=none:=λ x=>by
  unfold atC;rw[zar,zc3];split<;>rfl
 exact⟨by simp,λ x _ _ _=>cn x,(λ x hx=>by cases hx),(λ x hx=>by cases hx),λ x c _ _ h=>by rw[cn] at h;cases h⟩
noncomputable abbrev Ar:=Option ((Int×Int)×Option Int)
noncomputable def Jv (v:Ar)(c:Co)(mid:Option Int):Ar:=match c with
 |none=>v
 |some c=>(match v with
  |none=>some (c,mid)
  |some z=>if c.1<z.1.1\/(c.1=z.1.1/\c.2<z.1.2) then some (c,mid) else v)
theorem Xh (A:LA)(p q:Int×Int)(c:Co)(mid:Option Int):Ao (layA A p c mid) q=if q=p then Jv (Ao A p) c mid else Ao A q:=by
 unfold layA Jv;cases c with
 |none =>
  dsimp only;by_cases h:q=p
  ·rw[if_pos h,h]
  ·rw[if_neg h]
 |some c =>
  cases e:Ao A p with
  |none=>dsimp only;rw[F1]
  |some z =>
   dsimp only;by_cases hc:c.1<z.1.1\/(c.1=z.1.1/\c.2<z.1.2)
   ·rw[if_pos hc,if_pos hc,F1]
   ·rw[if_neg hc,if_neg hc];by_cases h:q=p
    ·rw[if_pos h,h,e]
    ·rw[if_neg h]
theorem VN (p u w:Int)(A:LA)(x y:Int):Ao (Ny p u A w) (x,y)=if x=u/\y=w/\x≠y then Jv (Ao A (x,y)) (Aq (A9 A (x,p)) (A9 A (p,y))) (some p) else Ao A (x,y):=by
 unfold Ny;by_cases e:u=w
 ·rw[if_pos e,if_neg (λ h=>h.2.2 (h.1.trans (e.trans h.2.1.symm)))]
 ·rw[if_neg e,Xh];by_cases h:(x,y)=(u,w)
  ·cases h;rw[if_pos rfl,if_pos ⟨rfl,rfl,e⟩]
  ·rw[if_neg h,if_neg (λ z=>h (by rw[z.1,z.2.1]))]
theorem eL {p u:Int}(hu:u≠p)(x y:Int):∀ {H:List Int}{A:LA},H.Nodup->p∉H->Ao (H.foldl (Ny p u) A) (x,y)=if x=u/\y∈H/\x≠y then Jv (Ao A (x,y)) (Aq (A9 A (x,p)) (A9 A (p,y))) (some p) else Ao A (x,y)
 |[],A,_,_=>by rw[List.foldl_nil,if_neg (λ h=>by cases h.2.1)]
 |w::H,A,hn,hp=>by
  rw[zaw] at hn;have qt:p≠w:=λ e=>hp (by rw[e];exact zw);have wo:p∉H:=λ e=>hp (zx _ e);have c1:A9 (Ny p u A w) (x,p)=A9 A (x,p):=by unfold A9;rw[VN,if_neg (λ h=>qt h.2.1)]
  have c2:A9 (Ny p u A w) (p,y)=A9 A (p,y):=by unfold A9;rw[VN,if_neg (λ h=>hu h.1.symm)]
  rw[zah,eL hu x y hn.2 wo,c1,c2,VN];by_cases h1:x=u
  ·by_cases h2:x=y
   ·rw[if_neg (λ h=>h.2.2 h2),if_neg (λ h=>h.2.2 h2),if_neg (λ h=>h.2.2 h2)]
   ·by_cases h3:y=w
    ·have h4:y∉H:=by rw[h3];exact hn.1
     rw[if_neg (λ h=>h4 h.2.1),if_pos ⟨h1,h3,h2⟩,if_pos ⟨h1,by rw[h3];exact zw,h2⟩]
    ·by_cases h4:y∈H
     ·rw[if_pos ⟨h1,h4,h2⟩,if_neg (λ h=>h3 h.2.1),if_pos ⟨h1,zx _ h4,h2⟩]
     ·rw[if_neg (λ h=>h4 h.2.1),if_neg (λ h=>h3 h.2.1),if_neg (λ h=>by rcases z8.mp h.2.1 with z|z;exact h3 z;exact h4 z)]
  ·rw[if_neg (λ h=>h1 h.1),if_neg (λ h=>h1 h.1),if_neg (λ h=>h1 h.1)]
theorem TQ {p:Int}{H:List Int}(hn:H.Nodup)(hp:p∉H)(x y:Int):∀ {U:List Int}{A:LA},U.Nodup->p∉U->Ao (U.foldl (YD p H) A) (x,y)=if x∈U/\y∈H/\x≠y then Jv (Ao A (x,y)) (Aq (A9 A (x,p)) (A9 A (p,y))) (some p) else Ao A (x,y)
 |[],A,_,_=>by rw[List.foldl_nil,if_neg (λ h=>by cases h.1)]
 |u::U,A,hU,t9=>by
  rw[zaw] at hU;have ub:u≠p:=λ e=>t9 (by rw[e];exact zw);have wp:p∉U:=λ e=>t9 (zx _ e);have at':∀x y,Ao (YD p H A u) (x,y)=if x=u/\y∈H/\x≠y then Jv (Ao A (x,y)) (Aq (A9 A (x,p)) (A9 A (p,y))) (some p) else Ao A (x,y):=λ x y=>eL ub x y hn hp
  have c1:A9 (YD p H A u) (x,p)=A9 A (x,p):=by unfold A9;rw[at',if_neg (λ h=>hp h.2.1)]
  have c2:A9 (YD p H A u) (p,y)=A9 A (p,y):=by unfold A9;rw[at',if_neg (λ h=>ub h.1.symm)]
  rw[zah,TQ hn hp x y hU.2 wp,c1,c2,at'];by_cases h2:y∈H/\x≠y
  ·by_cases h1:x=u
   ·have h3:x∉U:=by rw[h1];exact hU.1
    rw[if_neg (λ h=>h3 h.1),if_pos ⟨h1,h2⟩,if_pos ⟨by rw[h1];exact zw,h2⟩]
   ·by_cases h3:x∈U
    ·rw[if_pos ⟨h3,h2⟩,if_neg (λ h=>h1 h.1),if_pos ⟨zx _ h3,h2⟩]
    ·rw[if_neg (λ h=>h3 h.1),if_neg (λ h=>h1 h.1),if_neg (λ h=>by rcases z8.mp h.1 with z|z;exact h1 z;exact h3 z)]
  ·rw[if_neg (λ h=>h2 h.2),if_neg (λ h=>h2 h.2),if_neg (λ h=>h2 h.2)]
theorem LS {p:Int}{H:List Int}(hn:H.Nodup)(hp:p∉H)(A:LA)(x y:Int):Ao (kY A p H) (x,y)=if x∈H/\y∈H/\x≠y then Jv (Ao A (x,y)) (Aq (A9 A (x,p)) (A9 A (p,y))) (some p) else Ao A (x,y):=TQ hn hp x y hn hp
noncomputable def lD (A:LA)(x y:Int)(W:List Int)(v:Ar):Ar:=W.foldl (λ v p=>Jv v (Aq (A9 A (x,p)) (A9 A (p,y))) (some p)) v
theorem OB {x y:Int}:∀ {L:List Int}{A:LA},L.Nodup->(x∉L\/y∉L)->Ao (Py A L) (x,y)=Ao A (x,y)
 |[],A,_,_=>rfl
 |p::r,A,hn,h=>by
  rw[zaw] at hn;have h':x∉r\/y∉r:=h.imp (λ z w=>z (zx _ w)) λ z w=>z (zx _ w);rw[Py,OB hn.2 h',LS hn.2 hn.1,if_neg (λ z=>h'.elim (λ w=>w z.1) λ w=>w z.2.1)]
theorem Xi {x y:Int}(ac:x≠y):∀ {L:List Int}{A:LA},L.Nodup->x∈L->y∈L->Ao (Py A L) (x,y)=lD (Py A L) x y (L.take (min (BU L x) (BU L y))) (Ao A (x,y))
 |[],A,_,h,_=>by cases h
 |p::r,A,hn,hx,hy=>by
  rw[zaw] at hn;have uc:∀z,z≠p->BU (p::r) z=BU r z+1:=λ z hz=>by show (if p=z then 0 else BU r z+1)=_;rw[if_neg (zb3 hz)]
  have ue:BU (p::r) p=0:=by show (if p=p then 0 else BU r p+1)=_;rw[if_pos rfl]
  rw[Py];by_cases h1:x=p
  ·rw[OB hn.2 (.inl (by rw[h1];exact hn.1)),LS hn.2 hn.1,if_neg (λ z=>hn.1 (by rw[<-h1];exact z.1)),h1,ue,Nat.zero_min];rfl
  by_cases h2:y=p
  ·rw[OB hn.2 (.inr (by rw[h2];exact hn.1)),LS hn.2 hn.1,if_neg (λ z=>hn.1 (by rw[<-h2];exact z.2.1)),h2,ue,Nat.min_zero];rfl
  have uf:x∈r:=(z8.mp hx).resolve_left h1;have lg:y∈r:=(z8.mp hy).resolve_left h2;have e1:A9 (Py (kY A p r) r) (x,p)=A9 A (x,p):=by unfold A9;rw[OB hn.2 (.inr hn.1),LS hn.2 hn.1,if_neg (λ z=>hn.1 z.2.1)]
  have e2:A9 (Py (kY A p r) r) (p,y)=A9 A (p,y):=by unfold A9;rw[OB hn.2 (.inl hn.1),LS hn.2 hn.1,if_neg (λ z=>hn.1 z.1)]
  have et:(p::r).take (min (BU (p::r) x) (BU (p::r) y))=p::r.take (min (BU r x) (BU r y)):=by
   rw[uc x h1,uc y h2,Nat.add_min_add_right,List.take_succ_cons]
  rw[et,Xi ac hn.2 uf lg,LS hn.2 hn.1,if_pos ⟨uf,lg,ac⟩];unfold lD;rw[zah,e1,e2]
theorem YH {rs:List Road}{L:List Int}{x y:Int}(hn:L.Nodup)(hx:x∈L)(hy:y∈L)(ac:x≠y):Ao (Bq rs L) (x,y)=lD (Bq rs L) x y (L.take (min (BU L x) (BU L y))) (Ao (lay0 rs) (x,y)):=Xi ac hn hx hy
theorem Xj (rs:List Road):∀x y c mid,Ao (lay0 rs) (x,y)=some (c,mid)->mid=none/\∃r∈rs,r.a=x/\r.b=y/\BS r=some c:=by
 unfold lay0;have:=FJ (L:=rs) (pre:=[]) (f:=λ A r=>layA A (r.a,r.b) (BS r) none) (b:=[]) (λ _ A=>∀x y c mid,Ao A (x,y)=some (c,mid)->mid=none/\∃r∈rs,r.a=x/\r.b=y/\BS r=some c) (λ _ _ _ _ h=>by cases h) λ r hr W B hB x y c mid h=>by
  rw[Xh] at h;by_cases e:(x,y)=(r.a,r.b)
  ·cases e;rw[if_pos rfl] at h;unfold Jv at h;cases q:BS r with
   |none=>rw[q] at h;exact hB _ _ _ _ h
   |some d =>
    rw[q] at h;dsimp only at h;split at h
    ·cases h;exact⟨rfl,r,hr,rfl,rfl,q⟩
    ·rename_i z hz;split at h
     ·cases h;exact⟨rfl,r,hr,rfl,rfl,q⟩
     ·exact hB _ _ _ _ h
  ·rw[if_neg e] at h;exact hB _ _ _ _ h
 exact this
noncomputable def eM (v:Ar):Co:=v.map zan
theorem lE (v:Ar)(c:Co)(mid:Option Int):eM (Jv v c mid)=EC (eM v) c:=by
 unfold Jv eM;cases c with
 |none=>cases v<;>rfl
 |some c =>
  cases v with
  |none=>rfl
  |some z =>
   dsimp only;simp only[zb8,EC,kI];by_cases hc:c.1<z.1.1\/(c.1=z.1.1/\c.2<z.1.2)
   ·rw[if_pos hc,if_neg (by omega)];rfl
   ·rw[if_neg hc,if_pos (by omega)];rfl
structure Fd (cd:Int->Co)(v0:Ar)(W:List Int)(v:Ar):Prop where
 le0:BG (eM v) (eM v0)
 lec:∀p∈W,BG (eM v) (cd p)
 AN:∀c,v=some (c,none)->v0=some (c,none)
 mid:∀c p,v=some (c,some p)->(∃W1 W2,W=W1++p::W2/\cd p=some c/\∀q∈W1,cd q≠some c)/\eM v0≠some c
theorem rF {cd:Int->Co}{v0:Ar}(h0:∀c p,v0≠some (c,some p))(W:List Int):Fd cd v0 W (W.foldl (λ v p=>Jv v (cd p) (some p)) v0):=by
 have:=FJ (L:=W) (pre:=[]) (f:=λ v p=>Jv v (cd p) (some p)) (b:=v0) (λ W v=>Fd cd v0 W v) ⟨C7 _,(λ p hp=>by cases hp),λ c h=>h,λ c p h=>absurd h (h0 c p)⟩ λ p hp W v hv=>by
  have de:=lE v (cd p) (some p);refine⟨?_,λ q hq=>?_,λ c h=>?_,λ c q h=>?_⟩
  ·rw[de];exact Aw (Ga _ _) hv.le0
  ·rw[de];rcases zab.mp hq with hq|hq
   ·exact Aw (Ga _ _) (hv.lec q hq)
   ·rw[z6.mp hq];exact IC _ _
  ·unfold Jv at h;split at h
   ·exact hv.AN c h
   ·split at h
    ·cases h
    ·rename_i z;split at h
     ·cases h
     ·exact hv.AN c h
  ·have keep:v=some (c,some q)->(∃W1 W2,W++[p]=W1++q::W2/\cd q=some c/\∀q∈W1,cd q≠some c)/\eM v0≠some c:=λ h=>by
    obtain⟨⟨W1,W2,e1,e2,e3⟩,e4⟩:=hv.mid c q h;exact⟨⟨W1,W2++[p],by rw[e1];simp,e2,e3⟩,e4⟩
   have new:∀d:Int×Int,cd p=some d->(∀z,eM v=some z->d.1<z.1\/(d.1=z.1/\d.2<z.2))->(∃W1 W2,W++[p]=W1++p::W2/\cd p=some d/\∀q∈W1,cd q≠some d)/\eM v0≠some d:=λ d hd af=>by
    have no:∀o:Co,BG (eM v) o->o≠some d:=λ o ho e=>by
     subst e;obtain⟨z,hz,hle⟩:=Ot ho;have:=af z hz;simp only[Nx] at hle;omega
    exact⟨⟨W,[],rfl,hd,λ q hq=>no _ (hv.lec q hq)⟩,no _ hv.le0⟩
   unfold Jv at h;split at h
   ·exact keep h
   ·rename_i c' hd;split at h
    ·cases h;exact new _ hd λ z hz=>by cases hz
    ·rename_i z;split at h
     ·rename_i hc;cases h;exact new _ hd λ z' hz=>by cases hz;exact hc
     ·exact keep h
 exact this
section
variable {m:Nat}{rs:List Road}{L:List Int}
theorem TR {L:List Int}(hn:L.Nodup){k:Nat}{x:Int}(h:x∈L.take k):x∈L/\BU L x<k:=by
 obtain⟨i,hi⟩:=List.mem_iff_getElem?.mp h;rw[List.getElem?_take] at hi;split at hi
 ·rename_i hk;exact⟨za9 hi,by rw[OA hn hi];exact hk⟩
 ·cases hi
end
theorem rG {a b i:Int}(ha:0<=a/\a<QO)(hb:0<=b/\b<QO)(h0:0<=i)(h1:i<2):∃w:Int,AE (.lst [.int a,.int b]) (.int i)=.ok (.int w)/\0<=w/\w<QO:=by
 have hi:i=0\/i=1:=by omega
 rcases hi with rfl|rfl
 ·exact⟨a,rfl,ha⟩
 ·exact⟨b,rfl,hb⟩
theorem lF {α:Type}{a b c d e f g h:D}{x y:α}:(if [a,b,c,d,e,f,g,h].length<=1000 then x else y)=x:=if_pos (by simp)
theorem Xk (r:Road):dp (.ok (BR r))=.ok (BR r):=by
 obtain⟨a,b,l,w⟩:=r;cases l<;>rfl
theorem Sa (i:Int):dp (.ok (.int i))=.ok (.int i):=rfl
theorem TU:∀(n:Nat) (B:List (Int×Int)) (L:List Int),L.length=n->(Yz n B L).Perm L
 |0,B,L,h=>by rw[List.length_eq_zero_iff.mp h];exact .refl _
 |n+1,B,L,h=>by
  have ac:L≠[]:=λ e=>by rw[e] at h;cases h
  have hm:=(QM (B:=B) ac).1;rw[Yz,if_neg ac];refine List.Perm.trans ?_ (List.perm_cons_erase hm).symm;exact (TU n _ _ (by rw[List.length_erase_of_mem hm,h];rfl)).cons _
theorem Inv.freeze {X:Cx}{pins:List (Addr×Obj)}{σ:St}{H:Hp}{s:Shared}{a:Addr}{kvs:List (Key×V)}(I:Inv X pins σ H s)(e:H a=some (.dK kvs)):
 ∃o,s.heap.get? a=some o/\Inv X pins σ (upd H a (.Gr o (.dK kvs))) s:=by
 obtain⟨z,y,vs,r,o,es,ep,ho,c⟩:=(show Bh X.prog X.w H s.heap a (.dK kvs) from I.As a _ e);have ne:∀b u,H b=some u->u≠.dK kvs->b≠a:=λ b u q n hb=>n (by rw[hb,e] at q;exact (zad q).symm);have As:Gs X.prog X.w (upd H a (.Gr o (.dK kvs))) s.heap:=λ b u q=>by
  by_cases hb:b=a
  ·subst hb;rw[An] at q;cases q;exact⟨ho,⟨z,y,vs,r,o,es,ep,ho,c⟩⟩
  ·rw[Ag hb] at q;exact (I.As b u q).PB (λ _ _ _ w=>w) (λ d w=>by rw[Ag (ne d _ w (λ z=>by cases z))];exact w) λ d xs w=>by rw[Ag (ne d _ w (λ z=>by cases z))];exact w
 refine⟨o,ho,?_⟩;have:=I.step (g':=s.gens) (d':=s.drawn) (t':=s.toks) (ch:=[]) (h':=s.heap) (H':=upd H a (.Gr o (.dK kvs))) (λ b hb=>by cases hb) (λ _ _ _ _ _ q _=>q) (λ b o _ _ _ q _=>⟨o.slots,q⟩) (λ b o _ _ n=>by rw[Ag (λ z=>by rw[z,e] at n;cases n)];exact n)
  (λ b o _ q=>⟨o,q⟩) (λ b xs q=>by rw[Ag (ne b _ q (λ z=>by cases z))];exact q) (λ b o u q=>by rw[Ag (ne b _ q (λ z=>by cases z))];exact q) (λ b ps q=>⟨#[],by rw[Ag (ne b _ q (λ z=>by cases z)),q];simp⟩) (λ _ q=>q) As I.bare
 exact this
theorem Inv.vW {X:Cx}{pins:List (Addr×Obj)}{σ:St}{H:Hp}{s:Shared}{a:Addr}{kvs:List (Key×V)}(I:Inv X pins σ H s)(e:H a=some (.dK kvs)):∀o u,X.H₀ a≠some (.Gr o u):=λ o u q=>by
 rw[I.base.MF a o u q] at e;cases e
theorem Inv.eO {X:Cx}{pins:List (Addr×Obj)}{σ:St}{H:Hp}{s:Shared}{a:Addr}{o:Obj}{kvs:List (Key×V)}(I:Inv X pins σ H s)(e:H a=some (.Gr o (.dK kvs)))(n0:∀o u,X.H₀ a≠some (.Gr o u)):Inv X pins σ (upd H a (.dK kvs)) s:=by
 have ne:∀b u,H b=some u->u≠.Gr o (.dK kvs)->b≠a:=λ b u q n hb=>n (by rw[hb,e] at q;exact (zad q).symm);have nn:∀b,H b=none->b≠a:=λ b q hb=>by rw[hb,e] at q;cases q
 refine⟨I.ok,I.os,I.bare,⟨I.base.keep,I.base.slot,λ b ob q n hx=>?_,I.base.there,λ b xs q=>?_,λ b ob u q=>?_,λ b ps q=>?_⟩,I.loc,I.cell,?_,λ x c h=>?_,λ p hp=>?_,λ b u q=>?_,I.len⟩
 ·have:=I.base.free b ob q n hx;rw[Ag (nn b this)];exact this
 ·have:=I.base.PD b xs q;rw[Ag (ne b _ this (λ z=>by cases z))];exact this
 ·by_cases hb:b=a
  ·subst hb;exact absurd q (n0 ob u)
  ·rw[Ag hb];exact I.base.MF b ob u q
 ·obtain⟨m,h⟩:=I.base.PF b ps q;exact⟨m,by rw[Ag (ne b _ h (λ z=>by cases z))];exact h⟩
 ·rw[Ag (nn _ I.free)];exact I.free
 ·rw[Ag (nn _ (I.Fq x c h))];exact I.Fq x c h
 ·obtain⟨h1,h2,h3⟩:=I.pin p hp;exact⟨h1,by rw[Ag (nn _ h2)];exact h2,h3⟩
 ·by_cases hb:b=a
  ·subst hb;rw[An] at q;cases q;obtain⟨h1,z,y,vs,r,ob,es,ep,ho,c⟩:=(show Bh X.prog X.w H s.heap b (.Gr o (.dK kvs)) from I.As b _ e);exact⟨z,y,vs,r,ob,es,ep,ho,c⟩
  ·rw[Ag hb] at q;exact (I.As b u q).PB (λ _ _ _ w=>w) (λ d w=>by rw[Ag (ne d _ w (λ z=>by cases z))];exact w) λ d xs w=>by rw[Ag (ne d _ w (λ z=>by cases z))];exact w
theorem YI:∀ {k:Key}{u:Value},ND k u=true->RelV (kV k) u
 | .inl i,u,h=>by
  obtain⟨t,e⟩:=Value.isInt_shape (k:=i) (v:=u) h;exact⟨t,e⟩
 | .inr x,u,h=>by
  obtain⟨t,e⟩:=Value.isStrOf_shape (x:=x) (v:=u) h;exact⟨t,e⟩
theorem KV.get {kvs:List (Key×V)}{vs:List (Key×Value)}(r:KV kvs vs){i:Nat}{k:Key}{x:Value}(h:vs[i]?=some (k,x)):∃v,kvs[i]?=some (k,v):=by
 induction r generalizing i with
 |nil=>cases h
 | @cons p q ps qs hd tl ih =>
  cases i with
  |zero =>
   rw[zbj] at h;cases h;have ep:p=(k,p.2):=Prod.ext hd.1 rfl;exact⟨p.2,by rw[zbj,<-ep]⟩
  |succ i=>rw[zak] at h ⊢;exact ih h
noncomputable def vX (a:Addr)(o:Obj)(kvs:List (Key×V)):It:=
 ⟨λ i H=>H a=some (.Gr o (.dK kvs))/\i<kvs.length,λ i H v H'=>H'=H/\∃kv,kvs[i]?=some kv/\v=kV kv.1,λ i H=>H a=some (.Gr o (.dK kvs))/\kvs.length<=i⟩
theorem YJ {P:Program}{w:World}{K:zt}{tg:Expr}(a it:Addr)(o:Obj)(kvs:List (Key×V))(vs:List (Key×Value))(ep:Nat)(hD:∀h:Heap,h.get? a=some o->h.DictAt (AL P w) a vs ep)(jq:KV kvs vs)(ac:a≠it):
 Turn P w K tg (vX a o kvs) [it] it (λ i h=>i<=kvs.length/\h.IsKeyIter it a i kvs.length ep) where
 mem:=by simp
 obj:=λ i h st b hb=>by
  have e:b=it:=by simpa using hb
  subst e;obtain⟨_,o,e,c,d⟩:=st;exact⟨o,e,λ v z=>by rw[d] at z;cases z⟩
 keep:=λ i h h' st k=>⟨st.1,st.2.at λ o e=>k it (by simp) o e⟩
 item:=by
  intro X hP hw hK hc i pins s σ H E I hf st hg;subst hP hw hK;obtain⟨he,hi⟩:=hg;have hlen:kvs.length=vs.length:=zck jq;have gm:s.heap.get? a=some o:=(show Bh X.prog X.w H s.heap a (.Gr o (.dK kvs)) from I.As a _ he).1;obtain⟨f0,f1,f2,f3,f4,f5⟩:=hf it (by simp);have W:=Walks.dictKeys (prog:=X.prog) (w:=X.w) (knd:=AL X.prog X.w) (A:=X.A) (I.ok.hd hc) it a ac vs ep;refine W.item i s _ _ (by omega) ⟨by rw[<-hlen];exact st.2,hD _ gm⟩ λ v h' tk hv aS kp=>?_;obtain⟨k,x,hk,wq⟩:=hv;obtain⟨v',m6⟩:=jq.get hk;have I1:Inv X pins σ H {s with heap:=h',toks:=tk}:=I.turned (t':=tk) (λ b o hb e=>kp b o (by simpa using hb) e) f0 f1 f3 f4 f5;obtain⟨ob,e,c,d⟩:=id aS.1;exact⟨v,rfl,SI (s:={s with heap:=h',toks:=tk}) e c d (by decide) ⟨kV k,H,I1,YI wq,⟨rfl,_,m6,rfl⟩,⟨hi,by rw[hlen];exact aS.1⟩,λ b hb=>(hf b hb).1⟩⟩
 done:=by
  intro X hP hw hK hc i pins s σ H E I hf st hg;subst hP hw hK;obtain⟨he,hi⟩:=hg;have hlen:kvs.length=vs.length:=zck jq;have gm:s.heap.get? a=some o:=(show Bh X.prog X.w H s.heap a (.Gr o (.dK kvs)) from I.As a _ he).1;obtain⟨f0,f1,f2,f3,f4,f5⟩:=hf it (by simp);have W:=Walks.dictKeys (prog:=X.prog) (w:=X.w) (knd:=AL X.prog X.w) (A:=X.A) (I.ok.hd hc) it a ac vs ep;have qk:i=vs.length:=by have:=st.1;omega
  subst qk;exact W.done s _ _ ⟨by rw[<-hlen];rw[<-hlen] at st;exact st.2,hD _ gm⟩ λ h' tk kp=>⟨rfl,I.turned (t':=tk) (λ b o hb e=>kp b o (by simpa using hb) e) f0 f1 f3 f4 f5⟩
 self:=λ _ _ _ _ _ st h=>wpAny_pyIter_keyiter st.2 h
section
variable {X:Cx}{WX:Str->Hp->Prop}{tg e:Expr}{f g:Ad->M D}{pos p:Pos}{te:TE}
noncomputable def vY (H0:Hp)(te:TE):TI:=λ σ H R=>te σ H λ v H1=>∃a kvs,v=.ref a/\((H1 a=some (.dK kvs)/\∀o,(∀o u,H0 a≠some (.Gr o u))->R (vX a o kvs) (upd H1 a (.Gr o (.dK kvs))))\/∃o,H1 a=some (.Gr o (.dK kvs))/\R (vX a o kvs) H1)
theorem lG (ha:PE X e te):PI X tg e (vY X.H₀ te):=by
 intro pins s σ H R I h;refine Bd (ha pins s σ H _ I h) λ v s1 zz=>?_;obtain⟨x,H1,I1,r1,q1⟩:=zz;obtain⟨a,kvs,rfl,q⟩:=q1;cases r1;have fin:∀(H2:Hp) (o:Obj),Inv X pins σ H2 s1->H2 a=some (.Gr o (.dK kvs))->R (vX a o kvs) H2->wpAny (model X.prog X.w) X.A (pyIter (.ref a)) (yB X pins σ tg R) X.xe s1:=λ H2 o I2 e2 q2=>by
  obtain⟨gm,z,y,vs,r,ob,es,ep,ho,c⟩:=(show Bh X.prog X.w H2 s1.heap a (.Gr o (.dK kvs)) from I2.As a _ e2);have eo:o=ob:=zad (gm.symm.trans ho);subst eo;have hD:∀h:Heap,h.get? a=some o->h.DictAt (AL X.prog X.w) a vs ep:=λ h q=>⟨o,es,q,c⟩;have hlen:kvs.length=vs.length:=zck r;refine wpAny_pyIter_dict y (hD _ gm) ?_;refine⟨s1.heap.objs.size,[s1.heap.objs.size],_,_,H2,rfl,I2.kept (t':=s1.toks) λ b o e=>z7 _ e,YJ a _ o kvs vs ep hD r (zaf (za4 gm)),⟨zb1 _,_,zac _ rfl,rfl,by rw[hlen];rfl⟩,λ b hb=>?_,q2⟩;have e:b=s1.heap.objs.size:=by simpa using hb
  subst e;exact I2.UQ (za2 _) (I2.As.fresh (za2 _))
 rcases q with ⟨e1,q⟩|⟨o,e1,q⟩
 ·obtain⟨o,ho,I2⟩:=I1.freeze e1;exact fin _ o I2 An (q o (I1.vW e1))
 ·exact fin H1 o I1 e1 q
end
def Rz (H H':Hp):Prop:=∀b u,H b=some u->H' b=some u\/(∃o kvs,u=.Gr o (.dK kvs)/\H' b=some (.dK kvs))\/∃o kvs,u=.dK kvs/\H' b=some (.Gr o (.dK kvs))
theorem Rz.tup {H H':Hp}(e:Rz H H'){a:Addr}{xs:List V}(h:H a=some (.tup xs)):H' a=some (.tup xs):=by
 rcases e _ _ h with q|⟨o,k,q,_⟩|⟨o,k,q,_⟩
 ·exact q
 ·cases q
 ·cases q
theorem Rz.dT {H H':Hp}(e:Rz H H'){a:Addr}{kvs:List (List Key×V)}(h:Rd H a (.dT kvs)):Rd H' a (.dT kvs):=by
 rcases h with h|⟨o,h⟩
 ·rcases e _ _ h with q|⟨o,k,q,_⟩|⟨o,k,q,_⟩
  ·exact .inl q
  ·cases q
  ·cases q
 ·rcases e _ _ h with q|⟨o,k,q,_⟩|⟨o,k,q,_⟩
  ·exact .inr ⟨_,q⟩
  ·cases q
  ·cases q
theorem Rz.dK {H H':Hp}(e:Rz H H'){a:Addr}{kvs:List (Key×V)}(h:Rd H a (.dK kvs)):Rd H' a (.dK kvs):=by
 rcases h with h|⟨o,h⟩
 ·rcases e _ _ h with q|⟨o,k,q,_⟩|⟨o,k,q,r⟩
  ·exact .inl q
  ·cases q
  ·cases q;exact .inr ⟨_,r⟩
 ·rcases e _ _ h with q|⟨o,k,q,r⟩|⟨o,k,q,_⟩
  ·exact .inr ⟨_,q⟩
  ·cases q;exact .inl r
  ·cases q
theorem Rz.ins {H H':Hp}(e:Rz H H'){a C dx:Addr}{fs:List (Str×V)}(h:H a=some (.ins C dx fs)):H' a=some (.ins C dx fs):=by
 rcases e _ _ h with q|⟨o,k,q,_⟩|⟨o,k,q,_⟩
 ·exact q
 ·cases q
 ·cases q
theorem Rz.ext {H H':Hp}(e:Rz H H'){a:Addr}{φ:Heap->Prop}(h:H a=some (.ext φ)):H' a=some (.ext φ):=by
 rcases e _ _ h with q|⟨o,k,q,_⟩|⟨o,k,q,_⟩
 ·exact q
 ·cases q
 ·cases q
theorem Rz.seq {K:zt}{H H':Hp}(e:Rz H H'){a:Addr}{xs:List V}(h:Dc K H a xs):Dc K H' a xs:=by
 rcases h with (h|⟨o,h⟩)|h
 ·rcases e _ _ h with q|⟨o,k,q,_⟩|⟨o,k,q,_⟩
  ·exact .inl (.inl q)
  ·cases q
  ·cases q
 ·rcases e _ _ h with q|⟨o,k,q,_⟩|⟨o,k,q,_⟩
  ·exact .inl (.inr ⟨_,q⟩)
  ·cases q
  ·cases q
 ·exact .inr h
mutual
theorem BD.rz {K:zt}{H H':Hp}(e:Rz H H'):∀ {v:V}{d:D},BD K H v d->BD K H' v d
 |_,_,.AN=>.AN
 |_,_,.bl b=>.bl b
 |_,_,.int i=>.int i
 |_,_,.str x=>.str x
 |_,_,.tup h r=>.tup (e.tup h) (Ai.rz e r)
 |_,_,.lst h r=>.lst (e.seq h) (Ai.rz e r)
 |_,_,.Qt h r=>.Qt (e.dK h) (Ai.rz e r)
 |_,_,.Rr h r=>.Rr (e.dT h) (Ai.rz e r)
 |_,_,.ins n h r=>.ins n (e.ins h) (Ai.rz e r)
 |_,_,.JL h r=>.JL h (e.ext r)
theorem Ai.rz {K:zt}{H H':Hp}(e:Rz H H'):∀ {vs:List V}{ds:List D},Ai K H vs ds->Ai K H' vs ds
 |_,_,.nil=>.nil
 |_,_,.cons h t=>.cons (BD.rz e h) (Ai.rz e t)
end
mutual
theorem BX.rz {K:zt}{H H':Hp}{P P':Addr->Prop}(sm:Rz (del H P) (del H' P')):∀ {v:V}{t:OT}{fp:List Addr},(∀a∈fp,H' a=H a)->BX K H P v t fp->BX K H' P' v t fp
 |_,_,_,_,.sh h=>.sh (h.rz sm)
 |_,_,_,k,.lst h r=>.lst ((k _ zw).trans h) (Ax.rz sm (λ a ha=>k a (zx _ ha)) r)
 |_,_,_,k,.tup h r=>.tup (sm.tup h) (Ax.rz sm k r)
 |_,_,_,k,.dK h r=>.dK ((k _ zw).trans h) (Ax.rz sm (λ a ha=>k a (zx _ ha)) r)
 |_,_,_,k,.dT h r=>.dT ((k _ zw).trans h) (Ax.rz sm (λ a ha=>k a (zx _ ha)) r)
 |_,_,_,k,.ins n h r=>.ins n ((k _ zw).trans h) (Ax.rz sm (λ a ha=>k a (zx _ ha)) r)
theorem Ax.rz {K:zt}{H H':Hp}{P P':Addr->Prop}(sm:Rz (del H P) (del H' P')):∀ {v:List V}{t:List OT}{fp:List Addr},(∀a∈fp,H' a=H a)->Ax K H P v t fp->Ax K H' P' v t fp
 |_,_,_,_,.nil=>.nil
 |_,_,_,k,.cons h r=>.cons (BX.rz sm (λ a ha=>k a (zaq _ ha)) h) (Ax.rz sm (λ a ha=>k a (z9 _ ha)) r)
end
theorem CS.rz {K:zt}{H H':Hp}{P P':Addr->Prop}(sm:Rz (del H P) (del H' P')):∀ {ps:List Addr}{FZ:List (List D)},(∀a∈ps,H' a=H a)->CS K H P ps FZ->CS K H' P' ps FZ
 |_,_,_,.nil=>.nil
 |_,_,k,.cons h r t=>.cons ((k _ zw).trans h) (r.rz sm) (CS.rz sm (λ a ha=>k a (zx _ ha)) t)
theorem CT.rz {K:zt}{H H':Hp}{P P':Addr->Prop}(sm:Rz (del H P) (del H' P')){c:Cl}{v:V}{fp:List Addr}(k:∀a∈fp,H' a=H a)(h:CT K H P c v fp):CT K H' P' c v fp:=by
 cases c with
 |val d=>exact h
 |own ds =>
  obtain⟨p,xs,rfl,rfl,h1,h2⟩:=h;exact⟨p,xs,rfl,rfl,(k p zw).trans h1,h2.rz sm⟩
 |ow o =>
  cases o with
  |rows FZ =>
   obtain⟨p,ps,rfl,rfl,h1,h2⟩:=h;exact⟨p,ps,rfl,rfl,(k p zw).trans h1,h2.rz sm λ a ha=>k a (zx _ ha)⟩
  |MI p ds =>
   obtain⟨p,xs,rfl,rfl,h1,h2⟩:=h;exact⟨p,xs,rfl,rfl,(k p zw).trans h1,h2.rz sm⟩
  |tree p t=>exact BX.rz sm k h
theorem Al.rz {K:zt}{P0:DJ}{P:Addr->Prop}{H H':Hp}{σ:St}{ρ:Ad}(E:Al K P0 P H σ ρ)(k:∀a,P a->H' a=H a)(sm:Rz (del H P) (del H' P)):Al K P0 P H' σ ρ:=by
 have key:∀(j:Nat) (d:Cl) (w:V) (fq:List Addr),ρ[j]?=some (some d)->σ[j]?=some (some w)->CT K H' P d w fq->CT K H P d w fq:=λ j d w fq hk sk ho=>by
  have io:GX d=true:=by cases d<;>first|rfl|exact ho.elim
  obtain⟨w',b5,s2,o2,h3,_⟩:=E.ows j d hk io;rw[sk] at s2;cases s2;have o3:=o2.rz sm λ a ha=>k a (h3 a ha).1;rw[ho.C4 o3];exact o2
 exact⟨E.sub,λ a h=>by obtain⟨o,z,y⟩:=E.Cn a h;exact⟨o,(k a h).trans z,y⟩,λ i d h=>let ⟨v,h1,h2⟩:=E.val i d h;⟨v,h1,h2.rz sm⟩,
  λ i c h io=>let ⟨v,fp,h1,h2,h3,h4⟩:=E.ows i c h io;⟨v,fp,h1,h2.rz sm λ a ha=>k a (h3 a ha).1,h3,h4⟩,
  λ i j c c' v v' fp ah hi hj si sj h h' ac=>E.apart i j c c' v v' fp ah hi hj si sj (key i c v fp hi si h) (key j c' v' ah hj sj h') ac,E.len,E.pin⟩
def Fz (H0:Hp)(H H':Hp):Prop:=H'=H\/∃a o kvs,H a=some (.dK kvs)/\H'=upd H a (.Gr o (.dK kvs))/\∀o u,H0 a≠some (.Gr o u)
def Uz (H0:Hp)(H H':Hp):Prop:=H'=H\/∃a o kvs,H a=some (.Gr o (.dK kvs))/\H'=upd H a (.dK kvs)/\∀o u,H0 a≠some (.Gr o u)
theorem Inv.uz {X:Cx}{pins:List (Addr×Obj)}{σ:St}{H H':Hp}{s:Shared}(I:Inv X pins σ H s)(u:Uz X.H₀ H H'):Inv X pins σ H' s:=by
 rcases u with rfl|⟨a,o,kvs,e,rfl,n0⟩
 ·exact I
 ·exact I.eO e n0
noncomputable def zJ (H0:Hp)(t:TE):TE:=λ σ H Q=>t σ H λ v H2=>∃H3,Uz H0 H2 H3/\Q v H3
theorem vZ {X:Cx}{e:Expr}{t:TE}(h:PE X e t):PE X e (zJ X.H₀ t):=by
 intro pins s σ H Q I q;refine Bd (h pins s σ H _ I q) λ v s1 zz=>?_;obtain⟨x,H1,I1,r1,q1⟩:=zz;obtain⟨H3,u,q⟩:=q1;exact⟨x,H3,I1.uz u,r1,q⟩
def DIK (X:Cx)(WX:Str->Hp->Prop)(tg iter:Expr)(f:Ad->M (List D)):Prop:=
 ∃wi,PI X tg iter wi/\∀P0 P σ H R ρ,Al X.K P0 P H σ ρ->(match f ρ with | .ok ds=>∀J H1 H',Ah H H1->Fz X.H₀ H1 H'->(∀b,P b->H' b=H1 b)->Rz (del H1 P) (del H' P)->Vg X.K J P H' ds->R J H' | .ex x=>∀H',Ah H H'->WX x H' | .bad=>False)->wi σ H R
noncomputable def rH (d:D):M (List D):=match d with | .Bu false ks _=>.ok ks | _=>.bad
theorem lH {K:zt}{H:Hp}:∀k:Key,BD K H (kV k) (Cm k)
 | .inl i=>.int i
 | .inr x=>.str x
theorem eQ {K:zt}{P:Addr->Prop}{H:Hp}{a:Addr}{o:Obj}{kvs:List (Key×V)}(nP:¬ P a)(e:H a=some (.Gr o (.dK kvs))):Vg K (vX a o kvs) P H (kvs.map λ kv=>Cm kv.1):=by
 have at':∀ {P':Addr->Prop} {H':Hp},Ah (del H P) (del H' P')->H' a=some (.Gr o (.dK kvs)):=λ s=>(Am (s a _ (by rw[AD nP];exact e))).2;refine⟨λ i P' H' s hi=>⟨at' s,by rw[zv] at hi;exact hi⟩,λ i P' H' s hi=>⟨at' s,by rw[zv] at hi;exact hi⟩,λ i P' H' v c8 d s ht hd y=>?_⟩;obtain⟨rfl,kv,hk,rfl⟩:=y;rw[zaa,hk] at hd;cases hd;exact⟨Ah.refl _,lH _⟩
section
variable {X:Cx}{WX:Str->Hp->Prop}{c:Bool}{P0:DJ}{P:Addr->Prop}{H:Hp}{σ:St}{ρ:Ad}{a b e tg iter:Expr}{f g:Ad->M D}{ft:Ad->M Bool}{pos:Pos}{gt:D->Ad->M Ad}{fi:Ad->M (List D)}{es:List Expr}{fs:Ad->M (List D)}
theorem lI (ha:DE X WX true e f):DIK X WX tg e (λ ρ=>(f ρ).bind rH):=by
 obtain⟨ta,a1,a2⟩:=ha;refine⟨_,lG a1,λ P0 P σ H R ρ E h=>?_⟩;dsimp only at h;refine a2 P0 P σ H _ ρ E ?_;cases q:f ρ with
 |bad|ex x=>rw[q] at h;exact h
 |ok d =>
  rw[q] at h;simp only[M.Aa] at h;unfold rH at h;cases d with
  |Bu t ks vs =>
   intro v H1 s1 hv;cases hv with
   | @Qt a kvs _ hh hl =>
    rcases hh with hh|⟨o,hh⟩
    ·obtain⟨nP,ea⟩:=Am hh;refine⟨a,kvs,rfl,.inl ⟨ea,λ o n0=>h _ H1 _ s1 (.inr ⟨a,o,kvs,ea,rfl,n0⟩) (λ b hb=>Ag λ z=>nP (by rw[<-z];exact hb)) (λ b u q=>?_) (eQ nP An)⟩⟩;obtain⟨n,q'⟩:=Am q;by_cases hb:b=a
     ·subst hb;rw[ea] at q';cases q';exact .inr (.inr ⟨o,kvs,rfl,by rw[AD n];exact An⟩)
     ·exact .inl (by rw[AD n,Ag hb];exact q')
    ·obtain⟨nP,ea⟩:=Am hh;exact⟨a,kvs,rfl,.inr ⟨o,ea,h _ H1 H1 s1 (.inl rfl) (λ _ _=>rfl) (λ _ _ q=>.inl q) (eQ nP ea)⟩⟩
   |Rr _ _=>exact h.elim
  |_=>exact h.elim
theorem lJ {μ:List (Option Nat)}{wi:TI}{gg:TG}{tc:Shared->Hp->Addr->List Addr->TT}{te:Shared->Hp->Addr->List Addr->TE}{fe:Ad->M D}
 (i2:∀P0 P σ H R ρ,Al X.K P0 P H σ ρ->(match fi ρ with | .ok ds=>∀J H1 H',Ah H H1->Fz X.H₀ H1 H'->(∀b,P b->H' b=H1 b)->Rz (del H1 P) (del H' P)->Vg X.K J P H' ds->R J H' | .ex x=>∀H',Ah H H'->WX x H' | .bad=>False)->wi σ H R)
 (g2:∀P0 P σ H Q ρ v d,Al X.K P0 P H σ ρ->BD X.K (del H P) v d->gG X.K P0 P H Q (gt d ρ)->gg v σ H Q)
 (t2:∀s H' C ex P0 P σ H Q ρ,Al X.K P0 P H σ ρ->gT (λ _ _=>False) H Q (ft ρ)->tc s H' C ex σ H Q)
 (e2:∀s H' C ex P0 P σ H Q ρ,Al X.K P0 P H σ ρ->gV X.K (λ _ _=>False) (Lv true P0 P) H Q (fe ρ)->te s H' C ex σ H Q) {Q:VK}
 (E:Al X.K P0 P H σ ρ) (h:Zb X.K WX P H Q ((fi ρ).bind λ ds=>if ds.length<=1000 then Gx (B4 gt ft fe ds (B8 μ ρ)) else .bad)):zJ X.H₀ (T5 wi μ gg tc te) σ H Q:=by
 unfold zJ;refine i2 P0 P σ H _ ρ E ?_;cases q:fi ρ with
 |bad|ex x=>rw[q] at h;exact h
 |ok ds =>
  rw[q] at h;simp only[M.Aa] at h;by_cases hd:¬ ds.length<=1000
  ·rw[if_neg hd] at h;exact h.elim
  have hd:ds.length<=1000:=by omega
  rw[if_pos hd] at h;intro J H0 H1 s0 fz kP rz ok s C ex;cases qc:B4 gt ft fe ds (B8 μ ρ) with
  |bad|ex x=>rw[qc] at h;exact h.elim
  |ok total =>
   rw[qc] at h;unfold Gx at h;dsimp only at h;have E1:Al X.K P0 P H1 σ ρ:=(E.same s0).rz kP rz;refine⟨λ i m ys H2=>m=ds.length-i/\i<=ds.length/\ys.length<=i/\Ah H1 H2/\∃es rest,Ai X.K (del H2 P) ys es/\B4 gt ft fe (ds.drop i) (B8 μ ρ)=.ok rest/\es++rest=total,
    ⟨ds.length,by simp,zb1 _,za2 _,Ah.refl _,[],total,.nil,by rw[zcu];exact qc,rfl⟩,?_⟩
   rintro i m ys H2 ⟨rfl,hi,hy,s2,es,rest,b9,ae,a6⟩;by_cases af:i<ds.length
   ·refine .inr ⟨ok.go i P H2 s2.del af,Nat.lt_of_le_of_lt hy (AH (by omega)),λ aJ H'=>i+1<=ds.length/\aJ.length<=i+1/\Ah H1 H'/\∃es rest,Ai X.K (del H' P) aJ es/\B4 gt ft fe (ds.drop (i+1)) (B8 μ ρ)=.ok rest/\es++rest=total,λ aJ H' hq=>⟨ds.length-(i+1),by omega,rfl,hq.1,hq.2.1,hq.2.2.1,hq.2.2.2⟩,λ v H3 y=>?_⟩;have E2:=E1.same s2;obtain⟨s3,hv⟩:=ok.gB i P H2 v H3 ds[i] s2.del E2.Cn (z4 af) y;rw[H9 af,B4] at ae;have E3:=(E2.same s3).block μ;refine g2 P0 P _ H3 _ (B8 μ ρ) v ds[i] E3 hv ?_;cases q1:gt ds[i] (B8 μ ρ) with
    |bad|ex x=>rw[q1] at ae;cases ae
    |ok ρ1 =>
     rw[q1] at ae;dsimp only at ae;intro σ4 E4;refine t2 s H1 C ex P0 P σ4 H3 _ ρ1 E4 ?_;cases q2:ft ρ1 with
     |bad|ex x=>rw[q2] at ae;cases ae
     |ok k =>
      rw[q2] at ae;dsimp only at ae;intro H5 s5;cases k with
      |false =>
       simp only[zag,if_false] at ae ⊢;exact⟨af,by omega,(s2.trans s3).trans s5,es,rest,(b9.mono s3.del).mono s5.del,ae,a6⟩
      |true =>
       simp only[if_true] at ae ⊢;refine e2 s H1 C ex P0 P σ4 H5 _ ρ1 (E4.same s5) ?_;cases q3:fe ρ1 with
       |bad|ex x=>rw[q3] at ae;cases ae
       |ok y' =>
        rw[q3] at ae;dsimp only at ae;cases q4:B4 gt ft fe (ds.drop (i+1)) (B8 μ ρ) with
        |bad|ex x=>rw[q4] at ae;cases ae
        |ok ja =>
         rw[q4] at ae;cases ae;intro w H6 s6 hw;refine⟨af,by rw[za6,zav];omega,((s2.trans s3).trans s5).trans s6,es++[y'],ja,(((b9.mono s3.del).mono s5.del).mono s6.del).snoc hw,rfl,?_⟩;rw[zb5];exact a6
   ·have e:i=ds.length:=by omega
    subst e;rw[zcf,B4] at ae;cases ae;rw[zb0] at a6;subst a6;refine .inl ⟨ok.stop _ P H2 s2.del (za2 _),λ D0 hn=>?_⟩;rcases fz with rfl|⟨a,o,kvs,ea,rfl,n0⟩
    ·exact⟨_,.inl rfl,h.II (s0.trans s2) b9 D0 hn⟩
    ·have e2:H2 a=some (.Gr o (.dK kvs)):=s2 a _ An;have nP:¬ P a:=λ z=>by
      have:=kP a z;rw[An,ea] at this;cases this
     have ac:a≠D0:=λ z=>by rw[<-z,e2] at hn;cases hn
     have ec:upd (upd H2 D0 (.lst ys)) a (.dK kvs)=upd (upd H2 a (.dK kvs)) D0 (.lst ys):=by
      funext b;by_cases hb:b=a
      ·subst hb;rw[An,Ag ac,An]
      ·rw[Ag hb];by_cases hd:b=D0
       ·subst hd;rw[An,An]
       ·rw[Ag hd,Ag hd,Ag hb]
     refine⟨upd (upd H2 D0 (.lst ys)) a (.dK kvs),.inr ⟨a,o,kvs,by rw[Ag ac];exact e2,rfl,n0⟩,?_⟩;rw[ec];have su:Ah H (upd H2 a (.dK kvs)):=s0.trans λ b u q=>by
      by_cases hb:b=a
      ·subst hb;rw[ea] at q;cases q;exact An
      ·rw[Ag hb];exact s2 b u (by rw[Ag hb];exact q)
     refine h.II su (b9.rz λ b u q=>?_) D0 (by rw[Ag (zb3 ac)];exact hn);by_cases hb:b=a
     ·subst hb;rw[AD nP,e2] at q;cases q;exact .inr (.inl ⟨o,kvs,rfl,by rw[AD nP];exact An⟩)
     ·refine .inl ?_;obtain⟨n,q'⟩:=Am q;rw[AD n,Ag hb];exact q'
theorem eR {scope:Scope}{NB:List Str}{ifs:List Expr}{elt:Expr}{fe:Ad->M D}(μ:List (Option Nat))(hc:X.calm=true)(hi:DIK X WX tg iter fi)(av:GJ scope X.env.scope=true)(aU:PP X.N NB scope μ=true)(hg:sF X scope NB μ tg gt)
 (ht:∀s H C ex,sG (blockOf X s H scope C NB ex) ifs ft) (he:∀s H C ex,DE (blockOf X s H scope C NB ex) (λ _ _=>False) true elt fe) (hs:∀x,foldedSetIterable iter X.env x=pure x:=by intro _;rfl):
 DN X WX (.ListComp elt [⟨tg,iter,ifs,0⟩] scope pos) (λ ρ=>(fi ρ).bind λ ds=>if ds.length<=1000 then Gx (B4 gt ft fe ds (B8 μ ρ)) else .bad):=by
 obtain⟨wi,i1,i2⟩:=hi;obtain⟨gg,g1,gk,g2⟩:=hg;refine⟨_,vZ (Wz hc i1 av aU gk (λ s H C ex=>⟨g1 s H C ex,(zu (ht s H C ex)).1,(zu (he s H C ex)).1⟩) hs),λ P0 P σ H Q ρ E h=>?_⟩;exact lJ i2 g2 (λ s H' C ex P0 P σ H Q ρ E h=>(zu (ht s H' C ex)).2 P0 P σ H Q ρ E h) (λ s H' C ex P0 P σ H Q ρ E h=>(zu (he s H' C ex)).2 P0 P σ H Q ρ E h) E h
end
theorem Xl:∀ {kvs:List (Key×V)}{vs:List (Key×Value)},KV kvs vs->∀us:List Value,us.length=vs.length->(∀(j:Nat) (v:Value),us[j]?=some v->∃k,vs[j]?=some (k,v))->Vals (kvs.map zbd) us
 |_,_,.nil,[],_,_=>.nil
 |_,_,.nil,_::_,h,_|_,_,.cons _ _,[],h,_=>by cases h
 |_,_,.cons hd tl,u::us,h,g=>by
  obtain⟨k,e⟩:=g 0 u rfl;rw[zbj] at e;cases e;exact .cons hd.2 (Xl tl us (by simpa using h) λ j v e=>by
   obtain⟨k,q⟩:=g (j+1) v (by rw[zak];exact e);rw[zak] at q;exact⟨k,q⟩)
section
variable {X:Cx}{WX:Str->Hp->Prop}{c:Bool}{o:Expr}{f:Ad->M D}{pos p apos ad:Pos}{to:TE}
noncomputable def wA (to:TE):TE:=λ σ H Q=>to σ H λ x H1=>∃a kvs,x=.ref a/\Rd H1 a (.dK kvs)/\∀p,H1 p=none->Q (.ref p) (upd H1 p (.ext λ h=>h.IsValuesView p a))
theorem YK (ho:PE X o to)(aj:attributeBase o "values" X.env (eval o X.env)=eval o X.env:=by rfl)(ak:(apos.endLine==ad.line)=true:=by rfl):PE X (.Call (.Attribute o "values" apos) [] [] ad) (wA to):=by
 intro pins s0 σ H Q I0 h;refine wpAny_Call_method0_late aj ak (Bd (ho pins s0 σ H _ I0 h) λ v s zz=>?_);obtain⟨x,H1,I,r,q⟩:=zz;obtain⟨a,kvs,rfl,ha,q⟩:=q;cases r;obtain⟨z,hd,vs,rel,dd⟩:=JS I.As ha;obtain⟨ob,es,ep,aF,hx,du⟩:=id dd;refine⟨"dict","dict.values",PySem.F.plainAttrs_dict,PySem.F.slot_dict_values,PySem.F.type_dict_values,dd.typeIs,λ b e=>?_,Calls.callWith_builtin rfl (PySem.evalArgs_none ?_)⟩
 ·cases e;exact⟨ob,aF,hx.2.1⟩
 refine call_meetsIn PySem.F.slot_dict_values dd.typeIs PySem.F.entry_dict_values (PySem.F.args_dict_values_1 _) (meets_dict_values (AL X.prog X.w) a hd) ⟨⟨vs,dd⟩,?_⟩;refine⟨.ref s.heap.objs.size,_,I.laid (a:=s.heap.objs.size) (o:=.ext λ h=>h.IsValuesView s.heap.objs.size a) (t':=s.toks) (λ b ob e=>z7 _ e) (za2 _) ⟨⟨_,zac _ rfl,rfl,rfl⟩,⟨_,zac _ rfl⟩,λ h1 h2 ⟨ob,e,cc⟩ k=>⟨ob,k ob e,cc⟩⟩,rfl,q _ (I.As.fresh (za2 _))⟩
theorem VO:Gu X (.type "list") (λ xs H Q=>∃p a kvs,xs=[.ref p]/\H p=some (.ext λ h=>h.IsValuesView p a)/\Rd H a (.dK kvs)/\X.calm=true/\∀l,H l=none->Q (.ref l) (upd H l (.lst (kvs.map zbd)))):=by
 intro pins s σ H xs us Q I r h;obtain⟨p,a,kvs,rfl,hp,ha,hc,q⟩:=h;obtain⟨u,rfl,rx⟩:=vals1 r;cases rx;obtain⟨z,hd,vs,rel,dd⟩:=JS I.As ha;obtain⟨ep,dat⟩:=dd.dictAt;have hv:s.heap.IsValuesView p a:=(show Bh X.prog X.w H s.heap p (.ext λ h=>h.IsValuesView p a) from I.As p _ hp).1;have hlen:kvs.length=vs.length:=zck rel;refine PySem.W.kdl_call (PySem.W.kdl_values (knd:=AL X.prog X.w) (kvs:=vs) (ep:=ep)) (I.ok.hd hc) ⟨hv,dat⟩ (by rw[<-hlen];exact z) λ h' tk acc c' hk hS db=>?_;have jr:Vals (kvs.map zbd) acc.toList:=Xl rel acc.toList (by rw[zd0];exact db.1) λ j v e=>db.2 j v (by rw[<-Array.getElem?_toList];exact e);exact⟨.ref s.heap.objs.size,_,I.laid (t':=tk) hk (za2 _) (show Bh X.prog X.w _ h' _ (.lst (kvs.map zbd)) from ⟨by rw[zv];exact z,acc.toList,c',jr,by rw[Array.toArray_toList];exact hS⟩),rfl,q _ (I.As.fresh (za2 _))⟩
noncomputable def eS (d:D):M OT:=match d with | .Bu false _ vs=>.ok (.lst (vs.map .sh)) | _=>.bad
theorem TV (hc:X.calm=true)(hg:Gl X "list")(hm:X.mg "list" = none)(ha:DE X WX true o f)(hb:bootBuiltins "list" = some (.type "list"):=by decide +kernel)
 (aj:attributeBase o "values" X.env (eval o X.env)=eval o X.env:=by rfl) (ak:(apos.endLine==ad.line)=true:=by rfl)
 (aD:starEach [.Call (.Attribute o "values" apos) [] [] ad] X.env=[(false,eval (.Call (.Attribute o "values" apos) [] [] ad) X.env)]:=by rfl):
 DN X WX (.Call (.Name "list" p) [.Call (.Attribute o "values" apos) [] [] ad] [] pos) (λ ρ=>(f ρ).bind eS):=by
 obtain⟨ta,a1,a2⟩:=ha;refine⟨_,Lx VO hg hm hb (BC (YK a1 aj ak) CP aD) (he:=aD),λ P0 P σ H Q ρ E h=>?_⟩;dsimp only at h;refine a2 P0 P σ H _ ρ E ?_;refine XZ h λ d h=>?_;intro v H1 s1 hv;unfold eS at h;split at h
 ·cases hv with
  | @Qt a kvs _ hh hl =>
   have hr:=hh.B2;refine⟨a,kvs,rfl,hr,λ p hp=>?_⟩;have sp:Ah H1 (upd H1 p (.ext λ h=>h.IsValuesView p a)):=AM hp _;exact⟨p,a,kvs,rfl,An,hr.same sp,hc,h.II (s1.trans sp) (hl.mono sp.del)⟩
 ·exact h.elim
end
section
variable {X:Cx}{WX:Str->Hp->Prop}{c:Bool}{P0:DJ}{P:Addr->Prop}{H:Hp}{σ:St}{ρ:Ad}{a b e tg iter:Expr}{f g:Ad->M D}{ft:Ad->M Bool}{pos:Pos}{gt:D->Ad->M Ad}{fi:Ad->M (List D)}
theorem rJ (ha:DE X WX true e f):DI X WX tg e (λ ρ=>(f ρ).bind λ d=>match d with | .tup ds=>.ok ds | _=>.bad):=by
 obtain⟨ta,a1,a2⟩:=ha;refine⟨_,oG a1,λ P0 P σ H R ρ E h=>?_⟩;dsimp only at h;refine a2 P0 P σ H _ ρ E ?_;cases q:f ρ with
 |bad|ex x=>rw[q] at h;exact h
 |ok d =>
  rw[q] at h;cases d with
  |tup ds =>
   intro v H1 s1 hv;cases hv with
   | @tup a xs _ hh hl =>
    have at':∀ {P':Addr->Prop} {H':Hp},Ah (del H1 P) (del H' P')->EY X.K H' a xs:=λ s=>.inl (.inl (Am (s a _ hh)).2);refine⟨a,rfl,⟨xs,.inl (.inl (Am hh).2)⟩,h _ H1 s1 ⟨λ i P' H' s hi=>?_,λ i P' H' s hi=>?_,λ i P' H' v c8 d s ht hd y=>?_⟩⟩
    ·obtain⟨x,hx,_⟩:=hl.get (z4 hi);exact⟨xs,x,at' s,hx⟩
    ·exact⟨xs,at' s,by rw[hl.length];exact hi⟩
    ·obtain⟨rfl,y⟩:=y;obtain⟨x,hx,aO⟩:=hl.get hd;have e:=y xs (at' s);rw[hx] at e;cases e;exact⟨Ah.refl _,aO.mono s⟩
  |_=>exact h.elim
end
section
variable {prog:Program}{w:World}{A:Around}{E:Value->Shared->Prop}{s:Shared}
theorem QP {K:Type}[DecidableEq K]{knd:KeyKind prog w K}{h h':Heap}{d I l:Addr}{i:Nat}{xs:List (K×Value)}(hd:h.DictOf knd d xs)(hit:h.IsListIter I l i)(sb:∀b o,b≠I->h.get? b=some o->h'.get? b=some o):h'.DictOf knd d xs:=by
 obtain⟨o,es,ep,h1,h2,h3,h4⟩:=hd;obtain⟨oi,i1,i2,i3⟩:=hit;refine⟨o,es,ep,sb d o (λ z=>?_) h1,h2,h3,h4⟩;subst z;rw[i1] at h1;cases h1;rw[i3] at h3;cases h3
theorem VP {K:Type}[DecidableEq K]{knd:KeyKind prog w K}{R:Result->Shared->Prop}{d I l:Addr}{items:Array Value}{h0:Heap}(ps:List (K×Value×Value))(hh:A.handled=none)(fv:l≠I)(p7:d≠I)(d6:l≠d)
 (ji:ps.length=items.size) (hsz:items.size+1<=sizeLine) (hl:h0.IsList l items)
 (hp:∀(j:Nat) p,ps[j]?=some p->knd.is p.1 p.2.1=true/\∃t,items[j]?=some (.ref t)/\t≠d/\t≠I/\IsTup h0 t #[p.2.1,p.2.2]):
 ∀(m i:Nat) (xs:List (K×Value)) (s:Shared),items.size-i=m->i<=items.size->xs.length<=i->s.heap.IsListIter I l i->s.heap.DictOf knd d xs->(∀b o,b≠d->b≠I->h0.get? b=some o->s.heap.get? b=some o)->
  (∀h' tk,h'.DictOf knd d ((ps.drop i).foldl (λ acc p=>stored acc p.1 p.2.2) xs)->(∀b o,b≠d->b≠I->h0.get? b=some o->h'.get? b=some o)->R (.ok (.ret .none)) {s with heap:=h',toks:=tk})->
  codeAny (model prog w) A (.builtin "dict.update.loop" ⟨[.ref d,.ref I,rawInt i,.none],[]⟩) R s:=by
 intro m;induction m with
 |zero =>
  intro i xs s hm hi p8 hit hd hf h;have bm:i=items.size:=by omega
  refine codeAny_builtin IB ?_;rw[zcb CK _];show wpAny _ A.in1 (pyNext (.ref I) >>= _) _ _ s;refine wpAny_bind (wpAny_pyNext_list_end (A:=A.in1) hh hit (hl.at λ o e=>hf l o d6 fv e) (by simp[bm]) λ h' eb=>?_);have hd2:=QP hd hit λ b o hb e=>eb b o hb e;show wpAny _ A.in1 (Dict.addKeywords d [] >>= _) _ _ _;unfold Dict.addKeywords;refine wpAny_bind (wpAny_bind ?_);refine wpAny_pure (wpAny_pure (wpAny_pure ?_));have ed:ps.drop i=[]:=by rw[List.drop_eq_nil_iff];omega
  rw[ed] at h;exact h h' s.toks hd2 λ b o h1 h2 e=>eb b o h2 (hf b o h1 h2 e)
 |succ m ih =>
  intro i xs s hm hi p8 hit hd hf h;have af:i<items.size:=by omega
  obtain⟨p,gf⟩:∃p,ps[i]?=some p:=⟨ps[i]'(by omega),z4 _⟩;obtain⟨p3,t,ht,t1,t2,t3⟩:=hp i p gf;refine codeAny_builtin IB ?_;rw[zcb CK _];show wpAny _ A.in1 (pyNext (.ref I) >>= _) _ _ s;refine wpAny_bind (wpAny_pyNext_list_item (A:=A.in1) hit (hl.at λ o e=>hf l o d6 fv e) ht λ h' bn sb=>?_);have hd2:h'.DictOf knd d xs:=QP hd hit λ b o hb e=>(sb.2 b hb).trans e;have g9:∀b o,b≠d->b≠I->h0.get? b=some o->h'.get? b=some o:=λ b o h1 h2 e=>(sb.2 b h2).trans (hf b o h1 h2 e);have t4:IsTup h' t #[p.2.1,p.2.2]:=by
   obtain⟨o,e1,e2⟩:=t3;exact⟨o,g9 t o t1 t2 e1,e2⟩
  dsimp only;refine wpAny_bind (wpAny_holding (wpAny_bind (wpAny_tryCatch (QH t4 ?_))));show wpAny _ A.in1 (holding [p.2.1,p.2.2] (dictSet d p.2.1 p.2.2)) _ _ _;refine wpAny_holding (wpAny_dictSet_pairs (knd:=knd) (hsz:=by omega) p3 hd2 λ h3 gh jj=>?_);refine wpAny_pure ⟨plainId_quiet CK _,?_⟩;have gi:h3.IsListIter I l (i+1):=by
   obtain⟨o,e1,e2⟩:=bn;exact⟨o,(jj.2 I (zb3 p7)).trans e1,e2⟩
  have ed:ps.drop i=p::ps.drop (i+1):=by
   rw[zc8 (by omega:i<ps.length)];rw[z4 (by omega:i<ps.length)] at gf;rw[zad gf]
  rw[ed,zah] at h;have b7:(stored xs p.1 p.2.2).length<=i+1:=by
   unfold stored;split
   ·rw[zv];omega
   ·rw[za6,zav];omega
  exact ih (i+1) (stored xs p.1 p.2.2) {s with heap:=h3,toks:=s.toks+1} (by omega) (by omega) b7 gi gh (λ b o h1 h2 e=>(jj.2 b h1).trans (g9 b o h1 h2 e)) h
theorem PY {K:Type}[DecidableEq K]{knd:KeyKind prog w K}{Q:Value->Shared->Prop}{l:Addr}{items:Array Value}{n:Nat}{sl:Array (Option Value)}(ps:List (K×Value×Value))(hh:A.handled=none)
 (ji:ps.length=items.size) (hsz:items.size+1<=sizeLine) (hl:s.heap.get? l=some {cls:=.type "list",data:=.seq items n,slots:=sl})
 (hp:∀(j:Nat) p,ps[j]?=some p->knd.is p.1 p.2.1=true/\∃t,items[j]?=some (.ref t)/\IsTup s.heap t #[p.2.1,p.2.2])
 (h:∀h' tk,h'.DictOf knd s.heap.objs.size (ps.foldl (λ acc p=>stored acc p.1 p.2.2) [])->(∀b o,s.heap.get? b=some o->h'.get? b=some o)->Q (.ref s.heap.objs.size) {s with heap:=h',toks:=tk}):
 wpAny (model prog w) A (call (.type "dict") [.ref l]) Q E s:=by
 refine callType_codes (Q₁:=λ obj s₁=>obj=.ref s.heap.objs.size/\s₁={s with heap:=s.heap.push {cls:=.type "dict",data:=.dict #[]} }) PySem.F.kt_called_dict (PySem.F.kt_typeCall_dict_1 _) PySem.F.entry_dict_init
  (kt_code_dict_new _ ⟨rfl,rfl⟩) λ obj s₁ h₁=>?_
 obtain⟨rfl,rfl⟩:=h₁;have hS:(s.heap.push {cls:=.type "dict",data:=.dict #[]}).get? s.heap.objs.size=some {cls:=.type "dict",data:=.dict #[]}:=zac _ rfl;have ll:l<s.heap.objs.size:=za4 hl;have bo:(s.heap.push {cls:=.type "dict",data:=.dict #[]}).get? l=some {cls:=.type "list",data:=.seq items n,slots:=sl}:=z7 _ hl;refine⟨⟨_,hS,rfl⟩,PySem.F.args_dict_init_2 _ _,?_⟩;have TD:Looks (model prog w) (s.heap.push {cls:=.type "dict",data:=.dict #[]}) (typeOf (.ref s.heap.objs.size)) (.type "dict"):=(Looks.ld hS).andThen .now;have TL:Looks (model prog w) (s.heap.push {cls:=.type "dict",data:=.dict #[]}) (typeOf (.ref l)) (.type "list"):=(Looks.ld bo).andThen .now;unfold Builtin.«dict.__init__» Dict.selfAndRest Dict.notOrdered;dsimp only;rw[if_pos (by decide)];refine wpAny_bind (wpAny_bind (wpAny_bind (TD.at ?_)));rw[if_neg (by decide)];refine wpAny_pure ?_;unfold Dict.addrOf;refine wpAny_bind (wpAny_pure (wpAny_pure ?_));unfold Dict.updateCommon Dict.updateFrom;dsimp only;refine wpAny_bind (TL.at ?_);rw[if_pos (by decide)];refine wpAny_bind (Mf (A:=A.in1.in1) hh bo λ h2 we gj=>?_);rw[if_pos (show (none:Option Value).isNone=true from rfl)];refine wpAny_bind (wpAny_rule ?_);have am:h2.IsList l items:=⟨_,gj _ _ bo,rfl,n,rfl⟩;have jk:=gj _ _ hS;refine wpAny_bind (wpAny_pyIter_list am ?_);refine wpAny_pure ⟨plainId_quiet CK _,?_⟩;have lz:s.heap.objs.size<h2.objs.size:=za4 jk;have p9:∀b o,s.heap.get? b=some o->(h2.push {cls:=.type "list_iterator",data:=.fields #[.ref l,.int 0 0]}).get? b=some o:=λ b o e=>z7 _ (gj _ _ (z7 _ e));have gh:(h2.push {cls:=.type "list_iterator",data:=.fields #[.ref l,.int 0 0]}).DictOf knd s.heap.objs.size []:=
  ⟨_,#[],0,z7 _ jk,⟨rfl,rfl,rfl⟩,rfl,(by intro e he;simp at he),.nil,zbn⟩
 have af:∀b o,s.heap.get? b=some o->b≠s.heap.objs.size/\b≠h2.objs.size:=λ b o e=>by
  have:=za4 e;exact⟨zaf this,zaf (Nat.lt_trans this lz)⟩
 refine VP (A:=A.in1) (knd:=knd) (l:=l) (h0:=s.heap) ps hh (zaf (Nat.lt_trans ll lz)) (zaf lz) (zaf ll) ji hsz ⟨_,hl,rfl,n,rfl⟩ (λ j p hj=>?_) items.size 0 [] _ (by omega) (by omega) (by simp) ⟨_,zac _ rfl,rfl,rfl⟩ gh (λ b o h1 f6 e=>p9 b o e) λ h' tk aO qd=>?_
 ·obtain⟨q1,t,q2,q3⟩:=hp j p hj;obtain⟨o2,e2,_⟩:=id q3;exact⟨q1,t,q2,(af _ _ e2).1,(af _ _ e2).2,q3⟩
 ·exact⟨rfl,h h' tk aO λ b o e=>qd b o (af _ _ e).1 (af _ _ e).2 e⟩
end
structure YL where
 (t:Addr) (κ:Key) (v:V)
def rK (H:Hp)(p:YL):Prop:=H p.t=some (.tup [kV p.κ,p.v])
noncomputable def lK (ps:List YL):List (Key×V):=ps.foldl (λ acc p=>putK acc p.κ p.v) []
noncomputable def tDK (X:Cx)(te:TE):TE:=λ σ H Q=>te σ H λ x H1=>∃(l:Addr) (ps:List YL),x=.ref l/\Dc X.K H1 l (ps.map λ p=>V.ref p.t)/\(∀p∈ps,rK H1 p)/\ps.length<=1000/\∀r,H1 r=none->Q (.ref r) (upd H1 r (.dK (lK ps)))
theorem TX:∀ {ps:List YL}{us:List Value},Vals (ps.map λ p=>V.ref p.t) us->us=ps.map λ p=>zb6 p.t
 |[],_,.nil=>rfl
 |p::ps,_,.cons h t=>by
  cases h;rw[zy,<-TX t]
theorem mV:∀ {ps:List YL}{qs:List (Key×Value×Value)}{kvs:List (Key×V)}{xs:List (Key×Value)},Paired (λ(p:YL) (q:Key×Value×Value)=>p.κ=q.1/\RelV p.v q.2.2) ps qs->KV kvs xs->KV (ps.foldl (λ acc p=>putK acc p.κ p.v) kvs) (qs.foldl (λ acc p=>stored acc p.1 p.2.2) xs)
 |[],_,_,_,.nil,h=>h
 |p::ps,_,_,_,.cons (b:=q) hq t,h=>by
  obtain⟨q1,q2,q3⟩:=q;obtain⟨e1,e3⟩:=hq;dsimp only at e1 e3;subst e1;have r:=mV (ps:=ps) t (h.put p.κ e3);exact r
theorem Xm:∀(ps:List YL) (kvs:List (Key×V)),(ps.foldl (λ acc p=>putK acc p.κ p.v) kvs).length<=kvs.length+ps.length
 |[],kvs=>za2 _
 |p::ps,kvs=>by
  have h1:=Xm ps (putK kvs p.κ p.v);have h2:=Dw kvs p.κ p.v;rw[zah,z5];omega
theorem Xn {h:Heap}{H:Hp}{P:Program}{w:World}(ok:Gs P w H h):∀ {ps:List YL},(∀p∈ps,rK H p)->∃qs:List (Key×Value×Value),Paired (λ(p:YL) (q:Key×Value×Value)=>p.κ=q.1/\RelV p.v q.2.2) ps qs/\
 ∀(j:Nat) q,qs[j]?=some q->(AL P w).is q.1 q.2.1=true/\∃t,(ps.map λ p=>zb6 p.t)[j]?=some (.ref t)/\IsTup h t #[q.2.1,q.2.2]
 |[],_=>⟨[],.nil,λ j q e=>by simp at e⟩
 |p::ps,ho=>by
  obtain⟨qs,h1,h2⟩:=Xn ok λ p hp=>ho p (zx _ hp);have o1:=ho p zw;obtain⟨_,aa,r,it⟩:=(show Bh P w H h p.t (.tup [kV p.κ,p.v]) from ok p.t _ o1);obtain⟨u,v,rfl,ru,rv⟩:=r.two;refine⟨(p.κ,u,v)::qs,.cons ⟨rfl,rv⟩ h1,λ j q e=>?_⟩;cases j with
  |zero =>
   rw[zbj] at e;cases e;exact⟨Ma ru,p.t,by simp,it⟩
  |succ j =>
   rw[zak] at e;obtain⟨a1,t,a2,a3⟩:=h2 j q e;exact⟨a1,t,by simpa using a2,a3⟩
section
variable {X:Cx}{WX:Str->Hp->Prop}{c:Bool}{P0:DJ}{P:Addr->Prop}{H:Hp}{σ:St}{ρ:Ad}{a b e:Expr}{f g:Ad->M D}{fn:Ad->M OT}{pos:Pos}{te:TE}
theorem eT {p:Pos}(hc:X.calm=true)(hg:Gl X "dict")(hm:X.mg "dict" = none)(he:PE X e te)(hv:bootBuiltins "dict" = some (.type "dict"):=by decide +kernel)(hs:starEach [e] X.env=[(false,eval e X.env)]:=by rfl):
 PE X (.Call (.Name "dict" p) [e] [] pos) (tDK X te):=by
 intro pins s σ H Q I h;refine wpAny_Call_Name_kw (CO I hg hm hv ?_);refine zay ?_ hs;rw[hs];refine zbp (Bd (he pins s σ H _ I h) λ u s1 zz=>?_);obtain⟨x,H1,I1,r1,q1⟩:=zz;obtain⟨l,ps,rfl,hq,ho,hlen,q⟩:=q1;cases r1;refine zbv ?_;obtain⟨aa,r',pl,hz⟩:=I1.list hq;have hits:=TX r';subst hits;obtain⟨⟨qe,jl,jm,gl⟩,n0,o1,o2,o3,o4⟩:=pl;dsimp only at o2 o3 o4;subst o2 o3 o4;obtain⟨qs,h1,h2⟩:=Xn I1.As ho;refine PY (knd:=AL X.prog X.w) qs (I1.ok.hd hc) (by rw[za0,zv,<-h1.length]) (AH (by rw[za0,zv];omega)) o1 (λ j p hj=>?_) λ h' tk hd kp=>?_
 ·obtain⟨a1,t,a2,a3⟩:=h2 j p hj;exact⟨a1,t,by rw[List.getElem?_toArray];exact a2,a3⟩
 ·have qg:=mV h1 (show KV [] [] from .nil);have d4:s1.heap.objs.size<=s1.heap.objs.size:=za2 _;have bu:=I1.As.fresh d4;have l6:=Xm ps [];exact⟨.ref _,_,I1.laid (t':=tk) (o:=.dK (lK ps)) kp d4 ⟨zbk (AH (by unfold lK;simp at l6;omega)),beq_eq_false_iff_ne.mpr (zb3 (zaf I1.big)),_,qg,hd⟩,rfl,q _ bu⟩
noncomputable def lL (d:D):M OT:=match d with
 | .lst xs=>(match RS xs with|some l=>if l.length<=1000/\(l.all λ kv=>keyOk false kv.1)=true then .ok (.Bu false (mL l).1 ((mL l).2.map .sh)) else .bad|none=>.bad)
 |_=>.bad
theorem Xo {K:zt}{H:Hp}{P:Addr->Prop}:∀ {xs:List V}{ds:List D}{l:List (D×D)},Ai K (del H P) xs ds->RS ds=some l->(l.all λ kv=>keyOk false kv.1)=true->
 ∃ps:List YL,xs=ps.map (λ p=>V.ref p.t)/\(∀p∈ps,rK H p)/\Paired (λ(p:YL) (kv:D×D)=>kv.1=Cm p.κ/\BD K (del H P) p.v kv.2) ps l
 |_,[],l,.nil,e,_=>by cases e;exact⟨[],rfl,λ p hp=>(by cases hp),.nil⟩
 |_,d::ds,l,.cons hd ht,e,hk=>by
  unfold RS at e;split at e
  ·rename_i bJ;cases bJ
  ·rename_i k v r bJ;cases bJ;obtain⟨l',e1,e2⟩:=Option.map_eq_some_iff.mp e;subst e2;rw[List.all_cons,zat] at hk;obtain⟨ps,q1,q2,q3⟩:=Xo ht e1 hk.2;have hK:=Ez hk.1;cases hK with
   |k κ =>
    cases hd with
    | @tup tt _ _ h1 h2 =>
     obtain⟨x,y,rfl,hx,hy⟩:=h2.two;have ex:=hx.iY;subst ex;refine⟨⟨tt,κ,y⟩::ps,by rw[zy,q1],λ p hp=>?_,.cons ⟨rfl,hy⟩ q3⟩;rcases z8.mp hp with rfl|hp
     ·exact (Am h1).2
     ·exact q2 p hp
  ·cases e
theorem Xp {K:zt}{H:Hp}{P:Addr->Prop}:∀ {ps:List YL}{l:List (D×D)}{kvs:List (Key×V)}{vs:List D},Paired (λ(p:YL) (kv:D×D)=>kv.1=Cm p.κ/\BD K (del H P) p.v kv.2) ps l->Ai K (del H P) (kvs.map zbd) vs->
 ∃a9,l.foldl (λ z kv=>putD z.1 z.2 kv.1 kv.2) (kvs.map (λ kv=>Cm kv.1),vs)=((ps.foldl (λ acc p=>putK acc p.κ p.v) kvs).map (λ kv=>Cm kv.1),a9)/\Ai K (del H P) ((ps.foldl (λ acc p=>putK acc p.κ p.v) kvs).map zbd) a9
 |[],_,kvs,vs,.nil,h=>⟨vs,rfl,h⟩
 |p::ps,_,kvs,vs,.cons (b:=kv) hq t,h=>by
  obtain⟨k,d⟩:=kv;obtain⟨e1,e2⟩:=hq;dsimp only at e1 e2;subst e1;have aL:∃a9,(putD (kvs.map λ kv=>Cm kv.1) vs (Cm p.κ) d)=((putK kvs p.κ p.v).map (λ kv=>Cm kv.1),a9)/\Ai K (del H P) ((putK kvs p.κ p.v).map zbd) a9:=by
   unfold putD putK;rw[K7 (fk:=Cm) He];by_cases hh:(kvs.any λ kv=>decide (kv.1=p.κ))=true
   ·rw[if_pos hh,if_pos hh];refine⟨_,by rw[Hg (fk:=Cm) He],?_⟩;rw[<-Hf (fk:=Cm) He];exact Hh e2 h
   ·rw[if_neg hh,if_neg hh];refine⟨_,by rw[zao];rfl,?_⟩;rw[zao];exact h.snoc e2
  obtain⟨wg,g1,g2⟩:=aL;obtain⟨qh,g3,g4⟩:=Xp t g2;refine⟨qh,?_,g4⟩;rw[zah];dsimp only;rw[g1];exact g3
theorem eV {p:Pos}(hc:X.calm=true)(hg:Gl X "dict")(hm:X.mg "dict" = none)(he:DE X WX true e f)(hv:bootBuiltins "dict" = some (.type "dict"):=by decide +kernel)(hs:starEach [e] X.env=[(false,eval e X.env)]:=by rfl):
 DN X WX (.Call (.Name "dict" p) [e] [] pos) (λ ρ=>(f ρ).bind lL):=by
 obtain⟨te,e1,e2⟩:=he;refine⟨_,eT hc hg hm e1 hv hs,λ P0 P σ H Q ρ E h=>?_⟩;refine e2 P0 P σ H _ ρ E ?_;dsimp only at h;refine XZ h λ d h=>?_;intro v H1 s1 hv;unfold lL at h;split at h
 ·rename_i xs;split at h
  ·rename_i l eb;split at h
   ·rename_i hl;cases hv with
    |lst hs hh =>
     obtain⟨ps,q1,q2,q3⟩:=Xo hh eb hl.2;subst q1;obtain⟨a9,g1,g2⟩:=Xp (kvs:=[]) q3 .nil;refine⟨_,ps,rfl,hs.B2,q2,by rw[q3.length];exact hl.1,λ r hr=>?_⟩;have e3:mL l=((lK ps).map (λ kv=>Cm kv.1),a9):=g1;rw[e3] at h;have bc:∀a∈[r],H1 a=none:=λ a ha=>by rw[z6.mp ha];exact hr
     exact h _ [r] _ (s1.trans (AM hr _)) (λ a ha=>El s1 (bc a ha)) (by simp) (.dK An (g2.mono (CW (AM hr _) bc)).ows)
   ·exact h.elim
  ·exact h.elim
 ·exact h.elim
end
theorem Bc.rL {m:Nat}{rs:List Road}{L:List Int}{A:LA}{K:List (Int×Int)}(ok:Bc m rs L A K):∀p c,Ao (GO A K) p=some c->p.1∈L/\p.2∈L:=λ p c h=>by
 have hm:=Ov h;unfold GO at hm;obtain⟨q,hq,e⟩:=zae.mp hm;cases e;have:=ok.XE hq;exact⟨(B6 ok.pm).mpr this.2.1,(B6 ok.pm).mpr this.2.2⟩
theorem Bc.wB {m:Nat}{rs:List Road}{L:List Int}{A:LA}{K:List (Int×Int)}(ok:Bc m rs L A K):∀p c,Ao (PX (GO A K)) p=some c->p.1∈L/\p.2∈L:=λ p c h=>by
 rw[show p=(p.1,p.2) from rfl,L4] at h;have:=ok.rL _ _ h;exact⟨this.2,this.1⟩
theorem lM (R:RA):rH (YF R)=.ok (R.map λ kv=>D.int kv.1):=rfl
theorem lN (R:RA):eS (YF R)=.ok (.lst ((R.map λ kv=>cst (some kv.2)).map .sh)):=rfl
theorem rM {a b g i:Int}(ha:0<=a/\a<QO)(hb:0<=b/\b<QO)(hg:0<=g/\g<QO)(h0:0<=i)(h1:i<8):∃l:Option Int,AE (.lst [.AN,.int 0,.int 0,.int 1,.int a,.int a,.int b,.int g]) (.int i)=.ok (CN l)/\∀z,l=some z->0<=z/\z<QO:=by
 have ht:=VD;have hi:i=0\/i=1\/i=2\/i=3\/i=4\/i=5\/i=6\/i=7:=by omega
 rcases hi with rfl|rfl|rfl|rfl|rfl|rfl|rfl|rfl
 ·exact⟨none,rfl,λ z e=>by cases e⟩
 ·exact⟨some 0,rfl,λ z e=>by cases e;omega⟩
 ·exact⟨some 0,rfl,λ z e=>by cases e;omega⟩
 ·exact⟨some 1,rfl,λ z e=>by cases e;omega⟩
 ·exact⟨some a,rfl,λ z e=>by cases e;exact ha⟩
 ·exact⟨some a,rfl,λ z e=>by cases e;exact ha⟩
 ·exact⟨some b,rfl,λ z e=>by cases e;exact hb⟩
 ·exact⟨some g,rfl,λ z e=>by cases e;exact hg⟩
theorem VQ (cs:List Int):Gv 0 (cs.map D.int)=(zau cs.length).map λ i:Nat=>D.tup [.int (i:Int),.int (cs.getD i 0)]:=by
 apply List.ext_getElem?;intro i;rw[zaa];by_cases hi:i<cs.length
 ·obtain⟨e,he⟩:∃e,(Gv 0 (cs.map D.int))[i]?=some e:=⟨_,z4 (by rw[CD,zv];exact hi)⟩;obtain⟨d,hd,rfl⟩:=Fy he;rw[he,zbx hi];rw[zaa,z4 hi] at hd;cases hd;rw[zb8,zar,Nat.zero_add,z4 hi];rfl
 ·rw[zbg (by rw[CD,zv];omega),zbg (by rw[zc5];omega)];rfl
theorem TY (rs:List Road):Y1 16 (.lst (rs.map BR)) (.lst [])=.ok (.bl (decide (rs≠[]))):=by
 have h1:Pl 16 (.lst (rs.map BR)):=(Vm (n:=1) λ d hd=>by
  obtain⟨r,_,rfl⟩:=zae.mp hd;exact vQ r).le (by decide)
 have h2:Pl 16 (.lst ([]:List D)):=(Vm (n:=1) λ d hd=>by cases hd).le (by decide);rw[RG h1 h2];cases rs with
 |nil=>rfl
 |cons r q=>simp[Bm,Cb]
noncomputable def Cq (R1 R2:RA):RA:=R1.filterMap λ kv=>(Ao R2 kv.1).map λ c=>(kv.1,(kv.2.1+c.1,kv.2.2+c.2))
theorem Dn (R2:RA):∀R1:RA,((Cq R1 R2).map zan).Sublist (R1.map zan)
 |[]=>.slnil
 |kv::r=>by
  unfold Cq;rw[zby];cases Ao R2 kv.1 with
  |none=>exact (Dn R2 r).cons _
  |some c=>exact (Dn R2 r).cons₂ _
theorem OC {R2:RA}{p:Int}:∀ {R1:RA},(R1.map zan).Nodup->Ao (Cq R1 R2) p=Aq (Ao R1 p) (Ao R2 p)
 |[],_=>by simp only[Cq,List.filterMap_nil,Ao];rfl
 |(k,v)::r,hn=>by
  rw[zy,zaw] at hn;have ih:=OC (R2:=R2) (p:=p) hn.2;by_cases hk:k=p
  ·subst hk;have n1:Ao (Cq r R2) k=none:=by
    cases q:Ao (Cq r R2) k with
    |none=>rfl
    |some c=>exact absurd ((Dn R2 r).subset (Gf.mp (by rw[q];rfl))) hn.1
   have e2:Ao ((k,v)::r) k=some v:=by simp[Ao]
   rw[e2];unfold Cq;rw[zby];cases q:Ao R2 k with
   |none=>exact n1
   |some c=>simp[Ao,Aq]
  ·have e2:Ao ((k,v)::r) p=Ao r p:=by simp[Ao,hk]
   rw[e2,<-ih];unfold Cq;rw[zby];cases q:Ao R2 k with
   |none=>rfl
   |some c=>simp[Ao,hk]
theorem QQ (R2:RA):∀R1:RA,((R1.filter λ kv=>(Ao R2 kv.1).isSome).map λ kv=>D.tup [.int kv.1,cst (Aq (some kv.2) (Ao R2 kv.1))])=(Cq R1 R2).map λ kv=>D.tup [.int kv.1,cst (some kv.2)]
 |[]=>rfl
 |kv::r=>by
  have ih:=QQ R2 r;unfold Cq at ih ⊢;rw[zby];cases q:Ao R2 kv.1 with
  |none=>rw[List.filter_cons_of_neg (by rw[q];simp)];exact ih
  |some c=>rw[List.filter_cons_of_pos (by rw[q];rfl),zy,ih,q];rfl
theorem mW:∀(C C0:RA),((C0++C).map zan).Nodup->(C.map λ kv=>(D.int kv.1,cst (some kv.2))).foldl (λ z kv=>putD z.1 z.2 kv.1 kv.2) (C0.map (λ kv=>D.int kv.1),C0.map λ kv=>cst (some kv.2))=((C0++C).map (λ kv=>D.int kv.1),(C0++C).map λ kv=>cst (some kv.2))
 |[],C0,_=>by simp
 |kv::C,C0,hn=>by
  obtain⟨p,c⟩:=kv;rw[zy,zah];dsimp only;have h0:Ao C0 p=none:=by
   rw[TM];intro hm;rw[zao,zaj] at hn;exact hn.2.2 p hm p (by simp) rfl
  have e:Dm C0 p c=C0++[(p,c)]:=by unfold Dm;rw[h0];rfl
  rw[L1 (vf:=λ c=>cst (some c)) Hr,e,mW C (C0++[(p,c)]) (by rw[zb5];exact hn),zb5];rfl
theorem rN {C:RA}(hn:(C.map zan).Nodup)(hl:C.length<=1000):lL (.lst (C.map λ kv=>.tup [.int kv.1,cst (some kv.2)]))=.ok (VI C):=by
 unfold lL;dsimp only;rw[S9 (λ kv:Int×(Int×Int)=>D.int kv.1) (λ kv=>cst (some kv.2))];dsimp only;have e:=mW C [] hn;rw[if_pos ⟨by rw[zv];exact hl,by rw[List.all_map];exact zcx.mpr λ x _=>rfl⟩];have e2:mL (C.map λ kv=>(D.int kv.1,cst (some kv.2)))=(C.map (λ kv=>D.int kv.1),C.map λ kv=>cst (some kv.2)):=e;rw[e2];rfl
section
variable {Cf:Int->Int->Co}{rk:Int->Nat}
theorem KZ.front {s y t:Int}{c d:Int×Int}(hr:rk s<rk y)(ha:Cf s y=some d)(u:KZ Cf rk y t c):KZ Cf rk s t (d.1+c.1,d.2+c.2):=by
 induction u with
 |nil =>
  have:=KZ.snoc (KZ.nil (Af:=Cf) (rk:=rk) (s:=s)) hr ha;simpa using this
 | @snoc x z c e hu bA b6 ih =>
  have:=KZ.snoc ih bA b6;rwa[zct,zct] at this
theorem RZ.up {t x:Int}{n:Nat}{c:Int×Int}(h:RZ Cf rk t n x c):KZ (λ a b=>Cf b a) rk x t c:=by
 induction h with
 |nil=>exact .nil
 | @snoc n x y c d hd hr ha ih =>
  have:=KZ.front (Cf:=λ a b=>Cf b a) hr ha ih;rwa[Int.add_comm d.1,Int.add_comm d.2] at this
end
theorem lO {a b c d:Int×Int}(h:Nx a c)(k:Nx b d):Nx (a.1+b.1,a.2+b.2) (c.1+d.1,c.2+d.2):=by
 unfold Nx at *;simp only;omega
theorem OD {a:Co}{q:Int×Int}:BG a (some q)↔∃p,a=some p/\Nx p q:=by
 constructor
 ·exact Ot
 ·rintro ⟨p,rfl,h⟩;unfold Nx at h;unfold BG;simp only;omega
theorem eW {m:Nat}{rs:List Road}{L:List Int}{A:LA}{K:List (Int×Int)}{s g:Int}{R1 R2:RA}(ok:Bc m rs L A K)(hs:0<=s/\s<m)(hg:0<=g/\g<m)(h1:Pz L (GO A K) s L.length R1)(h2:Pz L (PX (GO A K)) g L.length R2){x:Co}(hx:Bk rs s g x):
 Ec ((Cq R1 R2).map λ kv=>some kv.2)=x:=by
 have u1:=h1.zI (m:=m) ok.rL;have u2:=h2.zI (m:=m) ok.wB;have ef:(λ x y=>Ao (PX (GO A K)) (x,y))=λ x y=>Ao (GO A K) (y,x):=by funext x y;exact L4 x y _
 rw[ef] at u2;have mem:∀p c,Ao (Cq R1 R2) p=some c->some c∈(Cq R1 R2).map λ kv=>some kv.2:=λ p c h=>zae.mpr ⟨_,Ov h,rfl⟩;have walk:∀p c,Ao (Cq R1 R2) p=some c->Wk rs s g c:=λ p c h=>by
  rw[OC h1.nd] at h;cases q1:Ao R1 p with
  |none=>rw[q1] at h;cases h
  |some a =>
   cases q2:Ao R2 p with
   |none=>rw[q1,q2] at h;cases h
   |some b =>
    rw[q1,q2] at h;cases h;have w1:=((u1.sd p a q1).of_kept ok.kept).walk ok.Zc;have w2:=(((u2.sd p b q2).of_kept ok.kept.turn).walk ok.Zc.turn).turn;rw[FI] at w2;exact w1.trans w2
 have jf:((Cq R1 R2).map zan).Nodup:=(Dn R2 R1).nodup h1.nd;have walk2:∀v∈(Cq R1 R2).map (λ kv=>some kv.2),BG x v:=λ v hv=>by
  obtain⟨kv,hk,rfl⟩:=zae.mp hv;exact hx.1 _ (walk kv.1 kv.2 (S1 jf hk))
 refine RU walk2 λ ac=>?_;cases x with
 |none=>exact absurd rfl ac
 |some c =>
  obtain⟨t,n,c1,c2,g1,g2,e⟩:=TJ ok.Zc ok.kept hx;obtain⟨p1,q1,l1⟩:=OD.mp (u1.le g1);obtain⟨p2,q2,l2⟩:=OD.mp (u2.le g2.up);have hf:Ao (Cq R1 R2) t=some (p1.1+p2.1,p1.2+p2.2):=by rw[OC h1.nd,q1,q2];rfl
  exact⟨_,mem t _ hf,OD.mpr ⟨_,rfl,by rw[e];exact lO l1 l2⟩⟩
theorem lP (m:Nat)(rs:List Road):er (.tup [.sh (.int m),.lst ((rs.map BR).map .sh)])=Ak m rs:=by
 rw[er,UI,QE,UI,LK,UI];rfl
theorem mX {n:Nat}(p:Int×Int):Pl (n+1) (pD p):=Vl (EZ (Cg _) (EZ (Cg _) Vn))
theorem rO (p q:Int×Int):fP 16 (pD p) (pD q)=.ok (.bl (decide (p=q))):=by rw[RF (mX (n:=15) p) (mX (n:=15) q),Gd]
noncomputable def eX (rs:List Road)(p c:Int×Int)(i:Nat):Bool:=match rs[i]? with
 |some r=>decide (r.a=p.1/\r.b=p.2/\BS r=some c)
 |none=>false
noncomputable def OE (rs:List Road)(p c:Int×Int):Nat:=((zau rs.length).filter (eX rs p c)).headD 0
theorem Xq {rs:List Road}{p c:Int×Int}(h:∃r∈rs,r.a=p.1/\r.b=p.2/\BS r=some c):∃(r:Road) (t:List Nat),(zau rs.length).filter (eX rs p c)=OE rs p c::t/\rs[OE rs p c]?=some r/\r.a=p.1/\r.b=p.2/\BS r=some c:=by
 obtain⟨r,hr,h1⟩:=h;obtain⟨i,hi⟩:=List.mem_iff_getElem?.mp hr;have hm:i∈(zau rs.length).filter (eX rs p c):=zal.mpr ⟨zbo.mpr (za3.mp hi).1,by unfold eX;rw[hi];exact decide_eq_true h1⟩;unfold OE;cases q:(zau rs.length).filter (eX rs p c) with
 |nil=>rw[q] at hm;cases hm
 |cons n t =>
  have hn:n∈(zau rs.length).filter (eX rs p c):=by rw[q];exact zw
  have hb:=(zal.mp hn).2;unfold eX at hb;cases z:rs[n]? with
  |none=>rw[z] at hb;cases hb
  |some r' =>
   rw[z] at hb;have az:r'.a=p.1/\r'.b=p.2/\BS r'=some c:=by simpa using hb
   exact⟨r',t,rfl,z,az⟩
noncomputable def mY (rs:List Road)(A:LA):Nat->Int×Int->List Nat
 |0,_=>[]
 |k+1,p=>match Ao A p with
  |none=>[]
  |some (c,none)=>[OE rs p c]
  |some (_,some q)=>mY rs A k (p.1,q)++mY rs A k (q,p.2)
noncomputable def TZ (L:List Int)(p:Int×Int):Nat:=min (BU L p.1) (BU L p.2)
inductive NA (rs:List Road):Int->List Nat->Int->Int->Prop
 |nil (x:Int):NA rs x [] x 0
 |cons {x y l s:Int} {n:Nat} {N:List Nat} {r:Road}:rs[n]?=some r->r.a=x->r.l=some l->NA rs r.b N y s->NA rs x (n::N) y (l+s)
theorem NA.uT {rs:List Road}{x q y s t:Int}{N M:List Nat}(h:NA rs x N q s)(k:NA rs q M y t):NA rs x (N++M) y (s+t):=by
 induction h with
 |nil x=>simpa using k
 |cons h1 h2 h3 _ ih =>
  have:=NA.cons h1 h2 h3 (ih k);simpa [zct] using this
theorem NA.inv {rs:List Road}{x y s:Int}{n:Nat}{N:List Nat}(h:NA rs x (n::N) y s):∃r l t,rs[n]?=some r/\r.a=x/\r.l=some l/\NA rs r.b N y t/\s=l+t:=by
 cases h with
 |cons h1 h2 h3 h4=>exact⟨_,_,_,h1,h2,h3,h4,rfl⟩
section
variable {m:Nat}{rs:List Road}{L:List Int}{A:LA}{K:List (Int×Int)}
theorem IF (ok:Bc m rs L A K){p c:Int×Int}{mid:Option Int}(h:Ao A p=some (c,mid)):(p.1∈L/\p.2∈L/\p.1≠p.2)/\(mid=none->∃r∈rs,r.a=p.1/\r.b=p.2/\BS r=some c)/\∀q,mid=some q->BU L q<TZ L p/\q∈L/\∃a b ma mb,Ao A (p.1,q)=some (a,ma)/\Ao A (q,p.2)=some (b,mb)/\c=(a.1+b.1,a.2+b.2):=by
 obtain⟨x,y⟩:=p;have hn:=Ge ok.pm;rw[ok.la] at h;have de:A9 (Bq rs L) (x,y)=some c:=by unfold A9;rw[h];rfl
 obtain⟨_,ac,l8,d9⟩:=(L3 ok.pm ok.ok).2.snd x y c de;have hx:=(B6 ok.pm).mpr l8;have hy:=(B6 ok.pm).mpr d9;have hf:=YH (rs:=rs) hn hx hy ac;have h0:∀c p,Ao (lay0 rs) (x,y)≠some (c,some p):=λ c p h=>by cases (Xj rs x y c _ h).1
 have hF:=rF (cd:=λ p=>Aq (A9 (Bq rs L) (x,p)) (A9 (Bq rs L) (p,y))) h0 (L.take (min (BU L x) (BU L y)));unfold lD at hf;rw[<-hf] at hF;refine⟨⟨hx,hy,ac⟩,λ e=>?_,λ q e=>?_⟩
 ·subst e;exact (Xj rs x y c none (hF.AN c h)).2
 ·subst e;obtain⟨⟨W1,W2,e1,e2,_⟩,_⟩:=hF.mid c q h;have hq:q∈L.take (min (BU L x) (BU L y)):=by rw[e1];simp
  obtain⟨q1,q2⟩:=TR hn hq;obtain⟨a,b,ha,hb,rfl⟩:=Em e2;have ex:∀ {z:Int×Int} {d:Int×Int},A9 (Bq rs L) z=some d->∃md,Ao A z=some (d,md):=fun {z d} hd=>by
   rw[ok.la];unfold A9 at hd;cases w:Ao (Bq rs L) z with
   |none=>rw[w] at hd;cases hd
   |some v=>rw[w] at hd;cases hd;exact⟨v.2,rfl⟩
  obtain⟨ma,h1⟩:=ex ha;obtain⟨mb,h2⟩:=ex hb;exact⟨q2,q1,a,b,ma,mb,h1,h2,rfl⟩
theorem eY {p:Int×Int}{q:Int}(h:BU L q<TZ L p):TZ L (p.1,q)=BU L q/\TZ L (q,p.2)=BU L q:=by
 unfold TZ at *;dsimp only;omega
theorem L5 (ok:Bc m rs L A K):∀(k k':Nat) (p:Int×Int),TZ L p<k->TZ L p<k'->mY rs A k p=mY rs A k' p
 |0,_,_,h,_|_+1,0,_,_,h=>absurd h (Nat.not_lt_zero _)
 |k+1,k'+1,p,h,h'=>by
  unfold mY;cases q:Ao A p with
  |none=>rfl
  |some z =>
   obtain⟨c,mid⟩:=z;cases mid with
   |none=>rfl
   |some v =>
    obtain⟨_,_,h3⟩:=IF ok q;obtain⟨hv,_,_⟩:=h3 v rfl;obtain⟨e1,e2⟩:=eY hv;dsimp only;rw[L5 ok k k' (p.1,v) (by omega) (by omega),L5 ok k k' (v,p.2) (by omega) (by omega)]
noncomputable def Cv (rs:List Road)(L:List Int)(A:LA)(p:Int×Int):List Nat:=mY rs A (TZ L p+1) p
theorem U0 (ok:Bc m rs L A K){p c:Int×Int}{v:Int}(h:Ao A p=some (c,some v)):Cv rs L A p=Cv rs L A (p.1,v)++Cv rs L A (v,p.2):=by
 obtain⟨_,_,h3⟩:=IF ok h;obtain⟨hv,_,_⟩:=h3 v rfl;obtain⟨e1,e2⟩:=eY hv
 conv=>lhs;unfold Cv mY;rw[h]
 dsimp only;unfold Cv;rw[L5 ok (TZ L p) (TZ L (p.1,v)+1) (p.1,v) (by omega) (by omega),L5 ok (TZ L p) (TZ L (v,p.2)+1) (v,p.2) (by omega) (by omega)]
theorem QR {p c:Int×Int}(h:Ao A p=some (c,none)):Cv rs L A p=[OE rs p c]:=by
 unfold Cv mY;rw[h]
structure wC (rs:List Road)(L:List Int)(p c:Int×Int)(N:List Nat):Prop where
 ch:NA rs p.1 N p.2 c.1
 ln:(N.length:Int)=c.2
 ne:1<=N.length
 up:N.length<=2^TZ L p
 lo:∀n∈N.tail,∀r,rs[n]?=some r->BU L r.a<TZ L p
theorem LU (ok:Bc m rs L A K):∀(k:Nat){p c:Int×Int}{mid:Option Int},TZ L p=k->Ao A p=some (c,mid)->wC rs L p c (Cv rs L A p):=by
 intro k;induction k using Nat.strongRecOn with
 |ind k ih =>
  intro p c mid hk h;obtain⟨_,h2,h3⟩:=IF ok h;cases mid with
  |none =>
   rw[QR h];obtain⟨r,t,_,hr,ha,hb,hc⟩:=Xq (h2 rfl);obtain⟨l,hl,rfl⟩:=Hm hc;refine⟨?_,rfl,za2 _,Nat.one_le_two_pow,λ n hn=>by cases hn⟩;have:=NA.cons hr ha hl (.nil r.b);rw[hb] at this;simpa using this
  |some v =>
   obtain⟨hv,_,a,b,ma,mb,f1,f2,rfl⟩:=h3 v rfl;obtain⟨e1,e2⟩:=eY hv;have u1:=ih (BU L v) (by omega) e1 f1;have u2:=ih (BU L v) (by omega) e2 f2;rw[U0 ok h];have p2:2^(BU L v)+2^(BU L v)<=2^TZ L p:=by
    have:2^(BU L v+1)<=2^TZ L p:=Nat.pow_le_pow_right (by decide) (by omega);rw[Nat.pow_succ] at this;omega
   have l1:=u1.up;have l2:=u2.up;rw[e1] at l1;rw[e2] at l2;refine⟨u1.ch.uT u2.ch,?_,?_,?_,λ n hn r hr=>?_⟩
   ·rw[za6,Int.natCast_add,u1.ln,u2.ln]
   ·rw[za6];have:=u1.ne;omega
   ·rw[za6];omega
   ·have n1:=u1.ne;rcases zab.mp (by
     have:(Cv rs L A (p.1,v)++Cv rs L A (v,p.2)).tail=(Cv rs L A (p.1,v)).tail++Cv rs L A (v,p.2):=by
      cases q:Cv rs L A (p.1,v) with
      |nil=>rw[q] at n1;cases n1
      |cons x xs=>rfl
     rw[this] at hn;exact hn) with hn|hn
    ·have:=u1.lo n hn r hr;omega
    ·cases q:Cv rs L A (v,p.2) with
     |nil=>rw[q] at hn;cases hn
     |cons x xs =>
      rw[q] at hn;rcases z8.mp hn with rfl|hn
      ·have ch:=u2.ch;rw[q] at ch;obtain⟨r',_,_,g1,g2,_⟩:=ch.inv;rw[g1] at hr;cases hr;rw[g2];exact hv
      ·have:=u2.lo n (by rw[q];exact hn) r hr;omega
end
theorem YM (rs:List Road):Gv 0 (rs.map BR)=(zau rs.length).map λ i:Nat=>D.tup [.int (i:Int),BR (rs.getD i ⟨0,0,none,0⟩)]:=by
 apply List.ext_getElem?;intro i;rw[zaa];by_cases hi:i<rs.length
 ·obtain⟨e,he⟩:∃e,(Gv 0 (rs.map BR))[i]?=some e:=⟨_,z4 (by rw[CD,zv];exact hi)⟩;obtain⟨d,hd,rfl⟩:=Fy he;obtain⟨r,hr,rfl⟩:=Bi hd;rw[he,zbx hi,zb8,zar,hr,Nat.zero_add];rfl
 ·rw[zbg (by rw[CD,zv];omega),zbg (by rw[zc5];omega)];rfl
theorem YN {ρ:Ad}{i:Nat}{xs:List D}{d:D}(h:ρ[i]?=some (some (.own (xs++[d])))):cY i ρ [] (xs++[d])=.ok (ρ.set i (some (.own xs)),.sh d):=by
 rw[X5 h (p:=none) (t:=.lst ((xs++[d]).map .sh)) rfl (d:=d) (by simp)];rw[Ew,List.dropLast_concat,toCl_list]
noncomputable def U1 (rs:List Road)(L:List Int)(A:LA)(W:List (Int×Int)):List Nat:=W.flatMap (Cv rs L A)
noncomputable def mZ (rs:List Road)(L:List Int)(A:LA):List (Int×Int)->Nat
 |[]=>0
 |p::W=>2*(Cv rs L A p).length-1+mZ rs L A W
theorem Sb {m:Nat}{rs:List Road}{L:List Int}{A:LA}{K:List (Int×Int)}(ok:Bc m rs L A K):∀ {W:List (Int×Int)},(∀p∈W,(Ao A p).isSome=true)->W.length<=(U1 rs L A W).length
 |[],_=>za2 _
 |p::W,h=>by
  obtain⟨z,hz⟩:=zbe.mp (h p zw);have:=(LU ok _ (c:=z.1) (mid:=z.2) rfl hz).ne;have ih:=Sb ok λ q hq=>h q (zx _ hq);show W.length+1<=(Cv rs L A p++U1 rs L A W).length;rw[za6];omega
section
variable {X:Cx}{WX:Str->Hp->Prop}{c:Bool}{a b d:Expr}{f g h:Ad->M D}{pos:Pos}
theorem YO {op be:CmpOp}{p q:Int->Int->Bool}(ho:FW X (compareOp op) (Z8 λ i j=>.bl (p i j)))(aF:FW X (compareOp be) (Z8 λ i j=>.bl (q i j)))(ha:DE X WX c a f)(hb:DE X WX c b g)(hd:DE X WX c d h)
 (hm:lastMarks [op,be] [b,d]=false:=by with_unfolding_all rfl):DT X WX (.Compare a [op,be] [b,d] pos) (λ ρ=>((f ρ).bind λ x=>(g ρ).bind λ y=>Bg (λ i j=>if p i j=true then (h ρ).bind λ z=>Bg (λ _ k=>.ok (.bl (q j k))) (.int 0) z else .ok (.bl false)) x y).bind PQ):=by
 obtain⟨ta,a1,a2⟩:=ha;obtain⟨tb,b1,b2⟩:=hb;obtain⟨td,d1,d2⟩:=hd;refine⟨_,Zw ho aF a1 b1 d1 hm,λ P0 P σ H Q0 ρ E wr=>?_⟩;unfold Zt;have hh:=mC (K:=X.K) (P:=Lv c P0 P) wr;refine a2 P0 P σ H _ ρ E ?_;cases e:f ρ with
 |bad|ex x=>rw[e] at hh;exact hh
 |ok x =>
  rw[e] at hh;intro v H1 s1 hv;refine b2 P0 P σ H1 _ ρ (E.same s1) ?_;cases e2:g ρ with
  |bad=>rw[e2] at hh;exact hh
  |ex y=>rw[e2] at hh;exact gV.same (m:=.ex y) hh s1
  |ok y =>
   rw[e2] at hh;simp only[M.Aa] at hh;unfold Bg at hh;split at hh
   ·rename_i i j;intro w H2 s2 hw;refine⟨i,j,hv.int_inv,hw.int_inv,p i j,rfl,?_⟩;dsimp only at hh;by_cases hp:p i j=true
    ·rw[if_pos hp] at hh ⊢;refine d2 P0 P σ H2 _ ρ ((E.same s1).same s2) ?_;cases e3:h ρ with
     |bad=>rw[e3] at hh;exact hh
     |ex z=>rw[e3] at hh;exact gV.same (gV.same (m:=.ex z) hh s1) s2
     |ok z =>
      rw[e3] at hh;simp only[M.Aa] at hh;cases z with
      |int k=>exact λ u H3 s3 hu=>⟨j,k,hw.int_inv,hu.int_inv,hh _ H3 ((s1.trans s2).trans s3) (.bl _)⟩
      |_=>exact hh.elim
    ·rw[if_neg hp] at hh ⊢;exact hh _ H2 (s1.trans s2) (.bl _)
   ·exact hh.elim
end
theorem wD {α:Type}(l:List α):Y7 [.lst (l.map λ _=>D.bl true)]=.ok (.bl true):=by
 have e:(l.map λ _=>D.bl true)=(l.map λ _=>true).map D.bl:=by rw[zbf];rfl
 rw[e,Ho];simp
theorem zK (n:Str)(N:List Str)(d:D)(ds:List D):Dx (n::N) (d::ds)=some (.val d)::Dx N ds:=by
 unfold Dx;rw[z5,z5,Nat.add_sub_add_right];rfl
theorem zL (n:Str)(N:List Str):Dx (n::N) []=none::Dx N []:=rfl
theorem zM:Dx [] []=[]:=rfl
theorem Jw {rs:List Road}{r:Road}{l g:Int}{c:Int×Int}(hr:r∈rs)(hl:r.l=some l)(w:Wk rs r.b g c)(h:Bk rs r.a g (some (l+c.1,1+c.2))):Bk rs r.b g (some c):=by
 refine⟨λ d hd=>?_,λ p hp=>by cases hp;exact w⟩;have:=h.1 _ (.cons hr hl hd);simp only[BG] at this ⊢;omega
theorem Sd {m:Nat}{rs:List Road}(As:∀r∈rs,ID m r/\r.a≠r.b){u g:Int}{c:Int×Int}(h:Wk rs u g c)(hu:0<=u/\u<m):Bk rs u g (some c)->∃V:List Int,V.Nodup/\(V.length:Int)=c.2+1/\∀v∈V,(0<=v/\v<m)/\∃d,Bk rs v g (some d)/\d.2<=c.2:=by
 induction h with
 |nil u=>exact λ hm=>⟨[u],by simp,rfl,λ v hv=>by rw[z6.mp hv];exact⟨hu,_,hm,zco _⟩⟩
 | @cons r l g c hr hl w ih =>
  intro hm;have ok:=(As r hr).1;obtain⟨V,h1,h2,h3⟩:=ih ⟨ok.b0,ok.b1⟩ (Jw hr hl w hm);refine⟨r.a::V,zaw.mpr ⟨λ z=>?_,h1⟩,by rw[z5];omega,λ v hv=>?_⟩
  ·obtain⟨_,d,hd,am⟩:=h3 _ z;have:=hd.C4 hm;cases this;omega
  ·rcases z8.mp hv with rfl|hv
   ·exact⟨hu,_,hm,zco _⟩
   ·obtain⟨a,d,hd,am⟩:=h3 _ hv;exact⟨a,d,hd,by omega⟩
theorem Ht {m:Nat}{rs:List Road}(As:∀r∈rs,ID m r/\r.a≠r.b){u g:Int}{c:Int×Int}(hu:0<=u/\u<m)(h:Bk rs u g (some c)):c.2<m:=by
 obtain⟨V,h1,h2,h3⟩:=Sd As (h.2 c rfl) hu h;have:=En h1 (u:=BJ m) λ v hv=>by
  obtain⟨⟨a,b⟩,_⟩:=h3 v hv;exact zae.mpr ⟨v.toNat,zbo.mpr (by omega),by omega⟩
 rw[Dz] at this;omega
section
variable {m:Nat}{rs:List Road}{L:List Int}{A:LA}{K:List (Int×Int)}
noncomputable def YQ (A:LA)(T:List Co)(p:Int)(q:Int×Int):Bool:=decide (Aq (A9 A q) (atC T q.2)=atC T p)
noncomputable def Mi (A:LA)(K:List (Int×Int))(T:List Co)(p:Int):List (Int×Int):=(K.filter λ q=>decide (q.1=p)).filter (YQ A T p)
theorem YR (ok:Bc m rs L A K){T:List Co}{g p:Int}{cp:Int×Int}(hT:∀w:Int,0<=w->w<m->Bk rs w g (atC T w))(hp:0<=p/\p<m)(ac:p≠g)(hc:atC T p=some cp):∃q r,Mi A K T p=q::r:=by
 have hm:=hT p hp.1 hp.2;rw[hc] at hm;have w:=hm.2 cp rfl
 suffices ∃q,q∈Mi A K T p by
  obtain⟨q,hq⟩:=this;cases e:Mi A K T p with
  |nil=>rw[e] at hq;cases hq
  |cons a r=>exact⟨a,r,rfl⟩
 cases w with
 |nil=>exact (ac rfl).elim
 | @cons r l _ c' hr hl w' =>
  have ug:=ok.ok r hr;have hb:=Jw hr hl w' hm;have eb:atC T r.b=some c':=(hT r.b ug.1.b0 ug.1.b1).C4 hb;have e1:BS r=some (l,1):=by unfold BS;rw[hl]
  have hle:=ok.Zc.road r hr;rw[e1] at hle;obtain⟨d,hd,d6⟩:=Ot hle;have wd:=(ok.Zc.snd _ _ _ hd).1;have h2:=hm.1 _ (wd.trans w');have ed:d=(l,1):=by
   simp only[BG] at h2;unfold Nx at d6;dsimp only at d6;exact Prod.ext (by omega) (by omega)
  subst ed;have aA:Bk rs r.a r.b (some (l,1)):=⟨λ e he=>by
   have:=hm.1 _ (he.trans w');simp only[BG] at this ⊢;omega,λ p hp=>by cases hp;exact wd⟩
  have hK:(r.a,r.b)∈K:=(ok.km _).mpr ⟨_,hd,aA⟩;refine⟨(r.a,r.b),zal.mpr ⟨zal.mpr ⟨hK,by simp⟩,?_⟩⟩;unfold YQ;dsimp only;rw[hc,eb,hd];simp[Aq]
structure zN (m:Nat)(rs:List Road)(A:LA)(T:List Co)(p:Int)(cp:Int×Int)(q ca cq:Int×Int):Prop where
 a:q.1=p
 r:0<=q.2/\q.2<m
 c:A9 A q=some ca
 t:atC T q.2=some cq
 s:cp=(ca.1+cq.1,ca.2+cq.2)
theorem rP (ok:Bc m rs L A K){T:List Co}{p:Int}{cp q:Int×Int}{r:List (Int×Int)}(hc:atC T p=some cp)(h:Mi A K T p=q::r):∃ca cq,zN m rs A T p cp q ca cq:=by
 have hq:q∈Mi A K T p:=by rw[h];exact zw
 obtain⟨h1,h2⟩:=zal.mp hq;obtain⟨h3,h4⟩:=zal.mp h1;have e4:q.1=p:=by simpa using h4
 have e2:Aq (A9 A q) (atC T q.2)=some cp:=by
  unfold YQ at h2;rw[hc] at h2;simpa using h2
 obtain⟨a,b,ha,hb,e⟩:=Em e2;exact⟨a,b,e4,(ok.XE h3).2.2,ha,hb,e⟩
end
noncomputable def Ck (m:Nat)(rs:List Road)(T:List Co)(i:Nat):List Co:=(zau m).map λ p:Nat=>Ec (((rs.take i).filter λ r=>decide (r.a=(p:Int))).map λ r=>Aq (BS r) (atC T r.b))
theorem D1 (m:Nat)(rs:List Road)(T:List Co)(i:Nat):(Ck m rs T i).length=m:=by unfold Ck;rw[zv,zc5]
theorem Xr {m:Nat}{rs:List Road}{T:List Co}{i p:Nat}(hp:p<m):atC (Ck m rs T i) (p:Int)=Ec (((rs.take i).filter λ r=>decide (r.a=(p:Int))).map λ r=>Aq (BS r) (atC T r.b)):=by
 unfold Ck atC;rw[zba,zar,zaa,zbx hp];rfl
theorem YS (m:Nat)(rs:List Road)(T:List Co):Ck m rs T 0=za7 m none:=by
 unfold Ck;rw[List.take_zero];exact List.ext_getElem? λ j=>by
  rw[zaa,zc3];by_cases h:j<m
  ·rw[zbx h,if_pos h];rfl
  ·rw[zbg (by rw[zc5];omega),if_neg h];rfl
theorem YT (cs:List Co)(c:Co):Ec (cs++[c])=EC (Ec cs) c:=by unfold Ec;rw[List.foldl_append];rfl
theorem lQ (a:Co):EC a none=a:=by cases a<;>rfl
theorem QS {m:Nat}{rs:List Road}{T:List Co}{i:Nat}{r:Road}(hr:rs[i]?=some r)(ok:ID m r):Ck m rs T (i+1)=(Ck m rs T i).set r.a.toNat (EC (atC (Ck m rs T i) r.a) (Aq (BS r) (atC T r.b))):=by
 have ha:=ok.a0;have l9:=ok.a1;refine List.ext_getElem? λ j=>?_;have et:rs.take (i+1)=rs.take i++[r]:=by rw[zbm,hr];rfl
 by_cases h:j<m
 ·by_cases e:r.a.toNat=j
  ·have e2:r.a=(j:Int):=by omega
   rw[e,zas (by rw[D1];exact h),e2,Xr h];unfold Ck;rw[zaa,zbx h,et];simp only[zb8,List.filter_append,zao];rw[List.filter_cons_of_pos (by simpa using e2),List.filter_nil,zy,zcl,YT]
  ·rw[zb9 e];unfold Ck;rw[zaa,zaa,zbx h,et];simp only[zb8,List.filter_append];rw[List.filter_cons_of_neg (by simp;omega),List.filter_nil,zb0]
 ·rw[zbg (by rw[D1];omega),zbg (by rw[zbl,D1];omega)]
theorem YU {m:Nat}{rs:List Road}{T:List Co}{i:Nat}{r:Road}(hr:rs[i]?=some r)(ok:ID m r)(hl:r.l=none):Ck m rs T (i+1)=Ck m rs T i:=by
 have e1:BS r=none:=by unfold BS;rw[hl]
 have e2:Aq none (atC T r.b)=none:=by cases atC T r.b<;>rfl
 have ha:=ok.a0;have l9:=ok.a1;rw[QS hr ok,e1,e2,lQ];exact set_same (F0 ha (by rw[D1];exact l9))
theorem YV {m g:Nat}{rs:List Road}{T:List Co}(hg:g<m)(As:∀r∈rs,ID m r)(h:∀u:Int,0<=u->u<m->Bk rs u g (atC T u)){p:Nat}(hp:p<m):atC ((Ck m rs T rs.length).set g (some (0,0))) (p:Int)=atC T (p:Int):=by
 have hR:=RX hg As h;unfold VB at hR;have:=zcx.mp hR p (zbo.mpr hp);rw[decide_eq_true_eq] at this;rw[this];have es:=Nu (cs:=Ck m rs T rs.length) (i:=(g:Int)) (j:=(p:Int)) (v:=some (0,0)) (by omega) (by omega) (by rw[D1];omega);rw[zba] at es;rw[es];by_cases e:p=g
 ·rw[if_pos e,if_pos (by omega)]
 ·rw[if_neg e,if_neg (by omega),Xr hp,zbh];rfl
noncomputable def DZ (N:List Nat):D:=.lst (N.map λ n:Nat=>D.int (n:Int))
noncomputable def Jx (x:Co)(N:List Nat)(T:List Co):D:=match x with | none=>.AN | some c=>.tup [cst (some c),DZ N,.lst (T.map cst)]
noncomputable def U2 (ns:List Int):Nat:=(firstMet (λ i=>ns.getD i 0) ns.length).length
section
variable {X:Cx}{WX:Str->Hp->Prop}{e:Expr}{f:Ad->M D}{te:TE}{p1 p2 pos a7:Pos}
noncomputable def tLS (X:Cx)(te:TE):TE:=λ σ H Q=>te σ H λ x H1=>∃p ns,x=.ref p/\Dc X.K H1 p (List.map V.int ns)/\ns.length<60/\Q (.int (U2 ns)) H1
theorem YW (hc:X.calm=true)(qu:Gl X "len")(bB:X.mg "len" = none)(c7:Gl X "set")(aQ:X.mg "set" = none)(he:PE X e te)
 (qv:bootBuiltins "len" = some (.builtin "len"):=by decide +kernel) (i9:bootBuiltins "set" = some (.type "set"):=by decide +kernel)
 (hs:starEach [e] X.env=[(false,eval e X.env)]:=by rfl)
 (a5:starEach [.Call (.Name "set" p2) [e] [] a7] X.env=[(false,eval (.Call (.Name "set" p2) [e] [] a7) X.env)]:=by rfl):
 PE X (.Call (.Name "len" p1) [.Call (.Name "set" p2) [e] [] a7] [] pos) (tLS X te):=by
 intro pins s σ H Q I h;refine wpAny_Call_Name_kw (CO I qu bB qv ?_);refine PyProof.Rows.callWith_builtin1 ?_ a5;rw[a5];refine zbp ?_;refine wpAny_Call_Name_kw (CO I c7 aQ i9 ?_);refine zay ?_ hs;rw[hs];refine zbp (Bd (he pins s σ H _ I h) λ u s1 zz=>?_);obtain⟨x,H1,I1,r1,p,ns,rfl,hq,hl,q2⟩:=zz;cases r1;refine zbv ?_;obtain⟨aa,r',pl,hz⟩:=I1.list hq;have hi:=intsAre_of r';have b7:=r'.length;rw[zv] at b7;have hb:60<scanBound:=by decide
 refine call_set_list (ns:=ns) (I1.ok.hd hc) pl.isList (by simpa using hi) (by rw[za0,<-b7];omega) λ h' tk hS hk=>?_;refine zbv ?_;obtain⟨o,es,ep,t,ho,hex,hd,_,_,hsz,hf,hn⟩:=hS;have hn:es.size=U2 ns:=by
  rw[hn];unfold U2;rw[show aa.toArray.size=ns.length by simp[b7]]
 have nc:U2 ns<=ns.length:=firstMet_length_le _ _;have hI:=I1.kept (h':=h') (t':=tk+1+1) λ b u e=>hk b u (za4 e) e;refine call_len_set ho hex hd hf (by omega) ⟨.int es.size,H1,hI,⟨_,rfl⟩,?_⟩;rw[hn];exact q2
noncomputable def xJ (d:D):M D:=match d with
 | .lst xs=>(match CF xs with|some ns=>if ns.length<60 then .ok (.int (U2 ns)) else .bad|none=>.bad)
 |_=>.bad
theorem eZ {ns:List Int}(h:ns.length<60):xJ (.lst (ns.map .int))=.ok (.int (U2 ns)):=by
 unfold xJ;dsimp only;rw[Ej];dsimp only;rw[if_pos h]
theorem YX {c:Bool}(hc:X.calm=true)(qu:Gl X "len")(bB:X.mg "len" = none)(c7:Gl X "set")(aQ:X.mg "set" = none)(he:DE X WX c e f)
 (qv:bootBuiltins "len" = some (.builtin "len"):=by decide +kernel) (i9:bootBuiltins "set" = some (.type "set"):=by decide +kernel)
 (hs:starEach [e] X.env=[(false,eval e X.env)]:=by rfl)
 (a5:starEach [.Call (.Name "set" p2) [e] [] a7] X.env=[(false,eval (.Call (.Name "set" p2) [e] [] a7) X.env)]:=by rfl):
 DE X WX c (.Call (.Name "len" p1) [.Call (.Name "set" p2) [e] [] a7] [] pos) (λ ρ=>(f ρ).bind xJ):=by
 obtain⟨te,e1,e2⟩:=he;refine⟨_,YW hc qu bB c7 aQ e1 qv i9 hs a5,λ P0 P σ H Q ρ E h=>?_⟩;refine e2 P0 P σ H _ ρ E ?_;dsimp only at h;cases q:f ρ with
 |bad|ex x=>rw[q] at h;exact h
 |ok d =>
  rw[q] at h;simp only[M.Aa] at h;intro v H1 s1 hv;unfold xJ at h;split at h
  ·rename_i xs;split at h
   ·rename_i ns eb;have:=Ek eb;subst this;split at h
    ·rename_i hl;cases hv with
     |lst hs hh =>
      have:=Df hh;subst this;exact⟨_,ns,rfl,hs.B2,hl,h _ H1 s1 (.int _)⟩
    ·exact h.elim
   ·exact h.elim
  ·exact h.elim
end
theorem VR {ns:List Int}(h:ns.Nodup):U2 ns=ns.length:=by
 unfold U2;have key:∀i,i<=ns.length->firstMet (λ i=>ns.getD i 0) i=ns.take i:=by
  intro i;induction i with
  |zero=>intro _;rw[firstMet_zero,List.take_zero]
  |succ i ih =>
   intro hi;have af:i<ns.length:=by omega
   rw[firstMet_succ,ih (by omega),zbm,z4 af];have eg:ns.getD i 0=ns[i]:=by rw[zar,z4 af];rfl
   rw[eg];unfold step_dedup;have cn:(ns.take i).any (λ x=>x==ns[i])=false:=by
    rw[List.any_eq_false];intro x hx wt;have e:x=ns[i]:=by simpa using wt
    obtain⟨j,hj,ej⟩:=List.getElem_of_mem hx;rw[zbi] at hj;rw[List.getElem_take] at ej;exact List.pairwise_iff_getElem.mp h j i (by omega) af (by omega) (by rw[ej,e])
   rw[cn];rfl
 rw[key _ (za2 _),zbh]
section
variable {m:Nat}{rs:List Road}{L:List Int}{A:LA}{K:List (Int×Int)}
theorem lR (ok:Bc m rs L A K){T:List Co}{p:Int}{q:Int×Int}{r:List (Int×Int)}(h:Mi A K T p=q::r):∃c,A9 A q=some c/\Bk rs q.1 q.2 (some c):=by
 have hq:q∈Mi A K T p:=by rw[h];exact zw
 obtain⟨h1,_⟩:=zal.mp hq;obtain⟨h3,_⟩:=zal.mp h1;exact (ok.km q).mp h3
noncomputable def DB (rs:List Road)(N:List Nat):List Int:=N.map λ n=>((rs[n]?).map Road.b).getD 0
theorem rQ {x y t:Int}{N:List Nat}(h:NA rs x N y t):Wk rs x y (t,N.length):=by
 induction h with
 |nil x=>exact .nil x
 | @cons x y l s n N r hr ha hl _ ih =>
  have:=Wk.cons (za9 hr) hl ih;rw[ha] at this;have e:((l+s,((n::N).length:Int)):Int×Int)=(l+s,1+(N.length:Int)):=by rw[z5];exact Prod.ext rfl (by dsimp only;omega)
  rw[e];exact this
theorem VS (As:∀r∈rs,ID m r/\r.a≠r.b){x y t:Int}{N:List Nat}(h:NA rs x N y t):Bk rs x y (some (t,(N.length:Int)))->(x::DB rs N).Nodup/\∀v∈x::DB rs N,∃d,Bk rs v y (some d)/\d.2<=(N.length:Int):=by
 induction h with
 |nil x=>exact λ hm=>⟨by simp[DB],λ v hv=>by
  have:v=x:=by simpa [DB] using hv
  rw[this];exact⟨_,hm,zco _⟩⟩
 | @cons x y l s n N r hr ha hl hc ih =>
  intro hm;subst ha;have aY:=za9 hr;have e:((l+s,((n::N).length:Int)):Int×Int)=(l+s,1+(N.length:Int)):=by rw[z5];exact Prod.ext rfl (by dsimp only;omega)
  have aQ:=hm;rw[e] at aQ;obtain⟨h1,h2⟩:=ih (Jw aY hl (rQ hc) aQ);have ee:DB rs (n::N)=r.b::DB rs N:=by unfold DB;rw[zy,hr];rfl
  rw[ee];refine⟨zaw.mpr ⟨λ z=>?_,h1⟩,λ v hv=>?_⟩
  ·obtain⟨d,hd,am⟩:=h2 _ z;have:=hd.C4 aQ;cases this;dsimp only at am;omega
  ·rw[z5];rcases z8.mp hv with rfl|hv
   ·exact⟨_,hm,by dsimp only;rw[z5];exact zco _⟩
   ·obtain⟨d,hd,am⟩:=h2 _ hv;exact⟨d,hd,by omega⟩
theorem rR {x y t:Int}{N:List Nat}(h:NA rs x N y t):∀n∈N,n<rs.length:=by
 induction h with
 |nil=>exact λ n hn=>by cases hn
 |cons hr _ _ _ ih =>
  intro k hk;rcases z8.mp hk with rfl|hk
  ·exact (za3.mp hr).1
  ·exact ih k hk
end
end L2
set_option maxHeartbeats 4000000
namespace cu
open PySem L2
noncomputable def top (i:Nat):Stmt:=PySem.Challenge.pw_nodeladder_k91_whole_ways_and_prices.main.body.getD i (.Pass ⟨0,0,0,0⟩)
noncomputable abbrev FK:Stmt:=top 7
theorem L6:Ae ["thing","bound"] ["thing","bound"] (A5 FK):=⟨rfl,rfl,rfl,by decide +kernel,rfl,by decide +kernel,by decide +kernel⟩
noncomputable abbrev L7:Stmt:=top 8
theorem PZ:Ae ["thing"] ["thing"] (A5 L7):=⟨rfl,rfl,rfl,by decide +kernel,rfl,by decide +kernel,by decide +kernel⟩
noncomputable abbrev QT:Stmt:=top 9
theorem VT:Ae ["thing","many"] ["thing","many"] (A5 QT):=⟨rfl,rfl,rfl,by decide +kernel,rfl,by decide +kernel,by decide +kernel⟩
noncomputable abbrev U3:Stmt:=top 10
theorem LV:Ae ["thing","many","roads"] ["thing"] (A5 U3):=⟨rfl,rfl,rfl,by decide +kernel,rfl,by decide +kernel,by decide +kernel⟩
noncomputable abbrev QU:Stmt:=top 11
theorem VU:Ae ["thing"] ["thing"] (A5 QU):=⟨rfl,rfl,rfl,by decide +kernel,rfl,by decide +kernel,by decide +kernel⟩
noncomputable abbrev Xs:Stmt:=top 12
theorem fA:Ae ["one","other"] ["one","other"] (A5 Xs):=⟨rfl,rfl,rfl,by decide +kernel,rfl,by decide +kernel,by decide +kernel⟩
noncomputable abbrev Xu:Stmt:=top 13
theorem fB:Ae ["some"] ["some"] (A5 Xu):=⟨rfl,rfl,rfl,by decide +kernel,rfl,by decide +kernel,by decide +kernel⟩
noncomputable abbrev Mj:Stmt:=top 14
theorem Se:Ae ["road"] ["road"] (A5 Mj):=⟨rfl,rfl,rfl,by decide +kernel,rfl,by decide +kernel,by decide +kernel⟩
noncomputable abbrev L8:Stmt:=top 16
theorem Q1:Ae ["ladder"] ["ladder"] (A5 L8):=⟨rfl,rfl,rfl,by decide +kernel,rfl,by decide +kernel,by decide +kernel⟩
noncomputable abbrev E5:Stmt:=top 17
theorem Hu:Ae ["ladder"] ["ladder"] (A5 E5):=⟨rfl,rfl,rfl,by decide +kernel,rfl,by decide +kernel,by decide +kernel⟩
noncomputable abbrev QV:Stmt:=top 18
theorem Dp:Ae ["order","costs","place","reached","rank","lower","higher","cost"] ["order","costs","place"] (A5 QV):=⟨rfl,rfl,rfl,by decide +kernel,rfl,by decide +kernel,by decide +kernel⟩
noncomputable abbrev Hv:Stmt:=top 19
theorem MO:Ae ["ladder","start"] ["ladder","start"] (A5 Hv):=⟨rfl,rfl,rfl,by decide +kernel,rfl,by decide +kernel,by decide +kernel⟩
noncomputable abbrev IV:Stmt:=top 20
theorem OF:Ae ["ladder","goal"] ["ladder","goal"] (A5 IV):=⟨rfl,rfl,rfl,by decide +kernel,rfl,by decide +kernel,by decide +kernel⟩
noncomputable abbrev Hw:Stmt:=top 21
theorem DK:Ae ["ladder","start","goal","ahead","behind"] ["ladder","start","goal"] (A5 Hw):=⟨rfl,rfl,rfl,by decide +kernel,rfl,by decide +kernel,by decide +kernel⟩
noncomputable abbrev Xv:Stmt:=top 23
theorem FL:Ae ["order","costs","place","reached","told","higher","lower","over"] ["order","costs","place"] (A5 Xv):=⟨rfl,rfl,rfl,by decide +kernel,rfl,by decide +kernel,by decide +kernel⟩
noncomputable abbrev OG:Stmt:=top 24
theorem U4:Ae ["ladder","goal"] ["ladder","goal"] (A5 OG):=⟨rfl,rfl,rfl,by decide +kernel,rfl,by decide +kernel,by decide +kernel⟩
noncomputable abbrev Hx:Stmt:=top 26
theorem MQ:Ae ["ladder","start","goal"] ["ladder","start","goal"] (A5 Hx):=⟨rfl,rfl,rfl,by decide +kernel,rfl,by decide +kernel,by decide +kernel⟩
noncomputable abbrev FN:Stmt:=top 27
theorem F2:Ae ["ladder","prices","place","kept"] ["ladder","prices","place"] (A5 FN):=⟨rfl,rfl,rfl,by decide +kernel,rfl,by decide +kernel,by decide +kernel⟩
noncomputable abbrev Gz:Stmt:=top 28
theorem BH:Ae ["ladder","prices","start","goal","roads","place","arc"] ["ladder","prices","start","goal"] (A5 Gz):=⟨rfl,rfl,rfl,by decide +kernel,rfl,by decide +kernel,by decide +kernel⟩
noncomputable abbrev nA:Stmt:=top 29
theorem VW:Ae ["ladder","start","goal","cost","prices"] ["ladder","start","goal"] (A5 nA):=⟨rfl,rfl,rfl,by decide +kernel,rfl,by decide +kernel,by decide +kernel⟩
noncomputable abbrev IW:Stmt:=top 31
theorem OH:Ae ["laid","pair"] ["laid","pair"] (A5 IW):=⟨rfl,rfl,rfl,by decide +kernel,rfl,by decide +kernel,by decide +kernel⟩
noncomputable abbrev nB:Stmt:=top 32
theorem rS:Ae ["laid","pair","cost","middle"] ["laid","pair","cost","middle"] (A5 nB):=⟨rfl,rfl,rfl,by decide +kernel,rfl,by decide +kernel,by decide +kernel⟩
noncomputable abbrev OI:Stmt:=top 33
theorem F3:Ae ["laid","place","higher","u","w","cost"] ["laid","place","higher"] (A5 OI):=⟨rfl,rfl,rfl,by decide +kernel,rfl,by decide +kernel,by decide +kernel⟩
noncomputable abbrev Ml:Stmt:=top 34
theorem D2:Ae ["net","order","laid","road","rank","place"] ["net","order"] (A5 Ml):=⟨rfl,rfl,rfl,by decide +kernel,rfl,by decide +kernel,by decide +kernel⟩
noncomputable abbrev OJ:Stmt:=top 36
theorem U5:Ae ["net","thing"] ["net","thing"] (A5 OJ):=⟨rfl,rfl,rfl,by decide +kernel,rfl,by decide +kernel,by decide +kernel⟩
noncomputable abbrev GA:Stmt:=top 37
theorem LW:Ae ["net","thing"] ["net","thing"] (A5 GA):=⟨rfl,rfl,rfl,by decide +kernel,rfl,by decide +kernel,by decide +kernel⟩
noncomputable abbrev L9:Stmt:=top 38
theorem Fh:Ae ["net","bows","road"] ["net"] (A5 L9):=⟨rfl,rfl,rfl,by decide +kernel,rfl,by decide +kernel,by decide +kernel⟩
noncomputable abbrev Hy:Stmt:=top 39
theorem BW:Ae ["bows","left","place","ahead","behind","missing","u"] ["bows","left","place"] (A5 Hy):=⟨rfl,rfl,rfl,by decide +kernel,rfl,by decide +kernel,by decide +kernel⟩
noncomputable abbrev OK:Stmt:=top 40
theorem U6:Ae ["bows","left"] ["bows","left"] (A5 OK):=⟨rfl,rfl,rfl,by decide +kernel,rfl,by decide +kernel,by decide +kernel⟩
noncomputable abbrev U7:Stmt:=top 41
theorem Ep:Ae ["net","bows","left","order","place","bow"] ["net"] (A5 U7):=⟨rfl,rfl,rfl,by decide +kernel,rfl,by decide +kernel,by decide +kernel⟩
noncomputable abbrev La:Stmt:=top 43
theorem BB:Ae ["net","start","costs","changed","road","cost"] ["net","start"] (A5 La):=⟨rfl,rfl,rfl,by decide +kernel,rfl,by decide +kernel,by decide +kernel⟩
noncomputable abbrev F4:Stmt:=top 45
theorem Jy:Ae ["net","order"] ["net","order"] (A5 F4):=⟨rfl,rfl,rfl,by decide +kernel,rfl,by decide +kernel,by decide +kernel⟩
noncomputable abbrev Mm:Stmt:=top 46
theorem Ed:Ae ["net","laid","kept","u","costs"] ["net","laid"] (A5 Mm):=⟨rfl,rfl,rfl,by decide +kernel,rfl,by decide +kernel,by decide +kernel⟩
noncomputable abbrev Lb:Stmt:=top 47
theorem IX:Ae ["net","arc","cost","numbers"] ["net","arc","cost"] (A5 Lb):=⟨rfl,rfl,rfl,by decide +kernel,rfl,by decide +kernel,by decide +kernel⟩
noncomputable abbrev AB:Stmt:=inClass (top 48) 0
theorem Jz:Ae ["self","net","order"] ["self","net","order"] (A5 AB):=⟨rfl,rfl,rfl,by decide +kernel,rfl,by decide +kernel,by decide +kernel⟩
noncomputable abbrev Hz:Stmt:=inClass (top 48) 2
theorem MR:Ae ["self"] ["self"] (A5 Hz):=⟨rfl,rfl,rfl,by decide +kernel,rfl,by decide +kernel,by decide +kernel⟩
noncomputable abbrev DC:Stmt:=inClass (top 48) 4
theorem D7:Ae ["self","u","w","many"] ["self","u","w"] (A5 DC):=⟨rfl,rfl,rfl,by decide +kernel,rfl,by decide +kernel,by decide +kernel⟩
noncomputable abbrev IY:Stmt:=inClass (top 48) 5
theorem OL:Ae ["self","u","w"] ["self","u","w"] (A5 IY):=⟨rfl,rfl,rfl,by decide +kernel,rfl,by decide +kernel,by decide +kernel⟩
noncomputable abbrev F5:Stmt:=inClass (top 48) 7
theorem Br:Ae ["self","u","w","roads","waiting","arc","middle"] ["self","u","w"] (A5 F5):=⟨rfl,rfl,rfl,by decide +kernel,rfl,by decide +kernel,by decide +kernel⟩
noncomputable abbrev IZ:Stmt:=inClass (top 48) 8
theorem OM:Ae ["self"] ["self"] (A5 IZ):=⟨rfl,rfl,rfl,by decide +kernel,rfl,by decide +kernel,by decide +kernel⟩
noncomputable abbrev J0:Stmt:=top 50
theorem ON:Ae ["_law_script","_law_k"] ["_law_script","_law_k"] (A5 J0):=⟨rfl,rfl,rfl,by decide +kernel,rfl,by decide +kernel,by decide +kernel⟩
noncomputable abbrev Mn:Stmt:=top 51
theorem Gg:Ae ["_law_cell","_law_k","_law_number"] ["_law_cell","_law_k"] (A5 Mn):=⟨rfl,rfl,rfl,by decide +kernel,rfl,by decide +kernel,by decide +kernel⟩
noncomputable abbrev OO:Stmt:=top 52
theorem CL:Ae ["_law_cell","_law_many","_law_k","_law_x","_law_one","_law_other","_law_length"] ["_law_cell","_law_many","_law_k"] (A5 OO):=⟨rfl,rfl,rfl,by decide +kernel,rfl,by decide +kernel,by decide +kernel⟩
noncomputable abbrev QW:Stmt:=top 53
theorem Dq:Ae ["_law_script","_law_places","_law_most","_law_cells","_law_x","_law_many","_law_roads"] ["_law_script","_law_places","_law_most"] (A5 QW):=⟨rfl,rfl,rfl,by decide +kernel,rfl,by decide +kernel,by decide +kernel⟩
noncomputable abbrev OP:Stmt:=top 54
theorem U8:Ae ["_law_one","_law_other"] ["_law_one","_law_other"] (A5 OP):=⟨rfl,rfl,rfl,by decide +kernel,rfl,by decide +kernel,by decide +kernel⟩
noncomputable abbrev Mo:Stmt:=top 55
theorem Sf:Ae ["_law_one","_law_other"] ["_law_one","_law_other"] (A5 Mo):=⟨rfl,rfl,rfl,by decide +kernel,rfl,by decide +kernel,by decide +kernel⟩
noncomputable abbrev OQ:Stmt:=top 56
theorem Mp:Ae ["_law_found","_law_due","_law_part"] ["_law_found","_law_due"] (A5 OQ):=⟨rfl,rfl,rfl,by decide +kernel,rfl,by decide +kernel,by decide +kernel⟩
noncomputable abbrev OR:Stmt:=top 57
theorem Bl:Ae ["_law_net","_law_start","_law_goal","_law_roads","_law_here","_law_cost_here","_law_road_here","_law_u","_law_w","_law_length","_law_width"] ["_law_net","_law_start","_law_goal","_law_roads"] (A5 OR):=⟨rfl,rfl,rfl,by decide +kernel,rfl,by decide +kernel,by decide +kernel⟩
noncomputable abbrev Lc:Stmt:=top 58
theorem B9:Ae ["_law_net","_law_goal","_law_prices_here","_law_many","_law_roads","_law_due","_law_u","_law_w","_law_length","_law_width","_law_place"] ["_law_net","_law_goal","_law_prices_here"] (A5 Lc):=⟨rfl,rfl,rfl,by decide +kernel,rfl,by decide +kernel,by decide +kernel⟩
noncomputable abbrev OS:Stmt:=top 59
theorem U9:Ae ["_law_net"] ["_law_net"] (A5 OS):=⟨rfl,rfl,rfl,by decide +kernel,rfl,by decide +kernel,by decide +kernel⟩
noncomputable abbrev J1:Stmt:=top 60
theorem Bs:Ae ["_law_net","_law_start","_law_found","_law_turn","_law_u","_law_w","_law_length","_law_width"] ["_law_net","_law_start"] (A5 J1):=⟨rfl,rfl,rfl,by decide +kernel,rfl,by decide +kernel,by decide +kernel⟩
noncomputable abbrev Mq:Stmt:=top 61
theorem Gh:Ae ["_law_net","_law_start","_law_goal","_law_found","_law_cost_here","_law_ends"] ["_law_net","_law_start","_law_goal","_law_found"] (A5 Mq):=⟨rfl,rfl,rfl,by decide +kernel,rfl,by decide +kernel,by decide +kernel⟩
noncomputable abbrev QX:Stmt:=top 62
theorem HA:Ae ["_law_script","_law_most","_law_net","_law_ladder","_law_cell","_law_x","_law_start","_law_goal"] ["_law_script"] (A5 QX):=⟨rfl,rfl,rfl,by decide +kernel,rfl,by decide +kernel,by decide +kernel⟩
structure Txt (K:zt)(mg:Str->Option Value):Prop where
 LX:AG K mg "is_whole_below" FK ["thing","bound"]
 Sg:AG K mg "is_measure" L7 ["thing"]
 YY:AG K mg "is_road" QT ["thing","many"]
 fC:AG K mg "is_map" U3 ["thing"]
 YZ:AG K mg "checked" QU ["thing"]
 lS:AG K mg "added" Xs ["one","other"]
 lT:AG K mg "least" Xu ["some"]
 Ua:AG K mg "road_cost" Mj ["road"]
 Sh:AG K mg "kept_costs" L8 ["ladder"]
 IK:AG K mg "kept_costs_turned" E5 ["ladder"]
 Z0:AG K mg "climbed" QV ["order","costs","place"]
 OU:AG K mg "climbed_from" Hv ["ladder","start"]
 Q2:AG K mg "climbing_to" IV ["ladder","goal"]
 OV:AG K mg "sums_at_tops" Hw ["ladder","start","goal"]
 lU:AG K mg "swept" Xv ["order","costs","place"]
 VX:AG K mg "costs_in" OG ["ladder","goal"]
 OW:AG K mg "cost_between" Hx ["ladder","start","goal"]
 LY:AG K mg "arcs_by_prices" FN ["ladder","prices","place"]
 MS:AG K mg "way_by_prices" Gz ["ladder","prices","start","goal"]
 wF:AG K mg "ask" nA ["ladder","start","goal"]
 Q3:AG K mg "cost_so_far" IW ["laid","pair"]
 wG:AG K mg "lay" nB ["laid","pair","cost","middle"]
 VY:AG K mg "lay_over" OI ["laid","place","higher"]
 Ub:AG K mg "laid_arcs" Ml ["net","order"]
 VZ:AG K mg "is_order" OJ ["net","thing"]
 MT:AG K mg "checked_order" GA ["net","thing"]
 Si:AG K mg "first_bows" L9 ["net"]
 OX:AG K mg "missing_bows" Hy ["bows","left","place"]
 W0:AG K mg "lightest" OK ["bows","left"]
 fD:AG K mg "ranked" U7 ["net"]
 Sj:AG K mg "costs_from" La ["net","start"]
 Ld:AG K mg "order_or_ranked" F4 ["net","order"]
 Uc:AG K mg "kept_arcs" Mm ["net","laid"]
 Sk:AG K mg "road_under" Lb ["net","arc","cost"]
 Le:Vy K mg "Ladder" "Ladder.__init__" AB ["self","net","order"]
 OY:Oi K "Ladder" "order" "Ladder.order" Hz ["self"]
 HB:Oi K "Ladder" "checked_arc" "Ladder.checked_arc" DC ["self","u","w"]
 Q4:Oi K "Ladder" "cost" "Ladder.cost" IY ["self","u","w"]
 Lf:Oi K "Ladder" "unpacked" "Ladder.unpacked" F5 ["self","u","w"]
 Q5:Oi K "Ladder" "kept" "Ladder.kept" IZ ["self"]
 Q6:AG K mg "_law_cell_at" J0 ["_law_script","_law_k"]
 Ud:AG K mg "_law_mixed" Mn ["_law_cell","_law_k"]
 W3:AG K mg "_law_road" OO ["_law_cell","_law_many","_law_k"]
 Z1:AG K mg "_law_map" QW ["_law_script","_law_places","_law_most"]
 W4:AG K mg "_law_plus" OP ["_law_one","_law_other"]
 Ue:AG K mg "_law_least" Mo ["_law_one","_law_other"]
 W5:AG K mg "_law_cost" OQ ["_law_found","_law_due"]
 W6:AG K mg "_law_walk" OR ["_law_net","_law_start","_law_goal","_law_roads"]
 Sl:AG K mg "_law_prices" Lc ["_law_net","_law_goal","_law_prices_here"]
 W7:AG K mg "_law_copy" OS ["_law_net"]
 Q7:AG K mg "_law_reached" J1 ["_law_net","_law_start"]
 Ug:AG K mg "_law_shown" Mq ["_law_net","_law_start","_law_goal","_law_found"]
 aap:AG K mg "law" QX ["_law_script"]
 nE:mg "all" = none
 W8:mg "bool" = none
 W9:mg "dict" = none
 F6:mg "enumerate" = none
 fE:mg "int" = none
 AK:mg "isinstance" = none
 EF:mg "len" = none
 EG:mg "list" = none
 fF:mg "min" = none
 IG:mg "range" = none
 Wa:mg "reversed" = none
 wH:mg "set" = none
 fG:mg "sorted" = none
 Lg:mg "tuple" = none
 EH:IU K "Ladder" "kept_ones"
 BZ:IU K "Ladder" "laid"
 Bn:IU K "Ladder" "own_map"
 Cw:IU K "Ladder" "own_order"
local macro_rules | `(tactic| rfl')=>`(tactic| simp only [zK,zL,zM])
local macro_rules | `(‹$t›)=>`(some (Cl.val $t))
local macro_rules | `(!$n:num)=>`(pN $n (pv $n))
local macro_rules | `(!$h:ident)=>`(huR $h 16 (by decide))
local macro_rules | `(-$h:ident)=>`(($h).mono (by decide))
local macro_rules | `(tactic| simp_arith [$xs,*])=>`(tactic| simp only [vJ,vK,Nq,List.set_cons_zero,List.set_cons_succ,M.Aa,Ie,Ic,K6,Kq,Kr,Ks,Nf,Ju,LK,QE,Kg,Kh,Ii,WQ,Nb,Nc,Ki,jN,Ij,Ik,G8,RO,Dh,RP,Kj,Kk,Il,WT,Kf,Ew,toCl_list,toCl_listP,toCl_dct,Ng,Kt,Ku,Kv,Kw,Nh,Kx,Ky,Kz,sI,sH,Kl,WU,Km,WV,Kn,Ko,Nd,WW,xB,xC,jQ,jR,jS,jT,jU,jV,toCl_nil,K0,Gx,PQ,RQ,Im,Ni,Nj,KA,KC,Nk,Nl,Nm,Nn,Np,KD,KG,KH,KI,Io,Ip,Iq,Ir,Iv,KJ,Iw,Iy,WY,WZ,X0,X1,X2,Iz,ite_tt,ite_ff,Bool.not_true,Bool.not_false,List.getElem?_cons_zero,List.getElem?_cons_succ,FH,Ho,KU,jP,kN,jO,kR,kS,kT,Nw,S5,S6,S7,Eo,IE,Nz,RW,lF,Xk,Sa,$xs,*])
def FT (nm:Str)(lv n:Nat)(F:List D->M OT):Prop:=∀ {P w K mg base},Txt K mg->yZ P w K mg base nm lv n F
variable {P:Program}{w:World}{K:zt}{mg:Str->Option Value}{base:Heap}
def FO (F:List D->M OT):Prop:=∀i n:Int,0<=i->i<n->F [.int i,.int n]=.ok (.sh (.bl true))
theorem D3:∃F,FT "is_whole_below" 1 2 F/\FO F:=by
 refine⟨_,λ T=>Au (k:=0) T.LX L6 _ (λ f B1 A outer s H E hr=>(A4 (Ac (AA (Ry (CV (NX _) rfl T.AK rfl T.fE (by decide +kernel) (!0)) (Ry (pS (CV (LD _) rfl T.AK rfl T.W8 (by decide +kernel) (!0))) (Rx (Y2 lV Zs A3 (!0) (!1))))))))),?_⟩;intro i n h0 h1;rfl';refine B5 ?_;have a:=decide_eq_true h0;have b:=decide_eq_true h1;simp_arith[FH,a,b,Eb];rfl
noncomputable def GB:=z3 D3
theorem AX:FT "is_whole_below" 1 2 GB:=(zu D3).1
theorem AY:FO GB:=(zu D3).2
def Lh (F:List D->M OT):Prop:=∀i:Int,0<=i->i<QO->F [.int i]=.ok (.sh (.bl true))
theorem Fi:∃F,FT "is_measure" 2 1 F/\Lh F:=by
 refine⟨_,λ T=>Au (k:=1) T.Sg PZ _ (λ f B1 A outer s H E hr=>(A4 (Ac (Ab A7.toXCall (AX T) (-hr) rfl (A1 (!0) (A1 (ZW A3 A3) A6)) rfl)))),?_⟩;intro i h0 h1;rfl';have h:=AY i QO h0 h1;refine B5 ?_;simp_arith[mQ,h];rfl
noncomputable def Mr:=z3 Fi
theorem J2:FT "is_measure" 2 1 Mr:=(zu Fi).1
theorem J3:Lh Mr:=(zu Fi).2
def QY (F:List D->M OT):Prop:=∀(m:Nat) (r:Road),LN m r->F [BR r,.int m]=.ok (.sh (.bl true))
theorem JA:∃F,FT "is_road" 3 2 F/\QY F:=by
 refine⟨_,λ T=>Au (k:=2) T.YY VT _ (λ f B1 A outer s H E hr=>(A2 (AS (DW.dt (Cp (Bo (B7 (c:=true) (CV (G4 _) rfl T.AK rfl T.Lg (by decide +kernel) (!0)))) (C1 (Fv (c:=true) (!hr) (CU rfl T.EF (!0)) A3)))) (A4 (Ac (AA Cd))) Ap) (A2 (AS (DW.dt (Cp (Bo (B7 (c:=true) (Aj (Ab A7.toXCall (AX T) (-hr) rfl (A1 (A8 (!hr) (!0) A3) (A1 (!1) A6)) rfl)))) (C1 (Bo (B7 (c:=true) (Aj (Ab A7.toXCall (AX T) (-hr) rfl (A1 (A8 (!hr) (!0) A3) (A1 (!1) A6)) rfl))))))) (A4 (Ac (AA Cd))) Ap) (A2 (AS (JX (c:=true) (!hr) (A8 (!hr) (!0) A3) (A8 (!hr) (!0) A3)) (A4 (Ac (AA Cd))) Ap) (A4 (Ac (AA (Ry (uP (ZY (A8 (!hr) (!0) A3)) (Rx (Aj (Ab A7.toXCall (J2 T) (-hr) rfl (A1 (A8 (!hr) (!0) A3) A6) rfl)))) (Rx (Aj (Ab A7.toXCall (J2 T) (-hr) rfl (A1 (A8 (!hr) (!0) A3) A6) rfl))))))))))),?_⟩;intro m r ok;rfl';refine B5 ?_;have i0:AE (BR r) (.int 0)=.ok (.int r.a):=rfl;have i1:AE (BR r) (.int 1)=.ok (.int r.b):=rfl;have i2:AE (BR r) (.int 2)=.ok (CN r.l):=rfl;have i3:AE (BR r) (.int 3)=.ok (.int r.w):=rfl;have ha:=AY r.a m ok.a0 ok.a1;have hb:=AY r.b m ok.b0 ok.b1;have hw:=J3 r.w ok.w0 ok.w1;apply wp_step
 ·rfl
 apply wp_step
 ·simp_arith[i0,i1,ha,hb,Eb];rfl
 apply wp_step
 ·simp_arith[i0,i1,decide_eq_false ok.ab];rfl
 simp_arith[i2,i3,hw];cases q:r.l with
 |none=>rfl
 |some z =>
  have hl:=J3 z (ok.l0 z q).1 (ok.l0 z q).2;have e:CN (some z)=.int z:=rfl;simp_arith[e,hl];rfl
noncomputable def Uh:=z3 JA
theorem Wb:FT "is_road" 3 2 Uh:=(zu JA).1
theorem Wc:QY Uh:=(zu JA).2
def Ui (F:List D->M OT):Prop:=∀(m:Nat) (rs:List Road),1<=m->m<=16->rs.length<=60->(∀r∈rs,LN m r)->F [Ak m rs]=.ok (.sh (.bl true))
theorem LZ:∃F,FT "is_map" 4 1 F/\Ui F:=by
 refine⟨_,λ T=>Au (k:=3) T.fC LV _ (λ f B1 A outer s H E hr=>(A2 (AS (DW.dt (Cp (Bo (B7 (c:=true) (CV (G4 _) rfl T.AK rfl T.Lg (by decide +kernel) (!0)))) (C1 (Fv (c:=true) (!hr) (CU rfl T.EF (!0)) A3)))) (A4 (Ac (AA Cd))) Ap) (A2 (Av 1 LV.nd rfl (Or.inr rfl) (A8 (!hr) (!0) A3)) (A2 (Av 2 LV.nd rfl (zam rfl) (A8 (!hr) (!0) A3)) (A2 (AS (DW.dt (Cp (Bo (B7 (c:=true) (Aj (Ab A7.toXCall (AX T) (-hr) rfl (A1 (!1) (A1 A3 A6)) rfl)))) (C1 (JX (c:=true) (!hr) (!1) A3)))) (A4 (Ac (AA Cd))) Ap) (A2 (AS (DW.dt (Cp (Bo (B7 (c:=true) (CV (HZ _) rfl T.AK rfl T.EG (by decide +kernel) (!2)))) (C1 (uO (c:=true) (CU rfl T.EF (!2)) A3)))) (A4 (Ac (AA Cd))) Ap) (A4 (Ac (AA (cC rfl rfl T.nE (Aj (CZ (NB:=["road","many"]) [none,some 1] rfl (AR (!2)) rfl rfl (Bw 0 (by decide) rfl rfl rfl) (λ _ _ _ _=>E9) (λ _ _ _ _=>(Aj (Cu (Ab (BN rfl).toXCall (Wb T) (-hr) rfl (A1 (!0) (A1 (!1) A6)) rfl)))))))))))))))),?_⟩;intro m rs h1 h2 hl As;rfl';refine B5 ?_;have i0:AE (Ak m rs) (.int 0)=.ok (.int m):=rfl;have i1:AE (Ak m rs) (.int 1)=.ok (.lst (rs.map BR)):=rfl;have hn:=AY m 17 (by omega) (by omega);have hm:decide ((m:Int)=0)=false:=decide_eq_false (by omega);have bo:decide ((60:Int)<((rs.map BR).length:Int))=false:=decide_eq_false (by rw[zv];omega);have am:(rs.map BR).length<=1000:=by rw[zv];omega
 apply wp_step
 ·rfl
 apply wp_step
 ·simp_arith[i0];rfl
 apply wp_step
 ·simp_arith[i1];rfl
 apply wp_step
 ·simp_arith[hn,hm,Eb];rfl
 apply wp_step
 ·simp_arith[bo,Eb];rfl
 simp_arith[if_pos am];rw[BQ (λ _:Road=>D.bl true) (λ r hr=>⟨_,rfl,rfl,by
  have:=Wc m r (As r hr);simp_arith[this]⟩)]
 simp_arith[wD];rfl
noncomputable def Xw:=z3 LZ
theorem Z2:FT "is_map" 4 1 Xw:=(zu LZ).1
theorem Z3:Ui Xw:=(zu LZ).2
def QZ (F:List D->M OT):Prop:=∀(m:Nat) (rs:List Road),1<=m->m<=16->rs.length<=60->(∀r∈rs,LN m r)->F [Ak m rs]=.ok (.tup [.sh (.int m),.lst ((rs.map BR).map .sh)])
theorem JB:∃F,FT "checked" 5 1 F/\QZ F:=by
 refine⟨_,λ T=>Au (k:=4) T.YZ VU _ (λ f B1 A outer s H E hr=>(A2 (AS (Bo (B7 (c:=true) (Aj (Ab A7.toXCall (Z2 T) (-hr) rfl (A1 (!0) A6) rfl)))) (A4 Vk) Ap) (A4 (Ac (RI (C6 (AA (A8 (!hr) (!0) A3)) (C6 (CZ (NB:=["road"]) [none] rfl (AR (A8 (!hr) (!0) A3)) rfl rfl (Bw 0 (by decide) rfl rfl rfl) (λ _ _ _ _=>E9) (λ _ _ _ _=>(bM rfl T.Lg (!0)))) Cc))))))),?_⟩;intro m rs h1 h2 hl As;rfl';have h1:=Z3 m rs h1 h2 hl As;have n0:AE (Ak m rs) (.int 0)=.ok (.int m):=rfl;have n1:AE (Ak m rs) (.int 1)=.ok (.lst (rs.map BR)):=rfl;have am:(rs.map BR).length<=1000:=by rw[zv];omega
 refine B5 ?_;apply wp_step
 ·simp_arith[h1,Eb];rfl
 simp_arith[n0,n1,if_pos am];rw[BQ BR (λ r hr=>⟨_,rfl,rfl,rfl⟩)];simp_arith[];exact⟨_,rfl,rfl⟩
noncomputable def Uj:=z3 JB
theorem Wd:FT "checked" 5 1 Uj:=(zu JB).1
theorem We:QZ Uj:=(zu JB).2
def Xx (F:List D->M OT):Prop:=∀a b:Co,F [cst a,cst b]=.ok (.sh (cst (Aq a b)))
theorem OZ:∃F,FT "added" 1 2 F/\Xx F:=by
 refine⟨_,λ T=>Au (k:=0) T.lS fA _ (λ f B1 A outer s H E hr=>(A2 (AS (DW.dt (Cp (De (c:=true) (!0)) (C1 (De (c:=true) (!1))))) (A4 (Ac (AA Ct))) Ap) (A4 (Ac (AA (AF (A1 (C5 (A8 (!hr) (!0) A3) (A8 (!hr) (!1) A3)) (A1 (C5 (A8 (!hr) (!0) A3) (A8 (!hr) (!1) A3)) A6)))))))),?_⟩;intro a b;dsimp only;rcases a with _|⟨a1,a2⟩<;>rcases b with _|⟨b1,b2⟩<;>rfl
noncomputable def fH:=z3 OZ
theorem FQ:FT "added" 1 2 fH:=(zu OZ).1
theorem FR:Xx fH:=(zu OZ).2
def Xy (F:List D->M OT):Prop:=∀cs:List Co,cs.length<=1000->F [.lst (cs.map cst)]=.ok (.sh (cst (Ec cs)))
theorem P5:∃F,FT "least" 1 1 F/\Xy F:=by
 refine⟨_,λ T=>Au (k:=0) T.lT fB _ (λ f B1 A outer s H E hr=>(A4 (Ac (AA (iO rfl (huR hr 1 (by decide)) rfl T.fF (Aj (CZ (NB:=["cost"]) [none] rfl (AR (!0)) rfl rfl (Bw 0 (by decide) rfl rfl rfl) (λ _ _ _ _=>Ea (HY (c:=true) (!0))) (λ _ _ _ _=>(!0)))) Ct))))),?_⟩;intro cs hc;dsimp only;have e0:∀x:D,Dx ["some"] [x]=[‹x›]:=λ x=>rfl;rw[e0];refine B5 ?_;have hl:(cs.map cst).length<=1000:=by rw[zv];exact hc
 have de:=dN cs;have wu:=kJ cs;simp_arith[if_pos hl];rw[Mg];simp_arith[wu];rfl
noncomputable def P6:=z3 P5
theorem Li:FT "least" 1 1 P6:=(zu P5).1
theorem Lj:Xy P6:=(zu P5).2
def Ms (F:List D->M OT):Prop:=∀r:Road,F [BR r]=.ok (.sh (cst (BS r)))
theorem Gi:∃F,FT "road_cost" 1 1 F/\Ms F:=by
 refine⟨_,λ T=>Au (k:=0) T.Ua Se _ (λ f B1 A outer s H E hr=>(A2 (AS (De (c:=true) (A8 (!hr) (!0) A3)) (A4 (Ac (AA Ct))) Ap) (A4 (Ac (AA (AF (A1 (A8 (!hr) (!0) A3) (A1 A3 A6)))))))),?_⟩;intro r;dsimp only;obtain⟨a,b,l,w⟩:=r;cases l<;>rfl
noncomputable def P7:=z3 Gi
theorem Ee:FT "road_cost" 1 1 P7:=(zu Gi).1
theorem Ef:Ms P7:=(zu Gi).2
def DD (F:List D->M OT):Prop:=∀(m:Nat) (rs:List Road) (L:List Int) (A:LA) (K:List (Int×Int)) (u w:Int),0<=u->u<m->0<=w->w<m->(Ao A (u,w)).isSome=true->F [AW m rs L A K,.int u,.int w]=.ok (.sh (pD (u,w)))
theorem C2:∃F:List D->M OT,(∀ {P w K mg base},Txt K mg->Hl P w K mg base "Ladder" "checked_arc" 2 3 F)/\DD F:=by
 refine⟨_,λ T=>KN (k:=1) T.HB D7 _ (λ f B1 A outer s H E hr=>(A2 (Av 3 D7.nd rfl (zam rfl) (A8 (!hr) (Di ["Ladder"] (Ba T.Bn By) (!0)) A3)) (A2 (AS (DW.dt (Cp (Bo (B7 (c:=true) (Aj (Ab A7.toXCall (AX T) (-hr) rfl (A1 (!1) (A1 (!3) A6)) rfl)))) (Cp (Bo (B7 (c:=true) (Aj (Ab A7.toXCall (AX T) (-hr) rfl (A1 (!2) (A1 (!3) A6)) rfl)))) (C1 (K8 (c:=true) (!hr) (AF (A1 (!1) (A1 (!2) A6))) (Di ["Ladder"] (Ba T.BZ By) (!0))))))) (A4 Vk) Ap) (A4 (Ac (AA (AF (A1 (!1) (A1 (!2) A6))))))))),?_⟩;intro m rs L A K u w u0 u1 w0 w1 hf;rfl';refine B5 ?_;have f1:ML ["Ladder"] "own_map" (AW m rs L A K)=.ok (Ak m rs):=rfl;have f2:ML ["Ladder"] "laid" (AW m rs L A K)=.ok (PV A):=rfl;have n0:AE (Ak m rs) (.int 0)=.ok (.int m):=rfl;have h1:=AY u m u0 u1;have h2:=AY w m w0 w1;have hp:D.tup [.int u,.int w]=pD (u,w):=rfl;have hm:=S8 A (u,w) true;rw[hf] at hm;apply wp_step
 ·simp_arith[f1,n0];rfl
 apply wp_step
 ·simp_arith[h1,h2,f2,hp,hm,Eb];rfl
 rfl
noncomputable def AI:=z3 C2
theorem D8:Txt K mg->Hl P w K mg base "Ladder" "checked_arc" 2 3 AI:=(zu C2).1
theorem D9:DD AI:=(zu C2).2
def J4 (F:List D->M OT):Prop:=∀(m:Nat) (rs:List Road) (L:List Int) (A:LA) (K:List (Int×Int)) (u w:Int) (c:Int×Int),GN m A->A9 A (u,w)=some c->F [AW m rs L A K,.int u,.int w]=.ok (.sh (cst (some c)))
theorem EI:∃F:List D->M OT,(∀ {P w K mg base},Txt K mg->Hl P w K mg base "Ladder" "cost" 3 3 F)/\J4 F:=by
 refine⟨_,λ T=>KN (k:=2) T.Q4 OL _ (λ f B1 A outer s H E hr=>(A4 (Ac (AA (A8 (!hr) (A8 (!hr) (Di ["Ladder"] (Ba T.BZ By) (!0)) (Aj (IA (k:=2) [("Ladder",AI)] A7.toXCall (BV (by decide) (D8 T) Cs) (-hr) (!0) (A1 (!1) (A1 (!2) A6)) rfl))) A3))))),?_⟩;intro m rs L A K u w c hA hc;rfl';refine B5 ?_;have f2:ML ["Ladder"] "laid" (AW m rs L A K)=.ok (PV A):=rfl;have hk:=hA.rg _ (ED hc);obtain⟨v,hv⟩:∃v,Ao A (u,w)=some (c,v):=by
  unfold A9 at hc;cases q:Ao A (u,w) with
  |none=>rw[q] at hc;cases hc
  |some z=>rw[q] at hc;obtain⟨z1,z2⟩:=z;cases hc;exact⟨z2,rfl⟩
 have h1:=D9 m rs L A K u w hk.2.1.1 hk.2.1.2 hk.2.2.1 hk.2.2.2 (by rw[hv];rfl);have hi:=Ox hv;have h0:AE (VE (c,v)) (.int 0)=.ok (cst (some c)):=rfl;have hs:FD [("Ladder",AI)] "checked_arc" (AW m rs L A K)=.ok AI:=rfl;simp_arith[f2,hs,h1,hi,h0];rfl
noncomputable def AZ:=z3 EI
theorem EJ:Txt K mg->Hl P w K mg base "Ladder" "cost" 3 3 AZ:=(zu EI).1
theorem EK:J4 AZ:=(zu EI).2
def J5 (F:List D->M OT):Prop:=∀(m:Nat) (rs:List Road) (L:List Int) (A:LA) (K:List (Int×Int)),F [AW m rs L A K]=.ok (.lst ((K.map pD).map .sh))
theorem EL:∃F:List D->M OT,(∀ {P w K mg base},Txt K mg->Hl P w K mg base "Ladder" "kept" 1 1 F)/\J5 F:=by
 refine⟨_,λ T=>KN (k:=0) T.Q5 OM _ (λ f B1 A outer s H E hr=>(A4 (Ac (N5 rfl T.EG (Di ["Ladder"] (Ba T.EH By) (!0)))))),?_⟩;intro m rs L A K;dsimp only;rfl
noncomputable def B0:=z3 EL
theorem EM:Txt K mg->Hl P w K mg base "Ladder" "kept" 1 1 B0:=(zu EL).1
theorem EN:J5 B0:=(zu EL).2
def Lk (F:List D->M OT):Prop:=∀(m:Nat) (rs:List Road) (L:List Int) (A:LA) (K:List (Int×Int)),Bc m rs L A K->F [AW m rs L A K]=.ok (xI (GO A K))
theorem Fj:∃F,FT "kept_costs" 4 1 F/\Lk F:=by
 refine⟨_,λ T=>Au (k:=3) T.Sh Q1 _ (λ f B1 A outer s H E hr=>(A4 (Ac (Tx rfl (!hr) rfl T.W9 (Aj (CZ (NB:=["u","w","ladder"]) [none,none,some 0] rfl (AR (Aj (FE (k:=1) [("Ladder",B0)] A7.toXCall (BV (by decide) (EM T) Cs) (-hr) (!0)))) rfl rfl (Na (n:=2) rfl (CJ 0 (by decide) rfl rfl rfl (CJ 1 (by decide) rfl rfl rfl Kd))) (λ _ _ _ _=>E9) (λ _ _ _ _=>(AF (A1 (AF (A1 (!0) (A1 (!1) A6))) (A1 (Aj (Cu (IA (k:=3) [("Ladder",AZ)] (BN rfl).toXCall (BV (by decide) (EJ T) Cs) (-hr) (!2) (A1 (!0) (A1 (!1) A6)) rfl))) A6)))))))))),?_⟩;intro m rs L A K ok;rfl';refine B5 ?_;have hs:FD [("Ladder",B0)] "kept" (AW m rs L A K)=.ok B0:=rfl;have a5:FD [("Ladder",AZ)] "cost" (AW m rs L A K)=.ok AZ:=rfl;have hk:=EN m rs L A K;have hl:(K.map pD).length<=1000:=by rw[zv];have:=ok.kl;omega
 have hn:((GO A K).map zan).Nodup:=by rw[Oy];exact ok.kn
 have hd:=eG (C:=GO A K) hn (by simp only[GO,zv];have:=ok.kl;omega);simp_arith[hs,hk,if_pos hl];rw[BQ (λ p=>D.tup [pD p,cst (some ((A9 A p).getD (0,0)))]) (λ p hp=>⟨_,rfl,rfl,by
  obtain⟨c,hc,_⟩:=(ok.km p).mp hp;have h1:=EK m rs L A K p.1 p.2 c ok.vT hc;simp_arith[a5,h1];rw[hc];rfl⟩)]
 have e1:(K.map λ p=>D.tup [pD p,cst (some ((A9 A p).getD (0,0)))])=(GO A K).map λ kv=>D.tup [pD kv.1,cst (some kv.2)]:=by
  simp only[PX,GO,zbf];rfl
 rw[e1];simp_arith[hd];exact⟨_,rfl,rfl⟩
noncomputable def Mt:=z3 Fj
theorem Q8:FT "kept_costs" 4 1 Mt:=(zu Fj).1
theorem Q9:Lk Mt:=(zu Fj).2
def E6 (F:List D->M OT):Prop:=∀(m:Nat) (rs:List Road) (L:List Int) (A:LA) (K:List (Int×Int)),Bc m rs L A K->F [AW m rs L A K]=.ok (xI (PX (GO A K)))
theorem Ca:∃F,FT "kept_costs_turned" 4 1 F/\E6 F:=by
 refine⟨_,λ T=>Au (k:=3) T.IK Hu _ (λ f B1 A outer s H E hr=>(A4 (Ac (Tx rfl (!hr) rfl T.W9 (Aj (CZ (NB:=["u","w","ladder"]) [none,none,some 0] rfl (AR (Aj (FE (k:=1) [("Ladder",B0)] A7.toXCall (BV (by decide) (EM T) Cs) (-hr) (!0)))) rfl rfl (Na (n:=2) rfl (CJ 0 (by decide) rfl rfl rfl (CJ 1 (by decide) rfl rfl rfl Kd))) (λ _ _ _ _=>E9) (λ _ _ _ _=>(AF (A1 (AF (A1 (!1) (A1 (!0) A6))) (A1 (Aj (Cu (IA (k:=3) [("Ladder",AZ)] (BN rfl).toXCall (BV (by decide) (EJ T) Cs) (-hr) (!2) (A1 (!0) (A1 (!1) A6)) rfl))) A6)))))))))),?_⟩;intro m rs L A K ok;rfl';refine B5 ?_;have hs:FD [("Ladder",B0)] "kept" (AW m rs L A K)=.ok B0:=rfl;have a5:FD [("Ladder",AZ)] "cost" (AW m rs L A K)=.ok AZ:=rfl;have hk:=EN m rs L A K;have hl:(K.map pD).length<=1000:=by rw[zv];have:=ok.kl;omega
 have hn:((GO A K).map zan).Nodup:=by rw[Oy];exact ok.kn
 have hd:=eG (C:=PX (GO A K)) (YG hn) (by unfold PX;simp only[GO,zv];have:=ok.kl;omega);simp_arith[hs,hk,if_pos hl];rw[BQ (λ p=>D.tup [pD (p.2,p.1),cst (some ((A9 A p).getD (0,0)))]) (λ p hp=>⟨_,rfl,rfl,by
  obtain⟨c,hc,_⟩:=(ok.km p).mp hp;have h1:=EK m rs L A K p.1 p.2 c ok.vT hc;simp_arith[a5,h1];rw[hc];rfl⟩)]
 have e1:(K.map λ p=>D.tup [pD (p.2,p.1),cst (some ((A9 A p).getD (0,0)))])=(PX (GO A K)).map λ kv=>D.tup [pD kv.1,cst (some kv.2)]:=by
  simp only[PX,GO,zbf];rfl
 rw[e1];simp_arith[hd];exact⟨_,rfl,rfl⟩
noncomputable def EO:=z3 Ca
theorem DF:FT "kept_costs_turned" 4 1 EO:=(zu Ca).1
theorem DH:E6 EO:=(zu Ca).2
def R3 (F:List D->M OT):Prop:=∀(m:Nat) (L:List Int) (C:CA) (s:Int),m<=20->L.Perm (BJ m)->s∈L->(∀p c,Ao C p=some c->p.1∈L/\p.2∈L)->∃R:RA,F [.lst (L.map D.int),Sy C,.int s]=.ok (VI R)/\Pz L C s L.length R
theorem JC:∃F,FT "climbed" 2 3 F/\R3 F:=by
 refine⟨_,λ T=>Au (k:=1) T.Z0 Dp _ (λ f B1 A outer s H E hr=>(A2 (BE 3 Dp.nd rfl (zam rfl) (dE (!2) (AF (A1 A3 (A1 A3 A6))))) (A2 (BM A7.toXCall.own rfl (N2 rfl T.F6 (!0)) (LF (n:=2) rfl (B3 (Az 4 Dp.nd rfl (zam rfl)) (B3 (Az 5 Dp.nd rfl (zam rfl)) I9))) (A4 (AS (Jp (Jt (c:=true) (!hr) (!5) (!3))) (A4 (BM A7.toXCall.own rfl (AR (Aj (Kc (!0) (JZ (C5 (!4) A3)) RB))) (Az 6 Dp.nd rfl (zam rfl)) (A4 (AS (Jt (c:=true) (!hr) (AF (A1 (!5) (A1 (!6) A6))) (!1)) (A2 (Av 7 Dp.nd rfl (zam rfl) (Aj (Ex (Ab A7.toXCall (FQ T) (-hr) rfl (A1 (A8 (!hr) (!3) (!5)) (A1 (A8 (!hr) (!1) (AF (A1 (!5) (A1 (!6) A6)))) A6)) rfl)))) (A4 (N8 (!hr) (Bx 3 (pv 3)) (!6) (Aj (Ex (Ab A7.toXCall (Li T) (-hr) rfl (A1 (Fe (A1 (Ol (!hr) (!3) (!6)) (A1 (!7) A6))) A6) rfl)))))) Ap)))) Ap))) (A4 (CY 3 (pv 3)))))),?_⟩;intro m L C s hm hL hs hC;have hn:=Ge hL;have hlen:=KW hL;rfl';refine (λ h:∃t,_/\∃R:RA,t=VI R/\Pz L C s L.length R=>by
  obtain⟨t,h1,R,rfl,h2⟩:=h;exact⟨R,h1,h2⟩) (IT ?_)
 refine wp_step (ρ':=[‹.lst (L.map D.int)›,‹Sy C›,‹.int s›,some (.ow (.tree none (VI [(s,(0,0))]))),none,none,none,none]) (by rfl) ?_;refine BO (I:=λ ρ=>∃(R:RA) (s4 s5 s6 s7:Option Cl),ρ=[‹.lst (L.map D.int)›,‹Sy C›,‹.int s›,some (.ow (.tree none (VI R))),s4,s5,s6,s7]/\Pz L C s L.length R) ?_ ?_
 ·simp_arith[];refine BP (λ i ρ=>i<=L.length/\∃(R:RA) (s4 s5 s6 s7:Option Cl),ρ=[‹.lst (L.map D.int)›,‹Sy C›,‹.int s›,some (.ow (.tree none (VI R))),s4,s5,s6,s7]/\Pz L C s i R) ⟨zb1 _,_,none,none,none,none,rfl,Pz.start hs⟩ ?_ ?_
  ·rintro i d ρ hd ⟨hi,R,s4,s5,s6,s7,rfl,hR⟩;obtain⟨d',bT,rfl⟩:=Fy hd;obtain⟨x,hx,rfl⟩:=Bi bT;have af:=(za3.mp hx).1;rw[Nat.zero_add];refine⟨_,rfl,?_⟩;have df:=eC R x false;have qm:=OA hn hx;cases q:Ao R x with
   |none =>
    rw[q] at df;refine Bf (ρ':=_) (by simp_arith[df];rfl) ⟨af,R,_,_,_,_,rfl,hR.skip hx hn q⟩
   |some c0 =>
    rw[q] at df;have sl:cO (some ((i:Int)+1)) none (.lst (L.map D.int))=.ok (.lst (((L.drop (i+1)).map D.int).map .sh)):=by rw[List.map_drop];exact Tq _ (i+1)
    simp_arith[df,sl,if_true,Option.isSome_some,zag,if_false];refine BP (λ j ρ=>j<=(L.drop (i+1)).length/\∃(R':RA) (s6 s7:Option Cl),ρ=[‹.lst (L.map D.int)›,‹Sy C›,‹.int s›,some (.ow (.tree none (VI R'))),‹.int i›,‹.int x›,s6,s7]/\mU L C s i x c0 ((L.drop (i+1)).take j) R R') ⟨zb1 _,R,s6,s7,rfl,hR.nd,hR.rg,hR.sd,λ y=>C7 _,λ y _=>rfl,λ y hy=>by rw[List.take_zero] at hy;cases hy⟩ ?_ ?_
    ·rintro j d ρ hd ⟨hj,R',s6,s7,rfl,hI⟩;obtain⟨y,hy,rfl⟩:=Bi hd;have js:=(za3.mp hy).1;have ly:=za9 hy;have wv:y∈L:=List.mem_of_mem_drop ly;have d9:i<BU L y:=Xg hn ly;have et:(L.drop (i+1)).take (j+1)=(L.drop (i+1)).take j++[y]:=by rw[zbm,hy];rfl
     refine⟨_,rfl,?_⟩;rw[et];have t1:∀a b:Int,D.tup [.int a,.int b]=pD (a,b):=λ a b=>rfl;have me:=qX C (x,y) false;cases q2:Ao C (x,y) with
     |none =>
      rw[q2] at me;refine Bf (ρ':=_) (by simp_arith[t1,me];rfl) ⟨js,R',_,_,rfl,hI.skip q2⟩
     |some dd =>
      rw[q2] at me;have a8:Ao R' x=some c0:=by rw[hI.sm x (by omega)];exact q
      have i1:=VJ a8;have i2:=qY q2;have h1:=FR (some c0) (some dd);have g1:=eE R' y;obtain⟨v,hv⟩:∃v,EC (Ao R' y) (some (c0.1+dd.1,c0.2+dd.2))=some v:=by
       cases Ao R' y with
       |none|some z=>exact⟨_,rfl⟩
      have h2:P6 [.lst [cst (Ao R' y),cst (some (c0.1+dd.1,c0.2+dd.2))]]=.ok (.sh (cst (EC (Ao R' y) (some (c0.1+dd.1,c0.2+dd.2))))):=Lj [Ao R' y,some (c0.1+dd.1,c0.2+dd.2)] (by simp);rw[hv] at h2;have ay:=hI.put wv d9 qm q q2 hv;have hl:(R'.map λ kv=>D.int kv.1).length<1000:=by
       have:=En hI.nd hI.rg;rw[zv] at this ⊢;omega
      have h9:∀z:Int,keyOk false (.int z)=true:=λ z=>rfl;have ha:Aq (some c0) (some dd)=some (c0.1+dd.1,c0.2+dd.2):=rfl;rw[ha] at h1;simp_arith[t1,me,if_true,Option.isSome_some,zag,if_false];apply wp_step
      ·simp_arith[t1,i1,i2,h1];rfl
      refine Bf (ρ':=[‹.lst (L.map D.int)›,‹Sy C›,‹.int s›,some (.ow (.tree none (VI (Dm R' y v)))),‹.int i›,‹.int x›,‹.int y›,‹cst (some (c0.1+dd.1,c0.2+dd.2))›]) (by
       simp_arith[g1,h2,h9,hl,and_self,if_true,rA];rfl) ⟨js,_,_,_,rfl,ay⟩
    ·rintro ρ ⟨_,R',s6,s7,rfl,hI⟩;rw[zv,zbh] at hI;exact⟨af,R',_,_,s6,s7,rfl,hR.go (λ p c h=>(hC p c h).2) hx hn q hI⟩
  ·rintro ρ ⟨_,R,s4,s5,s6,s7,rfl,hR⟩;rw[CD,zv] at hR;exact⟨R,s4,s5,s6,s7,rfl,hR⟩
 ·rintro ρ ⟨R,s4,s5,s6,s7,rfl,hR⟩;exact⟨_,rfl,R,rfl,hR⟩
noncomputable def Uk:=z3 JC
theorem JD:FT "climbed" 2 3 Uk:=(zu JC).1
theorem JE:R3 Uk:=(zu JC).2
def HC (F:List D->M OT):Prop:=∀(m:Nat) (rs:List Road) (L:List Int) (A:LA) (K:List (Int×Int)),F [AW m rs L A K]=.ok (.lst ((L.map D.int).map .sh))
theorem DL:∃F:List D->M OT,(∀ {P w K mg base},Txt K mg->Hl P w K mg base "Ladder" "order" 1 1 F)/\HC F:=by
 refine⟨_,λ T=>KN (k:=0) T.OY MR _ (λ f B1 A outer s H E hr=>(A4 (Ac (N5 rfl T.EG (Di ["Ladder"] (Ba T.Cw By) (!0)))))),?_⟩;intro m rs L A K;dsimp only;rfl
noncomputable def AU:=z3 DL
theorem DM:Txt K mg->Hl P w K mg base "Ladder" "order" 1 1 AU:=(zu DL).1
theorem DQ:HC AU:=(zu DL).2
def HE (F:List D->M OT):Prop:=∀(m:Nat) (rs:List Road) (L:List Int) (A:LA) (K:List (Int×Int)) (s:Nat),Bc m rs L A K->s<m->∃R:RA,F [AW m rs L A K,.int s]=.ok (VI R)/\Pz L (GO A K) s L.length R
theorem DR:∃F,FT "climbed_from" 5 2 F/\HE F:=by
 refine⟨_,λ T=>Au (k:=4) T.OU MO _ (λ f B1 A outer s H E hr=>(A4 (Ac (Ab A7.toXCall (JD T) (-hr) rfl (A1 (Aj (FE (k:=1) [("Ladder",AU)] A7.toXCall (BV (by decide) (DM T) Cs) (-hr) (!0))) (A1 (Aj (Ab A7.toXCall (Q8 T) (-hr) rfl (A1 (!0) A6) rfl)) (A1 (!1) A6))) rfl)))),?_⟩;intro m rs L A K s ok hs;have hm:=ok.m2;rfl';have h1:=Q9 m rs L A K ok;have h2:=DQ m rs L A K;have cg:FD [("Ladder",AU)] "order" (AW m rs L A K)=.ok AU:=rfl;have jt:(s:Int)∈L:=(B6 ok.pm).mpr ⟨by omega,by omega⟩;obtain⟨R,hF,hR⟩:=JE m L (GO A K) s (by omega) ok.pm jt ok.rL;refine⟨R,B5 ?_,hR⟩;simp_arith[cg,h2,h1,hF];exact⟨_,rfl,rfl⟩
noncomputable def Fl:=z3 DR
theorem MU:FT "climbed_from" 5 2 Fl:=(zu DR).1
theorem MV:HE Fl:=(zu DR).2
def J6 (F:List D->M OT):Prop:=∀(m:Nat) (rs:List Road) (L:List Int) (A:LA) (K:List (Int×Int)) (s:Nat),Bc m rs L A K->s<m->∃R:RA,F [AW m rs L A K,.int s]=.ok (VI R)/\Pz L (PX (GO A K)) s L.length R
theorem EQ:∃F,FT "climbing_to" 5 2 F/\J6 F:=by
 refine⟨_,λ T=>Au (k:=4) T.Q2 OF _ (λ f B1 A outer s H E hr=>(A4 (Ac (Ab A7.toXCall (JD T) (-hr) rfl (A1 (Aj (FE (k:=1) [("Ladder",AU)] A7.toXCall (BV (by decide) (DM T) Cs) (-hr) (!0))) (A1 (Aj (Ab A7.toXCall (DF T) (-hr) rfl (A1 (!0) A6) rfl)) (A1 (!1) A6))) rfl)))),?_⟩;intro m rs L A K s ok hs;have hm:=ok.m2;rfl';have h1:=DH m rs L A K ok;have h2:=DQ m rs L A K;have cg:FD [("Ladder",AU)] "order" (AW m rs L A K)=.ok AU:=rfl;have jt:(s:Int)∈L:=(B6 ok.pm).mpr ⟨by omega,by omega⟩;obtain⟨R,hF,hR⟩:=JE m L (PX (GO A K)) s (by omega) ok.pm jt ok.wB;refine⟨R,B5 ?_,hR⟩;simp_arith[cg,h2,h1,hF];exact⟨_,rfl,rfl⟩
noncomputable def Gj:=z3 EQ
theorem P8:FT "climbing_to" 5 2 Gj:=(zu EQ).1
theorem P9:J6 Gj:=(zu EQ).2
def HF (F:List D->M OT):Prop:=∀(m:Nat) (rs:List Road) (L:List Int) (A:LA) (K:List (Int×Int)) (s g:Nat) (R1 R2:RA),Bc m rs L A K->(Fl) [AW m rs L A K,.int s]=.ok (VI R1)->(Gj) [AW m rs L A K,.int g]=.ok (VI R2)->(R1.map zan).Nodup->R1.length<=900->F [AW m rs L A K,.int s,.int g]=.ok (VI (Cq R1 R2))
theorem DU:∃F,FT "sums_at_tops" 6 3 F/\HF F:=by
 refine⟨_,λ T=>Au (k:=5) T.OV DK _ (λ f B1 A outer s H E hr=>(A2 (Av 3 DK.nd rfl (Or.inr rfl) (Aj (Ab A7.toXCall (MU T) (-hr) rfl (A1 (!0) (A1 (!1) A6)) rfl))) (A2 (Av 4 DK.nd rfl (Or.inr rfl) (Aj (Ab A7.toXCall (P8 T) (-hr) rfl (A1 (!0) (A1 (!2) A6)) rfl))) (A4 (Ac (eV rfl rfl T.W9 (Aj (eR (NB:=["place","ahead","behind"]) [none,some 3,some 4] rfl (lI (!3)) rfl rfl (Bw 0 (by decide) rfl rfl rfl) (λ _ _ _ _=>Ea (Jt (c:=true) (!hr) (!0) (!2))) (λ _ _ _ _=>(AF (A1 (!0) (A1 (Aj (Cu (Ab (BN rfl).toXCall (FQ T) (-hr) rfl (A1 (A8 (!hr) (!1) (!0)) (A1 (A8 (!hr) (!2) (!0)) A6)) rfl))) A6)))))))))))),?_⟩;intro m rs L A K s g R1 R2 ok ju qw hn hl;rfl';refine B5 ?_;apply wp_step
 ·simp_arith[ju];rfl
 try simp only[za5,za1]
 apply wp_step
 ·simp_arith[qw];rfl
 try simp only[za5,za1]
 have am:(R1.map λ kv=>D.int kv.1).length<=1000:=by rw[zv];omega
 simp_arith[lM,if_pos am];rw[BA (λ kv:Int×(Int×Int)=>(Ao R2 kv.1).isSome) (λ kv=>D.tup [.int kv.1,cst (Aq (some kv.2) (Ao R2 kv.1))]) (λ kv jq=>⟨_,rfl,by
  have h1:=eC R2 kv.1 false;simp_arith[h1];try rfl,λ hp=>by
  have f1:Ao R1 kv.1=some kv.2:=S1 hn jq;obtain⟨c,hc⟩:=zbe.mp hp;have i1:=VJ f1;have i2:=VJ hc;have jv:=FR (some kv.2) (some c);rw[hc];simp_arith[i1,i2,jv];try rfl⟩)]
 rw[QQ];have hd:=rN (C:=Cq R1 R2) ((Dn R2 R1).nodup hn) (by
  have:=(Dn R2 R1).length_le;rw[zv,zv] at this;omega)
 simp_arith[hd];exact⟨_,rfl,rfl⟩
noncomputable def J7:=z3 DU
theorem MW:FT "sums_at_tops" 6 3 J7:=(zu DU).1
theorem MX:HF J7:=(zu DU).2
def Xz (F:List D->M OT):Prop:=∀(m:Nat) (L:List Int) (C:CA) (s:Int),m<=20->L.Perm (BJ m)->s∈L->(∀p c,Ao C p=some c->p.1∈L/\p.2∈L)->∃(R:RA) (T:List Co),F [.lst (L.map D.int),Sy C,.int s]=.ok (.lst ((T.map cst).map .sh))/\Pz L C s L.length R/\fQ m L C s R L.reverse T
theorem Pa:∃F,FT "swept" 3 3 F/\Xz F:=by
 refine⟨_,λ T=>Au (k:=2) T.lU FL _ (λ f B1 A outer s H E hr=>(A2 (Av 3 FL.nd rfl (zam rfl) (Aj (Ab A7.toXCall (JD T) (-hr) rfl (A1 (!0) (A1 (!1) (A1 (!2) A6))) rfl))) (A2 (BE 4 FL.nd rfl (Or.inr rfl) (Vw Ct (CU rfl T.EF (!0)))) (A2 (BE 5 FL.nd rfl (zam rfl) (G6 Cc)) (A2 (BM A7.toXCall.own rfl (qM rfl T.Wa (!0)) (Az 6 FL.nd rfl (Or.inr rfl)) (A2 (cJ (NB:=["high","told","costs","lower"]) 7 [none,some 4,some 1,some 6] FL.nd rfl (zam rfl) rfl (AR (!5)) rfl rfl (Bw 0 (by decide) rfl rfl rfl) (λ _ _ _ _=>E9) (λ _ _ _ _=>(Aj (Cu (Ab (BN rfl).toXCall (FQ T) (-hr) rfl (A1 (A8 (!hr) (!1) (!0)) (A1 (Ol (!hr) (!2) (AF (A1 (!0) (A1 (!3) A6)))) A6)) rfl))))) (A2 (O2 4 (pv 4) (Aj (Ex (Ab A7.toXCall (Li T) (-hr) rfl (A1 (Aj (N9 (Fe (A1 (Ol (!hr) (!3) (!6)) A6)) (!7))) A6) rfl))) (!6)) (A4 (Fx 5 (pv 5) (!6)))))) (A4 (CY 4 (pv 4)))))))),?_⟩;intro m L C s hm hL hs hC;have hn:=Ge hL;have hlen:=KW hL;obtain⟨R,hF,hR⟩:=JE m L C s hm hL hs hC;rfl';refine (λ h:∃t,_/\∃T:List Co,t=.lst ((T.map cst).map .sh)/\fQ m L C s R L.reverse T=>by
  obtain⟨t,h1,T,rfl,h2⟩:=h;exact⟨R,T,h1,hR,h2⟩) (IT ?_)
 have mf:((L.map D.int).length:Int)=(m:Int):=by rw[zv,hlen]
 have aZ:=Og (d:=.AN) (n:=m) (by omega);have ci:za7 m D.AN=(za7 m (none:Co)).map cst:=by rw[List.map_replicate];rfl
 rw[ci] at aZ;apply wp_step
 ·simp_arith[hF];rfl
 try simp only[za5,za1]
 apply wp_step
 ·simp_arith[mf,aZ];rfl
 try simp only[za5,za1]
 apply wp_step
 ·rfl
 try simp only[za5,za1]
 refine BO (I:=λ ρ=>∃(T:List Co) (s5 s6 s7:Option Cl),ρ=[‹.lst (L.map D.int)›,‹Sy C›,‹.int s›,‹YF R›,some (.own (T.map cst)),s5,s6,s7]/\fQ m L C s R L.reverse T) ?_ ?_
 ·have gn:(L.map D.int).reverse=L.reverse.map D.int:=by rw[List.map_reverse]
  simp_arith[gn];refine BP (λ i ρ=>i<=L.reverse.length/\∃(T:List Co) (s6 s7:Option Cl),ρ=[‹.lst (L.map D.int)›,‹Sy C›,‹.int s›,‹YF R›,some (.own (T.map cst)),some (.own ((L.reverse.take i).map D.int)),s6,s7]/\fQ m L C s R (L.reverse.take i) T) ⟨zb1 _,_,none,none,rfl,fQ.start⟩ ?_ ?_
  ·rintro i d ρ hd ⟨hi,T,s6,s7,rfl,hT⟩;obtain⟨y,hy,rfl⟩:=Bi hd;have af:=(za3.mp hy).1;have d9:=(B6 hL).mp (List.mem_reverse.mp (za9 hy));have et:L.reverse.take (i+1)=L.reverse.take i++[y]:=by rw[zbm,hy];rfl
   rw[zb7] at af;have ww:L[L.length-1-i]?=some y:=by rw[List.getElem?_reverse af] at hy;exact hy
   have zi:=OA hn ww;have qx:∀x∈L.reverse.take i,(0<=x/\x<m)/\BU L y<BU L x:=λ x hx=>by
    have wx:=List.mem_reverse.mp (zc0 hx);refine⟨(B6 hL).mp wx,?_⟩;rw[List.take_reverse,List.mem_reverse] at hx;have:=Xg hn hx;omega
   have qr:y∉L.reverse.take i:=λ hx=>by have:=(qx y hx).2;omega
   have cj:=hT.len;refine⟨_,rfl,?_⟩;have bo:((L.reverse.take i).map D.int).length<=1000:=by rw[zv,zbi,zb7];omega
   have t1:∀a b:Int,D.tup [.int a,.int b]=pD (a,b):=λ a b=>rfl;have g1:=eE R y;obtain⟨vs,aB⟩:∃vs:List Co,vs=(L.reverse.take i).map λ x=>Aq (atC T x) (Ao C (x,y)):=⟨_,rfl⟩;apply wp_step
   ·simp_arith[if_pos bo];rw[BQ (λ x=>cst (Aq (atC T x) (Ao C (x,y)))) (λ x hx=>⟨_,rfl,rfl,by
     have l8:=(qx x hx).1;have x1:AE (.lst (T.map cst)) (.int x)=.ok (cst (atC T x)):=C8 l8.1 (by rw[cj];exact l8.2);have g2:=qZ C (x,y);have h1:=FR (atC T x) (Ao C (x,y));simp_arith[t1,x1,g2,h1]⟩)]
    have ev:(L.reverse.take i).map (λ x=>cst (Aq (atC T x) (Ao C (x,y))))=vs.map cst:=by rw[aB,zbf];rfl
    rw[ev];have dv:=eK vs;simp_arith[dv];rfl
   try simp only[za5,za1]
   have hpl:Md (.lst [cst (Ao R y)]) (.lst (vs.map cst))=.ok (.lst (((Ao R y::vs).map cst).map .sh)):=Nv (by rw[aB,zv,zv,zbi,zb7,zav];omega);have h3:=Lj (Ao R y::vs) (by rw[aB,z5,zv,zbi,zb7];omega);have ay:=KY (i:=4) (ρ:=[‹.lst (L.map D.int)›,‹Sy C›,‹.int s›,‹YF R›,some (.own (T.map cst)),some (.own ((L.reverse.take i).map D.int)),‹.int y›,some (.own (vs.map cst))]) (d:=cst (Ec (Ao R y::vs))) (p:=y) rfl d9.1 (by rw[zv,cj];exact d9.2);have aN:(T.map cst).set y.toNat (cst (Ec (Ao R y::vs)))=(T.set y.toNat (Ec (Ao R y::vs))).map cst:=by rw[List.map_set]
   rw[aN] at ay;apply wp_step
   ·simp_arith[g1,hpl,h3,ay];rfl
   try simp only[za5,za1]
   have wy:((L.reverse.take i).map D.int).length<1000:=by rw[zv,zbi,zb7];omega
   refine Bf (ρ':=[‹.lst (L.map D.int)›,‹Sy C›,‹.int s›,‹YF R›,some (.own ((T.set y.toNat (Ec (Ao R y::vs))).map cst)),some (.own ((L.reverse.take (i+1)).map D.int)),‹.int y›,some (.own (vs.map cst))]) (by simp_arith[if_pos wy,et,zao,zy,zcl]) ⟨by rw[zb7];exact af,_,_,_,rfl,?_⟩;rw[et,aB];exact hT.step hR.sd d9.1 d9.2 qr qx
  ·rintro ρ ⟨_,T,s6,s7,rfl,hT⟩;rw[zv,zbh] at hT;exact⟨T,_,s6,s7,rfl,hT⟩
 ·rintro ρ ⟨T,s5,s6,s7,rfl,hT⟩;exact⟨_,rfl,T,rfl,hT⟩
noncomputable def fI:=z3 Pa
theorem fJ:FT "swept" 3 3 fI:=(zu Pa).1
theorem fK:Xz fI:=(zu Pa).2
def Ll (F:List D->M OT):Prop:=∀(m s:Nat) (rs:List Road),s<m->m<=900->(∀r∈rs,ID m r)->∃cs:List Co,Right m s rs cs/\F [Ak m rs,.int s]=.ok (.lst ((cs.map cst).map .sh))
theorem Fm:∃F,FT "costs_from" 2 2 F/\Ll F:=by
 refine⟨_,λ T=>Au (k:=1) T.Sj BB _ (λ f B1 A outer s H E hr=>(A2 (BE 2 BB.nd rfl (zam rfl) (Vw Ct (A8 (!hr) (!0) A3))) (A2 (O2 2 (pv 2) (AF (A1 A3 (A1 A3 A6))) (!1)) (A2 (Av 3 BB.nd rfl (zam rfl) Cd) (A2 (K2 A7.toXCall.own (B7 (c:=true) (!3)) (A2 (Av 3 BB.nd rfl (zam rfl) Cd) (A4 (BM A7.toXCall.own rfl (AR (A8 (!hr) (!0) A3)) (Az 4 BB.nd rfl (zam rfl)) (A2 (Av 5 BB.nd rfl (zam rfl) (Aj (Ex (Ab A7.toXCall (Li T) (-hr) rfl (A1 (Fe (A1 (A8 (!hr) (!2) (A8 (!hr) (!4) A3)) (A1 (Aj (Ab A7.toXCall (FQ T) (-hr) rfl (A1 (A8 (!hr) (!2) (A8 (!hr) (!4) A3)) (A1 (Aj (Ab A7.toXCall (Ee T) (-hr) rfl (A1 (!4) A6) rfl)) A6)) rfl)) A6))) A6) rfl)))) (A4 (AS (Jp (Fv (c:=true) (!hr) (!5) (A8 (!hr) (!2) (A8 (!hr) (!4) A3)))) (A2 (O2 2 (pv 2) (!5) (A8 (!hr) (!4) A3)) (A4 (Av 3 BB.nd rfl (zam rfl) Cd))) Ap))))))) (A4 (CY 2 (pv 2)))))))),?_⟩;intro m s rs hs hm As;rfl';refine (λ h:∃t,_/\∃cs:List Co,Right m s rs cs/\t=.lst ((cs.map cst).map .sh)=>by
  obtain⟨t,h1,cs,h2,rfl⟩:=h;exact⟨cs,h2,h1⟩) (IT ?_)
 have n0:AE (Ak m rs) (.int 0)=.ok (.int m):=rfl;have n1:AE (Ak m rs) (.int 1)=.ok (.lst (rs.map BR)):=rfl;have aZ:=Og (d:=.AN) (n:=m) (by omega);have ci:za7 m D.AN=(za7 m (none:Co)).map cst:=by rw[List.map_replicate];rfl
 rw[ci] at aZ;apply wp_step
 ·simp_arith[n0,aZ];rfl
 try simp only[za5,za1]
 have ay:=KY (i:=2) (ρ:=[‹Ak m rs›,‹.int s›,some (.own ((za7 m (none:Co)).map cst)),none,none,none]) (d:=.tup [.int 0,.int 0]) (p:=(s:Int)) rfl (by omega) (by rw[zv,List.length_replicate];omega);have aN:((za7 m (none:Co)).map cst).set (s:Int).toNat (.tup [.int 0,.int 0])=((za7 m none).set s (some (0,0))).map cst:=by rw[zba,List.map_set];rfl
 rw[aN] at ay;apply wp_step
 ·simp_arith[ay];rfl
 try simp only[za5,za1]
 apply wp_step
 ·rfl
 try simp only[za5,za1]
 refine BO (I:=λ ρ=>∃(cs:List Co) (s3 s4 s5:Option Cl),ρ=[‹Ak m rs›,‹.int s›,some (.own (cs.map cst)),s3,s4,s5]/\Right m s rs cs) ?_ ?_
 ·refine Ke (lt:=zH) (λ z ρ=>∃(s4 s5:Option Cl),ρ=[‹Ak m rs›,‹.int s›,some (.own (z.1.map cst)),‹.bl z.2›,s4,s5]/\Good m s rs z.1/\(z.2=false->Right m s rs z.1)) (rC _) ⟨none,none,rfl,Vz rs hs,λ e=>by cases e⟩ ?_;rintro ⟨cs,b⟩ ρ ⟨s4,s5,rfl,g,hR⟩;cases b with
  |false=>exact .inl ⟨rfl,cs,_,s4,s5,rfl,hR rfl⟩
  |true =>
   refine .inr ⟨rfl,?_⟩;apply wp_step
   ·rfl
   try simp only[za5,za1]
   simp_arith[n1];refine BP (λ i ρ=>∃(aq:List Co) (ch:Bool) (s4 s5:Option Cl),ρ=[‹Ak m rs›,‹.int s›,some (.own (aq.map cst)),‹.bl ch›,s4,s5]/\Good m s rs aq/\(ch=true->Px ltN aq cs)/\(ch=false->aq=cs/\∀r∈rs.take i,EC (atC cs r.b) (Aq (atC cs r.a) (BS r))=atC cs r.b)) ⟨cs,false,s4,s5,rfl,g,(λ h=>by cases h),λ _=>⟨rfl,λ r hr=>by rw[List.take_zero] at hr;cases hr⟩⟩ ?_ ?_
   ·rintro i d ρ hd ⟨aq,ch,s4,s5,rfl,g1,h1,h2⟩;obtain⟨r,hq,rfl⟩:=Bi hd;have hr:=za9 hq;have ok:=As r hr;obtain⟨g2,_,g4,g5⟩:=Yt g1 hr As;have h8:r.b<aq.length:=by rw[g1.len];exact ok.b1
    have l9:r.a<aq.length:=by rw[g1.len];exact ok.a1
    have r0:AE (BR r) (.int 0)=.ok (.int r.a):=rfl;have r1:AE (BR r) (.int 1)=.ok (.int r.b):=rfl;have x0:AE (.lst (aq.map cst)) (.int r.a)=.ok (cst (atC aq r.a)):=C8 ok.a0 l9;have x1:AE (.lst (aq.map cst)) (.int r.b)=.ok (cst (atC aq r.b)):=C8 ok.b0 h8;have qy:=Ef r;have jv:=FR (atC aq r.a) (BS r);have hle:P6 [.lst [cst (atC aq r.b),cst (Aq (atC aq r.a) (BS r))]]=.ok (.sh (cst (EC (atC aq r.b) (Aq (atC aq r.a) (BS r))))):=Lj [atC aq r.b,Aq (atC aq r.a) (BS r)] (by simp);have ac:=kM (EC (atC aq r.b) (Aq (atC aq r.a) (BS r))) (atC aq r.b);refine⟨_,rfl,?_⟩;apply wp_step
    ·simp_arith[r0,r1,x0,x1,qy,jv,hle];rfl
    try simp only[za5,za1]
    by_cases hc:EC (atC aq r.b) (Aq (atC aq r.a) (BS r))=atC aq r.b
    ·rw[decide_eq_true hc] at ac;refine Bf (ρ':=_) (by simp_arith[r1,x1,ac];rfl) ⟨aq,ch,_,_,rfl,g1,h1,λ hf=>?_⟩;obtain⟨e1,e2⟩:=h2 hf;subst e1;refine⟨rfl,λ r' bA=>?_⟩;rw[zbm,hq] at bA;rcases zab.mp bA with bA|bA
     ·exact e2 r' bA
     ·have:r'=r:=by simpa using bA
      rw[this];exact hc
    ·rw[decide_eq_false hc] at ac;have ay:=KY (i:=2) (ρ:=[‹Ak m rs›,‹.int s›,some (.own (aq.map cst)),‹.bl ch›,‹BR r›,‹cst (EC (atC aq r.b) (Aq (atC aq r.a) (BS r)))›]) (d:=cst (EC (atC aq r.b) (Aq (atC aq r.a) (BS r)))) (p:=r.b) rfl ok.b0 (by rw[zv];exact h8);have aN:(aq.map cst).set r.b.toNat (cst (EC (atC aq r.b) (Aq (atC aq r.a) (BS r))))=(Dl r aq).map cst:=by unfold Dl;rw[List.map_set]
     rw[aN] at ay;simp_arith[r1,x1,ac,if_true];apply wp_step
     ·simp_arith[r1,ay];rfl
     refine Bf (ρ':=_) rfl ⟨Dl r aq,true,_,_,rfl,g2,λ _=>?_,λ hf=>by cases hf⟩;cases ch with
     |false=>obtain⟨e1,_⟩:=h2 rfl;subst e1;exact g5 hc
     |true=>exact Px.trans ltN Yr (g5 hc) (h1 rfl)
   ·rintro ρ' ⟨aq,ch,s4,s5,rfl,g1,h1,h2⟩;cases ch with
    |true=>exact⟨(aq,true),⟨rfl,.inr ⟨rfl,h1 rfl⟩⟩,s4,s5,rfl,g1,λ e=>by cases e⟩
    |false =>
     obtain⟨e1,e2⟩:=h2 rfl;subst e1;rw[zv,zbh] at e2;exact⟨(aq,false),⟨rfl,.inl rfl⟩,s4,s5,rfl,g1,λ _=>right_of g1 e2⟩
 ·rintro ρ' ⟨cs,s3,s4,s5,rfl,hR⟩;exact⟨_,rfl,cs,hR,rfl⟩
noncomputable def Mu:=z3 Fm
theorem Qa:FT "costs_from" 2 2 Mu:=(zu Fm).1
theorem J8:Ll Mu:=(zu Fm).2
def Pb (F:List D->M OT):Prop:=∀(m:Nat) (rs:List Road) (L:List Int) (A:LA) (K:List (Int×Int)) (s:Nat),Bc m rs L A K->s<m->∃T:List Co,F [AW m rs L A K,.int s]=.ok (.lst ((T.map cst).map .sh))/\T.length=m/\∀w:Int,0<=w->w<m->Bk rs w s (atC T w)
theorem HG:∃F,FT "costs_in" 5 2 F/\Pb F:=by
 refine⟨_,λ T=>Au (k:=4) T.VX U4 _ (λ f B1 A outer s H E hr=>(A4 (Ac (Ab A7.toXCall (fJ T) (-hr) rfl (A1 (Aj (FE (k:=1) [("Ladder",AU)] A7.toXCall (BV (by decide) (DM T) Cs) (-hr) (!0))) (A1 (Aj (Ab A7.toXCall (DF T) (-hr) rfl (A1 (!0) A6) rfl)) (A1 (!1) A6))) rfl)))),?_⟩;intro m rs L A K s ok hs;have hm:=ok.m2;rfl';have h1:=DH m rs L A K ok;have h2:=DQ m rs L A K;have cg:FD [("Ladder",AU)] "order" (AW m rs L A K)=.ok AU:=rfl;have jt:(s:Int)∈L:=(B6 ok.pm).mpr ⟨by omega,by omega⟩;have dg:∀p c,Ao (GO A K) p=some c->p.1∈L/\p.2∈L:=λ p c h=>by
  have hm:=Ov h;unfold GO at hm;obtain⟨q,hq,e⟩:=zae.mp hm;cases e;have:=ok.XE hq;exact⟨(B6 ok.pm).mpr this.2.1,(B6 ok.pm).mpr this.2.2⟩
 have hC:∀p c,Ao (PX (GO A K)) p=some c->p.1∈L/\p.2∈L:=λ p c h=>by
  rw[show p=(p.1,p.2) from rfl,L4] at h;have:=dg _ _ h;exact⟨this.2,this.1⟩
 obtain⟨R,T,hF,hR,hT⟩:=fK m L (PX (GO A K)) s (by omega) ok.pm jt hC;refine⟨T,B5 ?_,hT.len,λ w h0 h1=>?_⟩
 ·simp_arith[cg,h2,h1,hF];exact⟨_,rfl,rfl⟩
 ·have hU:=hR.zI (m:=m) hC;have aE:∀x:Int,0<=x->x<m->x∈L.reverse:=λ x a b=>List.mem_reverse.mpr ((B6 ok.pm).mpr ⟨a,b⟩);obtain⟨T',uh⟩:∃T':Int->Co,T'=λ x:Int=>if 0<=x/\x<(m:Int) then atC T x else none:=⟨_,rfl⟩
  have jw:∀x:Int,0<=x->x<m->T' x=atC T x:=λ x a b=>by rw[uh];exact if_pos ⟨a,b⟩
  have hS:xH (BU L) (λ x y=>Ao (PX (GO A K)) (x,y)) s (Ao R) T' m:=⟨λ x a b=>by rw[jw x a b];exact hT.top x (aE x a b),λ x y a b c d hr=>by rw[jw x a b,jw y c d];exact hT.cl x (aE x a b) y (aE y c d) hr,λ x c hx=>by
   have ar:0<=x/\x<m:=by
    refine zcp λ hn=>?_;rw[uh] at hx;dsimp only at hx;rw[if_neg hn] at hx;cases hx
   rw[jw x ar.1 ar.2] at hx;exact hT.sd x c ar.1 ar.2 hx⟩
  have wz:(λ x y=>Ao (PX (GO A K)) (x,y))=λ x y=>Ao (GO A K) (y,x):=by funext x y;exact L4 x y _
  rw[wz] at hU hS;obtain⟨cs,w4,_⟩:=J8 m w.toNat rs (by omega) (by omega) (λ r hr=>(ok.ok r hr).1);have aA:=w4.mO (λ r hr=>(ok.ok r hr).1) (w:=(s:Int)) (by omega) (by omega);have ew:((w.toNat:Nat):Int)=w:=by omega
  rw[ew] at aA;have q:=(YB (s:=(s:Int)) (w:=w) ok.Zc.turn ok.kept.turn ⟨by omega,by omega⟩ hU hS aA.turn).turn;rw[FI,jw w h0 h1] at q;exact q
noncomputable def R4:=z3 HG
theorem Ul:FT "costs_in" 5 2 R4:=(zu HG).1
theorem Um:Pb R4:=(zu HG).2
def HH (F:List D->M OT):Prop:=∀(m:Nat) (rs:List Road) (L:List Int) (A:LA) (K:List (Int×Int)) (s g:Nat) (x:Co),Bc m rs L A K->s<m->g<m->Bk rs s g x->F [AW m rs L A K,.int s,.int g]=.ok (.sh (cst x))
theorem DV:∃F,FT "cost_between" 7 3 F/\HH F:=by
 refine⟨_,λ T=>Au (k:=6) T.OW MQ _ (λ f B1 A outer s H E hr=>(A4 (Ac (Ab A7.toXCall (Li T) (-hr) rfl (A1 (Aj (TV rfl rfl T.EG (Aj (Ab A7.toXCall (MW T) (-hr) rfl (A1 (!0) (A1 (!1) (A1 (!2) A6))) rfl)))) A6) rfl)))),?_⟩;intro m rs L A K s g x ok hs hg hx;dsimp only;have hm:=ok.m2;obtain⟨R1,ju,qz⟩:=MV m rs L A K s ok hs;obtain⟨R2,qw,w5⟩:=P9 m rs L A K g ok hg;have zj:R1.length<=m:=by have:=qz.len;rw[KW ok.pm] at this;exact this
 have hS:=MX m rs L A K s g R1 R2 ok ju qw qz.nd (by omega);have aA:=eW ok (s:=(s:Int)) (g:=(g:Int)) ⟨by omega,by omega⟩ ⟨by omega,by omega⟩ qz w5 hx;have hl:(Cq R1 R2).length<=900:=by
  have:=(Dn R2 R1).length_le;rw[zv,zv] at this;omega
 obtain⟨S,w6⟩:∃S,S=Cq R1 R2:=⟨_,rfl⟩;rw[<-w6] at hS hl aA;rw[<-aA];rfl';refine B5 ?_;have hle:=Lj (S.map λ kv=>some kv.2) (by rw[zv];omega);rw[zbf] at hle;have q0:P6 [.lst (S.map λ kv=>cst (some kv.2))]=.ok (.sh (cst (Ec (S.map λ kv=>some kv.2)))):=hle;simp_arith[hS,lN,q0];rfl
noncomputable def J9:=z3 DV
theorem MY:FT "cost_between" 7 3 J9:=(zu DV).1
theorem MZ:HH J9:=(zu DV).2
def FU (F:List D->M OT):Prop:=∀(m:Nat) (rs:List Road) (L:List Int) (A:LA) (K:List (Int×Int)) (T:List Co) (p:Int),Bc m rs L A K->T.length=m->0<=p->p<m->F [AW m rs L A K,.lst (T.map cst),.int p]=.ok (.lst (((Mi A K T p).map pD).map .sh))
theorem D4:∃F,FT "arcs_by_prices" 4 3 F/\FU F:=by
 refine⟨_,λ T=>Au (k:=3) T.LY F2 _ (λ f B1 A outer s H E hr=>(A2 (K1 (NB:=["arc","place"]) 3 [none,some 2] F2.nd rfl (zam rfl) rfl (AR (Aj (FE (k:=1) [("Ladder",B0)] A7.toXCall (BV (by decide) (EM T) Cs) (-hr) (!0)))) rfl rfl (Bw 0 (by decide) rfl rfl rfl) (λ _ _ _ _=>Ea (JX (c:=true) (!hr) (A8 (!hr) (!0) A3) (!1))) (λ _ _ _ _=>(!0))) (A4 (Ac (CZ (NB:=["arc","prices","place","ladder"]) [none,some 1,some 2,some 0] rfl (AR (!3)) rfl rfl (Bw 0 (by decide) rfl rfl rfl) (λ _ _ _ _=>Ea (JX (c:=true) (!hr) (Aj (Cu (Ab (BN rfl).toXCall (FQ T) (-hr) rfl (A1 (Aj (IA (k:=3) [("Ladder",AZ)] (BN rfl).toXCall (BV (by decide) (EJ T) Cs) (-hr) (!3) (A1 (!2) (A1 (A8 (!hr) (!0) A3) A6)) rfl)) (A1 (A8 (!hr) (!1) (A8 (!hr) (!0) A3)) A6)) rfl))) (A8 (!hr) (!1) (!2)))) (λ _ _ _ _=>(!0))))))),?_⟩;intro m rs L A K T p ok hT h0 h1;rfl';refine B5 ?_;have hs:FD [("Ladder",B0)] "kept" (AW m rs L A K)=.ok B0:=rfl;have a5:FD [("Ladder",AZ)] "cost" (AW m rs L A K)=.ok AZ:=rfl;have hk:=EN m rs L A K;have l6:=ok.kl;have bo:(K.map pD).length<=1000:=by rw[zv];omega
 refine wp_step (ρ':=[‹AW m rs L A K›,‹.lst (T.map cst)›,‹.int p›,‹.lst ((K.filter λ q=>decide (q.1=p)).map pD)›]) (by
  simp_arith[hs,hk,if_pos bo];rw[BA (λ q:Int×Int=>decide (q.1=p)) pD (λ q hq=>⟨_,rfl,by
   have p0:AE (pD q) (.int 0)=.ok (.int q.1):=rfl;simp_arith[p0];try rfl,λ _=>by simp_arith[]⟩)]
  try rfl) ?_
 have am:((K.filter λ q=>decide (q.1=p)).map pD).length<=1000:=by
  have:=zcm (λ q:Int×Int=>decide (q.1=p)) K;rw[zv];omega
 have x2:AE (.lst (T.map cst)) (.int p)=.ok (cst (atC T p)):=C8 h0 (by omega);simp_arith[if_pos am];rw[BA (YQ A T p) pD (λ q hq=>⟨_,rfl,by
  obtain⟨q1,q2⟩:=zal.mp hq;have e:q.1=p:=by simpa using q2
  have dg:=ok.XE q1;obtain⟨c,hc,_⟩:=(ok.km q).mp q1;obtain⟨qa,qb⟩:=q;dsimp only at e dg;subst e;have p1:AE (pD (qa,qb)) (.int 1)=.ok (.int qb):=rfl;have h2:=EK m rs L A K qa qb c ok.vT hc;have x1:AE (.lst (T.map cst)) (.int qb)=.ok (cst (atC T qb)):=C8 dg.2.2.1 (by omega);have jv:=FR (some c) (atC T qb);have cr:=KS (Aq (some c) (atC T qb)) (atC T qa);have eb:YQ A T qa (qa,qb)=decide (Aq (some c) (atC T qb)=atC T qa):=by unfold YQ;rw[hc]
  rw[eb];simp_arith[a5,p1,h2,x1,x2,jv,cr];try rfl,λ _=>by simp_arith[]⟩)]
 exact⟨_,rfl,rfl⟩
noncomputable def GC:=z3 D4
theorem Lm:FT "arcs_by_prices" 4 3 GC:=(zu D4).1
theorem Ln:FU GC:=(zu D4).2
def Lo (F:List D->M OT):Prop:=∀(m:Nat) (rs:List Road) (p c:Int×Int),rs.length<=900->(∃r∈rs,r.a=p.1/\r.b=p.2/\BS r=some c)->F [Ak m rs,pD p,cst (some c)]=.ok (.sh (.int (OE rs p c:Nat)))
theorem Fn:∃F,FT "road_under" 2 3 F/\Lo F:=by
 refine⟨_,λ T=>Au (k:=1) T.Sk IX _ (λ f B1 A outer s H E hr=>(A2 (K1 (NB:=["number","road","arc","cost"]) 3 [none,none,some 1,some 2] IX.nd rfl (zam rfl) rfl (N2 rfl T.F6 (A8 (!hr) (!0) A3)) rfl rfl (Na (n:=2) rfl (CJ 0 (by decide) rfl rfl rfl (CJ 1 (by decide) rfl rfl rfl Kd))) (λ _ _ _ _=>Ea (DW.dt (GZ (JX (c:=true) (!hr) (AF (A1 (A8 (!hr) (!1) A3) (A1 (A8 (!hr) (!1) A3) A6))) (!2)) (G3 (JX (c:=true) (!hr) (Aj (Cu (Ab (BN rfl).toXCall (Ee T) (-hr) rfl (A1 (!1) A6) rfl))) (!3)))))) (λ _ _ _ _=>(!0))) (A4 (Ac (AA (A8 (!hr) (!3) A3)))))),?_⟩;intro m rs p c hl hr;rfl';refine B5 ?_;obtain⟨r,t,hq,_⟩:=Xq hr;have n1:AE (Ak m rs) (.int 1)=.ok (.lst (rs.map BR)):=rfl;have am:((zau rs.length).map λ i:Nat=>D.tup [.int (i:Int),BR (rs.getD i ⟨0,0,none,0⟩)]).length<=1000:=by rw[zv,zc5];omega
 refine wp_step (ρ':=[‹Ak m rs›,‹pD p›,‹cst (some c)›,‹.lst (((zau rs.length).filter (eX rs p c)).map λ i:Nat=>D.int (i:Int))›]) (by
  simp_arith[n1,YM,if_pos am];rw[BA (eX rs p c) (λ i:Nat=>D.int (i:Int)) (λ i hi=>⟨_,rfl,by
   have w9:=zbo.mp hi;obtain⟨r,hr⟩:∃r,rs[i]?=some r:=⟨_,z4 w9⟩;have eg:rs.getD i ⟨0,0,none,0⟩=r:=by rw[zar,hr];rfl
   have r0:AE (BR r) (.int 0)=.ok (.int r.a):=rfl;have r1:AE (BR r) (.int 1)=.ok (.int r.b):=rfl;have t1:D.tup [.int r.a,.int r.b]=pD (r.a,r.b):=rfl;have cr:=rO (r.a,r.b) p;have qy:=Ef r;have hd2:=KS (BS r) (some c);have eb:eX rs p c i=(decide ((r.a,r.b)=p)&&decide (BS r=some c)):=by
    unfold eX;rw[hr];dsimp only;by_cases e1:(r.a,r.b)=p
    ·subst e1;simp
    ·have:¬ (r.a=p.1/\r.b=p.2/\BS r=some c):=λ h=>e1 (Prod.ext h.1 h.2.1);rw[decide_eq_false this,decide_eq_false e1];rfl
   rw[eb,eg];by_cases e1:(r.a,r.b)=p
   ·rw[decide_eq_true e1] at cr ⊢;simp_arith[r0,r1,t1,cr,qy,hd2,Bool.true_and];try rfl
   ·rw[decide_eq_false e1] at cr ⊢;simp_arith[r0,r1,t1,cr];try rfl,λ _=>by simp_arith[]⟩)]
  try rfl) ?_
 rw[hq];have hx:AE (.lst ((OE rs p c::t).map λ i:Nat=>D.int (i:Int))) (.int 0)=.ok (.int (OE rs p c:Nat)):=Gb (by decide) rfl;simp_arith[hx];rfl
noncomputable def Mv:=z3 Fn
theorem Qb:FT "road_under" 2 3 Mv:=(zu Fn).1
theorem Qc:Lo Mv:=(zu Fn).2
def F7 (F:List D->M OT):Prop:=∀(m:Nat) (rs:List Road) (L:List Int) (A:LA) (K:List (Int×Int)) (u w:Int),Bc m rs L A K->(Ao A (u,w)).isSome=true->(∀c,A9 A (u,w)=some c->c.2<=256)->F [AW m rs L A K,.int u,.int w]=.ok (.lst (((Cv rs L A (u,w)).map λ n:Nat=>D.int (n:Int)).map .sh))
theorem Cy:∃F:List D->M OT,(∀ {P w K mg base},Txt K mg->Hl P w K mg base "Ladder" "unpacked" 3 3 F)/\F7 F:=by
 refine⟨_,λ T=>KN (k:=2) T.Lf Br _ (λ f B1 A outer s H E hr=>(A2 (BE 3 Br.nd rfl (zam rfl) (G6 Cc)) (A2 (BE 4 Br.nd rfl (zam rfl) (G6 (C6 (IA (k:=2) [("Ladder",AI)] A7.toXCall (BV (by decide) (D8 T) Cs) (-hr) (!0) (A1 (!1) (A1 (!2) A6)) rfl) Cc))) (A2 (K2 A7.toXCall.own (Jp (B7 (c:=true) (!4))) (A2 (jE 5 Br.nd rfl (zam rfl) (qK (Bx 4 (pv 4)))) (A2 (Av 6 Br.nd rfl (zam rfl) (A8 (!hr) (A8 (!hr) (Di ["Ladder"] (Ba T.BZ By) (!0)) (!5)) A3)) (A4 (AS (De (c:=true) (!6)) (A4 (qE (Bx 3 (pv 3)) (Ab A7.toXCall (Qb T) (-hr) rfl (A1 (Di ["Ladder"] (Ba T.Bn By) (!0)) (A1 (!5) (A1 (A8 (!hr) (A8 (!hr) (Di ["Ladder"] (Ba T.BZ By) (!0)) (!5)) A3) A6))) rfl))) (A2 (Fx 4 (pv 4) (AF (A1 (!6) (A1 (A8 (!hr) (!5) A3) A6)))) (A4 (Fx 4 (pv 4) (AF (A1 (A8 (!hr) (!5) A3) (A1 (!6) A6))))))))))) (A4 (CY 3 (pv 3))))))),?_⟩;intro m rs L A K u w ok hf jx;rfl';refine B5 ?_;have hA:=ok.vT;obtain⟨z0,rb⟩:=zbe.mp hf;have ui:A9 A (u,w)=some z0.1:=by unfold A9;rw[rb];rfl
 have hk:=hA.rg _ (ED ui);have aR:=D9 m rs L A K u w hk.2.1.1 hk.2.1.2 hk.2.2.1 hk.2.2.2 hf;have av:FD [("Ladder",AI)] "checked_arc" (AW m rs L A K)=.ok AI:=rfl;have f1:ML ["Ladder"] "own_map" (AW m rs L A K)=.ok (Ak m rs):=rfl;have f2:ML ["Ladder"] "laid" (AW m rs L A K)=.ok (PV A):=rfl;have wE:=LU ok _ (c:=z0.1) (mid:=z0.2) rfl rb;have wP:(Cv rs L A (u,w)).length<=256:=by
  have:=wE.ln;have:=jx _ ui;omega
 refine wp_step (ρ':=[‹AW m rs L A K›,‹.int u›,‹.int w›,some (.own []),none,none,none]) (by simp_arith[];try rfl) ?_;refine wp_step (ρ':=[‹AW m rs L A K›,‹.int u›,‹.int w›,some (.own []),some (.own [pD (u,w)]),none,none]) (by simp_arith[av,aR];try rfl) ?_;refine BO (I:=λ ρ=>∃s4 s5 s6:Option Cl,ρ=[‹AW m rs L A K›,‹.int u›,‹.int w›,some (.own ((Cv rs L A (u,w)).map λ n:Nat=>D.int (n:Int))),s4,s5,s6]) ?_ ?_
 ·refine Ke (lt:=λ a b:Nat=>a<b) (λ n ρ=>∃(N:List Nat) (W:List (Int×Int)) (o5 o6:Option D),ρ=[‹AW m rs L A K›,‹.int u›,‹.int w›,some (.own (N.map λ n:Nat=>D.int (n:Int))),some (.own ((W.map pD).reverse)),vO o5,vO o6]/\mZ rs L A W=n/\(∀p∈W,(Ao A p).isSome=true)/\N++U1 rs L A W=Cv rs L A (u,w)) (Nat.lt_wfRel.wf.apply (mZ rs L A [(u,w)])) ⟨[],[(u,w)],none,none,rfl,rfl,(λ p hp=>by rw[z6.mp hp];exact hf),by unfold U1;simp⟩ ?_;rintro n ρ ⟨N,W,o5,o6,rfl,hn,hW,hE⟩;have hlen:=congrArg List.length hE;rw[za6] at hlen;have lh:=Sb ok hW;cases W with
  |nil =>
   left;refine⟨rfl,some (.own []),vO o5,vO o6,?_⟩;have:N=Cv rs L A (u,w):=by rw[<-hE];unfold U1;simp
   rw[this];rfl
  |cons p W =>
   have rc:Eb (.lst (((p::W).map pD).reverse))=.ok true:=by
    rw[Tp];simp
   obtain⟨z,hz⟩:=zbe.mp (hW p zw);obtain⟨c,mid⟩:=z;obtain⟨_,m2,m3⟩:=IF ok hz;have wS:=LU ok _ rfl hz;have gn:((p::W).map pD).reverse=(W.map pD).reverse++[pD p]:=by rw[zy,List.reverse_cons]
   have hi:=Ox hz;have l0:AE (VE (c,mid)) (.int 0)=.ok (cst (some c)):=rfl;have l1:AE (VE (c,mid)) (.int 1)=.ok (CN mid):=rfl;have p0:AE (pD p) (.int 0)=.ok (.int p.1):=rfl;have p1:AE (pD p) (.int 1)=.ok (.int p.2):=rfl;have uj:U1 rs L A (p::W)=Cv rs L A p++U1 rs L A W:=rfl;rw[uj,za6] at hlen;rw[uj] at hE;have wT:mZ rs L A (p::W)=2*(Cv rs L A p).length-1+mZ rs L A W:=rfl;rw[wT] at hn;have xa:=Sb ok λ q hq=>hW q (zx _ hq);right;constructor
   ·simp_arith[rc];try rfl
   rw[gn];have hp:=YN (ρ:=[‹AW m rs L A K›,‹.int u›,‹.int w›,some (.own (N.map λ n:Nat=>D.int (n:Int))),some (.own ((W.map pD).reverse++[pD p])),vO o5,vO o6]) (i:=4) (xs:=(W.map pD).reverse) (d:=pD p) rfl;apply wp_step
   ·simp_arith[hp];rfl
   try simp only[za5,za1]
   refine wp_step (ρ':=[‹AW m rs L A K›,‹.int u›,‹.int w›,some (.own (N.map λ n:Nat=>D.int (n:Int))),some (.own ((W.map pD).reverse)),‹pD p›,‹CN mid›]) (by simp_arith[f2,hi,l1];try rfl) ?_;cases mid with
   |none =>
    have a4:AV (CN none)=true:=rfl;have xb:=Qc m rs p c (by have:=ok.rl;omega) (m2 rfl);rw[QR hz] at hE hlen hn;have ba:((N.map λ n:Nat=>D.int (n:Int)).map OT.sh).length<1000:=by rw[zv,zv];omega
    have ea:(N.map λ n:Nat=>D.int (n:Int)).map OT.sh++[OT.sh (.int (OE rs p c:Nat))]=((N++[OE rs p c]).map λ n:Nat=>D.int (n:Int)).map OT.sh:=by rw[zao,zao];rfl
    refine Bf (ρ':=[‹AW m rs L A K›,‹.int u›,‹.int w›,some (.own ((N++[OE rs p c]).map λ n:Nat=>D.int (n:Int))),some (.own ((W.map pD).reverse)),vO (some (pD p)),vO (some (CN none))]) (by
     simp_arith[a4,f1,f2,hi,l0,xb,if_true,if_pos ba,ea];rfl) ⟨mZ rs L A W,?_,_,W,_,_,rfl,rfl,λ q hq=>hW q (zx _ hq),by rw[zb5];exact hE⟩
    rw[zav] at hn;omega
   |some v =>
    obtain⟨_,_,a,b,ma,mb,g1,g2,_⟩:=m3 v rfl;have a4:AV (CN (some v))=false:=rfl;have lv:CN (some v)=.int v:=rfl;have jy:=U0 ok hz;have u1:=(LU ok _ rfl g1).ne;have u2:=(LU ok _ rfl g2).ne;have ba:((W.map pD).reverse).length<1000:=by rw[zb7,zv];omega
    have gp:((W.map pD).reverse++[pD (v,p.2)]).length<1000:=by
     rw[za6,zb7,zv,zav];have:=wS.ne;omega
    have xc:(((p.1,v)::(v,p.2)::W).map pD).reverse=(W.map pD).reverse++[pD (v,p.2)]++[pD (p.1,v)]:=by rw[zy,zy,List.reverse_cons,List.reverse_cons]
    have re:AV (.int v)=false:=rfl;simp_arith[lv,re,zag,if_false];apply wp_step
    ·simp_arith[p1,if_pos ba];rfl
    try simp only[za5,za1]
    have t1:D.tup [.int v,.int p.2]=pD (v,p.2):=rfl;refine Bf (ρ':=[‹AW m rs L A K›,‹.int u›,‹.int w›,some (.own (N.map λ n:Nat=>D.int (n:Int))),some (.own ((((p.1,v)::(v,p.2)::W).map pD).reverse)),vO (some (pD p)),vO (some (.int v))]) (by
     rw[xc];simp_arith[p0,t1,if_pos gp];try rfl) ⟨mZ rs L A ((p.1,v)::(v,p.2)::W),?_,N,_,_,_,rfl,rfl,λ q hq=>?_,?_⟩
    ·rw[jy,za6] at hn;show 2*(Cv rs L A (p.1,v)).length-1+(2*(Cv rs L A (v,p.2)).length-1+mZ rs L A W)<n;omega
    ·rcases z8.mp hq with rfl|hq
     ·rw[g1];rfl
     ·rcases z8.mp hq with rfl|hq
      ·rw[g2];rfl
      ·exact hW q (zx _ hq)
    ·rw[jy] at hE;show N++(Cv rs L A (p.1,v)++(Cv rs L A (v,p.2)++U1 rs L A W))=_;rw[<-zb5 (Cv rs L A (p.1,v))];exact hE
 ·rintro ρ ⟨s4,s5,s6,rfl⟩;exact⟨_,rfl,rfl⟩
noncomputable def BI:=z3 Cy
theorem JF:Txt K mg->Hl P w K mg base "Ladder" "unpacked" 3 3 BI:=(zu Cy).1
theorem JG:F7 BI:=(zu Cy).2
def GD (F:List D->M OT):Prop:=∀(m:Nat) (rs:List Road) (L:List Int) (A:LA) (K:List (Int×Int)) (T:List Co) (s g:Nat) (c:Int×Int),Bc m rs L A K->T.length=m->(∀w:Int,0<=w->w<m->Bk rs w g (atC T w))->s<m->g<m->atC T s=some c->∃N:List Nat,F [AW m rs L A K,.lst (T.map cst),.int s,.int g]=.ok (.lst ((N.map λ n:Nat=>D.int (n:Int)).map .sh))/\NA rs s N g c.1/\(N.length:Int)=c.2
theorem Dr:∃F,FT "way_by_prices" 5 4 F/\GD F:=by
 refine⟨_,λ T=>Au (k:=4) T.MS BH _ (λ f B1 A outer s H E hr=>(A2 (BE 4 BH.nd rfl (zam rfl) (G6 Cc)) (A2 (Av 5 BH.nd rfl (zam rfl) (!2)) (A2 (K2 A7.toXCall.own (Fv (c:=true) (!hr) (!5) (!3)) (A2 (Av 6 BH.nd rfl (zam rfl) (A8 (!hr) (Aj (Ab A7.toXCall (Lm T) (-hr) rfl (A1 (!0) (A1 (!1) (A1 (!5) A6))) rfl)) A3)) (A2 (Vs (Bx 4 (pv 4)) (by exact (IA (k:=3) [("Ladder",BI)] A7.toXCall (BV (by decide) (JF T) Cs) (-hr) (!0) (A1 (A8 (!hr) (!6) A3) (A1 (A8 (!hr) (!6) A3) A6)) rfl))) (A4 (Av 5 BH.nd rfl (zam rfl) (A8 (!hr) (!6) A3)))))) (A4 (CY 4 (pv 4))))))),?_⟩;intro m rs L A K T s g c ok cj hT hs hg hc;rfl';refine (λ h:∃t,_/\∃N:List Nat,t=.lst ((N.map λ n:Nat=>D.int (n:Int)).map .sh)/\NA rs s N g c.1/\(N.length:Int)=c.2=>by
  obtain⟨t,h1,N,rfl,h2⟩:=h;exact⟨N,h1,h2⟩) (IT ?_)
 have ck:∀r∈rs,ID m r:=λ r hr=>(ok.ok r hr).1;have ae:=hT s (by omega) (by omega);rw[hc] at ae;have hm:=ok.m2;have xf:=Ht ok.ok ⟨by omega,by omega⟩ ae;have xg:FD [("Ladder",BI)] "unpacked" (AW m rs L A K)=.ok BI:=rfl;refine wp_step (ρ':=[‹AW m rs L A K›,‹.lst (T.map cst)›,‹.int s›,‹.int g›,some (.own []),none,none]) (by simp_arith[];try rfl) ?_;refine wp_step (ρ':=[‹AW m rs L A K›,‹.lst (T.map cst)›,‹.int s›,‹.int g›,some (.own []),‹.int s›,none]) (by simp_arith[];try rfl) ?_;refine BO (I:=λ ρ=>∃(N:List Nat) (s5 s6:Option Cl),ρ=[‹AW m rs L A K›,‹.lst (T.map cst)›,‹.int s›,‹.int g›,some (.own (N.map λ n:Nat=>D.int (n:Int))),s5,s6]/\NA rs s N g c.1/\(N.length:Int)=c.2) ?_ ?_
 ·refine Ke (lt:=λ a b:Nat=>a<b) (λ n ρ=>∃(N:List Nat) (p t:Int) (cp:Int×Int) (s6:Option Cl),ρ=[‹AW m rs L A K›,‹.lst (T.map cst)›,‹.int s›,‹.int g›,some (.own (N.map λ n:Nat=>D.int (n:Int))),‹.int p›,s6]/\(0<=p/\p<m)/\atC T p=some cp/\NA rs s N p t/\t+cp.1=c.1/\(N.length:Int)+cp.2=c.2/\cp.2.toNat=n) (Nat.lt_wfRel.wf.apply c.2.toNat) ⟨[],s,0,c,none,rfl,⟨by omega,by omega⟩,hc,.nil _,by omega,by simp,rfl⟩ ?_;rintro n ρ ⟨N,p,t,cp,s6,rfl,hp,jz,aR,h1,h2,h3⟩;have rf:=hT p hp.1 hp.2;rw[jz] at rf;have jx:=(rf.2 cp rfl).nn ck;by_cases e:p=g
  ·left;subst e;refine⟨by simp_arith[decide_true,Bool.not_true];try rfl,N,_,s6,rfl,?_⟩;have hz:=rf.1 _ (.nil _);simp only[BG] at hz;have e1:cp.1=0:=by omega
   have e2:cp.2=0:=by omega
   exact⟨by rw[<-h1,e1,Int.add_zero];exact aR,by omega⟩
  ·right;refine⟨by simp_arith[decide_eq_false e,zch];try rfl,?_⟩;obtain⟨q,r,hq⟩:=YR ok hT hp e jz;obtain⟨ca,cq,a1⟩:=rP ok jz hq;have uk:=Ln m rs L A K T p ok cj hp.1 hp.2;rw[hq] at uk;obtain⟨z,hz⟩:∃z,Ao A q=some z:=by
    have:=a1.c;unfold A9 at this;cases hf:Ao A q with
    |none=>rw[hf] at this;cases this
    |some z=>exact⟨z,rfl⟩
   have ez:z.1=ca:=by have:=a1.c;unfold A9 at this;rw[hz] at this;cases this;rfl
   have ul:=JG m rs L A K q.1 q.2 ok (by rw[hz];rfl) (λ c hc=>by
    obtain⟨c',e1,e2⟩:=lR ok hq;have e3:some c=some c':=hc.symm.trans e1;cases e3;have:=Ht ok.ok (by rw[a1.a];exact hp) e2;omega)
   have j0:=LU ok _ (p:=q) (c:=z.1) (mid:=z.2) rfl hz;rw[ez] at j0;have p0:AE (pD q) (.int 0)=.ok (.int q.1):=rfl;have p1:AE (pD q) (.int 1)=.ok (.int q.2):=rfl;have hx:AE (.lst ((q::r).map pD)) (.int 0)=.ok (pD q):=Gb (by decide) rfl;have zk:=((hT q.2 a1.r.1 a1.r.2).2 cq a1.t).nn ck;have a5:=a1.s;have b7:=j0.ln;have ac:=j0.ne;obtain⟨U,hU⟩:∃U,U=Cv rs L A q:=⟨_,rfl⟩;have eU:Cv rs L A (q.1,q.2)=U:=by rw[hU]
   rw[eU] at ul;rw[<-hU] at b7 ac j0;have hb:(N.map λ n:Nat=>D.int (n:Int)).length+(U.map λ n:Nat=>D.int (n:Int)).length<=1000:=by
    rw[zv,zv];rw[a5] at h2 jx;dsimp only at h2 jx;omega
   refine wp_step (ρ':=[‹AW m rs L A K›,‹.lst (T.map cst)›,‹.int s›,‹.int g›,some (.own (N.map λ n:Nat=>D.int (n:Int))),‹.int p›,‹pD q›]) (by simp_arith[uk,hx];try rfl) ?_;refine wp_step (ρ':=[‹AW m rs L A K›,‹.lst (T.map cst)›,‹.int s›,‹.int g›,some (.own ((N++U).map λ n:Nat=>D.int (n:Int))),‹.int p›,‹pD q›]) (by
    rw[zao];simp_arith[p0,p1,xg,ul,if_pos hb];try rfl) ?_
   refine Bf (ρ':=[‹AW m rs L A K›,‹.lst (T.map cst)›,‹.int s›,‹.int g›,some (.own ((N++U).map λ n:Nat=>D.int (n:Int))),‹.int q.2›,‹pD q›]) (by simp_arith[p1];try rfl) ⟨cq.2.toNat,?_,N++U,q.2,t+ca.1,cq,_,rfl,a1.r,a1.t,?_,?_,?_,rfl⟩
   ·rw[a5] at h3;dsimp only at h3;omega
   ·have:=j0.ch;rw[a1.a] at this;exact aR.uT this
   ·rw[a5] at h1;dsimp only at h1;omega
   ·rw[a5] at h2;dsimp only at h2;rw[za6];omega
 ·rintro ρ ⟨N,s5,s6,rfl,h1,h2⟩;exact⟨_,rfl,N,rfl,h1,h2⟩
noncomputable def HI:=z3 Dr
theorem M2:FT "way_by_prices" 5 4 HI:=(zu Dr).1
theorem M3:GD HI:=(zu Dr).2
def nF (F:List D->M OT):Prop:=∀(m:Nat) (rs:List Road) (L:List Int) (A:LA) (K:List (Int×Int)) (s g:Nat),Bc m rs L A K->s<m->g<m->∃(T:List Co) (N:List Nat),T.length=m/\(∀w:Int,0<=w->w<m->Bk rs w g (atC T w))/\(∀c,atC T s=some c->NA rs s N g c.1/\(N.length:Int)=c.2)/\∃t,F [AW m rs L A K,.int s,.int g]=.ok t/\er t=Jx (atC T s) N T
theorem Wf:∃F,FT "ask" 8 3 F/\nF F:=by
 refine⟨_,λ T=>Au (k:=7) T.wF VW _ (λ f B1 A outer s H E hr=>(A2 (Av 3 VW.nd rfl (zam rfl) (Aj (Ab A7.toXCall (MY T) (-hr) rfl (A1 (!0) (A1 (!1) (A1 (!2) A6))) rfl))) (A2 (AS (De (c:=true) (!3)) (A4 (Ac (AA Ct))) Ap) (A2 (Av 4 VW.nd rfl (zam rfl) (Aj (Ab A7.toXCall (Ul T) (-hr) rfl (A1 (!0) (A1 (!2) A6)) rfl))) (A4 (Ac (RI (C6 (AA (!3)) (C6 (Ab A7.toXCall (M2 T) (-hr) rfl (A1 (!0) (A1 (!4) (A1 (!1) (A1 (!2) A6)))) rfl) (C6 (AA (!4)) Cc)))))))))),?_⟩;intro m rs L A K s g ok hs hg;obtain⟨T,g1,l1,t1⟩:=Um m rs L A K g ok hg;have mh:=MZ m rs L A K s g (atC T s) ok hs hg (t1 s (by omega) (by omega));rfl';cases hc:atC T s with
 |none =>
  rw[hc] at mh;refine⟨T,[],l1,t1,λ c h=>(by rw[hc] at h;cases h),(λ h:∃t,_/\er t=Jx (atC T s) [] T=>h) (IT ?_)⟩;refine wp_step (ρ':=[‹AW m rs L A K›,‹.int s›,‹.int g›,‹cst none›,none]) (by simp_arith[mh];try rfl) ?_;have a4:AV (cst none)=true:=rfl;simp_arith[a4];rw[hc];rfl
 |some c =>
  rw[hc] at mh;obtain⟨N,hF,n1,n2⟩:=M3 m rs L A K T s g c ok l1 t1 hs hg hc;refine⟨T,N,l1,t1,λ c' h=>(by rw[hc] at h;cases h;exact⟨n1,n2⟩),(λ h:∃t,_/\er t=Jx (atC T s) N T=>h) (IT ?_)⟩;refine wp_step (ρ':=[‹AW m rs L A K›,‹.int s›,‹.int g›,‹cst (some c)›,none]) (by simp_arith[mh];try rfl) ?_;have a4:AV (cst (some c))=false:=rfl;apply wp_step
  ·simp_arith[a4];rfl
  refine wp_step (ρ':=[‹AW m rs L A K›,‹.int s›,‹.int g›,‹cst (some c)›,‹.lst (T.map cst)›]) (by simp_arith[g1];try rfl) ?_;simp_arith[hF];refine⟨_,rfl,?_⟩;rw[hc];unfold Jx DZ;simp only[er,UI,Oa]
noncomputable def wI:=z3 Wf
theorem rT:FT "ask" 8 3 wI:=(zu Wf).1
theorem rV:nF wI:=(zu Wf).2
def Ja (F:List D->M OT):Prop:=∀(A:LA) (p:Int×Int),F [PV A,pD p]=.ok (.sh (cst (A9 A p)))
theorem ER:∃F,FT "cost_so_far" 1 2 F/\Ja F:=by
 refine⟨_,λ T=>Au (k:=0) T.Q3 OH _ (λ f B1 A outer s H E hr=>(A2 (AS (K8 (c:=true) (!hr) (!1) (!0)) (A4 (Ac (AA Ct))) Ap) (A4 (Ac (AA (A8 (!hr) (A8 (!hr) (!0) (!1)) A3)))))),?_⟩;intro A p;rfl';refine B5 ?_;have hm:=S8 A p true;unfold A9;cases q:Ao A p with
 |none =>
  rw[q] at hm;simp_arith[hm,Eb];rfl
 |some v =>
  rw[q] at hm;have hi:=Ox q;have h0:AE (VE v) (.int 0)=.ok (cst (some v.1)):=rfl;apply wp_step
  ·simp_arith[hm,Eb];rfl
  simp_arith[hi,h0];rfl
noncomputable def Lp:=z3 ER
theorem HJ:FT "cost_so_far" 1 2 Lp:=(zu ER).1
theorem HK:Ja Lp:=(zu ER).2
def nG (F:OT->List D->M (OT×OT)):Prop:=∀(A:LA) (p:Int×Int) (c:Co) (mid:Option Int),A.length<1000->F (MN A) [pD p,cst c,CN mid]=.ok (MN (layA A p c mid),.sh .AN)
theorem Wg:∃F:OT->List D->M (OT×OT),(∀ {P w K mg base},Txt K mg->QC P w K mg base "lay" 1 4 F)/\nG F:=by
 refine⟨_,λ T=>Tg (k:=0) T.wG rS _ (λ f B1 A outer s H E hr=>(A4 (AS (Jp (DW.dt (GZ (HY (c:=true) (!2)) (G3 (DW.dt (Cp (K8 (c:=true) (!hr) (!1) (!0)) (C1 (dD (c:=true) (!hr) (!2) (A8 (!hr) (A8 (!hr) (!0) (!1)) A3))))))))) (A4 (N8 (!hr) (Bx 0 (pv 0)) (!1) (AF (A1 (!2) (A1 (!3) A6))))) Ap))),?_⟩;intro A p c mid hA;dsimp only;have e0:D6 ["laid","pair","cost","middle"] (MN A) [pD p,cst c,CN mid]=[some (.ow (.tree (some 0) (MN A))),‹pD p›,‹cst c›,‹CN mid›]:=rfl;rw[e0];refine VL ?_;have hm:=S8 A p true;have um:∀c:Int×Int,D.tup [cst (some c),CN mid]=VE (c,mid):=λ c=>rfl;have hl:(A.map λ kv=>pD kv.1).length<1000:=by rw[zv];exact hA
 have h9:keyOk true (pD p)=true:=rfl;have af:∀v,(List.map (λ kv=>pD kv.1) (Dm A p v))=(List.map (λ kv=>pD kv.1) (Dm A p v)):=λ _=>rfl;cases c with
 |none =>
  refine Bf (ρ':=_) (by simp_arith[cst,AV];rfl) ⟨rfl,rfl⟩
 |some c =>
  have a4:AV (cst (some c))=false:=rfl;cases q:Ao A p with
  |none =>
   rw[q] at hm;have el:layA A p (some c) mid=Dm A p (c,mid):=by unfold layA;dsimp only;rw[q]
   rw[el];refine Bf (ρ':=[some (.ow (.tree (some 0) (MN (Dm A p (c,mid))))),‹pD p›,‹cst (some c)›,‹CN mid›]) (by
    simp_arith[a4,hm,Eb,Eo,um,if_pos (And.intro h9 hl),eF,h9,hl,and_self,if_true];rfl) ⟨rfl,rfl⟩
  |some z =>
   rw[q] at hm;have hi:=Ox q;have h0:AE (VE z) (.int 0)=.ok (cst (some z.1)):=rfl;have hx:=vU c z.1;by_cases hc:c.1<z.1.1\/(c.1=z.1.1/\c.2<z.1.2)
   ·have el:layA A p (some c) mid=Dm A p (c,mid):=by unfold layA;dsimp only;rw[q];dsimp only;rw[if_pos hc]
    rw[decide_eq_true hc] at hx;rw[el];refine Bf (ρ':=[some (.ow (.tree (some 0) (MN (Dm A p (c,mid))))),‹pD p›,‹cst (some c)›,‹CN mid›]) (by
     simp_arith[a4,hm,hi,h0,hx,Eb,Eo,um,if_pos (And.intro h9 hl),eF,h9,hl,and_self,if_true];rfl) ⟨rfl,rfl⟩
   ·have el:layA A p (some c) mid=A:=by unfold layA;dsimp only;rw[q];dsimp only;rw[if_neg hc]
    rw[decide_eq_false hc] at hx;rw[el];refine Bf (ρ':=_) (by simp_arith[a4,hm,hi,h0,hx,Eb];rfl) ⟨rfl,rfl⟩
noncomputable def wJ:=z3 Wg
theorem fL:Txt K mg->QC P w K mg base "lay" 1 4 wJ:=(zu Wg).1
theorem fM:nG wJ:=(zu Wg).2
def Pc (F:OT->List D->M (OT×OT)):Prop:=∀(m:Nat) (A:LA) (p:Int) (H:List Int),m<=20->GN m A->(∀x∈H,0<=x/\x<m)->F (MN A) [.int p,.lst (H.map D.int)]=.ok (MN (kY A p H),.sh .AN)
theorem HL:∃F:OT->List D->M (OT×OT),(∀ {P w K mg base},Txt K mg->QC P w K mg base "lay_over" 2 3 F)/\Pc F:=by
 refine⟨_,λ T=>Tg (k:=1) T.VY F3 _ (λ f B1 A outer s H E hr=>(A4 (BM A7.toXCall.own rfl (AR (!2)) (Az 3 F3.nd rfl (zam rfl)) (A4 (BM A7.toXCall.own rfl (AR (!2)) (Az 4 F3.nd rfl (zam rfl)) (A4 (AS (Fv (c:=true) (!hr) (!3) (!4)) (A2 (Av 5 F3.nd rfl (zam rfl) (Aj (Ex (Ab A7.toXCall (FQ T) (-hr) rfl (A1 (Aj (Ab A7.toXCall (HJ T) (-hr) rfl (A1 (!0) (A1 (AF (A1 (!3) (A1 (!1) A6))) A6)) rfl)) (A1 (Aj (Ab A7.toXCall (HJ T) (-hr) rfl (A1 (!0) (A1 (AF (A1 (!1) (A1 (!4) A6))) A6)) rfl)) A6)) rfl)))) (A4 (Od (cM A7.toXCall (fL T) (-hr) rfl (Bx 0 (pv 0)) (A1 (AF (A1 (!3) (A1 (!4) A6))) (A1 (!5) (A1 (!1) A6))) rfl)))) Ap))))))),?_⟩;intro m A p H hm hA hH;dsimp only;have e0:D6 ["laid","place","higher","u","w","cost"] (MN A) [.int p,.lst (H.map D.int)]=[some (.ow (.tree (some 0) (MN A))),‹.int p›,‹.lst (H.map D.int)›,none,none,none]:=rfl;rw[e0];refine VL ?_;simp_arith[];refine BP (λ i ρ=>∃s3 s4 s5:Option Cl,ρ=[some (.ow (.tree (some 0) (MN ((H.take i).foldl (YD p H) A)))),‹.int p›,‹.lst (H.map D.int)›,s3,s4,s5]) ⟨none,none,none,rfl⟩ ?_ ?_
 ·rintro i d ρ hd ⟨s3,s4,s5,rfl⟩;obtain⟨u,hu,rfl⟩:=Bi hd;have qo:=hH u (za9 hu);refine⟨_,rfl,?_⟩;obtain⟨B,hB⟩:∃B,B=(H.take i).foldl (YD p H) A:=⟨_,rfl⟩;have gq:GN m B:=by rw[hB];exact GN.lo hH hA λ x hx=>hH x (zc0 hx)
  rw[<-hB,EE hu,<-hB];simp_arith[];refine BP (λ j ρ=>∃s4 s5:Option Cl,ρ=[some (.ow (.tree (some 0) (MN ((H.take j).foldl (Ny p u) B)))),‹.int p›,‹.lst (H.map D.int)›,‹.int u›,s4,s5]) ⟨s4,s5,rfl⟩ ?_ ?_
  ·rintro j d ρ hd ⟨s4,s5,rfl⟩;obtain⟨w,hw,rfl⟩:=Bi hd;have zl:=hH w (za9 hw);refine⟨_,rfl,?_⟩;obtain⟨C,hC⟩:∃C,C=(H.take j).foldl (Ny p u) B:=⟨_,rfl⟩;have rh:GN m C:=by rw[hC];exact GN.ou qo gq λ x hx=>hH x (zc0 hx)
   rw[EE hw,<-hC];by_cases e:u=w
   ·have ev:Ny p u C w=C:=by unfold Ny;rw[if_pos e]
    rw[ev];refine Bf (ρ':=_) (by simp_arith[decide_eq_true e];rfl) ⟨_,_,rfl⟩
   ·have ev:Ny p u C w=layA C (u,w) (Aq (A9 C (u,p)) (A9 C (p,w))) (some p):=by unfold Ny;rw[if_neg e]
    rw[ev];have h1:=HK C (u,p);have h2:=HK C (p,w);have h3:=FR (A9 C (u,p)) (A9 C (p,w));have h4:=fM C (u,w) (Aq (A9 C (u,p)) (A9 C (p,w))) (some p) (rh.len hm);have t1:∀a b:Int,D.tup [.int a,.int b]=pD (a,b):=λ a b=>rfl;have t2:CN (some p)=.int p:=rfl;rw[t2] at h4;have h5:=LQ (ρ:=[some (.ow (.tree (some 0) (MN C))),‹.int p›,‹.lst (H.map D.int)›,‹.int u›,‹.int w›,‹cst (Aq (A9 C (u,p)) (A9 C (p,w)))›]) (i:=0) rfl rfl h4;simp_arith[decide_eq_false e,if_true];apply wp_step
    ·simp_arith[t1,h1,h2,h3];rfl
    refine Bf (ρ':=_) (by simp_arith[t1,h5];rfl) ⟨_,_,rfl⟩
  ·rintro ρ ⟨s4,s5,rfl⟩;rw[zv,zbh];exact⟨_,s4,s5,rfl⟩
 ·rintro ρ ⟨s3,s4,s5,rfl⟩;rw[zv,zbh];exact⟨rfl,trivial⟩
noncomputable def R5:=z3 HL
theorem Uo:Txt K mg->QC P w K mg base "lay_over" 2 3 R5:=(zu HL).1
theorem Up:Pc R5:=(zu HL).2
def Mw (F:List D->M OT):Prop:=∀(m:Nat) (rs:List Road) (L:List Int),m<=20->L.Perm (BJ m)->(∀r∈rs,ID m r/\r.a≠r.b)->F [Ak m rs,.lst (L.map D.int)]=.ok (MN (Bq rs L))
theorem Gk:∃F,FT "laid_arcs" 3 2 F/\Mw F:=by
 refine⟨_,λ T=>Au (k:=2) T.Ub D2 _ (λ f B1 A outer s H E hr=>(A2 (BE 2 D2.nd rfl (zam rfl) (Ti true)) (A2 (BM A7.toXCall.own rfl (AR (A8 (!hr) (!0) A3)) (Az 3 D2.nd rfl (zam rfl)) (A4 (Od (cM A7.toXCall (fL T) (-hr) rfl (Bx 2 (pv 2)) (A1 (AF (A1 (A8 (!hr) (!3) A3) (A1 (A8 (!hr) (!3) A3) A6))) (A1 (Aj (Ab A7.toXCall (Ee T) (-hr) rfl (A1 (!3) A6) rfl)) (A1 Ct A6))) rfl)))) (A2 (BM A7.toXCall.own rfl (N2 rfl T.F6 (!1)) (LF (n:=2) rfl (B3 (Az 4 D2.nd rfl (zam rfl)) (B3 (Az 5 D2.nd rfl (zam rfl)) I9))) (A4 (Od (cM A7.toXCall (Uo T) (-hr) rfl (Bx 2 (pv 2)) (A1 (!5) (A1 (Aj (Kc (!1) (JZ (C5 (!4) A3)) RB)) A6)) rfl)))) (A4 (CY 2 (pv 2))))))),?_⟩;intro m rs L hm hL As;rfl';refine B5 ?_;have n1:AE (Ak m rs) (.int 1)=.ok (.lst (rs.map BR)):=rfl;apply wp_step
 ·rfl
 try simp only[za5,za1]
 have gu:∀i,i<=rs.length->GN m ((rs.take i).foldl (λ A r=>layA A (r.a,r.b) (BS r) none) []):=λ i hi=>by
  have:=(S2 (m:=m) (rs:=rs.take i) λ r hr=>As r (zc0 hr)).1;exact this
 refine BO (I:=λ ρ=>∃s3 s4 s5:Option Cl,ρ=[‹Ak m rs›,‹.lst (L.map D.int)›,some (.ow (.tree none (MN (lay0 rs)))),s3,s4,s5]) ?_ ?_
 ·simp_arith[n1];refine BP (λ i ρ=>i<=rs.length/\∃s3 s4 s5:Option Cl,ρ=[‹Ak m rs›,‹.lst (L.map D.int)›,some (.ow (.tree none (MN ((rs.take i).foldl (λ A r=>layA A (r.a,r.b) (BS r) none) [])))),s3,s4,s5]) ⟨zb1 _,none,none,none,rfl⟩ ?_ ?_
  ·rintro i d ρ hd ⟨hi,s3,s4,s5,rfl⟩;obtain⟨r,hr,rfl⟩:=Bi hd;have af:=(za3.mp hr).1;refine⟨_,rfl,?_⟩;rw[EE hr];obtain⟨B,hB⟩:∃B,B=(rs.take i).foldl (λ A r=>layA A (r.a,r.b) (BS r) none) []:=⟨_,rfl⟩;have gq:GN m B:=by rw[hB];exact gu i hi
   rw[<-hB];have i0:AE (BR r) (.int 0)=.ok (.int r.a):=rfl;have i1:AE (BR r) (.int 1)=.ok (.int r.b):=rfl;have h1:=Ef r;have h2:=fM B (r.a,r.b) (BS r) none (gq.len hm);have t1:∀a b:Int,D.tup [.int a,.int b]=pD (a,b):=λ a b=>rfl;have t2:CN none=.AN:=rfl;rw[t2] at h2;have h5:=LQ (ρ:=[‹Ak m rs›,‹.lst (L.map D.int)›,some (.ow (.tree none (MN B))),‹BR r›,s4,s5]) (i:=2) rfl rfl h2;refine Bf (ρ':=_) (by simp_arith[i0,i1,h1,t1,h5];rfl) ⟨af,_,_,_,rfl⟩
  ·rintro ρ ⟨_,s3,s4,s5,rfl⟩;rw[zv,zbh];exact⟨s3,s4,s5,rfl⟩
 ·rintro ρ ⟨s3,s4,s5,rfl⟩;have mf:=S2 As;refine BO (I:=λ ρ=>∃s3 s4 s5:Option Cl,ρ=[‹Ak m rs›,‹.lst (L.map D.int)›,some (.ow (.tree none (MN (Bq rs L)))),s3,s4,s5]) ?_ ?_
  ·simp_arith[];refine BP (λ i ρ=>i<=L.length/\∃(G:LA) (s3 s4 s5:Option Cl),ρ=[‹Ak m rs›,‹.lst (L.map D.int)›,some (.ow (.tree none (MN G))),s3,s4,s5]/\GN m G/\Py G (L.drop i)=Py (lay0 rs) L) ⟨zb1 _,lay0 rs,s3,s4,s5,rfl,mf.1,rfl⟩ ?_ ?_
   ·rintro i d ρ hd ⟨hi,G,s3,s4,s5,rfl,hG,j1⟩;obtain⟨d',bT,rfl⟩:=Fy hd;obtain⟨p,hp,rfl⟩:=Bi bT;have af:=(za3.mp hp).1;rw[Nat.zero_add];refine⟨_,rfl,?_⟩;have bm:∀x∈L.drop (i+1),0<=x/\x<m:=λ x hx=>(B6 hL).mp (List.mem_of_mem_drop hx);have ed:L.drop i=p::L.drop (i+1):=by
     rw[zc8 af];rw[z4 af] at hp;rw[zad hp]
    rw[ed,Py] at j1;have h2:=Up m G p (L.drop (i+1)) hm hG bm;have sl:cO (some ((i:Int)+1)) none (.lst (L.map D.int))=.ok (.lst (((L.drop (i+1)).map D.int).map .sh)):=by rw[List.map_drop];exact Tq _ (i+1)
    have h5:=LQ (ρ:=[‹Ak m rs›,‹.lst (L.map D.int)›,some (.ow (.tree none (MN G))),s3,‹.int i›,‹.int p›]) (i:=2) rfl rfl h2;refine Bf (ρ':=_) (by simp_arith[sl,h5];rfl) ⟨af,_,_,_,_,rfl,GN.lo bm hG bm,j1⟩
   ·rintro ρ ⟨_,G,s3,s4,s5,rfl,hG,j1⟩;rw[CD,zv,zcf,Py] at j1;exact⟨s3,s4,s5,by rw[j1];rfl⟩
  ·rintro ρ ⟨s3,s4,s5,rfl⟩;exact⟨_,rfl,rfl⟩
noncomputable def Pd:=z3 Gk
theorem Sn:FT "laid_arcs" 3 2 Pd:=(zu Gk).1
theorem So:Mw Pd:=(zu Gk).2
def Pe (F:List D->M OT):Prop:=∀(m:Nat) (x:D) (L:List Int),m<=60->L.Perm (BJ m)->F [.tup [.int m,x],.lst (L.map .int)]=.ok (.sh (.bl true))
theorem HM:∃F,FT "is_order" 2 2 F/\Pe F:=by
 refine⟨_,λ T=>Au (k:=1) T.VZ U5 _ (λ f B1 A outer s H E hr=>(A2 (AS (DW.dt (Cp (Bo (B7 (c:=true) (CV (HZ _) rfl T.AK rfl T.EG (by decide +kernel) (!1)))) (C1 (Fv (c:=true) (!hr) (CU rfl T.EF (!1)) (A8 (!hr) (!0) A3))))) (A4 (Ac (AA Cd))) Ap) (A2 (AS (Bo (B7 (c:=true) (cC rfl rfl T.nE (Aj (CZ (NB:=["place","net"]) [none,some 0] rfl (AR (!1)) rfl rfl (Bw 0 (by decide) rfl rfl rfl) (λ _ _ _ _=>E9) (λ _ _ _ _=>(Aj (Cu (Ab (BN rfl).toXCall (AX T) (-hr) rfl (A1 (!0) (A1 (A8 (!hr) (!1) A3) A6)) rfl))))))))) (A4 (Ac (AA Cd))) Ap) (A4 (Ac (AA (WH (!hr) (Aj (Ym rfl rfl T.fG (!1))) (Aj (Kb rfl rfl T.EG rfl T.IG (A8 (!hr) (!0) A3)))))))))),?_⟩;intro m x L hm hL;rfl';have n0:AE (.tup [.int m,x]) (.int 0)=.ok (.int m):=rfl;refine B5 ?_;have hlen:=KW hL;have h1:decide (((L.map D.int).length:Int)=(m:Int))=true:=decide_eq_true (by rw[zv];omega);have hl:(L.map D.int).length<=1000:=by rw[zv];omega
 have hs:=Yl (ns:=L) (by omega);have h3:=RN (n:=m) (by omega);rw[Oo] at h3;have e:decide (Hj L=BJ m)=true:=decide_eq_true (YA.mpr hL);apply wp_step
 ·simp_arith[n0,h1];rfl
 apply wp_step
 ·simp_arith[if_pos hl];rw[BQ (λ _:Int=>D.bl true) (λ j hj=>⟨_,rfl,rfl,by
   have zm:=FG.mp (hL.mem_iff.mp hj);have:=AY j m (by omega) (by omega);simp_arith[n0,this]⟩)]
  simp_arith[wD];rfl
 simp_arith[n0,hs,h3,dS,e];rfl
noncomputable def R6:=z3 HM
theorem Uq:FT "is_order" 2 2 R6:=(zu HM).1
theorem Ur:Pe R6:=(zu HM).2
def GF (F:List D->M OT):Prop:=∀(m:Nat) (x:D) (L:List Int),m<=60->L.Perm (BJ m)->F [.tup [.int m,x],.lst (L.map .int)]=.ok (.lst ((L.map D.int).map .sh))
theorem Ds:∃F,FT "checked_order" 3 2 F/\GF F:=by
 refine⟨_,λ T=>Au (k:=2) T.MT LW _ (λ f B1 A outer s H E hr=>(A2 (AS (Bo (B7 (c:=true) (Aj (Ab A7.toXCall (Uq T) (-hr) rfl (A1 (!0) (A1 (!1) A6)) rfl)))) (A4 Vk) Ap) (A4 (Ac (N5 rfl T.EG (!1)))))),?_⟩;intro m x L hm hL;rfl';have h1:=Ur m x L hm hL;refine B5 ?_;apply wp_step
 ·simp_arith[h1];rfl
 simp_arith[];exact⟨_,rfl,rfl⟩
noncomputable def ES:=z3 Ds
theorem M4:FT "checked_order" 3 2 ES:=(zu Ds).1
theorem M5:GF ES:=(zu Ds).2
def Lq (F:List D->M OT):Prop:=∀(m:Nat) (rs:List Road),m<=20->(∀r∈rs,ID m r/\r.a≠r.b)->F [Ak m rs]=.ok (.Bu true ((C9 rs).map pD) ((Dy (C9 rs)).map .sh))
theorem Fo:∃F,FT "first_bows" 2 1 F/\Lq F:=by
 refine⟨_,λ T=>Au (k:=1) T.Si Fh _ (λ f B1 A outer s H E hr=>(A2 (BE 1 Fh.nd rfl (zam rfl) (Ti true)) (A2 (BM A7.toXCall.own rfl (AR (A8 (!hr) (!0) A3)) (Az 2 Fh.nd rfl (zam rfl)) (A4 (AS (HY (c:=true) (Aj (Ab A7.toXCall (Ee T) (-hr) rfl (A1 (!2) A6) rfl))) (A4 (N8 (!hr) (Bx 1 (pv 1)) (AF (A1 (A8 (!hr) (!2) A3) (A1 (A8 (!hr) (!2) A3) A6))) Cd)) Ap))) (A4 (CY 1 (pv 1)))))),?_⟩;intro m rs hm As;rfl';refine B5 ?_;apply wp_step
 ·rfl
 have n1:AE (Ak m rs) (.int 1)=.ok (.lst (rs.map BR)):=rfl;refine BO (I:=λ ρ=>∃s2,ρ=[‹Ak m rs›,some (.ow (.tree none (.Bu true ((C9 rs).map pD) ((Dy (C9 rs)).map .sh)))),s2]) ?_ ?_
 ·simp_arith[n1];refine BP (λ i ρ=>∃s2,ρ=[‹Ak m rs›,some (.ow (.tree none (.Bu true ((C9 (rs.take i)).map pD) ((Dy (C9 (rs.take i))).map .sh)))),s2]) ⟨none,rfl⟩ ?_ ?_
  ·rintro i d ρ hd ⟨s2,rfl⟩;rw[zaa] at hd;cases hq:rs[i]? with
   |none=>rw[hq] at hd;cases hd
   |some r =>
    rw[hq] at hd;cases hd;have hr:=za9 hq;have et:rs.take (i+1)=rs.take i++[r]:=by rw[zbm,hq];rfl
    have eb:C9 (rs.take (i+1))=(match r.l with|none=>C9 (rs.take i)|some _=>LM (C9 (rs.take i)) (r.a,r.b)):=by
     unfold C9;rw[et,List.foldl_append];rfl
    have xh:=TF (m:=m) (rs:=rs.take i) λ r' h'=>As r' (zc0 h');have hlen:=xh.len hm;have h1:=Ef r;refine⟨_,rfl,?_⟩;cases hl:r.l with
    |none =>
     have e1:BS r=none:=by unfold BS;rw[hl]
     rw[hl] at eb;rw[e1] at h1;simp_arith[h1,cst,AV];exact⟨_,by rw[eb]⟩
    |some l =>
     have e1:BS r=some (l,1):=by unfold BS;rw[hl]
     rw[hl] at eb;rw[e1] at h1;have i0:AE (BR r) (.int 0)=.ok (.int r.a):=rfl;have i1:AE (BR r) (.int 1)=.ok (.int r.b):=rfl;have kk:keyOk true (D.tup [.int r.a,.int r.b])=true/\((C9 (rs.take i)).map pD).length<1000:=⟨rfl,by rw[zv];exact hlen⟩;have pp:putD ((C9 (rs.take i)).map pD) (Dy (C9 (rs.take i))) (D.tup [.int r.a,.int r.b]) (.bl true)=_:=Xe (C9 (rs.take i)) (r.a,r.b);simp_arith[h1,cst,AV,zch,if_true,i0,i1,if_pos kk,pp];exact⟨_,by rw[eb]⟩
  ·rintro ρ ⟨s2,rfl⟩;rw[zv,zbh];exact⟨s2,rfl⟩
 ·rintro ρ ⟨s2,rfl⟩;exact⟨_,rfl,rfl⟩
noncomputable def Mx:=z3 Fo
theorem Qd:FT "first_bows" 2 1 Mx:=(zu Fo).1
theorem Qe:Lq Mx:=(zu Fo).2
def HN (F:List D->M OT):Prop:=∀(B:List (Int×Int)) (vs:List D) (L:List Int) (v:Int),L.length<=30->F [.Bu true (B.map pD) vs,.lst (L.map .int),.int v]=.ok (.lst (((Bb B L v).map pD).map .sh))
theorem DY:∃F,FT "missing_bows" 1 3 F/\HN F:=by
 refine⟨_,λ T=>Au (k:=0) T.OX BW _ (λ f B1 A outer s H E hr=>(A2 (K1 (NB:=["u","bows","place"]) 3 [none,some 0,some 2] BW.nd rfl (zam rfl) rfl (AR (!1)) rfl rfl (Bw 0 (by decide) rfl rfl rfl) (λ _ _ _ _=>Ea (Jt (c:=true) (!hr) (AF (A1 (!0) (A1 (!2) A6))) (!1))) (λ _ _ _ _=>(!0))) (A2 (K1 (NB:=["w","bows","place"]) 4 [none,some 0,some 2] BW.nd rfl (zam rfl) rfl (AR (!1)) rfl rfl (Bw 0 (by decide) rfl rfl rfl) (λ _ _ _ _=>Ea (Jt (c:=true) (!hr) (AF (A1 (!2) (A1 (!0) A6))) (!1))) (λ _ _ _ _=>(!0))) (A2 (BE 5 BW.nd rfl (zam rfl) (G6 Cc)) (A2 (BM A7.toXCall.own rfl (AR (!3)) (Az 6 BW.nd rfl (Or.inr rfl)) (A4 (Vs (Bx 5 (pv 5)) (by exact (CZ (NB:=["w","u","bows"]) [none,some 6,some 0] rfl (AR (!4)) rfl rfl (Bw 0 (by decide) rfl rfl rfl) (λ _ _ _ _=>Ea (DW.dt (GZ (Fv (c:=true) (!hr) (!1) (!0)) (G3 (K8 (c:=true) (!hr) (AF (A1 (!1) (A1 (!0) A6))) (!2)))))) (λ _ _ _ _=>(AF (A1 (!1) (A1 (!0) A6))))))))) (A4 (CY 5 (pv 5)))))))),?_⟩;intro B vs L v hl;rfl';refine B5 ?_;have hL:(L.map D.int).length<=1000:=by rw[zv];omega
 apply wp_step
 ·simp_arith[if_pos hL];rw[BA (λ u=>decide ((u,v)∈B)) D.int (λ u hu=>⟨_,rfl,by simp[vJ,vK,Nq,za5,za1,M.Aa,Ie,Ic,K6,Kq,Kr,Ks,Nf,Ju,LK,QE,Kg,Kh,Ii,WQ,Nb,Nc,Ki,jN,Ij,Ik,G8,RO,Dh,RP,Kj,Kk,Il,WT,Kf,Ew,toCl_list,toCl_listP,toCl_dct,Ng,Kt,Ku,Kv,Kw,Nh,Kx,Ky,Kz,sI,sH,Kl,WU,Km,WV,Kn,Ko,Nd,WW,xB,xC,jQ,jR,jS,jT,jU,jV,toCl_nil,K0,Gx,PQ,RQ,Im,Ni,Nj,KA,KC,Nk,Nl,Nm,Nn,Np,KD,KG,KH,KI,Io,Ip,Iq,Ir,Iv,KJ,Iw,Iy,WY,WZ,X0,X1,X2,Iz,ite_tt,ite_ff,Bool.not_true,zch,zbj,zak,FH,Ho,KU,jP,kN,jO,kR,kS,kT,Nw,S5,S6,S7,Eo,IE,Nz,RW,lF,Xk,Sa,RY],λ _=>by simp_arith[]⟩)];simp_arith[];rfl
 apply wp_step
 ·simp_arith[if_pos hL];rw[BA (λ w=>decide ((v,w)∈B)) D.int (λ u hu=>⟨_,rfl,by simp[vJ,vK,Nq,za5,za1,M.Aa,Ie,Ic,K6,Kq,Kr,Ks,Nf,Ju,LK,QE,Kg,Kh,Ii,WQ,Nb,Nc,Ki,jN,Ij,Ik,G8,RO,Dh,RP,Kj,Kk,Il,WT,Kf,Ew,toCl_list,toCl_listP,toCl_dct,Ng,Kt,Ku,Kv,Kw,Nh,Kx,Ky,Kz,sI,sH,Kl,WU,Km,WV,Kn,Ko,Nd,WW,xB,xC,jQ,jR,jS,jT,jU,jV,toCl_nil,K0,Gx,PQ,RQ,Im,Ni,Nj,KA,KC,Nk,Nl,Nm,Nn,Np,KD,KG,KH,KI,Io,Ip,Iq,Ir,Iv,KJ,Iw,Iy,WY,WZ,X0,X1,X2,Iz,ite_tt,ite_ff,Bool.not_true,zch,zbj,zak,FH,Ho,KU,jP,kN,jO,kR,kS,kT,Nw,S5,S6,S7,Eo,IE,Nz,RW,lF,Xk,Sa,RY],λ _=>by simp_arith[]⟩)];simp_arith[];rfl
 apply wp_step
 ·rfl
 try simp only[za5,za1]
 have uo:((L.filter λ w=>decide ((v,w)∈B)).map D.int).length<=1000:=by rw[zv];exact zbb (zcm _ _) (by omega)
 have hlen:=Yw B L v;have zn:L.length*L.length<=30*30:=Nat.mul_le_mul hl hl;generalize hA:L.filter (λ u=>decide ((u,v)∈B))=A;generalize hW:L.filter (λ w=>decide ((v,w)∈B))=W at uo ⊢;obtain⟨G,hG⟩:∃G:Int->List (Int×Int),G=λ u=>((W.filter λ w=>decide (u≠w) && !decide ((u,w)∈B)).map λ w=>(u,w)):=⟨_,rfl⟩;have dL:Bb B L v=A.flatMap G:=by unfold Bb;rw[hA,hW,hG]
 refine BO (I:=λ ρ=>∃s6,ρ=[‹.Bu true (B.map pD) vs›,‹.lst (L.map .int)›,‹.int v›,‹.lst (A.map .int)›,‹.lst (W.map .int)›,some (.own ((A.flatMap G).map pD)),s6]) ?_ ?_
 ·simp_arith[];refine BP (λ i ρ=>∃s6,ρ=[‹.Bu true (B.map pD) vs›,‹.lst (L.map .int)›,‹.int v›,‹.lst (A.map .int)›,‹.lst (W.map .int)›,some (.own (((A.take i).flatMap G).map pD)),s6]) ⟨none,rfl⟩ ?_ ?_
  ·rintro i d ρ hd ⟨s6,rfl⟩;obtain⟨u,hu,rfl⟩:=Bi hd;have et:A.take (i+1)=A.take i++[u]:=by rw[zbm,hu];rfl
   refine⟨_,rfl,?_⟩;have hb:(((A.take i).flatMap G).map pD).length+((G u).map pD).length<=1000:=by
    have h1:((A.take (i+1)).flatMap G).length<=(A.flatMap G).length:=by
     conv=>rhs;rw[<-zc6 (i+1) A,List.flatMap_append,za6]
     omega
    rw[et,List.flatMap_append,za6] at h1;rw[dL] at hlen;simp only[List.flatMap_cons,List.flatMap_nil,zb0] at h1;rw[zv,zv];omega
   have k0:(((W.filter λ w=>decide (u≠w) && !decide ((u,w)∈B)).map λ w=>(u,w)).map pD)=(W.filter λ w=>decide (u≠w) && !decide ((u,w)∈B)).map λ w=>D.tup [.int u,.int w]:=by rw[zbf];rfl
   refine Bf (ρ':=[‹.Bu true (B.map pD) vs›,‹.lst (L.map .int)›,‹.int v›,‹.lst (A.map .int)›,‹.lst (W.map .int)›,some (.own (((A.take (i+1)).flatMap G).map pD)),‹.int u›]) ?_ ⟨_,rfl⟩;simp_arith[if_pos uo];rw[BA (λ w=>decide (u≠w) && !decide ((u,w)∈B)) (λ w=>D.tup [.int u,.int w]) (λ w hw=>⟨_,rfl,by
    simp[vJ,vK,Nq,za5,za1,M.Aa,Ie,Ic,K6,Kq,Kr,Ks,Nf,Ju,LK,QE,Kg,Kh,Ii,WQ,Nb,Nc,Ki,jN,Ij,Ik,G8,RO,Dh,RP,Kj,Kk,Il,WT,Kf,Ew,toCl_list,toCl_listP,toCl_dct,Ng,Kt,Ku,Kv,Kw,Nh,Kx,Ky,Kz,sI,sH,Kl,WU,Km,WV,Kn,Ko,Nd,WW,xB,xC,jQ,jR,jS,jT,jU,jV,toCl_nil,K0,Gx,PQ,RQ,Im,Ni,Nj,KA,KC,Nk,Nl,Nm,Nn,Np,KD,KG,KH,KI,Io,Ip,Iq,Ir,Iv,KJ,Iw,Iy,WY,WZ,X0,X1,X2,Iz,ite_tt,ite_ff,Bool.not_true,zch,zbj,zak,FH,Ho,KU,jP,kN,jO,kR,kS,kT,Nw,S5,S6,S7,Eo,IE,Nz,RW,lF,Xk,Sa,RY,Y1,Ru,C3,Bm];by_cases h:u=w<;>simp[h],λ _=>by simp_arith[]⟩)]
   rw[<-k0];have xi:((W.filter λ w=>decide (u≠w) && !decide ((u,w)∈B)).map λ w=>(u,w))=G u:=by rw[hG]
   rw[xi];simp_arith[if_pos hb];rw[et,List.flatMap_append,List.flatMap_cons,List.flatMap_nil,zb0,<-zao]
  ·rintro ρ ⟨s6,rfl⟩;rw[zv,zbh];exact⟨s6,rfl⟩
 ·rintro ρ ⟨s6,rfl⟩;rw[dL];exact⟨_,rfl,rfl⟩
noncomputable def Jb:=z3 DY
theorem GG:FT "missing_bows" 1 3 Jb:=(zu DY).1
theorem GH:HN Jb:=(zu DY).2
def Pf (F:List D->M OT):Prop:=∀(B:List (Int×Int)) (vs:List D) (L:List Int),L≠[]->L.length<=30->F [.Bu true (B.map pD) vs,.lst (L.map .int)]=.ok (.sh (.int (Bz B L)))
theorem HP:∃F,FT "lightest" 2 2 F/\Pf F:=by
 refine⟨_,λ T=>Au (k:=1) T.W0 U6 _ (λ f B1 A outer s H E hr=>(A4 (Ac (AA (A8 (!hr) (jG rfl (!hr) rfl T.fF (Aj (CZ (NB:=["place","bows","left"]) [none,some 0,some 1] rfl (AR (!1)) rfl rfl (Bw 0 (by decide) rfl rfl rfl) (λ _ _ _ _=>E9) (λ _ _ _ _=>(AF (A1 (CU rfl T.EF (Aj (Cu (Ab (BN rfl).toXCall (GG T) (-hr) rfl (A1 (!1) (A1 (!2) (A1 (!0) A6))) rfl)))) (A1 (!0) A6))))))) A3))))),?_⟩;intro B vs L ac hl;rfl';refine B5 ?_;have hL:(L.map D.int).length<=1000:=by rw[zv];omega
 simp_arith[if_pos hL];rw[BQ (λ p=>D.tup ([((Bb B L p).length:Int),p].map D.int)) (λ p hp=>⟨_,rfl,rfl,by
  have h1:=GH B vs L p hl;simp_arith[h1,Vd,zv,zy,zcl]⟩)]
 simp_arith[WO];rw[QK];have hb:=Yx (λ p=>D.tup ([((Bb B L p).length:Int),p].map D.int)) (L.map λ p=>(p,[((Bb B L p).length:Int),p]));rw[zbf] at hb;have e2:((λ b:Int×List Int=>(D.tup ([((Bb B L b.1).length:Int),b.1].map D.int),b.2)) ∘ λ p=>(p,[((Bb B L p).length:Int),p]))=λ p=>(D.tup ([((Bb B L p).length:Int),p].map D.int),[((Bb B L p).length:Int),p]):=rfl;rw[e2] at hb;dsimp only;rw[hb];unfold Bz;cases q:Be (L.map λ p=>(p,[((Bb B L p).length:Int),p])) with
 |none=>exact (NU (λ z=>ac (List.map_eq_nil_iff.mp z)) q).elim
 |some k =>
  simp only[zb8,M.Aa];rfl
noncomputable def R7:=z3 HP
theorem Us:FT "lightest" 2 2 R7:=(zu HP).1
theorem Ut:Pf R7:=(zu HP).2
def Uu (F:List D->M OT):Prop:=∀(m:Nat) (rs:List Road),m<=20->(∀r∈rs,ID m r/\r.a≠r.b)->F [Ak m rs]=.ok (.lst (((Yz m (C9 rs) (BJ m)).map D.int).map .sh))
theorem M6:∃F,FT "ranked" 3 1 F/\Uu F:=by
 refine⟨_,λ T=>Au (k:=2) T.fD Ep _ (λ f B1 A outer s H E hr=>(A2 (BE 1 Ep.nd rfl (zam rfl) (Ab A7.toXCall (Qd T) (-hr) rfl (A1 (!0) A6) rfl)) (A2 (BE 2 Ep.nd rfl (zam rfl) (Kb rfl rfl T.EG rfl T.IG (A8 (!hr) (!0) A3))) (A2 (BE 3 Ep.nd rfl (zam rfl) (G6 Cc)) (A2 (K2 A7.toXCall.own (Jp (B7 (c:=true) (!2))) (A2 (Av 4 Ep.nd rfl (zam rfl) (Aj (Ex (Ab A7.toXCall (Us T) (-hr) rfl (A1 (!1) (A1 (!2) A6)) rfl)))) (A2 (BM A7.toXCall.own rfl (AR (Aj (Ex (Ab A7.toXCall (GG T) (-hr) rfl (A1 (!1) (A1 (!2) (A1 (!4) A6))) rfl)))) (Az 5 Ep.nd rfl (zam rfl)) (A4 (N8 (!hr) (Bx 1 (pv 1)) (!5) Cd))) (A2 (Yi (Bx 2 (pv 2)) (!4)) (A4 (Fx 3 (pv 3) (!4))))))) (A4 (CY 3 (pv 3)))))))),?_⟩;intro m rs hm As;rfl';refine B5 ?_;have h1:=Qe m rs hm As;have n0:AE (Ak m rs) (.int 0)=.ok (.int m):=rfl;have h2:=RN (n:=m) (by omega);rw[Oo] at h2;apply wp_step
 ·simp_arith[h1];rfl
 apply wp_step
 ·simp_arith[n0,h2];rfl
 apply wp_step
 ·rfl
 try simp only[za5,za1]
 refine BO (I:=λ ρ=>∃s1 s2 s4 s5,ρ=[‹Ak m rs›,s1,s2,some (.own ((Yz m (C9 rs) (BJ m)).map D.int)),s4,s5]) ?_ ?_
 ·refine Ke (lt:=λ a b:Nat=>a<b) (λ n ρ=>∃(B:List (Int×Int)) (L O:List Int) (s4 s5:Option Cl),ρ=[‹Ak m rs›,some (.ow (.tree none (.Bu true (B.map pD) ((Dy B).map .sh)))),some (.own (L.map D.int)),some (.own (O.map D.int)),s4,s5]/\L.length=n/\n+O.length=m/\Cj m B/\(∀p∈L,0<=p/\p<(m:Int))/\O++Yz n B L=Yz m (C9 rs) (BJ m)) (Nat.lt_wfRel.wf.apply m) ⟨C9 rs,BJ m,[],none,none,rfl,Dz m,by simp,TF As,λ p hp=>FG.mp hp,rfl⟩ ?_;rintro n ρ ⟨B,L,O,s4,s5,rfl,hn,hO,hB,hL,dh⟩;by_cases j2:L=[]
  ·subst j2;left;have:n=0:=by simpa using hn.symm
   subst this;rw[Yz,zb0] at dh;exact⟨rfl,⟨_,_,_,_,by rw[dh]⟩⟩
  ·right;have j3:L.length<=30:=by omega
   have q1:=Ut B (Dy B) L j2 j3;have q2:=GH B (Dy B) L (Bz B L) j3;obtain⟨aI,_⟩:=QM (B:=B) j2;have j4:0<L.length:=List.length_pos_of_mem aI;obtain⟨n',rfl⟩:∃n',n=n'+1:=⟨n-1,by omega⟩;rw[Yz,if_neg j2] at dh;constructor
   ·simp_arith[Tp];cases L with
    |nil=>exact (j2 rfl).elim
    |cons x r=>rfl
   apply wp_step
   ·simp_arith[q1,qI jX];rfl
   try simp only[za5,za1]
   have cn:K4 ((Bb B L (Bz B L)).map pD)=true:=Tn dP _;refine BO (I:=λ ρ=>∃s5,ρ=[‹Ak m rs›,some (.ow (.tree none (.Bu true ((Ci B (Bb B L (Bz B L))).map pD) ((Dy (Ci B (Bb B L (Bz B L)))).map .sh)))),some (.own (L.map D.int)),some (.own (O.map D.int)),‹.int (Bz B L)›,s5]) ?_ ?_
   ·simp_arith[q2,jW cn];refine BP (λ i ρ=>∃s5,ρ=[‹Ak m rs›,some (.ow (.tree none (.Bu true ((Ci B ((Bb B L (Bz B L)).take i)).map pD) ((Dy (Ci B ((Bb B L (Bz B L)).take i))).map .sh)))),some (.own (L.map D.int)),some (.own (O.map D.int)),‹.int (Bz B L)›,s5]) ⟨s5,rfl⟩ ?_ ?_
    ·rintro i d ρ hd ⟨s5,rfl⟩;obtain⟨p,hp,rfl⟩:=Bi hd;refine⟨_,rfl,?_⟩;have xj:Cj m (Ci B ((Bb B L (Bz B L)).take i)):=hB.Ci λ q hq=>by
      have:=QL (zc0 hq);exact⟨this.2.2,hL _ this.1,hL _ this.2.1⟩
     have kk:keyOk true (pD p)=true/\((Ci B ((Bb B L (Bz B L)).take i)).map pD).length<1000:=⟨rfl,by rw[zv];exact xj.len hm⟩;have et:(Bb B L (Bz B L)).take (i+1)=(Bb B L (Bz B L)).take i++[p]:=by rw[zbm,hp];rfl
     have ea:Ci B ((Bb B L (Bz B L)).take (i+1))=LM (Ci B ((Bb B L (Bz B L)).take i)) p:=by
      unfold Ci;rw[et,List.foldl_append];rfl
     simp_arith[if_pos kk,Xe];exact⟨_,by rw[ea]⟩
    ·rintro ρ ⟨s5,rfl⟩;rw[zv,zbh];exact⟨s5,rfl⟩
   ·rintro ρ ⟨s5,rfl⟩;have xk:(O.map D.int).length<1000:=by rw[zv];omega
    apply wp_step
    ·simp_arith[Ej,if_pos aI];rfl
    refine Bf (ρ':=[‹Ak m rs›,some (.ow (.tree none (.Bu true ((Ci B (Bb B L (Bz B L))).map pD) ((Dy (Ci B (Bb B L (Bz B L)))).map .sh)))),some (.own ((L.erase (Bz B L)).map D.int)),some (.own ((O++[Bz B L]).map D.int)),‹.int (Bz B L)›,s5]) ?_ ?_
    ·simp_arith[if_pos xk,zao,zy,zcl]
    ·have hlen:=List.length_erase_of_mem aI;refine⟨n',by omega,_,_,_,_,_,rfl,by omega,by rw[za6];simp;omega,hB.Ci λ q hq=>?_,λ p hp=>hL p (List.mem_of_mem_erase hp),?_⟩
     ·have:=QL hq;exact⟨this.2.2,hL _ this.1,hL _ this.2.1⟩
     ·rw[zb5];exact dh
 ·rintro ρ ⟨s1,s2,s4,s5,rfl⟩;exact⟨_,rfl,rfl⟩
noncomputable def XA:=z3 M6
theorem Z4:FT "ranked" 3 1 XA:=(zu M6).1
theorem Z5:Uu XA:=(zu M6).2
def F8 (F:List D->M OT):Prop:=∀(m:Nat) (rs:List Road),m<=20->(∀r∈rs,ID m r/\r.a≠r.b)->(∀L:List Int,L.Perm (BJ m)->F [Ak m rs,.lst (L.map .int)]=.ok (.lst ((L.map D.int).map .sh)))/\F [Ak m rs,.AN]=.ok (.lst (((Yz m (C9 rs) (BJ m)).map D.int).map .sh))
theorem Cz:∃F,FT "order_or_ranked" 4 2 F/\F8 F:=by
 refine⟨_,λ T=>Au (k:=3) T.Ld Jy _ (λ f B1 A outer s H E hr=>(A2 (AS (De (c:=true) (!1)) (A4 (Ac (Ab A7.toXCall (Z4 T) (-hr) rfl (A1 (!0) A6) rfl))) Ap) (A4 (Ac (Ab A7.toXCall (M4 T) (-hr) rfl (A1 (!0) (A1 (!1) A6)) rfl))))),?_⟩;intro m rs hm As;have h1:=Z5 m rs hm As;refine⟨λ L hL=>?_,?_⟩
 ·have h2:ES [Ak m rs,.lst (L.map .int)]=.ok (.lst ((L.map D.int).map .sh)):=M5 m (.lst (rs.map BR)) L (by omega) hL;rfl';refine B5 ?_;apply wp_step
  ·rfl
  simp_arith[h2];exact⟨_,rfl,rfl⟩
 ·rfl';refine B5 ?_;simp_arith[AV,h1];exact⟨_,rfl,rfl⟩
noncomputable def Dt:=z3 Cz
theorem JH:FT "order_or_ranked" 4 2 Dt:=(zu Cz).1
theorem ET:F8 Dt:=(zu Cz).2
def My (F:List D->M OT):Prop:=∀(m:Nat) (rs:List Road) (A:LA),m<=20->(∀r∈rs,ID m r)->GN m A->∃K:List (Int×Int),F [Ak m rs,PV A]=.ok (.lst ((K.map pD).map .sh))/\K.Nodup/\∀p,p∈K↔KP rs A p
theorem Gm:∃F,FT "kept_arcs" 3 2 F/\My F:=by
 refine⟨_,λ T=>Au (k:=2) T.Uc Ed _ (λ f B1 A outer s H E hr=>(A2 (BE 2 Ed.nd rfl (zam rfl) (G6 Cc)) (A2 (BM A7.toXCall.own rfl (Ia (c:=true) rfl T.IG (A8 (!hr) (!0) A3)) (Az 3 Ed.nd rfl (Or.inr rfl)) (A2 (Av 4 Ed.nd rfl (Or.inr rfl) (Aj (Ab A7.toXCall (Qa T) (-hr) rfl (A1 (!0) (A1 (!3) A6)) rfl))) (A4 (Vs (Bx 2 (pv 2)) (by exact (CZ (NB:=["w","u","laid","costs"]) [none,some 3,some 1,some 4] rfl (Ia (c:=true) rfl T.IG (A8 (!hr) (!0) A3)) rfl rfl (Bw 0 (by decide) rfl rfl rfl) (λ _ _ _ _=>Ea (DW.dt (GZ (Jt (c:=true) (!hr) (AF (A1 (!1) (A1 (!0) A6))) (!2)) (G3 (JX (c:=true) (!hr) (A8 (!hr) (A8 (!hr) (!2) (AF (A1 (!1) (A1 (!0) A6)))) A3) (A8 (!hr) (!3) (!0))))))) (λ _ _ _ _=>(AF (A1 (!1) (A1 (!0) A6)))))))))) (A4 (CY 2 (pv 2)))))),?_⟩;intro m rs A hm As hA;rfl';refine (λ h:∃t,_/\∃K:List (Int×Int),t=.lst ((K.map pD).map .sh)/\K.Nodup/\∀p,p∈K↔KP rs A p=>by
  obtain⟨t,h1,K,rfl,h2⟩:=h;exact⟨K,h1,h2⟩) (IT ?_)
 have n0:AE (Ak m rs) (.int 0)=.ok (.int m):=rfl;have hr:Vi (.int (m:Int))=.ok ((BJ m).map D.int):=by rw[NY (by omega),VM]
 have hl:((BJ m).map D.int).length<=1000:=by rw[zv,Dz];omega
 apply wp_step
 ·rfl
 try simp only[za5,za1]
 refine BO (I:=λ ρ=>∃(K:List (Int×Int)) (s3 s4:Option Cl),ρ=[‹Ak m rs›,‹PV A›,some (.own (K.map pD)),s3,s4]/\K.Nodup/\∀p,p∈K↔KP rs A p) ?_ ?_
 ·simp_arith[n0,hr];refine BP (λ i ρ=>i<=m/\∃(K:List (Int×Int)) (s3 s4:Option Cl),ρ=[‹Ak m rs›,‹PV A›,some (.own (K.map pD)),s3,s4]/\K.Nodup/\∀p,p∈K↔(p.1<i/\KP rs A p)) ⟨zb1 _,[],none,none,rfl,zbn,λ p=>⟨(λ h=>by cases h),λ h=>by
   obtain⟨c,hc,_⟩:=h.2;have:=(hA.rg p (ED hc)).2.1;omega⟩⟩ ?_ ?_
  ·rintro i d ρ hd ⟨hi,K,s3,s4,rfl,hn,hK⟩;obtain⟨u,hu,rfl⟩:=Bi hd;have af:i<m:=by have:=(za3.mp hu).1;rw[Dz] at this;exact this
   have eu:u=(i:Int):=by
    unfold BJ at hu;rw[zaa,zbx af] at hu;exact (zad hu).symm
   subst eu;obtain⟨cs,hR,hF⟩:=J8 m i rs af (by omega) As;refine⟨_,rfl,?_⟩;apply wp_step
   ·simp_arith[hF];rfl
   try simp only[za5,za1]
   obtain⟨W,hW⟩:∃W,W=(BJ m).filter λ w=>vV A cs i w:=⟨_,rfl⟩;have uq:∀w,w∈W↔KP rs A ((i:Int),w):=λ w=>by
    rw[hW,zal,FG];constructor
    ·rintro ⟨hw,h⟩;exact (eI hR As hw.1 hw.2).mp h
    ·intro h;obtain⟨c,hc,_⟩:=id h;have:=(hA.rg _ (ED hc)).2.2;exact⟨this,(eI hR As this.1 this.2).mpr h⟩
   have xl:W.Nodup:=by rw[hW];exact (Oq m).filter _
   have aw:(K++W.map λ w=>((i:Int),w)).Nodup:=by
    rw[zaj];refine⟨hn,List.pairwise_map.mpr (xl.imp fun {a b} jp e=>jp (by cases e;rfl)),λ x hx y hy e=>?_⟩;subst e;obtain⟨w,_,rfl⟩:=zae.mp hy;have:=(hK _).mp hx;simp at this
   have ur:∀p,p∈K++W.map (λ w=>((i:Int),w))↔(p.1<((i+1:Nat):Int)/\KP rs A p):=λ p=>by
    rw[zab,hK];constructor
    ·rintro (h|h)
     ·exact⟨by have:=h.1;omega,h.2⟩
     ·obtain⟨w,hw,rfl⟩:=zae.mp h;exact⟨by dsimp only;omega,(uq w).mp hw⟩
    ·rintro ⟨h1,h2⟩;by_cases e:p.1<(i:Int)
     ·exact .inl ⟨e,h2⟩
     ·have e2:p.1=(i:Int):=by omega
      obtain⟨p1,p2⟩:=p;dsimp only at e2;subst e2;exact .inr (zae.mpr ⟨p2,(uq p2).mpr h2,rfl⟩)
   have hlen:=rD hA hm aw λ p hp=>((ur p).mp hp).2;have hb:(K.map pD).length+((W.map λ w=>((i:Int),w)).map pD).length<=1000:=by
    rw[za6] at hlen;rw[zv,zv];omega
   refine Bf (ρ':=[‹Ak m rs›,‹PV A›,some (.own ((K++W.map λ w=>((i:Int),w)).map pD)),‹.int i›,‹.lst (cs.map cst)›]) ?_ ⟨af,_,_,_,rfl,aw,ur⟩;have t1:∀a b:Int,D.tup [.int a,.int b]=pD (a,b):=λ a b=>rfl;simp_arith[n0,hr,if_pos hl];rw[BA (λ w=>vV A cs i w) (λ w=>pD ((i:Int),w)) (λ w hw=>⟨_,rfl,by
    have ut:=FG.mp hw;have x1:AE (.lst (cs.map cst)) (.int w)=.ok (cst (atC cs w)):=C8 ut.1 (by rw[hR.1];exact ut.2);have df:=S8 A ((i:Int),w) false;unfold vV A9;cases q:Ao A ((i:Int),w) with
    |none =>
     rw[q] at df;simp_arith[t1,df];rfl
    |some v =>
     rw[q] at df;have hit:=Ox q;have h0:AE (VE v) (.int 0)=.ok (cst (some v.1)):=rfl;have he:=KS (some v.1) (atC cs w);simp_arith[t1,df,hit,h0,x1,he];rfl,λ _=>by simp_arith[t1]⟩)]
   rw[<-hW];have ew:W.map (λ w=>pD ((i:Int),w))=(W.map λ w=>((i:Int),w)).map pD:=by rw[zbf];rfl
   rw[ew];simp_arith[if_pos hb];rw[<-zao]
  ·rintro ρ ⟨_,K,s3,s4,rfl,hn,hK⟩;refine⟨K,s3,s4,rfl,hn,λ p=>(hK p).trans ⟨λ h=>h.2,λ h=>⟨?_,h⟩⟩⟩;obtain⟨c,hc,_⟩:=h;have:=(hA.rg p (ED hc)).2.1;rw[zv,Dz];omega
 ·rintro ρ ⟨K,s3,s4,rfl,hn,hK⟩;exact⟨_,rfl,K,rfl,hn,hK⟩
noncomputable def Pg:=z3 Gm
theorem Sq:FT "kept_arcs" 3 2 Pg:=(zu Gm).1
theorem Sr:My Pg:=(zu Gm).2
def F9 (F:OT->List D->M (OT×OT)):Prop:=∀(m:Nat) (rs:List Road) (o:D) (L:List Int),1<=m->m<=16->rs.length<=60->(∀r∈rs,LN m r)->L.Perm (BJ m)->(o=.lst (L.map D.int)\/(o=.AN/\L=Yz m (C9 rs) (BJ m)))->∃(A:LA) (K:List (Int×Int)),Bc m rs L A K/\∃t,F (.ins "Ladder" [] []) [Ak m rs,o]=.ok (t,.sh .AN)/\er t=AW m rs L A K
theorem CB:∃F:OT->List D->M (OT×OT),(∀ {P w K mg base},Txt K mg->X9 P w K mg base "Ladder" 6 3 F)/\F9 F:=by
 refine⟨_,λ T=>dI (k:=5) T.Le Jz _ (λ f B1 A outer s H E hr=>(A2 (Nr ["Ladder"] (Ba T.Bn By) (Bx 0 (pv 0)) (Aj (Ab A7.toXCall (Wd T) (-hr) rfl (A1 (!1) A6) rfl))) (A2 (Nr ["Ladder"] (Ba T.Cw By) (Bx 0 (pv 0)) (Aj (Ex (Ab A7.toXCall (JH T) (-hr) rfl (A1 (Di ["Ladder"] (Ba T.Bn By) (!0)) (A1 (!2) A6)) rfl)))) (A2 (Nr ["Ladder"] (Ba T.BZ By) (Bx 0 (pv 0)) (Aj (Ex (Ab A7.toXCall (Sn T) (-hr) rfl (A1 (Di ["Ladder"] (Ba T.Bn By) (!0)) (A1 (Di ["Ladder"] (Ba T.Cw By) (!0)) A6)) rfl)))) (A4 (Nr ["Ladder"] (Ba T.EH By) (Bx 0 (pv 0)) (Aj (Ex (Ab A7.toXCall (Sq T) (-hr) rfl (A1 (Di ["Ladder"] (Ba T.Bn By) (!0)) (A1 (Di ["Ladder"] (Ba T.BZ By) (!0)) A6)) rfl))))))))),?_⟩;intro m rs o L bB aQ rj g8 hL ho;dsimp only;have As:∀r∈rs,ID m r/\r.a≠r.b:=λ r hr=>(g8 r hr).okR;have h1:=We m rs bB aQ rj g8;have h2:Dt [Ak m rs,o]=.ok (.lst ((L.map D.int).map .sh)):=by
  rcases ho with rfl|⟨rfl,rfl⟩
  ·exact (ET m rs (by omega) As).1 L hL
  ·exact (ET m rs (by omega) As).2
 have h3:=So m rs L (by omega) hL As;have hA:=(L3 hL As).1;obtain⟨K,h4,hn,hK⟩:=Sr m rs (Bq rs L) (by omega) (λ r hr=>(As r hr).1) hA;refine⟨Bq rs L,K,⟨bB,aQ,rj,As,hL,rfl,hn,hK⟩,.ins "Ladder" ["own_map","own_order","laid","kept_ones"] [.sh (Ak m rs),.sh (.lst (L.map D.int)),.sh (PV (Bq rs L)),.sh (.lst (K.map pD))],?_,rfl⟩;have e0:D6 ["self","net","order"] (.ins "Ladder" [] []) [Ak m rs,o]=[some (.ow (.tree (some 0) (.ins "Ladder" [] []))),‹Ak m rs›,‹o›]:=rfl;rw[e0];refine VL ?_;have e1:er (.tup [.sh (.int m),.lst ((rs.map BR).map .sh)])=Ak m rs:=by rw[kQ,QE,LK];rfl
 have T:∀(ns:List Str) (ds:List D),er (.ins "Ladder" ns (ds.map .sh))=.ins "Ladder" ns ds:=λ ns ds=>by rw[er,Oa]
 have T1:=T ["own_map"] [Ak m rs];have T2:=T ["own_map","own_order"] [Ak m rs,.lst (L.map D.int)];have T3:=T ["own_map","own_order","laid"] [Ak m rs,.lst (L.map D.int),PV (Bq rs L)];simp only[zy,zcl] at T1 T2 T3;have d1:=eJ L;have d2:=lB (Bq rs L);have d3:=lA K;have f1:ML ["Ladder"] "own_map" (.ins "Ladder" ["own_map"] [Ak m rs])=.ok (Ak m rs):=rfl;have f2:ML ["Ladder"] "own_map" (.ins "Ladder" ["own_map","own_order"] [Ak m rs,.lst (L.map D.int)])=.ok (Ak m rs):=rfl;have f3:ML ["Ladder"] "own_order" (.ins "Ladder" ["own_map","own_order"] [Ak m rs,.lst (L.map D.int)])=.ok (.lst (L.map D.int)):=rfl;have f4:ML ["Ladder"] "own_map" (.ins "Ladder" ["own_map","own_order","laid"] [Ak m rs,.lst (L.map D.int),PV (Bq rs L)])=.ok (Ak m rs):=rfl;have f5:ML ["Ladder"] "laid" (.ins "Ladder" ["own_map","own_order","laid"] [Ak m rs,.lst (L.map D.int),PV (Bq rs L)])=.ok (PV (Bq rs L)):=rfl;refine wp_step (ρ':=[some (.ow (.tree (some 0) (.ins "Ladder" ["own_map"] [.sh (Ak m rs)]))),‹Ak m rs›,‹o›]) (by simp_arith[h1,e1];rfl) ?_;refine wp_step (ρ':=[some (.ow (.tree (some 0) (.ins "Ladder" ["own_map","own_order"] [.sh (Ak m rs),.sh (.lst (L.map D.int))]))),‹Ak m rs›,‹o›]) (by simp_arith[T1,f1,h2,d1];rfl) ?_;refine wp_step (ρ':=[some (.ow (.tree (some 0) (.ins "Ladder" ["own_map","own_order","laid"] [.sh (Ak m rs),.sh (.lst (L.map D.int)),.sh (PV (Bq rs L))]))),‹Ak m rs›,‹o›]) (by simp_arith[T2,f2,f3,h3,d2];rfl) ?_;refine Bf (ρ':=[some (.ow (.tree (some 0) (.ins "Ladder" ["own_map","own_order","laid","kept_ones"] [.sh (Ak m rs),.sh (.lst (L.map D.int)),.sh (PV (Bq rs L)),.sh (.lst (K.map pD))]))),‹Ak m rs›,‹o›]) (by simp_arith[T3,f4,f5,h4,d3];rfl) ⟨rfl,rfl⟩
noncomputable def Du:=z3 CB
theorem JI:Txt K mg->X9 P w K mg base "Ladder" 6 3 Du:=(zu CB).1
theorem JJ:F9 Du:=(zu CB).2
def Jc (F:List D->M OT):Prop:=∀(ns:List Int) (k:Nat),(∀n∈ns,Sm n)->∃v:Int,Sm v/\F [.lst (ns.map D.int),.int k]=.ok (.sh (.int v))
theorem EU:∃F,FT "_law_cell_at" 1 2 F/\Jc F:=by
 refine⟨_,λ T=>Au (k:=0) T.Q6 ON _ (λ f B1 A outer s H E hr=>(A2 (AS (uN (c:=true) (!1) (CU rfl T.EF (!0))) (A4 (Ac (AA (A8 (!hr) (!0) (!1))))) Ap) (A4 (Ac (AA A3))))),?_⟩;intro ns k bt;rfl';by_cases hk:(k:Int)<((ns.map D.int).length:Int)
 ·have xm:=hk;rw[zv] at xm;have i1:AE (.lst (ns.map D.int)) (.int k)=.ok (.int (ns[k]'(by omega))):=Gb (by omega) (by rw[zba];exact z4 _);refine⟨ns[k]'(by omega),bt _ (List.getElem_mem _),B5 ?_⟩;simp_arith[decide_eq_true hk,i1];rfl
 ·refine⟨0,by unfold Sm;decide,B5 ?_⟩;simp_arith[decide_eq_false hk];rfl
noncomputable def Eg:=z3 EU
theorem HQ:FT "_law_cell_at" 1 2 Eg:=(zu EU).1
theorem HR:Jc Eg:=(zu EU).2
def Mz (F:List D->M OT):Prop:=∀c k:Int,0<=k->k<=1000->∃v:Int,0<=v/\F [.int c,.int k]=.ok (.sh (.int v))
theorem Gn:∃F,FT "_law_mixed" 1 2 F/\Mz F:=by
 refine⟨_,λ T=>Au (k:=0) T.Ud Gg _ (λ f B1 A outer s H E hr=>(A2 (Av 2 Gg.nd rfl (zam rfl) (BF (C5 (BF (!0) A3) (N3 A3 (C5 (!1) A3))) A3)) (A2 (Av 2 Gg.nd rfl (zam rfl) (BF (C5 (C5 (N3 (!2) (!2)) (N3 A3 (!1))) A3) A3)) (A4 (Ac (AA (BF (N3 (!2) (!2)) A3))))))),?_⟩;intro c k h0 h1;rfl';have m1:O8 (.int 48271) (.int (k+1))=.ok (.int (48271*(k+1))):=K3 (.inr (.inr (.inr ⟨by omega,by omega⟩)));obtain⟨x,hx⟩:∃x,x=(c%2147483629+48271*(k+1))%2147483647:=⟨_,rfl⟩;have x0:0<=x:=by omega
 have x1:x<2147483647:=by omega
 have m2:O8 (.int x) (.int x)=.ok (.int (x*x)):=K3 (.inr (.inr (.inr ⟨by omega,by omega⟩)));have m3:O8 (.int 69621) (.int k)=.ok (.int (69621*k)):=K3 (.inr (.inr (.inr ⟨by omega,by omega⟩)));obtain⟨y,hy⟩:∃y,y=(x*x+69621*k+7)%2147483587:=⟨_,rfl⟩;have y0:0<=y:=by rw[hy];exact zbq _ (by decide)
 have y1:y<2147483587:=by rw[hy];exact zbr _ (by decide)
 have m4:O8 (.int y) (.int y)=.ok (.int (y*y)):=K3 (.inr (.inr (.inr ⟨by omega,by omega⟩)));refine⟨y*y%2147483579,zbq _ (by decide),?_⟩;simp[vJ,vK,m1,pO,G1,Bg,<-hx,m2,m3,<-hy,m4,Yc,bP,sH,Yd]
noncomputable def Ph:=z3 Gn
theorem Eh:FT "_law_mixed" 1 2 Ph:=(zu Gn).1
theorem Ei:Mz Ph:=(zu Gn).2
def Pj (F:List D->M OT):Prop:=∀(c k:Int) (m:Nat),2<=m->m<=16->0<=k->k<=100->∃r:Road,LN m r/\F [.int c,.int m,.int k]=.ok (.sh (BR r))
theorem HS:∃F,FT "_law_road" 2 3 F/\Pj F:=by
 refine⟨_,λ T=>Au (k:=1) T.W3 CL _ (λ f B1 A outer s H E hr=>(A2 (Av 0 CL.nd rfl (zam rfl) (BF (!0) (ZW A3 A3))) (A2 (Av 3 CL.nd rfl (zam rfl) (Aj (Ab A7.toXCall (Eh T) (-hr) rfl (A1 (!0) (A1 (!2) A6)) rfl))) (A2 (Av 4 CL.nd rfl (zam rfl) (BF (!3) (!1))) (A2 (Av 5 CL.nd rfl (zam rfl) (BF (C5 (C5 (!4) A3) (BF (Cr (!3) A3) (pQ (!1) A3))) (!1))) (A2 (Av 6 CL.nd rfl (zam rfl) (A8 (!hr) (Fe (A1 Ct (A1 A3 (A1 A3 (A1 A3 (A1 (BF (Cr (!3) A3) A3) (A1 (BF (Cr (!3) A3) A3) (A1 (BF (Cr (!3) A3) A3) (A1 (!0) A6))))))))) (BF (Cr (!3) A3) A3))) (A4 (Ac (AA (AF (A1 (!4) (A1 (!5) (A1 (!6) (A1 (A8 (!hr) (Fe (A1 (BF (Cr (!3) A3) A3) (A1 (Cr (!0) A3) A6))) (BF (Cr (!3) A3) A3)) A6)))))))))))))),?_⟩;intro c k m bB aQ h0 h1;have ht:=VD;rfl';obtain⟨g,hg⟩:∃g,g=c%QO:=⟨_,rfl⟩;have g0:0<=g:=by rw[hg];exact zbq _ (by omega)
 have g1:g<QO:=by rw[hg];exact zbr _ (by omega)
 obtain⟨v,v0,hv⟩:=Ei g k h0 (by omega);have di:(0:Int)<(m:Int):=by omega
 have j5:(0:Int)<(m:Int)-1:=by omega
 obtain⟨o,ho⟩:∃o,o=v%(m:Int):=⟨_,rfl⟩;obtain⟨o',aF⟩:∃o',o'=(o+1+v / 16%((m:Int)-1))%(m:Int):=⟨_,rfl⟩;have o0:0<=o:=by rw[ho];exact zbq _ (by omega)
 have o1:o<m:=by rw[ho];exact zbr _ di
 have p0:0<=o':=by rw[aF];exact zbq _ (by omega)
 have p1:o'<m:=by rw[aF];exact zbr _ di
 have s0:0<=v / 16%((m:Int)-1):=zbq _ (by omega);have s1:v / 16%((m:Int)-1)<(m:Int)-1:=zbr _ j5;have jp:o≠o':=by
  have:=qJ (a:=o) (s:=1+v / 16%((m:Int)-1)) (m:=m) o0 o1 (by omega) (by omega);rw[aF,zct];exact λ z=>this z.symm
 have gw:Fu (.int v) (.int 16)=.ok (.int (v / 16)):=BY ⟨by decide,by decide⟩;have j6:Fu (.int v) (.int 2048)=.ok (.int (v / 2048)):=BY ⟨by decide,by decide⟩;have rm:Fu (.int v) (.int 256)=.ok (.int (v / 256)):=BY ⟨by decide,by decide⟩;have j7:Fu (.int v) (.int 4096)=.ok (.int (v / 4096)):=BY ⟨by decide,by decide⟩;have xn:Fu (.int v) (.int 32)=.ok (.int (v / 32)):=BY ⟨by decide,by decide⟩;have d7:Fu (.int g) (.int 7)=.ok (.int (g / 7)):=BY ⟨by decide,by decide⟩;have q1:G1 (.int v) (.int (m:Int))=.ok (.int o):=by rw[ho];exact Bp di
 have q2:G1 (.int (v / 16)) (.int ((m:Int)-1))=.ok (.int (v / 16%((m:Int)-1))):=Bp j5;have q3:G1 (.int (o+1+v / 16%((m:Int)-1))) (.int (m:Int))=.ok (.int o'):=by rw[aF];exact Bp di
 have q4:G1 (.int (v / 2048)) (.int 4)=.ok (.int (v / 2048%4)):=Bp (by decide);have q5:G1 (.int (v / 2048)) (.int 100)=.ok (.int (v / 2048%100)):=Bp (by decide);have q6:G1 (.int (v / 256)) (.int 8)=.ok (.int (v / 256%8)):=Bp (by decide);have q8:G1 (.int (v / 4096)) (.int 5)=.ok (.int (v / 4096%5)):=Bp (by decide);have q9:G1 (.int (v / 32)) (.int 2)=.ok (.int (v / 32%2)):=Bp (by decide);obtain⟨l,hpl,l0⟩:=rM (a:=v / 2048%4) (b:=v / 2048%100) (g:=g) (i:=v / 256%8) (by omega) (by omega) ⟨g0,g1⟩ (by omega) (by omega);obtain⟨w,qt,w0⟩:=rG (a:=v / 4096%5) (b:=g / 7) (i:=v / 32%2) (by omega) (by omega) (by omega) (by omega);have xp:D.tup [.int o,.int o',CN l,.int w]=BR ⟨o,o',l,w⟩:=rfl;refine⟨⟨o,o',l,w⟩,⟨o0,o1,p0,p1,jp,l0,w0.1,w0.2⟩,B5 ?_⟩;apply wp_step
 ·simp_arith[mQ,kO];rw[<-hg]
 try simp only[za5,za1]
 apply wp_step
 ·simp_arith[hv];rfl
 try simp only[za5,za1]
 apply wp_step
 ·simp_arith[q1];rfl
 try simp only[za5,za1]
 apply wp_step
 ·simp_arith[gw,q2,q3];rfl
 try simp only[za5,za1]
 apply wp_step
 ·simp_arith[j6,q4,q5,rm,q6,hpl];rfl
 try simp only[za5,za1]
 simp_arith[j7,q8,d7,xn,q9,qt,xp];rfl
noncomputable def IH:=z3 HS
theorem Uv:FT "_law_road" 2 3 IH:=(zu HS).1
theorem Uw:Pj IH:=(zu HS).2
def R8 (F:List D->M OT):Prop:=∀(ns:List Int) (P:Int),2<=P->P<=16->ns.length<=63->(∀n∈ns,Sm n)->∃(m:Nat) (rs:List Road),1<=m/\m<=16/\rs.length<=59/\(∀r∈rs,LN m r)/\∃t,F [.lst (ns.map D.int),.int P,.int 58]=.ok t/\er t=Ak m rs
theorem JK:∃F,FT "_law_map" 3 3 F/\R8 F:=by
 refine⟨_,λ T=>Au (k:=2) T.Z1 Dq _ (λ f B1 A outer s H E hr=>(A2 (Av 3 Dq.nd rfl (zam rfl) (Aj (Kc (!0) (JZ A3) (JZ (C5 A3 (!2)))))) (A2 (Av 4 Dq.nd rfl (zam rfl) (Aj (Ab A7.toXCall (Eh T) (-hr) rfl (A1 (Aj (Ab A7.toXCall (HQ T) (-hr) rfl (A1 (!0) (A1 A3 A6)) rfl)) (A1 A3 A6)) rfl))) (A2 (Av 5 Dq.nd rfl (Or.inr rfl) (C5 A3 (BF (!4) (jM rfl rfl T.fF (!1) (C5 A3 (Cr (CU rfl T.EF (!3)) A3)))))) (A2 (AS (JX (c:=true) (!hr) (!5) A3) (A4 (Ac (RI (C6 (AA A3) (C6 (G6 Cc) Cc))))) Ap) (A2 (K1 (NB:=["_law_k","_law_cell","_law_many"]) 6 [none,none,some 5] Dq.nd rfl (zam rfl) rfl (N2 rfl T.F6 (!3)) rfl rfl (Na (n:=2) rfl (CJ 0 (by decide) rfl rfl rfl (CJ 1 (by decide) rfl rfl rfl Kd))) (λ _ _ _ _=>E9) (λ _ _ _ _=>(Aj (Cu (Ab (BN rfl).toXCall (Uv T) (-hr) rfl (A1 (!1) (A1 (!2) (A1 (!0) A6))) rfl))))) (A2 (AS (DW.dt (GZ (JX (c:=true) (!hr) (BF (Cr (!4) A3) A3) A3) (G3 (Fv (c:=true) (!hr) (!6) (Fe A6))))) (A4 (Av 6 Dq.nd rfl (zam rfl) (Aj (N9 (!6) (Fe (A1 (A8 (!hr) (!6) (BF (Cr (!4) A3) (CU rfl T.EF (!6)))) A6)))))) Ap) (A4 (Ac (AA (AF (A1 (!5) (A1 (!6) A6))))))))))))),?_⟩;intro ns P uu j8 iq bt;rfl';refine (λ h:∃t,_/\∃(m:Nat) (rs:List Road),1<=m/\m<=16/\rs.length<=59/\(∀r∈rs,LN m r)/\er t=Ak m rs=>by
  obtain⟨t,h1,m,rs,h2,h3,h4,h5,h6⟩:=h;exact⟨m,rs,h2,h3,h4,h5,t,h1,h6⟩) (IT ?_)
 obtain⟨cs,d5⟩:∃cs,cs=(ns.drop 2).take 58:=⟨_,rfl⟩;have iw:cs.length<=58:=by rw[d5,zbi];omega
 have sl:cO (some 2) (some (2+58)) (.lst (ns.map D.int))=.ok (.lst ((cs.map D.int).map .sh)):=by rw[d5,List.map_take,List.map_drop];exact jY _ 2 60
 obtain⟨z0,rb,xq⟩:=HR ns 0 bt;have rn:Eg [.lst (ns.map D.int),.int 0]=.ok (.sh (.int z0)):=xq;obtain⟨v,v0,hv⟩:=Ei z0 40 (by decide) (by decide);apply wp_step
 ·simp_arith[sl];rfl
 try simp only[za5,za1]
 apply wp_step
 ·simp_arith[rn,hv];rfl
 try simp only[za5,za1]
 have d2:Fu (.int ((cs.map D.int).length:Int)) (.int 2)=.ok (.int ((cs.map D.int).length / 2)):=BY ⟨by decide,by decide⟩;obtain⟨n,hn⟩:∃n:Int,n=(if 2+((cs.map D.int).length:Int) / 2<P then 2+((cs.map D.int).length:Int) / 2 else P):=⟨_,rfl⟩;have aw:2<=n/\n<=16:=by rw[hn];split<;>omega
 have q1:G1 (.int v) (.int n)=.ok (.int (v%n)):=Bp (by omega);obtain⟨m,hm⟩:∃m:Nat,(m:Int)=1+v%n:=⟨(1+v%n).toNat,by have:=zbq v (b:=n) (by omega);omega⟩;have mi:1<=m/\m<=16:=by
  have:=zbq v (b:=n) (by omega);have:=zbr v (b:=n) (by omega);omega
 refine wp_step (ρ':=[‹.lst (ns.map D.int)›,‹.int P›,‹.int 58›,‹.lst (cs.map D.int)›,‹.int v›,‹.int m›,none]) (by
  simp_arith[d2];rw[<-hn,q1];simp_arith[];rw[<-hm]) ?_
 by_cases bB:(m:Int)=1
 ·simp_arith[decide_eq_true bB];refine⟨_,rfl,m,[],mi.1,mi.2,by simp,(λ r hr=>by cases hr),?_⟩;have:m=1:=by omega
  subst this;rfl
 apply wp_step
 ·simp_arith[decide_eq_false bB];rfl
 have eh:∀i:Nat,i<cs.length->∃r:Road,LN m r/\IH [.int (cs.getD i 0),.int m,.int i]=.ok (.sh (BR r)):=λ i hi=>Uw (cs.getD i 0) i m (by omega) (by omega) (by omega) (by omega);obtain⟨f,hf⟩:∃f:Nat->Road,∀i:Nat,i<cs.length->LN m (f i)/\IH [.int (cs.getD i 0),.int m,.int i]=.ok (.sh (BR (f i))):=⟨λ i=>if h:i<cs.length then z3 (eh i h) else ⟨0,0,none,0⟩,λ i hi=>by
  dsimp only;rw[dif_pos hi];exact zu (eh i hi)⟩
 have am:((zau cs.length).map λ i:Nat=>D.tup [.int (i:Int),.int (cs.getD i 0)]).length<=1000:=by rw[zv,zc5];omega
 simp_arith[VQ,if_pos am];rw[BQ (λ i:Nat=>BR (f i)) (λ i hi=>⟨_,rfl,rfl,by
  have h1:=(hf i (zbo.mp hi)).2;simp_arith[h1]⟩)]
 simp_arith[];have HD:∀S:List D,S=S:=λ _=>rfl;refine wp_step (ρ':=[‹.lst (ns.map D.int)›,‹.int P›,‹.int 58›,‹.lst (cs.map D.int)›,‹.int v›,‹.int m›,‹.lst (((zau cs.length).map f).map BR)›]) (by rw[zbf];rfl) ?_;obtain⟨b8,gx⟩:∃b8,b8=(zau cs.length).map f:=⟨_,rfl⟩;have dk:∀r∈b8,LN m r:=λ r hr=>by
  rw[gx] at hr;obtain⟨i,hi,rfl⟩:=zae.mp hr;exact (hf i (zbo.mp hi)).1
 have mf:b8.length<=58:=by rw[gx,zv,zc5];exact iw
 rw[<-gx];refine BO (I:=λ ρ=>∃rs:List Road,ρ=[‹.lst (ns.map D.int)›,‹.int P›,‹.int 58›,‹.lst (cs.map D.int)›,‹.int v›,‹.int m›,‹.lst (rs.map BR)›]/\rs.length<=59/\∀r∈rs,LN m r) ?_ ?_
 ·have gw:Fu (.int v) (.int 16)=.ok (.int (v / 16)):=BY ⟨by decide,by decide⟩;have q3:G1 (.int (v / 16)) (.int 3)=.ok (.int (v / 16%3)):=Bp (by decide);have xr:Fu (.int v) (.int 64)=.ok (.int (v / 64)):=BY ⟨by decide,by decide⟩;have ac:=TY b8;by_cases c1:v / 16%3=1
  ·by_cases c2:b8=[]
   ·rw[decide_eq_false (by simp[c2])] at ac;refine Bf (ρ':=_) (by simp_arith[gw,q3,decide_eq_true c1,ac];rfl) ⟨b8,rfl,by omega,dk⟩
   ·rw[decide_eq_true c2] at ac;have j4:0<(b8.map BR).length:=by rw[zv];exact List.length_pos_iff.mpr c2
    obtain⟨p1,y,hy,p2⟩:=dW j4 (show 0<=v / 64 by omega);obtain⟨r,hr,rfl⟩:=zae.mp hy;have hpl:Md (.lst (b8.map BR)) (.lst [BR r])=.ok (.lst (((b8++[r]).map BR).map .sh)):=by rw[zao];exact Nv (by rw[zv];simp;omega)
    refine Bf (ρ':=[‹.lst (ns.map D.int)›,‹.int P›,‹.int 58›,‹.lst (cs.map D.int)›,‹.int v›,‹.int m›,‹.lst ((b8++[r]).map BR)›]) (by
     simp_arith[gw,q3,decide_eq_true c1,ac,xr,p1,p2,hpl];rfl) ⟨b8++[r],rfl,by rw[za6];simp;omega,λ r2 h2=>by
     rcases zab.mp h2 with h|h
     ·exact dk r2 h
     ·rw[z6.mp h];exact dk r hr⟩
  ·refine Bf (ρ':=_) (by simp_arith[gw,q3,decide_eq_false c1];try rfl) ⟨b8,rfl,by omega,dk⟩
 ·rintro ρ ⟨rs,rfl,hl,As⟩;simp_arith[];exact⟨m,rs,mi.1,mi.2,hl,As,rfl⟩
noncomputable def Ux:=z3 JK
theorem Wh:FT "_law_map" 3 3 Ux:=(zu JK).1
theorem Wi:R8 Ux:=(zu JK).2
def Pk (F:List D->M OT):Prop:=∀a b:Co,F [cst a,cst b]=.ok (.sh (cst (Aq a b)))
theorem HU:∃F,FT "_law_plus" 1 2 F/\Pk F:=by
 refine⟨_,λ T=>Au (k:=0) T.W4 U8 _ (λ f B1 A outer s H E hr=>(A2 (AS (DW.dt (Cp (De (c:=true) (!0)) (C1 (De (c:=true) (!1))))) (A4 (Ac (AA Ct))) Ap) (A4 (Ac (AA (AF (A1 (C5 (A8 (!hr) (!0) A3) (A8 (!hr) (!1) A3)) (A1 (C5 (A8 (!hr) (!0) A3) (A8 (!hr) (!1) A3)) A6)))))))),?_⟩;intro a b;dsimp only;rcases a with _|⟨a1,a2⟩<;>rcases b with _|⟨b1,b2⟩<;>rfl
noncomputable def M7:=z3 HU
theorem Uy:FT "_law_plus" 1 2 M7:=(zu HU).1
theorem UA:Pk M7:=(zu HU).2
def MA (F:List D->M OT):Prop:=∀a b:Co,F [cst a,cst b]=.ok (.sh (cst (EC a b)))
theorem Gp:∃F,FT "_law_least" 1 2 F/\MA F:=by
 refine⟨_,λ T=>Au (k:=0) T.Ue Sf _ (λ f B1 A outer s H E hr=>(A2 (AS (DW.dt (Cp (De (c:=true) (!0)) (C1 (DW.dt (GZ (HY (c:=true) (!1)) (G3 (dD (c:=true) (!hr) (!1) (!0)))))))) (A4 (Ac (AA (!1)))) Ap) (A4 (Ac (AA (!0)))))),?_⟩;intro a b;rfl';refine B5 ?_;cases a with
 |none =>
  have hn:AV (cst none)=true:=rfl;have el:EC none b=b:=by cases b<;>rfl
  rw[el];simp_arith[hn];rfl
 |some p =>
  have hn:AV (cst (some p))=false:=rfl;cases b with
  |none =>
   have aw:AV (cst none)=true:=rfl;have el:EC (some p) none=some p:=rfl;rw[el];simp_arith[hn,aw];rfl
  |some q =>
   have aw:AV (cst (some q))=false:=rfl;have hx:=vU q p;have hl:EC (some p) (some q)=some (kI p q):=rfl;rw[hl];unfold kI;by_cases hc:q.1<p.1\/(q.1=p.1/\q.2<p.2)
   ·rw[decide_eq_true hc] at hx;rw[if_neg (by omega)];simp_arith[hn,aw,hx];rfl
   ·rw[decide_eq_false hc] at hx;rw[if_pos (by omega)];apply wp_step
    ·simp_arith[hn,aw,hx];rfl
    simp_arith[];rfl
noncomputable def Pm:=z3 Gp
theorem Ss:FT "_law_least" 1 2 Pm:=(zu Gp).1
theorem Su:MA Pm:=(zu Gp).2
def Pn (F:List D->M OT):Prop:=∀c:Co,F [cst c,cst c]=.ok (.sh (.bl true))
theorem HV:∃F,FT "_law_cost" 1 2 F/\Pn F:=by
 refine⟨_,λ T=>Au (k:=0) T.W5 Mp _ (λ f B1 A outer s H E hr=>(A2 (AS (De (c:=true) (!1)) (A4 (Ac (AA (ZY (!0))))) Ap) (A2 (AS (DW.dt (Cp (Bo (B7 (c:=true) (CV (G4 _) rfl T.AK rfl T.Lg (by decide +kernel) (!0)))) (C1 (Fv (c:=true) (!hr) (CU rfl T.EF (!0)) A3)))) (A4 (Ac (AA Cd))) Ap) (A2 (BM A7.toXCall.own rfl (rJ (!0)) (Az 2 Mp.nd rfl (zam rfl)) (A4 (AS (DW.dt (Cp (Bo (B7 (c:=true) (CV (NX _) rfl T.AK rfl T.fE (by decide +kernel) (!2)))) (C1 (B7 (c:=true) (CV (LD _) rfl T.AK rfl T.W8 (by decide +kernel) (!2)))))) (A4 (Ac (AA Cd))) Ap))) (A4 (Ac (AA (WH (!hr) (!0) (!1))))))))),?_⟩;intro c;rfl';refine B5 ?_;cases c with
 |none=>rfl
 |some p =>
  have hn:AV (cst (some p))=false:=rfl;have ht:cst (some p)=.tup [.int p.1,.int p.2]:=rfl;have cr:=KS (some p) (some p);apply wp_step
  ·simp_arith[hn];rfl
  apply wp_step
  ·simp_arith[ht];rfl
  refine BO (I:=λ ρ=>∃s,ρ=[‹cst (some p)›,‹cst (some p)›,s]) ?_ ?_
  ·simp_arith[ht];refine BP (λ i ρ=>∃s,ρ=[‹cst (some p)›,‹cst (some p)›,s]) ⟨none,rfl⟩ ?_ ?_
   ·rintro i d ρ hd ⟨s,rfl⟩;obtain⟨x,rfl⟩:∃x,d=D.int x:=by
     rcases i with _|_|i
     ·cases hd;exact⟨_,rfl⟩
     ·cases hd;exact⟨_,rfl⟩
     ·cases hd
    refine⟨_,rfl,?_⟩;refine Bf (ρ':=_) (by simp_arith[];rfl) ⟨_,rfl⟩
   ·rintro ρ ⟨s,rfl⟩;exact⟨s,rfl⟩
  ·rintro ρ ⟨s,rfl⟩;simp_arith[cr,decide_true];rfl
noncomputable def R9:=z3 HV
theorem MB:FT "_law_cost" 1 2 R9:=(zu HV).1
theorem MC:Pn R9:=(zu HV).2
def Po (F:List D->M OT):Prop:=∀(m:Nat) (rs:List Road) (s g:Int) (c:Int×Int) (N:List Nat),NA rs s N g c.1->(N.length:Int)=c.2->F [Ak m rs,.int s,.int g,DZ N]=.ok (.sh (cst (some c)))
theorem HW:∃F,FT "_law_walk" 1 4 F/\Po F:=by
 refine⟨_,λ T=>Au (k:=0) T.W6 Bl _ (λ f B1 A outer s H E hr=>(A2 (Av 4 Bl.nd rfl (zam rfl) (!1)) (A2 (Av 5 Bl.nd rfl (zam rfl) (AF (A1 A3 (A1 A3 A6)))) (A2 (AS (Bo (B7 (c:=true) (CV (HZ _) rfl T.AK rfl T.EG (by decide +kernel) (!3)))) (A4 (Ac (AA Ct))) Ap) (A2 (BM A7.toXCall.own rfl (AR (!3)) (Az 6 Bl.nd rfl (zam rfl)) (A2 (AS (DW.dt (Cp (Bo (B7 (c:=true) (CV (NX _) rfl T.AK rfl T.fE (by decide +kernel) (!6)))) (Cp (B7 (c:=true) (CV (LD _) rfl T.AK rfl T.W8 (by decide +kernel) (!6))) (C1 (Bo (YO (c:=true) lV Zs A3 (!6) (CU rfl T.EF (A8 (!hr) (!0) A3)))))))) (A4 (Ac (AA Ct))) Ap) (A2 (bS (A8 (!hr) (A8 (!hr) (!0) A3) (!6)) (LF (n:=4) rfl (B3 (Az 7 Bl.nd rfl (zam rfl)) (B3 (Az 8 Bl.nd rfl (zam rfl)) (B3 (Az 9 Bl.nd rfl (zam rfl)) (B3 (Az 10 Bl.nd rfl (zam rfl)) I9)))))) (A2 (AS (DW.dt (Cp (Fv (c:=true) (!hr) (!7) (!4)) (C1 (De (c:=true) (!9))))) (A4 (Ac (AA Ct))) Ap) (A2 (Av 5 Bl.nd rfl (zam rfl) (AF (A1 (C5 (A8 (!hr) (!5) A3) (!9)) (A1 (C5 (A8 (!hr) (!5) A3) A3) A6)))) (A4 (Av 4 Bl.nd rfl (zam rfl) (!8)))))))) (A2 (AS (Fv (c:=true) (!hr) (!4) (!2)) (A4 (Ac (AA Ct))) Ap) (A4 (Ac (AA (!5)))))))))),?_⟩;intro m rs s g c N aR b7;rfl';refine B5 ?_;have n1:AE (Ak m rs) (.int 1)=.ok (.lst (rs.map BR)):=rfl;have eN:DZ N=.lst (N.map λ n:Nat=>D.int (n:Int)):=rfl;refine wp_step (ρ':=[‹Ak m rs›,‹.int s›,‹.int g›,‹DZ N›,‹.int s›,none,none,none,none,none,none]) (by simp_arith[];try rfl) ?_;refine wp_step (ρ':=[‹Ak m rs›,‹.int s›,‹.int g›,‹DZ N›,‹.int s›,‹.tup [.int 0,.int 0]›,none,none,none,none,none]) (by simp_arith[];try rfl) ?_;refine wp_step (ρ':=[‹Ak m rs›,‹.int s›,‹.int g›,‹DZ N›,‹.int s›,‹.tup [.int 0,.int 0]›,none,none,none,none,none]) (by simp_arith[eN];try rfl) ?_;refine BO (I:=λ ρ=>∃s6 s7 s8 s9 e7:Option Cl,ρ=[‹Ak m rs›,‹.int s›,‹.int g›,‹DZ N›,‹.int g›,‹.tup [.int c.1,.int (N.length:Nat)]›,s6,s7,s8,s9,e7]) ?_ ?_
 ·simp_arith[eN];refine BP (λ i ρ=>∃(x t a:Int) (s6 s7 s8 s9 e7:Option Cl),ρ=[‹Ak m rs›,‹.int s›,‹.int g›,‹DZ N›,‹.int x›,‹.tup [.int a,.int (i:Nat)]›,s6,s7,s8,s9,e7]/\NA rs x (N.drop i) g t/\a+t=c.1) ⟨s,c.1,0,none,none,none,none,none,rfl,by rw[zcu];exact aR,by omega⟩ ?_ ?_
  ·rintro i d ρ hd ⟨x,t,a,s6,s7,s8,s9,e7,rfl,hc,hs⟩;obtain⟨n,hn,rfl⟩:=Bi hd;refine⟨_,rfl,?_⟩;have xt:N.drop i=n::N.drop (i+1):=by rw[List.drop_eq_getElem?_toList_append,hn];rfl
   rw[xt] at hc;obtain⟨r,l,t',g1,g2,g3,g4,g5⟩:=hc.inv;have zo:=(za3.mp g1).1;have q1:decide ((0:Int)<=(n:Int))=true:=decide_eq_true (by omega);have q2:decide ((n:Int)<((rs.map BR).length:Int))=true:=decide_eq_true (by rw[zv];omega);have uv:AE (.lst (rs.map BR)) (.int (n:Int))=.ok (BR r):=Gb (by omega) (by rw[zba];exact g1);have er:BR r=.tup [.int r.a,.int r.b,.int l,.int r.w]:=by unfold BR;rw[g3];rfl
   have xu:Y1 16 (.int r.a) (.int x)=.ok (.bl false):=by rw[g2];exact O1 (Cg (n:=16) x)
   have a4:AV (.int l)=false:=rfl;have t0:AE (.tup [.int a,.int (i:Nat)]) (.int 0)=.ok (.int a):=rfl;have t1:AE (.tup [.int a,.int (i:Nat)]) (.int 1)=.ok (.int (i:Nat)):=rfl;refine wp_step (ρ':=[‹Ak m rs›,‹.int s›,‹.int g›,‹DZ N›,‹.int x›,‹.tup [.int a,.int (i:Nat)]›,‹.int n›,s7,s8,s9,e7]) (by simp_arith[n1,q1,q2,Eb,if_true];try rfl) ?_;refine wp_step (ρ':=[‹Ak m rs›,‹.int s›,‹.int g›,‹DZ N›,‹.int x›,‹.tup [.int a,.int (i:Nat)]›,‹.int n›,‹.int r.a›,‹.int r.b›,‹.int l›,‹.int r.w›]) (by
    rw[er] at uv;simp_arith[n1,uv];try rfl) ?_
   refine wp_step (ρ':=[‹Ak m rs›,‹.int s›,‹.int g›,‹DZ N›,‹.int x›,‹.tup [.int a,.int (i:Nat)]›,‹.int n›,‹.int r.a›,‹.int r.b›,‹.int l›,‹.int r.w›]) (by simp_arith[xu,a4];try rfl) ?_;refine wp_step (ρ':=[‹Ak m rs›,‹.int s›,‹.int g›,‹DZ N›,‹.int x›,‹.tup [.int (a+l),.int ((i:Nat)+1)]›,‹.int n›,‹.int r.a›,‹.int r.b›,‹.int l›,‹.int r.w›]) (by simp_arith[t0,t1];try rfl) ?_;refine Bf (ρ':=[‹Ak m rs›,‹.int s›,‹.int g›,‹DZ N›,‹.int r.b›,‹.tup [.int (a+l),.int ((i:Nat)+1)]›,‹.int n›,‹.int r.a›,‹.int r.b›,‹.int l›,‹.int r.w›]) (by simp_arith[];try rfl) ⟨r.b,t',a+l,_,_,_,_,_,rfl,g4,by omega⟩
  ·rintro ρ ⟨x,t,a,s6,s7,s8,s9,e7,rfl,hc,hs⟩;rw[zv,zcf] at hc;rw[zv];cases hc;have:a=c.1:=by omega
   subst this;exact⟨s6,s7,s8,s9,e7,rfl⟩
 ·rintro ρ ⟨s6,s7,s8,s9,e7,rfl⟩;have rp:Y1 16 (.int g) (.int g)=.ok (.bl false):=O1 (Cg (n:=16) g);apply wp_step
  ·simp_arith[rp];rfl
  simp_arith[b7];rfl
noncomputable def Ra:=z3 HW
theorem UB:FT "_law_walk" 1 4 Ra:=(zu HW).1
theorem UC:Po Ra:=(zu HW).2
def Lr (F:List D->M OT):Prop:=∀(m:Nat) (rs:List Road) (g:Nat) (T:List Co),m<=900->(∀r∈rs,ID m r)->g<m->T.length=m->(∀w:Int,0<=w->w<m->Bk rs w g (atC T w))->F [Ak m rs,.int g,.lst (T.map cst)]=.ok (.sh (.bl true))
theorem Fp:∃F,FT "_law_prices" 2 3 F/\Lr F:=by
 refine⟨_,λ T=>Au (k:=1) T.Sl B9 _ (λ f B1 A outer s H E hr=>(A2 (bS (!0) (LF (n:=2) rfl (B3 (Az 3 B9.nd rfl (zam rfl)) (B3 (Az 4 B9.nd rfl (zam rfl)) I9)))) (A2 (AS (DW.dt (Cp (Bo (B7 (c:=true) (CV (HZ _) rfl T.AK rfl T.EG (by decide +kernel) (!2)))) (C1 (Fv (c:=true) (!hr) (CU rfl T.EF (!2)) (!3))))) (A4 (Ac (AA Cd))) Ap) (A2 (BE 5 B9.nd rfl (zam rfl) (Vw Ct (!3))) (A2 (BM A7.toXCall.own rfl (AR (!4)) (LF (n:=4) rfl (B3 (Az 6 B9.nd rfl (zam rfl)) (B3 (Az 7 B9.nd rfl (zam rfl)) (B3 (Az 8 B9.nd rfl (zam rfl)) (B3 (Az 9 B9.nd rfl (zam rfl)) I9))))) (A4 (AS (HY (c:=true) (!8)) (A4 (O2 5 (pv 5) (Aj (Ex (Ab A7.toXCall (Ss T) (-hr) rfl (A1 (A8 (!hr) (!5) (!6)) (A1 (Aj (Ab A7.toXCall (Uy T) (-hr) rfl (A1 (AF (A1 (!8) (A1 A3 A6))) (A1 (A8 (!hr) (!2) (!7)) A6)) rfl)) A6)) rfl))) (!6))) Ap))) (A2 (O2 5 (pv 5) (AF (A1 A3 (A1 A3 A6))) (!1)) (A2 (BM A7.toXCall.own rfl (Ia (c:=true) rfl T.IG (!3)) (Az 10 B9.nd rfl (zam rfl)) (A4 (AS (Jp (Bo (B7 (c:=true) (Aj (Ab A7.toXCall (MB T) (-hr) rfl (A1 (A8 (!hr) (!2) (!10)) (A1 (A8 (!hr) (!5) (!10)) A6)) rfl))))) (A4 (Ac (AA Cd))) Ap))) (A4 (Ac (AA Cd)))))))))),?_⟩;intro m rs g T hm As hg cj hT;rfl';refine B5 ?_;have hlen:((T.map cst).length:Int)=(m:Int):=by rw[zv,cj]
 have aZ:=Og (d:=.AN) (n:=m) (by omega);have ci:za7 m D.AN=(Ck m rs T 0).map cst:=by rw[YS,List.map_replicate];rfl
 rw[ci] at aZ;have rq:Y1 16 (.int (m:Int)) (.int (m:Int))=.ok (.bl false):=O1 (Cg (n:=16) _);refine wp_step (ρ':=[‹Ak m rs›,‹.int g›,‹.lst (T.map cst)›,‹.int m›,‹.lst (rs.map BR)›,none,none,none,none,none,none]) (by rfl) ?_;refine wp_step (ρ':=[‹Ak m rs›,‹.int g›,‹.lst (T.map cst)›,‹.int m›,‹.lst (rs.map BR)›,none,none,none,none,none,none]) (by simp_arith[hlen,rq,decide_true,Bool.not_true];try rfl) ?_;refine wp_step (ρ':=[‹Ak m rs›,‹.int g›,‹.lst (T.map cst)›,‹.int m›,‹.lst (rs.map BR)›,some (.own ((Ck m rs T 0).map cst)),none,none,none,none,none]) (by simp_arith[aZ];try rfl) ?_;refine BO (I:=λ ρ=>∃o6 o7 o8 o9:Option D,ρ=[‹Ak m rs›,‹.int g›,‹.lst (T.map cst)›,‹.int m›,‹.lst (rs.map BR)›,some (.own ((Ck m rs T rs.length).map cst)),vO o6,vO o7,vO o8,vO o9,none]) ?_ ?_
 ·simp_arith[];refine BP (λ i ρ=>∃o6 o7 o8 o9:Option D,ρ=[‹Ak m rs›,‹.int g›,‹.lst (T.map cst)›,‹.int m›,‹.lst (rs.map BR)›,some (.own ((Ck m rs T i).map cst)),vO o6,vO o7,vO o8,vO o9,none]) ⟨none,none,none,none,rfl⟩ ?_ ?_
  ·rintro i d ρ hd ⟨o6,o7,o8,o9,rfl⟩;obtain⟨r,hq,rfl⟩:=Bi hd;have hr:=As r (za9 hq);refine⟨[‹Ak m rs›,‹.int g›,‹.lst (T.map cst)›,‹.int m›,‹.lst (rs.map BR)›,some (.own ((Ck m rs T i).map cst)),‹.int r.a›,‹.int r.b›,‹CN r.l›,‹.int r.w›,none],rfl,?_⟩;cases hl:r.l with
   |none =>
    have a4:AV (CN none)=true:=rfl;refine Bf (ρ':=[‹Ak m rs›,‹.int g›,‹.lst (T.map cst)›,‹.int m›,‹.lst (rs.map BR)›,some (.own ((Ck m rs T i).map cst)),‹.int r.a›,‹.int r.b›,‹CN none›,‹.int r.w›,none]) (by simp_arith[a4];try rfl) ⟨some (.int r.a),some (.int r.b),some (CN none),some (.int r.w),by rw[YU hq hr hl];rfl⟩
   |some l =>
    have lv:CN (some l)=.int l:=rfl;have a4:AV (.int l)=false:=rfl;have ec:BS r=some (l,1):=by unfold BS;rw[hl]
    have x1:AE (.lst ((Ck m rs T i).map cst)) (.int r.a)=.ok (cst (atC (Ck m rs T i) r.a)):=C8 hr.a0 (by rw[D1];exact hr.a1);have x2:AE (.lst (T.map cst)) (.int r.b)=.ok (cst (atC T r.b)):=C8 hr.b0 (by rw[cj];exact hr.b1);have h1:M7 [.tup [.int l,.int 1],cst (atC T r.b)]=.ok (.sh (cst (Aq (some (l,1)) (atC T r.b)))):=UA (some (l,1)) (atC T r.b);have h2:=Su (atC (Ck m rs T i) r.a) (Aq (some (l,1)) (atC T r.b));have ay:=KY (i:=5) (ρ:=[‹Ak m rs›,‹.int g›,‹.lst (T.map cst)›,‹.int m›,‹.lst (rs.map BR)›,some (.own ((Ck m rs T i).map cst)),‹.int r.a›,‹.int r.b›,‹.int l›,‹.int r.w›,none]) (d:=cst (EC (atC (Ck m rs T i) r.a) (Aq (some (l,1)) (atC T r.b)))) (p:=r.a) rfl hr.a0 (by rw[zv,D1];exact hr.a1);have aN:((Ck m rs T i).map cst).set r.a.toNat (cst (EC (atC (Ck m rs T i) r.a) (Aq (some (l,1)) (atC T r.b))))=(Ck m rs T (i+1)).map cst:=by rw[QS hq hr,ec,List.map_set]
    rw[aN] at ay;refine Bf (ρ':=[‹Ak m rs›,‹.int g›,‹.lst (T.map cst)›,‹.int m›,‹.lst (rs.map BR)›,some (.own ((Ck m rs T (i+1)).map cst)),‹.int r.a›,‹.int r.b›,‹.int l›,‹.int r.w›,none]) (by
     simp_arith[lv,a4,x1,x2,h1,h2,ay];try rfl) ⟨some (.int r.a),some (.int r.b),some (.int l),some (.int r.w),rfl⟩
  ·rintro ρ ⟨o6,o7,o8,o9,rfl⟩;rw[zv];exact⟨o6,o7,o8,o9,rfl⟩
 rintro ρ ⟨o6,o7,o8,o9,rfl⟩;obtain⟨U,hU⟩:∃U,U=(Ck m rs T rs.length).set g (some (0,0)):=⟨_,rfl⟩;have zp:U.length=m:=by rw[hU,zbl,D1]
 have ay:=KY (i:=5) (ρ:=[‹Ak m rs›,‹.int g›,‹.lst (T.map cst)›,‹.int m›,‹.lst (rs.map BR)›,some (.own ((Ck m rs T rs.length).map cst)),vO o6,vO o7,vO o8,vO o9,none]) (d:=.tup [.int 0,.int 0]) (p:=(g:Int)) rfl (by omega) (by rw[zv,D1];omega);have aN:((Ck m rs T rs.length).map cst).set (g:Int).toNat (.tup [.int 0,.int 0])=U.map cst:=by rw[hU,zba,List.map_set];rfl
 rw[aN] at ay;refine wp_step (ρ':=[‹Ak m rs›,‹.int g›,‹.lst (T.map cst)›,‹.int m›,‹.lst (rs.map BR)›,some (.own (U.map cst)),vO o6,vO o7,vO o8,vO o9,none]) (by simp_arith[ay];try rfl) ?_;have aY:Vi (.int (m:Int))=.ok (Ce 0 m):=NY (by omega);refine BO (I:=λ ρ=>∃(o:Option D),ρ=[‹Ak m rs›,‹.int g›,‹.lst (T.map cst)›,‹.int m›,‹.lst (rs.map BR)›,some (.own (U.map cst)),vO o6,vO o7,vO o8,vO o9,vO o]) ?_ ?_
 ·simp_arith[aY];refine BP (λ i ρ=>∃(o:Option D),ρ=[‹Ak m rs›,‹.int g›,‹.lst (T.map cst)›,‹.int m›,‹.lst (rs.map BR)›,some (.own (U.map cst)),vO o6,vO o7,vO o8,vO o9,vO o]) ⟨none,rfl⟩ ?_ ?_
  ·rintro i d ρ hd ⟨o,rfl⟩;obtain⟨bT,hi⟩:=G5 hd;rw[Int.zero_add] at bT;subst bT;refine⟨_,rfl,?_⟩;have x1:AE (.lst (U.map cst)) (.int (i:Int))=.ok (cst (atC U i)):=C8 (by omega) (by omega);have x2:AE (.lst (T.map cst)) (.int (i:Int))=.ok (cst (atC T i)):=C8 (by omega) (by omega);have eU:atC U (i:Int)=atC T (i:Int):=by rw[hU];exact YV hg As hT hi
   rw[eU] at x1;have de:=MC (atC T (i:Int));refine Bf (ρ':=[‹Ak m rs›,‹.int g›,‹.lst (T.map cst)›,‹.int m›,‹.lst (rs.map BR)›,some (.own (U.map cst)),vO o6,vO o7,vO o8,vO o9,‹.int i›]) (by simp_arith[x1,x2,de,Eb];try rfl) ⟨some (.int i),rfl⟩
  ·rintro ρ ⟨o,rfl⟩;exact⟨o,rfl⟩
 ·rintro ρ ⟨o,rfl⟩;rfl
noncomputable def MD:=z3 Fp
theorem Qf:FT "_law_prices" 2 3 MD:=(zu Fp).1
theorem Qg:Lr MD:=(zu Fp).2
def Pp (F:List D->M OT):Prop:=∀(m:Nat) (rs:List Road),F [Ak m rs]=.ok (.tup [.sh (.int m),.lst ((rs.map BR).map .sh)])
theorem HX:∃F,FT "_law_copy" 1 1 F/\Pp F:=by
 refine⟨_,λ T=>Au (k:=0) T.W7 U9 _ (λ f B1 A outer s H E hr=>(A4 (Ac (RI (C6 (AA (A8 (!hr) (!0) A3)) (C6 (N5 rfl T.EG (A8 (!hr) (!0) A3)) Cc)))))),?_⟩;intro m rs;rfl';refine B5 ?_;have i0:AE (Ak m rs) (.int 0)=.ok (.int m):=rfl;have i1:AE (Ak m rs) (.int 1)=.ok (.lst (rs.map BR)):=rfl;simp_arith[i0,i1];exact⟨_,rfl,rfl⟩
noncomputable def Rb:=z3 HX
theorem UE:FT "_law_copy" 1 1 Rb:=(zu HX).1
theorem UG:Pp Rb:=(zu HX).2
def Jd (F:List D->M OT):Prop:=∀(m:Nat) (rs:List Road) (s:Nat),m<=900->(∀r∈rs,ID m r)->s<m->∃R:List Int,F [Ak m rs,.int s]=.ok (.lst ((R.map D.int).map .sh))/\∀y∈R,∃c,Wk rs s y c
theorem EV:∃F,FT "_law_reached" 1 2 F/\Jd F:=by
 refine⟨_,λ T=>Au (k:=0) T.Q7 Bs _ (λ f B1 A outer s H E hr=>(A2 (BE 2 Bs.nd rfl (zam rfl) (G6 (C6 (AA (!1)) Cc))) (A2 (BM A7.toXCall.own rfl (Ia (c:=true) rfl T.IG (A8 (!hr) (!0) A3)) (Az 3 Bs.nd rfl (zam rfl)) (A4 (BM A7.toXCall.own rfl (AR (A8 (!hr) (!0) A3)) (LF (n:=4) rfl (B3 (Az 4 Bs.nd rfl (zam rfl)) (B3 (Az 5 Bs.nd rfl (zam rfl)) (B3 (Az 6 Bs.nd rfl (zam rfl)) (B3 (Az 7 Bs.nd rfl (zam rfl)) I9))))) (A4 (AS (Jp (DW.dt (GZ (HY (c:=true) (!6)) (GZ (Jt (c:=true) (!hr) (!4) (!2)) (G3 (K8 (c:=true) (!hr) (!5) (!2))))))) (A4 (Fx 2 (pv 2) (!5))) Ap))))) (A4 (CY 2 (pv 2)))))),?_⟩;intro m rs s hm As hs;rfl';refine (λ h:∃t,_/\∃R:List Int,t=.lst ((R.map D.int).map .sh)/\∀y∈R,∃c,Wk rs s y c=>by
  obtain⟨t,h1,R,rfl,h2⟩:=h;exact⟨R,h1,h2⟩) (IT ?_)
 have n0:AE (Ak m rs) (.int 0)=.ok (.int m):=rfl;have n1:AE (Ak m rs) (.int 1)=.ok (.lst (rs.map BR)):=rfl;have aY:Vi (.int (m:Int))=.ok (Ce 0 m):=NY (by omega);refine wp_step (ρ':=[‹Ak m rs›,‹.int s›,some (.own ([(s:Int)].map D.int)),none,none,none,none,none]) (by rfl) ?_;refine BO (I:=λ ρ=>∃(R:List Int) (s3 s4 s5 s6 s7:Option Cl),ρ=[‹Ak m rs›,‹.int s›,some (.own (R.map D.int)),s3,s4,s5,s6,s7]/\∀y∈R,∃c,Wk rs s y c) ?_ ?_
 ·simp_arith[n0,aY];refine BP (λ i ρ=>∃(R:List Int) (s3 s4 s5 s6 s7:Option Cl),ρ=[‹Ak m rs›,‹.int s›,some (.own (R.map D.int)),s3,s4,s5,s6,s7]/\R.Nodup/\∀y∈R,(0<=y/\y<m)/\∃c,Wk rs s y c) ⟨[(s:Int)],none,none,none,none,none,rfl,by simp,λ y hy=>by rw[z6.mp hy];exact⟨⟨by omega,by omega⟩,_,.nil _⟩⟩ ?_ ?_
  ·rintro i d ρ hd ⟨R,s3,s4,s5,s6,s7,rfl,hn,hR⟩;obtain⟨bT,hi⟩:=G5 hd;rw[Int.zero_add] at bT;subst bT;refine⟨_,rfl,?_⟩;simp_arith[n1];refine BP (λ j ρ=>∃(R:List Int) (s4 s5 s6 s7:Option Cl),ρ=[‹Ak m rs›,‹.int s›,some (.own (R.map D.int)),‹.int i›,s4,s5,s6,s7]/\R.Nodup/\∀y∈R,(0<=y/\y<m)/\∃c,Wk rs s y c) ⟨R,s4,s5,s6,s7,rfl,hn,hR⟩ ?_ ?_
   ·rintro j d ρ hd ⟨R,s4,s5,s6,s7,rfl,hn,hR⟩;obtain⟨r,hq,rfl⟩:=Bi hd;have aY:=za9 hq;have hr:=As r aY;refine⟨[‹Ak m rs›,‹.int s›,some (.own (R.map D.int)),‹.int i›,‹.int r.a›,‹.int r.b›,‹CN r.l›,‹.int r.w›],rfl,?_⟩;cases hl:r.l with
    |none =>
     have a4:AV (CN none)=true:=rfl;refine Bf (ρ':=[‹Ak m rs›,‹.int s›,some (.own (R.map D.int)),‹.int i›,‹.int r.a›,‹.int r.b›,‹CN none›,‹.int r.w›]) (by simp_arith[a4];try rfl) ⟨R,_,_,_,_,rfl,hn,hR⟩
    |some l =>
     have lv:CN (some l)=.int l:=rfl;have a4:AV (.int l)=false:=rfl;by_cases c1:r.a∈R
     ·by_cases c2:r.b∈R
      ·refine Bf (ρ':=[‹Ak m rs›,‹.int s›,some (.own (R.map D.int)),‹.int i›,‹.int r.a›,‹.int r.b›,‹.int l›,‹.int r.w›]) (by simp_arith[lv,a4,zc7.mpr c1,zc7.mpr c2,Eb,if_true,if_false,zag,Bool.not_true];try rfl) ⟨R,_,_,_,_,rfl,hn,hR⟩
      ·have jo:R.contains r.b=false:=by rw[Bool.eq_false_iff];exact λ h=>c2 (zc7.mp h)
       have am:=En hn (u:=BJ m) λ v hv=>FG.mpr (hR v hv).1;rw[Dz] at am;have ba:(R.map D.int).length<1000:=by rw[zv];omega
       refine Bf (ρ':=[‹Ak m rs›,‹.int s›,some (.own ((R++[r.b]).map D.int)),‹.int i›,‹.int r.a›,‹.int r.b›,‹.int l›,‹.int r.w›]) (by
        rw[zao];simp_arith[lv,a4,zc7.mpr c1,jo,Eb,if_true,if_false,zag,zch,if_pos ba];try rfl) ⟨R++[r.b],_,_,_,_,rfl,?_,λ y hy=>?_⟩
       ·rw[zaj];exact⟨hn,by simp,λ a ha b hb=>by rw[z6.mp hb];exact λ e=>c2 (e▸ha)⟩
       ·rcases zab.mp hy with h|h
        ·exact hR y h
        ·rw[z6.mp h];obtain⟨_,c,hc⟩:=hR _ c1;exact⟨⟨hr.b0,hr.b1⟩,_,hc.trans (Wk.one aY hl)⟩
     ·have jn:R.contains r.a=false:=by rw[Bool.eq_false_iff];exact λ h=>c1 (zc7.mp h)
      refine Bf (ρ':=[‹Ak m rs›,‹.int s›,some (.own (R.map D.int)),‹.int i›,‹.int r.a›,‹.int r.b›,‹.int l›,‹.int r.w›]) (by simp_arith[lv,a4,jn,Eb,if_true,if_false,zag,zch];try rfl) ⟨R,_,_,_,_,rfl,hn,hR⟩
   ·rintro ρ ⟨R,s4,s5,s6,s7,rfl,hn,hR⟩;exact⟨R,_,s4,s5,s6,s7,rfl,hn,hR⟩
  ·rintro ρ ⟨R,s3,s4,s5,s6,s7,rfl,hn,hR⟩;exact⟨R,s3,s4,s5,s6,s7,rfl,λ y hy=>(hR y hy).2⟩
 ·rintro ρ ⟨R,s3,s4,s5,s6,s7,rfl,hR⟩;exact⟨_,rfl,R,rfl,hR⟩
noncomputable def Ls:=z3 EV
theorem Pq:FT "_law_reached" 1 2 Ls:=(zu EV).1
theorem Pr:Jd Ls:=(zu EV).2
def ME (F:List D->M OT):Prop:=∀(m:Nat) (rs:List Road) (s g:Nat) (T:List Co) (N:List Nat),m<=16->(∀r∈rs,ID m r/\r.a≠r.b)->s<m->g<m->T.length=m->(∀w:Int,0<=w->w<m->Bk rs w g (atC T w))->(∀c,atC T s=some c->NA rs s N g c.1/\(N.length:Int)=c.2)->F [Ak m rs,.int s,.int g,Jx (atC T s) N T]=.ok (.sh (.bl true))
theorem Gq:∃F,FT "_law_shown" 3 4 F/\ME F:=by
 refine⟨_,λ T=>Au (k:=2) T.Ug Gh _ (λ f B1 A outer s H E hr=>(A2 (AS (De (c:=true) (!3)) (A4 (Ac (AA (jB (!hr) (!2) (Aj (Ab A7.toXCall (Pq T) (-hr) rfl (A1 (!0) (A1 (!1) A6)) rfl)))))) Ap) (A2 (AS (DW.dt (Cp (Bo (B7 (c:=true) (CV (G4 _) rfl T.AK rfl T.Lg (by decide +kernel) (!3)))) (C1 (Fv (c:=true) (!hr) (CU rfl T.EF (!3)) A3)))) (A4 (Ac (AA Cd))) Ap) (A2 (Av 4 Gh.nd rfl (zam rfl) (Aj (Ab A7.toXCall (UB T) (-hr) rfl (A1 (!0) (A1 (!1) (A1 (!2) (A1 (A8 (!hr) (!3) A3) A6)))) rfl))) (A2 (AS (DW.dt (Cp (De (c:=true) (!4)) (Cp (Bo (B7 (c:=true) (Aj (Ab A7.toXCall (MB T) (-hr) rfl (A1 (A8 (!hr) (!3) A3) (A1 (!4) A6)) rfl)))) (C1 (Bo (B7 (c:=true) (Aj (Ab A7.toXCall (Qf T) (-hr) rfl (A1 (!0) (A1 (!2) (A1 (A8 (!hr) (!3) A3) A6))) rfl)))))))) (A4 (Ac (AA Cd))) Ap) (A2 (Av 5 Gh.nd rfl (zam rfl) (Aj (N9 (Fe (A1 (!1) A6)) (Aj (CZ (NB:=["_law_road_here","_law_net"]) [none,some 0] rfl (AR (A8 (!hr) (!3) A3)) rfl rfl (Bw 0 (by decide) rfl rfl rfl) (λ _ _ _ _=>E9) (λ _ _ _ _=>(A8 (!hr) (A8 (!hr) (A8 (!hr) (!1) A3) (!0)) A3))))))) (A4 (Ac (AA (Ry (WH (!hr) (YX rfl rfl T.EF rfl T.wH (!5)) (CU rfl T.EF (!5))) (Rx (WH (!hr) (A8 (!hr) (A8 (!hr) (!3) A3) (!1)) (!4))))))))))))),?_⟩;intro m rs s g T N hm As hs hg cj hT hN;rfl';refine B5 ?_;have ck:∀r∈rs,ID m r:=λ r hr=>(As r hr).1;cases hc:atC T s with
 |none =>
  have a4:AV (Jx none N T)=true:=rfl;obtain⟨R,xv,hR⟩:=Pr m rs s (by omega) ck hs;have xw:R.contains (g:Int)=false:=by
   rw[Bool.eq_false_iff];intro h;obtain⟨c,hw⟩:=hR _ (zc7.mp h);have:=(hT s (by omega) (by omega)).1 c hw;rw[hc] at this;exact this
  simp_arith[a4,xv,xw,Eb,if_true,zch];rfl
 |some c =>
  obtain⟨n1,n2⟩:=hN c hc;have aA:=hT s (by omega) (by omega);rw[hc] at aA;have jx:=Ht As ⟨by omega,by omega⟩ aA;have a4:AV (Jx (some c) N T)=false:=rfl;have a0:AE (Jx (some c) N T) (.int 0)=.ok (cst (some c)):=rfl;have a1:AE (Jx (some c) N T) (.int 1)=.ok (DZ N):=rfl;have a2:AE (Jx (some c) N T) (.int 2)=.ok (.lst (T.map cst)):=rfl;have ty:IQ "tuple" (Jx (some c) N T)=.ok (.bl true):=rfl;have dl:Vd [Jx (some c) N T]=.ok (.int 3):=rfl;have hw:=UC m rs s g c N n1 n2;have de:=MC (some c);have xx:=Qg m rs g T (by omega) ck hg cj hT;have xy:AV (cst (some c))=false:=rfl;have eN:DZ N=.lst (N.map λ n:Nat=>D.int (n:Int)):=rfl;have x1:AE (.lst (T.map cst)) (.int (s:Int))=.ok (cst (atC T s)):=C8 (by omega) (by omega);rw[hc] at x1;have cr:=KS (some c) (some c);have xz:AE (Ak m rs) (.int 1)=.ok (.lst (rs.map BR)):=rfl;have hpl:=VS As n1 (by rw[n2];exact aA);have hlen:((s:Int)::DB rs N).length<=17:=by
   rw[z5];unfold DB;rw[zv];omega
  have bo:(N.map λ n:Nat=>D.int (n:Int)).length<=1000:=by rw[zv];omega
  apply wp_step
  ·simp_arith[a4];rfl
  apply wp_step
  ·simp_arith[ty,dl,Eb];rfl
  refine wp_step (ρ':=[‹Ak m rs›,‹.int s›,‹.int g›,‹Jx (some c) N T›,‹cst (some c)›,none]) (by simp_arith[a1,hw];try rfl) ?_;refine wp_step (ρ':=[‹Ak m rs›,‹.int s›,‹.int g›,‹Jx (some c) N T›,‹cst (some c)›,none]) (by simp_arith[xy,a0,a2,de,xx,Eb];try rfl) ?_;have j9:Md (.lst [.int (s:Int)]) (.lst ((DB rs N).map D.int))=.ok (.lst ((((s:Int)::DB rs N).map D.int).map .sh)):=Nv (by rw[zv,zav];rw[z5] at hlen;omega);refine wp_step (ρ':=[‹Ak m rs›,‹.int s›,‹.int g›,‹Jx (some c) N T›,‹cst (some c)›,‹.lst (((s:Int)::DB rs N).map D.int)›]) (by
   simp_arith[a1,eN,if_pos bo];rw[BQ (λ n:Nat=>D.int (((rs[n]?).map Road.b).getD 0)) (λ n hn=>⟨_,rfl,rfl,by
    have af:=rR n1 n hn;have hx:AE (.lst (rs.map BR)) (.int (n:Int))=.ok (BR rs[n]):=Gb (by omega) (by rw[zba,z4 af]);have r1:AE (BR rs[n]) (.int 1)=.ok (.int rs[n].b):=rfl;have eg:((rs[n]?).map Road.b).getD 0=rs[n].b:=by rw[z4 af];rfl
    rw[eg];simp_arith[xz,hx,r1]⟩)]
   have em:N.map (λ n:Nat=>D.int (((rs[n]?).map Road.b).getD 0))=(DB rs N).map D.int:=by unfold DB;rw[zbf];rfl
   rw[em];simp_arith[j9];try rfl) ?_
  have uw:=eZ (ns:=(s:Int)::DB rs N) (by omega);rw[VR hpl.1] at uw;have sK:((((s:Int)::DB rs N).map D.int).length:Int)=((((s:Int)::DB rs N).length:Nat):Int):=by rw[zv]
  simp_arith[uw,sK,a2,x1,cr,Eb,decide_true,if_true];rfl
noncomputable def Pt:=z3 Gq
theorem Sv:FT "_law_shown" 3 4 Pt:=(zu Gq).1
theorem Sw:ME Pt:=(zu Gq).2
theorem Wj:∃F:List D->M D,(∀ {P w K mg base f fd},Txt K mg->Z9 K "law" "law" QX f fd->E7 P w K mg base hX 9 f fd ["_law_script"] (Vj K 1 F))/\(∀ns:List Int,ns.length<=63->(∀n∈ns,Sm n)->F [.lst (ns.map D.int)]=.ok (.bl true)):=by
 refine⟨_,fun {P w K mg base f fd} T F=>uS (k:=8) F HA _ (λ B1 A outer s H E hr=>(A2 (Av 1 HA.nd rfl (zam rfl) (A8 (!hr) (Fe (A1 A3 (A1 A3 (A1 A3 (A1 A3 (A1 A3 A6)))))) (BF (Aj (Cu (Ab (BN rfl).toXCall (Eh T) (-hr) rfl (A1 (Aj (Ab (BN rfl).toXCall (HQ T) (-hr) rfl (A1 (!0) (A1 A3 A6)) rfl)) (A1 A3 A6)) rfl))) A3))) (A2 (Av 2 HA.nd rfl (zam rfl) (Aj (Cu (Ab (BN rfl).toXCall (Wh T) (-hr) rfl (A1 (!0) (A1 (!1) (A1 A3 A6))) rfl)))) (A2 (Av 3 HA.nd rfl (zam rfl) (Aj (Cu (dJ (BN rfl).toXCall (JI T) (-hr) rfl (A1 (Aj (Ab (BN rfl).toXCall (UE T) (-hr) rfl (A1 (!2) A6) rfl)) A6) rfl)))) (A2 (BM PassesOwn.never rfl (AR (Aj (N9 (Fe (A1 A3 A6)) (Aj (Kc (!0) RB (JZ A3)))))) (Az 4 HA.nd rfl (zam rfl)) (A2 (Av 5 HA.nd rfl (zam rfl) (Aj (Cu (Ab (BN rfl).toXCall (Eh T) (-hr) rfl (A1 (!4) (A1 A3 A6)) rfl)))) (A2 (Av 6 HA.nd rfl (zam rfl) (BF (!5) (A8 (!hr) (!2) A3))) (A2 (Av 7 HA.nd rfl (zam rfl) (BF (Cr (!5) A3) (A8 (!hr) (!2) A3))) (A4 (AS (Bo (B7 (c:=true) (Aj (Cu (Ab (BN rfl).toXCall (Sv T) (-hr) rfl (A1 (!2) (A1 (!6) (A1 (!7) (A1 (Aj (Ab (BN rfl).toXCall (rT T) (-hr) rfl (A1 (!3) (A1 (!6) (A1 (!7) A6))) rfl)) A6)))) rfl))))) (A4 (bQ (Vb Cd))) Ap)))))) (A4 (bQ (Vb Cd)))))))),?_⟩;intro ns iq bt;rfl';refine vI ?_;obtain⟨z1,bW,ju⟩:=HR ns 1 bt;have r6:Eg [.lst (ns.map D.int),.int 1]=.ok (.sh (.int z1)):=ju;obtain⟨v,v0,hv⟩:=Ei z1 41 (by decide) (by decide);have q5:G1 (.int v) (.int 5)=.ok (.int (v%5)):=Bp (by decide);obtain⟨P,uu,j8,x3⟩:∃P:Int,2<=P/\P<=16/\AE (.lst [.int 8,.int 8,.int 16,.int 8,.int 8]) (.int (v%5))=.ok (.int P):=by
  have h5:v%5=0\/v%5=1\/v%5=2\/v%5=3\/v%5=4:=by omega
  rcases h5 with h|h|h|h|h
  ·rw[h];exact⟨8,by decide,by decide,rfl⟩
  ·rw[h];exact⟨8,by decide,by decide,rfl⟩
  ·rw[h];exact⟨16,by decide,by decide,rfl⟩
  ·rw[h];exact⟨8,by decide,by decide,rfl⟩
  ·rw[h];exact⟨8,by decide,by decide,rfl⟩
 obtain⟨m,rs,bB,aQ,rj,g8,tm,x4,x5⟩:=Wi ns P uu j8 iq bt;have r9:∀r∈rs,ID m r/\r.a≠r.b:=λ r hr=>(g8 r hr).okR;have i0:AE (Ak m rs) (.int 0)=.ok (.int m):=rfl;have di:(0:Int)<(m:Int):=by omega
 refine wp_step (ρ':=[‹.lst (ns.map D.int)›,‹.int P›,none,none,none,none,none,none]) (by simp_arith[r6,hv,q5,x3];try rfl) ?_;refine wp_step (ρ':=[‹.lst (ns.map D.int)›,‹.int P›,‹Ak m rs›,none,none,none,none,none]) (by simp_arith[x4,x5];try rfl) ?_;have jz:=UG m rs;have x6:=lP m rs;obtain⟨A,K,ok,t2,x8,ux⟩:=JJ m rs .AN (Yz m (C9 rs) (BJ m)) bB (by omega) (by omega) g8 (TU m _ _ (Dz m)) (.inr ⟨rfl,rfl⟩);have g2:cU (Du (.ins "Ladder" [] []) ([Ak m rs]++[.AN]))=.ok t2:=by
  rw[show [Ak m rs]++[D.AN]=[Ak m rs,.AN] from rfl,x8];rfl
 obtain⟨L,hL⟩:∃L,L=Yz m (C9 rs) (BJ m):=⟨_,rfl⟩;rw[<-hL] at ok ux;refine wp_step (ρ':=[‹.lst (ns.map D.int)›,‹.int P›,‹Ak m rs›,‹AW m rs L A K›,none,none,none,none]) (by simp_arith[jz,x6,g2,ux];try rfl) ?_;obtain⟨cs,d5⟩:∃cs:List Int,cs=6::ns.take 12:=⟨_,rfl⟩;have sl:cO none (some 12) (.lst (ns.map D.int))=.ok (.lst (((ns.take 12).map D.int).map .sh)):=by rw[List.map_take];exact cR _ 12
 have hpl:Md (.lst [.int 6]) (.lst ((ns.take 12).map D.int))=.ok (.lst ((cs.map D.int).map .sh)):=by
  rw[d5];exact Nv (by rw[zv,zbi,zav];omega)
 refine BO (I:=λ ρ=>∃s4 s5 s6 s7:Option Cl,ρ=[‹.lst (ns.map D.int)›,‹.int P›,‹Ak m rs›,‹AW m rs L A K›,s4,s5,s6,s7]) ?_ ?_
 ·simp_arith[sl,hpl];refine BP (λ i ρ=>∃s4 s5 s6 s7:Option Cl,ρ=[‹.lst (ns.map D.int)›,‹.int P›,‹Ak m rs›,‹AW m rs L A K›,s4,s5,s6,s7]) ⟨none,none,none,none,rfl⟩ ?_ ?_
  ·rintro i d ρ hd ⟨s4,s5,s6,s7,rfl⟩;obtain⟨z,hz,rfl⟩:=Bi hd;refine⟨_,rfl,?_⟩;obtain⟨x,x0,hx⟩:=Ei z 50 (by decide) (by decide);have q1:G1 (.int x) (.int (m:Int))=.ok (.int (x%m)):=Bp di;have gw:Fu (.int x) (.int 16)=.ok (.int (x / 16)):=BY ⟨by decide,by decide⟩;have q2:G1 (.int (x / 16)) (.int (m:Int))=.ok (.int (x / 16%m)):=Bp di;obtain⟨s,hs⟩:∃s:Nat,(s:Int)=x%m:=⟨(x%m).toNat,by have:=zbq x (b:=(m:Int)) (by omega);omega⟩;have ka:s<m:=by have:=zbr x di;omega
   obtain⟨g,hg⟩:∃g:Nat,(g:Int)=x / 16%m:=⟨(x / 16%m).toNat,by have:=zbq (x / 16) (b:=(m:Int)) (by omega);omega⟩;have kb:g<m:=by have:=zbr (x / 16) di;omega
   rw[<-hs] at q1;rw[<-hg] at q2;obtain⟨T,N,cj,hT,hN,t,x9,xL⟩:=rV m rs L A K s g ok ka kb;have nj:=Sw m rs s g T N (by omega) r9 ka kb cj hT hN;refine wp_step (ρ':=[‹.lst (ns.map D.int)›,‹.int P›,‹Ak m rs›,‹AW m rs L A K›,‹.int z›,‹.int x›,s6,s7]) (by simp_arith[hx];try rfl) ?_;refine wp_step (ρ':=[‹.lst (ns.map D.int)›,‹.int P›,‹Ak m rs›,‹AW m rs L A K›,‹.int z›,‹.int x›,‹.int s›,s7]) (by simp_arith[i0,q1];try rfl) ?_;refine wp_step (ρ':=[‹.lst (ns.map D.int)›,‹.int P›,‹Ak m rs›,‹AW m rs L A K›,‹.int z›,‹.int x›,‹.int s›,‹.int g›]) (by simp_arith[i0,gw,q2];try rfl) ?_;refine Bf (ρ':=[‹.lst (ns.map D.int)›,‹.int P›,‹Ak m rs›,‹AW m rs L A K›,‹.int z›,‹.int x›,‹.int s›,‹.int g›]) (by simp_arith[x9,xL,nj,Eb];try rfl) ⟨_,_,_,_,rfl⟩
  ·rintro ρ ⟨s4,s5,s6,s7,rfl⟩;exact⟨s4,s5,s6,s7,rfl⟩
 ·rintro ρ ⟨s4,s5,s6,s7,rfl⟩;rfl
noncomputable def fN:List D->M D:=z3 Wj
theorem rW {P w K mg base f fd}:Txt K mg->Z9 K "law" "law" QX f fd->E7 P w K mg base hX 9 f fd ["_law_script"] (Vj K 1 fN):=(zu Wj).1
theorem rX:∀ns:List Int,ns.length<=63->(∀n∈ns,Sm n)->fN [.lst (ns.map D.int)]=.ok (.bl true):=(zu Wj).2
set_option maxHeartbeats 0 in
set_option maxHeartbeats 0 in
set_option maxHeartbeats 0 in
set_option maxHeartbeats 0 in
theorem left (w:World):(PySem.W.openEnds treeTable PySem.Challenge.pw_nodeladder_k91_whole_ways_and_prices w 6100).map (λ s=>PySem.W.openSeen (D5 PySem.Challenge.pw_nodeladder_k91_whole_ways_and_prices) [] (importedModules PySem.Challenge.pw_nodeladder_k91_whole_ways_and_prices.main.body) (λ s=>PySem.W.xlAt (D5 PySem.Challenge.pw_nodeladder_k91_whole_ways_and_prices) [] s&&PySem.W.recOk [] s) true s)=some (PySem.W.openGood (D5 PySem.Challenge.pw_nodeladder_k91_whole_ways_and_prices) []):=by
 rw[Xa,qO,PySem.W.Fast.te4187177175401517315,PySem.W.Fast.te5923862056798008813,PySem.W.Fast.te9095788939301439607];exact RT (sO w) (RT (sP w) (RT (sQ w) (sR w)))
set_option maxHeartbeats 0 in
theorem rY (w:World):Rc (Kp R0 PySem.Challenge.pw_nodeladder_k91_whole_ways_and_prices w) PySem.Challenge.pw_nodeladder_k91_whole_ways_and_prices:=by
 rw[qO,PySem.W.Fast.te9095788939301439607];exact fR w
set_option maxHeartbeats 0 in
theorem rZ (w:World):Rf (Kp R0 PySem.Challenge.pw_nodeladder_k91_whole_ways_and_prices w) PySem.Challenge.pw_nodeladder_k91_whole_ways_and_prices:=by
 rw[qO,PySem.W.Fast.te9095788939301439607];exact fS w
theorem all_mk {l:PySem.W.OpenLaw}{w:World}{K:zt}{h:Heap}{mg:Str->Option Value}{fa:Addr}(X:K.In h)(G:h.Ns mainGlobals mg)(ya:mg "law" = some (.ref fa))(u0:Rc K PySem.Challenge.pw_nodeladder_k91_whole_ways_and_prices)(u1:Rf K PySem.Challenge.pw_nodeladder_k91_whole_ways_and_prices):
 ∃fd:FuncData,(∀(s:Shared) (v:Value),BindsTo s fd ⟨[v],[]⟩ [("_law_script",v)])/\∀base:Heap,K.In base->base.Ns mainGlobals mg->E7 l.prog w K mg base hX 9 fa fd ["_law_script"] (Vj K 1 fN):=by
 have ag:XM K _:=⟨u0.1.1.1.1.1.2,u0.1.1.1.1.2,u0.1.1.1.2.1,u0.1.1.1.2.2⟩;obtain⟨zq,kc,yb,to35,yc,ke,yd,ye,yf,yg,kg,kh,ko,kr,kt,yh,yi,yj,yk,yl,ku⟩:=u1.2.2.2.2.1.ex;have ym:=kG (st:=AB) yj yk yl;have yn:Binds K (zb2 "__init__" "Ladder.__init__" (Bt AB) (AQ AB) (A5 AB) (.ref kc) kg kh ko ke kr kt) ["self","net","order"] []:=λ s us hK hl=>by
  have am:us.length=3:=by simpa using hl
  rcases us with _|⟨_,_|⟨_,_|⟨_,_|⟨_,us⟩⟩⟩⟩<;>first|exact PySem.W.binds_K hK rfl ku rfl rfl rfl|(simp at am)
 have yo:Binds K (zb2 "__init__" "Ladder.__init__" (Bt AB) (AQ AB) (A5 AB) (.ref kc) kg kh ko ke kr kt) ["self","net","order"] [.none]:=λ s us hK hl=>by
  have am:us.length=2:=by simpa using hl
  rcases us with _|⟨_,_|⟨_,_|⟨_,_|⟨_,us⟩⟩⟩⟩<;>first|exact PySem.W.binds_K hK rfl ku rfl rfl rfl|(simp at am)
 have yp:Vy K mg "Ladder" "Ladder.__init__" AB ["self","net","order"]:=⟨_,_,_,⟨u0.1.1.1.1.1.1,PySem.W.mg_of X G u0.1.1.1.1.1.1⟩,⟨u0.1.1.2.1.1.1,yh,yi,u0.1.1.2.1.1.2⟩,ym,yn,yo⟩;obtain⟨zr,yq,yr,yt,yu,yv,yw,yx,yy,yz,u3,y2,y3,y4⟩:=u1.2.2.2.2.2.ex;cases ya.symm.trans (PySem.W.mg_of X G u3);have se:=V6 (st:=QX) y2 y3 y4;have y6:AG K mg "law" QX ["_law_script"]:=⟨_,_,se,PySem.W.mg_of X G u3,se.binds (λ _ _ _ _ _ _=>xF λ _=>rfl)⟩;have T:Txt K mg:=⟨AO X G u0.1.1.2.1.2,AO X G u0.1.1.2.2.1,AO X G u0.1.1.2.2.2,AO X G u0.1.2.1.1.1.1,AO X G u0.1.2.1.1.1.2,AO X G u0.1.2.1.1.2,AO X G u0.1.2.1.2.1,AO X G u0.1.2.1.2.2,AO X G u0.1.2.2.1.1.1,AO X G u0.1.2.2.1.1.2,AO X G u0.1.2.2.1.2,AO X G u0.1.2.2.2.1,AO X G u0.1.2.2.2.2,AO X G u0.2.1.1.1.1.1,AO X G u0.2.1.1.1.1.2,AO X G u0.2.1.1.1.2,AO X G u0.2.1.1.2.1,AO X G u0.2.1.1.2.2,AO X G u0.2.1.2.1.1.1,AO X G u0.2.1.2.1.1.2,AO X G u0.2.1.2.1.2,AO X G u0.2.1.2.2.1,AO X G u0.2.1.2.2.2,AO X G u0.2.2.1.1.1.1,AO X G u0.2.2.1.1.1.2,AO X G u0.2.2.1.1.2,AO X G u0.2.2.1.2.1,AO X G u0.2.2.1.2.2,AO X G u0.2.2.2.1.1,AO X G u0.2.2.2.1.2,AO X G u0.2.2.2.2.1,AO X G u0.2.2.2.2.2,AO X G u1.1.1.1.1.1.1,AO X G u1.1.1.1.1.1.2,yp,Tz u0.1.1.1.1.1.1 ag u1.1.1.1.1.2,Tz u0.1.1.1.1.1.1 ag u1.1.1.1.2.1,Tz u0.1.1.1.1.1.1 ag u1.1.1.1.2.2,Tz u0.1.1.1.1.1.1 ag u1.1.1.2.1.1.1,Tz u0.1.1.1.1.1.1 ag u1.1.1.2.1.1.2,AO X G u1.1.1.2.1.2,AO X G u1.1.1.2.2.1,AO X G u1.1.1.2.2.2,AO X G u1.1.2.1.1.1.1,AO X G u1.1.2.1.1.1.2,AO X G u1.1.2.1.1.2,AO X G u1.1.2.1.2.1,AO X G u1.1.2.1.2.2,AO X G u1.1.2.2.1.1.1,AO X G u1.1.2.2.1.1.2,AO X G u1.1.2.2.1.2,AO X G u1.1.2.2.2.1,y6,zaz X G u1.1.2.2.2.2,zaz X G u1.2.1.1.1.1.1,zaz X G u1.2.1.1.1.1.2,zaz X G u1.2.1.1.1.2,zaz X G u1.2.1.1.2.1,zaz X G u1.2.1.1.2.2,zaz X G u1.2.1.2.1.1.1,zaz X G u1.2.1.2.1.1.2,zaz X G u1.2.1.2.1.2,zaz X G u1.2.1.2.2.1,zaz X G u1.2.1.2.2.2,zaz X G u1.2.2.1.1.1.1,zaz X G u1.2.2.1.1.1.2,zaz X G u1.2.2.1.1.2,⟨_,u0.1.1.1.1.1.1,ag,u1.2.2.1.2.1⟩,⟨_,u0.1.1.1.1.1.1,ag,u1.2.2.1.2.2⟩,⟨_,u0.1.1.1.1.1.1,ag,u1.2.2.2.1.1⟩,⟨_,u0.1.1.1.1.1.1,ag,u1.2.2.2.1.2⟩⟩;refine⟨_,?_,λ base _ _=>rW T se⟩;exact λ s v=>.of_eq rfl
theorem walk {l:PySem.W.OpenLaw}{q:Program}{loose:List Str}{XP:(Str->Option Value)->Heap->Prop}{YP:World->Heap->Prop}{d:DefRec}{K:World->zt}(hn:l.most=some 63)(f8:d.params.defaults=[])
 (hY:∀(w:World) (h:Heap),YP w h->(K w).In h)
 (F:∀(w:World) (mg:Str->Option Value) (fa:Addr) (h:Heap),(K w).In h->h.Ns mainGlobals mg->mg d.name=some (.ref fa)->
  ∃fd:FuncData,(∀(s:Shared) (u:Value),BindsTo s fd ⟨[u],[]⟩ [("_law_script",u)])/\∀base:Heap,(K w).In base->base.Ns mainGlobals mg->E7 l.prog w (K w) mg base hX 9 fa fd ["_law_script"] (Vj (K w) 1 fN)):
 PySem.W.WalkO q loose XP YP l.row.toRowW d [] (λ f vs=>PySem.call f vs):=
 L2.vN (n:=63) (k:=9) (x := "_law_script") (CX:=λ _=>hX) (sp:=λ w=>Vj (K w) 1 fN) hn (by decide) f8 ⟨rfl,by decide,by decide⟩ hY F (λ w H a ns bt hl _ hS=>iS rX (K w) H a ns bt hl hS) λ _ _ _ _ _ z=>z
end cu
open PySem PySem.W PyProof.Rows L2
set_option maxRecDepth 100000 in
set_option maxHeartbeats 0 in
theorem PySem.Challenge.cw_nodeladder_k91_whole_ways_and_prices_holds : PySem.Challenge.rw_nodeladder_k91_whole_ways_and_prices.Holds := by
 w_on;o_law
 refine holds_open (q:=D5 PySem.Challenge.pw_nodeladder_k91_whole_ways_and_prices) (loose:=[]) (Xt:=λ s=>xlAt (D5 PySem.Challenge.pw_nodeladder_k91_whole_ways_and_prices) [] s&&recOk [] s) (XP:=XL (D5 PySem.Challenge.pw_nodeladder_k91_whole_ways_and_prices) []) (Yf:=λ s=>s.heap) (Ya:=λ w=>Zd R0 PySem.Challenge.pw_nodeladder_k91_whole_ways_and_prices w 6100) (YP:=λ w h=>vM (Zd R0 PySem.Challenge.pw_nodeladder_k91_whole_ways_and_prices w 6100) h) (N:=6100) (kH cu.left) (λ w s e b o q=>by rw[<-e] at q;exact q) (λ w h h' a b c o q=>b c o (a c o q)) (λ s e=>xl_of s (Bool.and_eq_true_iff.mp e).1) XL.keeps (by rfl) (by rfl) (by rfl) (λ s e=>recFacts_of (Bool.and_eq_true_iff.mp e).2) (by rfl) (by first|assumption|decide +kernel) (by decide +kernel) ⟨rfl,rfl,rfl,rfl,rfl,by decide +kernel⟩ ?hw ?hc;case hw=>w_witness2
 case hc =>
  refine cu.walk (l:=PySem.Challenge.rw_nodeladder_k91_whole_ways_and_prices) (K:=cu.Kp R0 PySem.Challenge.pw_nodeladder_k91_whole_ways_and_prices) rfl rfl (λ w h Y=>qP Y) ?F;intro w mg fa h KX G f9;exact cu.all_mk KX G f9 (cu.rY w) (cu.rZ w)
