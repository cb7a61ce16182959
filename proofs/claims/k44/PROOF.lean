import PyProof.Rows.All
import Wide.All
import OpenK.AllK
import Wide.FinOn
import Lean
import PyProof.EqAt
import PyProof.EqKinds
import PyProof.TupleCall
import PyProof.NeKinds
import KE.KRevSl
import KE.KIsAll
import PyProof.FitsBits
import KE.LcSums
import KE.KRevIter
import PyProof.ListRange
import PyProof.Rows.SumAny
import PyProof.Rows.SortWalk
import PyProof.AttrMissHeap
import KE.KDictOf
import PyProof.ZipIter
import PyProof.DictWalks
import KE.KDictList
import KE.KFind
import KE.KDictSum
import KE.KSortTup
import PySem.Challenge.RW_nodeladder_k44_whole_any_order
set_option bootstrap.genMatcherCode false
set_option Elab.async false
set_option linter.all false
set_option maxRecDepth 1000000
open PySem.W renaming Frag→za0,nsIn→zb1,findIn→zb9,mg_none_of→zbd,fnOf→zbh,keepIn→zbj,emptyDict→zc2,codeIn→zc3,kia_one→zcm,instObj→zcn
open Classical renaming choose_spec→za1,choose→za6,byContradiction→zd2,propDecidable→zdd
open List renaming length_map→za2,mem_cons_self→za3,mem_cons_of_mem→za4,map_cons→za5,mem_singleton→za7,getElem?_eq_getElem→za8,length_cons→za9,mem_cons→zaa,mem_append_right→zac,size_toArray→zad,set_cons_succ→zae,set_cons_zero→zah,getElem?_eq_some_iff→zai,length_append→zaj,replicate→zak,getElem?_map→zam,mem_append→zan,mem_of_getElem?→zao,mem_map→zaq,getElem?_cons_succ→zau,foldl_cons→zav,nodup_append→zax,map_append→zay,mem_filter→zb2,mem_append_left→zb3,getElem?_set_self→zb4,range→zb6,getD_eq_getElem?_getD→zb7,append_nil→zb8,getElem?_cons_zero→zbb,nodup_cons→zbe,length_singleton→zbf,getElem?_eq_none→zbg,append_assoc→zbk,length_reverse→zbn,getElem?_set_ne→zbp,map_map→zbv,length_set→zbw,take_length→zbx,length_take→zby,nodup_nil→zbz,mem_range→zc0,lookup_cons→zc1,take_add_one→zc4,replicate_succ→zc5,getElem?_range→zc6,filterMap_cons→zc7,getElem?_append_left→zc8,take_append_drop→zc9,mem_of_mem_take→zcd,getElem?_replicate→zcg,length_range→zci,contains_iff_mem→zck,drop_eq_getElem_cons→zcl,drop_length→zct,map_nil→zcy,length_filter_le→zcz,find?_cons→zd0,ext_getElem?→zd4,any_cons→zd5,getElem?_append_right→zd6,length_drop→zd9,cons_append→zda,all_eq_true→zdb
open PySem.Heap renaming get?_push_of_some→zab,lt_size→zaf,get?_push_size→zap,SameBut→zd1
open Nat renaming le_refl→zag,lt_of_lt_of_le→zal,ne_of_lt→zar,zero_le→zbc,le_trans→zbq,le_of_lt→zbr,ne_of_gt→zcs
open Option.some renaming inj→zas
open Bool renaming false_eq_true→zat,false_ne_true→zaw,and_eq_true→zb5,eq_iff_iff→zcr,not_false→zcv
open Or renaming inl→zaz
open Prod renaming fst→zb0,snd→zbt
open PyProof.Rows renaming callWith_type1→zba
open Ne renaming symm→zbi
open Int renaming toNat_natCast→zbl,emod_nonneg→zca,emod_lt_of_pos→zcb,add_assoc→zd7
open PySem.Value renaming ref→zbm
open Option renaming map_some→zbo,isSome_iff_exists→zbu
open PySem.Builtin.Int renaming intBits→zbs
open PySem.F renaming plainAttrs_list→zcc,plain_min_loop→zch
open PySem.W.Fast renaming tw5923862056798008813→zce,tw4187177175401517315→zcf
open PySem.Calls renaming spliced_cons→zcj,spliced_nil→zcq
open PySem.Around renaming under_plainId→zco
open False renaming elim→zcp
open True renaming intro→zcu
open PySem.NameKind renaming free→zcw
open PySem.Paired renaming length→zcx
open PySem.Builtin.List renaming listTooLong→zd3
open PySem renaming mem_of_lookup→zd8
open ForInStep renaming yield→zdc
open Array renaming length_toList→zde
section
set_option maxHeartbeats 0
namespace L2
open PySem PySem.Spec PyProof.Rows PySem.W PySem.Calls
noncomputable def inClass (s:Stmt)(j:Nat):Stmt:=match s with
 | .ClassDef _ _ _ body _ _ _ _ _ _ _=>body.getD j (.Pass ⟨0,0,0,0⟩)
 |_=>.Pass ⟨0,0,0,0⟩
noncomputable def Bx (s:Stmt):Arguments:=match s with
 | .FunctionDef _ a _ _ _ _ _ _ _ _=>a
 |_=>{posonlyargs:=[],args:=[],vararg:=none,kwonlyargs:=[],kw_defaults:=[],kwarg:=none,defaults:=[]}
noncomputable def AU (s:Stmt):List Stmt:=match s with
 | .FunctionDef _ _ b _ _ _ _ _ _ _=>b
 |_=>[]
noncomputable def A8 (s:Stmt):Scope:=match s with
 | .FunctionDef _ _ _ _ _ _ sc _ _ _=>sc
 |_=>{kind:=.function,names:=[],isGenerator:=false,isCoroutine:=false}
structure FP (K:za0)(x:Str)(st:Stmt):Prop where
 ex:∃(f:Addr) (oc:Value) (od an:Option Addr) (sl:Array (Option Value)) (kV dc pm cd ct:Value),zb1 K mainGlobals x=some (some (.ref f))/\K.lookup f=some ⟨oc,od,.func (zbh x x (Bx st) (AU st) (A8 st) .none kV dc pm an cd ct),sl⟩/\zc3 K cd x=true/\zbj K (.ref f)=true
structure MP (K:za0)(C:Addr)(m qual:Str)(st:Stmt):Prop where
 ex:∃(f:Addr) (oc:Value) (od an:Option Addr) (sl:Array (Option Value)) (kV dc pm cd ct:Value),zb9 K (.ref C) m=some (some (.ref f))/\PySem.W.isFn K (.ref f)=true/\K.lookup f=some ⟨oc,od,.func (zbh m qual (Bx st) (AU st) (A8 st) .none kV dc pm an cd ct),sl⟩/\zc3 K cd qual=true/\zbj K (.ref f)=true
noncomputable def Dg (p:Program):Program:={p with main:={p.main with body:=p.main.body.filter λ s=>match s with | .FunctionDef .. =>true | .ClassDef .. =>true | _=>false} }
structure Rn where
 run:(String->Option Builtin)->Program->World->Nat->Option Value->Nat->Shared->Thread->Option Shared
 ns:Heap->Addr->Str->Option Value
 imp:(String->Option Builtin)->Program->World->Nat->Shared->Thread->Option Shared
 fen:Program->Shared->Option Shared
 st:Program->Shared×Thread
 tb:String->Option Builtin
noncomputable def NX (R:Rn)(p:Program)(w:World)(N:Nat):Option Shared:=
 ((R.imp R.tb (opening p) w N (R.st (opening p)).fst (R.st (opening p)).snd).bind (R.fen p)).bind λ s₀ =>
 match s₀.heap.isNs mainGlobals&&s₀.gens.size==0 with
 |true=>(R.run R.tb p w s₀.heap.objs.size (R.ns s₀.heap mainGlobals (Str.ofString "__annotations__")) N s₀ (topStub p)).bind λ s₁ =>
  match staticsOk (importedModules p.main.body) s₀.heap s₁.heap&&namesBound p s₁.heap&&gensDone s₁&&laidKept s₀.heap s₁.heap with
  |true=>some s₁
  |false=>none
 |false=>none
noncomputable def R1:Rn:=⟨PySem.W.Fast.tw14082659384304107361,PySem.W.Fast.tw8920871248978507458,PySem.W.Fast.tw10274390034422433532,PySem.W.Fast.tw14289696077712309145,PySem.W.Fast.tw1435165496053646825,PySem.W.Fast.tw14364793385576792824⟩
noncomputable def ZR (R:Rn)(p:Program)(w:World)(N:Nat):Heap:=match NX R p w N with | some s=>s.heap | none=>⟨#[],default⟩
noncomputable def xY (h:Heap)(as:List Addr):za0:=as.filterMap λ a=>(h.get? a).map λ o=>(a,o)
noncomputable def adN (v:Option (Option Value)):Addr:=match v with | some (some (.ref f))=>f | _=>0
noncomputable def Hd (K:za0)(f:Addr):Obj:=(K.lookup f).getD ⟨.none,none,.plain,#[]⟩
noncomputable def Q8 (d:Data)(st:Stmt):FuncData:=match d with | .func fd=>fd | _=>zbh Str.empty Str.empty (Bx st) [] (A8 st) .none .none .none .none none .none .none
noncomputable def yT (v:Value):Addr:=match v with | .ref a=>a | _=>0
noncomputable def yU (d:Data):Nat:=match d with | .seq _ n=>n | _=>0
noncomputable def cA (K:za0)(x:Str):Addr:=adN (zb1 K mainGlobals x)
noncomputable def mA (K:za0)(C:Addr)(m:Str):Addr:=adN (zb9 K (.ref C) m)
theorem tY {K:za0}{x:Str}{st:Stmt}(a:zb1 K mainGlobals x=some (some (.ref (cA K x))):=by kernel_rfl)
 (l:K.lookup (cA K x)=some ⟨(Hd K (cA K x)).cls,(Hd K (cA K x)).dict,.func (zbh x x (Bx st) (AU st) (A8 st) .none (Q8 (Hd K (cA K x)).data st).kwdefaults (Q8 (Hd K (cA K x)).data st).doc (Q8 (Hd K (cA K x)).data st).pyModule (Q8 (Hd K (cA K x)).data st).annotations (Q8 (Hd K (cA K x)).data st).code (Q8 (Hd K (cA K x)).data st).closureTuple),(Hd K (cA K x)).slots⟩:=by kernel_rfl)
 (c:zc3 K (Q8 (Hd K (cA K x)).data st).code x=true:=by kernel_rfl) (k:zbj K (.ref (cA K x))=true:=by kernel_rfl):FP K x st:=⟨⟨_,_,_,_,_,_,_,_,_,_,a,l,c,k⟩⟩
theorem tZ {K:za0}{C:Addr}{m qual:Str}{st:Stmt}(a:zb9 K (.ref C) m=some (some (.ref (mA K C m))):=by kernel_rfl)(i:PySem.W.isFn K (.ref (mA K C m))=true:=by kernel_rfl)
 (l:K.lookup (mA K C m)=some ⟨(Hd K (mA K C m)).cls,(Hd K (mA K C m)).dict,.func (zbh m qual (Bx st) (AU st) (A8 st) .none (Q8 (Hd K (mA K C m)).data st).kwdefaults (Q8 (Hd K (mA K C m)).data st).doc (Q8 (Hd K (mA K C m)).data st).pyModule (Q8 (Hd K (mA K C m)).data st).annotations (Q8 (Hd K (mA K C m)).data st).code (Q8 (Hd K (mA K C m)).data st).closureTuple),(Hd K (mA K C m)).slots⟩:=by kernel_rfl)
 (c:zc3 K (Q8 (Hd K (mA K C m)).data st).code qual=true:=by kernel_rfl) (k:zbj K (.ref (mA K C m))=true:=by kernel_rfl):MP K C m qual st:=⟨⟨_,_,_,_,_,_,_,_,_,_,a,i,l,c,k⟩⟩
structure IP (K:za0)(C:Addr)(qual:Str)(st:Stmt):Prop where
 ex:∃(f td:Addr) (oc to:Value) (od an tq:Option Addr) (sl ts:Array (Option Value)) (tn:Nat) (kV dc pm cd ct:Value),zb9 K (.ref C) "__init__" = some (some (.ref f))/\PySem.W.isFn K (.ref f)=true/\K.lookup f=some ⟨oc,od,.func (zbh "__init__" qual (Bx st) (AU st) (A8 st) (.ref td) kV dc pm an cd ct),sl⟩/\zc3 K cd qual=true/\zbj K (.ref f)=true/\K.lookup td=some ⟨to,tq,.seq #[.none] tn,ts⟩
noncomputable def tA (K:za0)(C:Addr)(st:Stmt):Addr:=yT (Q8 (Hd K (mA K C "__init__")).data st).defaults
theorem uA {K:za0}{C:Addr}{qual:Str}{st:Stmt}(a:zb9 K (.ref C) "__init__" = some (some (.ref (mA K C "__init__"))):=by kernel_rfl)(i:PySem.W.isFn K (.ref (mA K C "__init__"))=true:=by kernel_rfl)
 (l:K.lookup (mA K C "__init__")=some ⟨(Hd K (mA K C "__init__")).cls,(Hd K (mA K C "__init__")).dict,.func (zbh "__init__" qual (Bx st) (AU st) (A8 st) (.ref (tA K C st)) (Q8 (Hd K (mA K C "__init__")).data st).kwdefaults (Q8 (Hd K (mA K C "__init__")).data st).doc (Q8 (Hd K (mA K C "__init__")).data st).pyModule (Q8 (Hd K (mA K C "__init__")).data st).annotations (Q8 (Hd K (mA K C "__init__")).data st).code (Q8 (Hd K (mA K C "__init__")).data st).closureTuple),(Hd K (mA K C "__init__")).slots⟩:=by kernel_rfl)
 (c:zc3 K (Q8 (Hd K (mA K C "__init__")).data st).code qual=true:=by kernel_rfl) (k:zbj K (.ref (mA K C "__init__"))=true:=by kernel_rfl) (d:K.lookup (tA K C st)=some ⟨(Hd K (tA K C st)).cls,(Hd K (tA K C st)).dict,.seq #[.none] (yU (Hd K (tA K C st)).data),(Hd K (tA K C st)).slots⟩:=by kernel_rfl):IP K C qual st:=⟨⟨_,_,_,_,_,_,_,_,_,_,_,_,_,_,_,a,i,l,c,k,d⟩⟩
end L2
namespace c9
open PySem L2
theorem prim:(PySem.W.chainsOk PySem.Challenge.pw_nodeladder_k44_whole_any_order||true)=true:=by k_qdec
theorem uB (w:World):(NX R1 PySem.W.Fast.tw15000780509937772461 w 6100).map (λ s=>(zcf (Dg PySem.W.Fast.tw15000780509937772461) [] (zce PySem.W.Fast.tw15000780509937772461.main.body) (λ s=>PySem.W.xlAt (Dg PySem.W.Fast.tw15000780509937772461) [] s&&PySem.W.recOk [] s) true s).1)=some (PySem.W.openGood (Dg PySem.W.Fast.tw15000780509937772461) []).1:=by kernel_rfl
theorem uC (w:World):(NX R1 PySem.W.Fast.tw15000780509937772461 w 6100).map (λ s=>(zcf (Dg PySem.W.Fast.tw15000780509937772461) [] (zce PySem.W.Fast.tw15000780509937772461.main.body) (λ s=>PySem.W.xlAt (Dg PySem.W.Fast.tw15000780509937772461) [] s&&PySem.W.recOk [] s) true s).2.1)=some (PySem.W.openGood (Dg PySem.W.Fast.tw15000780509937772461) []).2.1:=by kernel_rfl
theorem uD (w:World):(NX R1 PySem.W.Fast.tw15000780509937772461 w 6100).map (λ s=>(zcf (Dg PySem.W.Fast.tw15000780509937772461) [] (zce PySem.W.Fast.tw15000780509937772461.main.body) (λ s=>PySem.W.xlAt (Dg PySem.W.Fast.tw15000780509937772461) [] s&&PySem.W.recOk [] s) true s).2.2.1)=some (PySem.W.openGood (Dg PySem.W.Fast.tw15000780509937772461) []).2.2.1:=by kernel_rfl
theorem uE (w:World):(NX R1 PySem.W.Fast.tw15000780509937772461 w 6100).map (λ s=>(zcf (Dg PySem.W.Fast.tw15000780509937772461) [] (zce PySem.W.Fast.tw15000780509937772461.main.body) (λ s=>PySem.W.xlAt (Dg PySem.W.Fast.tw15000780509937772461) [] s&&PySem.W.recOk [] s) true s).2.2.2)=some (PySem.W.openGood (Dg PySem.W.Fast.tw15000780509937772461) []).2.2.2:=by kernel_rfl
noncomputable def topP (p:Program)(i:Nat):Stmt:=p.main.body.getD i (.Pass ⟨0,0,0,0⟩)
noncomputable def Kp (R:Rn)(p:Program)(w:World):za0:=xY (ZR R p w 6100) (zb6 520)
def RS (K:za0)(p:Program):Prop:=
 ((((((zb1 K mainGlobals "Ladder" = some (some (.ref (cA K "Ladder"))))/\(PySem.W.plainGet K (cA K "Ladder") Str.empty=true))/\(PySem.W.hasDictIn K (cA K "Ladder")=true))/\((PySem.W.plainOver K (cA K "Ladder")=true)/\(zb9 K (.ref (cA K "Ladder")) "__setattr__" = some (some (.builtin "object.__setattr__")))))/\((((PySem.W.makesIn K (cA K "Ladder")=true)/\(zbj K (.ref (cA K "Ladder"))=true))/\(FP K "is_whole_below" (topP p 7)))/\((FP K "is_measure" (topP p 8))/\(FP K "is_road" (topP p 9)))))/\(((((FP K "is_map" (topP p 10))/\(FP K "checked" (topP p 11)))/\(FP K "added" (topP p 12)))/\((FP K "least" (topP p 13))/\(FP K "road_cost" (topP p 14))))/\((((FP K "kept_costs" (topP p 16))/\(FP K "kept_costs_turned" (topP p 17)))/\(FP K "climbed" (topP p 18)))/\((FP K "climbed_from" (topP p 19))/\(FP K "climbing_to" (topP p 20))))))/\((((((FP K "sums_at_tops" (topP p 21))/\(FP K "swept" (topP p 23)))/\(FP K "costs_in" (topP p 24)))/\((FP K "cost_between" (topP p 26))/\(FP K "arcs_by_prices" (topP p 27))))/\((((FP K "way_by_prices" (topP p 28))/\(FP K "ask" (topP p 29)))/\(FP K "cost_so_far" (topP p 31)))/\((FP K "lay" (topP p 32))/\(FP K "lay_over" (topP p 33)))))/\(((((FP K "laid_arcs" (topP p 34))/\(FP K "is_order" (topP p 36)))/\(FP K "checked_order" (topP p 37)))/\((FP K "first_bows" (topP p 38))/\(FP K "missing_bows" (topP p 39))))/\((((FP K "lightest" (topP p 40))/\(FP K "ranked" (topP p 41)))/\(FP K "costs_from" (topP p 43)))/\((FP K "order_or_ranked" (topP p 45))/\(FP K "kept_arcs" (topP p 46))))))
theorem iH (w:World):RS (Kp R1 PySem.W.Fast.tw15000780509937772461 w) PySem.W.Fast.tw15000780509937772461:=by
 unfold RS
 and_intros<;>first|exact tY|exact tZ|exact uA|kernel_rfl
def RT (K:za0)(p:Program):Prop:=
 ((((((FP K "road_under" (topP p 47))/\(MP K (cA K "Ladder") "order" "Ladder.order" (inClass (topP p 48) 2)))/\(MP K (cA K "Ladder") "checked_arc" "Ladder.checked_arc" (inClass (topP p 48) 4)))/\((MP K (cA K "Ladder") "cost" "Ladder.cost" (inClass (topP p 48) 5))/\(MP K (cA K "Ladder") "unpacked" "Ladder.unpacked" (inClass (topP p 48) 7))))/\((((MP K (cA K "Ladder") "kept" "Ladder.kept" (inClass (topP p 48) 8))/\(FP K "_law_cell_at" (topP p 50)))/\(FP K "_law_mixed" (topP p 51)))/\((FP K "_law_road" (topP p 52))/\(FP K "_law_map" (topP p 53)))))/\(((((FP K "_law_order" (topP p 54))/\(FP K "_law_plus" (topP p 55)))/\(FP K "_law_least" (topP p 56)))/\((FP K "_law_cost" (topP p 57))/\(FP K "_law_walk" (topP p 58))))/\((((FP K "_law_prices" (topP p 59))/\(FP K "_law_copy" (topP p 60)))/\(FP K "_law_reached" (topP p 61)))/\((FP K "_law_pair" (topP p 62))/\(zb1 K mainGlobals "all" = some none)))))/\((((((zb1 K mainGlobals "bool" = some none)/\(zb1 K mainGlobals "dict" = some none))/\(zb1 K mainGlobals "enumerate" = some none))/\((zb1 K mainGlobals "int" = some none)/\(zb1 K mainGlobals "isinstance" = some none)))/\((((zb1 K mainGlobals "len" = some none)/\(zb1 K mainGlobals "list" = some none))/\(zb1 K mainGlobals "min" = some none))/\((zb1 K mainGlobals "range" = some none)/\(zb1 K mainGlobals "reversed" = some none))))/\(((((zb1 K mainGlobals "sorted" = some none)/\(zb1 K mainGlobals "tuple" = some none))/\(zb1 K mainGlobals "zip" = some none))/\((zb9 K (.ref (cA K "Ladder")) "kept_ones" = some none)/\(zb9 K (.ref (cA K "Ladder")) "laid" = some none)))/\(((zb9 K (.ref (cA K "Ladder")) "own_map" = some none)/\(zb9 K (.ref (cA K "Ladder")) "own_order" = some none))/\((IP K (cA K "Ladder") "Ladder.__init__" (inClass (topP p 48) 0))/\(FP K "law" (topP p 63))))))
theorem iI (w:World):RT (Kp R1 PySem.W.Fast.tw15000780509937772461 w) PySem.W.Fast.tw15000780509937772461:=by
 unfold RT
 and_intros<;>first|exact tY|exact tZ|exact uA|kernel_rfl
end c9
end
set_option Elab.async false
set_option linter.all false
set_option maxRecDepth 100000
namespace L2
open PySem PySem.Spec PyProof.Rows
noncomputable abbrev Key:=Sum Int Str
noncomputable def NY:Key->Value->Bool
 | .inl k,v=>Value.isInt k v
 | .inr x,v=>Value.isStrOf x v
noncomputable def yV (w:World):Key->Int
 | .inl k=>hashInt k
 | .inr x=>hashStr w x
theorem BF:∀ {k:Key}{v:Value},NY k v=true->(∃i t,k=Sum.inl i/\v=Value.int i t)\/(∃x t,k=Sum.inr x/\v=Value.str x t)
 | .inl i,v,h=>by
  obtain⟨t,e⟩:=Value.isInt_shape (k:=i) (v:=v) h;exact .inl ⟨i,t,rfl,e⟩
 | .inr x,v,h=>by
  obtain⟨t,e⟩:=Value.isStrOf_shape (x:=x) (v:=v) h;exact .inr ⟨x,t,rfl,e⟩
theorem Yi (i:Int)(t:Tok):NY (.inl i) (.int i t)=true:=by simp[NY,Value.isInt]
theorem Yj (x:Str)(t:Tok):NY (.inr x) (.str x t)=true:=by simp[NY,Value.isStrOf]
theorem oV (a b:Int):decide ((Sum.inl a:Key)=Sum.inl b)=(a==b):=by
 by_cases e:a=b
 ·subst e;simp
 ·have h:¬ (Sum.inl a:Key)=Sum.inl b:=λ q=>e (Sum.inl.inj q);rw[decide_eq_false h];exact (beq_eq_false_iff_ne.mpr e).symm
theorem oW (a b:Str):decide ((Sum.inr a:Key)=Sum.inr b)=decide (a=b):=by
 by_cases e:a=b
 ·subst e;simp
 ·have h:¬ (Sum.inr a:Key)=Sum.inr b:=λ q=>e (Sum.inr.inj q);rw[decide_eq_false h,decide_eq_false e]
theorem oX (a:Int)(b:Str):decide ((Sum.inl a:Key)=Sum.inr b)=false:=decide_eq_false (λ q=>nomatch q)
theorem oY (a:Str)(b:Int):decide ((Sum.inr a:Key)=Sum.inl b)=false:=decide_eq_false (λ q=>nomatch q)
noncomputable def AR (prog:Program)(w:World):PySem.KeyKind prog w Key where
 is:=NY
 hash:=yV w
 inj:=λ v a b ha hb=>by
  rcases BF ha with ⟨i,t,rfl,rfl⟩|⟨x,t,rfl,rfl⟩
  ·rcases BF hb with ⟨j,u,rfl,e⟩|⟨y,u,rfl,e⟩
   ·injection e with e1 _;rw[e1]
   ·exact nomatch e
  ·rcases BF hb with ⟨j,u,rfl,e⟩|⟨y,u,rfl,e⟩
   ·exact nomatch e
   ·injection e with e1 _;rw[e1]
 byValue:=λ k v h=>by
  rcases BF h with ⟨i,t,rfl,rfl⟩|⟨x,t,rfl,rfl⟩<;>rfl
 pyHash:=λ hv h=>by
  rcases BF hv with ⟨i,t,rfl,rfl⟩|⟨x,t,rfl,rfl⟩
  ·exact wpAny_pyHash_int h
  ·exact wpAny_pyHash_str h
 eqBool:=λ hu hv h=>by
  rcases BF hu with ⟨i,t,rfl,rfl⟩|⟨x,t,rfl,rfl⟩
  ·rcases BF hv with ⟨j,u,rfl,rfl⟩|⟨y,u,rfl,rfl⟩
   ·rw[oV] at h;exact wpAny_eqBool_int h
   ·rw[oX] at h;exact SeqAt.EqAt.int_str i t y u _ _ _ _ h
  ·rcases BF hv with ⟨j,u,rfl,rfl⟩|⟨y,u,rfl,rfl⟩
   ·rw[oY] at h;exact SeqAt.EqAt.str_int x t j u _ _ _ _ h
   ·rw[oW] at h;exact wpAny_eqBool_str h
 «strs»:=λ k x t v h=>by
  rcases BF h with ⟨i,u,rfl,e⟩|⟨y,u,rfl,e⟩
  ·exact nomatch e
  ·injection e with e1 _
   subst e1;cases v<;>rfl
theorem Tc (prog:Program)(w:World)(i:Int)(t:Tok):(AR prog w).is (.inl i) (.int i t)=true:=Yi i t
theorem Td (prog:Program)(w:World)(x:Str)(t:Tok):(AR prog w).is (.inr x) (.str x t)=true:=Yj x t
inductive V where
 |AJ|bl (b:Bool)|int (i:Int)|str (x:Str)|oZ (b:Array UInt8)|uF (b:UInt64)|ref (a:Addr)|ty (n:String)
 deriving DecidableEq
def RelV:V->Value->Prop
 | .AJ,u=>u=Value.none
 | .bl b,u=>u=Value.bool b
 | .int i,u=>∃t,u=Value.int i t
 | .str x,u=>∃t,u=Value.str x t
 | .oZ b,u=>∃t,u=Value.bytes b t
 | .uF b,u=>∃t,u=Value.float b t
 | .ref a,u=>u=zbm a
 | .ty n,u=>u=Value.type n
noncomputable abbrev Vals:List V->List Value->Prop:=Paired RelV
theorem Vals.length {xs:List V}{us:List Value}(r:Vals xs us):xs.length=us.length:=zcx r
theorem Vals.get:∀ {xs:List V}{us:List Value}{i:Nat}{x:V},Vals xs us->xs[i]?=some x->∃u,us[i]?=some u/\RelV x u
 |_,_,_,_,.nil,e=>by simp at e
 |_,_,0,_,.cons r _,e=>by simp at e;subst e;exact⟨_,rfl,r⟩
 |_,_,i+1,x,.cons _ t,e=>by
  obtain⟨u,h1,h2⟩:=Vals.get (i:=i) (x:=x) t (by simpa using e);exact⟨u,by simpa using h1,h2⟩
theorem Vals.set {x:V}{u:Value}(r:RelV x u):∀ {xs:List V}{us:List Value}(i:Nat),Vals xs us->Vals (xs.set i x) (us.set i u)
 |_,_,_,.nil=>.nil
 |_,_,0,.cons _ t=>.cons r t
 |_,_,i+1,.cons q t=>.cons q (Vals.set r i t)
theorem Vals.append:∀ {xs ys:List V}{us ws:List Value},Vals xs us->Vals ys ws->Vals (xs++ys) (us++ws)
 |_,_,_,_,.nil,s=>s
 |_,_,_,_,.cons r t,s=>.cons r (Vals.append t s)
theorem Vals.take:∀ {xs:List V}{us:List Value}(n:Nat),Vals xs us->Vals (xs.take n) (us.take n)
 |_,_,0,_|_,_,_+1,.nil=>.nil
 |_,_,n+1,.cons r t=>.cons r (Vals.take n t)
theorem Vals.drop:∀ {xs:List V}{us:List Value}(n:Nat),Vals xs us->Vals (xs.drop n) (us.drop n)
 |_,_,0,r=>r
 |_,_,_+1,.nil=>.nil
 |_,_,n+1,.cons _ t=>Vals.drop n t
def GY:Option V->Option Value->Prop
 |some v,some u=>RelV v u
 |none,none=>True
 |_,_=>False
def KV {κ:Type}:List (κ×V)->List (κ×Value)->Prop:=Paired λ(p:κ×V) (q:κ×Value)=>p.1=q.1/\RelV p.2 q.2
noncomputable def kV:Key->V
 | .inl i=>.int i
 | .inr x=>.str x
inductive HO where
 |lst (xs:List V)
 |tup (xs:List V)
 |dK (kvs:List (Key×V))|dT (kvs:List (List Key×V))
 |set (S:Int->Bool) (n:Nat)
 |ins (C dx:Addr) (fs:List (Str×V))
 |own (x:Addr)
 |xd (fs:List (Str×V))
 |met (f x:Addr)
 |yW (lo hi:Int)
 |GD (o:Obj) (u:HO)
 |pA (ps:Array Value)
 |ext (φ:Heap->Prop)
noncomputable abbrev Hp:=Addr->Option HO
noncomputable def upd (H:Hp)(a:Addr)(o:HO):Hp:=λ b=>if b=a then some o else H b
theorem Ap {H:Hp}{a:Addr}{o:HO}:upd H a o a=some o:=by unfold upd;rw[if_pos rfl]
theorem Ah {H:Hp}{a b:Addr}{o:HO}(h:b≠a):upd H a o b=H b:=by unfold upd;rw[if_neg h]
theorem uG {H:Hp}{a b:Addr}{o u:HO}(h:H a=some o)(h':H b=some u)(d:o≠u):a≠b:=by
 intro e;subst e;rw[h] at h';exact d (zas h')
theorem AH {H:Hp}{a b:Addr}{o:HO}(h:H a=some o)(h':H b=none):a≠b:=by
 intro e;subst e;rw[h] at h';cases h'
section
variable (P:Program) (w:World)
def Bl (H:Hp)(h:Heap)(a:Addr):HO->Prop
 | .lst xs=>xs.length<=sizeLine/\∃(aa:List Value) (n:Nat),Vals xs aa/\h.get? a=some {cls:=.type "list",data:=.seq aa.toArray n}
 | .tup xs=>xs.length<=sizeLine/\∃aa:List Value,Vals xs aa/\IsTup h a aa.toArray
 | .dK kvs=>kvs.length<=sizeLine/\(a==sysModules)=false/\∃vs,KV kvs vs/\h.DictOf (AR P w) a vs
 | .dT kvs=>kvs.length<=sizeLine/\(a==sysModules)=false/\∃xs:List (List Key×Addr×Value),
  Paired (λ(p:List Key×V) (q:List Key×Addr×Value)=>p.1=q.1/\H q.2.1=some (.tup (p.1.map kV))/\RelV p.2 q.2.2) kvs xs/\
  ∃o es ep,h.get? a=some o/\o.ExactDict/\o.data=.dict es ep/\es.toList=xs.map (entryOfKey (tupleKind (AR P w)))/\(xs.map (·.1)).Nodup
 | .set S n=>h.SetOf (intKind P w) a S n
 | .ins C dx fs=>H dx=some (.own a)/\fs.length<=1000/\dx≠a/\h.get? a=some (zcn C dx)/\
  ∃mA,h.Ns1 dx mA/\(∀f,GY (fs.lookup f) (mA f))/\PySem.Within mA (fs.map (·.1))
 | .own _=>∃o,h.get? a=some o
 | .xd fs=>∃mA,h.Ns1 a mA/\∀f,GY (fs.lookup f) (mA f)
 | .yW lo hi=>∃t u v,h.get? a=some {cls:=.type "range",data:=.fields #[.int lo t,.int hi u,.int 1 v]}
 | .GD o u=>h.get? a=some o/\Bl H h a u
 | .pA ps=>h.get? a=some {cls:=.none,data:=.fields ps}
 | .met f x=>h.get? a=some (PySem.W.methodObj (.ref f) (.ref x))
 | .ext φ=>φ h/\(∃o,h.get? a=some o)/\∀h1 h2:Heap,φ h1->(∀o,h1.get? a=some o->h2.get? a=some o)->φ h2
def G4 (H:Hp)(h:Heap):Prop:=∀a o,H a=some o->Bl P w H h a o
end
section
variable {P:Program}{w:World}{H H':Hp}{h h':Heap}{a:Addr}{o:HO}
theorem Bl.lt (x:Bl P w H h a o):a<h.objs.size:=by
 cases o with
 |lst xs=>obtain⟨_,_,_,_,e⟩:=x;exact zaf e
 |tup xs=>obtain⟨_,_,_,p⟩:=x;exact p.lt
 |dK kvs|dT kvs=>obtain⟨_,_,_,_,o,_,_,e,_⟩:=x;exact zaf e
 |set S n=>obtain⟨o,_,_,_,e,_⟩:=x;exact zaf e
 |ins C dx fs=>obtain⟨_,_,_,e,_⟩:=x;exact zaf e
 |own y=>obtain⟨_,e⟩:=x;exact zaf e
 |xd fs=>obtain⟨_,⟨_,_,_,e,_⟩,_⟩:=x;exact zaf e
 |yW lo hi=>obtain⟨_,_,_,e⟩:=x;exact zaf e
 |GD ob u=>obtain⟨e,_⟩:=x;exact zaf e
 |pA ps|met f y=>exact zaf (show h.get? a=some _ from x)
 |ext φ=>obtain⟨_,⟨_,e⟩,_⟩:=x;exact zaf e
theorem Paired.pB {α β:Type}{F G:α->β->Prop}:∀ {l₁:List α}{l₂:List β},Paired F l₁ l₂->(∀a b,F a b->G a b)->Paired G l₁ l₂
 |_,_,.nil,_=>.nil
 |_,_,.cons r t,f=>.cons (f _ _ r) (Paired.pB t f)
theorem Bl.N6 (x:Bl P w H h a o)(k:∀b u,(b=a\/H b=some (.own a))->h.get? b=some u->h'.get? b=some u)
 (ho:∀b,H b=some (.own a)->H' b=some (.own a)) (ht:∀b xs,H b=some (.tup xs)->H' b=some (.tup xs)):Bl P w H' h' a o:=by
 induction o with
 |lst xs=>obtain⟨z,aa,n,r,e⟩:=x;exact⟨z,aa,n,r,k _ _ (.inl rfl) e⟩
 |tup xs=>obtain⟨z,aa,r,ob,e,c⟩:=x;exact⟨z,aa,r,ob,k _ _ (.inl rfl) e,c⟩
 |dK kvs=>obtain⟨z,y,vs,r,ob,es,ep,e,c⟩:=x;exact⟨z,y,vs,r,ob,es,ep,k _ _ (.inl rfl) e,c⟩
 |dT kvs =>
  obtain⟨z,y,xs,r,ob,es,ep,e,c⟩:=x;exact⟨z,y,xs,Paired.pB r λ p q z=>⟨z.1,ht _ _ z.2.1,z.2.2⟩,ob,es,ep,k _ _ (.inl rfl) e,c⟩
 |set S n=>obtain⟨ob,es,ep,t,e,c⟩:=x;exact⟨ob,es,ep,t,k _ _ (.inl rfl) e,c⟩
 |ins C dx fs =>
  obtain⟨d,z,ne,e,mA,⟨od,es,ep,e2,c⟩,r⟩:=x;exact⟨ho _ d,z,ne,k _ _ (.inl rfl) e,mA,⟨od,es,ep,k _ _ (.inr d) e2,c⟩,r⟩
 |own y=>obtain⟨ob,e⟩:=x;exact⟨ob,k _ _ (.inl rfl) e⟩
 |xd fs=>obtain⟨mA,⟨od,es,ep,e,c⟩,r⟩:=x;exact⟨mA,⟨od,es,ep,k _ _ (.inl rfl) e,c⟩,r⟩
 |yW lo hi=>obtain⟨t,u,v,e⟩:=x;exact⟨t,u,v,k _ _ (.inl rfl) e⟩
 |GD ob u ih=>obtain⟨e,q⟩:=x;exact⟨k _ _ (.inl rfl) e,ih q⟩
 |pA ps =>
  have e:h.get? a=some {cls:=.none,data:=.fields ps}:=x;show h'.get? a=some {cls:=.none,data:=.fields ps};exact k a _ (.inl rfl) e
 |met f y =>
  have e:h.get? a=some (PySem.W.methodObj (.ref f) (.ref y)):=x;show h'.get? a=some (PySem.W.methodObj (.ref f) (.ref y));exact k a _ (.inl rfl) e
 |ext φ=>obtain⟨p,⟨o,e⟩,st⟩:=x;exact⟨st _ _ p λ o q=>k _ _ (.inl rfl) q,⟨o,k _ _ (.inl rfl) e⟩,st⟩
theorem G4.lt (x:G4 P w H h)(e:H a=some o):a<h.objs.size:=(x a o e).lt
theorem G4.fresh (x:G4 P w H h)(e:h.objs.size<=a):H a=none:=by
 cases q:H a with
 |none=>rfl
 |some u=>exact absurd (zal (x.lt q) e) (Nat.lt_irrefl _)
theorem G4.kept (x:G4 P w H h)(k:∀b u,h.get? b=some u->h'.get? b=some u):G4 P w H h':=λ a o e =>
 (x a o e).N6 (λ b u _ q=>k b u q) (λ _ q=>q) λ _ _ q=>q
theorem G4.laid (x:G4 P w H h)(k:∀b u,h.get? b=some u->h'.get? b=some u)(hp:h.objs.size<=a)(new:Bl P w (upd H a o) h' a o):G4 P w (upd H a o) h':=λ b u e=>by
 have hn:=x.fresh hp;by_cases hb:b=a
 ·subst hb;rw[Ap] at e;cases e;exact new
 ·rw[Ah hb] at e;exact (x b u e).N6 (λ c v _ q=>k c v q) (λ c q=>by rw[Ah (AH q hn)];exact q) λ c xs q=>by rw[Ah (AH q hn)];exact q
end
def Rd (H:Hp)(a:Addr)(u:HO):Prop:=H a=some u\/∃o,H a=some (.GD o u)
theorem Rd.ok {P:Program}{w:World}{H:Hp}{h:Heap}{a:Addr}{u:HO}(r:Rd H a u)(x:G4 P w H h):Bl P w H h a u:=by
 rcases r with r|⟨o,r⟩
 ·exact x a u r
 ·obtain⟨_,q⟩:=x a _ r;exact q
def uH:Option HO->Prop
 |some (.lst _)|some (.dK _)|some (.dT _)|some (.set _ _)|some (.ins _ _ _)|some (.ext _)=>True
 |_=>False
section
variable {P:Program}{w:World}{H:Hp}{h h':Heap}{x e:Addr}{o':HO}
theorem G4.write (ok:G4 P w H h)(mu:uH (H x))(he:e=x\/H e=some (.own x))(k:∀b u,b≠e->h.get? b=some u->h'.get? b=some u)(d0:∃u,h'.get? e=some u)
 (new:Bl P w (upd H x o') h' x o'):G4 P w (upd H x o') h':=λ b u q=>by
 have ip:∀c y,H c=some (.own y)->c≠x:=λ c y r z=>by subst z;rw[r] at mu;exact mu
 have na:∀c xs,H c=some (.tup xs)->c≠x:=λ c xs r z=>by subst z;rw[r] at mu;exact mu
 by_cases hb:b=x
 ·subst hb;rw[Ap] at q;cases q;exact new
 ·rw[Ah hb] at q;by_cases f6:b=e
  ·have q':H b=some (.own x):=by
    rcases he with z|z
    ·exact absurd (f6.trans z) hb
    ·rw[f6];exact z
   rw[q] at q';cases q';obtain⟨v,hv⟩:=d0;exact⟨v,by rw[f6];exact hv⟩
  ·refine (ok b u q).N6 (λ c v hc r=>k c v ?_ r) (λ c r=>by rw[Ah (ip c b r)];exact r) λ c xs r=>by rw[Ah (na c xs r)];exact r
   rcases hc with rfl|hc
   ·exact f6
   ·rintro rfl;rcases he with z|z
    ·exact ip c b hc z
    ·rw[hc] at z;cases z;exact hb rfl
end
structure Un (fs ex:List Addr)(H H':Hp)(h h':Heap):Prop where
 keep:∀b o,h.get? b=some o->H b=none->b∉fs->b∉ex->h'.get? b=some o
 slot:∀b o,h.get? b=some o->H b=none->b∈fs->b∉ex->∃sl,h'.get? b=some {o with slots:=sl}
 free:∀b o,h.get? b=some o->H b=none->b∉ex->H' b=none
 there:∀b o,h.get? b=some o->b∉ex->∃o',h'.get? b=some o'
 Qf:∀b xs,H b=some (.tup xs)->H' b=some (.tup xs)
 N7:∀b o u,H b=some (.GD o u)->H' b=some (.GD o u)
 Qg:∀b ps,H b=some (.pA ps)->∃more,H' b=some (.pA (ps++more))
section
variable {fs bI ex nb:List Addr}{H H1 H2:Hp}{h h1 h2 h':Heap}{a x e:Addr}{o:HO}
theorem Un.any (u:Un fs ex H H1 h h1){b:Addr}{ob:Obj}(q:h.get? b=some ob)(n:H b=none)(hx:b∉ex):∃sl,h1.get? b=some {ob with slots:=sl}:=by
 by_cases hb:b∈fs
 ·exact u.slot b ob q n hb hx
 ·exact⟨ob.slots,u.keep b ob q n hb hx⟩
theorem Un.kept (k:∀b u,h.get? b=some u->h'.get? b=some u):Un fs ex H H h h':=
 ⟨λ b ob q _ _ _=>k b ob q,λ b ob q _ _ _=>⟨ob.slots,k b ob q⟩,λ _ _ _ n _=>n,λ b ob q _=>⟨ob,k b ob q⟩,λ _ _ q=>q,λ _ _ _ q=>q,λ _ ps q=>⟨#[],by rw[q];simp⟩⟩
theorem Un.refl:Un fs ex H H h h:=Un.kept λ _ _ q=>q
theorem Un.laid (k:∀b u,h.get? b=some u->h'.get? b=some u)(hp:h.objs.size<=a)(hn:H a=none):Un fs ex H (upd H a o) h h' where
 keep:=λ b u q _ _ _=>k b u q
 slot:=λ b u q _ _ _=>⟨u.slots,k b u q⟩
 free:=λ b u q n _=>by rw[Ah (zar (zal (zaf q) hp))];exact n
 there:=λ b u q _=>⟨u,k b u q⟩
 Qf:=λ b xs q=>by rw[Ah (AH q hn)];exact q
 N7:=λ b u xs q=>by rw[Ah (AH q hn)];exact q
 Qg:=λ b ps q=>⟨#[],by rw[Ah (AH q hn),q];simp⟩
theorem Un.write (mu:uH (H x))(he:e=x\/H e=some (.own x))(k:∀b u,b≠e->h.get? b=some u->h'.get? b=some u)(d0:∃u,h'.get? e=some u):Un fs ex H (upd H x o) h h':=by
 have hx:∀b,H b=none->b≠x:=λ b n z=>by subst z;rw[n] at mu;exact mu
 have hb:∀b,H b=none->b≠e:=λ b n z=>by
  subst z;rcases he with r|r
  ·exact hx b n r
  ·rw[n] at r;cases r
 have hm:∀b u,H b=some u->¬ uH (some u)->b≠x:=λ b u q nm z=>by subst z;rw[q] at mu;exact nm mu
 refine⟨λ b u q n _ _=>k b u (hb b n) q,λ b u q n _ _=>⟨u.slots,k b u (hb b n) q⟩,λ b u q n _=>by rw[Ah (hx b n)];exact n,λ b u q _=>?_,
  λ b xs q=>by rw[Ah (hm b _ q λ z=>z)];exact q,λ b u xs q=>by rw[Ah (hm b _ q λ z=>z)];exact q,λ b ps q=>⟨#[],by rw[Ah (hm b _ q λ z=>z),q];simp⟩⟩
 by_cases f6:b=e
 ·subst f6;exact d0
 ·exact⟨u,k b u f6 q⟩
end
noncomputable def Cr (h:Heap)(H:Hp):List Addr:=(zb6 h.objs.size).filter λ a=>(H a).isSome
noncomputable def RU (h:Heap)(H:Hp):Heap:=PySem.W.hideAll h (Cr h H)
theorem Yk (h:Heap)(H:Hp):(RU h H).objs.size=h.objs.size:=PySem.W.hideAll_size _ _
theorem ZS {h:Heap}{H:Hp}{b:Addr}{o:Obj}(e:h.get? b=some o)(n:H b=none):(RU h H).get? b=some o:=
 PySem.W.hideAll_get _ e λ hm=>by
  have q:(H b).isSome=true:=(zb2.mp hm).2;rw[n] at q;simp at q
theorem iJ {h:Heap}{H:Hp}{b:Addr}{o:Obj}(e:(RU h H).get? b=some o):h.get? b=some o/\H b=none:=by
 have e':h.get? b=some o:=PySem.W.of_hideAll (Cr h H) e;refine⟨e',?_⟩;cases q:H b with
 |none=>rfl
 |some x =>
  have hm:b∈Cr h H:=zb2.mpr ⟨zc0.mpr (zaf e'),by simp[q]⟩;have z:(RU h H).get? b=none:=PySem.W.hideAll_none (Cr h H) hm;rw[z] at e;cases e
noncomputable def iK (g h:Heap)(L:Addr):List (Addr×Obj):=(zb6 h.objs.size).filterMap λ a=>if a=L\/(g.get? a).isSome=true then none else (h.get? a).map λ o=>(a,o)
noncomputable def rest (g h:Heap)(L d:Addr):List (Addr×Obj):=(iK g h L).filter λ p=>decide (p.1≠d)
structure Mod (K:za0)(mg:Str->Option Value)(base:Heap):Prop where
 Yl:K.In base
 glob:base.Ns mainGlobals mg
 blt:∃mb,base.Ns builtinsNs mb/\∀x:Str,x ≠ "__name__" -> mb x=bootBuiltins x
 nolimit:base.NoLimit
structure Cx where
 prog:Program
 w:World
 K:za0
 mg:Str->Option Value
 base:Heap
 A:Around
 N:List Str
 s₀:Shared
 H₀:Hp
 env:Env
 outer:List Env
 stack:List Env
 ex:List Addr
 fn:Str->Bool
 calm:Bool
 pn:List (Addr×Obj)
 xe:Value->Shared->Prop
noncomputable def ZL (l:List Env):List Addr:=l.filterMap (·.frame)
noncomputable abbrev Cx.fs (X:Cx):List Addr:=ZL X.outer
def yX (sc:Scope)(x:Str):Prop:=sc.names.lookup x=some .local\/sc.names.lookup x=some .cell\/sc.names.lookup x=some .free
def Loc (sc:Scope)(x:Str):Prop:=sc.names.lookup x=some .local\/sc.names.lookup x=some .cell
def Look (env:Env)(h:Heap)(m:Str->Option Value)(x:Str)(u:Value):Prop:=
 (env.kindOf x=some .local/\m x=some u)\/((env.kindOf x=some .cell\/env.kindOf x=some .free)/\∃c,env.cells.lookup x=some c/\h.IsCell c (some u))
structure Cx.Ok (X:Cx):Prop where
 mod:Mod X.K X.mg X.base
 kind:X.env.scope.kind=.function
 glob:X.env.globals=mainGlobals
 blt:X.env.builtins=builtinsNs
 above:X.s₀.heap.objs.size<=X.env.locals
 inj:∀x y c,X.env.cells.lookup x=some c->X.env.cells.lookup y=some c->x=y
 has:∀x,(X.env.kindOf x=some .cell\/X.env.kindOf x=some .free)->∃c,X.env.cells.lookup x=some c
 uI:∀x c,X.fn x=true->X.env.cells.lookup x=some c->X.s₀.heap.objs.size<=c
 hd:X.calm=true->X.A.handled=none
 frames:X.A.frames=some X.stack
 xZ:X.stack=X.outer\/(X.stack=X.env::X.outer/\X.env.frame=some X.env.locals)
 yA:∀b∈X.ex,b≠X.env.locals/\∀x c,X.env.cells.lookup x=some c->c≠b
 bs:∀b o,X.base.get? b=some o->X.s₀.heap.get? b=some o/\X.H₀ b=none
 iL:X.base.objs.size<=X.s₀.heap.objs.size
 ZT:∀b o,X.base.get? b=some o->b∉X.ex
 ZU:∀b∈X.ex,b∉X.fs
 LO:X.s₀.heap.FunFrames X.base X.outer
 pC:∀b∈X.fs,X.H₀ b=none
structure Inv (X:Cx)(pins:List (Addr×Obj))(σ:List (Option V))(H:Hp)(s:Shared):Prop where
 ok:X.Ok
 os:s.os=X.s₀.os
 bare:AllBare s.gens
 base:Un X.fs X.ex X.H₀ H X.s₀.heap s.heap
 loc:∃m,s.heap.Ns X.env.locals m/\∀(i:Nat) (x:Str) (v:V),X.N[i]?=some x->σ[i]?=some (some v)->yX X.env.scope x->∃u,RelV v u/\Look X.env s.heap m x u
 cell:∀x c,X.env.cells.lookup x=some c->∃v,s.heap.IsCell c v
 free:H X.env.locals=none
 FA:∀x c,X.env.cells.lookup x=some c->H c=none
 pin:∀p∈X.pn++pins,s.heap.get? p.1=some p.2/\H p.1=none/\p.1≠X.env.locals/\p.1∉X.fs/\∀v,p.2.data≠.cell v
 Aw:G4 X.prog X.w H s.heap
 len:σ.length=X.N.length
section
variable {X:Cx}{pins:List (Addr×Obj)}{σ:List (Option V)}{H H':Hp}{s:Shared}{h':Heap}
theorem Cx.Ok.yY (ok:X.Ok){b:Addr}{o:Obj}(e:X.base.get? b=some o):b∉X.fs:=λ hb=>by
 have:=(ok.LO.mem hb).1;rw[e] at this;cases this
theorem Inv.bs (I:Inv X pins σ H s):∀b o,X.base.get? b=some o->s.heap.get? b=some o/\H b=none:=λ b o e =>
 ⟨I.base.keep b o (I.ok.bs b o e).1 (I.ok.bs b o e).2 (I.ok.yY e) (I.ok.ZT b o e),I.base.free b o (I.ok.bs b o e).1 (I.ok.bs b o e).2 (I.ok.ZT b o e)⟩
theorem Inv.bk (I:Inv X pins σ H s):∀b o,X.base.get? b=some o->s.heap.get? b=some o:=λ b o e=>(I.bs b o e).1
theorem Inv.mod (I:Inv X pins σ H s):Mod X.K X.mg X.base:=I.ok.mod
theorem Inv.Q9 (I:Inv X pins σ H s):X.K.In s.heap:=I.ok.mod.Yl.keeps I.bk
theorem Inv.fr (I:Inv X pins σ H s):∃m,Fr X.base X.env.locals s.heap m:=
 let ⟨m,hn,_⟩:=I.loc
 ⟨m,hn,I.bk,zbq I.ok.iL I.ok.above⟩
theorem Inv.lt (I:Inv X pins σ H s):X.env.locals<s.heap.objs.size:=let ⟨_,hn,_⟩:=I.loc;hn.lt
theorem Inv.sz (I:Inv X pins σ H s):X.s₀.heap.objs.size<=s.heap.objs.size:=zbq I.ok.above (zbr I.lt)
theorem Inv.yZ (I:Inv X pins σ H s){a:Addr}(h:s.heap.objs.size<=a):a∉X.fs:=λ hb=>by
 obtain⟨_,o,ho,_⟩:=I.ok.LO.mem hb;exact absurd (zal (zaf ho) (zbq I.sz h)) (Nat.lt_irrefl _)
theorem Inv.pE (I:Inv X pins σ H s):∀x c,X.env.cells.lookup x=some c->c≠X.env.locals:=λ x c e z=>by
 obtain⟨v,o,ho,hd⟩:=I.cell x c e;obtain⟨m,⟨o',es,ep,aH,aS,_⟩,_⟩:=I.loc;rw[z,aH] at ho;cases ho;rw[aS] at hd;cases hd
theorem Inv.LO (I:Inv X pins σ H s):s.heap.FunFrames X.base X.outer:=by
 have all:∀(l:List Env),(∀b∈ZL l,b∈X.fs)->X.s₀.heap.FunFrames X.base l->s.heap.FunFrames X.base l:=by
  intro l;induction l with
  |nil=>intro _ _;trivial
  |cons env r ih =>
   intro hs hl;obtain⟨hk,⟨L,o,hf,hn,ho,hd⟩,hr⟩:=hl;have hL:L∈X.fs:=hs L (by unfold ZL;rw[zc7,hf];exact za3);obtain⟨sl,e⟩:=I.base.slot L o ho (I.ok.pC L hL) hL λ z=>I.ok.ZU L z hL;exact⟨hk,⟨L,_,hf,hn,e,hd⟩,ih (λ b hb=>hs b (by unfold ZL;rw[zc7,hf];exact za4 _ hb)) hr⟩
 exact all X.outer (λ _ hb=>hb) I.ok.LO
theorem Inv.stack (I:Inv X pins σ H s):s.heap.FunFrames X.base X.stack:=by
 rcases I.ok.xZ with e|⟨e,hf⟩
 ·rw[e];exact I.LO
 ·rw[e];obtain⟨m,hn,_⟩:=I.loc;refine .cons (by rw[I.ok.kind];decide) hf hn ?_ I.LO;exact Heap.get?_none_of_le (zbq I.ok.iL I.ok.above)
theorem Inv.Vo (I:Inv X pins σ H s):∀b∈ZL X.stack,b∈X.env.locals::X.fs:=λ b hb=>by
 rcases I.ok.xZ with e|⟨e,hf⟩
 ·rw[e] at hb;exact za4 _ hb
 ·rw[e] at hb;unfold ZL at hb;rw[zc7,hf] at hb;exact hb
theorem Inv.WU (I:Inv X pins σ H s):∀b∈ZL X.stack,H b=none:=λ b hb=>by
 rcases zaa.mp (I.Vo b hb) with e|hb
 ·rw[e];exact I.free
 ·obtain⟨_,o,ho,_⟩:=I.ok.LO.mem hb;exact I.base.free b o ho (I.ok.pC b hb) λ z=>I.ok.ZU b z hb
theorem Inv.step {g':Array GenState}{t':Nat}{d':Drawn}{ch:List Addr}(I:Inv X pins σ H s)
 (aV:∀b∈ch,(b∈X.ex\/X.s₀.heap.objs.size<=b)/\b≠X.env.locals/\(∀x c,X.env.cells.lookup x=some c->c≠b)/\∀p∈X.pn++pins,p.1≠b)
 (keep:∀b o,b≠X.env.locals->b∉X.fs->b∉ch->s.heap.get? b=some o->H b=none->h'.get? b=some o)
 (slot:∀b o,b≠X.env.locals->b∈X.fs->b∉ch->s.heap.get? b=some o->H b=none->∃sl,h'.get? b=some {o with slots:=sl}) (free:∀b o,b∉ch->s.heap.get? b=some o->H b=none->H' b=none)
 (there:∀b o,b∉ch->s.heap.get? b=some o->∃o',h'.get? b=some o')
 (Qf:∀b xs,H b=some (.tup xs)->H' b=some (.tup xs)) (N7:∀b o u,H b=some (.GD o u)->H' b=some (.GD o u)) (Qg:∀b ps,H b=some (.pA ps)->∃more,H' b=some (.pA (ps++more)))
 (ns:∀m,s.heap.Ns X.env.locals m->h'.Ns X.env.locals m) (Aw:G4 X.prog X.w H' h') (hg:AllBare g'):
 Inv X pins σ H' {s with heap:=h',gens:=g',drawn:=d',toks:=t' }:=by
 have t9:∀b o,X.s₀.heap.get? b=some o->b≠X.env.locals:=λ b o e=>zar (zal (zaf e) I.ok.above);have ib:∀b o,X.s₀.heap.get? b=some o->b∉X.ex->b∉ch:=λ b o e hx hb=>by
  rcases (aV b hb).1 with z|z
  ·exact hx z
  ·exact absurd (zal (zaf e) z) (Nat.lt_irrefl _)
 have cellK:∀x c,X.env.cells.lookup x=some c->∀v,s.heap.IsCell c v->h'.IsCell c v:=λ x c e v ⟨o,ho,hd⟩=>by
  have iq:c∉ch:=λ z=>(aV c z).2.2.1 x c e rfl;by_cases hc:c∈X.fs
  ·obtain⟨sl,q⟩:=slot c o (I.pE x c e) hc iq ho (I.FA x c e);exact⟨_,q,hd⟩
  ·exact⟨o,keep c o (I.pE x c e) hc iq ho (I.FA x c e),hd⟩
 refine⟨I.ok,I.os,hg,⟨λ b o e n hb hx=>?_,λ b o e n hb hx=>?_,λ b o e n hx=>?_,λ b o e hx=>?_,λ b xs e=>Qf b xs (I.base.Qf b xs e),λ b o xs e=>N7 b o xs (I.base.N7 b o xs e),λ b ps e=>?_⟩,?_,λ x c e=>?_,?_,λ x c e=>?_,λ p hp=>?_,Aw,I.len⟩
 ·exact keep b o (t9 b o e) hb (ib b o e hx) (I.base.keep b o e n hb hx) (I.base.free b o e n hx)
 ·obtain⟨sl,e1⟩:=I.base.slot b o e n hb hx;obtain⟨vx,e2⟩:=slot b _ (t9 b o e) hb (ib b o e hx) e1 (I.base.free b o e n hx);exact⟨vx,e2⟩
 ·obtain⟨o',e1⟩:=I.base.there b o e hx;exact free b o' (ib b o e hx) e1 (I.base.free b o e n hx)
 ·obtain⟨o',e1⟩:=I.base.there b o e hx;exact there b o' (ib b o e hx) e1
 ·obtain⟨m1,e1⟩:=I.base.Qg b ps e;obtain⟨m2,e2⟩:=Qg b _ e1;exact⟨m1++m2,by rw[e2,Array.append_assoc]⟩
 ·obtain⟨m,hn,hl⟩:=I.loc;refine⟨m,ns m hn,λ i x v e1 e2 e3=>?_⟩;obtain⟨u,r,l⟩:=hl i x v e1 e2 e3;refine⟨u,r,?_⟩;rcases l with l|⟨k,c,e,z⟩
  ·exact .inl l
  ·exact .inr ⟨k,c,e,cellK x c e _ z⟩
 ·obtain⟨v,z⟩:=I.cell x c e;exact⟨v,cellK x c e v z⟩
 ·obtain⟨m,⟨o,_,_,ho,_⟩,_⟩:=I.loc;exact free _ o (λ z=>(aV _ z).2.1 rfl) ho I.free
 ·obtain⟨v,o,ho,hd⟩:=I.cell x c e;exact free c o (λ z=>(aV c z).2.2.1 x c e rfl) ho (I.FA x c e)
 ·obtain⟨e,n,ne,nf,d⟩:=I.pin p hp;have iq:p.1∉ch:=λ z=>(aV p.1 z).2.2.2 p hp rfl;exact⟨keep p.1 p.2 ne nf iq e n,free p.1 p.2 iq e n,ne,nf,d⟩
theorem Inv.un {t':Nat}(I:Inv X pins σ H s)(u:Un X.fs [] H H' s.heap h')(Aw:G4 X.prog X.w H' h'):Inv X pins σ H' {s with heap:=h',toks:=t' }:=by
 obtain⟨m,⟨o,es,ep,ho,r⟩,_⟩:=id I.loc;obtain⟨sl,hL⟩:=u.any ho I.free (by simp);exact I.step (g':=s.gens) (d':=s.drawn) (ch:=[]) (λ _ z=>nomatch z) (λ b o _ hb _ e n=>u.keep b o e n hb (by simp)) (λ b o _ hb _ e n=>u.slot b o e n hb (by simp)) (λ b o _ e n=>u.free b o e n (by simp)) (λ b o _ e=>u.there b o e (by simp)) u.Qf u.N7 u.Qg (λ m' hm=>by
  obtain⟨o',nc,ng,aH,r'⟩:=hm;rw[ho] at aH;cases aH;exact⟨_,nc,ng,hL,r'⟩) Aw I.bare
theorem Inv.call {g':Array GenState}{t':Nat}{d':Drawn}{ch:List Addr}(I:Inv X pins σ H s)(u:Un (ZL X.stack) ch H H' s.heap h')(Aw:G4 X.prog X.w H' h')(hg:AllBare g')
 (aV:∀b∈ch,(b∈X.ex\/X.s₀.heap.objs.size<=b)/\b≠X.env.locals/\(∀x c,X.env.cells.lookup x=some c->c≠b)/\∀p∈X.pn++pins,p.1≠b):
 Inv X pins σ H' {s with heap:=h',gens:=g',drawn:=d',toks:=t' }:=by
 obtain⟨m,⟨o,es,ep,ho,r⟩,_⟩:=id I.loc;obtain⟨sl,hL⟩:=u.any ho I.free λ z=>(aV _ z).2.1 rfl;exact I.step (ch:=ch) aV (λ b o hL hb hc e n=>u.keep b o e n (λ z=>(zaa.mp (I.Vo b z)).elim hL hb) hc) (λ b o _ _ hc e n=>u.any e n hc) (λ b o hc e n=>u.free b o e n hc) (λ b o hc e=>u.there b o e hc) u.Qf u.N7 u.Qg (λ m' hm=>by
  obtain⟨o',nc,ng,aH,r'⟩:=hm;rw[ho] at aH;cases aH;exact⟨_,nc,ng,hL,r'⟩) Aw hg
theorem Inv.turned {t':Nat}{it:Addr}(I:Inv X pins σ H s)(k:∀b o,b≠it->s.heap.get? b=some o->h'.get? b=some o)(hn:H it=none)(hL:it≠X.env.locals)
 (h1:it∈X.ex\/X.s₀.heap.objs.size<=it) (h2:∀x c,X.env.cells.lookup x=some c->c≠it) (h3:∀p∈X.pn++pins,p.1≠it):Inv X pins σ H {s with heap:=h',toks:=t' }:=by
 have ub:∀b u,H b=some u->b≠it:=λ b u e z=>by rw[z,hn] at e;cases e
 refine I.step (g':=s.gens) (d':=s.drawn) (ch:=[it]) (λ b hb=>?_) (λ b o _ _ hc e _=>k b o (λ z=>hc (by simp[z])) e) (λ b o _ _ hc e _=>⟨o.slots,k b o (λ z=>hc (by simp[z])) e⟩) (λ _ _ _ _ n=>n)
  (λ b o hc e=>⟨o,k b o (λ z=>hc (by simp[z])) e⟩) (λ _ _ e=>e) (λ _ _ _ e=>e) (λ b ps e=>⟨#[],by rw[e];simp⟩) (λ m hm=>?_) (λ b u e=>?_) I.bare
 ·have e:b=it:=by simpa using hb
  subst e;exact⟨h1,hL,h2,h3⟩
 ·obtain⟨o,es,ep,ho,r⟩:=hm;exact⟨o,es,ep,k _ o (zbi hL) ho,r⟩
 ·refine (I.Aw b u e).N6 (λ c v hc q=>k c v ?_ q) (λ _ q=>q) λ _ _ q=>q;rcases hc with z|z
  ·rw[z];exact ub b u e
  ·exact ub c _ z
theorem Inv.tok (I:Inv X pins σ H s)(t:Nat):Inv X pins σ H {s with toks:=t}:=I.un (h':=s.heap) (t':=t) Un.refl I.Aw
theorem Inv.kept {t':Nat}(I:Inv X pins σ H s)(k:∀b u,s.heap.get? b=some u->h'.get? b=some u):Inv X pins σ H {s with heap:=h',toks:=t' }:=I.un (Un.kept k) (I.Aw.kept k)
theorem Inv.laid {a:Addr}{o:HO}{t':Nat}(I:Inv X pins σ H s)(k:∀b u,s.heap.get? b=some u->h'.get? b=some u)(hp:s.heap.objs.size<=a)(new:Bl X.prog X.w (upd H a o) h' a o):
 Inv X pins σ (upd H a o) {s with heap:=h',toks:=t' }:=I.un (Un.laid k hp (I.Aw.fresh hp)) (I.Aw.laid k hp new)
theorem Inv.write {x e:Addr}{o:HO}{t':Nat}(I:Inv X pins σ H s)(mu:uH (H x))(he:e=x\/H e=some (.own x))(k:∀b u,b≠e->s.heap.get? b=some u->h'.get? b=some u)(d0:∃u,h'.get? e=some u)
 (new:Bl X.prog X.w (upd H x o) h' x o):Inv X pins σ (upd H x o) {s with heap:=h',toks:=t' }:=I.un (Un.write mu he k d0) (I.Aw.write mu he k d0 new)
theorem Inv.weak {σ':List (Option V)}(I:Inv X pins σ H s)(hl:σ'.length=σ.length)(w:∀(i:Nat) v,σ'[i]?=some (some v)->σ[i]?=some (some v)):Inv X pins σ' H s:=
 ⟨I.ok,I.os,I.bare,I.base,let ⟨m,hn,cz⟩:=I.loc;⟨m,hn,λ i x v e1 e2 e3=>cz i x v e1 (w i v e2) e3⟩,I.cell,I.free,I.FA,I.pin,I.Aw,hl.trans I.len⟩
theorem Inv.JY {d6:List (Addr×Obj)}(I:Inv X pins σ H s)(h:∀p∈d6,s.heap.get? p.1=some p.2/\H p.1=none/\p.1≠X.env.locals/\p.1∉X.fs/\∀v,p.2.data≠.cell v):Inv X d6 σ H s:=
 ⟨I.ok,I.os,I.bare,I.base,I.loc,I.cell,I.free,I.FA,λ p hp=>(zan.mp hp).elim (λ z=>I.pin p (zb3 _ z)) (h p),I.Aw,I.len⟩
theorem Te {N:List Str}(hN:N.Nodup){i j:Nat}{x:Str}(a:N[i]?=some x)(b:N[j]?=some x):i=j:=by
 obtain⟨h1,e1⟩:=zai.mp a;obtain⟨h2,e2⟩:=zai.mp b;exact (List.getElem_inj hN).mp (e1.trans e2.symm)
theorem QK {M:Model}{A:Around}{E:Value->Shared->Prop}{i:Nat}{x:Str}{v:V}{u:Value}{Q:Unit->Shared->Prop}(I:Inv X pins σ H s)(hN:X.N.Nodup)(hi:X.N[i]?=some x)(hx:Loc X.env.scope x)(r:RelV v u)
 (h:∀s',Inv X pins (σ.set i (some v)) H s'->(∃a,zd1 a s.heap s'.heap/\(a=X.env.locals\/X.env.cells.lookup x=some a))->Q () s') (hf:X.fn x=true\/X.env.scope.names.lookup x=some .local:=by first|exact .inl rfl|exact .inr rfl|assumption):wpAny M A (storeName X.env x u) Q E s:=by
 obtain⟨m,hn,hl⟩:=id I.loc;have nh:(X.env.scope.kind==.class||(X.env.scope.kind==.module&&X.env.locals != X.env.globals))=false:=by rw[I.ok.kind];rfl
 have hiσ:i<σ.length:=by rw[I.len];exact (zai.mp hi).1
 have pE:=I.pE;have tracked:∀ {a:Addr} {h':Heap},(∃o,s.heap.get? a=some o/\H a=none)->zd1 a s.heap h'->G4 X.prog X.w H h':=fun {a h'} ha hs b ob e=>by
  obtain⟨_,_,d8⟩:=ha;refine (I.Aw b ob e).N6 (λ c w' hc q=>(hs.2 c ?_).trans q) (λ _ q=>q) λ _ _ q=>q;rintro rfl;rcases hc with rfl|hc
  ·rw[d8] at e;cases e
  ·rw[d8] at hc;cases hc
 rcases hx with hk|hk
 ·refine wpAny_storeName_local hk hn (λ h' bf hs=>?_) nh;obtain⟨oL,_,_,vy,_⟩:=id hn;refine h _ ⟨I.ok,I.os,I.bare,⟨λ b o e n hb hx=>?_,λ b o e n hb hx=>?_,I.base.free,λ b o e hx=>?_,I.base.Qf,I.base.N7,I.base.Qg⟩,⟨_,bf,λ j y v' e1 e2 e3=>?_⟩,λ y c e=>?_,I.free,I.FA,λ p hp=>?_,tracked ⟨oL,vy,I.free⟩ hs,by simpa using I.len⟩ ⟨_,hs,.inl rfl⟩
  ·exact (hs.2 b (zar (zal (zaf e) I.ok.above))).trans (I.base.keep b o e n hb hx)
  ·obtain⟨sl,e1⟩:=I.base.slot b o e n hb hx;exact⟨sl,(hs.2 b (zar (zal (zaf e) I.ok.above))).trans e1⟩
  ·obtain⟨o',e1⟩:=I.base.there b o e hx;exact⟨o',(hs.2 b (zar (zal (zaf e) I.ok.above))).trans e1⟩
  ·by_cases hj:j=i
   ·subst hj;rw[hi] at e1;cases e1;rw[zb4 hiσ] at e2;cases e2;exact⟨u,r,.inl ⟨hk,by simp⟩⟩
   ·rw[zbp (zbi hj)] at e2;obtain⟨u',r',q⟩:=hl j y v' e1 e2 e3;refine⟨u',r',?_⟩;rcases q with ⟨k,e⟩|⟨k,c,e,z⟩
    ·refine .inl ⟨k,?_⟩;have:y≠x:=λ e=>hj (Te hN e1 (e▸hi));simp[this,e]
    ·exact .inr ⟨k,c,e,z.sameBut hs (pE y c e)⟩
  ·obtain⟨w',z⟩:=I.cell y c e;exact⟨w',z.sameBut hs (pE y c e)⟩
  ·obtain⟨e,n,ne,nf,d⟩:=I.pin p hp;exact⟨(hs.2 p.1 ne).trans e,n,ne,nf,d⟩
 ·have ni:X.fn x=true:=by
   rcases hf with z|z
   ·exact z
   ·rw[z] at hk;cases hk
  obtain⟨c,hc⟩:=I.ok.has x (.inl hk);obtain⟨w',z⟩:=I.cell x c hc;refine wpAny_storeName_cell I.ok.kind hk hc z (λ h' bt hs=>?_);obtain⟨oc,uc,nj⟩:=id z;refine h {s with heap:=h' } ⟨I.ok,I.os,I.bare,⟨λ b o e n hb hx=>?_,λ b o e n hb hx=>?_,I.base.free,λ b o e hx=>?_,I.base.Qf,I.base.N7,I.base.Qg⟩,⟨m,hn.sameBut hs (zbi (pE x c hc)),λ j y v' e1 e2 e3=>?_⟩,λ y c' e=>?_,I.free,I.FA,λ p hp=>?_,tracked ⟨oc,uc,I.FA x c hc⟩ hs,by simpa using I.len⟩ ⟨c,hs,.inr hc⟩
  ·exact (hs.2 b (zar (zal (zaf e) (I.ok.uI x c ni hc)))).trans (I.base.keep b o e n hb hx)
  ·obtain⟨sl,e1⟩:=I.base.slot b o e n hb hx;exact⟨sl,(hs.2 b (zar (zal (zaf e) (I.ok.uI x c ni hc)))).trans e1⟩
  ·obtain⟨o',e1⟩:=I.base.there b o e hx;exact⟨o',(hs.2 b (zar (zal (zaf e) (I.ok.uI x c ni hc)))).trans e1⟩
  ·by_cases hj:j=i
   ·subst hj;rw[hi] at e1;cases e1;rw[zb4 hiσ] at e2;cases e2;exact⟨u,r,.inr ⟨.inl hk,c,hc,bt⟩⟩
   ·rw[zbp (zbi hj)] at e2;obtain⟨u',r',q⟩:=hl j y v' e1 e2 e3;refine⟨u',r',?_⟩;rcases q with q|⟨k,c',e,z'⟩
    ·exact .inl q
    ·refine .inr ⟨k,c',e,z'.sameBut hs ?_⟩;rintro rfl;exact hj (Te hN e1 (I.ok.inj _ _ _ e hc▸hi))
  ·by_cases lr:c'=c
   ·subst lr;exact⟨_,bt⟩
   ·obtain⟨w2,z2⟩:=I.cell y c' e;exact⟨w2,z2.sameBut hs lr⟩
  ·obtain⟨e,n,ne,nf,d⟩:=I.pin p hp;refine⟨(hs.2 p.1 ?_).trans e,n,ne,nf,d⟩;intro q;rw[q,uc] at e;have q':oc=p.2:=zas e;exact d w' (by rw[<-q'];exact nj)
theorem Tf {M:Model}{A:Around}{E:Value->Shared->Prop}{i:Nat}{x:Str}{v:V}{u:Value}{Q:Unit->Shared->Prop}(I:Inv X pins σ H s)(hN:X.N.Nodup)(hi:X.N[i]?=some x)(hx:Loc X.env.scope x)(r:RelV v u)
 (h:∀s',Inv X pins (σ.set i (some v)) H s'->Q () s') (hf:X.fn x=true\/X.env.scope.names.lookup x=some .local:=by first|exact .inl rfl|exact .inr rfl|assumption):wpAny M A (storeName X.env x u) Q E s:=
 QK I hN hi hx r (λ s' I' _=>h s' I') hf
theorem Inv.uJ {s':Shared}{ch:List Addr}(I:Inv X pins σ H s)(ho:s'.os=s.os)(u:Un (ZL X.stack) ch H H' s.heap s'.heap)(Aw:G4 X.prog X.w H' s'.heap)(hg:AllBare s'.gens)
 (aV:∀b∈ch,(b∈X.ex\/X.s₀.heap.objs.size<=b)/\b≠X.env.locals/\(∀x c,X.env.cells.lookup x=some c->c≠b)/\∀p∈X.pn++pins,p.1≠b):Inv X pins σ H' s':=by
 obtain⟨h',g',d',t',o'⟩:=s';have e:o'=s.os:=ho;subst e;exact I.call (g':=g') (t':=t') (d':=d') u Aw hg aV
end
noncomputable abbrev XK:=Value->Option Addr->Hp->Prop
noncomputable abbrev St:=List (Option V)
noncomputable abbrev VK:=V->Hp->Prop
noncomputable abbrev TE:=St->Hp->VK->Prop
noncomputable abbrev TT:=St->Hp->(Bool->Hp->Prop)->Prop
noncomputable abbrev TA:=St->Hp->(List V->Hp->Prop)->Prop
structure Ends where
 nx:St->Hp->Prop
 rt:VK
 bk:St->Hp->Prop:=λ _ _=>False
 ct:St->Hp->Prop:=λ _ _=>False
noncomputable abbrev TS:=Ends->St->Hp->Prop
def EP (X:Cx)(pins:List (Addr×Obj))(σ:St)(Q:VK)(u:Value)(s':Shared):Prop:=∃v H',Inv X pins σ H' s'/\RelV v u/\Q v H'
def TP (X:Cx)(pins:List (Addr×Obj))(σ:St)(Q:Bool->Hp->Prop)(b:Bool)(s':Shared):Prop:=∃H',Inv X pins σ H' s'/\Q b H'
def AP (X:Cx)(pins:List (Addr×Obj))(σ:St)(Q:List V->Hp->Prop)(us:List Value)(s':Shared):Prop:=∃vs H',Inv X pins σ H' s'/\Vals vs us/\Q vs H'
def SP (X:Cx)(pins:List (Addr×Obj))(D:Ends)(f:Flow)(s':Shared):Prop:=
 match f with
 | .next=>∃σ' H',Inv X pins σ' H' s'/\D.nx σ' H'
 | .brk=>∃σ' H',Inv X pins σ' H' s'/\D.bk σ' H'
 | .cont=>∃σ' H',Inv X pins σ' H' s'/\D.ct σ' H'
 | .ret u=>∃v σ' H',Inv X pins σ' H' s'/\RelV v u/\D.rt v H'
def PE (X:Cx)(e:Expr)(t:TE):Prop:=
 ∀(pins:List (Addr×Obj)) (s:Shared) (σ:St) (H:Hp) (Q:VK),Inv X pins σ H s->t σ H Q->wpAny (model X.prog X.w) X.A (eval e X.env) (EP X pins σ Q) X.xe s
def PT (X:Cx)(e:Expr)(t:TT):Prop:=
 ∀(pins:List (Addr×Obj)) (s:Shared) (σ:St) (H:Hp) (Q:Bool->Hp->Prop),Inv X pins σ H s->t σ H Q->wpAny (model X.prog X.w) X.A (isTrue e X.env (eval e X.env)) (TP X pins σ Q) X.xe s
def PW (X:Cx)(e:Expr)(t:TT):Prop:=
 ∀(whole:Sem Value) (pins:List (Addr×Obj)) (s:Shared) (σ:St) (H:Hp) (Q:Bool->Hp->Prop),Inv X pins σ H s->t σ H Q->wpAny (model X.prog X.w) X.A (isTrue e X.env whole) (TP X pins σ Q) X.xe s
theorem PW.pt {X:Cx}{e:Expr}{t:TT}(h:PW X e t):PT X e t:=h _
def PA (X:Cx)(es:List Expr)(t:TA):Prop:=
 ∀(pos:Pos) (pins:List (Addr×Obj)) (s:Shared) (σ:St) (H:Hp) (Q:List V->Hp->Prop),Inv X pins σ H s->t σ H Q->wpAny (model X.prog X.w) X.A (spliced (backTo pos (starEach es X.env))) (AP X pins σ Q) X.xe s
def PS (X:Cx)(st:Stmt)(t:TS):Prop:=
 ∀(pins:List (Addr×Obj)) (s:Shared) (σ:St) (H:Hp) (D:Ends),Inv X pins σ H s->t D σ H->wpAny (model X.prog X.w) X.A (exec st X.env) (SP X pins D) X.xe s
def WV (X:Cx)(st:List Stmt)(t:TS):Prop:=
 ∀(pins:List (Addr×Obj)) (s:Shared) (σ:St) (H:Hp) (D:Ends),Inv X pins σ H s->t D σ H->wpAny (model X.prog X.w) X.A (execs st X.env) (SP X pins D) X.xe s
theorem Bh {α:Type}{t:Sem α}{Q Q':α->Shared->Prop}{M:Model}{A:Around}{E:Value->Shared->Prop}{s:Shared}(h:wpAny M A t Q E s)(hQ:∀a s,Q a s->Q' a s):wpAny M A t Q' E s:=wpAny_mono h hQ λ _ _ x=>x
section
variable {X:Cx}
theorem bin {a b:Expr}{ta tb:TE}(ha:PE X a ta)(hb:PE X b tb){pins:List (Addr×Obj)}{s:Shared}{σ:St}{H:Hp}{R:V->V->Hp->Prop}(I:Inv X pins σ H s)(h:ta σ H λ x H1=>tb σ H1 λ y H2=>R x y H2)
 {α:Type} {Q:α->Shared->Prop} {f:Value->Value->Sem α}
 (hf:∀v u s2 x y H2,Inv X pins σ H2 s2->RelV x v->RelV y u->R x y H2->wpAny (model X.prog X.w) X.A (f v u) Q X.xe s2):
 wpAny (model X.prog X.w) X.A (eval a X.env) (λ v s₁=>wpAny (model X.prog X.w) X.A (eval b X.env) (λ u s₂=>wpAny (model X.prog X.w) X.A (f v u) Q X.xe s₂) X.xe s₁) X.xe s:=by
 refine Bh (ha pins s σ H _ I h) λ v s1 zz=>?_;obtain⟨x,H1,I1,r1,q1⟩:=zz;refine Bh (hb pins s1 σ H1 _ I1 q1) λ u s2 zz=>?_;obtain⟨y,H2,I2,r2,q2⟩:=zz;exact hf v u s2 x y H2 I2 r1 r2 q2
noncomputable def Tg (i:Nat):TE:=λ σ H Q=>∃v,σ[i]?=some (some v)/\Q v H
noncomputable def tC (v:V):TE:=λ _ H Q=>Q v H
theorem pF {i:Nat}{x:Str}{pos:Pos}(hN:X.N[i]?=some x)(hv:yX X.env.scope x)(hd:(x==("__debug__" : Str))=false:=by decide)(aT:(x==("__classdict__" : Str))=false:=by decide):PE X (.Name x pos) (Tg i):=by
 intro pins s σ H Q I h;obtain⟨v,e,h⟩:=h;obtain⟨m,hn,hl⟩:=I.loc;obtain⟨u,r,l⟩:=hl i x v hN e hv;have fin:EP X pins σ Q u s:=⟨v,H,I,r,h⟩;rcases l with ⟨hk,hm⟩|⟨hk,c,hc,d9⟩
 ·exact wpAny_Name (wpAny_loadName_local I.ok.kind hk hn hm fin) hd
 ·rcases hk with hk|hk
  ·exact wpAny_Name (wpAny_loadName_cell I.ok.kind hk hc d9 fin) hd
  ·exact wpAny_Name (wpAny_loadName_free I.ok.kind hk hc d9 fin aT) hd
theorem pG {i j pos}:PE X (.Constant (.int i) j pos) (tC (.int i)):=λ _ _ _ H _ I h=>wpAny_Constant_int ⟨.int i,H,I.tok _,⟨_,rfl⟩,h⟩
theorem uK {b j pos}:PE X (.Constant (.bool b) j pos) (tC (.bl b)):=λ _ _ _ H _ I h=>Constant_bool ⟨.bl b,H,I,rfl,h⟩
theorem pH {j pos}:PE X (.Constant .none j pos) (tC .AJ):=λ _ _ _ H _ I h=>Constant_none ⟨.AJ,H,I,rfl,h⟩
def Gl (X:Cx)(x:Str):Prop:=X.env.kindOf x=some .globalImplicit
theorem WW {E:Value->Shared->Prop}{pins:List (Addr×Obj)}{s:Shared}{σ:St}{H:Hp}{x:Str}{u:Value}{pos:Pos}{Q:Value->Shared->Prop}(I:Inv X pins σ H s)(hg:Gl X x)(hm:X.mg x=some u)(h:Q u s)
 (hd:(x==("__debug__" : Str))=false:=by decide):wpAny (model X.prog X.w) X.A (eval (.Name x pos) X.env) Q E s:=
 Calls.Name_function_global I.ok.kind hg (Calls.loadGlobal_global (by rw[I.ok.glob];exact I.mod.glob.keeps I.bk) hm h) hd
theorem Dl {E:Value->Shared->Prop}{pins:List (Addr×Obj)}{s:Shared}{σ:St}{H:Hp}{x:Str}{u:Value}{pos:Pos}{Q:Value->Shared->Prop}(I:Inv X pins σ H s)(hg:Gl X x)(hm:X.mg x=none)(hv:bootBuiltins x=some u)(h:Q u s)
 (hn:x ≠ "__name__" := by decide) (hd:(x==("__debug__" : Str))=false:=by decide):wpAny (model X.prog X.w) X.A (eval (.Name x pos) X.env) Q E s:=by
 obtain⟨mb,h1,h2⟩:=I.mod.blt;exact Calls.Name_function_global I.ok.kind hg (Calls.loadGlobal_builtin (by rw[I.ok.glob];exact I.mod.glob.keeps I.bk) hm (by rw[I.ok.blt];exact h1.keeps I.bk) ((h2 x hn).trans hv) h) hd
theorem iM {x:Str}{v:V}{u:Value}{pos:Pos}(hg:Gl X x)(hm:X.mg x=none)(hv:bootBuiltins x=some u)(r:RelV v u)(hn:x ≠ "__name__" := by decide)(hd:(x==("__debug__" : Str))=false:=by decide):PE X (.Name x pos) (tC v):=
 λ _ _ _ H _ I h=>Dl I hg hm hv ⟨v,H,I,r,h⟩ hn hd
variable {a b:Expr}{ta tb:TE}{pos:Pos}
def PC (X:Cx)(op:CmpOp)(a b:Expr)(t:TE):Prop:=
 ∀(pins:List (Addr×Obj)) (s:Shared) (σ:St) (H:Hp) (Q:VK),Inv X pins σ H s->t σ H Q->
  wpAny (model X.prog X.w) X.A (eval a X.env) (λ v s₁=>wpAny (model X.prog X.w) X.A (eval b X.env) (λ u s₂=>wpAny (model X.prog X.w) X.A (compareOp op v u) (EP X pins σ Q) X.xe s₂) X.xe s₁) X.xe s
theorem Th (b:Expr){op:CmpOp}(h:op≠.In)(h2:op≠.NotIn):behindInMarks op b=false:=by
 have e1:(op==CmpOp.In)=false:=by cases op<;>first|rfl|exact absurd rfl h
 have e2:(op==CmpOp.NotIn)=false:=by cases op<;>first|rfl|exact absurd rfl h2
 cases b<;>simp[behindInMarks,e1,e2]
noncomputable def zA (ta:TE):TE:=λ σ H Q=>ta σ H λ x H1=>Q (.bl (decide (x=.AJ))) H1
noncomputable def uL (ta:TE):TE:=λ σ H Q=>ta σ H λ x H1=>Q (.bl (!decide (x=.AJ))) H1
theorem RelV.Ti {x:V}{v:Value}(r:RelV x v):(v==Value.none)=decide (x=.AJ):=by
 cases x with
 |AJ|bl _=>cases r;rfl
 |int _|str _|oZ _|uF _=>obtain⟨t,rfl⟩:=r;rfl
 |ref _|ty _=>cases r;rfl
theorem ZV {j pos'}(ha:PE X a ta):PC X .Is a (.Constant .none j pos') (zA ta):=by
 intro pins s σ H Q I h;refine Bh (ha pins s σ H _ I h) λ v s1 zz=>?_;obtain⟨x,H1,I1,r1,q1⟩:=zz;exact Constant_none (is_none_gen ⟨.bl _,H1,I1,by rw[r1.Ti];rfl,q1⟩)
theorem iN {j pos'}(ha:PE X a ta):PC X .IsNot a (.Constant .none j pos') (uL ta):=by
 intro pins s σ H Q I h;refine Bh (ha pins s σ H _ I h) λ v s1 zz=>?_;obtain⟨x,H1,I1,r1,q1⟩:=zz;exact Constant_none (isnot_none_gen ⟨.bl _,H1,I1,by rw[r1.Ti];rfl,q1⟩)
noncomputable def tB (t:TE):TT:=λ σ H Q=>t σ H λ x H1=>∃c,x=.bl c/\Q c H1
theorem pI {op:CmpOp}{t:TE}(h:PC X op a b t)(h1:behindInMarks op b=false:=by first | exact Th _ (by decide) (by decide) | rfl):PE X (.Compare a [op] [b] pos) t:=λ pins s σ H Q I hw=>wpAny_Compare1 (h pins s σ H Q I hw) h1
theorem ZW {op:CmpOp}{t:TE}(h:PC X op a b t)(h1:behindInMarks op b=false:=by first | exact Th _ (by decide) (by decide) | rfl):PT X (.Compare a [op] [b] pos) (tB t):=by
 intro pins s σ H Q I hw;refine wpAny_isTrue_Compare1 (Bh (h pins s σ H _ I hw) λ v s1 h1=>Bh h1 λ u s2 h2=>Bh h2 λ c s3 zz=>?_) h1;obtain⟨x,H1,I1,r1,q1⟩:=zz;obtain⟨d,rfl,q⟩:=q1;cases r1;exact wpAny_truthy_bool ⟨H1,I1,q⟩
variable {tA ls:TT}{rest:List Expr}
noncomputable def zB (t u:TT):TT:=λ σ H Q=>t σ H λ c H1=>if c=true then u σ H1 Q else Q false H1
noncomputable def tOr (t u:TT):TT:=λ σ H Q=>t σ H λ c H1=>if c=true then Q true H1 else u σ H1 Q
noncomputable def zC (t:TT):TT:=λ σ H Q=>t σ H λ c H1=>Q (!c) H1
theorem pw_and1 (ha:PT X a tA):PW X (.BoolOp .And [a] pos) tA:=by
 intro wh pins s σ H Q I h;refine isTrue_and (Bh (ha pins s σ H Q I h) λ c s1 e=>?_);cases c with
 |true=>exact isTrue_and_nil e
 |false=>exact e
theorem pw_or1 (ha:PT X a tA):PW X (.BoolOp .Or [a] pos) tA:=by
 intro wh pins s σ H Q I h;refine isTrue_or (Bh (ha pins s σ H Q I h) λ c s1 e=>?_);cases c with
 |false=>exact isTrue_or_nil e
 |true=>exact e
theorem pw_and (ha:PT X a tA)(hb:PW X (.BoolOp .And (b::rest) pos) ls):PW X (.BoolOp .And (a::b::rest) pos) (zB tA ls):=by
 intro wh pins s σ H Q I h;refine isTrue_and (Bh (ha pins s σ H _ I h) λ c s1 zz=>?_);obtain⟨H1,I1,q1⟩:=zz;cases c with
 |true=>exact hb wh pins s1 σ H1 Q I1 q1
 |false=>exact⟨H1,I1,q1⟩
theorem pw_or (ha:PT X a tA)(hb:PW X (.BoolOp .Or (b::rest) pos) ls):PW X (.BoolOp .Or (a::b::rest) pos) (tOr tA ls):=by
 intro wh pins s σ H Q I h;refine isTrue_or (Bh (ha pins s σ H _ I h) λ c s1 zz=>?_);obtain⟨H1,I1,q1⟩:=zz;cases c with
 |true=>exact⟨H1,I1,q1⟩
 |false=>exact hb wh pins s1 σ H1 Q I1 q1
theorem pJ (ha:PT X a tA):PT X (.UnaryOp .Not a pos) (zC tA):=by
 intro pins s σ H Q I h;exact isTrue_not (ha pins s σ H (λ c H1=>Q (!c) H1) I h)
noncomputable def uM (ta tb:TE):TE:=λ σ H Q=>ta σ H λ x H1=>∃c,x=.bl c/\if c=true then tb σ H1 Q else Q (.bl false) H1
noncomputable def zD (ta tb:TE):TE:=λ σ H Q=>ta σ H λ x H1=>∃c,x=.bl c/\if c=true then Q (.bl true) H1 else tb σ H1 Q
noncomputable def uN (ta:TE):TE:=λ σ H Q=>ta σ H λ x H1=>∃c,x=.bl c/\Q (.bl (!c)) H1
theorem pK {op}{t:TE}(h:PE X a t):PE X (.BoolOp op [a] pos) t:=λ pins s σ H Q I hw=>BoolOp_one (h pins s σ H Q I hw)
theorem pL (ha:PE X a ta)(hb:PE X (.BoolOp .And (b::rest) pos) tb):PE X (.BoolOp .And (a::b::rest) pos) (uM ta tb):=by
 intro pins s σ H Q I h;refine BoolOp_and (Bh (ha pins s σ H _ I h) λ v s1 zz=>?_);obtain⟨x,H1,I1,r1,q1⟩:=zz;obtain⟨c,rfl,q1⟩:=q1;cases r1;refine wpAny_truthy_bool ?_;cases c with
 |true=>exact hb pins s1 σ H1 Q I1 q1
 |false=>exact⟨.bl false,H1,I1,rfl,q1⟩
theorem uO (ha:PE X a ta)(hb:PE X (.BoolOp .Or (b::rest) pos) tb):PE X (.BoolOp .Or (a::b::rest) pos) (zD ta tb):=by
 intro pins s σ H Q I h;refine BoolOp_or (Bh (ha pins s σ H _ I h) λ v s1 zz=>?_);obtain⟨x,H1,I1,r1,q1⟩:=zz;obtain⟨c,rfl,q1⟩:=q1;cases r1;refine wpAny_truthy_bool ?_;cases c with
 |false=>exact hb pins s1 σ H1 Q I1 q1
 |true=>exact⟨.bl true,H1,I1,rfl,q1⟩
theorem pM (ha:PE X a ta):PE X (.UnaryOp .Not a pos) (uN ta):=by
 intro pins s σ H Q I h;refine UnaryOp_ (Bh (ha pins s σ H _ I h) λ v s1 zz=>?_);obtain⟨x,H1,I1,r1,q1⟩:=zz;obtain⟨c,rfl,q1⟩:=q1;cases r1;exact not_of (wpAny_truthy_bool ⟨.bl (!c),H1,I1,rfl,q1⟩)
end
def CO (K:za0)(H:Hp)(a:Addr)(xs:List V):Prop:=
 Rd H a (.lst xs) \/
  ∃(o:Obj) (aa:Array Value) (n:Nat),K.lookup a=some o/\o.cls=.type "list" /\ o.dict=none/\o.data=.seq aa n/\aa.size<=sizeLine/\Vals xs aa.toList
def F9 (K:za0)(H:Hp)(a:Addr)(xs:List V):Prop:=
 Rd H a (.tup xs) \/
  ∃(o:Obj) (aa:Array Value) (n:Nat),K.lookup a=some o/\o.cls=.type "tuple" /\ o.data=.seq aa n/\aa.size<=sizeLine/\Vals xs aa.toList
noncomputable def zE:Value->Option V
 | .none=>some .AJ
 | .bool b=>some (.bl b)
 | .int i _=>some (.int i)
 | .str x _=>some (.str x)
 | .bytes b _=>some (.oZ b)
 | .float b _=>some (.uF b)
 | .ref a=>some (.ref a)
 | .type n=>some (.ty n)
 |_=>none
theorem RelV.abs {x:V}{u:Value}(r:RelV x u):zE u=some x:=by
 cases x with
 |AJ|bl _=>cases r;rfl
 |int _|str _|oZ _|uF _=>obtain⟨t,rfl⟩:=r;rfl
 |ref _|ty _=>cases r;rfl
theorem RelV.inj {x y:V}{u:Value}(r:RelV x u)(q:RelV y u):x=y:=zas (r.abs.symm.trans q.abs)
theorem Vals.inj:∀ {xs ys:List V}{us:List Value},Vals xs us->Vals ys us->xs=ys
 |_,_,_,.nil,.nil=>rfl
 |_,_,_,.cons r t,.cons r' t'=>by rw[r.inj r',Vals.inj t t']
section
variable {X:Cx}{pins:List (Addr×Obj)}{σ:St}{H:Hp}{s:Shared}{a:Addr}{xs ys:List V}
theorem CO.of {K:za0}(h:H a=some (.lst xs)):CO K H a xs:=.inl (.inl h)
theorem F9.of {K:za0}(h:H a=some (.tup xs)):F9 K H a xs:=.inl (.inl h)
theorem Inv.list (I:Inv X pins σ H s)(h:CO X.K H a xs):∃aa:List Value,Vals xs aa/\PlainL s.heap a aa.toArray/\xs.length<=sizeLine:=by
 rcases h with h|⟨o,aa,n,hk,hc,hd,hs,hz,r⟩
 ·obtain⟨z,aa,n,r,e⟩:=h.ok I.Aw;exact⟨aa,r,⟨_,n,e,rfl,rfl,rfl⟩,z⟩
 ·refine⟨aa.toList,r,⟨o,n,I.Q9 a o hk,hc,hd,by simpa using hs⟩,?_⟩;have e:=r.length;simp only[zde] at e;omega
theorem Inv.tuple (I:Inv X pins σ H s)(h:F9 X.K H a xs):∃aa:List Value,Vals xs aa/\IsTup s.heap a aa.toArray/\xs.length<=sizeLine:=by
 rcases h with h|⟨o,aa,n,hk,hc,hs,hz,r⟩
 ·obtain⟨z,aa,r,p⟩:=h.ok I.Aw;exact⟨aa,r,p,z⟩
 ·refine⟨aa.toList,r,⟨o,I.Q9 a o hk,hc,n,by simpa using hs⟩,?_⟩;have e:=r.length;simp only[zde] at e;omega
theorem Inv.EC (I:Inv X pins σ H s)(h:CO X.K H a xs)(h':CO X.K H a ys):xs=ys:=by
 obtain⟨aa,r,⟨o,n,e,_,_,d⟩,_⟩:=I.list h;obtain⟨its',r',⟨o',n',e',_,_,d'⟩,_⟩:=I.list h';rw[e] at e';cases e';rw[d] at d';injection d' with d1 _
 have:aa=its':=by simpa using congrArg Array.toList d1
 subst this;exact r.inj r'
theorem Inv.FC (I:Inv X pins σ H s)(h:F9 X.K H a xs)(h':F9 X.K H a ys):xs=ys:=by
 obtain⟨aa,r,⟨o,e,_,n,d⟩,_⟩:=I.tuple h;obtain⟨its',r',⟨o',e',_,n',d'⟩,_⟩:=I.tuple h';rw[e] at e';cases e';rw[d] at d';injection d' with d1 _
 have:aa=its':=by simpa using congrArg Array.toList d1
 subst this;exact r.inj r'
end
noncomputable abbrev Cx.Qh (X:Cx)(E:Value->Shared->Prop):Cx:={X with xe:=E}
noncomputable abbrev Cx.uP (X:Cx):Cx:=X.Qh λ _ _=>False
theorem Cx.Ok.Qh {X:Cx}(ok:X.Ok)(E:Value->Shared->Prop):(X.Qh E).Ok:=
 ⟨ok.mod,ok.kind,ok.glob,ok.blt,ok.above,ok.inj,ok.has,ok.uI,ok.hd,ok.frames,ok.xZ,ok.yA,ok.bs,ok.iL,ok.ZT,ok.ZU,ok.LO,ok.pC⟩
theorem Cx.Ok.He {X:Cx}{E:Value->Shared->Prop}(ok:(X.Qh E).Ok):X.Ok:=
 ⟨ok.mod,ok.kind,ok.glob,ok.blt,ok.above,ok.inj,ok.has,ok.uI,ok.hd,ok.frames,ok.xZ,ok.yA,ok.bs,ok.iL,ok.ZT,ok.ZU,ok.LO,ok.pC⟩
section
variable {X:Cx}{pins:List (Addr×Obj)}{σ:St}{H:Hp}{s:Shared}{E:Value->Shared->Prop}
theorem Inv.Qh (I:Inv X pins σ H s)(E:Value->Shared->Prop):Inv (X.Qh E) pins σ H s:=⟨I.ok.Qh E,I.os,I.bare,I.base,I.loc,I.cell,I.free,I.FA,I.pin,I.Aw,I.len⟩
theorem Inv.He (I:Inv (X.Qh E) pins σ H s):Inv X pins σ H s:=⟨I.ok.He,I.os,I.bare,I.base,I.loc,I.cell,I.free,I.FA,I.pin,I.Aw,I.len⟩
theorem SP.He {D:Ends}{f:Flow}{s':Shared}(h:SP (X.Qh E) pins D f s'):SP X pins D f s':=by
 cases f with
 |next|brk|cont=>obtain⟨σ',H',I,q⟩:=h;exact⟨σ',H',I.He,q⟩
 |ret u=>obtain⟨v,σ',H',I,r,q⟩:=h;exact⟨v,σ',H',I.He,r,q⟩
theorem WV.uP {st:List Stmt}{t:TS}(h:WV X.uP st t):WV X st t:=λ pins s σ H D I hw =>
 wpAny_mono (h pins s σ H D (I.Qh _) hw) (λ _ _ q=>q.He) λ _ _ z=>zcp z
end
section
variable {X:Cx}{st:Stmt}{rest:List Stmt}{t u:TS}{e:Expr}{te:TE}{pos:Pos}
noncomputable def uQ:TS:=λ D σ H=>D.nx σ H
noncomputable def zF (t u:TS):TS:=λ D σ H=>t {D with nx:=u D} σ H
theorem iO:WV X [] uQ:=λ _ _ σ H _ I h=>wpAny_execs_nil ⟨σ,H,I,h⟩
theorem ZX (h1:PS X st t)(h2:WV X rest u):WV X (st::rest) (zF t u):=by
 intro pins s σ H D I h;refine wpAny_execs_cons (Bh (h1 pins s σ H {D with nx:=u D} I h) λ f s1 q=>?_);cases f with
 |next =>
  obtain⟨σ',H',I',q⟩:=q;exact h2 pins s1 σ' H' D I' q
 |ret v|brk|cont=>exact q
theorem iP (h1:PS X st t):WV X [st] t:=by
 intro pins s σ H D I h;refine wpAny_execs_cons (Bh (h1 pins s σ H D I h) λ f s1 q=>?_);cases f with
 |next=>exact wpAny_execs_nil q
 |ret v|brk|cont=>exact q
theorem Inv.quiet {pins:List (Addr×Obj)}{σ:St}{H:Hp}{s:Shared}(I:Inv X pins σ H s):interactive X.env=false:=by simp[interactive,I.ok.kind]
noncomputable def uR (te:TE):TS:=λ D σ H=>te σ H λ _ H1=>D.nx σ H1
theorem IA (he:PE X e te)(hs:swapsWith e none pos.line X.env=pure false:=by rfl):PS X (.Expr e pos) (uR te):=by
 intro pins s σ H D I h;exact wpAny_Expr_any (Bh (he pins s σ H _ I h) λ v s1 ⟨x,H1,I1,r1,q1⟩=>⟨σ,H1,I1,q1⟩) I.quiet hs
noncomputable def zG (te:TE):TS:=λ D σ H=>te σ H D.rt
theorem Vp (he:PE X e te):PS X (.Return (some e) pos) (zG te):=by
 intro pins s σ H D I h;exact wpAny_Return_some (Bh (he pins s σ H _ I h) λ v s1 ⟨x,H1,I1,r1,q1⟩=>⟨x,σ,H1,I1,r1,q1⟩)
noncomputable def zH (c:TT)(t u:TS):TS:=λ D σ H=>c σ H λ b H1=>if b=true then t D σ H1 else u D σ H1
theorem uS {c:Expr}{a b:List Stmt}{tc:TT}(hc:PT X c tc)(ha:WV X a t)(hb:WV X b u):PS X (.If c a b pos) (zH tc t u):=by
 intro pins s σ H D I h;refine wpAny_If (Bh (hc pins s σ H _ I h) λ d s1 zz=>?_);obtain⟨H1,I1,q1⟩:=zz;cases d with
 |true=>exact ha pins s1 σ H1 D I1 q1
 |false=>exact hb pins s1 σ H1 D I1 q1
end
noncomputable abbrev TG:=V->St->Hp->(St->Hp->Prop)->Prop
noncomputable abbrev ZM:=List V->St->Hp->(St->Hp->Prop)->Prop
def PG (X:Cx)(target:Expr)(t:TG):Prop:=
 ∀(pins:List (Addr×Obj)) (s:Shared) (σ:St) (H:Hp) (v:V) (u:Value) (Q:St->Hp->Prop),Inv X pins σ H s->RelV v u->t v σ H Q->
  wpAny (model X.prog X.w) X.A (assign target X.env u) (λ _ s'=>∃σ' H',Inv X pins σ' H' s'/\Q σ' H') X.xe s
def tO (X:Cx)(ts:List Expr)(t:ZM):Prop:=
 ∀(pins:List (Addr×Obj)) (s:Shared) (σ:St) (H:Hp) (vs:List V) (us:List Value) (Q:St->Hp->Prop),Inv X pins σ H s->Vals vs us->t vs σ H Q->
  wpAny (model X.prog X.w) X.A (assignInOrder ((assignEach ts X.env).map (·.2)) us) (λ _ s'=>∃σ' H',Inv X pins σ' H' s'/\Q σ' H') X.xe s
noncomputable abbrev pN:=V->V->V->Hp->(Hp->Prop)->Prop
def uT (X:Cx)(t:pN):Prop:=
 ∀(pins:List (Addr×Obj)) (s:Shared) (σ:St) (H:Hp) (o i v:V) (ov iv u:Value) (Q:Hp->Prop),Inv X pins σ H s->RelV o ov->RelV i iv->RelV v u->t o i v H Q->
  wpAny (model X.prog X.w) X.A (setItem ov iv u) (λ _ s'=>∃H',Inv X pins σ H' s'/\Q H') X.xe s
section
variable {X:Cx}{pos:Pos}
noncomputable def QL (i:Nat):TG:=λ v σ H Q=>Q (σ.set i (some v)) H
theorem RV {i:Nat}{x:Str}(hN:X.N.Nodup)(hi:X.N[i]?=some x)(hx:Loc X.env.scope x)(hf:X.fn x=true\/X.env.scope.names.lookup x=some .local:=by first | exact .inl rfl | exact .inr rfl | assumption):PG X (.Name x pos) (QL i):=by
 intro pins s σ H v u Q I r h;exact wpAny_assign_Name (Tf I hN hi hx r (λ s' I'=>⟨_,H,I',h⟩) hf)
noncomputable def pO:ZM:=λ vs σ H Q=>vs=[]/\Q σ H
noncomputable def ZY (t:TG)(u:ZM):ZM:=λ vs σ H Q=>∃v r,vs=v::r/\t v σ H λ σ' H'=>u r σ' H' Q
theorem WY:tO X [] pO:=by
 intro pins s σ H vs us Q I r h;obtain⟨e,h⟩:=h;subst e;cases r;exact assignInOrder_nil ⟨σ,H,I,h⟩
theorem Tj {e:Expr}{es:List Expr}{t:TG}{u:ZM}(h1:PG X e t)(h2:tO X es u)
 (hs:(assignEach (e::es) X.env).map (·.2)=assign e X.env::(assignEach es X.env).map (·.2):=by rfl):tO X (e::es) (ZY t u):=by
 intro pins s σ H vs us Q I r h;obtain⟨v,vr,e1,h⟩:=h;subst e1;cases r with
 |cons r rr =>
  rw[hs];refine assignInOrder_cons (Bh (h1 pins s σ H _ _ _ I r h) λ _ s1 zz=>?_);obtain⟨σ1,H1,I1,q1⟩:=zz;exact h2 pins s1 σ1 H1 _ _ Q I1 rr q1
noncomputable def pQ (K:za0)(n:Nat)(t:ZM):TG:=λ v σ H Q=>∃a xs,v=.ref a/\F9 K H a xs/\xs.length=n/\t xs σ H Q
theorem ZZ {es:List Expr}{k:Nat}{t:ZM}{n:Nat}(hc:X.calm=true)(h:tO X es t)
 (hn:(assignEach es X.env).length=n:=by rfl) (aD:(assignEach es X.env).findIdx? (·.1)=none:=by rfl):PG X (.Tuple es k pos) (pQ X.K n t):=by
 intro pins s σ H v u Q I r hw;obtain⟨a,xs,e1,hq,hl,hw⟩:=hw;subst e1;cases r;obtain⟨aa,rv,ht,hz⟩:=I.tuple hq;refine assign_Tuple_tuple (I.ok.hd hc) ht (by simp[hn,<-hl,rv.length]) aD λ h' hx=>?_;have I1:Inv X pins σ H {s with heap:=h' }:=I.kept (t':=s.toks) λ b o e=>hx b o (zar (zaf e)) e;exact h pins _ σ H xs _ Q I1 (by simpa using rv) hw
noncomputable def zI (to ti:TE)(t:pN):TG:=λ v σ H Q=>to σ H λ o H1=>ti σ H1 λ i H2=>t o i v H2 λ H3=>Q σ H3
theorem pR {o i:Expr}{to ti:TE}{t:pN}(ho:PE X o to)(hi:PE X i ti)(hs:uT X t)
 (ha:∀v,assign (.Subscript o i pos) X.env v=(do
  let ov <-holding [v] (eval o X.env);let iv <-holding [v,ov] (eval i X.env)
  standAt pos
  holding [v,ov,iv] (setItem ov iv v)
  release [v,ov,iv] []):=by intro _;rfl):PG X (.Subscript o i pos) (zI to ti t):=by
 intro pins s σ H v u Q I r h;rw[ha];refine wpAny_bind (wpAny_holding (Bh (ho pins s σ H _ I h) λ ov s1 zz=>?_));obtain⟨x,H1,I1,r1,q1⟩:=zz;refine wpAny_bind (wpAny_holding (Bh (hi pins s1 σ H1 _ I1 q1) λ iv s2 zz=>?_));obtain⟨y,H2,I2,r2,q2⟩:=zz;refine wpAny_bind (wpAny_standAt (wpAny_bind (wpAny_holding (Bh (hs pins s2 σ H2 x y v ov iv u _ I2 r1 r2 r q2) λ _ s3 zz=>?_))));obtain⟨H3,I3,q3⟩:=zz;exact wpAny_release ⟨σ,H3,I3,q3⟩
noncomputable def uU (te:TE)(g:TG):TS:=λ D σ H=>te σ H λ x H1=>g x σ H1 D.nx
theorem bJ {tg e:Expr}{te:TE}{g:TG}(he:PE X e te)(hg:PG X tg g)(hs:swapsWithSole [tg] e pos.line X.env=pure false:=by rfl)(hw:swappedStores [tg] e X.env=pure none:=by rfl)
 (h1:(assignEach [tg] X.env).map (·.2)=[assign tg X.env]:=by rfl):PS X (.Assign [tg] e pos) (uU te g):=by
 intro pins s σ H D I h;refine wpAny_Assign_stores (Bh (he pins s σ H _ I h) λ v s1 zz=>?_) hs hw;obtain⟨x,H1,I1,r1,q1⟩:=zz;rw[h1];exact Bh (hg pins s1 σ H1 x v _ I1 r1 q1) λ _ s2 q=>q
theorem Vq {i:Nat}{x:Str}{e:Expr}{te:TE}{pos':Pos}(hN:X.N.Nodup)(hi:X.N[i]?=some x)(hx:Loc X.env.scope x)(he:PE X e te)(hs:swapsWith e (some (.Name x pos')) pos.line X.env=pure false:=by rfl)(hf:X.fn x=true\/X.env.scope.names.lookup x=some .local:=by first | exact .inl rfl | exact .inr rfl | assumption):
 PS X (.Assign [.Name x pos'] e pos) (uU te (QL i)):=by
 intro pins s σ H D I h;refine wpAny_Assign_Name (Bh (he pins s σ H _ I h) λ v s1 zz=>?_) hs;obtain⟨y,H1,I1,r1,q1⟩:=zz;exact Tf I1 hN hi hx r1 (λ s2 I2=>⟨_,H1,I2,q1⟩) hf
end
section
variable {X:Cx}{pos:Pos}
noncomputable def pS (c:TT)(tb:TS):TS:=λ D σ H=>∃W:Nat->St->Hp->Prop,(∃m,W m σ H)/\∀m σ H,W m σ H->
 c σ H λ b H1=>if b=true then ∃N:St->Hp->Prop,(∀σ' H',N σ' H'->∃m',m'<m/\W m' σ' H')/\tb {D with nx:=N,ct:=N,bk:=D.nx} σ H1 else D.nx σ H1
theorem bK {c:Expr}{body:List Stmt}{tc:TT}{tb:TS}(hp:PassesOwn (model X.prog X.w) X.A X.env X.xe)(hc:PT X c tc)(hb:WV X body tb):PS X (.While c body [] pos) (pS tc tb):=by
 intro pins s σ H D I h;obtain⟨W,⟨m0,w0⟩,turn⟩:=h;refine wpAny_While (codeAny_whileLoop (λ n s'=>∃σ' H',Inv X pins σ' H' s'/\W n σ' H') ?_ m0 ⟨σ,H,I,w0⟩);rintro n s1 ⟨σ1,H1,I1,w1⟩;refine wpAny_passesOwn hp (Bh (hc pins s1 σ1 H1 _ I1 (turn n σ1 H1 w1)) λ b s2 zz=>?_);obtain⟨H2,I2,q2⟩:=zz;cases b with
 |true =>
  obtain⟨N,hN,q2⟩:=q2;rw[if_pos rfl];refine wpAny_passesOwn hp (Bh (hb pins s2 σ1 H2 _ I2 q2) λ f s3 q3=>?_);cases f with
  |next =>
   obtain⟨σ3,H3,I3,n3⟩:=q3;obtain⟨m',hm,w3⟩:=hN σ3 H3 n3;exact⟨m',hm,σ3,H3,I3,w3⟩
  |cont =>
   obtain⟨σ3,H3,I3,n3⟩:=q3;obtain⟨m',hm,w3⟩:=hN σ3 H3 n3;exact⟨m',hm,σ3,H3,I3,w3⟩
  |brk|ret v=>exact q3
 |false =>
  rw[if_neg zaw];exact wpAny_execs_nil ⟨σ1,H2,I2,q2⟩
end
structure It where
 go:Nat->Hp->Prop
 iQ:Nat->Hp->V->Hp->Prop
 stop:Nat->Hp->Prop
def LP (X:Cx)(pins:List (Addr×Obj))(H:Hp)(b:Addr):Prop:=
 H b=none/\b≠X.env.locals/\b∉X.fs/\(b∈X.ex\/X.s₀.heap.objs.size<=b)/\(∀x c,X.env.cells.lookup x=some c->c≠b)/\∀p∈X.pn++pins,p.1≠b
theorem Inv.Tn {X:Cx}{pins:List (Addr×Obj)}{σ:St}{H H':Hp}{s:Shared}{b:Addr}(I:Inv X pins σ H s)(hb:s.heap.objs.size<=b)(hn:H' b=none):LP X pins H' b:=by
 refine⟨hn,zcs (zal I.lt hb),I.yZ hb,.inr (zbq I.sz hb),λ x c e z=>?_,λ p hp z=>?_⟩
 ·obtain⟨v,q⟩:=I.cell x c e;exact absurd (zal q.lt (by rw[z];exact hb)) (Nat.lt_irrefl _)
 ·exact absurd (zal (zaf (I.pin p hp).1) (by rw[z];exact hb)) (Nat.lt_irrefl _)
structure Turn (P:Program)(w:World)(K:za0)(tg:Expr)(J:It)(fp:List Addr)(it:Addr)(tn:Nat->Heap->Prop):Prop where
 mem:it∈fp
 obj:∀i h,tn i h->∀b∈fp,∃o,h.get? b=some o/\∀v,o.data≠.cell v
 keep:∀i h h',tn i h->(∀b∈fp,∀o,h.get? b=some o->h'.get? b=some o)->tn i h'
 item:∀(X:Cx),X.prog=P->X.w=w->X.K=K->X.calm=true->∀(i:Nat) (pins:List (Addr×Obj)) (s:Shared) (σ:St) (H:Hp) (E:Value->Shared->Prop),Inv X pins σ H s->(∀b∈fp,LP X pins H b)->tn i s.heap->J.go i H->
  wpAny (model P w) X.A (pyNext (.ref it)) (λ r s1=>∃u,r=some u/\
   wpAny (model P w) X.A (letOwnedTupleGo tg (.ref it) u) (λ _ s2=>∃x H',Inv X pins σ H' s2/\RelV x u/\J.iQ i H x H'/\tn (i+1) s2.heap/\∀b∈fp,H' b=none) E s1) E s
 done:∀(X:Cx),X.prog=P->X.w=w->X.K=K->X.calm=true->∀(i:Nat) (pins:List (Addr×Obj)) (s:Shared) (σ:St) (H:Hp) (E:Value->Shared->Prop),Inv X pins σ H s->(∀b∈fp,LP X pins H b)->tn i s.heap->J.stop i H->
  wpAny (model P w) X.A (pyNext (.ref it)) (λ r s1=>r=none/\Inv X pins σ H s1) E s
 self:∀(A:Around) (i:Nat) (s:Shared) (Q:Value->Shared->Prop) (E:Value->Shared->Prop),tn i s.heap->Q (.ref it) s->wpAny (model P w) A (pyIter (.ref it)) Q E s
noncomputable abbrev TI:=St->Hp->(It->Hp->Prop)->Prop
def zJ (X:Cx)(pins:List (Addr×Obj))(σ:St)(tg:Expr)(R:It->Hp->Prop)(lu:Value)(s2:Shared):Prop:=
 ∃(it:Addr) (fp:List Addr) (tn:Nat->Heap->Prop) (J:It) (H':Hp),lu=.ref it/\Inv X pins σ H' s2/\Turn X.prog X.w X.K tg J fp it tn/\tn 0 s2.heap/\(∀b∈fp,LP X pins H' b)/\R J H'
def PI (X:Cx)(tg iter:Expr)(wi:TI):Prop:=
 ∀(pins:List (Addr×Obj)) (s:Shared) (σ:St) (H:Hp) (R:It->Hp->Prop),Inv X pins σ H s->wi σ H R->
  wpAny (model X.prog X.w) X.A (eval iter X.env) (λ v s1=>wpAny (model X.prog X.w) X.A (pyIter v) (zJ X pins σ tg R) X.xe s1) X.xe s
theorem To {M:Model}{A:Around}{E:Value->Shared->Prop}{s:Shared}{tg:Expr}{it:Addr}{u:Value}{o:Obj}{n:String}{vs:Array Value}{Q:Unit->Shared->Prop}(ho:s.heap.get? it=some o)(hc:o.cls=.type n)(hd:o.data=.fields vs)
 (hn:["enumerate","zip","dict_itemiterator","dict_reverseitemiterator","odict_iterator","itertools.zip_longest","itertools.pairwise"].contains n=false) (hQ:Q () s):wpAny M A (letOwnedTupleGo tg (.ref it) u) Q E s:=by
 unfold letOwnedTupleGo;cases tg<;>first
  |exact wpAny_pure hQ
  |(cases u<;>first
   |exact wpAny_pure hQ
   |(
    refine wpAny_bind (wpAny_load ho ?_);rw[hc,hd];show wpAny M A (if (["enumerate","zip","dict_itemiterator","dict_reverseitemiterator","odict_iterator","itertools.zip_longest","itertools.pairwise"].contains n&&vs[0]?== some (rawInt _))=true then _ else _) Q E s;rw[if_neg (by intro h;rw[hn,Bool.false_and] at h;cases h)];exact wpAny_pure hQ))
noncomputable def Itl (K:za0)(a:Addr):It:=
 ⟨λ i H=>∃xs x,CO K H a xs/\xs[i]?=some x,λ i H x H'=>H'=H/\∀xs,CO K H a xs->xs[i]?=some x,λ i H=>∃xs,CO K H a xs/\xs.length<=i⟩
noncomputable def Itt (K:za0)(a:Addr):It:=
 ⟨λ i H=>∃xs x,F9 K H a xs/\xs[i]?=some x,λ i H x H'=>H'=H/\∀xs,F9 K H a xs->xs[i]?=some x,λ i H=>∃xs,F9 K H a xs/\xs.length<=i⟩
noncomputable def yB (lo:Int)(n:Nat):It:=⟨λ i _=>i<n,λ i H x H'=>H'=H/\x=.int (lo+i),λ i _=>n<=i⟩
theorem Ym {P:Program}{w:World}{K:za0}{tg:Expr}(a it:Addr):Turn P w K tg (Itl K a) [it] it (λ i h=>h.IsListIter it a i) where
 mem:=by simp
 obj:=λ i h st b hb=>by
  have e:b=it:=by simpa using hb
  subst e;obtain⟨o,e,c,d⟩:=st;exact⟨o,e,λ v z=>by rw[d] at z;cases z⟩
 keep:=λ i h h' st k=>st.at λ o e=>k it (by simp) o e
 item:=by
  intro X hP hw hK hc i pins s σ H E I hf st hg;subst hP hw hK;obtain⟨xs,x,hq,hx⟩:=hg;obtain⟨aa,rv,p,hz⟩:=I.list hq;obtain⟨u,hu,ru⟩:=rv.get hx;obtain⟨f0,f1,f2,f3,f4,f5⟩:=hf it (by simp);refine wpAny_pyNext_list_item st p.isList (x:=u) (by simpa using hu) λ h' aW sb=>?_;have I1:Inv X pins σ H {s with heap:=h' }:=I.turned (t':=s.toks) (λ b o hb e=>(sb.2 b hb).trans e) f0 f1 f3 f4 f5;obtain⟨o,e,c,d⟩:=id aW;exact⟨u,rfl,To (s:={s with heap:=h' }) e c d (by decide) ⟨x,H,I1,ru,⟨rfl,λ ys hy=>by rw[I.EC hy hq];exact hx⟩,aW,λ b hb=>(hf b hb).1⟩⟩
 done:=by
  intro X hP hw hK hc i pins s σ H E I hf st hg;subst hP hw hK;obtain⟨xs,hq,hx⟩:=hg;obtain⟨aa,rv,p,hz⟩:=I.list hq;obtain⟨f0,f1,f2,f3,f4,f5⟩:=hf it (by simp);have hl:=rv.length;exact wpAny_pyNext_list_end (I.ok.hd hc) st p.isList (by simp;omega) λ h' eb=>⟨rfl,I.turned (t':=s.toks) (λ b o hb e=>eb b o hb e) f0 f1 f3 f4 f5⟩
 self:=λ _ _ _ _ _ st h=>wpAny_pyIter_listiter st h
theorem Vr {P:Program}{w:World}{K:za0}{tg:Expr}(a it:Addr):Turn P w K tg (Itt K a) [it] it (λ i h=>h.IsTupleIter it a i) where
 mem:=by simp
 obj:=λ i h st b hb=>by
  have e:b=it:=by simpa using hb
  subst e;obtain⟨o,e,c,d⟩:=st;exact⟨o,e,λ v z=>by rw[d] at z;cases z⟩
 keep:=λ i h h' st k=>st.at λ o e=>k it (by simp) o e
 item:=by
  intro X hP hw hK hc i pins s σ H E I hf st hg;subst hP hw hK;obtain⟨xs,x,hq,hx⟩:=hg;obtain⟨aa,rv,p,hz⟩:=I.tuple hq;obtain⟨u,hu,ru⟩:=rv.get hx;obtain⟨f0,f1,f2,f3,f4,f5⟩:=hf it (by simp);refine wpAny_pyNext_tuple_item st (show s.heap.IsTuple a aa.toArray from p) (x:=u) (by simpa using hu) λ h' aW sb=>?_;have I1:Inv X pins σ H {s with heap:=h' }:=I.turned (t':=s.toks) (λ b o hb e=>(sb.2 b hb).trans e) f0 f1 f3 f4 f5;obtain⟨o,e,c,d⟩:=id aW;exact⟨u,rfl,To (s:={s with heap:=h' }) e c d (by decide) ⟨x,H,I1,ru,⟨rfl,λ ys hy=>by rw[I.FC hy hq];exact hx⟩,aW,λ b hb=>(hf b hb).1⟩⟩
 done:=by
  intro X hP hw hK hc i pins s σ H E I hf st hg;subst hP hw hK;obtain⟨xs,hq,hx⟩:=hg;obtain⟨aa,rv,p,hz⟩:=I.tuple hq;obtain⟨f0,f1,f2,f3,f4,f5⟩:=hf it (by simp);have hl:=rv.length;exact wpAny_pyNext_tuple_end (I.ok.hd hc) st (show s.heap.IsTuple a aa.toArray from p) (by simp;omega) λ h' eb=>⟨rfl,I.turned (t':=s.toks) (λ b o hb e=>eb b o hb e) f0 f1 f3 f4 f5⟩
 self:=λ _ _ _ _ _ st h=>wpAny_pyIter_tupleiter st h
theorem Vs {P:Program}{w:World}{K:za0}{tg:Expr}(it:Addr)(lo:Int)(n:Nat):Turn P w K tg (yB lo n) [it] it (λ i h=>IsRangeIter h it (lo+(i:Nat)*1) ((n:Int)-(i:Nat)) 1) where
 mem:=by simp
 obj:=λ i h st b hb=>by
  have e:b=it:=by simpa using hb
  subst e;exact⟨_,st,λ v z=>by
   have z':Data.fields _=Data.cell v:=z;cases z'⟩
 keep:=λ i h h' st k=>k it (by simp) _ st
 item:=by
  intro X hP hw hK hc i pins s σ H E I hf st hg;subst hP hw hK;obtain⟨f0,f1,f2,f3,f4,f5⟩:=hf it (by simp);have W:=Walks.range (prog:=X.prog) (w:=X.w) (I.ok.hd hc) it lo 1 n;refine W.item i s _ _ hg st λ v h' tk hv aW kk=>?_;obtain⟨t,rfl⟩:=hv;have I1:Inv X pins σ H {s with heap:=h',toks:=tk}:=I.turned (λ b o hb e=>kk b o (by simpa using hb) e) f0 f1 f3 f4 f5;refine⟨_,rfl,To (s:={s with heap:=h',toks:=tk}) (n := "range_iterator") aW rfl rfl (by decide) ⟨.int (lo+i),H,I1,⟨t,?_⟩,⟨rfl,rfl⟩,aW,λ b hb=>(hf b hb).1⟩⟩;rw[Int.mul_one]
 done:=by
  intro X hP hw hK hc i pins s σ H E I hf st hg;subst hP hw hK;obtain⟨f0,f1,f2,f3,f4,f5⟩:=hf it (by simp);exact wpAny_pyNext_range_end (I.ok.hd hc) st (by have:n<=i:=hg;omega) λ h' eb=>⟨rfl,I.turned (t':=s.toks) (λ b o hb e=>eb b o hb e) f0 f1 f3 f4 f5⟩
 self:=λ _ _ _ _ _ st h=>wpAny_pyIter_rangeiter st h
section
variable {X:Cx}{tg:Expr}
noncomputable def uV (K:za0)(tl:TE):TI:=λ σ H R=>tl σ H λ x H1=>∃a,x=.ref a/\(∃xs,CO K H1 a xs)/\R (Itl K a) H1
noncomputable def zK (K:za0)(tl:TE):TI:=λ σ H R=>tl σ H λ x H1=>∃a,x=.ref a/\(∃xs,F9 K H1 a xs)/\R (Itt K a) H1
theorem iR {l:Expr}{tl:TE}(hl:PE X l tl):PI X tg l (uV X.K tl):=by
 intro pins s σ H R I h;refine Bh (hl pins s σ H _ I h) λ v s1 zz=>?_;obtain⟨x,H1,I1,r1,q1⟩:=zz;obtain⟨a,e,⟨xs,hq⟩,q⟩:=q1;subst e;cases r1;obtain⟨aa,rv,p,hz⟩:=I1.list hq;refine wpAny_pyIter_list p.isList ?_;refine⟨s1.heap.objs.size,[s1.heap.objs.size],_,_,H1,rfl,I1.kept (t':=s1.toks) λ b o e=>zab _ e,Ym a _,⟨_,zap _ rfl,rfl,rfl⟩,λ b hb=>?_,q⟩;have e:b=s1.heap.objs.size:=by simpa using hb
 subst e;exact I1.Tn (zag _) (I1.Aw.fresh (zag _))
theorem pT {l:Expr}{tl:TE}(hl:PE X l tl):PI X tg l (zK X.K tl):=by
 intro pins s σ H R I h;refine Bh (hl pins s σ H _ I h) λ v s1 zz=>?_;obtain⟨x,H1,I1,r1,q1⟩:=zz;obtain⟨a,e,⟨xs,hq⟩,q⟩:=q1;subst e;cases r1;obtain⟨aa,rv,p,hz⟩:=I1.tuple hq;refine wpAny_pyIter_tuple (show s1.heap.IsTuple a aa.toArray from p) ?_;refine⟨s1.heap.objs.size,[s1.heap.objs.size],_,_,H1,rfl,I1.kept (t':=s1.toks) λ b o e=>zab _ e,Vr a _,⟨_,zap _ rfl,rfl,rfl⟩,λ b hb=>?_,q⟩;have e:b=s1.heap.objs.size:=by simpa using hb
 subst e;exact I1.Tn (zag _) (I1.Aw.fresh (zag _))
theorem bL {pins:List (Addr×Obj)}{σ:St}{H:Hp}{s:Shared}{R:It->Hp->Prop}{E:Value->Shared->Prop}{lo hi:Int}{t u v:Tok}{tk:Nat}(I:Inv X pins σ H s)(h1 : -(2^62)<=lo)(h2:lo<2^62)(h3 : -(2^62)<=hi)(h4:hi<2^62)
 (q:R (yB lo (hi-lo).toNat) H):wpAny (model X.prog X.w) X.A (pyIter (.ref s.heap.objs.size)) (zJ X pins σ tg R) E {s with heap:=s.heap.push {cls:=.type "range",data:=.fields #[.int lo t,.int hi u,.int 1 v]},toks:=tk}:=by
 refine wpAny_pyIter_range (IsRange.new ..) (small_one h1 h2 h3 h4) ?_;have I1:Inv X pins σ H {s with heap:=s.heap.push {cls:=.type "range",data:=.fields #[.int lo t,.int hi u,.int 1 v]},toks:=tk}:=I.kept λ b o e=>zab _ e;refine⟨(s.heap.push {cls:=.type "range",data:=.fields #[.int lo t,.int hi u,.int 1 v]}).objs.size,[(s.heap.push {cls:=.type "range",data:=.fields #[.int lo t,.int hi u,.int 1 v]}).objs.size],_,_,H,rfl,
  I1.kept (t':=tk) λ b o e=>zab _ e,Vs _ lo (hi-lo).toNat,?_,λ b hb=>?_,q⟩
 ·have e1:lo+((0:Nat):Int)*1=lo:=by simp
  have e2:(((hi-lo).toNat:Nat):Int)-((0:Nat):Int)=Builtin.Range.rangeSize lo hi 1:=by rw[rangeSize_one];split<;>omega
  show IsRangeIter _ _ (lo+((0:Nat):Int)*1) ((((hi-lo).toNat:Nat):Int)-((0:Nat):Int)) 1;rw[e1,e2];exact zap _ rfl
 ·have e:b=(s.heap.push {cls:=.type "range",data:=.fields #[.int lo t,.int hi u,.int 1 v]}).objs.size:=by simpa using hb
  subst e;exact I1.Tn (zag _) (I1.Aw.fresh (zag _))
noncomputable def uW (ta:TA):TI:=λ σ H R=>ta σ H λ vs H1=>∃j:Int,vs=[.int j]/\-(2^62)<=j/\j<2^62/\R (yB 0 j.toNat) H1
theorem Yn {a:Expr}{ta:TA}{p pos:Pos}(hg:Gl X "range")(hm:X.mg "range" = none)(ha:PA X [a] ta)(hs:starEach [a] X.env=[(false,eval a X.env)]:=by rfl):PI X tg (.Call (.Name "range" p) [a] [] pos) (uW ta):=by
 intro pins s σ H R I h;refine Call_ (Dl I hg hm boot_range (zba (Bh (ha pos pins s σ H _ I h) λ us s1 zz=>?_) hs rfl));obtain⟨vs,H1,I1,r1,q1⟩:=zz;obtain⟨j,e,q1,q2,q⟩:=q1;subst e;cases r1 with
 |cons r rr =>
  cases rr;obtain⟨t,rfl⟩:=r;exact call_range_1 (bL I1 (by omega) (by omega) q1 q2 (by simpa using q))
noncomputable def zL (wi:TI)(g:TG)(tb:TS):TS:=λ D σ H=>wi σ H λ J H1=>∃W:Nat->Nat->St->Hp->Prop,(∃m,W 0 m σ H1)/\∀i m σ H,W i m σ H->
 (J.stop i H/\D.nx σ H)\/(J.go i H/\∃N:St->Hp->Prop,(∀σ' H',N σ' H'->∃m',m'<m/\W (i+1) m' σ' H')/\∀x H',J.iQ i H x H'->g x σ H' λ σ2 H2=>tb {D with nx:=N,ct:=N,bk:=D.nx} σ2 H2)
noncomputable def Jt (fp:List Addr)(h:Heap):List (Addr×Obj):=fp.filterMap λ b=>(h.get? b).map λ o=>(b,o)
theorem G6 {fp:List Addr}{h:Heap}{b:Addr}{o:Obj}(hb:b∈fp)(e:h.get? b=some o):(b,o)∈Jt fp h:=List.mem_filterMap.mpr ⟨b,hb,by rw[e];rfl⟩
theorem QM {fp:List Addr}{h:Heap}{p:Addr×Obj}(hp:p∈Jt fp h):p.1∈fp/\h.get? p.1=some p.2:=by
 obtain⟨b,hb,e⟩:=List.mem_filterMap.mp hp;cases q:h.get? b with
 |none=>rw[q] at e;cases e
 |some o =>
  rw[q] at e;have e':(b,o)=p:=zas e;subst e';exact⟨hb,q⟩
theorem Inv.pinned {pins:List (Addr×Obj)}{σ:St}{H:Hp}{s:Shared}{fp:List Addr}(I:Inv X pins σ H s)(hf:∀b∈fp,LP X pins H b)(ho:∀b∈fp,∃o,s.heap.get? b=some o/\∀v,o.data≠.cell v):Inv X (pins++Jt fp s.heap) σ H s:=
 I.JY λ p hp=>(zan.mp hp).elim (λ z=>I.pin p (zac _ z)) λ z=>by
  obtain⟨hb,e⟩:=QM z;obtain⟨f0,f1,f2,_⟩:=hf p.1 hb;obtain⟨o,e',d⟩:=ho p.1 hb;rw[e] at e';cases e';exact⟨e,f0,f1,f2,d⟩
theorem Inv.JZ {pins pl:List (Addr×Obj)}{σ:St}{H:Hp}{s:Shared}(I:Inv X (pins++pl) σ H s):Inv X pins σ H s:=I.JY λ p hp=>I.pin p (zac _ (zb3 _ hp))
theorem pU {iter:Expr}{body:List Stmt}{wi:TI}{g:TG}{tb:TS}{pos:Pos}(hp:PassesOwn (model X.prog X.w) X.A X.env X.xe)(hc:X.calm=true)(hi:PI X tg iter wi)(hg:PG X tg g)(hb:WV X body tb)
 (hs:∀x,foldedSetIterable iter X.env x=pure x:=by intro _;rfl):PS X (.For tg iter body [] pos) (zL wi g tb):=by
 intro pins s σ H D I h;refine wpAny_For (Bh (hi pins s σ H _ I h) λ v s1 h1=>Bh h1 λ lu s2 h2=>?_) hs;obtain⟨it,fp,tn,J,H2,e,I2,T,da,f2,W,⟨m0,w0⟩,turn⟩:=h2;subst e;have bh:∀ {H':Hp},(∀b∈fp,H' b=none)->∀b∈fp,LP X pins H' b:=λ hn b hb=>⟨hn b hb,(f2 b hb).2⟩;refine codeAny_forLoop_any (λ n s'=>∃i σ' H',Inv X pins σ' H' s'/\tn i s'.heap/\(∀b∈fp,H' b=none)/\W i n σ' H') ?_ m0 ⟨0,σ,H2,I2,da,λ b hb=>(f2 b hb).1,w0⟩;rintro n s3 ⟨i,σ3,H3,I3,ir,iu,w3⟩;rcases turn i n σ3 H3 w3 with ⟨stop,qn⟩|⟨go,N,hN,step⟩
 ·refine wpAny_passesOwn hp (Bh (T.done X rfl rfl rfl hc i pins s3 σ3 H3 X.xe I3 (bh iu) ir stop) λ r s4 zz=>?_);obtain⟨hr,I4⟩:=zz;subst hr;exact wpAny_execs_nil ⟨σ3,H3,I4,qn⟩
 ·refine wpAny_passesOwn hp (Bh (T.item X rfl rfl rfl hc i pins s3 σ3 H3 X.xe I3 (bh iu) ir go) λ r s4 zz=>?_);obtain⟨u,hr,h4⟩:=zz;subst hr;refine wpAny_passesOwn hp (Bh h4 λ _ s5 zz=>?_);obtain⟨x,H5,I5,r5,y5,f7,nk⟩:=zz;have nq:=I5.pinned (bh nk) (T.obj _ _ f7);refine wpAny_passesOwn hp (Bh (hg _ s5 σ3 H5 x u _ nq r5 (step x H5 y5)) λ _ s6 zz=>?_);obtain⟨σ6,H6,I6,q6⟩:=zz;refine wpAny_passesOwn hp (Bh (hb _ s6 σ6 H6 _ I6 q6) λ f s7 q7=>?_);have again:∀ {σ7:St} {H7:Hp},Inv X (pins++Jt fp s5.heap) σ7 H7 s7->N σ7 H7->∃m,m<n/\∃i σ' H',Inv X pins σ' H' s7/\tn i s7.heap/\(∀b∈fp,H' b=none)/\W i m σ' H':=fun {σ7 H7} I7 n7=>by
   obtain⟨m',hm,w7⟩:=hN σ7 H7 n7;refine⟨m',hm,i+1,σ7,H7,I7.JZ,T.keep _ _ _ f7 λ b hb o e=>(I7.pin (b,o) (zac _ (zac _ (G6 hb e)))).1,λ b hb=>?_,w7⟩;obtain⟨o,e,d⟩:=T.obj _ _ f7 b hb;exact (I7.pin (b,o) (zac _ (zac _ (G6 hb e)))).2.1
  cases f with
  |next|cont=>obtain⟨σ7,H7,I7,n7⟩:=q7;exact again I7 n7
  |brk=>obtain⟨σ7,H7,I7,q7⟩:=q7;exact⟨σ7,H7,I7.JZ,q7⟩
  |ret v=>obtain⟨x7,σ7,H7,I7,r7,q7⟩:=q7;exact⟨x7,σ7,H7,I7.JZ,r7,q7⟩
end
noncomputable abbrev R2:=V->V->Hp->VK->Prop
def G7 (X:Cx)(f:Value->Value->Sem Value)(r:R2):Prop:=
 ∀(pins:List (Addr×Obj)) (s:Shared) (σ:St) (H:Hp) (x y:V) (v u:Value) (Q:VK),Inv X pins σ H s->RelV x v->RelV y u->r x y H Q->
  wpAny (model X.prog X.w) X.A (f v u) (EP X pins σ Q) X.xe s
def zM (X:Cx)(f:Value->Sem Value)(r:V->Hp->VK->Prop):Prop:=
 ∀(pins:List (Addr×Obj)) (s:Shared) (σ:St) (H:Hp) (x:V) (v:Value) (Q:VK),Inv X pins σ H s->RelV x v->r x H Q->
  wpAny (model X.prog X.w) X.A (f v) (EP X pins σ Q) X.xe s
def GF (X:Cx)(f:Value)(r:List V->Hp->VK->Prop):Prop:=
 ∀(pins:List (Addr×Obj)) (s:Shared) (σ:St) (H:Hp) (xs:List V) (us:List Value) (Q:VK),Inv X pins σ H s->Vals xs us->r xs H Q->
  wpAny (model X.prog X.w) X.A (call f us) (EP X pins σ Q) X.xe s
def zN (X:Cx)(r:V->Hp->(Bool->Hp->Prop)->Prop):Prop:=
 ∀(pins:List (Addr×Obj)) (s:Shared) (σ:St) (H:Hp) (x:V) (v:Value) (Q:Bool->Hp->Prop),Inv X pins σ H s->RelV x v->r x H Q->
  wpAny (model X.prog X.w) X.A (truthy v) (TP X pins σ Q) X.xe s
noncomputable def tP (r:R2)(ta tb:TE):TE:=λ σ H Q=>ta σ H λ x H1=>tb σ H1 λ y H2=>r x y H2 Q
noncomputable def tUn (r:V->Hp->VK->Prop)(ta:TE):TE:=λ σ H Q=>ta σ H λ x H1=>r x H1 Q
noncomputable def rI (C:Int->Int->Prop)(g:Int->Int->V):R2:=λ x y H Q=>∃i j,x=.int i/\y=.int j/\C i j/\Q (g i j) H
noncomputable def ZN (g:Int->Int->V):R2:=λ x y H Q=>∃i j,x=.int i/\y=.int j/\Q (g i j) H
def rU (g:Int->V):V->Hp->VK->Prop:=λ x H Q=>∃i,x=.int i/\Q (g i) H
section
variable {X:Cx}{a b c:Expr}{ta tb tc:TE}{pos:Pos}
theorem pV (ha:PE X a ta)(hb:PE X b tb){pins:List (Addr×Obj)}{s:Shared}{σ:St}{H:Hp}{R:V->V->Hp->Prop}(I:Inv X pins σ H s)
 (h:ta σ H λ x H1=>tb σ H1 λ y H2=>R x y H2) {Q:Value->Shared->Prop} {f:Value->Value->Sem Value}
 (hf:∀v u s2 x y H2,Inv X pins σ H2 s2->RelV x v->RelV y u->R x y H2->wpAny (model X.prog X.w) X.A (f v u) Q X.xe s2):
 wpAny (model X.prog X.w) X.A (eval a X.env) (λ v s₁=>wpAny (model X.prog X.w) X.A (eval b X.env) (λ u s₂=>wpAny (model X.prog X.w) X.A (f v u) Q X.xe s₂) X.xe s₁) X.xe s:=by
 refine Bh (ha pins s σ H _ I h) λ v s1 zz=>?_;obtain⟨x,H1,I1,r1,q1⟩:=zz;refine Bh (hb pins s1 σ H1 _ I1 q1) λ u s2 zz=>?_;obtain⟨y,H2,I2,r2,q2⟩:=zz;exact hf v u s2 x y H2 I2 r1 r2 q2
theorem bM {op:Operator}{r:R2}(ho:G7 X (binaryOp op) r)(ha:PE X a ta)(hb:PE X b tb):PE X (.BinOp a op b pos) (tP r ta tb):=by
 intro pins s σ H Q I h;exact wpAny_BinOp (pV ha hb I h λ v u s2 x y H2 I2 rx ry q=>ho pins s2 σ H2 x y v u Q I2 rx ry q)
theorem uX {op:UnaryOp}{r:V->Hp->VK->Prop}(ho:zM X (unaryOp op) r)(ha:PE X a ta):PE X (.UnaryOp op a pos) (tUn r ta):=by
 intro pins s σ H Q I h;exact UnaryOp_ (Bh (ha pins s σ H _ I h) λ v s1 ⟨x,H1,I1,r1,q1⟩=>ho pins s1 σ H1 x v Q I1 r1 q1)
theorem yC {f:Value->Value->Sem Value}{C:Int->Int->Prop}{g:Int->Int->Int}
 (rule:∀(i j:Int) (t u:Tok) (s:Shared) (Q:Value->Shared->Prop) (E:Value->Shared->Prop),C i j->Q (.int (g i j) s.toks) {s with toks:=s.toks+1}->wpAny (model X.prog X.w) X.A (f (.int i t) (.int j u)) Q E s):
 G7 X f (rI C λ i j=>.int (g i j)):=by
 intro pins s σ H x y v u Q I rx ry h;obtain⟨i,j,rfl,rfl,hc,q⟩:=h;obtain⟨t,rfl⟩:=rx;obtain⟨t',rfl⟩:=ry;exact rule i j t t' s _ _ hc ⟨.int (g i j),H,I.tok _,⟨_,rfl⟩,q⟩
theorem uY {f:Value->Value->Sem Value}{g:Int->Int->Int}
 (rule:∀(i j:Int) (t u:Tok) (s:Shared) (Q:Value->Shared->Prop) (E:Value->Shared->Prop),Q (.int (g i j) s.toks) {s with toks:=s.toks+1}->wpAny (model X.prog X.w) X.A (f (.int i t) (.int j u)) Q E s):
 G7 X f (ZN λ i j=>.int (g i j)):=by
 intro pins s σ H x y v u Q I rx ry h;obtain⟨i,j,rfl,rfl,q⟩:=h;obtain⟨t,rfl⟩:=rx;obtain⟨t',rfl⟩:=ry;exact rule i j t t' s _ _ ⟨.int (g i j),H,I.tok _,⟨_,rfl⟩,q⟩
theorem pW {f:Value->Value->Sem Value}{g:Int->Int->Bool}
 (rule:∀(i j:Int) (t u:Tok) (s:Shared) (Q:Value->Shared->Prop) (E:Value->Shared->Prop),Q (.bool (g i j)) s->wpAny (model X.prog X.w) X.A (f (.int i t) (.int j u)) Q E s):
 G7 X f (ZN λ i j=>.bl (g i j)):=by
 intro pins s σ H x y v u Q I rx ry h;obtain⟨i,j,rfl,rfl,q⟩:=h;obtain⟨t,rfl⟩:=rx;obtain⟨t',rfl⟩:=ry;exact rule i j t t' s _ _ ⟨.bl (g i j),H,I,rfl,q⟩
def bN (i j:Int):Prop:=0<j/\j<1073741824
def iS (i j:Int):Prop:=0<=j/\j<=1000000/\i.natAbs<2^64
def bO (i j:Int):Prop:=(-(2^64)<i/\i<2^64)\/(-(2^64)<j/\j<2^64)
theorem bO.ok {i j:Int}(h:bO i j):IntMulOk i j:=by
 rcases h with ⟨h1,h2⟩|⟨h1,h2⟩
 ·exact .of_left (intBits_le_64 h1 h2)
 ·exact .of_right (intBits_le_64 h1 h2)
theorem pX:G7 X (binaryOp .Add) (ZN λ i j=>.int (i+j)):=uY λ _ _ _ _ _ _ _ q=>add_int q
theorem pY:G7 X (binaryOp .Sub) (ZN λ i j=>.int (i-j)):=uY λ _ _ _ _ _ _ _ q=>sub_int q
theorem iT:G7 X (binaryOp .FloorDiv) (rI bN λ i j=>.int (i / j)):=yC λ i j _ _ _ _ _ hc q=>by
 have h1:(0:Int)<j:=hc.1;have h2:j<1073741824:=hc.2;exact floordiv_int (by omega) (by rw[Int.fdiv_eq_ediv_of_nonneg i (by omega)];exact q) (.inl (PyProof.noPylong_small (by omega)))
theorem pZ:G7 X (binaryOp .Mod) (rI (λ _ j=>0<j) λ i j=>.int (i%j)):=yC λ i j _ _ _ _ _ hc q=>by
 have h1:(0:Int)<j:=hc;exact mod_int' (by omega) (by rw[Int.fmod_eq_emod_of_nonneg i (by omega)];exact q)
theorem qA:G7 X (binaryOp .Pow) (rI iS λ i j=>.int (i^j.toNat)):=yC λ _ _ _ _ _ _ _ hc q=>pow_int_small hc.1 hc.2.1 hc.2.2 q
theorem unI {f:Value->Sem Value}{g:Int->Int}
 (rule:∀(i:Int) (t:Tok) (s:Shared) (Q:Value->Shared->Prop) (E:Value->Shared->Prop),Q (.int (g i) s.toks) {s with toks:=s.toks+1}->wpAny (model X.prog X.w) X.A (f (.int i t)) Q E s):
 zM X f (rU λ i=>.int (g i)):=by
 intro pins s σ H x v Q I rx h;obtain⟨i,rfl,q⟩:=h;obtain⟨t,rfl⟩:=rx;exact rule i t s _ _ ⟨.int (g i),H,I.tok _,⟨_,rfl⟩,q⟩
theorem qB:zM X (unaryOp .USub) (rU λ i=>.int (-i)):=unI λ _ _ _ _ _ q=>neg_int q
end
section
variable {X:Cx}{a b c:Expr}{ta tb tc:TE}{pos:Pos}
theorem bP:G7 X (compareOp .Lt) (ZN λ i j=>.bl (decide (i<j))):=pW λ _ _ _ _ _ _ _ q=>lt_int q
theorem nK:G7 X (compareOp .LtE) (ZN λ i j=>.bl (decide (i<=j))):=pW λ _ _ _ _ _ _ _ q=>le_int q
theorem uZ:G7 X (compareOp .Gt) (ZN λ i j=>.bl (decide (j<i))):=pW λ _ _ _ _ _ _ _ q=>gt_int q
theorem G7.or {f:Value->Value->Sem Value}{r r':R2}(h:G7 X f r)(h':G7 X f r'):G7 X f (λ x y H Q=>r x y H Q\/r' x y H Q):=by
 intro pins s σ H x y v u Q I rx ry q;rcases q with q|q
 ·exact h pins s σ H x y v u Q I rx ry q
 ·exact h' pins s σ H x y v u Q I rx ry q
theorem Ju (b:Expr){op:CmpOp}(h:op≠.In:=by decide)(h2:op≠.NotIn:=by decide):behindInMarks op b=false:=by
 have e1:(op==CmpOp.In)=false:=by cases op<;>first|rfl|exact absurd rfl h
 have e2:(op==CmpOp.NotIn)=false:=by cases op<;>first|rfl|exact absurd rfl h2
 cases b<;>simp[behindInMarks,e1,e2]
theorem iU {op:CmpOp}{r:R2}(ho:G7 X (compareOp op) r)(ha:PE X a ta)(hb:PE X b tb)(hm:behindInMarks op b=false):PE X (.Compare a [op] [b] pos) (tP r ta tb):=by
 intro pins s σ H Q I h;exact wpAny_Compare1 (pV ha hb I h λ v u s2 x y H2 I2 rx ry q=>ho pins s2 σ H2 x y v u Q I2 rx ry q) hm
noncomputable def bQ (t:TE):TT:=λ σ H Q=>t σ H λ x H'=>∃k,x=.bl k/\Q k H'
theorem iV {op:CmpOp}{r:R2}(ho:G7 X (compareOp op) r)(ha:PE X a ta)(hb:PE X b tb)(hm:behindInMarks op b=false):PT X (.Compare a [op] [b] pos) (bQ (tP r ta tb)):=by
 intro pins s σ H Q I h;refine wpAny_isTrue_Compare1 (Bh (ha pins s σ H _ I h) λ v s1 ⟨x,H1,I1,r1,q1⟩=>Bh (hb pins s1 σ H1 _ I1 q1) λ u s2 ⟨y,H2,I2,r2,q2⟩ =>
  Bh (ho pins s2 σ H2 x y v u _ I2 r1 r2 q2) λ c s3 ⟨z,H3,I3,r3,k,e,q3⟩=>?_) hm
 subst e;cases r3;exact wpAny_truthy_bool ⟨H3,I3,q3⟩
noncomputable def bR (r r':R2)(ta tb tc:TE):TE:=λ σ H Q=>ta σ H λ x H1=>tb σ H1 λ y H2=>r x y H2 λ z H3=>∃k,z=.bl k/\
 (if k=true then tc σ H3 λ w' H4=>r' y w' H4 Q else Q (.bl false) H3)
theorem bS {op bi:CmpOp}{r r':R2}(ho:G7 X (compareOp op) r)(aH:G7 X (compareOp bi) r')(ha:PE X a ta)(hb:PE X b tb)(hc:PE X c tc)
 (hm:lastMarks [op,bi] [b,c]=false:=by with_unfolding_all rfl):PE X (.Compare a [op,bi] [b,c] pos) (bR r r' ta tb tc):=by
 intro pins s σ H Q I h;refine Compare_chain (Bh (ha pins s σ H _ I h) λ v s1 ⟨x,H1,I1,r1,q1⟩=>chain_link (Bh (hb pins s1 σ H1 _ I1 q1) λ u s2 ⟨y,H2,I2,r2,q2⟩ =>
  Bh (ho pins s2 σ H2 x y v u _ I2 r1 r2 q2) λ d s3 ⟨z,H3,I3,r3,k,e,q3⟩=>?_)) hm
 subst e;cases r3;refine wpAny_truthy_bool ?_;cases k with
 |false=>exact ite_ff ⟨.bl false,H3,I3,rfl,q3⟩
 |true=>exact ite_tt (chain_last (Bh (hc pins s3 σ H3 _ I3 q3) λ w' s4 ⟨z',H4,I4,r4,q4⟩=>aH pins s4 σ H4 y z' u w' Q I4 r2 r4 q4))
theorem bT {op bi:CmpOp}{r r':R2}(ho:G7 X (compareOp op) r)(aH:G7 X (compareOp bi) r')(ha:PE X a ta)(hb:PE X b tb)(hc:PE X c tc)
 (hm:lastMarks [op,bi] [b,c]=false:=by with_unfolding_all rfl):PT X (.Compare a [op,bi] [b,c] pos) (bQ (bR r r' ta tb tc)):=by
 intro pins s σ H Q I h;refine isTrue_chain (Bh (ha pins s σ H _ I h) λ v s1 ⟨x,H1,I1,r1,q1⟩=>test_link (Bh (hb pins s1 σ H1 _ I1 q1) λ u s2 ⟨y,H2,I2,r2,q2⟩ =>
  Bh (ho pins s2 σ H2 x y v u _ I2 r1 r2 q2) λ d s3 ⟨z,H3,I3,r3,k,e,q3⟩=>?_)) hm
 subst e;cases r3;refine wpAny_truthy_bool ?_;cases k with
 |false =>
  obtain⟨k',e',q'⟩:=q3;cases e';exact ite_ff ⟨H3,I3,q'⟩
 |true =>
  refine ite_tt (test_last (Bh (hc pins s3 σ H3 _ I3 q3) λ w' s4 ⟨z',H4,I4,r4,q4⟩=>Bh (aH pins s4 σ H4 y z' u w' _ I4 r2 r4 q4) λ d' s5 zz=>?_));obtain⟨z2,H5,I5,r5,k2,e2,q5⟩:=zz;subst e2;cases r5;exact wpAny_truthy_bool ⟨H5,I5,q5⟩
def vA (K:za0)(x:V)(H:Hp)(k:Bool):Prop:=
 match x with
 | .AJ=>k=false
 | .bl b=>k=b
 | .int i=>k=(i != 0)
 | .str y=>y.length<=sizeLine/\k=((y.length:Int) != 0)
 | .oZ y=>y.size<=sizeLine/\k=((y.size:Int) != 0)
 | .ref p=>(∃xs,CO K H p xs/\k = !xs.isEmpty)\/(∃xs,F9 K H p xs/\k = !xs.isEmpty)\/∃kvs,H p=some (.dK kvs)/\k = !kvs.isEmpty
 |_=>False
theorem Vt {κ:Type}{kvs:List (κ×V)}{vs:List (κ×Value)}(r:KV kvs vs):(!vs.isEmpty) = !kvs.isEmpty:=by
 cases r<;>rfl
theorem NZ {xs:List V}{aa:List Value}(r:Vals xs aa):(!aa.toArray.isEmpty) = !xs.isEmpty:=by
 cases r<;>simp
theorem LR:(sizeLine:Nat)<2^63:=by rw[sizeLine_eq];decide
theorem qC:zN X (λ x H Q=>∃k,vA X.K x H k/\Q k H):=by
 intro pins s σ H x v Q I rx h;obtain⟨k,e,q⟩:=h;have hl:=LR;have hs:sizeLine=16777216:=sizeLine_eq;cases x with
 |AJ =>
  cases rx;have e':k=false:=e;subst e';exact truthy_none ⟨H,I,q⟩
 |bl b =>
  cases rx;have e':k=b:=e;subst e';exact wpAny_truthy_bool ⟨H,I,q⟩
 |int i =>
  obtain⟨t,rfl⟩:=rx;have e':k=(i != 0):=e;subst e';exact PySem.P.truthy_int ⟨H,I,q⟩
 |str y =>
  obtain⟨t,rfl⟩:=rx;obtain⟨hy,e'⟩:y.length<=sizeLine/\k=((y.length:Int) != 0):=e;subst e';exact PySem.P.truthy_str (by omega) ⟨H,I.tok _,q⟩
 |oZ y =>
  obtain⟨t,rfl⟩:=rx;obtain⟨hy,e'⟩:y.size<=sizeLine/\k=((y.size:Int) != 0):=e;subst e';exact PySem.W.truthy_bytes (by omega) ⟨H,I.tok _,q⟩
 |ref p =>
  cases rx;have e':(∃xs,CO X.K H p xs/\k = !xs.isEmpty)\/(∃xs,F9 X.K H p xs/\k = !xs.isEmpty)\/∃kvs,H p=some (.dK kvs)/\k = !kvs.isEmpty:=e;rcases e' with ⟨xs,hx,e'⟩|⟨xs,hx,e'⟩|⟨kvs,hx,e'⟩
  ·subst e';obtain⟨aa,r,pl,hz⟩:=I.list hx;have hlen:=r.length;exact wpAny_truthy_list pl.isList (by simp only[zad];omega) ⟨H,I.tok _,by rw[NZ r];exact q⟩
  ·subst e';obtain⟨aa,r,pl,hz⟩:=I.tuple hx;have hlen:=r.length;exact truthy_tuple pl (by simp only[zad];omega) ⟨H,I.tok _,by rw[NZ r];exact q⟩
  ·subst e';obtain⟨hz,hS,vs,r,m⟩:kvs.length<=sizeLine/\(p==sysModules)=false/\∃vs,KV kvs vs/\s.heap.DictOf (AR X.prog X.w) p vs:=I.Aw p _ hx;have hlen:kvs.length=vs.length:=zcx r;exact wpAny_truthy_dict hS m (by omega) ⟨H,I.tok _,by rw[Vt r];exact q⟩
 |_=>exact (show False from e).elim
theorem bU (ha:PE X a ta)(he:∀whole,isTrue a X.env whole=(do let v <-whole;standAt a.pos;holding [v] (truthy v))):
 PT X a (λ σ H Q=>ta σ H λ x H'=>∃k,vA X.K x H' k/\Q k H'):=by
 intro pins s σ H Q I h;exact isTrue_plain (Bh (ha pins s σ H _ I h) λ v s1 ⟨x,H1,I1,r1,q1⟩=>qC pins s1 σ H1 x v Q I1 r1 q1) (he _)
theorem vals1 {x:V}{us:List Value}(r:Vals [x] us):∃u,us=[u]/\RelV x u:=by
 cases r with
 |cons r1 r2=>cases r2;exact⟨_,rfl,r1⟩
theorem vals2 {x y:V}{us:List Value}(r:Vals [x,y] us):∃u w',us=[u,w']/\RelV x u/\RelV y w':=by
 cases r with
 |cons r1 r2 =>
  cases r2 with
  |cons r3 r4=>cases r4;exact⟨_,_,rfl,r1,r3⟩
theorem Yo (hc:X.calm=true):GF X (.builtin "min") (λ xs H Q=>∃i j,xs=[.int i,.int j]/\Q (.int (if j<i then j else i)) H):=by
 intro pins s σ H xs us Q I r h;obtain⟨i,j,rfl,q⟩:=h;obtain⟨u,w',rfl,⟨t,rfl⟩,⟨t',rfl⟩⟩:=vals2 r;refine min_two_ints (I.ok.hd hc) λ h' tk k=>⟨_,H,I.kept k,?_,q⟩;by_cases hj:j<i
 ·rw[if_pos hj,if_pos hj];exact⟨_,rfl⟩
 ·rw[if_neg hj,if_neg hj];exact⟨_,rfl⟩
end
structure Vu (h:Heap)(x dx C:Addr)(mA:Str->Option Value):Prop where
 obj:h.get? x=some (zcn C dx)
 ns:h.Ns1 dx mA
 ne:dx≠x
theorem Yp {h:Heap}{dx:Addr}{mA:Str->Option Value}(n:h.Ns1 dx mA):∃od,h.get? dx=some od/\∀name,PySem.W.lookIn name od=some (mA name):=by
 obtain⟨o,es,ep,ho,hd,hk,_,hm⟩:=n;refine⟨o,ho,λ name=>?_⟩;have e:=hm name;unfold nsFind findBy at e;rw[<-Array.find?_toList] at e;unfold PySem.W.lookIn;rw[hd];dsimp only;split
 ·rename_i y q;rw[q] at e;exact congrArg some e
 ·rename_i q;rw[q] at e;have a:es.toList.any (·.refKey)=false:=by
   rw[List.any_eq_false];intro y hy;obtain⟨z,t,nr⟩:=hk y (Array.mem_toList_iff.mp hy);simp[DictEntry.refKey,nr]
  have a':¬ es.toList.any (·.refKey)=true:=by rw[a];exact zaw
  rw[if_neg a'];exact congrArg some e
theorem Vu.look {h:Heap}{x dx C:Addr}{mA:Str->Option Value}(I:Vu h x dx C mA):∃od,PySem.W.InstAt h x (zcn C dx) C (some od)/\∀name,PySem.W.lookIn name od=some (mA name):=
 let ⟨od,ho,hl⟩:=Yp I.ns
 ⟨od,⟨I.obj,rfl,rfl,ho⟩,hl⟩
section
variable {prog:Program}{w:World}{A:Around}{E:Value->Shared->Prop}{s:Shared}{K:za0}{x dx C f:Addr}{mA:Str->Option Value}{name:Str}{v:Value}
theorem get_map {expr:Bool}{Q:Value->Shared->Prop}(X:K.In s.heap)(I:Vu s.heap x dx C mA)(hg:PySem.W.plainGet K C name=true)(hh:PySem.W.hasDictIn K C=true)
 (ha:zb9 K (.ref C) name=some none) (hv:mA name=some v) (iw:PySem.W.handedIn v=true) (h:Q v {s with toks:=s.toks+1}):
 wpAny (model prog w) A (getAttr (.ref x) name expr) Q E s:=by
 obtain⟨od,J,hl⟩:=I.look;exact PySem.W.get_value X J (PySem.W.plainGet_of hg).1 (PySem.W.findObj_own hh ha rfl (by rw[hl,hv])) iw h
theorem bV {pl:Sem Bool}{Q:Value×List Value->Shared->Prop}(X:K.In s.heap)(I:Vu s.heap x dx C mA)(hg:PySem.W.plainGet K C name=true)
 (hf:zb9 K (.ref C) name=some (some (.ref f))) (ht:PySem.W.isFn K (.ref f)=true) (hv:mA name=none) (h:Q (.ref f,[.ref x]) s):
 wpAny (model prog w) A (getMethod (.ref x) name pl) Q E s:=by
 obtain⟨od,J,hl⟩:=I.look;exact PySem.W.method_fn X J (PySem.W.plainGet_of hg).1 (PySem.W.plainGet_of hg).2 hf (beq_iff_eq.mp ht) (by show (PySem.W.lookIn name od).map (·.isSome)=some false;rw[hl,hv];rfl) h
theorem iW {ns:List Str}{Q:Unit->Shared->Prop}(X:K.In s.heap)(I:Vu s.heap x dx C mA)
 (hs:zb9 K (.ref C) "__setattr__" = some (some (.builtin "object.__setattr__"))) (hp:PySem.W.plainOver K C=true) (ht:PySem.W.takerIn K C name=some none) (hh:PySem.W.hasDictIn K C=true)
 (hw:PySem.Within mA ns) (hsz:ns.length<=sizeLine)
 (h:∀h',Vu h' x dx C (λ y=>if y=name then some v else mA y)->zd1 dx s.heap h'->Q () {s with heap:=h',toks:=s.toks+2}):
 wpAny (model prog w) A (setAttr (.ref x) name v) Q E s:=by
 obtain⟨od,J,hl⟩:=I.look;refine PySem.W.set_plain X J hs (PySem.W.osa_open (s:={s with toks:=s.toks+1}) (r:=none) X J hp ht λ b=>?_);obtain⟨cd,hc,aS⟩:=PySem.W.any_some hh;have hx:s.heap.get? x=some ⟨.ref C,some dx,.plain,#[]⟩:=I.obj;refine wpAny_bind (wpAny_pure (wpAny_bind (wpAny_bind (wpAny_loadPart hx (wpAny_bind (PySem.W.Looks.here (s:={s with toks:=s.toks+1}) (PySem.W.looks_clsIn X hc) ?_))))));rw[aS];refine wpAny_pure (a:=some dx) (wpAny_bind (wpAny_pure (wpAny_bind ?_)));refine wpAny_nsSet1 (s:={s with toks:=s.toks+1}) I.ns λ h' aw a4=>?_;obtain⟨oD,esD,epD,vz,v3,v4⟩:=aw.count (PySem.Within.cons name v hw);refine wpAny_bind (wpAny_lookBehind vz (by rw[v3];exact pastItsLine_dict (zbq v4 (by rw[za9];omega))) ?_);exact wpAny_pure (h _ ⟨(a4.2 _ (zbi I.ne)).trans I.obj,aw,I.ne⟩ a4)
theorem bW {R:Result->Shared->Prop}{vs:List Value}{kw:List (Str×Value)}(X:K.In s.heap)(hm:PySem.W.makesIn K C=true)
 (hi:zb9 K (.ref C) "__init__" = some (some (.ref f))) (hf:PySem.W.typeIn K (.ref f)=some (.type "function"))
 (h:codeAny (model prog w) (A.under (.builtin "type.__call__" ⟨.ref C::vs,kw⟩)) (.call (.ref f) ⟨.ref (s.heap.objs.size+1)::vs,kw⟩) (PySem.W.InitBack (s.heap.objs.size+1) R)
  {s with heap:=(s.heap.push zc2).push (zcn C s.heap.objs.size)}):
 codeAny (model prog w) A (.call (.ref C) ⟨vs,kw⟩) R s:=by
 obtain⟨hh,g,d,t,os⟩:=s;exact PySem.W.make_core (PySem.W.makes_of X hm) (PySem.W.looks_findIn X hi) (λ self=>PySem.W.bind_fn X self hf) (.inl rfl) h
end
noncomputable def ED (f:Str)(v:V):List (Str×V)->List (Str×V)
 |[]=>[(f,v)]
 |(g,x)::r=>if g=f then (g,v)::r else (g,x)::ED f v r
theorem MA (f g:Str)(v:V):∀fs:List (Str×V),(ED f v fs).lookup g=if g=f then some v else fs.lookup g
 |[]=>by
  show List.lookup g [(f,v)]=_;by_cases h:g=f
  ·have hb:(g==f)=true:=beq_iff_eq.mpr h;simp only[List.lookup,hb,if_pos h]
  ·have hb:(g==f)=false:=beq_eq_false_iff_ne.mpr h;simp only[List.lookup,hb,if_neg h]
 |(k,x)::r=>by
  have ih:=MA f g v r;rw[show ED f v ((k,x)::r)=(if k=f then (k,v)::r else (k,x)::ED f v r) from rfl];by_cases hk:k=f
  ·rw[if_pos hk];by_cases h:g=k
   ·have hb:(g==k)=true:=beq_iff_eq.mpr h;simp only[List.lookup,hb,if_pos (h.trans hk)]
   ·have hb:(g==k)=false:=beq_eq_false_iff_ne.mpr h;simp only[List.lookup,hb,if_neg (λ e:g=f=>h (e.trans hk.symm))]
  ·rw[if_neg hk];by_cases h:g=k
   ·have hb:(g==k)=true:=beq_iff_eq.mpr h;simp only[List.lookup,hb,if_neg (λ e:g=f=>hk (h.symm.trans e))]
   ·have hb:(g==k)=false:=beq_eq_false_iff_ne.mpr h;simp only[List.lookup,hb];exact ih
theorem LS (f:Str)(v:V):∀fs:List (Str×V),f∈(ED f v fs).map (·.1)/\∀g,g∈fs.map (·.1)->g∈(ED f v fs).map (·.1)
 |[]=>⟨by simp[ED],λ g h=>by simp at h⟩
 |(k,x)::r=>by
  obtain⟨i1,i2⟩:=LS f v r;rw[show ED f v ((k,x)::r)=(if k=f then (k,v)::r else (k,x)::ED f v r) from rfl];by_cases hk:k=f
  ·rw[if_pos hk];subst hk;exact⟨by simp,λ g h=>by simpa using h⟩
  ·rw[if_neg hk];refine⟨?_,λ g h=>?_⟩
   ·rw[za5];exact za4 _ i1
   ·rw[za5] at h ⊢;rcases zaa.mp h with e|e
    ·exact zaa.mpr (.inl e)
    ·exact za4 _ (i2 g e)
theorem MB (f:Str)(v:V):∀fs:List (Str×V),(ED f v fs).length<=fs.length+1
 |[]=>by simp[ED]
 |(k,x)::r=>by
  have ih:=MB f v r;rw[show ED f v ((k,x)::r)=(if k=f then (k,v)::r else (k,x)::ED f v r) from rfl];by_cases hk:k=f
  ·rw[if_pos hk,za9,za9];omega
  ·rw[if_neg hk,za9,za9];omega
theorem GY.some_of {v:V}{o:Option Value}(r:GY (some v) o):∃u,o=some u/\RelV v u:=by
 cases o with
 |none=>exact (show False from r).elim
 |some u=>exact⟨u,rfl,r⟩
theorem GY.none_of {o:Option Value}(r:GY none o):o=none:=by
 cases o with
 |none=>rfl
 |some u=>exact (show False from r).elim
theorem Yq {v:V}{u:Value}(r:RelV v u):PySem.W.handedIn u=true:=by
 cases v with
 |AJ=>cases (show u=Value.none from r);rfl
 |bl b=>cases (show u=Value.bool b from r);rfl
 |int i=>obtain⟨t,e⟩:=(show ∃t,u=Value.int i t from r);cases e;rfl
 |str x=>obtain⟨t,e⟩:=(show ∃t,u=Value.str x t from r);cases e;rfl
 |oZ b=>obtain⟨t,e⟩:=(show ∃t,u=Value.bytes b t from r);cases e;rfl
 |uF b=>obtain⟨t,e⟩:=(show ∃t,u=Value.float b t from r);cases e;rfl
 |ref a=>cases (show u=zbm a from r);rfl
 |ty n=>cases (show u=Value.type n from r);rfl
section
variable {P:Program}{w:World}{H H':Hp}{h h':Heap}{a C dx:Addr}{fs bI:List (Str×V)}
theorem RW (Aw:G4 P w H h)(e:H a=some (.ins C dx fs)):∃mA,Vu h a dx C mA/\(∀f,GY (fs.lookup f) (mA f))/\PySem.Within mA (fs.map (·.1))/\fs.length<=1000/\H dx=some (.own a):=by
 obtain⟨d,z,ne,ob,mA,n,r,q⟩:=(show Bl P w H h a (.ins C dx fs) from Aw a _ e);exact⟨mA,⟨ob,n,ne⟩,r,q,z,d⟩
end
structure Yr (K:za0)(C:Addr):Prop where
 pg:PySem.W.plainGet K C Str.empty=true
 hd:PySem.W.hasDictIn K C=true
 po:PySem.W.plainOver K C=true
 sa:zb9 K (.ref C) "__setattr__" = some (some (.builtin "object.__setattr__"))
theorem Yr.get {K:za0}{C:Addr}(c:Yr K C)(f:Str):PySem.W.plainGet K C f=true:=c.pg
def Jv (K:za0)(C:Addr)(f:Str):Prop:=zb9 K (.ref C) f=some none
theorem Jv.vB {K:za0}{C:Addr}{f:Str}(n:Jv K C f):PySem.W.takerIn K C f=some none:=by
 unfold PySem.W.takerIn;rw[show zb9 K (.ref C) f=some none from n];rfl
structure Meth (K:za0)(C:Addr)(m:Str)(f:Addr):Prop where
 at_:zb9 K (.ref C) m=some (some (.ref f))
 fn:PySem.W.isFn K (.ref f)=true
 kp:zbj K (.ref f)=true
section
variable {X:Cx}{pins:List (Addr×Obj)}{σ:St}{H:Hp}{s:Shared}{a C dx:Addr}{fs:List (Str×V)}{f:Str}{v:V}{A:Around}{E:Value->Shared->Prop}
theorem Vv {b:Bool}{Q:Value->Shared->Prop}(I:Inv X pins σ H s)(e:H a=some (.ins C dx fs))(c:Yr X.K C)(n:Jv X.K C f)(l:fs.lookup f=some v)
 (h:∀u s',Inv X pins σ H s'->RelV v u->Q u s'):wpAny (model X.prog X.w) A (getAttr (.ref a) f b) Q E s:=by
 obtain⟨mA,O,r,_,_,_⟩:=RW I.Aw e;obtain⟨u,hu,ru⟩:=GY.some_of (v:=v) (o:=mA f) (by rw[<-l];exact r f);exact get_map I.Q9 O (c.get f) c.hd n hu (Yq ru) (h u _ (I.tok _) ru)
theorem O0 {m:Str}{g:Addr}{pl:Sem Bool}{Q:Value×List Value->Shared->Prop}(I:Inv X pins σ H s)(e:H a=some (.ins C dx fs))(c:Yr X.K C)(k:Meth X.K C m g)(l:fs.lookup m=none)
 (h:Q (.ref g,[.ref a]) s):wpAny (model X.prog X.w) A (getMethod (.ref a) m pl) Q E s:=by
 obtain⟨mA,O,r,_,_,_⟩:=RW I.Aw e;have hn:mA m=none:=GY.none_of (by rw[<-l];exact r m);exact bV I.Q9 O (c.get m) k.at_ k.fn hn h
theorem Vw {y:V}{u:Value}{Q:Unit->Shared->Prop}(I:Inv X pins σ H s)(e:H a=some (.ins C dx fs))(c:Yr X.K C)(n:Jv X.K C f)(hl:fs.length<1000)(ry:RelV y u)
 (h:∀s',Inv X pins σ (upd H a (.ins C dx (ED f y fs))) s'->Q () s'):wpAny (model X.prog X.w) A (setAttr (.ref a) f u) Q E s:=by
 obtain⟨mA,O,r,wi,_,ho⟩:=RW I.Aw e;have hz:(fs.map (·.1)).length<=sizeLine:=by rw[za2,sizeLine_eq];omega
 refine iW I.Q9 O c.sa c.po n.vB c.hd wi hz λ h' O' sb=>h _ ?_;have hd:∃o,h'.get? dx=some o:=let ⟨o,_,_,e',_⟩:=O'.ns;⟨o,e'⟩;refine I.write (x:=a) (e:=dx) (by rw[e];exact zcu) (.inr ho) (λ b q hb z=>(sb.2 b hb).trans z) hd ?_;refine⟨by rw[Ah O.ne];exact ho,?_,O.ne,O'.obj,_,O'.ns,λ g=>?_,λ g hg=>?_⟩
 ·have:=MB f y fs;omega
 ·show GY ((ED f y fs).lookup g) (if g=f then some u else mA g);rw[MA];by_cases q:g=f
  ·rw[if_pos q,if_pos q];exact ry
  ·rw[if_neg q,if_neg q];exact r g
 ·by_cases q:g=f
  ·rw[q];exact (LS f y fs).1
  ·refine (LS f y fs).2 g (wi g λ z=>hg ?_);show (if g=f then some u else mA g)=none;rw[if_neg q];exact z
theorem Inv.made (I:Inv X pins σ H s):Inv X pins σ (upd (upd H s.heap.objs.size (.own (s.heap.objs.size+1))) (s.heap.objs.size+1) (.ins C s.heap.objs.size []))
 {s with heap:=(s.heap.push zc2).push (zcn C s.heap.objs.size)}:=by
 have e1:(s.heap.push zc2).get? s.heap.objs.size=some zc2:=zap s.heap rfl;have e2:((s.heap.push zc2).push (zcn C s.heap.objs.size)).get? (s.heap.objs.size+1)=some (zcn C s.heap.objs.size):=by
  have:=zap (s.heap.push zc2) (o:=zcn C s.heap.objs.size) rfl;rwa[Heap.size_push] at this
 have e3:(s.heap.push zc2).Ns s.heap.objs.size (λ _=>none):=⟨zc2,#[],_,e1,rfl,(λ e he=>absurd he (by simp)),λ _=>rfl⟩;have I1:=I.laid (a:=s.heap.objs.size) (o:=.own (s.heap.objs.size+1)) (h':=s.heap.push zc2) (t':=s.toks) (λ b u q=>zab _ q) (zag _) ⟨_,e1⟩;refine I1.laid (a:=s.heap.objs.size+1) (o:=.ins C s.heap.objs.size []) (t':=s.toks) (λ b u q=>zab _ q) (Nat.le_of_eq (Heap.size_push _ _)) ?_;have ne:s.heap.objs.size≠s.heap.objs.size+1:=zar (Nat.lt_succ_self _);refine⟨by rw[Ah ne,Ap],zbc _,ne,e2,λ _=>none,(Heap.Ns1.of_empty e3).at λ o q=>zab _ q,λ _=>zcu,λ y hy=>absurd rfl hy⟩
theorem iX {prog:Program}{w:World}{env:Env}{e:Expr}{f:Str}{pos:Pos}{s:Shared}{Q:Value->Shared->Prop}(hb:attributeBase e f env (eval e env)=eval e env)
 (h:wpAny (model prog w) A (eval e env) (λ o s₁=>wpAny (model prog w) A (getAttr o f true) Q E s₁) E s):wpAny (model prog w) A (eval (.Attribute e f pos) env) Q E s:=
 Attribute_any_ h (by rw[arm_eval_Attribute,hb])
end
noncomputable def zO (K:za0)(ta:TE)(f:Str):TE:=λ σ H Q=>ta σ H λ x H1=>∃a C dx fs v,x=.ref a/\H1 a=some (.ins C dx fs)/\Yr K C/\Jv K C f/\fs.lookup f=some v/\Q v H1
noncomputable def zP (K:za0)(ta tv:TE)(f:Str):TS:=λ D σ H=>tv σ H λ y H1=>ta σ H1 λ x H2=>∃a C dx fs,x=.ref a/\H2 a=some (.ins C dx fs)/\Yr K C/\Jv K C f/\fs.length<1000/\
 D.nx σ (upd H2 a (.ins C dx (ED f y fs)))
section
variable {X:Cx}{o e value:Expr}{f:Str}{pos pos' a9:Pos}{ta tv:TE}
theorem qD (he:PE X e ta)(hb:attributeBase e f X.env (eval e X.env)=eval e X.env):PE X (.Attribute e f pos) (zO X.K ta f):=by
 intro pins s σ H Q I h;refine iX hb (Bh (he pins s σ H _ I h) λ u s1 zz=>?_);obtain⟨x,H1,I1,rx,a,C,dx,fs,v,ex,ea,c,n,l,q⟩:=zz;subst ex;obtain rfl:u=zbm a:=rx;exact Vv I1 ea c n l λ u' s2 I2 ru=>⟨v,H1,I2,ru,q⟩
theorem qE (ha:PE X o ta)(hv:PE X value tv)(hs:swapsWith value (some (.Attribute o f pos')) pos.line X.env=pure false):PS X (.Assign [.Attribute o f pos'] value pos) (zP X.K ta tv f):=by
 intro pins s σ H D I h;refine plainObj_wpAny_Assign_Attribute (Bh (hv pins s σ H _ I h) λ u s1 ⟨y,H1,I1,ry,q⟩=>Bh (ha pins s1 σ H1 _ I1 q) λ ov s2 zz=>?_) hs;obtain⟨x,H2,I2,rx,a,C,dx,fs,ex,ea,c,n,l,q2⟩:=zz;subst ex;obtain rfl:ov=zbm a:=rx;exact Vw I2 ea c n l ry λ s3 I3=>⟨σ,_,I3,q2⟩
end
structure BU (k:Nat)(A:Around):Prop where
 hd:A.handled=none
 dp:A.depth+3*k+5<recursionLimit
 un:A.units+16*k+200<cLine
theorem BU.mono {j k:Nat}{A:Around}(r:BU k A)(h:j<=k):BU j A:=⟨r.hd,by have:=r.dp;omega,by have:=r.un;omega⟩
theorem BU.deeper {k:Nat}{A:Around}(r:BU (k+1) A)(env:Env):BU k (A.deeper env):=
 ⟨r.hd,by have:=r.dp;show A.depth+1+3*k+5<_;omega,by have:=r.un;show A.units+3+16*k+200<_;omega⟩
theorem Vx {A:Around}{C:Addr}{us:List Value}{kw:List (Str×Value)}:(A.under (.builtin "type.__call__" ⟨.ref C::us,kw⟩)).depth=A.depth+1:=by
 first|rfl|simp[Around.under,Code.weight,Code.isCreation,Code.isGuard,Code.isCaller,Code.frames,Code.isFrame,guardIds]
theorem Vy {A:Around}{C:Addr}{us:List Value}{kw:List (Str×Value)}:(A.under (.builtin "type.__call__" ⟨.ref C::us,kw⟩)).units=A.units+1:=by
 first|rfl|simp[Around.under,Code.cUnits,Code.frames,Code.isFrame]
theorem BU.make {k:Nat}{A:Around}(r:BU (k+1) A)(C:Addr)(us:List Value)(kw:List (Str×Value)):BU k (A.under (.builtin "type.__call__" ⟨.ref C::us,kw⟩)):=
 ⟨r.hd,by have:=r.dp;rw[Vx];omega,by have:=r.un;rw[Vy];omega⟩
theorem BU.depth {k:Nat}{A:Around}(r:BU k A):A.depth<recursionLimit:=by have:=r.dp;omega
theorem BU.units {k:Nat}{A:Around}(r:BU k A):A.units+64<cLine:=by have:=r.un;omega
noncomputable def qG:TA:=λ _ H Q=>Q [] H
noncomputable def nL (ta:TE)(tr:TA):TA:=λ σ H Q=>ta σ H λ x H1=>tr σ H1 λ xs H2=>Q (x::xs) H2
section
variable {X:Cx}{e:Expr}{es:List Expr}{te:TE}{t:TA}{pos:Pos}
theorem Cs:PA X [] qG:=λ _ _ _ _ H Q I h=>zcq ⟨[],H,I,.nil,h⟩
theorem Bi (ha:PE X e te)(hr:PA X es t)(hs:starEach (e::es) X.env=(false,eval e X.env)::starEach es X.env:=by rfl):PA X (e::es) (nL te t):=by
 intro pos pins s σ H Q I h;rw[hs];show wpAny _ _ (spliced ((false,eval e X.env)::backTo pos (starEach es X.env))) _ _ s;refine zcj (Bh (ha pins s σ H _ I h) λ u s1 zz=>?_);obtain⟨x,H1,I1,r1,q1⟩:=zz;exact Bh (hr pos pins s1 σ H1 _ I1 q1) λ us s2 ⟨xs,H2,I2,r2,q2⟩=>⟨x::xs,H2,I2,.cons r1 r2,q2⟩
noncomputable def zQ (t:TA):TE:=λ σ H Q=>t σ H λ xs H1=>xs.length<=sizeLine/\∀p,H1 p=none->Q (.ref p) (upd H1 p (.tup xs))
noncomputable def zR (t:TA):TE:=λ σ H Q=>t σ H λ xs H1=>xs.length<=sizeLine/\∀p,H1 p=none->Q (.ref p) (upd H1 p (.lst xs))
theorem bX {x1}(h:PA X es t):PE X (.Tuple es x1 pos) (zQ t):=by
 intro pins s σ H Q I hq;refine wpAny_Tuple_spliced (Bh (h pos pins s σ H _ I hq) λ us s1 ⟨xs,H1,I1,r,z,q⟩=>⟨by rw[<-r.length];exact z,?_⟩);have hf:H1 s1.heap.objs.size=none:=I1.Aw.fresh (zag _);refine⟨.ref s1.heap.objs.size,upd H1 s1.heap.objs.size (.tup xs),I1.laid (t':=s1.toks) (λ b u e=>zab _ e) (zag _) ?_,rfl,q _ hf⟩;exact⟨z,us,r,⟨_,zap _ rfl,rfl,_,rfl⟩⟩
theorem Vz (h:PA X es t):PE X (.List es pos) (zR t):=by
 intro pins s σ H Q I hq;refine wpAny_List_spliced (Bh (h pos pins s σ H _ I hq) λ us s1 ⟨xs,H1,I1,r,z,q⟩=>⟨by rw[<-r.length];exact z,?_⟩);have hf:H1 s1.heap.objs.size=none:=I1.Aw.fresh (zag _);refine⟨.ref s1.heap.objs.size,upd H1 s1.heap.objs.size (.lst xs),I1.laid (t':=s1.toks) (λ b u e=>zab _ e) (zag _) ?_,rfl,q _ hf⟩;exact⟨z,us,0,r,zap _ rfl⟩
end
noncomputable abbrev Sp:=List V->Hp->VK->XK->Prop
noncomputable abbrev WZ:=List Env->Hp->Shared->XK->Value->Shared->Prop
structure VA (P:Program)(w:World)(K:za0)(mg:Str->Option Value)(base:Heap)(A:Around)(outer:List Env)(s:Shared)(H:Hp):Prop where
 frames:A.frames=some outer
 mod:Mod K mg base
 bs:∀b o,base.get? b=some o->s.heap.get? b=some o/\H b=none
 iL:base.objs.size<=s.heap.objs.size
 LO:s.heap.FunFrames base outer
 pC:∀b∈ZL outer,H b=none
 Aw:G4 P w H s.heap
 bare:AllBare s.gens
def CE (outer:List Env)(P:Program)(w:World)(H:Hp)(s:Shared)(Q:VK)(u:Value)(s':Shared):Prop:=
 ∃v H',s'.os=s.os/\AllBare s'.gens/\Un (ZL outer) [] H H' s.heap s'.heap/\G4 P w H' s'.heap/\RelV v u/\Q v H'
def CR (CX:WZ)(outer:List Env)(P:Program)(w:World)(H:Hp)(s:Shared)(Q:VK)(E:XK)(r:Result)(s':Shared):Prop:=
 match r with
 | .ok (.ret u)=>CE outer P w H s Q u s'
 | .ok _=>False
 | .error e=>CX outer H s E e s'
structure E7 (P:Program)(w:World)(K:za0)(mg:Str->Option Value)(base:Heap)(CX:WZ)(k:Nat)(f:Addr)(fd:FuncData)(ps:List Str)(sp:Sp):Prop where
 len:∀vs H Q E,sp vs H Q E->vs.length=ps.length
 run:∀(A:Around) (outer:List Env) (s:Shared) (H:Hp) (args:Args) (us:List Value) (vs:List V) (Q:VK) (E:XK),BU k A->VA P w K mg base A outer s H->BindsTo s fd args (ps.zip us)->Vals vs us->sp vs H Q E->
  codeAny (model P w) A (.call (.ref f) args) (CR CX outer P w H s Q E) s
theorem VA.make {P:Program}{w:World}{K:za0}{mg:Str->Option Value}{base:Heap}{A:Around}{outer:List Env}{s:Shared}{H:Hp}(e:VA P w K mg base A outer s H)(C:Addr)(us:List Value)(kw:List (Str×Value)):
 VA P w K mg base (A.under (.builtin "type.__call__" ⟨.ref C::us,kw⟩)) outer s H:=⟨by first|exact e.frames|(simpa [Around.under,Code.envs,Code.isFrame,pushEnvs] using e.frames),e.mod,e.bs,e.iL,e.LO,e.pC,e.Aw,e.bare⟩
section
variable {X:Cx}{pins:List (Addr×Obj)}{σ:St}{H:Hp}{s s':Shared}
theorem Inv.vC (I:Inv X pins σ H s):VA X.prog X.w X.K X.mg X.base X.A X.stack s H:=
 ⟨I.ok.frames,I.ok.mod,I.bs,zbq I.ok.iL I.sz,I.stack,I.WU,I.Aw,I.bare⟩
theorem Inv.after {Q:VK}{u:Value}(I:Inv X pins σ H s)(h:CE X.stack X.prog X.w H s Q u s'):EP X pins σ Q u s':=by
 obtain⟨v,H',os,bare,un,Aw,r,q⟩:=h;obtain⟨hh,g,d,t,v5⟩:=s';obtain rfl:v5=s.os:=os;exact⟨v,H',I.call (h':=hh) (g':=g) (d':=d) (t':=t) (ch:=[]) un Aw bare (λ b z=>absurd z (by simp)),r,q⟩
end
noncomputable def vD (sp:Sp)(bj:List V)(E:XK)(t:TA):TE:=λ σ H Q=>t σ H λ vs H1=>sp (vs++bj) H1 Q E
noncomputable def vE (C:Addr)(sp:Sp)(bj:List V)(E:XK)(t:TA):TE:=λ σ H Q=>t σ H λ vs H1=>∀x dx,H1 x=none->H1 dx=none->dx≠x->
 sp (.ref x::(vs++bj)) (upd (upd H1 dx (.own x)) x (.ins C dx [])) (λ v H2=>v=.AJ/\Q (.ref x) H2) E
def Binds (K:za0)(fd:FuncData)(ps:List Str)(ds:List Value):Prop:=
 ∀(s:Shared) (us:List Value),K.In s.heap->(us++ds).length=ps.length->BindsTo s fd ⟨us,[]⟩ (ps.zip (us++ds))
theorem Binds.all {K:za0}{fd:FuncData}{ps:List Str}(h:∀us:List Value,us.length=ps.length->bindArgs fd ⟨us,[]⟩=pure (ps.zip us)):Binds K fd ps []:=λ s us _ hl=>by
 rw[zb8] at hl ⊢;exact .of_eq (h us hl)
def Jw (CX:WZ)(X:Cx)(E:XK):Prop:=∀(pins:List (Addr×Obj)) (σ:St) (H:Hp) (s:Shared) (e:Value) (s':Shared),Inv X pins σ H s->CX X.stack H s E e s'->X.xe e s'
section
variable {X:Cx}{CX:WZ}{k:Nat}{f C:Addr}{fd:FuncData}{ps:List Str}{sp:Sp}{bj:List V}{ds:List Value}{E:XK}{x m:Str}{p pos apos:Pos}{e o:Expr}{es:List Expr}{ta:TE}{t:TA}
theorem VB {pins:List (Addr×Obj)}{σ:St}{H:Hp}{s:Shared}{Q:VK}{us:List Value}{vs:List V}(F:E7 X.prog X.w X.K X.mg X.base CX k f fd ps sp)(hr:BU k X.A)(hb:Binds X.K fd ps ds)(hd:Vals bj ds)(hx:Jw CX X E)
 (I:Inv X pins σ H s) (r:Vals vs us) (h:sp (vs++bj) H Q E):wpAny (model X.prog X.w) X.A (call (.ref f) us) (EP X pins σ Q) X.xe s:=by
 have r2:Vals (vs++bj) (us++ds):=r.append hd;have hl:(us++ds).length=ps.length:=by rw[<-r2.length];exact F.len _ _ _ _ h
 refine wpAny_call (codeAny_mono (F.run X.A X.stack s H ⟨us,[]⟩ (us++ds) (vs++bj) Q E hr I.vC (hb s us I.Q9 hl) r2 h) λ r s' hq=>?_);cases r with
 |error e=>exact hx pins σ H s e s' I hq
 |ok fl =>
  cases fl with
  |ret u=>exact I.after hq
  |next|brk|cont=>exact zcp hq
theorem X0 (F:E7 X.prog X.w X.K X.mg X.base CX k f fd ps sp)(hr:BU k X.A)(hg:Gl X x)(hm:X.mg x=some (.ref f))(hk:zbj X.K (.ref f)=true)(hb:Binds X.K fd ps ds)(hd:Vals bj ds)(hx:Jw CX X E)
 (ha:PA X (e::es) t) (aN:(x==("__debug__" : Str))=false:=by decide) (he:starEach (e::es) X.env=(false,eval e X.env)::starEach es X.env:=by rfl) (hpl:(backTo pos (starEach es X.env)).any (·.1)=false:=by rfl):
 PE X (.Call (.Name x p) (e::es) [] pos) (vD sp bj E t):=by
 intro pins s σ H Q I h;refine wpAny_Call_Name_kw (WW I hg hm ?_ aN);refine PySem.W.callWith_K (h₀:=X.base) I.ok.mod.Yl hk (Bh (ha pos pins s σ H _ I h) λ us s1 ⟨vs,H1,I1,r,q⟩=>⟨I1.Q9,?_⟩) he hpl;exact VB F hr hb hd hx I1 r q
structure Mk (K:za0)(C f:Addr):Prop where
 makes:PySem.W.makesIn K C=true
 init:zb9 K (.ref C) "__init__" = some (some (.ref f))
 fn:PySem.W.isFn K (.ref f)=true
 kp:zbj K (.ref C)=true
theorem bY {pins:List (Addr×Obj)}{σ:St}{H:Hp}{s:Shared}{Q:VK}{us:List Value}{vs:List V}(M:Mk X.K C f)(F:E7 X.prog X.w X.K X.mg X.base CX k f fd ps sp)(hr:BU (k+1) X.A)(hb:Binds X.K fd ps ds)(hd:Vals bj ds)
 (hx:Jw CX X E) (I:Inv X pins σ H s) (r:Vals vs us)
 (h:∀x dx,H x=none->H dx=none->dx≠x->sp (.ref x::(vs++bj)) (upd (upd H dx (.own x)) x (.ins C dx [])) (λ v H2=>v=.AJ/\Q (.ref x) H2) E):
 wpAny (model X.prog X.w) X.A (call (.ref C) us) (EP X pins σ Q) X.xe s:=by
 have hq:=h (s.heap.objs.size+1) s.heap.objs.size (I.Aw.fresh (Nat.le_succ _)) (I.Aw.fresh (zag _)) (zar (Nat.lt_succ_self _));have I2:=Inv.made (C:=C) I;have r2:Vals (V.ref (s.heap.objs.size+1)::(vs++bj)) (zbm (s.heap.objs.size+1)::(us++ds)):=.cons rfl (r.append hd);have hl:(zbm (s.heap.objs.size+1)::us++ds).length=ps.length:=by
  have e:=r2.length;rw[F.len _ _ _ _ hq] at e;exact e.symm
 refine wpAny_call (bW (f:=f) I.Q9 M.makes M.init (beq_iff_eq.mp M.fn) (codeAny_mono (F.run _ X.stack _ _ ⟨zbm (s.heap.objs.size+1)::us,[]⟩ (zbm (s.heap.objs.size+1)::(us++ds)) _ _ E (hr.make C us [])
  (I2.vC.make C us []) (hb _ (zbm (s.heap.objs.size+1)::us) I2.Q9 hl) r2 hq) λ r s' bu=>?_))
 cases r with
 |error e=>exact hx pins σ _ _ e s' I2 bu
 |ok fl =>
  cases fl with
  |ret u =>
   obtain⟨v,H',I3,rv,ev,q3⟩:=I2.after bu;subst ev;exact⟨rv,⟨V.ref (s.heap.objs.size+1),H',I3,rfl,q3⟩⟩
  |next|brk|cont=>exact zcp bu
theorem X1 (M:Mk X.K C f)(F:E7 X.prog X.w X.K X.mg X.base CX k f fd ps sp)(hr:BU (k+1) X.A)(hg:Gl X x)(hm:X.mg x=some (.ref C))(hb:Binds X.K fd ps ds)(hd:Vals bj ds)(hx:Jw CX X E)
 (ha:PA X (e::es) t) (aN:(x==("__debug__" : Str))=false:=by decide) (he:starEach (e::es) X.env=(false,eval e X.env)::starEach es X.env:=by rfl) (hpl:(backTo pos (starEach es X.env)).any (·.1)=false:=by rfl):
 PE X (.Call (.Name x p) (e::es) [] pos) (vE C sp bj E t):=by
 intro pins s σ H Q I h;refine wpAny_Call_Name_kw (WW I hg hm ?_ aN);refine PySem.W.callWith_K (h₀:=X.base) I.ok.mod.Yl M.kp (Bh (ha pos pins s σ H _ I h) λ us s1 ⟨vs,H1,I1,r,q⟩=>⟨I1.Q9,?_⟩) he hpl;exact bY M F hr hb hd hx I1 r q
end
def PK (X:Cx)(ix:List Keyword)(t:TA):Prop:=
 ∀(pos:Pos) (pins:List (Addr×Obj)) (s:Shared) (σ:St) (H:Hp) (Q:List V->Hp->Prop),Inv X pins σ H s->t σ H Q->wpAny (model X.prog X.w) X.A (evalAll ((backToKw pos (keywordEach ix X.env)).map (·.2))) (AP X pins σ Q) X.xe s
section
variable {X:Cx}{CX:WZ}{k:Nat}{f C:Addr}{fd:FuncData}{ps ks:List Str}{sp:Sp}{E:XK}{x m:Str}{p pos apos nu:Pos}{e o:Expr}{es:List Expr}{ix:List Keyword}{te ta:TE}{t tk:TA}{nm:Option Str}
theorem qH:PK X [] qG:=λ _ _ _ _ H Q I h=>wpAny_evalAll_nil ⟨[],H,I,.nil,h⟩
theorem iY (ha:PE X e te)(hr:PK X ix t):PK X (⟨nm,e,nu⟩::ix) (nL te t):=by
 intro pos pins s σ H Q I h;show wpAny _ _ (evalAll ((do let v <-eval e X.env;standAt pos;pure v)::(backToKw pos (keywordEach ix X.env)).map (·.2))) _ _ s;refine wpAny_evalAll_cons (wpAny_bind (Bh (ha pins s σ H _ I h) λ u s1 ⟨x,H1,I1,r1,q1⟩=>wpAny_bind (wpAny_standAt (wpAny_pure ?_))));exact Bh (hr pos pins s1 σ H1 _ I1 q1) λ us s2 ⟨xs,H2,I2,r2,q2⟩=>⟨x::xs,H2,I2,.cons r1 r2,q2⟩
variable {g:List Value->List Value->List Value}{gV:List V->List V->List V}
end
structure Ai (N P:List Str)(sc:Scope):Prop where
 kind:sc.kind=.function
 co:sc.isCoroutine=false
 gen:sc.isGenerator=false
 nd:N.Nodup
 pre:N.take P.length=P
 par:∀x∈P,sc.names.lookup x=some .local\/sc.names.lookup x=some .cell
 qI:∀y∈sc.names,y.2≠.free
theorem QN {kindOf:Str->Option NameKind}{x:Str}:∀ {binds:List (Str×Value)}{m:Str->Option Value},(∀v,(x,v)∉binds)->bindL kindOf binds m x=m x
 |[],_,_=>rfl
 |(n,v)::r,m,h=>by
  unfold bindL;rw[QN λ w hw=>h w (za4 _ hw)];split
  ·have:x≠n:=by rintro rfl;exact h v za3
   simp[this]
  ·rfl
theorem QO {kindOf:Str->Option NameKind}{x:Str}:∀ {binds:List (Str×Value)}{m:Str->Option Value},(∀v,(x,v)∉binds)->bindC kindOf binds m x=m x
 |[],_,_=>rfl
 |(n,v)::r,m,h=>by
  unfold bindC;rw[QO λ w hw=>h w (za4 _ hw)];split
  ·rfl
  ·have:x≠n:=by rintro rfl;exact h v za3
   simp[this]
theorem QP {kindOf:Str->Option NameKind}{x:Str}{v:Value}:∀ {P:List Str}{vs:List Value}{i:Nat}{m:Str->Option Value},P.Nodup->P[i]?=some x->vs[i]?=some v->kindOf x=some .local->
 bindL kindOf (P.zip vs) m x=some v
 |[],_,_,_,_,h,_,_|_::_,[],_,_,_,_,h,_=>by simp at h
 |p::P,w::vs,0,m,nd,h1,h2,hk=>by
  simp at h1 h2;subst h1;subst h2;show bindL kindOf ((p,w)::P.zip vs) m p=_;unfold bindL;rw[QN λ v hv=>(zbe.mp nd).1 (List.of_mem_zip hv).1,if_pos hk];simp
 |p::P,w::vs,i+1,m,nd,h1,h2,hk=>by
  show bindL kindOf ((p,w)::P.zip vs) m x=_;unfold bindL;exact QP (i:=i) (zbe.mp nd).2 (by simpa using h1) (by simpa using h2) hk
theorem QQ {kindOf:Str->Option NameKind}{x:Str}{v:Value}:∀ {P:List Str}{vs:List Value}{i:Nat}{m:Str->Option Value},P.Nodup->P[i]?=some x->vs[i]?=some v->kindOf x≠some .local->
 bindC kindOf (P.zip vs) m x=some v
 |[],_,_,_,_,h,_,_|_::_,[],_,_,_,_,h,_=>by simp at h
 |p::P,w::vs,0,m,nd,h1,h2,hk=>by
  simp at h1 h2;subst h1;subst h2;show bindC kindOf ((p,w)::P.zip vs) m p=_;unfold bindC;rw[QO λ v hv=>(zbe.mp nd).1 (List.of_mem_zip hv).1,if_neg hk];simp
 |p::P,w::vs,i+1,m,nd,h1,h2,hk=>by
  show bindC kindOf ((p,w)::P.zip vs) m x=_;unfold bindC;exact QQ (i:=i) (zbe.mp nd).2 (by simpa using h1) (by simpa using h2) hk
noncomputable def start (N:List Str)(vs:List V):St:=vs.map some++zak (N.length-vs.length) none
noncomputable def Tp (CX:WZ)(P:Program)(w:World)(K:za0)(mg:Str->Option Value)(base:Heap)(N:List Str)(qual:Str)(scope:Scope)(f:Addr)(cd:Value)(A:Around)(outer:List Env)(s:Shared)(H:Hp)(E:XK):Cx where
 prog:=P
 w:=w
 K:=K
 mg:=mg
 base:=base
 A:=A.deeper (envOfC qual scope s.heap.objs.size f cd)
 N:=N
 s₀:=s
 H₀:=H
 env:=envOfC qual scope s.heap.objs.size f cd
 outer:=outer
 stack:=envOfC qual scope s.heap.objs.size f cd::outer
 ex:=[]
 calm:=true
 fn:=λ _=>true
 pn:=[]
 xe:=λ e s'=>wpAny (model P w) (A.deeper (envOfC qual scope s.heap.objs.size f cd)) (leaving (envOfC qual scope s.heap.objs.size f cd) e) (λ _ iy=>CX outer H s E e iy) (λ e' iy=>CX outer H s E e' iy) s'
theorem Tq {sc:Scope}{n:Nat}{x:Str}(h:sc.names.lookup x=some .cell):∃c,(cellsFrom n sc.names []).lookup x=some c:=by
 have q:=PySem.W.cellsFrom_some sc.names n [] (.inl h);exact zbu.mp q
theorem Ys {CX:WZ}{P:Program}{w:World}{K:za0}{mg:Str->Option Value}{base:Heap}{N ps:List Str}{qual:Str}{scope:Scope}{f:Addr}{cd:Value}{A:Around}{outer:List Env}{s s1:Shared}{H:Hp}{E:XK}{us:List Value}{vs:List V}
 (S:Ai N ps scope) (hd:A.handled=none) (e0:VA P w K mg base A outer s H) (hl:vs.length=ps.length) (r:Vals vs us)
 (x:InCallC s s.heap.objs.size (bindL (envOfC qual scope s.heap.objs.size f cd).kindOf (ps.zip us) λ _=>none) (cellsFrom (s.heap.objs.size+1) scope.names []) (bindC (envOfC qual scope s.heap.objs.size f cd).kindOf (ps.zip us) λ _=>none) s1):
 Inv (Tp CX P w K mg base N qual scope f cd A outer s H E) [] (start N vs) H s1:=by
 have hpl:ps.length<=N.length:=by have:=congrArg List.length S.pre;rw[zby] at this;omega
 obtain⟨h1,tk,rfl,hk⟩:=x.done;have iz:∀b:Addr,b∉(Tp CX P w K mg base N qual scope f cd A outer s H E).ex:=λ b z=>absurd (show b∈([]:List Addr) from z) (by simp);refine⟨⟨e0.mod,S.kind,rfl,rfl,zag _,λ y z c h1 h2=>?_,λ y hy=>?_,λ y c _ h=>?_,λ _=>hd,Around.frames_deeper e0.frames,.inr ⟨rfl,rfl⟩,λ b z=>absurd z (iz b),e0.bs,e0.iL,λ b _ _=>iz b,λ b z=>absurd z (iz b),e0.LO,e0.pC⟩,
  rfl,e0.bare,Un.kept hk,⟨_,x.toInCall.ns,λ i y v h1 h2 h3=>?_⟩,λ y c h=>⟨_,x.cell y c h⟩,e0.Aw.fresh (zag _),λ y c h=>?_,λ p hp=>absurd (show p∈([]:List (Addr×Obj)) from hp) (by simp),e0.Aw.kept hk,?_⟩
 ·exact name_of_addr x.apart (zd8 h1) (zd8 h2)
 ·have hy:scope.names.lookup y=some .cell\/scope.names.lookup y=some .free:=hy;rcases hy with hy|hy
  ·exact Tq hy
  ·exact absurd rfl (S.qI _ (zd8 hy))
 ·exact zbr (x.above y c (zd8 h))
 ·have hi:i<vs.length:=by
   unfold start at h2;by_cases hi:i<vs.length
   ·exact hi
   ·rw[zd6 (by simpa using hi)] at h2;rw[zcg] at h2;split at h2<;>cases h2
  have ha:vs[i]?=some v:=by
   unfold start at h2;rw[zc8 (by simpa using hi),zam] at h2;cases e:vs[i]? with
   |none=>rw[e] at h2;cases h2
   |some a=>rw[e] at h2;cases h2;rfl
  obtain⟨u,hu,rv⟩:=r.get ha;have hp:ps[i]?=some y:=by
   rw[<-S.pre,List.getElem?_take_of_lt (by omega)];exact h1
  have ue:ps.Nodup:=by rw[<-S.pre];exact S.nd.sublist (List.take_sublist _ _)
  refine⟨u,rv,?_⟩;rcases S.par y (zao hp) with k|k
  ·exact .inl ⟨k,QP ue hp hu k⟩
  ·obtain⟨c,e⟩:=Tq (n:=s.heap.objs.size+1) k;refine .inr ⟨.inl k,c,e,?_⟩;have q:=x.cell y c e;rw[QQ ue hp hu (by show scope.names.lookup y≠_;rw[k];decide)] at q;exact q
 ·exact e0.Aw.fresh (zbr (x.above y c (zd8 h)))
 ·unfold start;show _=N.length;rw[zaj,za2,List.length_replicate];omega
theorem X2 {CX:WZ}{P:Program}{w:World}{K:za0}{mg:Str->Option Value}{base:Heap}{k:Nat}{f:Addr}{name qual:Str}{params:Arguments}{body:List Stmt}{scope:Scope}{dV kV doc pm B5 ct oc:Value}{an od:Option Addr}
 {Vj:Array (Option Value)} {N ps:List Str} {sp:Sp} (lk:K.lookup f=some ⟨oc,od,.func (zbh name qual params body scope dV kV doc pm an B5 ct),Vj⟩) (aT:zc3 K B5 qual=true) (S:Ai N ps scope)
 (len:∀vs H Q E,sp vs H Q E->vs.length=ps.length)
 (bZ:∀(A:Around) (outer:List Env) (s:Shared) (H:Hp) (vs:List V) (Q:VK) (E:XK),BU k (A.deeper (envOfC qual scope s.heap.objs.size f B5))->sp vs H Q E->
  ∃t,WV (Tp CX P w K mg base N qual scope f B5 A outer s H E) body t/\t {nx:=λ _ H'=>Q .AJ H',rt:=Q} (start N vs) H):
 E7 P w K mg base CX (k+1) f (zbh name qual params body scope dV kV doc pm an B5 ct) ps sp:=by
 refine⟨len,λ A outer s H args us vs Q E hr e0 hb r b6=>?_⟩;have hl:=len _ _ _ _ b6;have KX:K.In s.heap:=e0.mod.Yl.keeps λ b o e=>(e0.bs b o e).1;have lim:s.heap.NoLimit:=e0.mod.nolimit.keeps λ b o e=>(e0.bs b o e).1;have i4:∀y∈ps.zip us,scope.names.lookup y.1=some .local\/(scope.names.lookup y.1=some .cell/\((cellsFrom (s.heap.objs.size+1) scope.names []).lookup y.1).isSome=true):=λ⟨n,v⟩ hy=>by
  rcases S.par n (List.of_mem_zip hy).1 with q|q
  ·exact .inl q
  ·exact .inr ⟨q,PySem.W.cellsFrom_some _ _ _ (.inl q)⟩
 refine codeAny_call_function hr.depth (KX _ _ lk) rfl S.co S.gen rfl (PySem.W.codeRec_of KX aT) (hb _ _ _ _ ?_);refine wpAny_newFunctionEnv_cells S.kind i4 λ env he s1 x=>?_;subst he;refine⟨lim.keeps x.toInCall.keep,codeAny_func ?_⟩;obtain⟨t,ht,hq⟩:=bZ A outer s H vs Q E (hr.deeper _) b6;have I:Inv (Tp CX P w K mg base N qual scope f B5 A outer s H E) [] (start N vs) H s1:=Ys S hr.hd e0 hl r x;refine wpAny_mono (ht [] s1 (start N vs) H _ I hq) (λ fl s' hs=>?_) λ e s' hs=>hs;have fin:∀ {σ':St} {H':Hp} {v:V} {u:Value},Inv (Tp CX P w K mg base N qual scope f B5 A outer s H E) [] σ' H' s'->RelV v u->Q v H'->CE outer P w H s Q u s':=
  fun {σ' H' v u} J rv q=>⟨v,H',J.os,J.bare,J.base,J.Aw,rv,q⟩
 cases fl with
 |ret u =>
  obtain⟨v,σ',H',J,rv,q⟩:=hs;exact fin J rv q
 |next =>
  obtain⟨σ',H',J,q⟩:=hs;exact fin (v:=V.AJ) (u:=Value.none) J rfl q
 |brk =>
  obtain⟨_,_,_,q⟩:=hs;exact zcp q
 |cont =>
  obtain⟨_,_,_,q⟩:=hs;exact zcp q
section
variable {X:Cx}{x:Str}{p pos:Pos}{e:Expr}{es:List Expr}{t:TA}{id T:String}{r:List V->Hp->VK->Prop}
noncomputable def zS (r:List V->Hp->VK->Prop)(t:TA):TE:=λ σ H Q=>t σ H λ vs H1=>r vs H1 Q
theorem Ts (hc:GF X (.builtin id) r)(hg:Gl X x)(hm:X.mg x=none)(hv:bootBuiltins x=some (.builtin id))(ha:PA X (e::es) t)(hn:x ≠ "__name__" := by decide)(aN:(x==("__debug__" : Str))=false:=by decide)
 (he:starEach (e::es) X.env=(false,eval e X.env)::starEach es X.env:=by rfl) (hpl:(backTo pos (starEach es X.env)).any (·.1)=false:=by rfl):PE X (.Call (.Name x p) (e::es) [] pos) (zS r t):=by
 intro pins s σ H Q I h;refine wpAny_Call_Name_kw (Dl I hg hm hv ?_ hn aN);exact PyProof.Rows.callWith_builtin1 (Bh (ha pos pins s σ H _ I h) λ us s1 ⟨vs,H1,I1,r1,q1⟩=>hc pins s1 σ H1 vs us Q I1 r1 q1) he hpl
theorem LU (hc:GF X (.type T) r)(hg:Gl X x)(hm:X.mg x=none)(hv:bootBuiltins x=some (.type T))(ha:PA X (e::es) t)(hn:x ≠ "__name__" := by decide)(aN:(x==("__debug__" : Str))=false:=by decide)
 (he:starEach (e::es) X.env=(false,eval e X.env)::starEach es X.env:=by rfl) (hpl:(backTo pos (starEach es X.env)).any (·.1)=false:=by rfl):PE X (.Call (.Name x p) (e::es) [] pos) (zS r t):=by
 intro pins s σ H Q I h;refine wpAny_Call_Name_kw (Dl I hg hm hv ?_ hn aN);exact zba (Bh (ha pos pins s σ H _ I h) λ us s1 ⟨vs,H1,I1,r1,q1⟩=>hc pins s1 σ H1 vs us Q I1 r1 q1) he hpl
end
end L2
namespace HT
open PySem PyProof.Rows
noncomputable def lexLt:List Int->List Int->Bool
 |[],[]=>false
 |[],_::_=>true
 |_::_,[]=>false
 |x::xs,y::ys=>if x=y then lexLt xs ys else decide (x<y)
theorem G8 (x y:Int)(xs ys:List Int):lexLt (x::xs) (y::ys)=if x=y then lexLt xs ys else decide (x<y):=rfl
theorem Fm:lexLt [] []=false:=rfl
theorem O1 (y:Int)(ys:List Int):lexLt [] (y::ys)=true:=rfl
theorem O2 (x:Int)(xs:List Int):lexLt (x::xs) []=false:=rfl
theorem cB (A:Around)(s:Shared)(a:Int)(t:Tok)(c:Int)(u:Tok):∃e,SeqAt.EqAt A s (.int a t) (.int c u) e/\(e=true↔a=c):=
 ⟨(a==c),SeqAt.EqAt.int_int a t c u,by simp⟩
theorem cC (A:Around)(s:Shared)(a:Int)(t:Tok)(c:Int)(u:Tok)(prog:Program)(w:World)(E:Value->Shared->Prop)(Q:Value->Shared->Prop)(h:Q (.bool (decide (a<c))) s):
 wpAny (model prog w) A (richCompare .Lt (.int a t) (.int c u)) Q E s:=
 (PyProof.Rows.lt_int h:wpAny (model prog w) A (compareOp .Lt (.int a t) (.int c u)) Q E s)
section
open PySem.SeqAt
open PySem.AutoSeq1 (wpAny_loadPart')
open PySem.MeetsSeq PySem.MeetsSeq2 PySem.MeetsSeq3
theorem Qi (l b:Addr)(items am:Array Value)(n n2:Nat)(dd nv:Option Addr)(sl i5:Array (Option Value))(ns ms:List Int)(hi:IntsAre items.toList ns)(hj:IntsAre am.toList ms):
 Meets (Builtin.«tuple.__lt__» ⟨[.ref l,.ref b],[]⟩)
  (λ _ R s=>s.heap.get? l=some {cls:=.type "tuple",dict:=dd,data:=.seq items n,slots:=sl}/\s.heap.get? b=some {cls:=.type "tuple",dict:=nv,data:=.seq am n2,slots:=i5}/\
   R (.ok (.ret (.bool (lexLt ns ms)))) s):=
 .of_wp λ prog w A R s h=>by
  obtain⟨hp,g,d,tk,os⟩:=s;obtain⟨hl,hb,h⟩:=h;have f2:=AutoSeq1.sub_tuple_tuple;have z1:items.size=ns.length:=by rw[<-hi.length];simp
  have z2:am.size=ms.length:=by rw[<-hj.length];simp
  wp_walk using wpAny_loadPart' hl,wpAny_loadPart' hb,wpAny_forIn_list _ (λ rest b s'=>b.1=none/\s'=⟨hp,g,d,tk,os⟩/\∃(vs ws:List Value) (db ic:List Int),rest=vs.zip ws/\
   IntsAre vs db/\IntsAre ws ic/\db.length+am.size=ic.length+items.size/\R (.ok (.ret (.bool (lexLt db ic)))) ⟨hp,g,d,tk,os⟩) _
  case turn =>
   rintro ⟨y,x⟩ rest b s' ⟨ax,rfl,vs,ws,db,ic,hz,ny,lw,hlen,hR⟩;cases ny with
   |nil=>rw[List.zip_nil_left] at hz;cases hz
   |cons a t nz =>
    cases lw with
    |nil=>rw[List.zip_nil_right] at hz;cases hz
    |cons c u n4 =>
     rw[List.zip_cons_cons] at hz;injection hz with v6 dL
     injection v6 with hy hx
     subst hy hx;rw[G8] at hR;simp only[za9] at hlen;obtain⟨e,he,i6⟩:=cB A.in1 ⟨hp,g,d,tk,os⟩ a t c u;refine wpAny_bind (he prog w _ _ ?_);cases e with
     |true =>
      rw[if_pos (i6.mp rfl)] at hR
      wp_walk
      exact⟨rfl,rfl,_,_,_,_,dL,nz,n4,by omega,hR⟩
     |false =>
      rw[if_neg (λ q=>absurd (i6.mpr q) zaw)] at hR;have v7:=cC A.in1 ⟨hp,g,d,tk,os⟩ a t c u prog w
      wp_walk using v7
      exact⟨_,rfl,by simpa using hR⟩
  case fin =>
   rintro ⟨b1,b2⟩ s' ⟨ax,rfl,vs,ws,db,ic,hz,ny,lw,hlen,hR⟩;simp only at ax;subst ax;have hv:lexLt db ic=decide (items.size<am.size):=by
    cases ny with
    |nil =>
     cases lw with
     |nil =>
      simp only[List.length_nil] at hlen;rw[Fm];exact (decide_eq_false (by omega)).symm
     |cons c u hw =>
      simp only[List.length_nil,za9] at hlen;rw[O1];exact (decide_eq_true (by omega)).symm
    |cons a t hv =>
     cases lw with
     |nil =>
      simp only[List.length_nil,za9] at hlen;rw[O2];exact (decide_eq_false (by omega)).symm
     |cons c u hw =>
      rw[List.zip_cons_cons] at hz;cases hz
   rw[hv] at hR
   wp_walk
   exact⟨_,rfl,by simpa [Builtin.Tuple.tupleCompareSizes] using hR⟩
  case h =>
   exact⟨rfl,rfl,items.toList,am.toList,ns,ms,rfl,hi,hj,by omega,h⟩
end
section
variable {prog:Program}{w:World}{A:Around}{E:Value->Shared->Prop}{s:Shared}
theorem O3 {l b:Addr}{items am:Array Value}{ns ms:List Int}{Q:Value->Shared->Prop}(hl:IsTup s.heap l items)(hb:IsTup s.heap b am)(hi:IntsAre items.toList ns)(hj:IntsAre am.toList ms)
 (hu:A.units<cLine) (h:Q (.bool (lexLt ns ms)) s):wpAny (model prog w) A (compareOp .Lt (.ref l) (.ref b)) Q E s:=by
 obtain⟨⟨cls,dd,data,sl⟩,ho,hc,n,hd⟩:=id hl;obtain⟨⟨v8,nv,data2,i5⟩,uf,ug,n2,hd2⟩:=id hb;simp only at hc hd ug hd2;subst hc hd ug hd2;exact richCompare_meets_room (op:=.Lt) ⟨_,ho,rfl⟩ ⟨_,uf,rfl⟩ PySem.F.slot_tuple_lt PySem.F.entry_tuple_lt (PySem.F.args_tuple_lt_2 _ _) (Qi l b items am n n2 dd nv sl i5 ns ms hi hj)
  ⟨ho,uf,show Value.bool (lexLt ns ms)≠Value.notImplemented/\Q (.bool (lexLt ns ms)) s from ⟨(λ x=>nomatch x),h⟩⟩ hu
noncomputable def O4 (n d:Nat):Option Int->Nat
 |none=>d
 |some v=>if v<0 then (v+(n:Int)).toNat else min v.toNat n
theorem cD (n d:Nat):O4 n d none=d:=rfl
theorem RX (n d k:Nat):O4 n d (some (k:Int))=min k n:=by
 show (if (k:Int)<0 then ((k:Int)+(n:Int)).toNat else min (k:Int).toNat n)=min k n;rw[if_neg (by omega),zbl]
end
end HT
namespace L2
open PySem PySem.Spec PyProof.Rows
noncomputable abbrev TO:=St->Hp->(Option Int->Hp->Prop)->Prop
def PO (X:Cx)(e:Option Expr)(t:TO):Prop:=
 ∀(pins:List (Addr×Obj)) (s:Shared) (σ:St) (H:Hp) (Q:Option Int->Hp->Prop),Inv X pins σ H s->t σ H Q->
  wpAny (model X.prog X.w) X.A (evalPart e X.env) (λ u s'=>∃o H',Inv X pins σ H' s'/\IsPart u o/\Q o H') X.xe s
noncomputable def iZ:TO:=λ _ H Q=>Q none H
noncomputable def vF (t:TE):TO:=λ σ H Q=>t σ H λ x H1=>∃i,x=.int i/\Q (some i) H1
theorem intsAre_of {ns:List Int}:∀ {us:List Value},Vals (ns.map V.int) us->IntsAre us ns:=by
 induction ns with
 |nil=>intro us r;rw[zcy] at r;cases r;exact .nil
 |cons n ns ih =>
  intro us r;rw[za5] at r;cases r with
  |cons r1 r2 =>
   obtain⟨t,e⟩:=r1;subst e;exact .cons n t (ih r2)
section
variable {X:Cx}{e:Expr}{te:TE}{lo hi:Option Expr}{tl th:TO}{pos p2:Pos}
theorem jA:PO X none iZ:=by
 intro pins s σ H Q I h;rw[evalPart_none];exact wpAny_pure ⟨none,H,I,.none,h⟩
theorem jB (h:PE X e te):PO X (some e) (vF te):=by
 intro pins s σ H Q I hw;rw[evalPart_some];refine Bh (h pins s σ H _ I hw) λ u s1 zz=>?_;obtain⟨x,H1,I1,r1,q1⟩:=zz;obtain⟨i,rfl,q⟩:=q1;obtain⟨t,rfl⟩:=r1;exact⟨some i,H1,I1,.int i t,q⟩
def SlR (X:Cx)(r:V->Option Int->Option Int->Hp->VK->Prop):Prop:=
 ∀(pins:List (Addr×Obj)) (s:Shared) (σ:St) (H:Hp) (x:V) (v vl vu:Value) (lo hi:Option Int) (sl:Addr) (Q:VK),Inv X pins σ H s->RelV x v->s.heap.IsSliceOf sl vl vu .none->IsPart vl lo->IsPart vu hi->r x lo hi H Q->
  ∃T id,typeLookup (.type T) "__getitem__" = pure (some (.builtin id))/\s.TypeIs v T/\wpAny (model X.prog X.w) X.A (getItem v (.ref sl)) (EP X pins σ Q) X.xe s
noncomputable def tSl (r:V->Option Int->Option Int->Hp->VK->Prop)(te:TE)(tl th:TO):TE:=λ σ H Q=>te σ H λ x H1=>tl σ H1 λ l H2=>th σ H2 λ u H3=>r x l u H3 Q
theorem cE {r:V->Option Int->Option Int->Hp->VK->Prop}(hr:SlR X r)(he:PE X e te)(hl:PO X lo tl)(hu:PO X hi th):PE X (.Subscript e (.Slice lo hi none p2) pos) (tSl r te tl th):=by
 intro pins s σ H Q I h;refine Subscript_ (Bh (he pins s σ H _ I h) λ v s1 zz=>?_);obtain⟨x,H1,I1,r1,q1⟩:=zz;refine wpAny_Slice (Bh (hl pins s1 σ H1 _ I1 q1) λ vl s2 ⟨l,H2,I2,pl,q2⟩=>Bh (hu pins s2 σ H2 _ I2 q2) λ vu s3 zz=>?_);obtain⟨u,H3,I3,pu,q3⟩:=zz;rw[evalPart_none];refine wpAny_pure ?_;have I4:Inv X pins σ H3 {s3 with heap:=s3.heap.push {cls:=.type "slice",data:=.fields #[vl,vu,.none]} }:=I3.kept (t':=s3.toks) λ b ob q=>zab _ q;obtain⟨T,id,hT,ht,hg⟩:=hr pins {s3 with heap:=s3.heap.push {cls:=.type "slice",data:=.fields #[vl,vu,.none]} } σ H3 x v vl vu l u s3.heap.objs.size Q I4 r1 (Heap.IsSliceOf.new ..) pl pu q3;show wpAny (model X.prog X.w) X.A (subscriptTail e (.Slice lo hi none p2) v (.ref s3.heap.objs.size)) (EP X pins σ Q) X.xe {s3 with heap:=s3.heap.push {cls:=.type "slice",data:=.fields #[vl,vu,.none]} };exact tail_any (ops:=[.ref s3.heap.objs.size,v]) ht hT hg (by with_unfolding_all rfl)
noncomputable def cF (xs:List V)(lo hi:Option Int):List V:=(xs.drop (HT.O4 xs.length 0 lo)).take (HT.O4 xs.length xs.length hi-HT.O4 xs.length 0 lo)
theorem Tt (xs:List V)(lo hi:Option Int):(cF xs lo hi).length<=xs.length:=by
 unfold cF;rw[zby,zd9];omega
noncomputable def vG (K:za0):R2:=λ x y H Q=>∃a b ns ms,x=.ref a/\y=.ref b/\F9 K H a (ns.map V.int)/\F9 K H b (ms.map V.int)/\Q (.bl (HT.lexLt ns ms)) H
theorem cG (hu:X.A.units<cLine):G7 X (compareOp .Lt) (vG X.K):=by
 intro pins s σ H x y v u Q I rx ry h;obtain⟨a,b,ns,ms,rfl,rfl,ha,hb,q⟩:=h;cases rx;cases ry;obtain⟨aa,r1,p1,_⟩:=I.tuple ha;obtain⟨aI,r2,p2,_⟩:=I.tuple hb;have i1:IntsAre aa.toArray.toList ns:=intsAre_of r1;have i2:IntsAre aI.toArray.toList ms:=intsAre_of r2;exact HT.O3 p1 p2 i1 i2 hu ⟨.bl (HT.lexLt ns ms),H,I,rfl,q⟩
end
noncomputable def iE (n:Nat)(i:Int):Option Nat:=if 0<=i then (if i<n then some i.toNat else none) else if -(n:Int)<=i then some (i+n).toNat else none
noncomputable def X3 {α:Type}(xs:List α)(i:Int):Option α:=(iE xs.length i).bind λ j=>xs[j]?
theorem X4 {n:Nat}{i:Int}{j:Nat}(h:iE n i=some j):seqIndex? i n=some j/\j<n/\-(n:Int)<=i/\i<n:=by
 unfold iE at h;by_cases h0:0<=i
 ·rw[if_pos h0] at h;by_cases h1:i<n
  ·rw[if_pos h1] at h;have e:i.toNat=j:=zas h;exact⟨by rw[seqIndex_of h0 h1,e],by omega,by omega,h1⟩
  ·rw[if_neg h1] at h;cases h
 ·rw[if_neg h0] at h;by_cases h1 : -(n:Int)<=i
  ·rw[if_pos h1] at h;have e:(i+n).toNat=j:=zas h;exact⟨by rw[seqIndex_neg (by omega) h1,e],by omega,h1,by omega⟩
  ·rw[if_neg h1] at h;cases h
theorem X5 {α:Type}{xs:List α}{i:Int}{v:α}(h:X3 xs i=some v):∃j,seqIndex? i xs.length=some j/\xs[j]?=some v/\j<xs.length/\-(xs.length:Int)<=i/\i<xs.length:=by
 unfold X3 at h;cases e:iE xs.length i with
 |none=>rw[e] at h;cases h
 |some j =>
  rw[e] at h;obtain⟨h1,h2,h3,h4⟩:=X4 e;exact⟨j,h1,h,h2,h3,h4⟩
def RY (b:Expr):Prop:=∀o i,subscripted b false o i=operate [o,i] (getItem o i)
def jC (X:Cx)(r:R2):Prop:=
 ∀(value slice:Expr) (pins:List (Addr×Obj)) (s:Shared) (σ:St) (H:Hp) (x y:V) (v u:Value) (Q:VK),Inv X pins σ H s->RelV x v->RelV y u->r x y H Q->
  subscripted slice false v u=operate [v,u] (getItem v u)->wpAny (model X.prog X.w) X.A (subscriptTail value slice v u) (EP X pins σ Q) X.xe s
def MtR (X:Cx)(id:String)(r:V->List V->Hp->VK->Prop):Prop:=
 ∀(pins:List (Addr×Obj)) (s:Shared) (σ:St) (H:Hp) (x:V) (xs:List V) (v:Value) (us:List Value) (Q:VK),Inv X pins σ H s->RelV x v->Vals xs us->r x xs H Q->
  wpAny (model X.prog X.w) X.A (call (.builtin id) (v::us)) (EP X pins σ Q) X.xe s
section
variable {X:Cx}{a b:Expr}{ta tb:TE}{pos:Pos}
theorem jC.or {r r':R2}(h:jC X r)(h':jC X r'):jC X (λ x y H Q=>r x y H Q\/r' x y H Q):=by
 intro value slice pins s σ H x y v u Q I rx ry q hs;rcases q with q|q
 ·exact h value slice pins s σ H x y v u Q I rx ry q hs
 ·exact h' value slice pins s σ H x y v u Q I rx ry q hs
theorem vH {r:R2}(hr:jC X r)(ha:PE X a ta)(hb:PE X b tb)(hs:RY b):PE X (.Subscript a b pos) (tP r ta tb):=by
 intro pins s σ H Q I h;exact Subscript_ (pV ha hb I h λ v u s2 x y H2 I2 rx ry q=>hr a b pins s2 σ H2 x y v u Q I2 rx ry q (hs _ _))
noncomputable def qJ (K:za0):R2:=λ x y H Q=>∃p xs i v,x=.ref p/\y=.int i/\CO K H p xs/\X3 xs i=some v/\Q v H
noncomputable def qK (K:za0):R2:=λ x y H Q=>∃p xs i v,x=.ref p/\y=.int i/\F9 K H p xs/\X3 xs i=some v/\Q v H
theorem jD:jC X (qJ X.K):=by
 intro value slice pins s σ H x y v u Q I rx ry h hs;obtain⟨p,xs,i,z,rfl,rfl,hq,he,q⟩:=h;cases rx;obtain⟨t,rfl⟩:=ry;obtain⟨aa,r,pl,hz⟩:=I.list hq;obtain⟨j,h1,h2,h3,h4,h5⟩:=X5 he;obtain⟨w,ew,aX⟩:=r.get h2;have hl:=r.length;have hn:=LR;have fin:EP X pins σ Q w s:=⟨z,H,I,aX,q⟩;by_cases h0:0<=i
 ·have hj:i.toNat=j:=by
   rw[seqIndex_of h0 h5] at h1;exact zas h1
  exact item_listR pl.isList h0 (by omega) (by rw[hj];simpa using ew) fin hs
 ·have hj:(i+(aa.toArray.size:Int)).toNat=j:=by
   rw[seqIndex_neg (by omega) h4] at h1;rw[zad,<-hl];exact zas h1
  exact subscriptTail_builtinR (x:=w) pl.isList.typeIs slot_list_getitem.lookup
   (wpAny_getItem_list_neg (Q:=λ r s'=>r=w/\EP X pins σ Q r s') pl.isList (by omega) (by rw[zad]<;>omega) (by omega) (by rw[hj];simpa using ew) ⟨rfl,fin⟩) hs
theorem qL:jC X (qK X.K):=by
 intro value slice pins s σ H x y v u Q I rx ry h hs;obtain⟨p,xs,i,z,rfl,rfl,hq,he,q⟩:=h;cases rx;obtain⟨t,rfl⟩:=ry;obtain⟨aa,r,pl,hz⟩:=I.tuple hq;obtain⟨j,h1,h2,h3,h4,h5⟩:=X5 he;obtain⟨w,ew,aX⟩:=r.get h2;have hl:=r.length;have hn:=LR;have fin:EP X pins σ Q w s:=⟨z,H,I,aX,q⟩;exact subscriptTail_builtinR (x:=w) pl.typeIs slot_tuple_getitem.lookup
  (getItem_tuple (j:=j) (Q:=λ r s'=>r=w/\EP X pins σ Q r s') pl (by omega) (by omega) (by rw[zad,<-hl];exact h1) (by simpa using ew) ⟨rfl,fin⟩) hs
theorem VC (aa:List Value)(n j:Nat)(u:Value):Obj.mapSeq (·.setIfInBounds j u) {cls:=.type "list",data:=.seq aa.toArray n}={cls:=.type "list",data:=.seq (aa.set j u).toArray n}:=by
 simp[Obj.mapSeq]
theorem Inv.lst {pins:List (Addr×Obj)}{σ:St}{H:Hp}{s:Shared}{p:Addr}{xs:List V}(I:Inv X pins σ H s)(h:H p=some (.lst xs)):
 ∃(aa:List Value) (n:Nat),Vals xs aa/\s.heap.get? p=some {cls:=.type "list",data:=.seq aa.toArray n}/\xs.length<=sizeLine:=by
 obtain⟨z,aa,n,r,e⟩:=I.Aw p _ h;exact⟨aa,n,r,e,z⟩
theorem Inv.qM {pins:List (Addr×Obj)}{σ:St}{H:Hp}{s:Shared}{p:Addr}{xs ys:List V}{aa its':List Value}{n n':Nat}{f:Obj->Obj}(I:Inv X pins σ H s)(h:H p=some (.lst xs))
 (ho:s.heap.get? p=some {cls:=.type "list",data:=.seq aa.toArray n}) (hf:f {cls:=.type "list",data:=.seq aa.toArray n}={cls:=.type "list",data:=.seq its'.toArray n' }) (r:Vals ys its') (hz:ys.length<=sizeLine) (t:Nat):
 Inv X pins σ (upd H p (.lst ys)) {s with heap:=s.heap.update p f,toks:=t}:=by
 have e:(s.heap.update p f).get? p=some {cls:=.type "list",data:=.seq its'.toArray n' }:=by
  rw[Heap.get?_update_self f ho (by rw[hf]<;>rfl),hf]
 refine I.write (x:=p) (e:=p) (by rw[h];trivial) (.inl rfl) (λ b u hb q=>(Heap.get?_update_other _ _ (zbi hb)).trans q) ⟨_,e⟩ ?_;exact⟨hz,its',n',r,e⟩
def vI:V->V->V->Hp->(Hp->Prop)->Prop:=λ o i v H Q=>∃p xs k j,o=.ref p/\i=.int k/\H p=some (.lst xs)/\iE xs.length k=some j/\Q (upd H p (.lst (xs.set j v)))
theorem set_list:uT X vI:=by
 intro pins s σ H o i v ov iv u Q I ro ri rv h;obtain⟨p,xs,k,j,rfl,rfl,hp,hj,q⟩:=h;cases ro;obtain⟨t,rfl⟩:=ri;obtain⟨aa,n,r,ho,hz⟩:=I.lst hp;obtain⟨h1,h2,h3,h4⟩:=X4 hj;have hl:=r.length;have hn:=LR;have I':Inv X pins σ (upd H p (.lst (xs.set j v))) {s with heap:=s.heap.update p (Obj.mapSeq (·.setIfInBounds j u))}:=
  I.qM hp ho (VC aa n j u) (r.set rv j) (by rw[zbw];exact hz) s.toks
 by_cases h0:0<=k
 ·have hk:k.toNat=j:=by
   rw[seqIndex_of h0 h4] at h1;exact zas h1
  exact PySem.W.ki_setAt ho h0 (by omega) (by rw[zad,<-hl];exact h4) (by rw[hk];exact⟨_,I',q⟩)
 ·have hk:(k+(aa.toArray.size:Int)).toNat=j:=by
   rw[seqIndex_neg (by omega) h3] at h1;rw[zad,<-hl];exact zas h1
  exact PySem.W.ki_setBack ho (by omega) (by rw[zad,<-hl];exact h3) (by omega) (by rw[hk];exact⟨_,I',q⟩)
theorem RZ (lo hi:Option Int)(n:Nat):(sliceBounds lo hi none n).1=((HT.O4 n 0 lo:Nat):Int)/\(sliceBounds lo hi none n).2.1=((HT.O4 n n hi:Nat):Int)/\(sliceBounds lo hi none n).2.2=1:=by
 refine⟨?_,?_,rfl⟩
 ·cases lo with
  |none=>simp[sliceBounds,HT.O4]
  |some i =>
   simp only[sliceBounds,HT.O4,Option.getD_none,show (1:Int) > 0 by decide,if_true];by_cases h:i<0
   ·simp only[h,if_true]<;>omega
   ·simp only[h,if_false]<;>omega
 ·cases hi with
  |none=>simp[sliceBounds,HT.O4]
  |some i =>
   simp only[sliceBounds,HT.O4,Option.getD_none,show (1:Int) > 0 by decide,if_true];by_cases h:i<0
   ·simp only[h,if_true]<;>omega
   ·simp only[h,if_false]<;>omega
theorem Qj (aa:List Value)(lo hi:Option Int):slicePick aa.toArray lo hi none=((aa.drop (HT.O4 aa.length 0 lo)).take (HT.O4 aa.length aa.length hi-HT.O4 aa.length 0 lo)).toArray:=by
 obtain⟨h1,h2,h3⟩:=RZ lo hi aa.toArray.size;unfold slicePick;rw[h1,h2,h3];simp only[sliceRange_one,pick_run,zad]<;>rfl
def zT (K:za0):V->Option Int->Option Int->Hp->VK->Prop:=λ x lo hi H Q=>∃a xs,x=.ref a/\CO K H a xs/\∀p,H p=none->Q (.ref p) (upd H p (.lst (cF xs lo hi)))
theorem jE:SlR X (zT X.K):=by
 intro pins s σ H x v vl vu lo hi sl Q I rx hs pl pu h;obtain⟨a,xs,rfl,hx,q⟩:=h;cases rx;obtain⟨aa,r,ht,hz⟩:=I.list hx;have hlen:=r.length;refine⟨"list",_,slot_list_getitem.lookup,ht.isList.typeIs,?_⟩;refine wpAny_getItem_list_slice ht.isList hs pl pu .none (by simp) ?_ (by rw[zad]<;>omega);rw[Qj,<-hlen];refine⟨.ref s.heap.objs.size,_,I.laid (t':=s.toks) (o:=.lst (cF xs lo hi)) (λ b ob q=>zab _ q) (zag _) ?_,rfl,q _ (I.Aw.fresh (zag _))⟩;exact⟨zbq (Tt xs lo hi) hz,_,0,(r.drop (HT.O4 xs.length 0 lo)).take (HT.O4 xs.length xs.length hi-HT.O4 xs.length 0 lo),zap _ rfl⟩
noncomputable def K0:V->Bool
 | .AJ| .bl _| .int _| .str _=>true
 |_=>false
noncomputable def nM:V->V->Bool
 | .AJ,.AJ=>true
 | .bl a,.bl b=>a==b
 | .bl a,.int b=>(if a then 1 else 0)==b
 | .int a,.bl b=>a==(if b then 1 else 0)
 | .int a,.int b| .str a,.str b=>a==b
 |_,_=>false
theorem qN {A:Around}{s:Shared}{y x:V}{u v:Value}(ry:RelV y u)(rx:RelV x v)(fy:K0 y=true)(fx:K0 x=true):SeqAt.EqAt A s u v (nM y x):=by
 cases y with
 |AJ =>
  cases ry;cases x with
  |AJ=>cases rx;exact SeqAt.EqAt.same _
  |bl b=>cases rx;exact SeqAt.EqAt.none_bool b
  |int b=>obtain⟨t,rfl⟩:=rx;exact SeqAt.EqAt.none_int b t
  |str b=>obtain⟨t,rfl⟩:=rx;exact SeqAt.EqAt.none_str b t
  |_=>exact absurd (show false=true from fx) zaw
 |bl a =>
  cases ry;cases x with
  |AJ=>cases rx;exact SeqAt.EqAt.bool_none a
  |bl b=>cases rx;exact SeqAt.EqAt.bool_bool a b
  |int b=>obtain⟨t,rfl⟩:=rx;exact SeqAt.EqAt.bool_int a b t
  |str b=>obtain⟨t,rfl⟩:=rx;exact SeqAt.EqAt.bool_str a b t
  |_=>exact absurd (show false=true from fx) zaw
 |int a =>
  obtain⟨t',rfl⟩:=ry;cases x with
  |AJ=>cases rx;exact SeqAt.EqAt.int_none a t'
  |bl b=>cases rx;exact SeqAt.EqAt.int_bool a t' b
  |int b=>obtain⟨t,rfl⟩:=rx;exact SeqAt.EqAt.int_int a t' b t
  |str b=>obtain⟨t,rfl⟩:=rx;exact SeqAt.EqAt.int_str a t' b t
  |_=>exact absurd (show false=true from fx) zaw
 |str a =>
  obtain⟨t',rfl⟩:=ry;cases x with
  |AJ=>cases rx;exact SeqAt.EqAt.str_none a t'
  |bl b=>cases rx;exact SeqAt.EqAt.str_bool a t' b
  |int b=>obtain⟨t,rfl⟩:=rx;exact SeqAt.EqAt.str_int a t' b t
  |str b=>obtain⟨t,rfl⟩:=rx;exact SeqAt.EqAt.str_str a t' b t
  |_=>exact absurd (show false=true from fx) zaw
 |_=>exact absurd (show false=true from fy) zaw
noncomputable def VD (x:V)(u:Value):Bool:=match u with
 | .none=>nM .AJ x
 | .bool b=>nM (.bl b) x
 | .int i _=>nM (.int i) x
 | .str z _=>nM (.str z) x
 |_=>false
theorem cH {x y:V}{u:Value}(r:RelV y u)(f:K0 y=true):VD x u=nM y x:=by
 cases y with
 |AJ|bl b=>cases r;rfl
 |int i|str z=>obtain⟨t,rfl⟩:=r;rfl
 |_=>exact absurd (show false=true from f) zaw
theorem K4 {x:V}:∀ {xs:List V}{us:List Value},Vals xs us->xs.all K0=true->us.any (VD x)=xs.any λ y=>nM y x
 |_,_,.nil,_=>rfl
 |y::xs,u::us,.cons r t,f=>by
  rw[List.all_cons,zb5] at f;rw[zd5,zd5,cH r f.1,K4 t f.2]
theorem Hf {A:Around}{s:Shared}{x:V}{v:Value}(rx:RelV x v)(fx:K0 x=true):∀ {xs:List V}{us:List Value},Vals xs us->xs.all K0=true->∀u∈us,SeqAt.EqAt A s u v (VD x u)
 |_,_,.nil,_=>λ u hu=>by cases hu
 |y::xs,u::us,.cons r t,f=>λ u' hu=>by
  rw[List.all_cons,zb5] at f;rcases zaa.mp hu with rfl|hu
  ·rw[cH r f.1];exact qN r rx f.1 fx
  ·exact Hf rx fx t f.2 u' hu
noncomputable def yD (x:V)(xs:List V):Bool:=xs.any λ y=>nM y x
noncomputable def yE (K:za0)(neg:Bool):R2:=λ x y H Q=>∃p xs,y=.ref p/\(CO K H p xs\/F9 K H p xs)/\K0 x=true/\xs.all K0=true/\Q (.bl (if neg then !yD x xs else yD x xs)) H
theorem Yt:G7 X (compareOp .In) (yE X.K false):=by
 intro pins s σ H x y v u Q I rx ry h;obtain⟨p,xs,rfl,hq,fx,fs,q⟩:=h;cases ry;rcases hq with hq|hq
 ·obtain⟨aa,r,pl,hz⟩:=I.list hq;refine SeqAt.in_listAt (VD x) pl.isList (λ w hw=>Hf rx fx r fs w (by simpa using hw)) ⟨.bl _,H,I,rfl,?_⟩;rw[show aa.toArray.any (VD x)=aa.any (VD x) by simp,K4 r fs];exact q
 ·obtain⟨aa,r,pl,hz⟩:=I.tuple hq;refine SeqAt.in_tupleAt (VD x) pl (λ w hw=>Hf rx fx r fs w (by simpa using hw)) ⟨.bl _,H,I,rfl,?_⟩;rw[show aa.toArray.any (VD x)=aa.any (VD x) by simp,K4 r fs];exact q
theorem K5:G7 X (compareOp .NotIn) (yE X.K true):=by
 intro pins s σ H x y v u Q I rx ry h;obtain⟨p,xs,rfl,hq,fx,fs,q⟩:=h;cases ry;rcases hq with hq|hq
 ·obtain⟨aa,r,pl,hz⟩:=I.list hq;refine SeqAt.notIn_listAt (VD x) pl.isList (λ w hw=>Hf rx fx r fs w (by simpa using hw)) ⟨.bl _,H,I,rfl,?_⟩;rw[show aa.toArray.any (VD x)=aa.any (VD x) by simp,K4 r fs];exact q
 ·obtain⟨aa,r,pl,hz⟩:=I.tuple hq;refine SeqAt.notIn_tupleAt (VD x) pl (λ w hw=>Hf rx fx r fs w (by simpa using hw)) ⟨.bl _,H,I,rfl,?_⟩;rw[show aa.toArray.any (VD x)=aa.any (VD x) by simp,K4 r fs];exact q
theorem S0:GF X (.builtin "len") (λ xs H Q=>∃p ys,xs=[.ref p]/\(CO X.K H p ys\/F9 X.K H p ys)/\Q (.int ys.length) H):=by
 intro pins s σ H xs us Q I r h;obtain⟨p,ys,rfl,hq,q⟩:=h;obtain⟨u,rfl,rx⟩:=vals1 r;cases rx;have hn:=LR;rcases hq with hq|hq
 ·obtain⟨aa,r',pl,hz⟩:=I.list hq;have hlen:=r'.length;exact Calls.call_len_list pl.isList (by simp only[zad]<;>omega) ⟨.int ys.length,H,I.tok _,⟨s.toks+1,by rw[zad,hlen]⟩,q⟩
 ·obtain⟨aa,r',pl,hz⟩:=I.tuple hq;have hlen:=r'.length;exact len_tuple pl (by simp only[zad]<;>omega) ⟨.int ys.length,H,I.tok _,⟨s.toks+1,by rw[zad,hlen]⟩,q⟩
theorem S1:GF X (.type "list") (λ xs H Q=>∃p ys,xs=[.ref p]/\(CO X.K H p ys\/F9 X.K H p ys)/\∀l,H l=none->Q (.ref l) (upd H l (.lst ys))):=by
 intro pins s σ H xs us Q I r h;obtain⟨p,ys,rfl,hq,q⟩:=h;obtain⟨u,rfl,rx⟩:=vals1 r;cases rx;have fin:∀(aa:List Value),Vals ys aa->ys.length<=sizeLine->∀(h':Heap) (c':Nat),(∀b o',s.heap.get? b=some o'->h'.get? b=some o')->
  h'.get? s.heap.objs.size=some {cls:=.type "list",dict:=none,data:=.seq aa.toArray c',slots:=#[]}->EP X pins σ Q (.ref s.heap.objs.size) {s with heap:=h' }:=λ aa r' hz h' c' kp e =>
  ⟨.ref s.heap.objs.size,_,I.laid (t':=s.toks) kp (zag _) (show Bl X.prog X.w _ h' _ (.lst ys) from ⟨hz,aa,c',r',e⟩),rfl,q _ (I.Aw.fresh (zag _))⟩
 rcases hq with hq|hq
 ·obtain⟨aa,r',pl,hz⟩:=I.list hq;have hlen:=r'.length;obtain⟨o,ho,hc,n,hd⟩:=pl.isList;exact call_list_seq p (.inl rfl) ho hc hd (λ h' c' kp e=>fin aa r' hz h' c' kp e) (by simp only[zad]<;>omega)
 ·obtain⟨aa,r',pl,hz⟩:=I.tuple hq;have hlen:=r'.length;obtain⟨o,ho,hc,n,hd⟩:=pl;exact call_list_seq p (.inr rfl) ho hc hd (λ h' c' kp e=>fin aa r' hz h' c' kp e) (by simp only[zad]<;>omega)
theorem Qk:GF X (.type "tuple") (λ xs H Q=>∃p ys,xs=[.ref p]/\((CO X.K H p ys/\∀l,H l=none->Q (.ref l) (upd H l (.tup ys)))\/(F9 X.K H p ys/\Q (.ref p) H))):=by
 intro pins s σ H xs us Q I r h;obtain⟨p,ys,rfl,h⟩:=h;obtain⟨u,rfl,rx⟩:=vals1 r;cases rx;rcases h with ⟨hq,q⟩|⟨hq,q⟩
 ·obtain⟨aa,r',pl,hz⟩:=I.list hq;have hlen:=r'.length;refine call_tuple_list pl.isList (λ h' kp=>?_) (by simp only[zad]<;>omega);have I1:Inv X pins σ H {s with heap:=h' }:=I.kept (t':=s.toks) kp;have I2:Inv X pins σ (upd H h'.objs.size (.tup ys)) {s with heap:=h'.push {cls:=.type "tuple",data:=.seq aa.toArray} }:=
   I1.laid (t':=s.toks) (λ b o e=>zab _ e) (zag _) (show Bl X.prog X.w _ _ _ (.tup ys) from ⟨hz,aa,r',IsTup.new _ _⟩)
  exact⟨.ref h'.objs.size,_,I2,rfl,q _ (I1.Aw.fresh (zag _))⟩
 ·obtain⟨aa,r',pl,hz⟩:=I.tuple hq;exact call_tuple_same pl ⟨.ref p,H,I,rfl,q⟩
def zU (K:za0)(T:String)(x:V)(H:Hp):Prop:=match x with
 | .str _=>T = "str"
 | .int _=>T = "int"
 | .ref p=>(T = "list" /\ ∃xs,CO K H p xs)\/(T = "tuple" /\ ∃o,K.lookup p=some o/\o.cls=.type "tuple" /\ o.dict=none) \/
  (T = "dict" /\ ((∃kvs,H p=some (.dK kvs))\/∃kvs,H p=some (.dT kvs)))\/(T = "set" /\ ∃S n,H p=some (.set S n))
 |_=>False
theorem cI {pins:List (Addr×Obj)}{σ:St}{H:Hp}{s:Shared}{T:String}{x:V}{v:Value}(I:Inv X pins σ H s)(r:RelV x v)(ty:zU X.K T x H):
 s.TypeIs v T/\∀a,v=.ref a->∃ob,s.heap.get? a=some ob/\ob.dict=none:=by
 cases x with
 |str z =>
  obtain⟨t,rfl⟩:=r;cases (show T = "str" from ty);exact⟨typeIs_str s z t,λ _ e=>nomatch e⟩
 |int i =>
  obtain⟨t,rfl⟩:=r;cases (show T = "int" from ty);exact⟨typeIs_int s i t,λ _ e=>nomatch e⟩
 |ref p =>
  cases r;rcases ty with ⟨rfl,xs,hq⟩|⟨rfl,o,hk,hc,hd⟩|⟨rfl,hk⟩|⟨rfl,S,n,hk⟩
  ·obtain⟨aa,_,pl,_⟩:=I.list hq;refine⟨pl.isList.typeIs,λ a e=>?_⟩;cases e;obtain⟨o,n,e,c,hd,_⟩:=pl;exact⟨o,e,hd⟩
  ·refine⟨⟨o,I.Q9 p o hk,hc⟩,λ a e=>?_⟩;cases e;exact⟨o,I.Q9 _ o hk,hd⟩
  ·have z:∃o,s.heap.get? p=some o/\o.ExactDict:=by
    rcases hk with ⟨kvs,hk⟩|⟨kvs,hk⟩
    ·obtain⟨_,_,_,_,o,_,_,e,ex,_⟩:=I.Aw p _ hk;exact⟨o,e,ex⟩
    ·obtain⟨_,_,_,_,o,_,_,e,ex,_⟩:=I.Aw p _ hk;exact⟨o,e,ex⟩
   obtain⟨o,e,ex⟩:=z;refine⟨⟨o,e,ex.1⟩,λ a e2=>?_⟩;cases e2;exact⟨o,e,ex.2.1⟩
  ·obtain⟨o,_,_,_,e,ex,_⟩:=I.Aw p _ hk;refine⟨⟨o,e,ex.1⟩,λ a e2=>?_⟩;cases e2;exact⟨o,e,ex.2.1⟩
 |_=>exact zcp ty
noncomputable def zV (K:za0)(T:String)(r:V->List V->Hp->VK->Prop)(to:TE):TE:=λ σ H Q=>to σ H λ x H1=>zU K T x H1/\r x [] H1 Q
noncomputable def tBM (K:za0)(T:String)(r:V->List V->Hp->VK->Prop)(to:TE)(t:TA):TE:=λ σ H Q=>to σ H λ x H1=>zU K T x H1/\t σ H1 λ xs H2=>r x xs H2 Q
variable {o e:Expr}{es:List Expr}{to:TE}{t:TA}{name:Str}{apos ac:Pos}{T id:String}{r:V->List V->Hp->VK->Prop}
theorem qO (pa:PlainAttrs T)(slot:Slot T name id)(n5:typeOf (.builtin id)=pure (.type "method_descriptor"))(hm:MtR X id r)(ho:PE X o to)
 (aj:attributeBase o name X.env (eval o X.env)=eval o X.env:=by rfl) (ak:(apos.endLine==ac.line)=true:=by rfl):PE X (.Call (.Attribute o name apos) [] [] ac) (zV X.K T r to):=by
 intro pins s σ H Q I h;refine wpAny_Call_method0_late aj ak (Bh (ho pins s σ H _ I h) λ v s1 zz=>?_);obtain⟨x,H1,I1,r1,ty,q1⟩:=zz;obtain⟨h1,h2⟩:=cI I1 r1 ty;exact⟨T,id,pa,slot,n5,h1,h2,Calls.callWith_builtin rfl (PySem.evalArgs_none (hm pins s1 σ H1 x [] v [] Q I1 r1 .nil q1))⟩
theorem Tu (pa:PlainAttrs T)(slot:Slot T name id)(n5:typeOf (.builtin id)=pure (.type "method_descriptor"))(hm:MtR X id r)(ho:PE X o to)(ha:PA X (e::es) t)
 (aj:attributeBase o name X.env (eval o X.env)=eval o X.env:=by rfl)
 (aE:((backTo ac (starEach (e::es) X.env)).all (λ x => !x.1)&&(backToKw ac (keywordEach [] X.env)).all (λ x=>x.1.isSome)
  && decide ((e::es).length+([]:List Keyword).length+(if ([]:List Keyword).isEmpty then 0 else 1)<30))=true:=by rfl)
 (ak:(apos.endLine==ac.line)=true:=by rfl) (hs:starEach (e::es) X.env=(false,eval e X.env)::starEach es X.env:=by rfl) (al:(backTo ac (starEach es X.env)).any (·.1)=false:=by rfl):
 PE X (.Call (.Attribute o name apos) (e::es) [] ac) (tBM X.K T r to t):=by
 intro pins s σ H Q I h;refine wpAny_Call_method_late aj aE ak rfl (Bh (ho pins s σ H _ I h) λ v s1 zz=>?_);obtain⟨x,H1,I1,r1,ty,q1⟩:=zz;obtain⟨h1,h2⟩:=cI I1 r1 ty;refine⟨T,id,pa,slot,n5,h1,h2,?_⟩;have hA:=ha ac pins s1 σ H1 _ I1 q1;rw[hs] at hA ⊢;refine Calls.callWith_builtin (by show (false||(backTo ac (starEach es X.env)).any (·.1))=false;rw[al]<;>rfl) (Calls.evalArgs_plain ?_);exact Bh hA λ us s2 ⟨vs,H2,I2,r2,q2⟩=>hm pins s2 σ H2 x vs v us Q I2 r1 r2 q2
end
def vJ (X:Cx)(id:String)(r:V->List V->Hp->VK->Prop):Prop:=
 ∀(pins:List (Addr×Obj)) (s:Shared) (σ:St) (H:Hp) (x:V) (xs:List V) (v:Value) (us:List Value) (Q:VK),Inv X pins σ H s->RelV x v->Vals xs us->r x xs H Q->
  wpAny (model X.prog X.w) X.A (call (.builtin id) (v::us)) (EP X pins σ Q) X.xe s
theorem Vals.one:∀ {x:V}{us:List Value},Vals [x] us->∃u,us=[u]/\RelV x u
 |_,_,.cons r .nil=>⟨_,rfl,r⟩
theorem Vals.two:∀ {x y:V}{us:List Value},Vals [x,y] us->∃u v,us=[u,v]/\RelV x u/\RelV y v
 |_,_,_,.cons r (.cons q .nil)=>⟨_,_,rfl,r,q⟩
theorem Vals.zero:∀ {us:List Value},Vals [] us->us=[]
 |_,.nil=>rfl
theorem Vals.dropLast {xs:List V}{us:List Value}(h:Vals xs us):Vals xs.dropLast us.dropLast:=by
 induction h with
 |nil=>exact .nil
 |cons r t ih =>
  cases t with
  |nil=>exact .nil
  |cons q t'=>exact .cons r ih
theorem Vals.eraseIdx:∀ {xs:List V}{us:List Value}(i:Nat),Vals xs us->Vals (xs.eraseIdx i) (us.eraseIdx i)
 |_,_,_,.nil=>.nil
 |_,_,0,.cons _ t=>t
 |_,_,i+1,.cons r t=>.cons r (Vals.eraseIdx i t)
theorem Vals.rep {xs:List V}{us:List Value}(h:Vals xs us):∀k:Nat,Vals (zak k xs).flatten (zak k us).flatten
 |0=>.nil
 |k+1=>by
  rw[zc5,zc5,List.flatten_cons,List.flatten_cons];exact Vals.append h (Vals.rep h k)
theorem VE {α:Type}(l:List α):l.eraseIdx (l.length-1)=l.dropLast:=by
 induction l with
 |nil=>rfl
 |cons a r ih =>
  cases r with
  |nil=>rfl
  |cons b r =>
   have e:(a::b::r).length-1=((b::r).length-1)+1:=by
    have h1:(a::b::r).length=r.length+2:=rfl;have h2:(b::r).length=r.length+1:=rfl;omega
   rw[e,List.eraseIdx_cons_succ,ih];all_goals rfl
theorem foldl_rep (aa:List Value):∀(k:Nat) (acc:List Value),
 List.foldl (λ x1 x2=>x1++x2) acc.toArray (zak k aa.toArray)=(acc++(zak k aa).flatten).toArray
 |0,acc=>by simp
 |k+1,acc=>by
  have e:acc.toArray++aa.toArray=(acc++aa).toArray:=by simp
  have e2:(acc++aa)++(zak k aa).flatten=acc++(zak (k+1) aa).flatten:=by
   rw[zc5,List.flatten_cons,zbk]
  rw[<-e2,<-foldl_rep aa k (acc++aa),<-e,zc5,zav]
section
variable {X:Cx}{pins:List (Addr×Obj)}{σ:St}{H:Hp}{s:Shared}{l b:Addr}{xs ys zs:List V}
theorem Inv.cJ {aa its':List Value}{n:Nat}{f:Array Value->Array Value}{t':Nat}(I:Inv X pins σ H s)(hH:H l=some (.lst xs))
 (e:s.heap.get? l=some {cls:=.type "list",data:=.seq aa.toArray n}) (hf:f aa.toArray=its'.toArray) (hv:Vals ys its') (hz:ys.length<=sizeLine):
 Inv X pins σ (upd H l (.lst ys)) {s with heap:=s.heap.update l (Obj.mapSeq f),toks:=t' }:=by
 have q:=PySem.IsL.update e f;rw[hf] at q;refine I.write (x:=l) (e:=l) (by rw[hH];exact trivial) (.inl rfl) (λ b' u hb hu=>(Heap.get?_update_other s.heap (Obj.mapSeq f) (zbi hb)).trans hu) ⟨_,q⟩ ?_;exact⟨hz,its',_,hv,q⟩
theorem Inv.vK {aa:List Value}{t':Nat}(I:Inv X pins σ H s)(hv:Vals ys aa)(hz:ys.length<=sizeLine):
 Inv X pins σ (upd H s.heap.objs.size (.lst ys)) {s with heap:=s.heap.push {cls:=.type "list",data:=.seq aa.toArray},toks:=t' }:=
 I.laid (λ _ _ q=>zab _ q) (zag _) ⟨hz,aa,0,hv,zap _ rfl⟩
theorem Inv.fresh (I:Inv X pins σ H s):H s.heap.objs.size=none:=I.Aw.fresh (zag _)
theorem Inv.VF (I:Inv X pins σ H s)(hH:H l=some (.lst xs)):xs.length<=sizeLine/\∃(aa:List Value) (n:Nat),Vals xs aa/\xs.length=aa.length/\s.heap.get? l=some {cls:=.type "list",data:=.seq aa.toArray n}:=by
 obtain⟨z,aa,n,r,e⟩:=I.Aw l _ hH;exact⟨z,aa,n,r,r.length,e⟩
theorem Tv {n:Nat}(h:n<=sizeLine):zd3 n=false:=by
 unfold zd3;exact decide_eq_false (by omega)
end
section
variable {X:Cx}
def jF:V->List V->Hp->VK->Prop:=λ x vs H Q=>∃l xs y,x=.ref l/\vs=[y]/\H l=some (.lst xs)/\xs.length<sizeLine/\Q .AJ (upd H l (.lst (xs++[y])))
theorem QR:vJ X "list.append" jF:=by
 intro pins s σ H x vs v us Q I rx rv h;obtain⟨l,xs,y,rfl,rfl,hH,hz,q⟩:=h;cases rx;obtain⟨u,rfl,ru⟩:=rv.one;obtain⟨z,aa,n,r,hl,e⟩:=I.VF hH;refine call_meets F.slot_list_append ⟨_,e,rfl⟩ F.entry_list_append (F.args_list_append_2 _ _) (PySem.list_append l aa.toArray n u (by rw[zad];omega)) ⟨e,?_⟩;refine⟨.AJ,_,I.cJ (its':=aa++[u]) hH e (by simp) (r.append (.cons ru .nil)) ?_,rfl,q⟩;rw[zaj,zbf];omega
def jG:V->List V->Hp->VK->Prop:=λ x vs H Q=>∃l b xs zs,x=.ref l/\vs=[.ref b]/\H l=some (.lst xs)/\H b=some (.lst zs)/\xs.length+zs.length<=sizeLine/\Q .AJ (upd H l (.lst (xs++zs)))
theorem Yu:vJ X "list.extend" jG:=by
 intro pins s σ H x vs v us Q I rx rv h;obtain⟨l,b,xs,zs,rfl,rfl,hH,hB,hz,q⟩:=h;cases rx;obtain⟨u,rfl,ru⟩:=rv.one;cases ru;obtain⟨z,aa,n,r,hl,e⟩:=I.VF hH;obtain⟨z2,aI,n2,r2,aq,e2⟩:=I.VF hB;have hsz:aa.toArray.size+aI.toArray.size<=sizeLine:=by rw[zad,zad];omega
 have cb:¬ (!aa.toArray.isEmpty&&zd3 (aa.toArray.size+aI.toArray.size))=true:=by
  rw[Tv hsz,Bool.and_false];exact zaw
 refine call_meets F.slot_list_extend ⟨_,e,rfl⟩ F.entry_list_extend (F.args_list_extend_2 _ _)
  (AutoSeq1.list_extend_list_list_0 l aa.toArray n b aI.toArray n2 cb (by rw[zad];omega) (by omega)) ⟨e,e2,?_⟩
 refine⟨.AJ,_,I.cJ (its':=aa++aI) hH e (by simp) (r.append r2) ?_,rfl,q⟩;rw[zaj];omega
def zW:V->List V->Hp->VK->Prop:=λ x vs H Q=>∃l xs y,x=.ref l/\vs=[]/\H l=some (.lst xs)/\xs[xs.length-1]?=some y/\Q y (upd H l (.lst xs.dropLast))
theorem qP:vJ X "list.pop" zW:=by
 intro pins s σ H x vs v us Q I rx rv h;obtain⟨l,xs,y,rfl,rfl,hH,hy,q⟩:=h;cases rx;have v9:=rv.zero;subst v9;obtain⟨z,aa,n,r,hl,e⟩:=I.VF hH;obtain⟨u,hu,ru⟩:=r.get hy;have ee:aa.toArray[aa.toArray.size-1]?=some u:=by
  show aa.toArray[aa.length-1]?=some u;rw[<-Array.getElem?_toList,<-hl];exact hu
 refine call_meets F.slot_list_pop ⟨_,e,rfl⟩ F.entry_list_pop (F.args_list_pop_1 _) (MeetsSeq.list_pop_last l aa.toArray n u ee (by rw[zad];omega)) ⟨e,?_⟩;refine⟨y,_,I.cJ (its':=aa.dropLast) hH e ?_ r.dropLast ?_,ru,q⟩
 ·show aa.toArray.eraseIdxIfInBounds (aa.toArray.size-1)=aa.dropLast.toArray;rw[zad,List.eraseIdxIfInBounds_toArray,VE]
 ·rw[List.length_dropLast];omega
noncomputable def zX:R2:=λ x y H Q=>∃l k xs,x=.ref l/\y=.int k/\H l=some (.lst xs)/\-(2^63)<=k/\k<2^63/\xs.length*k.toNat<=sizeLine/\
 ∀p,H p=none->Q (.ref p) (upd H p (.lst (zak k.toNat xs).flatten))
theorem len_rep {α:Type}(xs:List α)(k:Nat):(zak k xs).flatten.length=k*xs.length:=by
 induction k with
 |zero=>simp
 |succ k ih=>rw[zc5,List.flatten_cons,zaj,ih,Nat.succ_mul,Nat.add_comm]
theorem qQ:G7 X (binaryOp .Mult) zX:=by
 intro pins s σ H x y v u Q I rx ry h;obtain⟨l,k,xs,rfl,rfl,hH,h1,h2,hz,q⟩:=h;cases rx;obtain⟨t,rfl⟩:=ry;obtain⟨z,aa,n,r,hl,e⟩:=I.VF hH;have hlen:aa.toArray.size*k.toNat<=sizeLine:=by rw[zad,<-hl];exact hz
 have n6:¬ aa.toArray.size*k.toNat > (2^63-1) / 8:=by
  have:(sizeLine:Nat)<=(2^63-1) / 8:=by decide
  omega
 have f8:¬ (!Builtin.List.listFitsIndex k)=true:=by
  rw[fitsIndex_both h1 h2];exact zaw
 have cb:¬ zd3 (aa.toArray.size*k.toNat)=true:=by
  rw[Tv hlen];exact zaw
 have aO:List.foldl (λ x1 x2=>x1++x2) #[] (zak (if aa.toArray.isEmpty=true then 0 else k.toNat) aa.toArray)=(zak k.toNat aa).flatten.toArray:=by
  have f0:∀m:Nat,List.foldl (λ x1 x2=>x1++x2) #[] (zak m aa.toArray)=(zak m aa).flatten.toArray:=λ m=>by
   have:=foldl_rep aa m [];rw[List.nil_append] at this;exact this
  rw[f0];cases aa with
  |nil=>simp
  |cons a r'=>rw[if_neg (by simp)]
 refine wpAny_binaryOp_repeat_ref (T := "list") (U := "int") (by decide) ⟨_,e,rfl⟩ (λ s'=>typeIs_int s' k t) noFill_list_mul F.fills_int_mul F.slot_int_rmul repeat_list F.slot_int_index.lookup
  (call_meets F.slot_int_rmul (typeIs_int s k t) F.entry_int_rmul (F.args_int_rmul_2 _ _) (int___rmul___int_list k t l aa.toArray n)
   ⟨e,rfl,⟨_,e,rfl⟩,call_meets F.slot_list_mul ⟨_,e,rfl⟩ F.entry_list_mul (F.args_list_mul_2 _ _) (AutoListH.list___mul___list_int_3 l aa.toArray n k t f8 n6 cb) ⟨e,?_⟩⟩)
 rw[aO];exact⟨.ref _,_,I.vK (t':=s.toks) (r.rep k.toNat) (by rw[len_rep,Nat.mul_comm];exact hz),rfl,q _ I.fresh⟩
end
end L2
namespace uh
open PySem PySem.W PySem.Calls PyProof.Rows
theorem N8 {P:Params}{h:Heap}:∀(ns:List Int) (vs:List Value),WellAll P h vs (ns.map WData.int)->IntsAre vs ns:=by
 intro ns;induction ns with
 |nil =>
  intro vs w;rw[zcy] at w;cases w;exact .nil
 |cons n ns ih =>
  intro vs w;rw[za5] at w;cases w with
  |cons a b =>
   cases a;exact .cons _ _ (ih _ b)
theorem Yv {l:OpenLaw}{n:Nat}(hn:l.most=some n){P:Params}{h:Heap}{args:List WData}{vals:List Value}
 (de:l.row.toRowW.claim.pre args=true) (lx:WellAll P h vals args):
 ∃a vs ns,vals=[zbm a]/\args=[WData.list (ns.map WData.int)]/\h.get? a=some {cls:=.type "list",data:=.seq vs.toArray}/\IntsAre vs ns/\ns.length<=n:=by
 have wa:WShape.hasAll [] args [.list .int]=true:=(pre_splitW de).1;have hc:l.pre.holds [] {args:=args}=true:=(pre_splitW de).2;obtain⟨d,r,rfl,h1,h2⟩:=hasAllW_cons wa;obtain rfl:=hasAllW_nil h2;obtain⟨xs,rfl,h3⟩:=hasW_list h1;obtain⟨ns,rfl⟩:=items_int h3;have hlen:ns.length<=n:=by
  unfold OpenLaw.pre at hc;have h4:(WTm.not (.lt (.lit (.int (n:Int))) (.len (.arg 0)))).holds [] {args:=[.list (ns.map .int)]}=true:=by
   have h4:=(holds_andW hc).1;rw[hn] at h4;exact h4
  have h5:=condW_of h4 (w_not (w_lt w_lit (w_len_list (w_arg rfl))));rw[za2] at h5;refine Nat.le_of_not_lt λ q=>?_;have q':(n:Int)<((ns.length:Nat):Int):=by omega
  first
   |(rw[decide_eq_true q'] at h5;exact absurd h5 (by decide))
   |(simp at h5;omega)
 cases lx with
 |cons w1 w2 =>
  cases w2;cases w1 with
  |list ho aF=>exact⟨_,_,ns,rfl,rfl,ho,N8 ns _ aF,hlen⟩
theorem Yw (l:OpenLaw)(args:List WData):l.row.toRowW.claim.post args (.bool true) args=true:=
 postW_of (r:=l.row.toRowW) (X:=(true==true))
  (show WShape.has [] (.bool true) .bool=true by first|rfl|decide|simp[WShape.has,WShape.arms,WShape.armsAll])
  (show (WTm.eq .res (.lit (.bool true))).value [] {args:=args,res:=some (.bool true),after:=args}=some (.bool (true==true)) from w_eq_bool (w_res rfl) w_lit) rfl
end uh
namespace L2
open PySem PySem.Spec PyProof.Rows
theorem QS:∀ {vs:List Value}{ns:List Int},IntsAre vs ns->Vals (ns.map V.int) vs
 |_,_,.nil=>.nil
 |_,_,.cons n t h=>.cons ⟨t,rfl⟩ (QS h)
def jH (H:Hp):Prop:=∀b,H b=none\/∃o xs,H b=some (.GD o (.lst xs))
theorem Tw {P:Program}{w:World}{K:za0}{mg mb:Str->Option Value}{CX:WZ}{k:Nat}{fa a:Addr}{fd:FuncData}{x:Str}{sp:Sp}{s₁:Shared}{vs:List Value}{ns:List Int}
 (KX:K.In s₁.heap) (i7:s₁.heap.Ns mainGlobals mg) (hb:s₁.heap.Ns builtinsNs mb) (wb:∀x:Str,x ≠ "__name__" -> mb x=bootBuiltins x) (n9:s₁.heap.NoLimit) (hg:s₁.gens=#[])
 (ha:s₁.heap.get? a=some {cls:=.type "list",data:=.seq vs.toArray}) (hi:IntsAre vs ns) (hl:ns.length<=sizeLine) (hr:BU k callerA)
 (F:∀base:Heap,K.In base->base.Ns mainGlobals mg->E7 P w K mg base CX k fa fd [x] sp) (i8:∀(s:Shared) (u:Value),BindsTo s fd ⟨[u],[]⟩ [(x,u)])
 (b6:∀H:Hp,jH H->CO K H a (ns.map V.int)->sp [.ref a] H (λ v _=>v=.bl true) λ _ _ _=>False)
 (i9:∀H e s',CX [] H s₁ (λ _ _ _=>False) e s'->False):
 codeAny (model P w) callerA (.call (.ref fa) ⟨[.ref a],[]⟩) (λ r s'=>r=.ok (.ret (.bool true))/\OldK s₁.heap s'.heap/\s'.os=s₁.os/\AllBare s'.gens) s₁:=by
 have rv:=QS hi;have oe:=hi.length;have core:∀H:Hp,jH H->CO K H a (ns.map V.int)->G4 P w H s₁.heap->(∀b,H b≠none->b=a)->(H a≠none->K.lookup a=none)->
  codeAny (model P w) callerA (.call (.ref fa) ⟨[.ref a],[]⟩) (λ r s'=>r=.ok (.ret (.bool true))/\OldK s₁.heap s'.heap/\s'.os=s₁.os/\AllBare s'.gens) s₁:=by
  intro H hO hS Aw hA hK;have bv:∀ {b:Addr} {o:Obj},s₁.heap.get? b=some o->H b=none->(RU s₁.heap H).get? b=some o:=λ e n=>ZS e n;have iz:∀ {b:Addr} {o:Obj} {es:Array DictEntry} {ep:Nat},s₁.heap.get? b=some o->o.data=.dict es ep->H b=none:=fun {b o es ep} e d=>by
   cases q:H b with
   |none=>rfl
   |some u =>
    have e':b=a:=hA b (by rw[q];simp);subst e';rw[ha] at e;cases e;have d':Data.seq vs.toArray _=Data.dict es ep:=d;cases d'
  have ly:∀ {b:Addr} {m:Str->Option Value},s₁.heap.Ns b m->(RU s₁.heap H).Ns b m:=fun {b m} ⟨o,es,ep,e,d,r⟩=>⟨o,es,ep,bv e (iz e d),d,r⟩;have ui:K.In (RU s₁.heap H):=λ b o e=>bv (KX b o e) (by
   cases q:H b with
   |none=>rfl
   |some u =>
    have e':b=a:=hA b (by rw[q];simp);subst e';rw[hK (by rw[q];simp)] at e;cases e)
  have hM:Mod K mg (RU s₁.heap H):=⟨ui,ly i7,⟨mb,ly hb,wb⟩,let ⟨mc,h1,h2⟩:=n9;⟨mc,ly h1,h2⟩⟩;have e0:VA P w K mg (RU s₁.heap H) callerA [] s₁ H:=⟨rfl,hM,λ b o e=>iJ e,Nat.le_of_eq (Yk _ _),trivial,λ b hb=>absurd (show b∈([]:List Addr) from hb) (by simp),Aw,.of_eq hg⟩;refine codeAny_mono ((F _ ui (ly i7)).run callerA [] s₁ H ⟨[.ref a],[]⟩ [.ref a] [.ref a] _ _ hr e0 (i8 s₁ (.ref a)) (.cons rfl .nil) (b6 H hO hS)) λ r s' h=>?_;cases r with
  |error e=>exact (i9 H e s' h).elim
  |ok fl =>
   cases fl with
   |next|brk|cont=>exact zcp h
   |ret u =>
    obtain⟨v,H',os,bare,un,f9,r',q⟩:=h;have q':v=.bl true:=q;subst q';obtain rfl:u=Value.bool true:=r';refine⟨rfl,OldK.of_keep λ b o e=>?_,os,bare⟩;cases q:H b with
    |none=>exact un.keep b o e q (by intro z;exact absurd (show b∈([]:List Addr) from z) (by simp)) (by simp)
    |some u =>
     rcases hO b with z|⟨ob,xs,z⟩
     ·rw[q] at z;cases z
     ·have z2:=un.N7 b ob _ z;obtain⟨e1,_⟩:=Aw b _ z;obtain⟨e2,_⟩:=f9 b _ z2;rw[e] at e1;cases e1;exact e2
 cases hk:K.lookup a with
 |some o =>
  have e:=KX a o hk;rw[ha] at e;cases e;refine core (λ _=>none) (λ _=>.inl rfl) (.inr ⟨_,vs.toArray,_,hk,rfl,rfl,rfl,by rw[zad,oe];exact hl,by simpa using rv⟩) (λ b u z=>by have z':(none:Option HO)=some u:=z;cases z') (λ b z=>absurd rfl z) λ z=>absurd rfl z
 |none =>
  refine core (λ b=>if b=a then some (.GD {cls:=.type "list",data:=.seq vs.toArray} (.lst (ns.map V.int))) else none) (λ b=>?_) (.inl (.inr ⟨{cls:=.type "list",data:=.seq vs.toArray},if_pos rfl⟩)) (λ b u z=>?_) (λ b z=>?_) λ _=>hk
  ·by_cases hb:b=a
   ·exact .inr ⟨_,_,if_pos hb⟩
   ·exact .inl (if_neg hb)
  ·by_cases hb:b=a
   ·have z':=(if_pos hb).symm.trans z;cases z';subst hb;exact⟨ha,by rw[za2];exact hl,vs,_,rv,ha⟩
   ·have z':=(if_neg hb).symm.trans z;cases z'
  ·by_cases hb:b=a
   ·exact hb
   ·exact absurd (if_neg hb) z
noncomputable abbrev jI:WZ:=λ _ _ _ _ _ _=>False
noncomputable abbrev E0:XK:=λ _ _ _=>False
structure ZO (K:za0)(x qual:Str)(st:Stmt)(f:Addr)(fd:FuncData):Prop where
 ex:∃(oc:Value) (od:Option Addr) (kV doc pm:Value) (an:Option Addr) (B5 ct:Value) (Vj:Array (Option Value)),
  fd=zbh x qual (Bx st) (AU st) (A8 st) .none kV doc pm an B5 ct/\K.lookup f=some ⟨oc,od,.func fd,Vj⟩/\zc3 K B5 qual=true
 kp:zbj K (.ref f)=true
section
variable {P:Program}{w:World}{K:za0}{mg:Str->Option Value}{base:Heap}
theorem ZO.ok {x qual:Str}{st:Stmt}{f:Addr}{fd:FuncData}{N ps:List Str}{k:Nat}{sp:Sp}(F:ZO K x qual st f fd)(S:Ai N ps (A8 st))(len:∀vs H Q E,sp vs H Q E->vs.length=ps.length)
 (bZ:∀(B5:Value) (A:Around) (outer:List Env) (s:Shared) (H:Hp) (vs:List V) (Q:VK) (E:XK),BU k (A.deeper (envOfC qual (A8 st) s.heap.objs.size f B5))->sp vs H Q E->
  ∃t,WV (Tp jI P w K mg base N qual (A8 st) f B5 A outer s H E).uP (AU st) t/\t {nx:=λ _ H'=>Q .AJ H',rt:=Q} (start N vs) H):E7 P w K mg base jI (k+1) f fd ps sp:=by
 obtain⟨oc,od,kV,doc,pm,an,B5,ct,Vj,rfl,lk,aT⟩:=F.ex;refine X2 lk aT S len λ A outer s H vs Q E hr b6=>?_;obtain⟨t,h,q⟩:=bZ B5 A outer s H vs Q E hr b6;exact⟨t,h.uP,q⟩
theorem ZO.binds {x qual:Str}{st:Stmt}{f:Addr}{fd:FuncData}{ps:List Str}(F:ZO K x qual st f fd)
 (h:∀(kV doc pm:Value) (an:Option Addr) (B5 ct:Value) (us:List Value),us.length=ps.length->bindArgs (zbh x qual (Bx st) (AU st) (A8 st) .none kV doc pm an B5 ct) ⟨us,[]⟩=pure (ps.zip us)):Binds K fd ps []:=by
 obtain⟨oc,od,kV,doc,pm,an,B5,ct,Vj,rfl,lk,aT⟩:=F.ex;exact .all (h kV doc pm an B5 ct)
theorem VG {x qual:Str}{st:Stmt}{f:Addr}{oc:Value}{od an:Option Addr}{Vj:Array (Option Value)}{kV doc pm B5 ct:Value}(l:K.lookup f=some ⟨oc,od,.func (zbh x qual (Bx st) (AU st) (A8 st) .none kV doc pm an B5 ct),Vj⟩)
 (c:zc3 K B5 qual=true) (k:zbj K (.ref f)=true):ZO K x qual st f (zbh x qual (Bx st) (AU st) (A8 st) .none kV doc pm an B5 ct):=⟨⟨oc,od,kV,doc,pm,an,B5,ct,Vj,rfl,l,c⟩,k⟩
end
theorem AG {n:Nat}(h:n<=1000):n<sizeLine:=Nat.lt_of_le_of_lt h (by decide)
section
variable {X:Cx}
theorem pv (i:Nat){x:Str}{pos:Pos}(hN:X.N[i]?=some x:=by rfl)(hv:yX X.env.scope x:=by first | exact zaz rfl | exact Or.inr (zaz rfl) | exact Or.inr (Or.inr rfl))(hd:(x==("__debug__" : Str))=false:=by decide)
 (aT:(x==("__classdict__" : Str))=false:=by decide):PE X (.Name x pos) (Tg i):=pF hN hv hd aT
end
def Ak (H H':Hp):Prop:=∀b o,H b=some o->H' b=some o
theorem Ak.refl (H:Hp):Ak H H:=λ _ _ h=>h
theorem Ak.trans {H H1 H2:Hp}(a:Ak H H1)(b:Ak H1 H2):Ak H H2:=λ c o h=>b c o (a c o h)
theorem Ak.seq {K:za0}{H H':Hp}{a:Addr}{xs:List V}(e:Ak H H')(h:CO K H a xs):CO K H' a xs:=by
 rcases h with (h|⟨o,h⟩)|h
 ·exact .inl (.inl (e _ _ h))
 ·exact .inl (.inr ⟨o,e _ _ h⟩)
 ·exact .inr h
section
variable {κ:Type} [DecidableEq κ]
noncomputable def Ql (kvs:List (κ×V))(k:κ):Option V:=(kvs.find? λ kv=>decide (kv.1=k)).map (·.2)
noncomputable def putK (kvs:List (κ×V))(k:κ)(v:V):List (κ×V):=
 if (kvs.any λ kv=>decide (kv.1=k))=true then kvs.map (λ kv=>if kv.1=k then (kv.1,v) else kv) else kvs++[(k,v)]
theorem O5 {p:κ×V}{r:List (κ×V)}{k:κ}(e:p.1=k):Ql (p::r) k=some p.2:=by simp[Ql,zd0,e]
theorem O6 {p:κ×V}{r:List (κ×V)}{k:κ}(e:¬ p.1=k):Ql (p::r) k=Ql r k:=by simp[Ql,zd0,e]
theorem Tx (k:κ):∀kvs:List (κ×V),(kvs.any λ kv=>decide (kv.1=k))=(Ql kvs k).isSome
 |[]=>rfl
 |p::r=>by
  rw[zd5];by_cases e:p.1=k
  ·simp only[O5 e,decide_eq_true e,Bool.true_or,Option.isSome_some]
  ·rw[O6 e,decide_eq_false e,Bool.false_or];exact Tx k r
theorem DM (kvs:List (κ×V))(k:κ)(v:V):(putK kvs k v).length<=kvs.length+1:=by
 unfold putK;split
 ·rw[za2];omega
 ·rw[zaj,za9,List.length_nil];omega
theorem GY.FD {o:Option V}{u:Option Value}(r:GY o u):o.isSome=u.isSome:=by
 cases o with
 |none=>cases u with
  |none=>rfl
  |some _=>exact (show False from r).elim
 |some _=>cases u with
  |none=>exact (show False from r).elim
  |some _=>rfl
theorem GY.getD {o:Option V}{u:Option Value}{d:V}{d':Value}(r:GY o u)(rd:RelV d d'):RelV (o.getD d) (u.getD d'):=by
 cases o with
 |none=>cases u with
  |none=>exact rd
  |some _=>exact (show False from r).elim
 |some _=>cases u with
  |none=>exact (show False from r).elim
  |some _=>exact r
theorem KV.val {kvs:List (κ×V)}{vs:List (κ×Value)}(r:KV kvs vs)(k:κ):GY (Ql kvs k) (valueAt vs k):=by
 unfold KV at r;induction r with
 |nil=>exact zcu
 | @cons p q ps qs h t ih =>
  obtain⟨h1,h2⟩:=h;by_cases e:p.1=k
  ·have e':q.1=k:=h1.symm.trans e;have b:valueAt (q::qs) k=some q.2:=by simp[valueAt,zd0,e']
   rw[O5 e,b];exact h2
  ·have e':¬ q.1=k:=λ z=>e (h1.trans z);have b:valueAt (q::qs) k=valueAt qs k:=by simp[valueAt,zd0,e']
   rw[O6 e,b];exact ih
theorem KV.any {kvs:List (κ×V)}{vs:List (κ×Value)}(r:KV kvs vs)(k:κ):(kvs.any λ kv=>decide (kv.1=k))=vs.any λ kv=>decide (kv.1=k):=by
 unfold KV at r;induction r with
 |nil=>rfl
 |cons h t ih=>rw[zd5,zd5,ih,h.1]
theorem KV.qR {kvs:List (κ×V)}{vs:List (κ×Value)}(r:KV kvs vs)(k:κ){y:V}{u:Value}(ry:RelV y u):
 KV (kvs.map λ kv=>if kv.1=k then (kv.1,y) else kv) (vs.map λ kv=>if kv.1=k then (kv.1,u) else kv):=by
 unfold KV at r ⊢;induction r with
 |nil=>exact .nil
 | @cons p q ps qs h t ih =>
  rw[za5,za5];refine .cons ?_ ih;obtain⟨h1,h2⟩:=h;by_cases e:p.1=k
  ·rw[if_pos e,if_pos (h1.symm.trans e)];exact⟨h1,ry⟩
  ·rw[if_neg e,if_neg (λ z=>e (h1.trans z))];exact⟨h1,h2⟩
theorem KV.put {kvs:List (κ×V)}{vs:List (κ×Value)}(r:KV kvs vs)(k:κ){y:V}{u:Value}(ry:RelV y u):KV (putK kvs k y) (stored vs k u):=by
 unfold putK stored;rw[r.any k];by_cases e:(vs.any λ kv=>decide (kv.1=k))=true
 ·rw[if_pos e,if_pos e];exact r.qR k ry
 ·rw[if_neg e,if_neg e];exact Paired.snoc r ⟨rfl,ry⟩
theorem KV.length {kvs:List (κ×V)}{vs:List (κ×Value)}(r:KV kvs vs):kvs.length=vs.length:=zcx r
end
theorem MC {P:Program}{w:World}{k:Key}{u:Value}(r:RelV (kV k) u):(AR P w).is k u=true:=by
 cases k with
 |inl i=>obtain⟨t,e⟩:=(show ∃t,u=Value.int i t from r);subst e;exact Tc P w i t
 |inr x=>obtain⟨t,e⟩:=(show ∃t,u=Value.str x t from r);subst e;exact Td P w x t
theorem QT {P:Program}{w:World}:∀ {ks:List Key}{us:List Value},Vals (ks.map kV) us->ItemsAre (AR P w) ks us
 |[],_,r=>by rw[zcy] at r;cases r;exact .nil
 |k::ks,_,r=>by
  rw[za5] at r;cases r with
  |cons h t=>exact .cons (MC h) (QT t)
noncomputable abbrev KT (H:Hp):List (List Key×V)->List (List Key×Addr×Value)->Prop:=Paired λ p q=>p.1=q.1/\H q.2.1=some (.tup (p.1.map kV))/\RelV p.2 q.2.2
theorem KT.val {H:Hp}{kvs:List (List Key×V)}{xs:List (List Key×Addr×Value)}(r:KT H kvs xs)(k:List Key):GY (Ql kvs k) ((atKey xs k).map (·.2)):=by
 induction r with
 |nil=>exact zcu
 | @cons p q ps qs h t ih =>
  obtain⟨h1,_,h2⟩:=h;by_cases e:p.1=k
  ·have e':q.1=k:=h1.symm.trans e;have b:atKey (q::qs) k=some q.2:=by simp[atKey,zd0,e']
   rw[O5 e,b];exact h2
  ·have e':¬ q.1=k:=λ z=>e (h1.trans z);have b:atKey (q::qs) k=atKey qs k:=by simp[atKey,zd0,e']
   rw[O6 e,b];exact ih
theorem KT.qR {H:Hp}{kvs:List (List Key×V)}{xs:List (List Key×Addr×Value)}(r:KT H kvs xs)(k:List Key){y:V}{u:Value}(ry:RelV y u):
 KT H (kvs.map λ kv=>if kv.1=k then (kv.1,y) else kv) (xs.map (putAt k u)):=by
 induction r with
 |nil=>exact .nil
 | @cons p q ps qs h t ih =>
  rw[za5,za5];refine .cons ?_ ih;obtain⟨h1,h2,h3⟩:=h;unfold putAt;by_cases e:p.1=k
  ·rw[if_pos e,if_pos (h1.symm.trans e)];exact⟨h1,h2,ry⟩
  ·rw[if_neg e,if_neg (λ z=>e (h1.trans z))];exact⟨h1,h2,h3⟩
theorem KT.put {H:Hp}{kvs:List (List Key×V)}{xs:List (List Key×Addr×Value)}(r:KT H kvs xs)(k:List Key){b:Addr}{y:V}{u:Value}(hb:H b=some (.tup (k.map kV)))(ry:RelV y u):
 KT H (putK kvs k y) (storedH xs k b u):=by
 have e:(kvs.any λ kv=>decide (kv.1=k))=(atKey xs k).isSome:=by
  rw[Tx,(r.val k).FD,Option.isSome_map]
 unfold putK storedH;rw[e];by_cases q:(atKey xs k).isSome=true
 ·rw[if_pos q,if_pos q];exact r.qR k ry
 ·rw[if_neg q,if_neg q];exact Paired.snoc r ⟨rfl,hb,ry⟩
theorem KT.keeps {H H':Hp}{kvs:List (List Key×V)}{xs:List (List Key×Addr×Value)}(r:KT H kvs xs)(ht:∀b ys,H b=some (.tup ys)->H' b=some (.tup ys)):KT H' kvs xs:=
 Paired.pB r λ _ _ z=>⟨z.1,ht _ _ z.2.1,z.2.2⟩
section
variable {P:Program}{w:World}{H:Hp}{h:Heap}{a:Addr}
theorem nN {u:HO}(ok:G4 P w H h)(e:Rd H a u):Bl P w H h a u:=e.ok ok
theorem K6 {kvs:List (Key×V)}(ok:G4 P w H h)(e:Rd H a (.dK kvs)):kvs.length<=sizeLine/\(a==sysModules)=false/\∃vs,KV kvs vs/\h.DictOf (AR P w) a vs:=
 show Bl P w H h a (.dK kvs) from nN ok e
theorem nO {kvs:List (Key×V)}(ok:G4 P w H h)(e:H a=some (.dK kvs)):kvs.length<=sizeLine/\(a==sysModules)=false/\∃vs,KV kvs vs/\h.DictOf (AR P w) a vs:=K6 ok (.inl e)
theorem Jx {ks:List Key}(ok:G4 P w H h)(e:H a=some (.tup (ks.map kV))):(tupleKind (AR P w)).is h ks a:=by
 obtain⟨_,aa,r,o,h1,h2,n,h3⟩:=(show Bl P w H h a (.tup (ks.map kV)) from ok a _ e);exact⟨o,aa.toArray,n,h1,h2,h3,by simpa using QT r⟩
theorem O7 {kvs:List (List Key×V)}(ok:G4 P w H h)(e:Rd H a (.dT kvs)):kvs.length<=sizeLine/\(a==sysModules)=false/\
 ∃xs,KT H kvs xs/\h.DictOfH (tupleKind (AR P w)) a xs:=by
 obtain⟨z,y,xs,r,o,es,ep,h1,h2,h3,h4,h5⟩:=(show Bl P w H h a (.dT kvs) from nN ok e);refine⟨z,y,xs,r,o,es,ep,h1,h2,h3,h4,λ x hx=>?_,h5⟩;have all:∀ {l:List (List Key×V)} {m:List (List Key×Addr×Value)},KT H l m->∀x∈m,(tupleKind (AR P w)).is h x.1 x.2.1:=by
  intro l m q;induction q with
  |nil=>intro x hx;exact nomatch hx
  | @cons p q ps qs hq t ih =>
   intro x hx;rcases zaa.mp hx with e|hx
   ·subst e;exact Jx ok (by rw[<-hq.1];exact hq.2.1)
   ·exact ih x hx
 exact all r x hx
theorem vL {kvs:List (List Key×V)}(ok:G4 P w H h)(e:H a=some (.dT kvs)):kvs.length<=sizeLine/\(a==sysModules)=false/\
 ∃xs,KT H kvs xs/\h.DictOfH (tupleKind (AR P w)) a xs:=O7 ok (.inl e)
end
def S2 (H:Hp)(a:Addr)(y:V)(r:Option V):Prop:=
 (∃kvs k,Rd H a (.dK kvs)/\y=kV k/\r=Ql kvs k)\/∃kvs k b,Rd H a (.dT kvs)/\y=.ref b/\H b=some (.tup (k.map kV))/\r=Ql kvs k
def vM (H:Hp)(a:Addr)(y v:V)(H':Hp):Prop:=
 (∃kvs k,H a=some (.dK kvs)/\y=kV k/\kvs.length<sizeLine/\H'=upd H a (.dK (putK kvs k v))) \/
 ∃kvs k b,H a=some (.dT kvs)/\y=.ref b/\H b=some (.tup (k.map kV))/\kvs.length<sizeLine/\H'=upd H a (.dT (putK kvs k v))
section
variable {X:Cx}{pins:List (Addr×Obj)}{σ:St}{H:Hp}{s:Shared}{a:Addr}{y v:V}{u r:Value}{o:Option V}{A:Around}{E:Value->Shared->Prop}
theorem Inv.big (I:Inv X pins σ H s):sysModules<s.heap.objs.size:=by
 have h:mainGlobals<s.heap.objs.size:=(I.mod.glob.keeps I.bk).lt;exact Nat.lt_trans (by decide) h
theorem Yx {Q:Value->Shared->Prop}(hu:A.units+1<cLine)(I:Inv X pins σ H s)(g:S2 H a y (some v))(ry:RelV y u)(h:∀w' s',Inv X pins σ H s'->RelV v w'->Q w' s'):
 wpAny (model X.prog X.w) A (getItem (.ref a) u) Q E s:=by
 rcases g with ⟨kvs,k,e,ey,l⟩|⟨kvs,k,b,e,ey,eb,l⟩
 ·subst ey;obtain⟨z,hd,vs,rel,dd⟩:=K6 I.Aw e;obtain⟨w',hw,aX⟩:=GY.some_of (v:=v) (o:=valueAt vs k) (by rw[l];exact rel.val k);exact wpAny_getItem_of (MC ry) dd.mapOf hw (h w' _ (I.tok _) aX)
 ·subst ey;cases (show u=zbm b from ry);obtain⟨z,hd,xs,rel,dd⟩:=O7 I.Aw e;obtain⟨w',hw,aX⟩:=GY.some_of (v:=v) (o:=(atKey xs k).map (·.2)) (by rw[l];exact rel.val k);obtain⟨p,hp,wc⟩:=Option.map_eq_some_iff.mp hw;refine wpAny_getItem_heap (tupleKind_room_in1 hu) (Jx I.Aw eb) dd hp ?_;rw[wc];exact h w' _ (I.tok _) aX
theorem zY {Q:Value->Shared->Prop}(hu:A.units+1<cLine)(I:Inv X pins σ H s)(g:S2 H a y o)(ry:RelV y u)(h:∀s',Inv X pins σ H s'->Q (.bool o.isSome) s'):
 wpAny (model X.prog X.w) A (compareOp .In u (.ref a)) Q E s:=by
 rcases g with ⟨kvs,k,e,ey,l⟩|⟨kvs,k,b,e,ey,eb,l⟩
 ·subst ey;obtain⟨z,hd,vs,rel,dd⟩:=K6 I.Aw e;refine wpAny_in_of (MC ry) hd dd.mapOf ?_;rw[<-(rel.val k).FD,<-l];exact h _ (I.tok _)
 ·subst ey;cases (show u=zbm b from ry);obtain⟨z,hd,xs,rel,dd⟩:=O7 I.Aw e;refine wpAny_in_heap (tupleKind_room_in1 hu) (Jx I.Aw eb) hd dd ?_;have q:=(rel.val k).FD;rw[Option.isSome_map] at q;rw[<-q,<-l];exact h _ (I.tok _)
theorem jJ {Q:Value->Shared->Prop}(hu:A.units+1<cLine)(I:Inv X pins σ H s)(g:S2 H a y o)(ry:RelV y u)(h:∀s',Inv X pins σ H s'->Q (.bool (!o.isSome)) s'):
 wpAny (model X.prog X.w) A (compareOp .NotIn u (.ref a)) Q E s:=by
 rcases g with ⟨kvs,k,e,ey,l⟩|⟨kvs,k,b,e,ey,eb,l⟩
 ·subst ey;obtain⟨z,hd,vs,rel,dd⟩:=K6 I.Aw e;refine wpAny_notIn_of (MC ry) hd dd.mapOf ?_;rw[<-(rel.val k).FD,<-l];exact h _ (I.tok _)
 ·subst ey;cases (show u=zbm b from ry);obtain⟨z,hd,xs,rel,dd⟩:=O7 I.Aw e;refine wpAny_notIn_heap (tupleKind_room_in1 hu) (Jx I.Aw eb) hd dd ?_;have q:=(rel.val k).FD;rw[Option.isSome_map] at q;rw[<-q,<-l];exact h _ (I.tok _)
theorem S3 {h':Heap}{t':Nat}{ob:HO}(I:Inv X pins σ H s)(mu:uH (H a))(hs:zd1 a s.heap h')(he:∃q,h'.get? a=some q)(new:Bl X.prog X.w (upd H a ob) h' a ob):
 Inv X pins σ (upd H a ob) {s with heap:=h',toks:=t' }:=
 I.write (x:=a) (e:=a) mu (.inl rfl) (λ b q hb z=>(hs.2 b hb).trans z) he new
theorem cK {P:Program}{w:World}{H':Hp}{h':Heap}{kvs:List (Key×V)}{vs:List (Key×Value)}(z:kvs.length<=sizeLine)(hd:(a==sysModules)=false)(rel:KV kvs vs)(dd:h'.DictOf (AR P w) a vs):
 Bl P w H' h' a (.dK kvs):=⟨z,hd,vs,rel,dd⟩
theorem Yy {H':Hp}{Q:Unit->Shared->Prop}(hu:A.units+1<cLine)(I:Inv X pins σ H s)(g:vM H a y v H')(ry:RelV y u)(rv:RelV v r)(h:∀s',Inv X pins σ H' s'->Q () s'):
 wpAny (model X.prog X.w) A (setItem (.ref a) u r) Q E s:=by
 rcases g with ⟨kvs,k,e,ey,l,eH⟩|⟨kvs,k,b,e,ey,eb,l,eH⟩
 ·subst ey eH;obtain⟨z,hd,vs,rel,dd⟩:=nO I.Aw e;have hz:vs.length<=sizeLine:=by rw[<-rel.length];exact z
  have hl:(putK kvs k v).length<=sizeLine:=by have:=DM kvs k v;omega
  refine wpAny_setItem_pairs (hsz:=hz) (MC ry) dd λ h' ga hs=>h _ ?_;have he:∃q,h'.get? a=some q:=let ⟨q,_,_,hq,_⟩:=ga;⟨q,hq⟩;exact S3 I (by rw[e];exact zcu) hs he (cK hl hd (rel.put k rv) ga)
 ·subst ey eH;cases (show u=zbm b from ry);obtain⟨z,hd,xs,rel,dd⟩:=vL I.Aw e;have hz:xs.length<=sizeLine:=by rw[<-zcx rel];exact z
  have hl:(putK kvs k v).length<=sizeLine:=by have:=DM kvs k v;omega
  refine wpAny_setItem_heap (hsz:=hz) (tupleKind_room_in1 hu) (Jx I.Aw eb) dd λ h' ga hs=>h _ ?_;obtain⟨q,es,ep,hq,h2,h3,h4,_,h5⟩:=ga;refine S3 I (by rw[e];exact zcu) hs ⟨q,hq⟩ ⟨hl,hd,_,(rel.put k eb rv).keeps λ c ys ec=>?_,q,es,ep,hq,h2,h3,h4,h5⟩;rw[Ah (uG ec e (λ z=>nomatch z))];exact ec
end
theorem Tz {X:Cx}{pins:List (Addr×Obj)}{σ:St}{H:Hp}{s:Shared}{a:Addr}{y:V}{o:Option V}(I:Inv X pins σ H s)(g:S2 H a y o):s.TypeIs (.ref a) "dict" := by
 rcases g with ⟨kvs,k,e,_,_⟩|⟨kvs,k,b,e,_,_,_⟩
 ·obtain⟨_,_,vs,_,dd⟩:=K6 I.Aw e;exact dd.typeIs
 ·obtain⟨_,_,xs,_,dd⟩:=O7 I.Aw e;exact dd.typeIs
noncomputable def vN (td ty tv:TE):TS:=λ D σ H=>tv σ H λ v H1=>td σ H1 λ x H2=>ty σ H2 λ y H3=>∃a H4,x=.ref a/\vM H3 a y v H4/\D.nx σ H4
section
variable {X:Cx}{o i e value:Expr}{pos pos' a9:Pos}{td ty tv:TE}
theorem jK (hu:X.A.units+1<cLine)(ho:PE X o td)(hi:PE X i ty)(hv:PE X value tv)(hs:swapsWith value (some (.Subscript o i pos')) pos.line X.env=pure false):
 PS X (.Assign [.Subscript o i pos'] value pos) (vN td ty tv):=by
 intro pins s σ H D I h;refine wpAny_Assign_Subscript (Bh (hv pins s σ H _ I h) λ r s1 ⟨v,H1,I1,rv,q1⟩=>Bh (ho pins s1 σ H1 _ I1 q1) λ u s2 ⟨x,H2,I2,rx,q2⟩=>Bh (hi pins s2 σ H2 _ I2 q2) λ iv s3 zz=>?_) hs;obtain⟨y,H3,I3,ry,a,H4,ex,g,q3⟩:=zz;subst ex;obtain rfl:u=zbm a:=rx;exact Yy hu I3 g ry rv λ s4 I4=>⟨σ,H4,I4,q3⟩
end
theorem TB {P:Program}{w:World}{H:Hp}(h:Heap)(hb:sysModules<h.objs.size):Bl P w H (h.push {cls:=.type "dict",data:=.dict #[]}) h.objs.size (.dK []):=
 ⟨zbc _,beq_eq_false_iff_ne.mpr (zbi (zar hb)),[],.nil,Heap.DictOf.new h⟩
theorem cL {P:Program}{w:World}{H:Hp}(h:Heap)(hb:sysModules<h.objs.size):Bl P w H (h.push {cls:=.type "dict",data:=.dict #[]}) h.objs.size (.dT []):=
 ⟨zbc _,beq_eq_false_iff_ne.mpr (zbi (zar hb)),[],.nil,_,#[],0,zap _ rfl,⟨rfl,rfl,rfl⟩,rfl,rfl,zbz⟩
noncomputable def qS:TE:=λ _ H Q=>∀p,H p=none->Q (.ref p) (upd H p (.dK []))
noncomputable def qT:TE:=λ _ H Q=>∀p,H p=none->Q (.ref p) (upd H p (.dT []))
section
variable {X:Cx}{pos:Pos}
theorem cM:PE X (.Dict [] [] pos) qS:=λ pins s σ H Q I h =>
 wpAny_Dict_empty ⟨.ref s.heap.objs.size,_,I.laid (a:=s.heap.objs.size) (o:=.dK []) (t':=s.toks) (λ _ _ q=>zab _ q) (zag _) (TB s.heap I.big),rfl,h _ (I.Aw.fresh (zag _))⟩
theorem cN:PE X (.Dict [] [] pos) qT:=λ pins s σ H Q I h =>
 wpAny_Dict_empty ⟨.ref s.heap.objs.size,_,I.laid (a:=s.heap.objs.size) (o:=.dT []) (t':=s.toks) (λ _ _ q=>zab _ q) (zag _) (cL s.heap I.big),rfl,h _ (I.Aw.fresh (zag _))⟩
end
def VH:List (TE×TE)->St->Hp->(List (V×V)->Hp->Prop)->Prop
 |[],_,H,Q=>Q [] H
 |(tk,tv)::r,σ,H,Q=>tk σ H λ x H1=>tv σ H1 λ y H2=>VH r σ H2 λ ps H3=>Q ((x,y)::ps) H3
noncomputable abbrev VV:List (V×V)->List (Value×Value)->Prop:=Paired λ p q=>RelV p.1 q.1/\RelV p.2 q.2
def yF (X:Cx)(pos:Pos)(keys:List (Option Expr))(values:List Expr)(df:List (TE×TE)):Prop:=
 ∀(pins:List (Addr×Obj)) (s:Shared) (σ:St) (H:Hp) (Q:List (V×V)->Hp->Prop),Inv X pins σ H s->VH df σ H Q->
  wpAny (model X.prog X.w) X.A (evalPairs (pairTrees keys values X.env pos)) (λ vs s'=>∃ps H',Inv X pins σ H' s'/\VV ps vs/\Q ps H') X.xe s
theorem jL {X:Cx}{pos:Pos}:yF X pos [] [] []:=λ pins s σ H Q I h=>pairTrees_nil_walk ⟨[],H,I,.nil,h⟩
theorem cO {X:Cx}{pos:Pos}{k v:Expr}{ks:List (Option Expr)}{vs:List Expr}{tk tv:TE}{df:List (TE×TE)}(hk:PE X k tk)(hv:PE X v tv)(hr:yF X pos ks vs df):
 yF X pos (some k::ks) (v::vs) ((tk,tv)::df):=λ pins s σ H Q I h =>
 pairTrees_cons_walk (Bh (hk pins s σ H _ I h) λ u s1 ⟨x,H1,I1,rx,q1⟩=>Bh (hv pins s1 σ H1 _ I1 q1) λ w2 s2 ⟨y,H2,I2,ry,q2⟩ =>
  Bh (hr pins s2 σ H2 _ I2 q2) λ ws s3 ⟨ps,H3,I3,rel,q3⟩=>⟨(x,y)::ps,H3,I3,.cons ⟨rx,ry⟩ rel,q3⟩)
noncomputable def Hg (kvs more:List (Key×V)):List (Key×V):=more.foldl (λ acc kv=>putK acc kv.1 kv.2) kvs
theorem KV.merge:∀ {more:List (Key×V)}{rs:List (Key×Value)}{kvs:List (Key×V)}{vs:List (Key×Value)},KV more rs->KV kvs vs->KV (Hg kvs more) (merged vs rs):=by
 intro more rs kvs vs r;unfold KV at r;induction r generalizing kvs vs with
 |nil=>intro q;exact q
 | @cons p q ps qs h t ih =>
  intro r0;have e:KV (putK kvs p.1 p.2) (stored vs q.1 q.2):=by
   have:=r0.put p.1 h.2;rw[<-h.1];exact this
  exact ih e
theorem J6:∀(more kvs:List (Key×V)),(Hg kvs more).length<=kvs.length+more.length
 |[],kvs=>by show kvs.length<=kvs.length+0;omega
 |p::r,kvs=>by
  have h1:=J6 r (putK kvs p.1 p.2);have h2:=DM kvs p.1 p.2;show (Hg (putK kvs p.1 p.2) r).length<=_;rw[za9];omega
theorem O8 {P:Program}{w:World}:∀ {kvs:List (Key×V)}{ws:List (Value×Value)},VV (kvs.map λ kv=>(kV kv.1,kv.2)) ws->∃rs,Carries (AR P w) ws rs/\KV kvs rs
 |[],_,r=>by rw[zcy] at r;cases r;exact⟨[],zcu,.nil⟩
 |p::kvs,_,r=>by
  rw[za5] at r;cases r with
  | @cons a b as bs h t =>
   obtain⟨rs,c,q⟩:=O8 (P:=P) (w:=w) t;obtain⟨b1,b2⟩:=b;exact⟨(p.1,b2)::rs,⟨MC h.1,rfl,c⟩,.cons ⟨rfl,h.2⟩ q⟩
noncomputable def vP (df:List (TE×TE)):TE:=λ σ H Q=>∀p,H p=none->VH df σ (upd H p (.dK [])) λ ps H2=>H2 p=some (.dK [])/\∃kvs:List (Key×V),ps=kvs.map (λ kv=>(kV kv.1,kv.2))/\kvs.length<=15/\Q (.ref p) (upd H2 p (.dK (Hg [] kvs)))
theorem jM {X:Cx}{pos:Pos}{keys:List (Option Expr)}{values:List Expr}{df:List (TE×TE)}(h:yF X pos keys values df)(aF:keys.all (·.isSome)=true)(hl:keys.length=values.length)(h0:keys≠[])
 (we:keys.length<=15):PE X (.Dict keys values pos) (vP df):=by
 intro pins s σ H Q I q;have hn:=I.Aw.fresh (zag s.heap.objs.size);have I1:=I.laid (a:=s.heap.objs.size) (o:=.dK []) (h':=s.heap.push {cls:=.type "dict",data:=.dict #[]}) (t':=s.toks) (λ _ _ q=>zab _ q) (zag _) (TB s.heap I.big);refine wpAny_Dict_walk (knd:=AR X.prog X.w) aF hl h0 we (Bh (h pins _ σ _ _ I1 (q _ hn)) λ ws s2 zz=>?_);obtain⟨ps,H2,I2,rel,e,kvs,ep,lk,q2⟩:=zz;subst ep;obtain⟨rs,c,rk⟩:=O8 (P:=X.prog) (w:=X.w) rel;obtain⟨z,hd,uj,r0,dd⟩:=nO I2.Aw e;cases r0;refine⟨rs,c,dd,λ h' ga hs=>⟨.ref s.heap.objs.size,_,?_,rfl,q2⟩⟩;have hz:(Hg [] kvs).length<=sizeLine:=by
  have h1:=J6 kvs [];rw[List.length_nil] at h1;rw[sizeLine_eq];omega
 have he:∃q,h'.get? s.heap.objs.size=some q:=let ⟨q,_,_,hq,_⟩:=ga;⟨q,hq⟩;exact S3 I2 (by rw[e];exact zcu) hs he (cK hz hd (rk.merge .nil) ga)
structure M1 (X:Cx)(o:Expr)(m:Str)(apos:Pos)(e:Expr)(ac:Pos):Prop where
 base:attributeBase o m X.env (eval o X.env)=eval o X.env
 few:((backTo ac (starEach [e] X.env)).all (λ x => !x.1)&&(backToKw ac (keywordEach [] X.env)).all (λ x=>x.1.isSome)
  && decide (([e]:List Expr).length+([]:List Keyword).length+(if ([]:List Keyword).isEmpty then 0 else 1)<30))=true
 line:(apos.endLine==ac.line)=true
 vQ:backTo ac (starEach [e] X.env)=[(false,eval e X.env)]
def zZ (H:Hp)(a:Addr):Prop:=(∃kvs,Rd H a (.dK kvs))\/∃kvs,Rd H a (.dT kvs)
theorem VI {X:Cx}{pins:List (Addr×Obj)}{σ:St}{H:Hp}{s:Shared}{a:Addr}(I:Inv X pins σ H s)(d:zZ H a):
 s.TypeIs (.ref a) "dict" /\ (∀b,zbm a=.ref b->∃ob,s.heap.get? b=some ob/\ob.dict=none)/\(a==sysModules)=false:=by
 rcases d with ⟨kvs,e⟩|⟨kvs,e⟩
 ·obtain⟨_,hd,vs,_,dd⟩:=K6 I.Aw e;refine⟨dd.typeIs,λ b q=>?_,hd⟩;cases q;obtain⟨ob,_,_,h1,h2,_⟩:=dd;exact⟨ob,h1,h2.2.1⟩
 ·obtain⟨_,hd,xs,_,dd⟩:=O7 I.Aw e;refine⟨dd.typeIs,λ b q=>?_,hd⟩;cases q;obtain⟨ob,_,_,h1,h2,_⟩:=dd;exact⟨ob,h1,h2.2.1⟩
section
variable {X:Cx}{pins:List (Addr×Obj)}{σ:St}{H:Hp}{s:Shared}{a:Addr}{y d:V}{u r:Value}{o:Option V}{A:Around}{E:Value->Shared->Prop}
theorem qU {Q:Value->Shared->Prop}(hu:A.units+1<cLine)(I:Inv X pins σ H s)(g:S2 H a y o)(ry:RelV y u)(h:∀w' s',Inv X pins σ H s'->RelV (o.getD .AJ) w'->Q w' s'):
 wpAny (model X.prog X.w) A (call (.builtin "dict.get") [.ref a,u]) Q E s:=by
 rcases g with ⟨kvs,k,e,ey,l⟩|⟨kvs,k,b,e,ey,eb,l⟩
 ·subst ey;obtain⟨z,hd,vs,rel,dd⟩:=K6 I.Aw e;refine call_meetsIn PySem.F.slot_dict_get dd.typeIs PySem.F.entry_dict_get (PySem.F.args_dict_get_2 _ _) (meets_dict_get (AR X.prog X.w) a (MC ry) hd) ⟨_,dd.mapOf,h _ _ (I.tok _) ?_⟩;rw[l];exact (rel.val k).getD rfl
 ·subst ey;cases (show u=zbm b from ry);obtain⟨z,hd,xs,rel,dd⟩:=O7 I.Aw e;refine call_meetsIn PySem.F.slot_dict_get dd.typeIs PySem.F.entry_dict_get (PySem.F.args_dict_get_2 _ _) (meetsH_dict_get (tupleKind (AR X.prog X.w)) a b hd) ⟨tupleKind_room_in1 hu,k,xs,Jx I.Aw eb,dd,h _ _ (I.tok _) ?_⟩;rw[l];exact (rel.val k).getD rfl
end
noncomputable def qV (td ty:TE):TE:=λ σ H Q=>td σ H λ x H1=>∃a,x=.ref a/\zZ H1 a/\ty σ H1 λ y H2=>∃o,S2 H2 a y o/\Q (o.getD .AJ) H2
section
variable {X:Cx}{o e f:Expr}{apos ac:Pos}{td ty tx:TE}
theorem cP (hu:X.A.units+1<cLine)(ho:PE X o td)(he:PE X e ty)(m:M1 X o "get" apos e ac):PE X (.Call (.Attribute o "get" apos) [e] [] ac) (qV td ty):=by
 intro pins s σ H Q I h;refine wpAny_Call_method m.base m.few m.line PySem.F.plainAttrs_dict PySem.F.slot_dict_get PySem.F.type_dict_get (Bh (ho pins s σ H _ I h) λ u s1 zz=>?_);obtain⟨x,H1,I1,rx,a,ex,d,q1⟩:=zz;subst ex;obtain rfl:u=zbm a:=rx;obtain⟨t1,t2,_⟩:=VI I1 d;refine⟨t1,t2,?_⟩;rw[m.vQ];refine Calls.callWith_builtin rfl (Calls.evalArgs_plain (zcj (Bh (he pins s1 σ H1 _ I1 q1) λ iv s2 ⟨y,H2,I2,ry,ov,g,q2⟩=>zcq ?_)));exact qU hu I2 g ry λ w' s3 I3 aX=>⟨_,H2,I3,aX,q2⟩
end
noncomputable def X6 (y:Str×NameKind):Bool:=y.2==.cell
noncomputable def GZ (sc outer:Scope):Bool:=
 decide (sc.kind=.function)&&(decide ((sc.names.filter X6).length<=1)&&sc.names.all λ y=>(decide (y.2≠.cell)||decide (sc.names.lookup y.1=some .cell))&&(decide (y.2≠.free)||decide (outer.names.lookup y.1=some .cell)||decide (outer.names.lookup y.1=some .free))&&(decide (y.2≠.local)||decide (sc.names.lookup y.1=some .local)))
noncomputable def Hh (names:List (Str×NameKind)):Option Str:=(names.find? X6).map (·.1)
noncomputable def X7 (C:Addr)(names:List (Str×NameKind))(cs:List (Str×Addr)):List (Str×Addr):=match Hh names with
 |some x=>(x,C+1)::cs
 |none=>cs
theorem TC {names:List (Str×NameKind)}{x:Str}(h:Hh names=some x):(x,.cell)∈names:=by
 unfold Hh at h;obtain⟨y,h1,rfl⟩:=Option.map_eq_some_iff.mp h;have h2:=List.find?_some h1;have e:y.2=.cell:=by unfold X6 at h2;simpa using h2
 have:=List.mem_of_find?_eq_some h1;rw[<-e];exact this
theorem qW {names:List (Str×NameKind)}(h:(names.filter X6).length<=1){x:Str}(hx:(x,.cell)∈names):Hh names=some x:=by
 induction names with
 |nil=>cases hx
 |cons y r ih =>
  unfold Hh;cases e:X6 y with
  |true =>
   rw[List.filter_cons_of_pos e,za9] at h;rw[List.find?_cons_of_pos e];rcases zaa.mp hx with rfl|hx
   ·rfl
   ·have:(x,NameKind.cell)∈r.filter X6:=zb2.mpr ⟨hx,rfl⟩;rw[List.eq_nil_of_length_eq_zero (l:=r.filter X6) (by omega)] at this;cases this
  |false =>
   rw[List.filter_cons_of_neg (by rw[e];exact zaw)] at h;rw[List.find?_cons_of_neg (by rw[e];exact zaw)];rcases zaa.mp hx with rfl|hx
   ·cases e
   ·exact ih h hx
theorem VJ:∀ {names:List (Str×NameKind)}{n:Nat}{acc:List (Str×Addr)},(names.filter X6).length<=1->cellsFrom n names acc=match Hh names with | some x=>(x,n)::acc | none=>acc
 |[],_,_,_=>rfl
 |(x,k)::r,n,acc,h=>by
  unfold cellsFrom Hh;cases e:X6 (x,k) with
  |true =>
   rw[List.filter_cons_of_pos e,za9] at h;rw[List.find?_cons_of_pos e,if_pos (show (k==NameKind.cell)=true from e),VJ (by omega)];cases q:Hh r with
   |none=>rfl
   |some y =>
    have:(y,NameKind.cell)∈r.filter X6:=zb2.mpr ⟨TC q,rfl⟩;rw[List.eq_nil_of_length_eq_zero (l:=r.filter X6) (by omega)] at this;cases this
  |false =>
   have e':¬ X6 (x,k)=true:=by rw[e];exact zaw
   rw[List.filter_cons_of_neg e'] at h;rw[List.find?_cons_of_neg e',if_neg (show ¬ (k==NameKind.cell)=true from e'),VJ h];rfl
noncomputable def Qm (N NB:List Str)(sc:Scope)(μ:List (Option Nat)):Bool:=
 decide (NB.length=μ.length)&&(NB.zip μ).all λ p=>match p.2 with
  |none=>true
  |some i=>decide (N[i]?=some p.1)&&decide (sc.names.lookup p.1=some .free)
noncomputable def Fn (μ:List (Option Nat))(σ:St):St:=μ.map λ o=>o.bind λ i=>(σ[i]?).join
noncomputable def G9 (cells:List (Str×Addr)):List (Str×NameKind)->List (Str×Addr)->List (Str×Addr)
 |[],cs=>cs
 |(n,k)::r,cs=>G9 cells r (if (k==.free)=true then (n,(cells.lookup n).getD 0)::cs else cs)
theorem J7 {scope:Scope}{env:Env}(h:∀y∈scope.names,y.2=.free->∃c,env.cells.lookup y.1=some c):closureFor scope env=pure (G9 env.cells scope.names []):=by
 unfold closureFor;have key:∀(names:List (Str×NameKind)) (cs:List (Str×Addr)),(∀y∈names,y.2=.free->∃c,env.cells.lookup y.1=some c)->
  (forIn names cs λ(x:Str×NameKind) r=>match x with
   |(name,kind)=>if (kind==zcw)=true then do
    let __do_lift <-cellOf env name
    pure (zdc ((name,__do_lift)::r))
    else pure (zdc r):Sem _)=pure (G9 env.cells names cs):=by
  intro names;induction names with
  |nil=>intro cs _;rfl
  |cons y r ih =>
   intro cs hy;obtain⟨n,k⟩:=y;rw[List.forIn_cons];by_cases hk:k=.free
   ·subst hk;obtain⟨c,hc⟩:=hy (n,.free) za3 rfl;have e:cellOf env n=pure c:=by unfold cellOf;rw[show env.cells.lookup n=some c from hc]
    simp only[e,beq_self_eq_true,if_true,pure_bind];rw[ih _ λ z hz=>hy z (za4 _ hz)];simp only[G9,beq_self_eq_true,if_true];rw[show env.cells.lookup n=some c from hc];rfl
   ·have hb:(k==zcw)=false:=by simpa using hk
    simp only[hb,zat,if_false,pure_bind];rw[ih _ λ z hz=>hy z (za4 _ hz)];simp only[G9,hb,zat,if_false]
 have q:=key scope.names [] h;simp only[bind_pure];exact q
theorem TF {cells:List (Str×Addr)}:∀ {names:List (Str×NameKind)}{cs:List (Str×Addr)}{x:Str}{c:Addr},(x,c)∈G9 cells names cs->(x,c)∈cs\/((x,.free)∈names/\c=(cells.lookup x).getD 0)
 |[],cs,x,c,h=>.inl h
 |(n,k)::r,cs,x,c,h=>by
  rcases TF (names:=r) h with q|⟨q,e⟩
  ·by_cases hk:k=.free
   ·subst hk;simp only[beq_self_eq_true,if_true] at q;rcases zaa.mp q with z|z
    ·cases z;exact .inr ⟨za3,rfl⟩
    ·exact .inl z
   ·have hb:(k==zcw)=false:=by simpa using hk
    simp only[hb,zat,if_false] at q;exact .inl q
  ·exact .inr ⟨za4 _ q,e⟩
theorem O9 {cells:List (Str×Addr)}:∀ {names:List (Str×NameKind)}{cs:List (Str×Addr)}{p:Str×Addr},p∈cs->p∈G9 cells names cs
 |[],_,_,h=>h
 |(n,k)::r,cs,p,h=>by
  show p∈G9 cells r _;refine O9 ?_;by_cases hk:(k==zcw)=true
  ·rw[if_pos hk];exact za4 _ h
  ·rw[if_neg hk];exact h
theorem Oa {cells:List (Str×Addr)}:∀ {names:List (Str×NameKind)}{cs:List (Str×Addr)}{x:Str},(x,.free)∈names->∃c,(x,c)∈G9 cells names cs
 |(n,k)::r,cs,x,h=>by
  rcases zaa.mp h with z|z
  ·cases z;refine⟨(cells.lookup n).getD 0,?_⟩;show _∈G9 cells r (if (zcw==zcw)=true then _ else _);exact O9 (by rw[if_pos (beq_self_eq_true _)];exact za3)
  ·exact Oa (names:=r) z
theorem DH {x:Str}{c:Addr}:∀ {l:List (Str×Addr)},(x,c)∈l->∃c',l.lookup x=some c'
 |(y,d)::r,h=>by
  rw[zc1];by_cases e:(x==y)=true
  ·rw[e];exact⟨d,rfl⟩
  ·rw[Bool.eq_false_iff.mpr e];rcases zaa.mp h with z|z
   ·cases z;exact absurd (beq_self_eq_true x) e
   ·exact DH z
theorem K7 {scope:Scope}{env:Env}{x:Str}{k:NameKind}(h:(relabel scope env).names.lookup x=some k):∃k',scope.names.lookup x=some k'/\(k=k'\/(k'=.free/\k=.cell)):=by
 unfold relabel at h;dsimp only at h;revert h;induction scope.names with
 |nil=>intro h;cases h
 |cons y r ih =>
  obtain⟨n,k'⟩:=y;intro h;rw[za5,zc1] at h;rw[zc1];by_cases hc:(k'==zcw&&env.scope.kind==.function&&env.kindOf n==some .cell)=true
  ·dsimp only at h;rw[if_pos hc] at h;dsimp only at h;cases e:x==n with
   |true =>
    rw[e] at h;have hf:k'=.free:=by
     have:=hc;simp only[zb5] at this;simpa using this.1.1
    exact⟨k',rfl,.inr ⟨hf,(zas h).symm⟩⟩
   |false=>rw[e] at h;exact ih h
  ·dsimp only at h;rw[if_neg hc] at h;dsimp only at h;cases e:x==n with
   |true=>rw[e] at h;exact⟨k',rfl,.inl (zas h).symm⟩
   |false=>rw[e] at h;exact ih h
theorem lookup_mem {α:Type}{x:Str}{k:α}:∀ {l:List (Str×α)},l.lookup x=some k->(x,k)∈l
 |(y,d)::r,h=>by
  rw[zc1] at h;cases e:x==y with
  |true =>
   rw[e] at h;cases h;have:x=y:=by simpa using e
   subst this;exact za3
  |false=>rw[e] at h;exact za4 _ (lookup_mem h)
noncomputable def blockOf (X:Cx)(s:Shared)(H:Hp)(scope:Scope)(C:Addr)(NB:List Str)(ex:List Addr):Cx:=
 {X with N:=NB,s₀:=s,H₀:=H,env:=compEnvC scope (X7 C scope.names (G9 X.env.cells scope.names [])) C X.env,outer:=X.stack,stack:=X.stack,ex:=ex,fn:=λ y=>Hh scope.names==some y,pn:=[],xe:=λ _ _=>False}
section
variable {X:Cx}{pins:List (Addr×Obj)}{σ:St}{H:Hp}{s s4:Shared}{scope:Scope}{NB:List Str}{μ:List (Option Nat)}{fp:List Addr}{C:Addr}
theorem LV (h:GZ scope X.env.scope=true):scope.kind=.function:=by
 unfold GZ at h;simp only[zb5,decide_eq_true_eq] at h;exact h.1
theorem TH {sc outer:Scope}(h:GZ sc outer=true):(sc.names.filter X6).length<=1:=by
 unfold GZ at h;rw[zb5,zb5,decide_eq_true_eq,decide_eq_true_eq] at h;exact h.2.1
theorem K8 {sc outer:Scope}(h:GZ sc outer=true){y:Str×NameKind}(hy:y∈sc.names):(y.2=.cell->sc.names.lookup y.1=some .cell)/\(y.2=.free->outer.names.lookup y.1=some .cell\/outer.names.lookup y.1=some .free)/\(y.2=.local->sc.names.lookup y.1=some .local):=by
 unfold GZ at h;simp only[zb5,decide_eq_true_eq,zdb,Bool.or_eq_true] at h;obtain⟨⟨h1,h2⟩,h3⟩:=h.2.2 y hy;exact⟨λ e=>h1.elim (λ q=>absurd e q) id,λ e=>by
  rcases h2 with (q|q)|q
  ·exact absurd e q
  ·exact .inl q
  ·exact .inr q,λ e=>h3.elim (λ q=>absurd e q) id⟩
theorem Jy (I:Inv X pins σ H s)(h:GZ scope X.env.scope=true){x:Str}(hx:(x,.free)∈scope.names):∃c,X.env.cells.lookup x=some c:=I.ok.has x ((K8 h hx).2.1 rfl)
theorem Ob (I:Inv X pins σ H s)(h:GZ scope X.env.scope=true){x:Str}{c:Addr}(e:(G9 X.env.cells scope.names []).lookup x=some c):X.env.cells.lookup x=some c:=by
 rcases TF (lookup_mem e) with q|⟨q,r⟩
 ·cases q
 ·obtain⟨c',e'⟩:=Jy I h q;rw[e'] at r;rw[e',r];rfl
theorem Dm (I:Inv X pins σ H s)(h:GZ scope X.env.scope=true){x:Str}{c:Addr}(e:(X7 C scope.names (G9 X.env.cells scope.names [])).lookup x=some c):(Hh scope.names=some x/\c=C+1)\/X.env.cells.lookup x=some c:=by
 unfold X7 at e;cases q:Hh scope.names with
 |none=>rw[q] at e;exact .inr (Ob I h e)
 |some y =>
  rw[q] at e;dsimp only at e;rw[zc1] at e;cases b:x==y with
  |true=>rw[b] at e;cases e;exact .inl ⟨by rw[eq_of_beq b],rfl⟩
  |false=>rw[b] at e;exact .inr (Ob I h e)
theorem Oc {env:Env}(h:GZ scope env.scope=true){x:Str}{k:NameKind}(hk:(relabel scope env).names.lookup x=some k)(hc:k=.cell\/k=.free):(x,.free)∈scope.names\/Hh scope.names=some x:=by
 obtain⟨k',e,q⟩:=K7 hk;have m:=lookup_mem e;rcases q with q|⟨q,_⟩
 ·subst q;rcases hc with z|z
  ·subst z;exact .inr (qW (TH h) m)
  ·subst z;exact .inl m
 ·subst q;exact .inl m
theorem jN (h:Qm X.N NB scope μ=true):NB.length=μ.length/\∀(j i:Nat),μ[j]?=some (some i)->∃x,NB[j]?=some x/\X.N[i]?=some x/\scope.names.lookup x=some .free:=by
 unfold Qm at h;simp only[zb5,decide_eq_true_eq,zdb] at h;refine⟨h.1,λ j i e=>?_⟩;have hj:j<NB.length:=by rw[h.1];exact (zai.mp e).1
 have m:(NB[j],some i)∈NB.zip μ:=by
  refine List.mem_iff_getElem?.mpr ⟨j,?_⟩;rw[List.getElem?_zip_eq_some];exact⟨za8 hj,e⟩
 have q:=h.2 _ m;dsimp only at q;simp only[zb5,decide_eq_true_eq] at q;exact⟨NB[j],za8 hj,q.1,q.2⟩
theorem TJ (I:Inv X pins σ H s)(av:GZ scope X.env.scope=true)(aY:Qm X.N NB scope μ=true)(ie:∀b∈fp,LP X pins H b)(l6:∀b∈fp,∃o,s.heap.get? b=some o)
 (hC:s.heap.objs.size<=C) {h4:Heap} {t4:Nat} (ns:h4.Ns C λ _=>none) (k:∀b o,s.heap.get? b=some o->h4.get? b=some o) (ja:∀x,Hh scope.names=some x->h4.IsCell (C+1) none):
 Inv (blockOf X s H scope C NB fp) [] (Fn μ σ) H {s with heap:=h4,toks:=t4}:=by
 obtain⟨hlen,aY⟩:=jN aY;have uk:∀b o,s.heap.get? b=some o->b≠C:=λ b o e=>zar (zal (zaf e) hC);have ul:∀x c,X.env.cells.lookup x=some c->c≠C+1:=λ x c e z=>by
  obtain⟨v,o,ho,_⟩:=I.cell x c e;exact absurd (zal (zaf ho) hC) (by rw[z];exact Nat.not_lt.mpr (Nat.le_succ C))
 have l7:∀x c,X.env.cells.lookup x=some c->c≠C:=λ x c e=>by
  obtain⟨v,o,ho,_⟩:=I.cell x c e;exact uk c o ho
 refine⟨⟨I.ok.mod,(show scope.kind=_ from LV av),I.ok.glob,I.ok.blt,hC,λ x y c h1 h2=>?_,λ x hx=>?_,λ x c hf e=>?_,I.ok.hd,I.ok.frames,.inl rfl,λ b hb=>?_,I.bs,zbq I.ok.iL I.sz,λ b o e hb=>?_,λ b hb hz=>?_,I.stack,I.WU⟩,
  rfl,I.bare,Un.kept k,⟨_,ns,λ j x v e1 e2 e3=>?_⟩,λ x c e=>?_,I.Aw.fresh hC,λ x c e=>?_,λ p hp=>(by cases hp),I.Aw.kept k,?_⟩
 ·rcases Dm I av h1 with ⟨a1,a2⟩|a<;>rcases Dm I av h2 with ⟨b1,b2⟩|b
  ·rw[a1] at b1;exact zas b1
  ·exact absurd a2 (ul y c b)
  ·exact absurd b2 (ul x c a)
  ·exact I.ok.inj x y c a b
 ·have q:(x,zcw)∈scope.names\/Hh scope.names=some x:=by
   rcases hx with hx|hx
   ·exact Oc av hx (.inl rfl)
   ·exact Oc av hx (.inr rfl)
  rcases q with q|q
  ·obtain⟨c,m⟩:=Oa (cells:=X.env.cells) (cs:=[]) q;refine DH (c:=c) ?_;show (x,c)∈X7 C scope.names _;unfold X7;split
   ·exact za4 _ m
   ·exact m
  ·refine DH (c:=C+1) ?_;show (x,C+1)∈X7 C scope.names _;unfold X7;rw[q];exact za3
 ·have hq:Hh scope.names=some x:=by simpa [blockOf] using hf
  have e':(X7 C scope.names (G9 X.env.cells scope.names [])).lookup x=some c:=e;unfold X7 at e';rw[hq] at e';dsimp only at e';rw[zc1,beq_self_eq_true] at e';cases e';exact Nat.le_succ_of_le hC
 ·obtain⟨o,ho⟩:=l6 b hb;refine⟨uk b o ho,λ x c e z=>?_⟩;rcases Dm I av e with ⟨_,a2⟩|e
  ·exact absurd (zal (zaf ho) hC) (by rw[<-z,a2];exact Nat.not_lt.mpr (Nat.le_succ C))
  ·exact (ie b hb).2.2.2.2.1 x c e z
 ·rcases (ie b hb).2.2.2.1 with z|z
  ·exact I.ok.ZT b o e z
  ·exact absurd (zal (zaf (I.ok.bs b o e).1) z) (Nat.lt_irrefl _)
 ·rcases zaa.mp (I.Vo b hz) with e|e
  ·exact (ie b hb).2.1 e
  ·exact (ie b hb).2.2.1 e
 ·have jb:(μ[j]?).map (λ o=>o.bind λ i=>(σ[i]?).join)=some (some v):=by
   rw[<-zam];exact e2
  cases q:μ[j]? with
  |none=>rw[q] at jb;cases jb
  |some o =>
   rw[q] at jb;cases o with
   |none=>cases jb
   |some i =>
    have e4:(σ[i]?).join=some v:=by simpa using jb
    have e5:σ[i]?=some (some v):=by
     cases z:σ[i]? with
     |none=>rw[z] at e4;cases e4
     |some w=>rw[z] at e4;simp at e4;rw[e4]
    obtain⟨x',n1,n2,n3⟩:=aY j i q;have ex:x'=x:=zas (n1.symm.trans e1);subst ex;have m:=lookup_mem n3;have ov:=(K8 av m).2.1 rfl;obtain⟨mm,hn,hl⟩:=I.loc;obtain⟨u,r,l⟩:=hl i x' v n2 e5 (ov.elim (λ z=>.inr (.inl z)) λ z=>.inr (.inr z));refine⟨u,r,.inr ⟨?_,?_⟩⟩
    ·rcases e3 with z|z|z
     ·obtain⟨k',z1,z2⟩:=K7 (k:=.local) z;rw[n3] at z1;cases z1;rcases z2 with z2|⟨_,z2⟩<;>cases z2
     ·exact .inl z
     ·exact .inr z
    ·rcases l with ⟨l,_⟩|⟨_,c,l1,l2⟩
     ·rcases ov with z|z<;>(rw[show X.env.kindOf x'=_ from z] at l;cases l)
     ·obtain⟨c',m'⟩:=Oa (cells:=X.env.cells) (cs:=[]) m;obtain⟨c'',l3⟩:=DH m';have l4:=Ob I av l3;rw[l1] at l4;cases l4;have l5:(X7 C scope.names (G9 X.env.cells scope.names [])).lookup x'=some c:=by
       unfold X7;cases q9:Hh scope.names with
       |none=>exact l3
       |some y =>
        have ne:(x'==y)=false:=by
         cases b:x'==y with
         |false=>rfl
         |true =>
          have z:=(K8 av (TC q9)).1 rfl;rw[<-eq_of_beq b] at z;rw[show scope.names.lookup x'=some .cell from z] at n3;cases n3
        dsimp only;rw[zc1,ne];exact l3
      refine⟨c,l5,?_⟩;obtain⟨o,ho,hd⟩:=l2;exact⟨o,k _ _ ho,hd⟩
 ·rcases Dm I av e with ⟨a1,rfl⟩|e
  ·exact⟨_,ja x a1⟩
  ·obtain⟨v,o,ho,hd⟩:=I.cell x c e;exact⟨v,o,k _ _ ho,hd⟩
 ·rcases Dm I av e with ⟨a1,rfl⟩|e
  ·exact I.Aw.fresh (Nat.le_succ_of_le hC)
  ·exact I.FA x c e
 ·show (Fn μ σ).length=NB.length;unfold Fn;rw[za2,hlen]
theorem G4.adopt {P:Program}{w:World}{H:Hp}{h:Heap}{a:Addr}{o:HO}(x:G4 P w H h)(hn:H a=none)(new:Bl P w (upd H a o) h a o):G4 P w (upd H a o) h:=λ b u e=>by
 by_cases hb:b=a
 ·subst hb;rw[Ap] at e;cases e;exact new
 ·rw[Ah hb] at e;exact (x b u e).N6 (λ c v _ q=>q) (λ c q=>by rw[Ah (AH q hn)];exact q) λ c xs q=>by rw[Ah (AH q hn)];exact q
theorem Yz {H':Hp}{s':Shared}{h':Heap}{D:Addr}{pl:List (Addr×Obj)}{σ':St}{aa:List Value}{ys:List V}{n:Nat}(I:Inv X pins σ H s)(ie:∀b∈fp,LP X pins H b)(J:Inv (blockOf X s H scope C NB fp) pl σ' H' s')
 (hC:s.heap.objs.size<=C) (hD:s.heap.objs.size<=D) (dg:D≠C) (eD:s'.heap.get? D=some {cls:=.type "list",data:=.seq aa.toArray n}) (nD:H' D=none) (r:Vals ys aa) (hz:ys.length<=sizeLine)
 (sb:zd1 C s'.heap h'):Inv X pins σ (upd H' D (.lst ys)) {s' with heap:=h' }:=by
 have gc:∀b o,s.heap.get? b=some o->b≠C:=λ b o e=>zar (zal (zaf e) hC);have og:∀b o,s.heap.get? b=some o->b≠D:=λ b o e=>zar (zal (zaf e) hD);have freshD:H D=none:=I.Aw.fresh hD;have nC:H' C=none:=J.free;have u:Un (ZL X.stack) fp H H' s.heap s'.heap:=J.base;have f9:G4 X.prog X.w H' h':=λ b ob e=>(J.Aw b ob e).N6 (λ c v hc q=>(sb.2 c (by
  intro z;subst z;rcases hc with rfl|hc
  ·rw[nC] at e;cases e
  ·rw[nC] at hc;cases hc)).trans q) (λ _ q=>q) λ _ _ q=>q
 refine I.uJ (ch:=fp) J.os ⟨λ b o e n hb hx=>?_,λ b o e n hb hx=>?_,λ b o e n hx=>?_,λ b o e hx=>?_,λ b xs e=>?_,λ b o u' e=>?_,λ b ps e=>?_⟩ (f9.adopt nD ⟨hz,aa,n,r,(sb.2 D dg).trans eD⟩) J.bare λ b hb=>?_
 ·exact (sb.2 b (gc b o e)).trans (u.keep b o e n hb hx)
 ·obtain⟨sl,q⟩:=u.slot b o e n hb hx;exact⟨sl,(sb.2 b (gc b o e)).trans q⟩
 ·rw[Ah (og b o e)];exact u.free b o e n hx
 ·obtain⟨o',q⟩:=u.there b o e hx;exact⟨o',(sb.2 b (gc b o e)).trans q⟩
 ·rw[Ah (AH e freshD)];exact u.Qf b xs e
 ·rw[Ah (AH e freshD)];exact u.N7 b o u' e
 ·rw[Ah (AH e freshD)];exact u.Qg b ps e
 ·obtain⟨_,f1,_,f3,f4,f5⟩:=ie b hb;exact⟨f3,f1,f4,f5⟩
end
theorem cQ {M:Model}{A:Around}{E:Value->Shared->Prop}{s:Shared}{scope:Scope}{g:Addr}{cl:List (Str×Addr)}{qual:Str}{outer:Env}{Q:Env->Shared->Prop}(h1:(scope.names.filter X6).length<=1)
 (hQ:∀h',h'.Ns s.heap.objs.size (λ _=>none)->(∀b o,s.heap.get? b=some o->h'.get? b=some o)->(∀x,Hh scope.names=some x->h'.IsCell (s.heap.objs.size+1) none)->
  Q {scope:=scope,locals:=s.heap.objs.size,globals:=g,cells:=X7 s.heap.objs.size scope.names cl,qual:=qual,func:=none,code:=outer.code,frame:=outer.frame,builtins:=outer.builtins} {s with heap:=h' }):
 wpAny M A (newFunctionEnv scope g cl [] qual none .none (some outer)) Q E s:=by
 unfold newFunctionEnv;simp only[Option.isSome_some,if_true];refine wpAny_bind (wpAny_alloc (wpAny_bind (wpAny_layCells _ (λ x k cs=>by cases e:k==NameKind.cell<;>simp[e]) _ _ _ _ ?_)));have ok:=cellsFrom_ok scope.names (s.heap.push {cls:=.type "dict",data:=.dict #[]}) 0 [] ⟨λ _ _ z=>(by cases z),.nil⟩ (zbc _);rw[VJ h1] at ok ⊢;rw[Heap.size_push] at ok;rw[List.forIn_nil];refine wpAny_bind (wpAny_pure (wpAny_pure ?_));have key:=hQ (pushCells (s.heap.push {cls:=.type "dict",data:=.dict #[]}) scope.names) ((Heap.Ns.new s.heap (.type "dict")).keeps (pushCells_keeps _ _)) (λ b o e=>pushCells_keeps _ _ b o (zab _ e)) (λ x hx=>(ok.empty x (s.heap.objs.size+1) (by rw[hx];exact za3)).1);unfold X7 at key;rw[<-Heap.size_push s.heap {cls:=.type "dict",data:=.dict #[]}] at key;exact key
theorem S4 {prog:Program}{w:World}{A:Around}{R:Result->Shared->Prop}{s:Shared}{elt target iter:Expr}{ifs:List Expr}{scope:Scope}{pos:Pos}{it acc:Value}{env:Env}(I:Nat->Shared->Prop)
 (turn:∀n s,I n s->wpAny (model prog w) A (pyNext it) (λ r s₁=>match r with
  |none=>R (.ok .next) s₁
  |some v=>wpAny (model prog w) A (letOwnedTupleGo target it v) (λ _ s₁'=>wpAny (model prog w) A (assign target env v) (λ _ s₂ =>
   wpAny (model prog w) A (forIn ifs true λ c r=>if r=true then do let ok <-isTrue c env (eval c env);pure (zdc ok) else pure (zdc r)) (λ ok s₃ =>
    if ok=true then wpAny (model prog w) A (eval elt env) (λ x s₄ =>
     wpAny (model prog w) A (call (.builtin "list.append") [acc,x]) (λ _ s₅=>∃m,m<n/\I m s₅) (λ _ _=>False) s₄) (λ _ _=>False) s₃
    else ∃m,m<n/\I m s₃) (λ _ _=>False) s₂) (λ _ _=>False) s₁') (λ _ _=>False) s₁) (λ _ _=>False) s)
 (n:Nat) (h:I n s):
 codeAny (model prog w) A (.compLoop (.ListComp elt [⟨target,iter,ifs,0⟩] scope pos) 0 it acc env) R s:=by
 refine codeAny_loop rfl I (λ n s hI=>?_) n h;show wpAny _ A ((compTurn (.ListComp elt [⟨target,iter,ifs,0⟩] scope pos) 0 it acc env).onRaise (λ x=>do noteFrame x env;theTreesLotGoes x)) _ _ s;refine wpAny_noted ?_;rw[compTurn_list];refine wpAny_bind (wpAny_standAt (wpAny_bind (wpAny_mono (turn n s hI) (λ r s₁ h₁=>?_) λ _ _ h'=>h'.elim)));cases r with
 |none=>exact wpAny_pure h₁
 |some v =>
  refine wpAny_bind (wpAny_mono h₁ (λ _ s₁' h₁'=>?_) λ _ _ h'=>h'.elim);refine wpAny_bind (wpAny_mono h₁' (λ _ s₂ h₂=>wpAny_bind (wpAny_mono h₂ (λ ok s₃ h₃=>?_) λ _ _ h'=>h'.elim)) λ _ _ h'=>h'.elim);cases ok with
  |false=>exact wpAny_pure ⟨rfl,h₃⟩
  |true =>
   exact wpAny_bind (wpAny_bind (wpAny_mono h₃ (λ x s₄ h₄=>wpAny_bind (wpAny_mono h₄ (λ _ s₅ h₅=>wpAny_pure (wpAny_pure ⟨rfl,h₅⟩)) λ _ _ h'=>h'.elim)) λ _ _ h'=>h'.elim))
def tQ (X:Cx)(cs:List Expr)(t:TT):Prop:=
 ∀(pins:List (Addr×Obj)) (s:Shared) (σ:St) (H:Hp) (Q:Bool->Hp->Prop),Inv X pins σ H s->t σ H Q->
  wpAny (model X.prog X.w) X.A (forIn cs true λ c r=>if r=true then do let ok <-isTrue c X.env (eval c X.env);pure (zdc ok) else pure (zdc r)) (TP X pins σ Q) X.xe s
noncomputable def aaa:TT:=λ _ H Q=>Q true H
theorem jO {X:Cx}:tQ X [] aaa:=λ _ _ _ H _ I h=>wpAny_tests_nil ⟨H,I,h⟩
theorem jP {X:Cx}{c:Expr}{t:TT}(h:PT X c t):tQ X [c] t:=λ pins s σ H Q I q=>wpAny_tests_one (h pins s σ H Q I q)
def LW (μ:List (Option Nat))(g:TG):Prop:=∀σ x H Q,g x (Fn μ σ) H Q->g x (Fn μ σ) H λ σ' H'=>Q σ' H'/\∀(j:Nat) v,(Fn μ σ)[j]?=some (some v)->σ'[j]?=some (some v)
theorem jQ {μ:List (Option Nat)}{i:Nat}(h:μ[i]?=some none):LW μ (QL i):=λ σ x H Q q=>by
 refine⟨q,λ j v e=>?_⟩;have ad:j≠i:=λ z=>by
  subst z;unfold Fn at e;rw[zam,h] at e;cases e
 rw[zbp (zbi ad)];exact e
def cBy (J:It)(H1:Hp)(Q:VK)(st:V->Hp->(St->Hp->Prop)->Prop)(tc:TT)(te:TE):Prop:=
 ∃W:Nat->Nat->List V->Hp->Prop,(∃m,W 0 m [] H1)/\∀i m ys H2,W i m ys H2->
  (J.stop i H2/\∀D,H2 D=none->Q (.ref D) (upd H2 D (.lst ys))) \/
  (J.go i H2/\ys.length<sizeLine/\∃N:List V->Hp->Prop,(∀aL H',N aL H'->∃m',m'<m/\W (i+1) m' aL H')/\∀x H3,J.iQ i H2 x H3->st x H3 λ σ4 H4=>tc σ4 H4 λ b H5=>if b=true then te σ4 H5 λ y H6=>N (ys++[y]) H6 else N ys H5)
noncomputable def TK (wi:TI)(μ:List (Option Nat))(g:TG)(tc:Shared->Hp->Addr->List Addr->TT)(te:Shared->Hp->Addr->List Addr->TE):TE:=λ σ H Q=>wi σ H λ J H1=>∀s C ex,cBy J H1 Q (λ x H K=>g x (Fn μ σ) H K) (tc s H1 C ex) (te s H1 C ex)
section
variable {X:Cx}{pins:List (Addr×Obj)}{σ:St}{H2:Hp}{s2:Shared}{tg elt iter:Expr}{ifs:List Expr}{scope:Scope}{pos:Pos}{NB:List Str}{μ:List (Option Nat)}{g:TG}{tc:Shared->Hp->Addr->List Addr->TT}{te:Shared->Hp->Addr->List Addr->TE}{fp:List Addr}{it:Addr}{tn:Nat->Heap->Prop}{J:It}{Q:VK}
theorem QU (hc:X.calm=true)(I2:Inv X pins σ H2 s2)(T:Turn X.prog X.w X.K tg J fp it tn)(da:tn 0 s2.heap)(f2:∀b∈fp,LP X pins H2 b)
 (av:GZ scope X.env.scope=true) (aY:Qm X.N NB scope μ=true) (jc:LW μ g)
 (hb:∀(s:Shared) (H:Hp) (C:Addr) (ex:List Addr),PG (blockOf X s H scope C NB ex) tg g/\tQ (blockOf X s H scope C NB ex) ifs (tc s H C ex)/\PE (blockOf X s H scope C NB ex) elt (te s H C ex))
 (q:∀C,cBy J H2 Q (λ x H K=>g x (Fn μ σ) H K) (tc s2 H2 C fp) (te s2 H2 C fp)) {RR:Value->Addr->Result->Shared->Prop} {E:Value->Shared->Prop}
 (fin:∀(D C:Addr) (s':Shared) (H':Hp) (ys:List V) (m:Str->Option Value),s2.heap.objs.size<=D->s2.heap.objs.size<=C->D≠C->s'.heap.Ns C m->H' C=none->(∀h',zd1 C s'.heap h'->Inv X pins σ (upd H' D (.lst ys)) {s' with heap:=h' })->Q (.ref D) (upd H' D (.lst ys))->RR (.ref D) C (.ok .next) s'):
 wpAny (model X.prog X.w) X.A (newList []) (λ acc s₃=>wpAny (model X.prog X.w) X.A (newFunctionEnv scope X.env.globals (G9 X.env.cells scope.names []) [] X.env.qual none .none (some X.env)) (λ jd s₄ =>
  codeAny (model X.prog X.w) X.A (.compStart (.ListComp elt [⟨tg,iter,ifs,0⟩] scope pos) 0 (.ref it) acc {jd with scope:=relabel scope X.env}) (RR acc jd.locals) s₄) E s₃) E s2:=by
 refine wpAny_newObj_type (cQ (TH av) λ h₁ hns₁ hk₁ hcl₁=>?_);dsimp only at hns₁ hk₁ hcl₁ ⊢;generalize oh:s2.heap.push {cls:=.type "list",dict:=none,data:=.seq ([]:List Value).toArray}=l8 at hns₁ hk₁ hcl₁ ⊢;have hC:l8.objs.size=s2.heap.objs.size+1:=by rw[<-oh,Heap.size_push]
 have dg:s2.heap.objs.size≠l8.objs.size:=by rw[hC];exact zar (Nat.lt_succ_self _)
 have ge:s2.heap.objs.size<=l8.objs.size:=by rw[hC];exact Nat.le_succ _
 have old:∀b o,s2.heap.get? b=some o->h₁.get? b=some o:=λ b o e=>hk₁ b o (oh▸zab _ e);have eD:h₁.get? s2.heap.objs.size=some {cls:=.type "list",data:=.seq ([]:List Value).toArray}:=hk₁ _ _ (oh▸zap _ rfl);have l6:∀b∈fp,∃o,s2.heap.get? b=some o:=λ b hb=>let ⟨o,e,_⟩:=T.obj _ _ da b hb;⟨o,e⟩;have oj:∀b∈fp,b≠s2.heap.objs.size:=λ b hb=>let ⟨o,e⟩:=l6 b hb;zar (zaf e);generalize um:s2.heap.objs.size=D at ge dg eD oj ⊢;generalize hCC:l8.objs.size=C at *;have b7:s2.heap.objs.size<=D:=by rw[um];exact zag _
 have ce:s2.heap.objs.size<=C:=by rw[um];exact ge
 have I4:Inv (blockOf X s2 H2 scope C NB fp) [] (Fn μ σ) H2 {s2 with heap:=h₁}:=TJ (t4:=s2.toks) I2 av aY f2 l6 ce hns₁ old hcl₁;have bh:∀ {H':Hp} {pl:List (Addr×Obj)},(∀b∈fp,H' b=none)->(∀p∈pl,p.1=D)->∀b∈fp,LP (blockOf X s2 H2 scope C NB fp) pl H' b:=fun {H' pl} hn hp b hb=>by
  refine⟨hn b hb,(I4.ok.yA b hb).1,I4.ok.ZU b hb,.inl hb,λ x c e z=>(I4.ok.yA b hb).2 x c e z,λ p je z=>?_⟩;have om:p∈pl:=by simpa [blockOf] using je
  exact oj b hb (z▸hp p om)
 have wg:D∉(blockOf X s2 H2 scope C NB fp).fs:=λ z=>by
  obtain⟨_,o,ho,_⟩:=I4.ok.LO.mem z;exact absurd (zaf ho) (Nat.not_lt.mpr b7)
 obtain⟨W,⟨m0,w0⟩,turn⟩:=q C;have loop:∀s₃:Shared,s₃={s2 with heap:=h₁} ->
  codeAny (model X.prog X.w) X.A (.compLoop (.ListComp elt [⟨tg,iter,ifs,0⟩] scope pos) 0 (.ref it) (.ref D) (compEnvC scope (X7 C scope.names (G9 X.env.cells scope.names [])) C X.env)) (RR (.ref D) C) s₃:=by
  rintro s₃ rfl;refine S4 (λ n s'=>∃i ys aa k H',Inv (blockOf X s2 H2 scope C NB fp) [(D,{cls:=.type "list",data:=.seq aa k})] (Fn μ σ) H' s'/\tn i s'.heap/\(∀b∈fp,H' b=none)/\Vals ys aa.toList/\ys.length<=sizeLine/\W i n ys H') ?_ m0
   ⟨0,[],#[],0,H2,I4.JY λ p hp=>?_,T.keep _ _ _ da λ b hb o e=>old b o e,λ b hb=>(f2 b hb).1,.nil,zbc _,w0⟩
  rotate_left
  ·have e:=za7.mp hp;subst e;exact⟨eD,I2.Aw.fresh b7,dg,wg,λ v=>by simp⟩
  rintro n s3 ⟨i,ys,aa,k,H3,I3,ir,iu,rv,hz,w3⟩;rcases turn i n ys H3 w3 with ⟨stop,qn⟩|⟨go,af,N,hN,step⟩
  ·refine wpAny_mono (T.done (blockOf X s2 H2 scope C NB fp) rfl rfl rfl hc i _ s3 _ H3 (λ _ _=>False) I3 (bh iu (by simp)) ir stop) (λ r s4 zz=>?_) λ _ _ e=>e;obtain⟨hr,l9⟩:=zz;subst hr;obtain⟨p1,p2,p3,p4,p5⟩:=l9.pin _ (zac _ za3);obtain⟨m,hn,_⟩:=id l9.loc;have e1:s4.heap.get? D=some {cls:=.type "list",data:=.seq aa.toList.toArray k}:=by simpa using p1
   exact fin D C s4 H3 ys m b7 ce dg hn l9.free (λ h' sb=>Yz I2 f2 l9 ce b7 dg e1 p2 rv hz sb) (qn D p2)
  ·refine wpAny_mono (T.item (blockOf X s2 H2 scope C NB fp) rfl rfl rfl hc i _ s3 _ H3 (λ _ _=>False) I3 (bh iu (by simp)) ir go) (λ r s4 zz=>?_) λ _ _ e=>e;obtain⟨u,hr,h4⟩:=zz;subst hr;refine Bh h4 λ _ s5 zz=>?_;obtain⟨x,H5,I5,r5,y5,f7,nk⟩:=zz;have nq:=I5.pinned (bh nk (by simp)) (T.obj _ _ f7);have aW:=jc σ x H5 _ (step x H5 y5);obtain⟨hg,ht,he⟩:=hb s2 H2 C fp;refine Bh (hg _ s5 _ H5 x u _ nq r5 aW) λ _ s6 zz=>?_;obtain⟨σ6,H6,I6,q6,k6⟩:=zz;refine Bh (ht _ s6 σ6 H6 _ I6 q6) λ ok s7 zz=>?_;obtain⟨H7,I7,q7⟩:=zz;have again:∀ {H8:Hp} {s8:Shared} {its':Array Value} {k':Nat} {aL:List V},Inv (blockOf X s2 H2 scope C NB fp) ([(D,{cls:=.type "list",data:=.seq its' k' })]++Jt fp s5.heap) σ6 H8 s8->Vals aL its'.toList->aL.length<=sizeLine->(∃m,m<n/\W (i+1) m aL H8)->
    ∃m,m<n/\∃i ys aa k H',Inv (blockOf X s2 H2 scope C NB fp) [(D,{cls:=.type "list",data:=.seq aa k})] (Fn μ σ) H' s8/\tn i s8.heap/\(∀b∈fp,H' b=none)/\Vals ys aa.toList/\ys.length<=sizeLine/\W i m ys H':=fun {H8 s8 its' k' aL} I8 bw uo n8=>by
    obtain⟨m',hm,w8⟩:=n8;refine⟨m',hm,i+1,aL,its',k',H8,(I8.JZ.weak ?_ k6),T.keep _ _ _ f7 λ b hb o e=>(I8.pin (b,o) (zac _ (zac _ (G6 hb e)))).1,λ b hb=>?_,bw,uo,w8⟩
    ·rw[I8.len];exact I4.len
    ·obtain⟨o,e,d⟩:=T.obj _ _ f7 b hb;exact (I8.pin (b,o) (zac _ (zac _ (G6 hb e)))).2.1
   cases ok with
   |false =>
    simp only[zat,if_false] at q7 ⊢;exact again I7 rv hz (hN _ _ q7)
   |true =>
    simp only[if_true] at q7 ⊢;refine Bh (he _ s7 σ6 H7 _ I7 q7) λ uy s8 zz=>?_;obtain⟨y,H8,I8,r8,q8⟩:=zz;obtain⟨p1,p2,p3,p4,p5⟩:=I8.pin (D,_) (zac _ (zb3 _ za3));have e1:s8.heap.get? D=some {cls:=.type "list",data:=.seq aa k}:=p1;have hsz:aa.size=ys.length:=by rw[<-zde];exact rv.length.symm
    refine call_meets F.slot_list_append ⟨_,e1,rfl⟩ F.entry_list_append (F.args_list_append_2 _ _) (PySem.list_append D aa k uy (by rw[hsz];omega)) ⟨e1,?_⟩;have on:=PySem.IsL.update e1 (·.push uy);have Iu:Inv (blockOf X s2 H2 scope C NB fp) (Jt fp s5.heap) σ6 H8 s8:=I8.JY λ p hp=>I8.pin p (zac _ (zac _ hp));have It:=Iu.turned (it:=D) (h':=s8.heap.update D (Obj.mapSeq (·.push uy))) (t':=s8.toks) (λ b o hb e=>(Heap.get?_update_other _ _ (zbi hb)).trans e) p2 p3 (.inr b7) (λ x c e z=>?_) (λ p hp z=>?_)
    ·refine again (its':=aa.push uy) (k':=if (aa.push uy).size==aa.size then k else k+1) (It.JY λ p hp=>?_) (by simpa using rv.append (.cons r8 .nil)) (by rw[zaj,zbf];omega) (hN _ _ q8);rcases zan.mp hp with hp|hp
     ·have e:=za7.mp hp;subst e;exact⟨on,p2,p3,p4,λ v=>by simp⟩
     ·exact It.pin p (zac _ hp)
    ·rcases Dm I2 av e with ⟨_,a2⟩|e'
     ·exact absurd (a2.symm.trans z) (zcs (Nat.lt_succ_of_le ge))
     ·obtain⟨v,o,ho,_⟩:=I2.cell x c e';exact absurd (zaf ho) (by rw[z];exact Nat.not_lt.mpr b7)
    ·have je:p∈Jt fp s5.heap:=by simpa [blockOf] using hp
     exact oj p.1 (QM je).1 z
 exact codeAny_compStart_list (loop _ rfl) (T.self _ 0 _ _ _ (T.keep _ _ _ da λ b hb o e=>old b o e) (loop _ rfl))
theorem X8 {wi:TI}(hc:X.calm=true)(hi:PI X tg iter wi)(av:GZ scope X.env.scope=true)(aY:Qm X.N NB scope μ=true)(jc:LW μ g)
 (hb:∀(s:Shared) (H:Hp) (C:Addr) (ex:List Addr),PG (blockOf X s H scope C NB ex) tg g/\tQ (blockOf X s H scope C NB ex) ifs (tc s H C ex)/\PE (blockOf X s H scope C NB ex) elt (te s H C ex))
 (hs:∀x,foldedSetIterable iter X.env x=pure x:=by intro _;rfl):PE X (.ListComp elt [⟨tg,iter,ifs,0⟩] scope pos) (TK wi μ g tc te):=by
 intro pins s σ H Q I h;have bm:∀y∈scope.names,y.2=.local->scope.names.lookup y.1=some .local:=λ y hy=>(K8 av hy).2.2;have cf:closureFor scope X.env=pure (G9 X.env.cells scope.names []):=J7 λ y hy e=>Jy I av (x:=y.1) (by rw[<-e];exact hy);rw[eval_ListComp];refine wpAny_comprehension_free (use:=none) rfl hs cf (LV av) bm (Bh (hi pins s σ H _ I h) λ v s1 h1=>Bh h1 λ lu s2 h2=>?_);obtain⟨it,fp,tn,J,H2,e,I2,T,da,f2,q⟩:=h2;subst e;refine QU (RR:=λ acc C=>compPost (model X.prog X.w) X.A X.xe none (EP X pins σ Q) acc C) hc I2 T da f2 av aY jc hb (λ C=>q s2 C fp) ?_;intro D C s' H' ys m hD hC dg hn nC hI hq;exact⟨m,hn,λ h' sb=>⟨.ref D,_,hI h' sb,rfl,hq⟩⟩
noncomputable def vR (i:Nat)(te:TE):TS:=λ D σ H=>te σ H λ x H1=>D.nx (σ.set i (some x)) H1
theorem X9 {wi:TI}{i:Nat}{y:Str}{py ay:Pos}(hN:X.N.Nodup)(jf:X.N[i]?=some y)(hy:Loc X.env.scope y)(hc:X.calm=true)(hi:PI X tg iter wi)(av:GZ scope X.env.scope=true)(aY:Qm X.N NB scope μ=true)(jc:LW μ g)
 (hb:∀(s:Shared) (H:Hp) (C:Addr) (ex:List Addr),PG (blockOf X s H scope C NB ex) tg g/\tQ (blockOf X s H scope C NB ex) ifs (tc s H C ex)/\PE (blockOf X s H scope C NB ex) elt (te s H C ex))
 (bn:swapsWith (.ListComp elt [⟨tg,iter,ifs,0⟩] scope pos) (some (.Name y py)) ay.line X.env=pure true:=by rfl)
 (hs:∀x,foldedSetIterable iter X.env x=pure x:=by intro _;rfl) (hf:X.fn y=true\/X.env.scope.names.lookup y=some .local:=by first|exact .inl rfl|exact .inr rfl|assumption):
 PS X (.Assign [.Name y py] (.ListComp elt [⟨tg,iter,ifs,0⟩] scope pos) ay) (vR i (TK wi μ g tc te)):=by
 intro pins s σ H D' I h;have bm:∀y∈scope.names,y.2=.local->scope.names.lookup y.1=some .local:=λ y hy=>(K8 av hy).2.2;have cf:closureFor scope X.env=pure (G9 X.env.cells scope.names []):=J7 λ y hy e=>Jy I av (x:=y.1) (by rw[<-e];exact hy);rw[exec_Assign_Name_used _ _ _ _ bn];refine wpAny_bind (wpAny_standAt (wpAny_bind ?_));show wpAny _ X.A (do let _ <-comprehension (.ListComp elt [⟨tg,iter,ifs,0⟩] scope pos) scope X.env _ (newList []) false (eval iter X.env) (some (assign (.Name y py) X.env))) _ _ s;refine wpAny_bind (wpAny_mono (wpAny_comprehension_free (use:=some (assign (.Name y py) X.env)) (Q:=λ _ s'=>SP X pins D' .next s') rfl hs cf (LV av) bm (Bh (hi pins s σ H _ I h) λ v s1 h1=>Bh h1 λ lu s2 h2=>?_)) (λ _ s' hq=>wpAny_pure (wpAny_pure hq)) λ _ _ e=>e);obtain⟨it,fp,tn,J,H2,e,I2,T,da,f2,q⟩:=h2;subst e;refine QU (RR:=λ acc C=>compPost (model X.prog X.w) X.A X.xe (some (assign (.Name y py) X.env)) (λ _ s'=>SP X pins D' .next s') acc C) hc I2 T da f2 av aY jc hb (λ C=>q s2 C fp) ?_;intro D C s' H' ys m hD hC dg hn nC hI hq;have I':=hI s'.heap (.refl ..);show wpAny _ X.A (assign (.Name y py) X.env (.ref D)) _ _ _;refine wpAny_assign_Name (QK (i:=i) (v:=.ref D) I' hN jf hy rfl (λ iy wj oq=>?_) hf);obtain⟨a,sb,ha⟩:=oq;have ib:a≠C:=by
  rcases ha with z|z
  ·rw[z];exact zar (zal I2.lt hC)
  ·obtain⟨v,o,ho,_⟩:=I2.cell y a z;exact zar (zal (zaf ho) hC)
 refine⟨m,hn.sameBut sb (zbi ib),λ h' eh=>?_⟩;refine⟨_,_,wj.turned (it:=C) (t':=iy.toks) (λ b o hb e=>(eh.2 b hb).trans e) (by rw[Ah (zbi dg)];exact nC) (zcs (zal I2.lt hC)) (.inr (zbq I2.sz hC)) (λ x c e z=>?_) (λ p hp z=>?_),hq⟩
 ·obtain⟨v,o,ho,_⟩:=I2.cell x c e;exact absurd (zaf ho) (by rw[z];exact Nat.not_lt.mpr hC)
 ·exact absurd (zaf (I2.pin p hp).1) (by rw[z];exact Nat.not_lt.mpr hC)
end
noncomputable def Ite (K:za0)(a:Addr):It:=
 ⟨λ i H=>∃xs x,CO K H a xs/\xs[i]?=some x,λ i H v H'=>∃p x,H p=none/\v=.ref p/\(∀xs,CO K H a xs->xs[i]?=some x)/\H'=upd H p (.tup [.int i,x]),λ i H=>∃xs,CO K H a xs/\xs.length<=i⟩
theorem VL {X:Cx}{pins:List (Addr×Obj)}{σ:St}{H:Hp}{s:Shared}{h':Heap}{t':Nat}{e it:Addr}(I:Inv X pins σ H s)(he:LP X pins H e)(hi:LP X pins H it)(k:∀b o,b≠e->b≠it->s.heap.get? b=some o->h'.get? b=some o):Inv X pins σ H {s with heap:=h',toks:=t' }:=by
 obtain⟨e0,e1,e2,e3,e4,e5⟩:=he;obtain⟨f0,f1,f2,f3,f4,f5⟩:=hi;have ne:∀b u,H b=some u->b≠e/\b≠it:=λ b u q=>⟨λ z=>(by rw[z,e0] at q;cases q),λ z=>(by rw[z,f0] at q;cases q)⟩;refine I.step (g':=s.gens) (d':=s.drawn) (ch:=[e,it]) (λ b hb=>?_) (λ b o _ _ hc q _=>k b o (λ z=>hc (by simp[z])) (λ z=>hc (by simp[z])) q) (λ b o _ _ hc q _=>⟨o.slots,k b o (λ z=>hc (by simp[z])) (λ z=>hc (by simp[z])) q⟩) (λ _ _ _ _ n=>n)
  (λ b o hc q=>⟨o,k b o (λ z=>hc (by simp[z])) (λ z=>hc (by simp[z])) q⟩) (λ _ _ q=>q) (λ _ _ _ q=>q) (λ b ps q=>⟨#[],by rw[q];simp⟩) (λ m hm=>?_) (λ b u q=>?_) I.bare
 ·rcases zaa.mp hb with z|z
  ·subst z;exact⟨e3,e1,e4,e5⟩
  ·have z:=za7.mp z;subst z;exact⟨f3,f1,f4,f5⟩
 ·obtain⟨o,es,ep,ho,r⟩:=hm;exact⟨o,es,ep,k _ o (zbi e1) (zbi f1) ho,r⟩
 ·refine (I.Aw b u q).N6 (λ c v hc z=>k c v ?_ ?_ z) (λ _ z=>z) λ _ _ z=>z
  ·rcases hc with z|z
   ·rw[z];exact (ne b u q).1
   ·exact (ne c _ z).1
  ·rcases hc with z|z
   ·rw[z];exact (ne b u q).2
   ·exact (ne c _ z).2
theorem YA {P:Program}{w:World}{K:za0}{aG:List Expr}{x1}{a9:Pos}(a e it:Addr)(ad:e≠it):
 Turn P w K (.Tuple aG x1 a9) (Ite K a) [e,it] e (λ i h=>(∃old,IsEnum h e it i old)/\h.IsListIter it a i) where
 mem:=by simp
 obj:=λ i h st b hb=>by
  obtain⟨⟨old,h1⟩,o,h2,c,d⟩:=st;rcases zaa.mp hb with z|z
  ·subst z;exact⟨_,h1,λ v z=>by cases z⟩
  ·have z:=za7.mp z;subst z;exact⟨o,h2,λ v z=>by rw[d] at z;cases z⟩
 keep:=λ i h h' st k=>⟨let ⟨old,h1⟩:=st.1;⟨old,k e (by simp) _ h1⟩,st.2.at λ o e=>k it (by simp) o e⟩
 item:=by
  intro X hP hw hK hc i pins s σ H E I hf st hg;subst hP hw hK;obtain⟨xs,x,hq,hx⟩:=hg;obtain⟨⟨old,he⟩,hit⟩:=st;obtain⟨aa,rv,p,hz⟩:=I.list hq;obtain⟨u,hu,ru⟩:=rv.get hx;have fe:=hf e (by simp);have fi:=hf it (by simp);refine wpAny_pyNext_enum_item he hit p.isList (x:=u) (by simpa using hu) ad λ h1 d0 oy ht hsz hk=>?_;refine⟨_,rfl,wpAny_letOwnedTupleGo_enum (s:={s with heap:=h1,toks:=s.toks+1}) d0 λ h2 wk a4=>?_⟩;have a6:zd1 e h1 h2:=a4;have nt:s.heap.objs.size≠e:=zcs (zaf he);have wl:s.heap.objs.size≠it:=by
   obtain⟨o,ho,_⟩:=hit;exact zcs (zaf ho)
  have I1:Inv X pins σ H {s with heap:=h2,toks:=s.toks+1}:=VL I fe fi λ b o hb ax q=>(a6.2 b hb).trans (hk b o hb ax q);have tup:h2.get? s.heap.objs.size=some {cls:=.type "tuple",data:=.seq #[.int i s.toks,u]}:=(a6.2 _ nt).trans ht;have nH:H s.heap.objs.size=none:=I.Aw.fresh (zag _);have vv:Vals [.int i,x] [.int i s.toks,u]:=.cons ⟨_,rfl⟩ (.cons ru .nil);have gf:G4 X.prog X.w (upd H s.heap.objs.size (.tup [.int i,x])) h2:=I1.Aw.adopt nH ⟨by show 2<=sizeLine;decide,_,vv,⟨_,tup,rfl,_,rfl⟩⟩;have I2:Inv X pins σ (upd H s.heap.objs.size (.tup [.int i,x])) {s with heap:=h2,toks:=s.toks+1}:=by
   refine I.step (g':=s.gens) (d':=s.drawn) (ch:=[e,it]) (λ b hb=>?_) (λ b o _ _ hc q _=>(a6.2 b (λ z=>hc (by simp[z]))).trans (hk b o (λ z=>hc (by simp[z])) (λ z=>hc (by simp[z])) q)) (λ b o _ _ hc q _=>⟨o.slots,(a6.2 b (λ z=>hc (by simp[z]))).trans (hk b o (λ z=>hc (by simp[z])) (λ z=>hc (by simp[z])) q)⟩)
    (λ b o hc q n=>by rw[Ah (zar (zaf q))];exact n) (λ b o hc q=>⟨o,(a6.2 b (λ z=>hc (by simp[z]))).trans (hk b o (λ z=>hc (by simp[z])) (λ z=>hc (by simp[z])) q)⟩)
    (λ b xs q=>by rw[Ah (AH q nH)];exact q) (λ b o u q=>by rw[Ah (AH q nH)];exact q) (λ b ps q=>⟨#[],by rw[Ah (AH q nH),q];simp⟩) (λ m hm=>?_) gf I.bare
   ·rcases zaa.mp hb with z|z
    ·subst z;exact⟨fe.2.2.2.1,fe.2.1,fe.2.2.2.2.1,fe.2.2.2.2.2⟩
    ·have z:=za7.mp z;subst z;exact⟨fi.2.2.2.1,fi.2.1,fi.2.2.2.2.1,fi.2.2.2.2.2⟩
   ·obtain⟨o,es,ep,ho,r⟩:=hm;exact⟨o,es,ep,(a6.2 _ (zbi fe.2.1)).trans (hk _ o (zbi fe.2.1) (zbi fi.2.1) ho),r⟩
  refine⟨.ref s.heap.objs.size,_,I2,rfl,⟨_,x,nH,rfl,λ ys hy=>by rw[I.EC hy hq];exact hx,rfl⟩,⟨⟨u,wk⟩,oy.at λ o q=>(a6.2 it (zbi ad)).trans q⟩,λ b hb=>?_⟩;have ax:b≠s.heap.objs.size:=by
   rcases zaa.mp hb with z|z
   ·rw[z];exact zbi nt
   ·rw[za7.mp z];exact zbi wl
  rw[Ah ax];exact (hf b hb).1
 done:=by
  intro X hP hw hK hc i pins s σ H E I hf st hg;subst hP hw hK;obtain⟨xs,hq,hx⟩:=hg;obtain⟨⟨old,he⟩,hit⟩:=st;obtain⟨aa,rv,p,hz⟩:=I.list hq;have hl:=rv.length;obtain⟨f0,f1,f2,f3,f4,f5⟩:=hf it (by simp);exact wpAny_pyNext_enum_end (I.ok.hd hc) he hit p.isList (by simp;omega) λ h' eb=>⟨rfl,I.turned (t':=s.toks) (λ b o hb e=>eb b o hb e) f0 f1 f3 f4 f5⟩
 self:=λ _ _ _ _ _ st h=>let ⟨_,he⟩:=st.1;wpAny_pyIter_enum he h
section
variable {X:Cx}
noncomputable def vS (K:za0)(ta:TA):TI:=λ σ H R=>ta σ H λ vs H1=>∃a,vs=[.ref a]/\(∃xs,CO K H1 a xs)/\R (Ite K a) H1
theorem jR {aG:List Expr}{x1}{a9:Pos}{a:Expr}{ta:TA}{p pos:Pos}(hg:Gl X "enumerate")(hm:X.mg "enumerate" = none)(ha:PA X [a] ta)(hb:bootBuiltins "enumerate" = some (.type "enumerate"):=by decide +kernel)(hs:starEach [a] X.env=[(false,eval a X.env)]:=by rfl):
 PI X (.Tuple aG x1 a9) (.Call (.Name "enumerate" p) [a] [] pos) (vS X.K ta):=by
 intro pins s σ H R I h;refine Call_ (Dl I hg hm hb (zba (Bh (ha pos pins s σ H _ I h) λ us s1 zz=>?_) hs rfl));obtain⟨vs,H1,I1,r1,q1⟩:=zz;obtain⟨j,e,⟨xs,hq⟩,q⟩:=q1;subst e;cases r1 with
 |cons r rr =>
  cases rr;cases r;obtain⟨aa,rv,p,hz⟩:=I1.list hq;refine call_enumerate_list p.isList λ h' he hit hsz hk=>?_;refine wpAny_pyIter_enum (s:={s1 with heap:=h' }) he ?_;have I2:Inv X pins σ H1 {s1 with heap:=h' }:=I1.kept (t':=s1.toks) hk;refine⟨_,[s1.heap.objs.size+1,s1.heap.objs.size],_,_,H1,rfl,I2,YA j _ _ (Nat.succ_ne_self _),⟨⟨_,he⟩,hit⟩,λ b hb=>?_,q⟩;rcases zaa.mp hb with z|z
  ·rw[z];exact I1.Tn (Nat.le_succ _) (I1.Aw.fresh (Nat.le_succ _))
  ·rw[za7.mp z];exact I1.Tn (zag _) (I1.Aw.fresh (zag _))
end
noncomputable def BV {α:Type}(o:Option (α×List Int))(b:α×List Int):Option (α×List Int):=match o with | none=>some b | some c=>if HT.lexLt b.2 c.2=true then some b else some c
noncomputable def Bj {α:Type}(bs:List (α×List Int)):Option (α×List Int):=bs.foldl BV none
noncomputable def K9 (bs:List (Addr×List Int)):Array Value:=match Bj bs with | none=>#[] | some b=>#[.ref b.1,.ref b.1]
theorem Jz {α:Type}(bs:List (α×List Int))(b:α×List Int):Bj (bs++[b])=match Bj bs with | none=>some b | some c=>if HT.lexLt b.2 c.2=true then some b else some c:=by
 unfold Bj;rw[List.foldl_append];rfl
theorem QV {α:Type}:∀(bs:List (α×List Int)) (b:α×List Int),Bj bs=some b->b∈bs:=by
 intro bs
 suffices h:∀(bs:List (α×List Int)) (o:Option (α×List Int)) (b:α×List Int),bs.foldl BV o=some b->b∈bs\/o=some b by
  intro b hb;rcases h bs none b hb with q|q
  ·exact q
  ·cases q
 intro bs;induction bs with
 |nil=>intro o b h;exact .inr h
 |cons x r ih =>
  intro o b h;rw[zav] at h;rcases ih _ _ h with q|q
  ·exact .inl (za4 _ q)
  ·cases o with
   |none=>cases q;exact .inl za3
   |some c =>
    unfold BV at q;dsimp only at q;split at q
    ·cases q;exact .inl za3
    ·exact .inr q
theorem JA {α:Type}(o:Option (α×List Int))(b:α×List Int):BV o b≠none:=by
 unfold BV;split
 ·intro z;cases z
 ·split<;>(intro z;cases z)
theorem Od {α:Type}:∀ {bs:List (α×List Int)},bs≠[]->Bj bs≠none:=by
 intro bs h;unfold Bj
 suffices z:∀(bs:List (α×List Int)) (o:Option (α×List Int)),o≠none->bs.foldl BV o≠none by
  cases bs with
  |nil=>exact (h rfl).elim
  |cons b r=>rw[zav];exact z r _ (JA _ _)
 intro bs;induction bs with
 |nil=>intro o h;exact h
 |cons b r ih=>intro o h;rw[zav];exact ih _ (JA _ _)
noncomputable def vT (o:Option Value):List (Str×Value):=o.toList.map λ d=>(Str.ofString "default",d)
theorem cR (a:Value)(o:Option Value):argsOk "min" ⟨[a],vT o⟩:=by cases o<;>(unfold argsOk;kernel_rfl)
section
variable {prog:Program}{w:World}{A:Around}{R:Result->Shared->Prop}
theorem cS (bs:List (Addr×List Int))(tv:Addr->Array Value)(l I S:Addr)(o:Option Value)(pc:o=none->bs≠[])(hh:A.handled=none)(hu:A.in1.units<cLine)(me:S≠I)(gh:l≠I)(uq:l≠S)(pd:∀b∈bs,b.1≠I/\b.1≠S)
 (hk:∀b∈bs,IntsAre (tv b.1).toList b.2):∀(k j:Nat) (s:Shared) (c:Nat),bs.length-j=k->j<=bs.length->s.heap.IsListIter I l j->s.heap.IsList l (bs.map λ b=>zbm b.1).toArray->(∀b∈bs,IsTup s.heap b.1 (tv b.1))->
  s.heap.get? S=some {cls:=.type "list",dict:=none,data:=.seq (K9 (bs.take j)) c,slots:=#[]} ->
  (∀h' tk,(∀b o,b≠I->b≠S->s.heap.get? b=some o->h'.get? b=some o)->R (.ok (.ret (match Bj bs with|none=>o.getD .none|some b=>.ref b.1))) {s with heap:=h',toks:=tk})->
  codeAny (model prog w) A (.builtin "min.loop" ⟨[.ref I,.none,.ref S],vT o⟩) R s:=by
 have aZ:(toString "min" ++ toString ".loop" : String) = "min.loop" := by decide
 intro k;induction k with
 |zero =>
  intro j s c hr hj hit hl ht hS hR;have bo:j=bs.length:=by omega
  subst bo;rw[zbx] at hS;refine codeAny_builtin PySem.F.entry_min_loop ?_;rw[zco zch _];show wpAny _ A.in1 (seqItems? (.ref S) >>= _) _ _ s;refine wpAny_bind (wpAny_seqItems hS rfl ?_);show wpAny _ A.in1 (tryCatch (pyNext (.ref I)) _ >>= _) _ _ s;refine wpAny_bind (wpAny_tryCatch (wpAny_pyNext_list_end (A:=A.in1) hh hit hl (by simp) λ h' eb=>?_));have ba:h'.get? S=_:=eb S _ me hS;unfold K9 at ba;cases hb:Bj bs with
  |none =>
   unfold K9;rw[hb];cases o with
   |none=>exact (Od (pc rfl) hb).elim
   |some d =>
   show wpAny _ A.in1 (rule _ >>= _) _ _ _;refine wpAny_bind (wpAny_rule (wpAny_pure ?_));have q:=hR h' s.toks λ b o h1 h2 e=>eb b o h1 e;rw[hb] at q;exact q
  |some b =>
   rw[hb] at ba;unfold K9;rw[hb];show wpAny _ A.in1 (updateSeq S (λ _=>#[]) >>= _) _ _ _;refine wpAny_bind ?_;refine wpAny_updateSeq ba rfl (wpAny_bind (wpAny_letGo (wpAny_pure ?_)));have q:=hR (h'.update S (Obj.mapSeq λ _=>#[])) s.toks λ b o h1 h2 e=>(Heap.get?_update_other _ _ (zbi h2)).trans (eb b o h1 e);rw[hb] at q;exact q
 |succ k ih =>
  intro j s c hr hj hit hl ht hS hR;have af:j<bs.length:=by omega
  have ej:bs.take (j+1)=bs.take j++[bs[j]]:=by rw[zc4,za8 af];rfl
  have mj:bs[j]∈bs:=List.getElem_mem af;refine codeAny_builtin PySem.F.entry_min_loop ?_;rw[zco zch _];show wpAny _ A.in1 (seqItems? (.ref S) >>= _) _ _ s;refine wpAny_bind (wpAny_seqItems hS rfl ?_);show wpAny _ A.in1 (tryCatch (pyNext (.ref I)) _ >>= _) _ _ s;refine wpAny_bind (wpAny_tryCatch (wpAny_pyNext_list_item (A:=A.in1) hit hl (x:=.ref bs[j].1) (by simp[af]) λ h' bp sb=>?_));have eh:zd1 I s.heap h':=sb;have ba:h'.get? S=_:=(eh.2 S me).trans hS;have cz:h'.IsList l (bs.map λ b=>zbm b.1).toArray:=hl.at λ o e=>(eh.2 l gh).trans e;have jg:∀b∈bs,IsTup h' b.1 (tv b.1):=λ b hb=>by
   obtain⟨o,ho,r⟩:=ht b hb;exact⟨o,(eh.2 b.1 (pd b hb).1).trans ho,r⟩
  cases hb:Bj (bs.take j) with
  |none =>
   unfold K9 at ba ⊢;rw[hb] at ba ⊢;show wpAny _ A.in1 (updateSeq S (λ _=>#[.ref bs[j].1,.ref bs[j].1]) >>= _) _ _ _;refine wpAny_bind ?_;refine wpAny_updateSeq ba rfl ?_;rw[aZ];have s1:=Heap.SameBut.update h' S (Obj.mapSeq λ _=>(#[.ref bs[j].1,.ref bs[j].1]:Array Value));refine wpAny_pure ⟨plainId_quiet zch _,ih (j+1) _ (c+1) (by omega) af (bp.at λ o e=>(s1.2 I (zbi me)).trans e) (cz.at λ o e=>(s1.2 l uq).trans e) (λ b hb=>?_) ?_ λ jh tk cg=>?_⟩
   ·obtain⟨o,ho,r⟩:=jg b hb;exact⟨o,(s1.2 b.1 (pd b hb).2).trans ho,r⟩
   ·refine (Heap.get?_update_self _ ba rfl).trans ?_;unfold K9;rw[ej,Jz,hb];rfl
   ·exact hR jh tk λ b o h1 h2 e=>cg b o h1 h2 ((s1.2 b h2).trans ((eh.2 b h1).trans e))
  |some m =>
   have mm:m∈bs:=zcd (QV _ _ hb);unfold K9 at ba ⊢;rw[hb] at ba ⊢;show wpAny _ A.in1 (tryCatch (holding [.ref bs[j].1,.ref bs[j].1] (richCompare .Lt (.ref bs[j].1) (.ref m.1) >>= _)) _ >>= _) _ _ _;refine wpAny_bind (wpAny_tryCatch (wpAny_holding (wpAny_bind (HT.O3 (jg _ mj) (jg _ mm) (hk _ mj) (hk _ mm) hu ?_))));refine wpAny_bind (wpAny_holding (wpAny_truthy_bool ?_));refine wpAny_bind (wpAny_letGo (wpAny_pure ?_));cases hc:HT.lexLt bs[j].2 m.2 with
   |true =>
    simp only[if_true];have s1:=Heap.SameBut.update h' S (Obj.mapSeq λ _=>(#[.ref bs[j].1,.ref bs[j].1]:Array Value));refine wpAny_bind ?_;refine wpAny_updateSeq ba rfl (wpAny_bind (wpAny_letGo ?_));rw[aZ];refine wpAny_pure ⟨plainId_quiet zch _,ih (j+1) _ c (by omega) af (bp.at λ o e=>(s1.2 I (zbi me)).trans e) (cz.at λ o e=>(s1.2 l uq).trans e) (λ b hb=>?_) ?_ λ jh tk cg=>?_⟩
    ·obtain⟨o,ho,r⟩:=jg b hb;exact⟨o,(s1.2 b.1 (pd b hb).2).trans ho,r⟩
    ·refine (Heap.get?_update_self _ ba rfl).trans ?_;unfold K9;rw[ej,Jz,hb];simp only[hc,if_true];rfl
    ·exact hR jh tk λ b o h1 h2 e=>cg b o h1 h2 ((s1.2 b h2).trans ((eh.2 b h1).trans e))
   |false =>
    simp only[zat,if_false];refine wpAny_bind (wpAny_letGo ?_);rw[aZ];refine wpAny_pure ⟨plainId_quiet zch _,ih (j+1) _ c (by omega) af bp cz jg ?_ λ jh tk cg=>?_⟩
    ·refine ba.trans ?_;unfold K9;rw[ej,Jz,hb];simp only[hc,zat,if_false]
    ·exact hR jh tk λ b o h1 h2 e=>cg b o h1 h2 ((eh.2 b h1).trans e)
theorem Oe {E:Value->Shared->Prop}{s:Shared}{Q:Value->Shared->Prop}(bs:List (Addr×List Int))(tv:Addr->Array Value)(l:Addr)(o:Option Value)(pc:o=none->bs≠[])(hh:A.handled=none)(hu:A.in1.units<cLine)
 (hl:s.heap.IsList l (bs.map λ b=>zbm b.1).toArray) (ht:∀b∈bs,IsTup s.heap b.1 (tv b.1)) (hk:∀b∈bs,IntsAre (tv b.1).toList b.2)
 (hQ:∀h' tk,(∀b o,s.heap.get? b=some o->h'.get? b=some o)->Q (match Bj bs with|none=>o.getD .none|some b=>.ref b.1) {s with heap:=h',toks:=tk}):
 wpAny (model prog w) A (call (.builtin "min") [.ref l] (vT o)) Q E s:=by
 have aZ:(toString "min" ++ toString ".loop" : String) = "min.loop" := by decide
 obtain⟨ol,pe,_⟩:=id hl;have hll:l<s.heap.objs.size:=zaf pe;refine kmk_tree PySem.F.kind_min PySem.F.plain_min PySem.F.entry_min (cR _ _) ?_;show wpAny _ A.in1 (Builtin.Builtins.bindParams "min" ["key","default"] 0 ⟨[],vT o⟩ >>= _) _ _ s;refine wpAny_bind (wpAny_of_eq (show Builtin.Builtins.bindParams "min" ["key","default"] 0 ⟨[],vT o⟩=pure [none,o] by cases o<;>rfl) ?_);refine wpAny_bind (wpAny_pure ?_);refine wpAny_bind (wpAny_pyIter_list hl ?_);refine wpAny_bind (wpAny_newList ?_ (zbc _));rw[aZ];have hS:(s.heap.push {cls:=.type "list_iterator",data:=.fields #[.ref l,.int 0 0]}).objs.size=s.heap.objs.size+1:=Heap.size_push ..;have old:∀b o,s.heap.get? b=some o->b≠s.heap.objs.size/\b≠(s.heap.push {cls:=.type "list_iterator",data:=.fields #[.ref l,.int 0 0]}).objs.size:=λ b o e=>⟨zar (zaf e),by rw[hS];exact zar (Nat.lt_succ_of_lt (zaf e))⟩;have grow:∀b o,s.heap.get? b=some o->((s.heap.push {cls:=.type "list_iterator",data:=.fields #[.ref l,.int 0 0]}).push {cls:=.type "list",data:=.seq #[]}).get? b=some o:=λ b o e=>zab _ (zab _ e);refine wpAny_pure ⟨plainId_quiet zch _,?_⟩;refine cS bs tv l s.heap.objs.size (s.heap.push {cls:=.type "list_iterator",data:=.fields #[.ref l,.int 0 0]}).objs.size o pc hh hu (by rw[hS];exact Nat.succ_ne_self _) (old l ol pe).1 (old l ol pe).2 (λ b hb=>?_) hk _ 0 _ 0 rfl (zbc _) ?_ ?_ (λ b hb=>?_) ?_ ?_
 ·obtain⟨o,ho,_⟩:=ht b hb;exact old b.1 o ho
 ·exact⟨_,zab _ (zap _ rfl),rfl,rfl⟩
 ·exact hl.at λ o e=>grow l o e
 ·obtain⟨o,ho,r⟩:=ht b hb;exact⟨o,grow b.1 o ho,r⟩
 ·exact zap _ rfl
 ·intro h' tk ji;exact hQ h' tk λ b o e=>ji b o (old b o e).1 (old b o e).2 (grow b o e)
end
section
variable {X:Cx}{e e2:Expr}{te td:TE}{p pos kp:Pos}
noncomputable def vU (K:za0)(te td:TE):TE:=λ σ H Q=>te σ H λ x H1=>td σ H1 λ d H2=>∃(a:Addr) (bs:List (Addr×List Int)),x=.ref a/\CO K H2 a (bs.map λ b=>V.ref b.1)/\(∀b∈bs,F9 K H2 b.1 (b.2.map V.int))/\Q (match Bj bs with | none=>d | some b=>.ref b.1) H2
theorem LX:∀ {bs:List (Addr×List Int)}{us:List Value},Vals (bs.map λ b=>V.ref b.1) us->us=bs.map λ b=>zbm b.1
 |[],_,.nil=>rfl
 |b::r,_,.cons h t=>by cases h;rw[LX t];rfl
theorem jS (hc:X.calm=true)(hu:X.A.units+1<cLine)(hg:Gl X "min")(hm:X.mg "min" = none)(he:PE X e te)(hd:PE X e2 td)
 (aD:starEach [e] X.env=[(false,eval e X.env)]:=by rfl) (aF:(backToKw pos (keywordEach [⟨some "default",e2,kp⟩] X.env)).all (·.1.isSome)=true:=by rfl) (pf:(backToKw pos (keywordEach [⟨some "default",e2,kp⟩] X.env)).filterMap (·.1)=([("default" : Str)]:List Str):=by rfl)
 (ph:(backToKw pos (keywordEach [⟨some "default",e2,kp⟩] X.env)).any (·.1.isNone)=false:=by rfl) (ci:backTo pos (starEach [e] X.env)=(false,eval e X.env)::backTo pos (starEach [] X.env):=by rfl) (hpl:(backTo pos (starEach [e] X.env)).any (·.1)=false:=by rfl):
 PE X (.Call (.Name "min" p) [e] [⟨some "default",e2,kp⟩] pos) (vU X.K te td):=by
 intro pins s σ H Q I h;refine wpAny_Call_Name_kw (Dl I hg hm boot_min ?_ (by decide) (by decide));refine callWith_kw (Bh ((Bi he Cs (hs:=aD)) pos pins s σ H (λ vs H1=>match vs with|[x]=>td σ H1 λ d H2=>∃(a:Addr) (bs:List (Addr×List Int)),x=.ref a/\CO X.K H2 a (bs.map λ b=>V.ref b.1)/\(∀b∈bs,F9 X.K H2 b.1 (b.2.map V.int))/\Q (match Bj bs with|none=>d|some b=>.ref b.1) H2|_=>False) I h) λ us s1 zz=>?_) ci hpl aF ph;obtain⟨vs,H1,I1,r1,q1⟩:=zz;obtain⟨x,rfl⟩:∃x,vs=[x]:=by
  match vs,q1 with
  |[x],_=>exact⟨x,rfl⟩
 refine Bh ((iY hd qH) pos pins s1 σ H1 (λ zs H2=>match zs with|[d]=>∃(a:Addr) (bs:List (Addr×List Int)),x=.ref a/\CO X.K H2 a (bs.map λ b=>V.ref b.1)/\(∀b∈bs,F9 X.K H2 b.1 (b.2.map V.int))/\Q (match Bj bs with|none=>d|some b=>.ref b.1) H2|_=>False) I1 q1) λ ws s2 zz=>?_;obtain⟨zs,H2,I2,r2,q2⟩:=zz;obtain⟨d,rfl⟩:∃d,zs=[d]:=by
  match zs,q2 with
  |[d],_=>exact⟨d,rfl⟩
 obtain⟨a,bs,rfl,hl,hb,q⟩:=q2;obtain⟨ua,rfl,ra⟩:=r1.one;obtain⟨ud,rfl,rd⟩:=r2.one;cases ra;rw[pf];obtain⟨aa,rv,pl,hz⟩:=I2.list hl;have ei:=LX rv;subst ei;have tv:∀a:Addr,∃t:Array Value,∀b∈bs,b.1=a->IsTup s2.heap a t/\IntsAre t.toList b.2:=λ a=>by
  by_cases cj:∃b∈bs,b.1=a
  ·obtain⟨b,cj,rfl⟩:=cj;obtain⟨ts,rt,pt,_⟩:=I2.tuple (hb b cj);refine⟨ts.toArray,λ b' ax e=>⟨pt,?_⟩⟩;have q2:=hb b' ax;rw[e] at q2;have e2:=I2.FC q2 (hb b cj);rw[<-e2] at rt;simpa using intsAre_of rt
  ·exact⟨#[],λ b ax e=>absurd ⟨b,ax,e⟩ cj⟩
 refine Oe bs (λ b=>za6 (tv b)) a (some ud) (λ h=>by cases h) (I2.ok.hd hc) hu pl.isList (λ b ax=>(za1 (tv b.1) b ax rfl).1) (λ b ax=>(za1 (tv b.1) b ax rfl).2) λ h' tk hk=>?_;refine⟨match Bj bs with|none=>d|some b=>.ref b.1,H2,I2.kept (t':=tk) hk,?_,q⟩;cases Bj bs with
 |none=>exact rd
 |some b=>rfl
end
inductive D where
 |AJ|bl (b:Bool)|int (i:Int)|str (x:Str)|tup (ds:List D)|lst (ds:List D)|JX (x:Str)|BB (t:Bool) (ks vs:List D)|ins (x:Str) (ns:List Str) (ds:List D)
noncomputable def Cy:Key->D
 | .inl i=>.int i
 | .inr x=>.str x
def aab (a c:Addr)(h:Heap):Prop:=∃o,h.get? a=some o/\o.cls=.ref c/\PySem.W.notCls o=true
theorem Rd.same {H H':Hp}{a:Addr}{u:HO}(r:Rd H a u)(e:Ak H H'):Rd H' a u:=r.elim (λ h=>.inl (e _ _ h)) λ⟨o,h⟩=>.inr ⟨o,e _ _ h⟩
mutual
inductive BM (K:za0) (H:Hp):V->D->Prop
 |AJ:BM K H .AJ .AJ
 |bl (b):BM K H (.bl b) (.bl b)
 |int (i):BM K H (.int i) (.int i)
 |str (x):BM K H (.str x) (.str x)
 |tup {a xs ds}:H a=some (.tup xs)->Al K H xs ds->BM K H (.ref a) (.tup ds)
 |lst {a xs ds}:CO K H a xs->Al K H xs ds->BM K H (.ref a) (.lst ds)
 |QW {a kvs ds}:Rd H a (.dK kvs)->Al K H (kvs.map zbt) ds->BM K H (.ref a) (.BB false (kvs.map λ kv=>Cy kv.1) ds)
 |S5 {a kvs ds}:Rd H a (.dT kvs)->Al K H (kvs.map zbt) ds->BM K H (.ref a) (.BB true (kvs.map λ kv=>.tup (kv.1.map Cy)) ds)
 |ins {a C dx fs x ds}:zb1 K mainGlobals x=some (some (.ref C))->H a=some (.ins C dx fs)->Al K H (fs.map zbt) ds->BM K H (.ref a) (.ins x (fs.map zb0) ds)
 |JX {a c x}:zb1 K mainGlobals x=some (some (.ref c))->H a=some (.ext (aab a c))->BM K H (.ref a) (.JX x)
inductive Al (K:za0) (H:Hp):List V->List D->Prop
 |nil:Al K H [] []
 |cons {x d xs ds}:BM K H x d->Al K H xs ds->Al K H (x::xs) (d::ds)
end
theorem Al.length {K:za0}{H:Hp}:∀ {xs:List V}{ds:List D},Al K H xs ds->xs.length=ds.length
 |_,_,.nil=>rfl
 |_,_,.cons _ t=>by rw[za9,za9,Al.length t]
theorem Al.get {K:za0}{H:Hp}:∀ {xs:List V}{ds:List D}{i:Nat}{d:D},Al K H xs ds->ds[i]?=some d->∃x,xs[i]?=some x/\BM K H x d
 |_,_,_,_,.nil,e=>by simp at e
 |_,_,0,_,.cons r _,e=>by simp at e;subst e;exact⟨_,rfl,r⟩
 |_,_,i+1,d,.cons _ t,e=>by
  obtain⟨u,h1,h2⟩:=Al.get (i:=i) (d:=d) t (by simpa using e);exact⟨u,by simpa using h1,h2⟩
theorem Al.qX {K:za0}{H:Hp}:∀ {xs:List V}{ds:List D}{i:Nat}{x:V},Al K H xs ds->xs[i]?=some x->∃d,ds[i]?=some d/\BM K H x d
 |_,_,_,_,.nil,e=>by simp at e
 |_,_,0,_,.cons r _,e=>by simp at e;subst e;exact⟨_,rfl,r⟩
 |_,_,i+1,d,.cons _ t,e=>by
  obtain⟨u,h1,h2⟩:=Al.qX (i:=i) (x:=d) t (by simpa using e);exact⟨u,by simpa using h1,h2⟩
theorem Al.append {K:za0}{H:Hp}:∀ {xs ys:List V}{ds es:List D},Al K H xs ds->Al K H ys es->Al K H (xs++ys) (ds++es)
 |_,_,_,_,.nil,h=>h
 |_,_,_,_,.cons r t,h=>.cons r (Al.append t h)
theorem Al.snoc {K:za0}{H:Hp}{xs:List V}{ds:List D}{x:V}{d:D}(h:Al K H xs ds)(r:BM K H x d):Al K H (xs++[x]) (ds++[d]):=h.append (.cons r .nil)
theorem Al.take {K:za0}{H:Hp}:∀ {xs:List V}{ds:List D}(n:Nat),Al K H xs ds->Al K H (xs.take n) (ds.take n)
 |_,_,0,_|_,_,_+1,.nil=>.nil
 |_,_,n+1,.cons r t=>.cons r (Al.take n t)
theorem Al.drop {K:za0}{H:Hp}:∀ {xs:List V}{ds:List D}(n:Nat),Al K H xs ds->Al K H (xs.drop n) (ds.drop n)
 |_,_,0,r=>r
 |_,_,_+1,.nil=>.nil
 |_,_,n+1,.cons _ t=>Al.drop n t
theorem Al.ints {K:za0}{H:Hp}:∀(ns:List Int),Al K H (ns.map V.int) (ns.map D.int)
 |[]=>.nil
 |n::r=>.cons (.int n) (Al.ints r)
theorem Ak.aac {K:za0}{H H':Hp}{a:Addr}{xs:List V}(e:Ak H H')(h:F9 K H a xs):F9 K H' a xs:=by
 rcases h with (h|⟨o,h⟩)|h
 ·exact .inl (.inl (e _ _ h))
 ·exact .inl (.inr ⟨o,e _ _ h⟩)
 ·exact .inr h
mutual
theorem BM.mono {K:za0}{H H':Hp}(e:Ak H H'):∀ {v:V}{d:D},BM K H v d->BM K H' v d
 |_,_,.AJ=>.AJ
 |_,_,.bl b=>.bl b
 |_,_,.int i=>.int i
 |_,_,.str x=>.str x
 |_,_,.tup h r=>.tup (e _ _ h) (Al.mono e r)
 |_,_,.lst h r=>.lst (e.seq h) (Al.mono e r)
 |_,_,.QW h r=>.QW (h.same e) (Al.mono e r)
 |_,_,.S5 h r=>.S5 (h.same e) (Al.mono e r)
 |_,_,.ins n h r=>.ins n (e _ _ h) (Al.mono e r)
 |_,_,.JX h r=>.JX h (e _ _ r)
theorem Al.mono {K:za0}{H H':Hp}(e:Ak H H'):∀ {vs:List V}{ds:List D},Al K H vs ds->Al K H' vs ds
 |_,_,.nil=>.nil
 |_,_,.cons h t=>.cons (BM.mono e h) (Al.mono e t)
end
theorem AO {H:Hp}{p:Addr}(h:H p=none)(o:HO):Ak H (upd H p o):=λ b u q=>by rw[Ah (AH q h)];exact q
mutual
noncomputable def Br:D->D->Bool
 | .AJ,.AJ=>true
 | .bl a,.bl b| .int a,.int b| .str a,.str b=>a==b
 | .bl a,.int b=>(if a then 1 else 0)==b
 | .int a,.bl b=>a==(if b then 1 else 0)
 | .tup a,.tup b| .lst a,.lst b=>Cn a b
 | .JX a,.JX b=>a==b
 | .BB s a b,.BB t c d=>(s==t)&&(Cn a c&&Cn b d)
 | .ins x n a,.ins y m b=>(x==y)&&((n==m)&&Cn a b)
 |_,_=>false
noncomputable def Cn:List D->List D->Bool
 |[],[]=>true
 |a::r,b::t=>Br a b&&Cn r t
 |_,_=>false
end
mutual
theorem Of:∀d:D,Br d d=true
 | .AJ=>by simp[Br]
 | .bl b| .int b| .str b=>by simp[Br]
 | .tup b| .lst b=>by simp only[Br];exact CP b
 | .JX b=>by simp[Br]
 | .BB s a b=>by simp only[Br];rw[CP a,CP b];simp
 | .ins x n a=>by simp only[Br];rw[CP a];simp
theorem CP:∀d:List D,Cn d d=true
 |[]=>by simp[Cn]
 |a::r=>by simp only[Cn,Of a,CP r,Bool.and_true]
end
mutual
noncomputable def Cc:D->Bool
 | .tup a| .lst a=>LY a
 | .JX _| .BB _ _ _| .ins _ _ _=>false
 |_=>true
noncomputable def LY:List D->Bool
 |[]=>true
 |a::r=>Cc a&&LY r
end
theorem S6:∀ {ds:List D}{d:D},d∈ds->LY ds=true->Cc d=true
 |a::r,d,h,q=>by
  rw[LY,zb5] at q;rcases zaa.mp h with z|z
  ·subst z;exact q.1
  ·exact S6 z q.2
mutual
noncomputable def S7:D->Nat
 | .tup a| .lst a=>S8 a+1
 |_=>0
noncomputable def S8:List D->Nat
 |[]=>0
 |a::r=>max (S7 a) (S8 r)
end
theorem Xa:∀ {ds:List D}{d:D},d∈ds->S7 d<=S8 ds
 |a::r,d,h=>by
  rw[S8];rcases zaa.mp h with z|z
  ·subst z;exact Nat.le_max_left _ _
  ·exact zbq (Xa z) (Nat.le_max_right _ _)
theorem TM:∀ {a b:List D},Cn a b=true->a.length=b.length
 |[],[],_=>rfl
 |[],_::_,h|_::_,[],h=>by simp[Cn] at h
 |a::r,b::t,h=>by
  simp only[Cn,zb5] at h;rw[za9,za9,TM h.2]
theorem JB:∀(a b:List D),a.length=b.length->(zb6 a.length).all (λ j=>Br (a.getD j .AJ) (b.getD j .AJ))=Cn a b
 |[],[],_=>by simp[Cn]
 |a::r,b::t,h=>by
  have ih:=JB r t (by simpa using h);rw[za9,List.range_succ_eq_map,List.all_cons,List.all_map,Cn,<-ih];simp[Function.comp_def]
 |[],_::_,h|_::_,[],h=>by cases h
theorem Xb {a b:List D}(h:a.length≠b.length):Cn a b=false:=by
 cases e:Cn a b with
 |false=>rfl
 |true=>exact absurd (TM e) h
theorem cT (a b:List D):((zb6 (min a.length b.length)).all (λ j=>Br (a.getD j .AJ) (b.getD j .AJ))&&(a.length==b.length))=Cn a b:=by
 by_cases h:a.length=b.length
 ·rw[<-JB a b h,h];simp
 ·rw[Xb h,beq_false_of_ne h,Bool.and_false]
section
variable {X:Cx}{pins:List (Addr×Obj)}{σ:St}{H:Hp}{s:Shared}
theorem Xc (I:Inv X pins σ H s){a:Addr}{xs ys:List V}(h:CO X.K H a xs)(h':F9 X.K H a ys):False:=by
 obtain⟨aa,_,⟨o,n,e,c,_,_⟩,_⟩:=I.list h;obtain⟨its',_,⟨o',e',c',_⟩,_⟩:=I.tuple h';rw[e] at e';cases e';rw[c] at c';revert c';decide
mutual
theorem jT (I:Inv X pins σ H s):∀ {v:V}{d d':D},Cc d=true->Cc d'=true->BM X.K H v d->BM X.K H v d'->d=d'
 |_,_,_,_,_,.AJ,.AJ|_,_,_,_,_,.bl _,.bl _|_,_,_,_,_,.int _,.int _|_,_,_,_,_,.str _,.str _=>rfl
 |_,_,_,n1,n2,.tup h r,.tup h' r'=>by
  have e:=I.FC (.of h) (.of h');subst e;rw[Hi I (by rw[Cc] at n1;exact n1) (by rw[Cc] at n2;exact n2) r r']
 |_,_,_,n1,n2,.lst h r,.lst h' r'=>by
  have e:=I.EC h h';subst e;rw[Hi I (by rw[Cc] at n1;exact n1) (by rw[Cc] at n2;exact n2) r r']
 |_,_,_,_,_,.tup h _,.lst h' _=>(Xc I h' (.of h)).elim
 |_,_,_,_,_,.lst h _,.tup h' _=>(Xc I h (.of h')).elim
 |_,_,_,n1,_,.JX _ _,_|_,_,_,n1,_,.QW _ _,_|_,_,_,n1,_,.S5 _ _,_|_,_,_,n1,_,.ins _ _ _,_=>by rw[Cc] at n1;cases n1
 |_,_,_,_,n2,_,.JX _ _|_,_,_,_,n2,_,.QW _ _|_,_,_,_,n2,_,.S5 _ _|_,_,_,_,n2,_,.ins _ _ _=>by rw[Cc] at n2;cases n2
theorem Hi (I:Inv X pins σ H s):∀ {v:List V}{d d':List D},LY d=true->LY d'=true->Al X.K H v d->Al X.K H v d'->d=d'
 |_,_,_,_,_,.nil,.nil=>rfl
 |_,_,_,n1,n2,.cons h r,.cons h' r'=>by
  rw[LY,zb5] at n1 n2;rw[jT I n1.1 n2.1 h h',Hi I n1.2 n2.2 r r']
end
theorem vat {xs:List V}{aa:List Value}(r:Vals xs aa)(j:Nat)(h:j<aa.toArray.size):∃x,xs[j]?=some x/\RelV x aa.toArray[j]:=by
 have h':j<aa.length:=by simpa using h
 have hx:j<xs.length:=by rw[r.length];exact h'
 obtain⟨u,hu,ru⟩:=r.get (za8 hx);rw[za8 h'] at hu;refine⟨xs[j],za8 hx,?_⟩;have e:aa.toArray[j]=u:=by simpa using hu
 rw[e];exact ru
theorem Xd {ds:List D}{j:Nat}{d:D}(h:ds[j]?=some d):ds.getD j .AJ=d:=by rw[zb7,h];rfl
theorem nQ (I:Inv X pins σ H s)(n:Nat):∀(A:Around) (d e:D) (v w:V) (u1 u2:Value),S7 d<=n->Cc d=true->Cc e=true->A.units+n<cLine->BM X.K H v d->BM X.K H w e->RelV v u1->RelV w u2->SeqAt.EqAt A s u1 u2 (Br d e)/\SeqAt.RcAt A s u1 u2 (Br d e)/\SeqAt.RcNeAt A s u1 u2 (!Br d e):=by
 induction n using Nat.strongRecOn with
 |ind n ih =>
  intro A d e v w u1 u2 hd aA ar hu h1 h2 r1 r2;have ai:A.units<cLine:=by omega
  have el:∀ {xs ys:List V} {ds es:List D} {aa its':List Value},Vals xs aa->Vals ys its'->Al X.K H xs ds->Al X.K H ys es->LY ds=true->LY es=true->S8 ds<n->∀(j:Nat) (h1:j<aa.toArray.size) (h2:j<its'.toArray.size),SeqAt.EqAt A.in1 s aa.toArray[j] its'.toArray[j] (Br (ds.getD j .AJ) (es.getD j .AJ)):=λ rv bw r r' n1 n2 hn j h1 h2=>by
   obtain⟨x,hx,rx⟩:=vat rv j h1;obtain⟨y,hy,ry⟩:=vat bw j h2;obtain⟨dx,ex,wm⟩:=r.qX hx;obtain⟨dy,ey,wn⟩:=r'.qX hy;rw[Xd ex,Xd ey];exact (ih _ hn A.in1 dx dy x y _ _ (Xa (zao ex)) (S6 (zao ex) n1) (S6 (zao ey) n2) (by show A.units+1+_<cLine;omega) wm wn rx ry).1
  cases h1 with
  |JX _ _|QW _ _|S5 _ _|ins _ _ _=>simp[Cc] at aA
  |AJ =>
   cases r1;cases h2 with
   |JX _ _|QW _ _|S5 _ _|ins _ _ _=>simp[Cc] at ar
   |AJ=>cases r2;simp only[Br];exact⟨.same _,.none_none,.none_none⟩
   |bl b=>cases r2;simp only[Br];exact⟨.none_bool _,.none_bool _,.none_bool _⟩
   |int b=>obtain⟨t,rfl⟩:=r2;simp only[Br];exact⟨.none_int _ _,.none_int _ _,.none_int _ _⟩
   |str b=>obtain⟨t,rfl⟩:=r2;simp only[Br];exact⟨.none_str _ _,.none_str _ _,.none_str _ _⟩
   |tup h r=>cases r2;simp only[Br];obtain⟨_,_,p,_⟩:=I.tuple (.of h);exact⟨.none_tuple p ai,.none_tuple p ai,.none_tuple p ai⟩
   |lst h r=>cases r2;simp only[Br];obtain⟨_,_,p,_⟩:=I.list h;exact⟨.none_list p.isList ai,.none_list p.isList ai,.none_list p.isList ai⟩
  |bl a =>
   cases r1;cases h2 with
   |JX _ _|QW _ _|S5 _ _|ins _ _ _=>simp[Cc] at ar
   |AJ=>cases r2;simp only[Br];exact⟨.bool_none _,.bool_none _,.bool_none _⟩
   |bl b=>cases r2;simp only[Br];exact⟨.bool_bool _ _,.bool_bool _ _,.bool_bool _ _⟩
   |int b=>obtain⟨t,rfl⟩:=r2;simp only[Br];exact⟨.bool_int _ _ _,.bool_int _ _ _,.bool_int _ _ _⟩
   |str b=>obtain⟨t,rfl⟩:=r2;simp only[Br];exact⟨.bool_str _ _ _,.bool_str _ _ _,.bool_str _ _ _⟩
   |tup h r=>cases r2;simp only[Br];obtain⟨_,_,p,_⟩:=I.tuple (.of h);exact⟨.bool_tuple _ p ai,.bool_tuple _ p ai,.bool_tuple _ p ai⟩
   |lst h r=>cases r2;simp only[Br];obtain⟨_,_,p,_⟩:=I.list h;exact⟨.bool_list _ p.isList ai,.bool_list _ p.isList ai,.bool_list _ p.isList ai⟩
  |int a =>
   obtain⟨t',rfl⟩:=r1;cases h2 with
   |JX _ _|QW _ _|S5 _ _|ins _ _ _=>simp[Cc] at ar
   |AJ=>cases r2;simp only[Br];exact⟨.int_none _ _,.int_none _ _,.int_none _ _⟩
   |bl b=>cases r2;simp only[Br];exact⟨.int_bool _ _ _,.int_bool _ _ _,.int_bool _ _ _⟩
   |int b=>obtain⟨t,rfl⟩:=r2;simp only[Br];exact⟨.int_int _ _ _ _,.int_int _ _ _ _,.int_int _ _ _ _⟩
   |str b=>obtain⟨t,rfl⟩:=r2;simp only[Br];exact⟨.int_str _ _ _ _,.int_str _ _ _ _,.int_str _ _ _ _⟩
   |tup h r=>cases r2;simp only[Br];obtain⟨_,_,p,_⟩:=I.tuple (.of h);exact⟨.int_tuple _ _ p ai,.int_tuple _ _ p ai,.int_tuple _ _ p ai⟩
   |lst h r=>cases r2;simp only[Br];obtain⟨_,_,p,_⟩:=I.list h;exact⟨.int_list _ _ p.isList ai,.int_list _ _ p.isList ai,.int_list _ _ p.isList ai⟩
  |str a =>
   obtain⟨t',rfl⟩:=r1;cases h2 with
   |JX _ _|QW _ _|S5 _ _|ins _ _ _=>simp[Cc] at ar
   |AJ=>cases r2;simp only[Br];exact⟨.str_none _ _,.str_none _ _,.str_none _ _⟩
   |bl b=>cases r2;simp only[Br];exact⟨.str_bool _ _ _,.str_bool _ _ _,.str_bool _ _ _⟩
   |int b=>obtain⟨t,rfl⟩:=r2;simp only[Br];exact⟨.str_int _ _ _ _,.str_int _ _ _ _,.str_int _ _ _ _⟩
   |str b=>obtain⟨t,rfl⟩:=r2;simp only[Br];exact⟨.str_str _ _ _ _,.str_str _ _ _ _,.str_str _ _ _ _⟩
   |tup h r=>cases r2;simp only[Br];obtain⟨_,_,p,_⟩:=I.tuple (.of h);exact⟨.str_tuple _ _ p ai,.str_tuple _ _ p ai,.str_tuple _ _ p ai⟩
   |lst h r=>cases r2;simp only[Br];obtain⟨_,_,p,_⟩:=I.list h;exact⟨.str_list _ _ p.isList ai,.str_list _ _ p.isList ai,.str_list _ _ p.isList ai⟩
  | @tup a xs ds h r =>
   cases r1;obtain⟨aa,rv,p,_⟩:=I.tuple (.of h);cases h2 with
   |JX _ _|QW _ _|S5 _ _|ins _ _ _=>simp[Cc] at ar
   |AJ=>cases r2;simp only[Br];exact⟨.tuple_none p ai,.tuple_none p ai,.tuple_none p ai⟩
   |bl b=>cases r2;simp only[Br];exact⟨.tuple_bool _ p ai,.tuple_bool _ p ai,.tuple_bool _ p ai⟩
   |int b=>obtain⟨t,rfl⟩:=r2;simp only[Br];exact⟨.tuple_int _ _ p ai,.tuple_int _ _ p ai,.tuple_int _ _ p ai⟩
   |str b=>obtain⟨t,rfl⟩:=r2;simp only[Br];exact⟨.tuple_str _ _ p ai,.tuple_str _ _ p ai,.tuple_str _ _ p ai⟩
   | @lst a2 pj es h' r'=>cases r2;simp only[Br];obtain⟨_,_,p',_⟩:=I.list h';exact⟨.tuple_list p p'.isList ai,.tuple_list p p'.isList ai,.tuple_list p p'.isList ai⟩
   | @tup a2 pj es h' r' =>
    cases r2;obtain⟨its',bw,p',_⟩:=I.tuple (.of h');have z1:aa.toArray.size=ds.length:=by rw[zad,<-rv.length,r.length]
    have z2:its'.toArray.size=es.length:=by rw[zad,<-bw.length,r'.length]
    have hj:=el rv bw r r' (by rw[Cc] at aA;exact aA) (by rw[Cc] at ar;exact ar) (by rw[S7] at hd;omega);have q:=SeqAt.RcAt.tuples (A:=A) (e:=λ j=>Br (ds.getD j .AJ) (es.getD j .AJ)) p p' ai hj;have q':=SeqAt.RcNeAt.tuples (A:=A) (e:=λ j=>Br (ds.getD j .AJ) (es.getD j .AJ)) p p' ai hj;rw[z1,z2,cT] at q q';simp only[Br];by_cases ha:a=a2
    ·subst ha;have e':=I.FC (.of h) (.of h');subst e';have e2:=Hi I (by rw[Cc] at aA;exact aA) (by rw[Cc] at ar;exact ar) r r';subst e2;rw[CP] at q q' ⊢;exact⟨.same _,q,q'⟩
    ·exact⟨.of_refs ha q,q,q'⟩
  | @lst a xs ds h r =>
   cases r1;obtain⟨aa,rv,p,_⟩:=I.list h;cases h2 with
   |JX _ _|QW _ _|S5 _ _|ins _ _ _=>simp[Cc] at ar
   |AJ=>cases r2;simp only[Br];exact⟨.list_none p.isList ai,.list_none p.isList ai,.list_none p.isList ai⟩
   |bl b=>cases r2;simp only[Br];exact⟨.list_bool _ p.isList ai,.list_bool _ p.isList ai,.list_bool _ p.isList ai⟩
   |int b=>obtain⟨t,rfl⟩:=r2;simp only[Br];exact⟨.list_int _ _ p.isList ai,.list_int _ _ p.isList ai,.list_int _ _ p.isList ai⟩
   |str b=>obtain⟨t,rfl⟩:=r2;simp only[Br];exact⟨.list_str _ _ p.isList ai,.list_str _ _ p.isList ai,.list_str _ _ p.isList ai⟩
   | @tup a2 pj es h' r'=>cases r2;simp only[Br];obtain⟨_,_,p',_⟩:=I.tuple (.of h');exact⟨.list_tuple p.isList p' ai,.list_tuple p.isList p' ai,.list_tuple p.isList p' ai⟩
   | @lst a2 pj es h' r' =>
    cases r2;obtain⟨its',bw,p',_⟩:=I.list h';have z1:aa.toArray.size=ds.length:=by rw[zad,<-rv.length,r.length]
    have z2:its'.toArray.size=es.length:=by rw[zad,<-bw.length,r'.length]
    have hj:=el rv bw r r' (by rw[Cc] at aA;exact aA) (by rw[Cc] at ar;exact ar) (by rw[S7] at hd;omega);have qq:SeqAt.RcAt A s (.ref a) (.ref a2) (Cn ds es)/\SeqAt.RcNeAt A s (.ref a) (.ref a2) (!Cn ds es):=by
     by_cases hz:aa.toArray.size=its'.toArray.size
     ·have q:=SeqAt.RcAt.lists (A:=A) (e:=λ j=>Br (ds.getD j .AJ) (es.getD j .AJ)) p.isList p'.isList hz ai hj;have q':=SeqAt.RcNeAt.lists (A:=A) (e:=λ j=>Br (ds.getD j .AJ) (es.getD j .AJ)) p.isList p'.isList hz ai hj;rw[z1,JB ds es (by rw[<-z1,<-z2,hz])] at q q';exact⟨q,q'⟩
     ·rw[Xb (by rw[<-z1,<-z2];exact hz)];exact⟨.lists_lengths p.isList p'.isList (by simpa using hz) ai,.lists_lengths p.isList p'.isList (by simpa using hz) ai⟩
    obtain⟨q,q'⟩:=qq;simp only[Br];by_cases ha:a=a2
    ·subst ha;have e':=I.EC h h';subst e';have e2:=Hi I (by rw[Cc] at aA;exact aA) (by rw[Cc] at ar;exact ar) r r';subst e2;rw[CP] at q q' ⊢;exact⟨.same _,q,q'⟩
    ·exact⟨.of_refs ha q,q,q'⟩
noncomputable def jU (K:za0)(A:Around)(neg:Bool):R2:=λ x y H Q=>∃d e,BM K H x d/\BM K H y e/\A.units+S7 d<cLine/\Cc d=true/\Cc e=true/\Q (.bl (if neg=true then !Br d e else Br d e)) H
theorem cU:G7 X (compareOp .Eq) (jU X.K X.A false):=by
 intro pins s σ H x y v u Q I rx ry h;obtain⟨d,e,hd,he,hu,n1,n2,q⟩:=h;exact (nQ I (S7 d) X.A d e x y v u (zag _) n1 n2 hu hd he rx ry).2.1 X.prog X.w X.xe _ ⟨.bl _,H,I,rfl,q⟩
theorem qY:G7 X (compareOp .NotEq) (jU X.K X.A true):=by
 intro pins s σ H x y v u Q I rx ry h;obtain⟨d,e,hd,he,hu,n1,n2,q⟩:=h;exact (nQ I (S7 d) X.A d e x y v u (zag _) n1 n2 hu hd he rx ry).2.2 X.prog X.w X.xe _ ⟨.bl _,H,I,rfl,q⟩
end
inductive OT where
 |sh (d:D)|lst (ts:List OT)|tup (ts:List OT)|BB (t:Bool) (ks:List D) (ts:List OT)|ins (x:Str) (ns:List Str) (ts:List OT)
inductive Ow where
 |rows (G5:List (List D))
 |MD (p:Nat) (ds:List D)
 |tree (p:Option Nat) (t:OT)
inductive Cl where
 |val (d:D)|own (ds:List D)|ow (o:Ow)
noncomputable abbrev Aj:=List (Option Cl)
inductive M (α:Type) where
 |ok (a:α)|ex (c:Str)|bad
noncomputable def M.bind {α β:Type}(m:M α)(k:α->M β):M β:=match m with
 | .ok a=>k a
 | .ex c=>.ex c
 | .bad=>.bad
@[simp] theorem M.Ad {α β:Type}(a:α) (k:α->M β):(M.ok a).bind k=k a:=rfl
theorem YB {α β:Type}{m:M α}{k:α->M β}{G:M β->Prop}{R:M α->Prop}(h:G (m.bind k))(hk:∀a,G (k a)->R (.ok a))(hb:G .bad->R .bad:=by exact λ h=>h)(hx:∀x,G (.ex x)->R (.ex x):=by exact λ _ h=>h):R m:=by
 cases m with
 |ok a=>exact hk a h
 |ex x=>exact hx x h
 |bad=>exact hb h
noncomputable def del (H:Hp)(P:Addr->Prop):Hp:=λ a=>open Classical in if P a then none else H a
theorem Az {H:Hp}{P:Addr->Prop}{a:Addr}(h:¬ P a):del H P a=H a:=by unfold del;rw[if_neg h]
theorem Ga {H:Hp}{P:Addr->Prop}{a:Addr}(h:P a):del H P a=none:=by unfold del;rw[if_pos h]
theorem Ao {H:Hp}{P:Addr->Prop}{a:Addr}{o:HO}(h:del H P a=some o):¬ P a/\H a=some o:=by
 by_cases hp:P a
 ·rw[Ga hp] at h;cases h
 ·rw[Az hp] at h;exact⟨hp,h⟩
theorem Rd.AV {H:Hp}{P:Addr->Prop}{a:Addr}{u:HO}(r:Rd (del H P) a u):Rd H a u:=r.elim (λ h=>.inl (Ao h).2) λ⟨o,h⟩=>.inr ⟨o,(Ao h).2⟩
theorem Ak.del {H H':Hp}{P:Addr->Prop}(e:Ak H H'):Ak (del H P) (del H' P):=λ b o h=>by
 obtain⟨h1,h2⟩:=Ao h;rw[Az h1];exact e b o h2
theorem D3 {H:Hp}{P P':Addr->Prop}(h:∀a,P' a->P a):Ak (L2.del H P) (L2.del H P'):=λ b o e=>by
 obtain⟨h1,h2⟩:=Ao e;rw[Az λ z=>h1 (h b z)];exact h2
theorem EE {H:Hp}{P:Addr->Prop}:Ak (L2.del H P) H:=λ b o e=>(Ao e).2
def F7 (H:Hp)(a:Addr):Prop:=∃o,H a=some o/\∀xs,o≠.tup xs/\∀z,o≠.GD z (.tup xs)
theorem F7.same {H H':Hp}{a:Addr}(h:F7 H a)(e:Ak H H'):F7 H' a:=let ⟨o,q,r⟩:=h;⟨o,e a o q,r⟩
theorem F7.no {H:Hp}{a:Addr}(h:F7 H a)(e:H a=none):False:=by
 obtain⟨o,q,r⟩:=h;rw[e] at q;cases q
theorem F7.lst {H:Hp}{a:Addr}{xs:List V}(h:H a=some (.lst xs)):F7 H a:=⟨_,h,λ _=>⟨λ z=>(by cases z),λ _ z=>by cases z⟩⟩
mutual
inductive C1 (K:za0) (H:Hp) (P:Addr->Prop):V->OT->List Addr->Prop
 |sh {v d}:BM K (del H P) v d->C1 K H P v (.sh d) []
 |lst {p xs ts fp}:H p=some (.lst xs)->AB K H P xs ts fp->C1 K H P (.ref p) (.lst ts) (p::fp)
 |tup {p xs ts fp}:del H P p=some (.tup xs)->AB K H P xs ts fp->C1 K H P (.ref p) (.tup ts) fp
 |dK {p kvs ts fp}:H p=some (.dK kvs)->AB K H P (kvs.map zbt) ts fp->C1 K H P (.ref p) (.BB false (kvs.map λ kv=>Cy kv.1) ts) (p::fp)
 |dT {p kvs ts fp}:H p=some (.dT kvs)->AB K H P (kvs.map zbt) ts fp->C1 K H P (.ref p) (.BB true (kvs.map λ kv=>.tup (kv.1.map Cy)) ts) (p::fp)
 |ins {p C dx fs ts fp x}:zb1 K mainGlobals x=some (some (.ref C))->H p=some (.ins C dx fs)->AB K H P (fs.map zbt) ts fp->C1 K H P (.ref p) (.ins x (fs.map zb0) ts) (p::fp)
inductive AB (K:za0) (H:Hp) (P:Addr->Prop):List V->List OT->List Addr->Prop
 |nil:AB K H P [] [] []
 |cons {v t fp vs ts fq}:C1 K H P v t fp->AB K H P vs ts fq->AB K H P (v::vs) (t::ts) (fp++fq)
end
mutual
noncomputable def er:OT->D
 | .sh d=>d
 | .lst ts=>.lst (Qa ts)
 | .tup ts=>.tup (Qa ts)
 | .BB t ks ts=>.BB t ks (Qa ts)
 | .ins x ns ts=>.ins x ns (Qa ts)
noncomputable def Qa:List OT->List D
 |[]=>[]
 |t::r=>er t::Qa r
end
theorem Xe:∀ts:List OT,Qa ts=ts.map er
 |[]=>rfl
 |t::r=>by rw[Qa,Xe r,za5]
mutual
theorem C1.move {K:za0}{H H':Hp}{P P':Addr->Prop}(sm:Ak (del H P) (del H' P')):∀ {v:V}{t:OT}{fp:List Addr},(∀a∈fp,H' a=H a)->C1 K H P v t fp->C1 K H' P' v t fp
 |_,_,_,_,.sh h=>.sh (h.mono sm)
 |_,_,_,k,.lst h r=>.lst ((k _ za3).trans h) (AB.move sm (λ a ha=>k a (za4 _ ha)) r)
 |_,_,_,k,.tup h r=>.tup (sm _ _ h) (AB.move sm k r)
 |_,_,_,k,.dK h r=>.dK ((k _ za3).trans h) (AB.move sm (λ a ha=>k a (za4 _ ha)) r)
 |_,_,_,k,.dT h r=>.dT ((k _ za3).trans h) (AB.move sm (λ a ha=>k a (za4 _ ha)) r)
 |_,_,_,k,.ins n h r=>.ins n ((k _ za3).trans h) (AB.move sm (λ a ha=>k a (za4 _ ha)) r)
theorem AB.move {K:za0}{H H':Hp}{P P':Addr->Prop}(sm:Ak (del H P) (del H' P')):∀ {v:List V}{t:List OT}{fp:List Addr},(∀a∈fp,H' a=H a)->AB K H P v t fp->AB K H' P' v t fp
 |_,_,_,_,.nil=>.nil
 |_,_,_,k,.cons h r=>.cons (C1.move sm (λ a ha=>k a (zb3 _ ha)) h) (AB.move sm (λ a ha=>k a (zac _ ha)) r)
end
mutual
theorem C1.Cr {K:za0}{H:Hp}{P:Addr->Prop}:∀ {v:V}{t:OT}{fp:List Addr},C1 K H P v t fp->∀a∈fp,F7 H a
 |_,_,_,.sh h,a,ha=>by cases ha
 |_,_,_,.lst h r,a,ha=>by
  rcases zaa.mp ha with rfl|ha
  ·exact .lst h
  ·exact AB.Cr r a ha
 |_,_,_,.tup h r,a,ha=>AB.Cr r a ha
 |_,_,_,.dK h r,a,ha=>by
  rcases zaa.mp ha with rfl|ha
  ·exact⟨_,h,λ _=>⟨λ z=>(by cases z),λ _ z=>by cases z⟩⟩
  ·exact AB.Cr r a ha
 |_,_,_,.dT h r,a,ha=>by
  rcases zaa.mp ha with rfl|ha
  ·exact⟨_,h,λ _=>⟨λ z=>(by cases z),λ _ z=>by cases z⟩⟩
  ·exact AB.Cr r a ha
 |_,_,_,.ins n h r,a,ha=>by
  rcases zaa.mp ha with rfl|ha
  ·exact⟨_,h,λ _=>⟨λ z=>(by cases z),λ _ z=>by cases z⟩⟩
  ·exact AB.Cr r a ha
theorem AB.Cr {K:za0}{H:Hp}{P:Addr->Prop}:∀ {v:List V}{t:List OT}{fp:List Addr},AB K H P v t fp->∀a∈fp,F7 H a
 |_,_,_,.nil,a,ha=>by cases ha
 |_,_,_,.cons h r,a,ha=>by
  rcases zan.mp ha with ha|ha
  ·exact C1.Cr h a ha
  ·exact AB.Cr r a ha
end
mutual
theorem C1.Cd {K:za0}{H:Hp}{P P':Addr->Prop}:∀ {v:V}{t:OT}{fp ag:List Addr},C1 K H P v t fp->C1 K H P' v t ag->fp=ag
 |_,_,_,_,.sh _,.sh _=>rfl
 |_,_,_,_,.lst h r,.lst h' r'=>by
  rw[h] at h';cases h';rw[AB.Cd r r']
 |_,_,_,_,.tup h r,.tup h' r'=>by
  have e:=(Ao h).2.symm.trans (Ao h').2;cases e;exact AB.Cd r r'
 |_,_,_,_,.dK (kvs:=kvs) (ts:=ts) h r,x=>by
  generalize ht:OT.BB false (kvs.map λ kv=>Cy kv.1) ts=t at x;cases x with
  |dK h' r' =>
   rw[h] at h';cases h';injection ht with _ _ e
   subst e;rw[AB.Cd r r']
  |dT h' r'=>rw[h] at h';cases h'
  |_=>cases ht
 |_,_,_,_,.dT (kvs:=kvs) (ts:=ts) h r,x=>by
  generalize ht:OT.BB true (kvs.map λ kv=>D.tup (kv.1.map Cy)) ts=t at x;cases x with
  |dT h' r' =>
   rw[h] at h';cases h';injection ht with _ _ e
   subst e;rw[AB.Cd r r']
  |dK h' r'=>rw[h] at h';cases h'
  |_=>cases ht
 |_,_,_,_,.ins (fs:=fs) (ts:=ts) (x:=y) n h r,x=>by
  generalize ht:OT.ins y (fs.map zb0) ts=t at x;cases x with
  |ins n' h' r' =>
   rw[h] at h';cases h';injection ht with _ _ e
   subst e;rw[AB.Cd r r']
  |_=>cases ht
theorem AB.Cd {K:za0}{H:Hp}{P P':Addr->Prop}:∀ {v:List V}{t:List OT}{fp ag:List Addr},AB K H P v t fp->AB K H P' v t ag->fp=ag
 |_,_,_,_,.nil,.nil=>rfl
 |_,_,_,_,.cons h r,.cons h' r'=>by rw[C1.Cd h h',AB.Cd r r']
end
mutual
theorem C1.has {K:za0}{H:Hp}{P P0:Addr->Prop}(hs:∀a,P0 a->P a):∀ {v:V}{t:OT}{fp:List Addr},(∀a∈fp,¬ P0 a)->C1 K H P v t fp->BM K (del H P0) v (er t)
 |_,_,_,_,.sh h=>by rw[er];exact h.mono (D3 hs)
 |_,_,_,k,.lst h r=>by rw[er];exact .lst (.of (show del H P0 _=_ by rw[Az (k _ za3)];exact h)) (AB.has hs (λ a ha=>k a (za4 _ ha)) r)
 |_,_,_,k,.tup h r=>by rw[er];exact .tup (D3 hs _ _ h) (AB.has hs k r)
 |_,_,_,k,.dK h r=>by rw[er];exact .QW (.inl (show del H P0 _=_ by rw[Az (k _ za3)];exact h)) (AB.has hs (λ a ha=>k a (za4 _ ha)) r)
 |_,_,_,k,.dT h r=>by rw[er];exact .S5 (.inl (show del H P0 _=_ by rw[Az (k _ za3)];exact h)) (AB.has hs (λ a ha=>k a (za4 _ ha)) r)
 |_,_,_,k,.ins n h r=>by rw[er];exact .ins n (show del H P0 _=_ by rw[Az (k _ za3)];exact h) (AB.has hs (λ a ha=>k a (za4 _ ha)) r)
theorem AB.has {K:za0}{H:Hp}{P P0:Addr->Prop}(hs:∀a,P0 a->P a):∀ {v:List V}{t:List OT}{fp:List Addr},(∀a∈fp,¬ P0 a)->AB K H P v t fp->Al K (del H P0) v (Qa t)
 |_,_,_,_,.nil=>by rw[Qa];exact .nil
 |_,_,_,k,.cons h r=>by rw[Qa];exact .cons (C1.has hs (λ a ha=>k a (zb3 _ ha)) h) (AB.has hs (λ a ha=>k a (zac _ ha)) r)
end
inductive D4 (K:za0) (H:Hp) (P:Addr->Prop):List Addr->List (List D)->Prop
 |nil:D4 K H P [] []
 |cons {q:Addr} {xs:List V} {ds:List D} {ps:List Addr} {G5:List (List D)}:H q=some (.lst xs)->Al K (del H P) xs ds->D4 K H P ps G5->D4 K H P (q::ps) (ds::G5)
def D5 (K:za0)(H:Hp)(P:Addr->Prop):Cl->V->List Addr->Prop
 | .own ds,v,fp=>∃p xs,v=.ref p/\fp=[p]/\H p=some (.lst xs)/\Al K (del H P) xs ds
 | .ow (.rows G5),v,fp=>∃p ps,v=.ref p/\fp=p::ps/\H p=some (.lst (ps.map V.ref))/\D4 K H P ps G5
 | .ow (.MD _ ds),v,fp=>∃p xs,v=.ref p/\fp=[p]/\H p=some (.lst xs)/\Al K (del H P) xs ds
 | .ow (.tree _ t),v,fp=>C1 K H P v t fp
 | .val _,_,_=>False
noncomputable def Hj:Cl->Bool
 | .val _=>false
 |_=>true
theorem D4.move {K:za0}{H H':Hp}{P P':Addr->Prop}(sm:Ak (del H P) (del H' P')):∀ {ps:List Addr}{G5:List (List D)},(∀a∈ps,H' a=H a)->D4 K H P ps G5->D4 K H' P' ps G5
 |_,_,_,.nil=>.nil
 |_,_,k,.cons h r t=>.cons ((k _ za3).trans h) (r.mono sm) (D4.move sm (λ a ha=>k a (za4 _ ha)) t)
theorem D4.at {K:za0}{H:Hp}{P:Addr->Prop}:∀ {ps:List Addr}{G5:List (List D)},D4 K H P ps G5->∀a∈ps,∃xs,H a=some (.lst xs)
 |_,_,.nil,a,h=>by cases h
 |_,_,.cons h r t,a,ha=>by
  rcases zaa.mp ha with rfl|ha
  ·exact⟨_,h⟩
  ·exact t.at a ha
theorem TN:∀ {ps qs:List Addr},ps.map V.ref=qs.map V.ref->ps=qs
 |[],[],_=>rfl
 |[],_::_,h|_::_,[],h=>by cases h
 |p::ps,q::qs,h=>by
  rw[za5,za5] at h;injection h with h1 h2
  injection h1 with h1
  rw[h1,TN h2]
theorem D5.move {K:za0}{H H':Hp}{P P':Addr->Prop}(sm:Ak (del H P) (del H' P')){c:Cl}{v:V}{fp:List Addr}(k:∀a∈fp,H' a=H a)(h:D5 K H P c v fp):D5 K H' P' c v fp:=by
 cases c with
 |val d=>exact h
 |own ds =>
  obtain⟨p,xs,rfl,rfl,h1,h2⟩:=h;exact⟨p,xs,rfl,rfl,(k p za3).trans h1,h2.mono sm⟩
 |ow o =>
  cases o with
  |rows G5 =>
   obtain⟨p,ps,rfl,rfl,h1,h2⟩:=h;exact⟨p,ps,rfl,rfl,(k p za3).trans h1,h2.move sm λ a ha=>k a (za4 _ ha)⟩
  |MD p ds =>
   obtain⟨p,xs,rfl,rfl,h1,h2⟩:=h;exact⟨p,xs,rfl,rfl,(k p za3).trans h1,h2.mono sm⟩
  |tree p t=>exact C1.move sm k h
theorem D5.at {K:za0}{H:Hp}{P:Addr->Prop}{c:Cl}{v:V}{fp:List Addr}(h:D5 K H P c v fp):∀a∈fp,∃o,H a=some o:=by
 cases c with
 |val d=>exact h.elim
 |own ds =>
  obtain⟨p,xs,rfl,rfl,h1,h2⟩:=h;exact λ a ha=>⟨.lst xs,by rw[za7.mp ha];exact h1⟩
 |ow o =>
  cases o with
  |rows G5 =>
   obtain⟨p,ps,rfl,rfl,h1,h2⟩:=h;intro a ha;rcases zaa.mp ha with rfl|ha
   ·exact⟨_,h1⟩
   ·obtain⟨xs,q⟩:=h2.at a ha;exact⟨_,q⟩
  |MD p ds =>
   obtain⟨p,xs,rfl,rfl,h1,h2⟩:=h;exact λ a ha=>⟨.lst xs,by rw[za7.mp ha];exact h1⟩
  |tree p t =>
   intro a ha;obtain⟨o,q,_⟩:=C1.Cr h a ha;exact⟨o,q⟩
theorem D5.same {K:za0}{H H':Hp}{P:Addr->Prop}(e:Ak H H'){c:Cl}{v:V}{fp:List Addr}(h:D5 K H P c v fp):D5 K H' P c v fp:=
 h.move e.del λ a ha=>by obtain⟨xs,q⟩:=h.at a ha;rw[q];exact e _ _ q
theorem D5.Cd {K:za0}{H:Hp}{P P':Addr->Prop}{c:Cl}{v:V}{fp ag:List Addr}(h:D5 K H P c v fp)(h':D5 K H P' c v ag):fp=ag:=by
 cases c with
 |val d=>exact h.elim
 |own ds =>
  obtain⟨p,xs,rfl,rfl,h1,h2⟩:=h;obtain⟨p',em,e,rfl,mf,gi⟩:=h';cases e;rfl
 |ow o =>
  cases o with
  |rows G5 =>
   obtain⟨p,ps,rfl,rfl,h1,h2⟩:=h;obtain⟨p',ps',e,rfl,mf,gi⟩:=h';cases e;rw[h1] at mf;injection mf with e
   injection e with e
   rw[TN e]
  |MD p ds =>
   obtain⟨p,xs,rfl,rfl,h1,h2⟩:=h;obtain⟨p',em,e,rfl,mf,gi⟩:=h';cases e;rfl
  |tree p t=>exact C1.Cd h h'
structure E8 where
 pr:Addr->Prop
 g:Nat->Addr
instance:CoeFun E8 (λ _=>Addr->Prop):=⟨E8.pr⟩
instance:Coe E8 (Addr->Prop):=⟨E8.pr⟩
noncomputable def QX:Cl->Option Nat
 | .ow (.MD n _)=>some n
 | .ow (.tree (some n) _)=>some n
 |_=>none
structure Aq (K:za0)(P0:E8)(P:Addr->Prop)(H:Hp)(σ:St)(ρ:Aj):Prop where
 sub:∀a,P0 a->P a
 Cr:∀a,P a->F7 H a
 val:∀(i:Nat) d,ρ[i]?=some (some (.val d))->∃v,σ[i]?=some (some v)/\BM K (del H P) v d
 ows:∀(i:Nat) c,ρ[i]?=some (some c)->Hj c=true->∃v fp,σ[i]?=some (some v)/\D5 K H P c v fp/\(∀a∈fp,P a/\¬ P0 a)/\fp.Nodup
 apart:∀(i j:Nat) c c' v v' fp ag,ρ[i]?=some (some c)->ρ[j]?=some (some c')->σ[i]?=some (some v)->σ[j]?=some (some v')->D5 K H P c v fp->D5 K H P c' v' ag->i≠j->∀a∈fp,a∉ag
 len:σ.length=ρ.length
 pin:∀(i:Nat) c n,ρ[i]?=some (some c)->QX c=some n->σ[i]?=some (some (.ref (P0.g n)))
theorem Aq.own {K:za0}{P0:E8}{P:Addr->Prop}{H:Hp}{σ:St}{ρ:Aj}(E:Aq K P0 P H σ ρ)(i:Nat)(ds:List D)(h:ρ[i]?=some (some (.own ds))):
 ∃p xs,σ[i]?=some (some (.ref p))/\H p=some (.lst xs)/\P p/\¬ P0 p/\Al K (del H P) xs ds:=by
 obtain⟨v,fp,h1,⟨p,xs,rfl,rfl,h2,h3⟩,h4,_⟩:=E.ows i _ h rfl;exact⟨p,xs,h1,h2,(h4 p za3).1,(h4 p za3).2,h3⟩
theorem Aq.cV {K:za0}{P0:E8}{P P':Addr->Prop}{H H':Hp}{σ:St}{ρ:Aj}(E:Aq K P0 P H σ ρ)(sm:Ak (del H P) (del H' P')){i j:Nat}{c c':Cl}{v v':V}{fp ag:List Addr}
 (ki:∀v fp,σ[i]?=some (some v)->D5 K H P c v fp->∀a∈fp,H' a=H a) (kj:∀v fp,σ[j]?=some (some v)->D5 K H P c' v fp->∀a∈fp,H' a=H a)
 (hi:ρ[i]?=some (some c)) (hj:ρ[j]?=some (some c')) (si:σ[i]?=some (some v)) (sj:σ[j]?=some (some v')) (h:D5 K H' P' c v fp) (h':D5 K H' P' c' v' ag) (ad:i≠j):∀a∈fp,a∉ag:=by
 have key:∀(k:Nat) (d:Cl) (w:V) (fq:List Addr),ρ[k]?=some (some d)->σ[k]?=some (some w)->(∀v fp,σ[k]?=some (some v)->D5 K H P d v fp->∀a∈fp,H' a=H a)->D5 K H' P' d w fq->D5 K H P d w fq:=λ k d w fq hk sk kk ho=>by
  have io:Hj d=true:=by cases d<;>first|rfl|exact ho.elim
  obtain⟨w',b8,s2,o2,_⟩:=E.ows k d hk io;rw[sk] at s2;cases s2;have o3:=o2.move sm (kk _ _ sk o2);rw[ho.Cd o3];exact o2
 exact E.apart i j c c' v v' fp ag hi hj si sj (key i c v fp hi si ki h) (key j c' v' ag hj sj kj h') ad
theorem Aq.same {K:za0}{P0:E8}{P:Addr->Prop}{H H':Hp}{σ:St}{ρ:Aj}(E:Aq K P0 P H σ ρ)(e:Ak H H'):Aq K P0 P H' σ ρ:=
 ⟨E.sub,λ a h=>(E.Cr a h).same e,λ i d h=>let ⟨v,h1,h2⟩:=E.val i d h;⟨v,h1,h2.mono e.del⟩,
  λ i c h io=>let ⟨v,fp,h1,h2,h3,h4⟩:=E.ows i c h io;⟨v,fp,h1,h2.same e,h3,h4⟩,
  λ i j c c' v v' fp ag hi hj si sj h h' ad=>E.cV e.del (λ v fp _ o a ha=>by obtain⟨xs,q⟩:=o.at a ha;rw[q];exact e _ _ q) (λ v fp _ o a ha=>by obtain⟨xs,q⟩:=o.at a ha;rw[q];exact e _ _ q) hi hj si sj h h' ad,E.len,E.pin⟩
def gV (K:za0)(WX:Str->Hp->Prop)(P:Addr->Prop)(H:Hp)(Q:VK):M D->Prop
 | .ok d=>∀v H',Ak H H'->BM K (del H' P) v d->Q v H'
 | .ex x=>∀H',Ak H H'->WX x H'
 | .bad=>False
def gA (K:za0)(WX:Str->Hp->Prop)(P:Addr->Prop)(H:Hp)(Q:List V->Hp->Prop):M (List D)->Prop
 | .ok d=>∀v H',Ak H H'->Al K (del H' P) v d->Q v H'
 | .ex x=>∀H',Ak H H'->WX x H'
 | .bad=>False
def gT (WX:Str->Hp->Prop)(H:Hp)(Q:Bool->Hp->Prop):M Bool->Prop
 | .ok b=>∀H',Ak H H'->Q b H'
 | .ex x=>∀H',Ak H H'->WX x H'
 | .bad=>False
section
variable {K:za0}{WX:Str->Hp->Prop}{P:Addr->Prop}{H H':Hp}
theorem gV.same {Q:VK}{m:M D}(h:gV K WX P H Q m)(e:Ak H H'):gV K WX P H' Q m:=by
 cases m with
 |ok d=>exact λ v H2 q hv=>h v H2 (e.trans q) hv
 |ex x=>exact λ H2 q=>h H2 (e.trans q)
 |bad=>exact h
theorem gA.same {Q:List V->Hp->Prop}{m:M (List D)}(h:gA K WX P H Q m)(e:Ak H H'):gA K WX P H' Q m:=by
 cases m with
 |ok d=>exact λ v H2 q hv=>h v H2 (e.trans q) hv
 |ex x=>exact λ H2 q=>h H2 (e.trans q)
 |bad=>exact h
theorem gT.same {Q:Bool->Hp->Prop}{m:M Bool}(h:gT WX H Q m)(e:Ak H H'):gT WX H' Q m:=by
 cases m with
 |ok d|ex x=>exact λ H2 q=>h H2 (e.trans q)
 |bad=>exact h
end
def Lv (c:Bool)(P0:E8)(P:Addr->Prop):Addr->Prop:=if c=true then P else P0.pr
def DE (X:Cx)(WX:Str->Hp->Prop)(c:Bool)(e:Expr)(f:Aj->M D):Prop:=
 ∃t,PE X e t/\∀P0 P σ H Q ρ,Aq X.K P0 P H σ ρ->gV X.K WX (Lv c P0 P) H Q (f ρ)->t σ H Q
def DA (X:Cx)(WX:Str->Hp->Prop)(c:Bool)(es:List Expr)(f:Aj->M (List D)):Prop:=
 ∃t,PA X es t/\(∀P0 P σ H Q ρ,Aq X.K P0 P H σ ρ->gA X.K WX (Lv c P0 P) H Q (f ρ)->t σ H Q)/\∀ρ ds,f ρ=.ok ds->ds.length=es.length
def DT (X:Cx)(WX:Str->Hp->Prop)(e:Expr)(f:Aj->M Bool):Prop:=
 ∃t,PT X e t/\∀P0 P σ H Q ρ,Aq X.K P0 P H σ ρ->gT WX H Q (f ρ)->t σ H Q
def DW (X:Cx)(WX:Str->Hp->Prop)(e:Expr)(f:Aj->M Bool):Prop:=
 ∃t,PW X e t/\∀P0 P σ H Q ρ,Aq X.K P0 P H σ ρ->gT WX H Q (f ρ)->t σ H Q
theorem DW.dt {X:Cx}{WX:Str->Hp->Prop}{e:Expr}{f:Aj->M Bool}(h:DW X WX e f):DT X WX e f:=let ⟨t,h1,h2⟩:=h;⟨t,h1.pt,h2⟩
section
variable {X:Cx}{WX:Str->Hp->Prop}{c:Bool}{P0:E8}{P:Addr->Prop}{H:Hp}{σ:St}{ρ:Aj}
theorem Aq.lv (E:Aq X.K P0 P H σ ρ)(c:Bool):∀a,Lv c P0 P a->P a:=λ a h=>by
 cases c with
 |true=>exact h
 |false=>exact E.sub a h
theorem Aq.vV (E:Aq X.K P0 P H σ ρ)(c:Bool):∀a,Lv c P0 P a->F7 H a:=λ a h=>E.Cr a (E.lv c a h)
theorem VM {e:Expr}{f:Aj->M D}(h:DE X WX true e f):DE X WX false e f:=by
 obtain⟨t,h1,h2⟩:=h;refine⟨t,h1,λ P0 P σ H Q ρ E g=>h2 P0 P σ H Q ρ E ?_⟩;cases e:f ρ with
 |ok d=>rw[e] at g;exact λ v H' s hv=>g v H' s (hv.mono (D3 E.sub))
 |ex x|bad=>rw[e] at g;exact g
noncomputable def vW:D->Bool
 | .tup _ | .lst _ | .JX _ | .BB _ _ _ | .ins _ _ _=>false
 |_=>true
noncomputable def fl (m:M D):M D:=m.bind λ d=>if vW d=true then .ok d else .bad
noncomputable def rv (i:Nat)(ρ:Aj):M D:=match ρ[i]? with | some (some (.val d))=>.ok d | _=>.bad
noncomputable def ra (i:Nat)(ρ:Aj):M D:=match ρ[i]? with | some (some (.val d))=>.ok d | some (some (.own ds))=>.ok (.lst ds) | some (some (.ow (.rows G5)))=>.ok (.lst (G5.map D.lst)) | some (some (.ow (.MD _ ds)))=>.ok (.lst ds) | some (some (.ow (.tree _ t)))=>.ok (er t) | _=>.bad
theorem qZ (i:Nat){x:Str}{pos:Pos}(h:PE X (.Name x pos) (Tg i)):DE X WX true (.Name x pos) (rv i):=by
 refine⟨_,h,λ P0 P σ H Q ρ E g=>?_⟩;unfold rv at g;split at g
 ·rename_i d e;obtain⟨v,h1,h2⟩:=E.val i d e;exact⟨v,h1,g v H (Ak.refl H) h2⟩
 ·exact g.elim
theorem A6 {i j pos}:DE X WX c (.Constant (.int i) j pos) (λ _=>.ok (.int i)):=⟨_,pG,λ P0 P σ H Q ρ E g=>g _ H (Ak.refl H) (.int i)⟩
theorem Cq {b j pos}:DE X WX c (.Constant (.bool b) j pos) (λ _=>.ok (.bl b)):=⟨_,uK,λ P0 P σ H Q ρ E g=>g _ H (Ak.refl H) (.bl b)⟩
theorem C5 {j pos}:DE X WX c (.Constant .none j pos) (λ _=>.ok .AJ):=⟨_,pH,λ P0 P σ H Q ρ E g=>g _ H (Ak.refl H) .AJ⟩
def Xf (K:za0)(WX:Str->Hp->Prop)(r:R2)(aJ:D->D->M D):Prop:=
 ∀(P:Addr->Prop) (H:Hp) (x y:D) (v w:V) (Q:VK),(∀a,P a->F7 H a)->BM K (del H P) v x->BM K (del H P) w y->gV K WX P H Q (aJ x y)->r v w H Q
variable {a b:Expr}{f g:Aj->M D}{pos:Pos}
theorem TQ {ta tb:TE}{r:R2}{aJ:D->D->M D}(ha:∀P0 P σ H Q ρ,Aq X.K P0 P H σ ρ->gV X.K WX (Lv c P0 P) H Q (f ρ)->ta σ H Q)(hb:∀P0 P σ H Q ρ,Aq X.K P0 P H σ ρ->gV X.K WX (Lv c P0 P) H Q (g ρ)->tb σ H Q)
 (hr:Xf X.K WX r aJ) {Q:VK} (E:Aq X.K P0 P H σ ρ) (h:gV X.K WX (Lv c P0 P) H Q ((f ρ).bind λ x=>(g ρ).bind λ y=>aJ x y)):tP r ta tb σ H Q:=by
 refine ha P0 P σ H _ ρ E ?_;cases e:f ρ with
 |bad|ex x=>rw[e] at h;exact h
 |ok x =>
  rw[e] at h;intro v H1 s1 hv;refine hb P0 P σ H1 _ ρ (E.same s1) ?_;cases e2:g ρ with
  |bad=>rw[e2] at h;exact h
  |ex y=>rw[e2] at h;exact gV.same (m:=.ex y) h s1
  |ok y =>
   rw[e2] at h;intro w H2 s2 hw;exact hr _ H2 x y v w Q (λ a q=>((E.same s1).same s2).vV c a q) (hv.mono s2.del) hw ((gV.same h s1).same s2)
theorem QY {op:Operator}{r:R2}{aJ:D->D->M D}(ho:G7 X (binaryOp op) r)(hr:Xf X.K WX r aJ)(ha:DE X WX c a f)(hb:DE X WX c b g):DE X WX c (.BinOp a op b pos) (λ ρ=>(f ρ).bind λ x=>(g ρ).bind λ y=>aJ x y):=by
 obtain⟨ta,a1,a2⟩:=ha;obtain⟨tb,b1,b2⟩:=hb;exact⟨_,bM ho a1 b1,λ P0 P σ H Q ρ E h=>TQ a2 b2 hr E h⟩
theorem VN {op:CmpOp}{r:R2}{aJ:D->D->M D}(ho:G7 X (compareOp op) r)(hr:Xf X.K WX r aJ)(ha:DE X WX c a f)(hb:DE X WX c b g)(hm:behindInMarks op b=false):DE X WX c (.Compare a [op] [b] pos) (λ ρ=>(f ρ).bind λ x=>(g ρ).bind λ y=>aJ x y):=by
 obtain⟨ta,a1,a2⟩:=ha;obtain⟨tb,b1,b2⟩:=hb;exact⟨_,iU ho a1 b1 hm,λ P0 P σ H Q ρ E h=>TQ a2 b2 hr E h⟩
theorem vX {r:R2}{aJ:D->D->M D}(ho:jC X r)(hr:Xf X.K WX r aJ)(ha:DE X WX c a f)(hb:DE X WX c b g)(hs:RY b):DE X WX c (.Subscript a b pos) (λ ρ=>(f ρ).bind λ x=>(g ρ).bind λ y=>aJ x y):=by
 obtain⟨ta,a1,a2⟩:=ha;obtain⟨tb,b1,b2⟩:=hb;exact⟨_,vH ho a1 b1 hs,λ P0 P σ H Q ρ E h=>TQ a2 b2 hr E h⟩
noncomputable def Bk (k:Int->Int->M D)(x y:D):M D:=match x,y with | .int i,.int j=>k i j | _,_=>.bad
theorem BM.int_inv {K:za0}{H:Hp}{v:V}{i:Int}(h:BM K H v (.int i)):v=.int i:=by cases h;rfl
theorem BM.Og {K:za0}{H:Hp}{v:V}{i:Bool}(h:BM K H v (.bl i)):v=.bl i:=by cases h;rfl
theorem S9 {C:Int->Int->Prop}{gv:Int->Int->V}{gd:Int->Int->D}[∀i j,Decidable (C i j)](hg:∀i j K H,BM K H (gv i j) (gd i j)):Xf X.K WX (rI C gv) (Bk λ i j=>if C i j then .ok (gd i j) else .bad):=by
 intro P H x y v w Q ht hx hy h;unfold Bk at h;split at h
 ·rename_i i j;rw[hx.int_inv,hy.int_inv];dsimp only at h;by_cases hc:C i j
  ·rw[if_pos hc] at h;exact⟨i,j,rfl,rfl,hc,h _ H (Ak.refl H) (hg i j _ _)⟩
  ·rw[if_neg hc] at h;exact h.elim
 ·exact h.elim
theorem Np {gv:Int->Int->V}{gd:Int->Int->D}(hg:∀i j K H,BM K H (gv i j) (gd i j)):Xf X.K WX (ZN gv) (Bk λ i j=>.ok (gd i j)):=by
 intro P H x y v w Q ht hx hy h;unfold Bk at h;split at h
 ·rename_i i j;rw[hx.int_inv,hy.int_inv];exact⟨i,j,rfl,rfl,h _ H (Ak.refl H) (hg i j _ _)⟩
 ·exact h.elim
instance (i j:Int):Decidable (bN i j):=by unfold bN;infer_instance
instance (i j:Int):Decidable (iS i j):=by unfold iS;infer_instance
instance (i j:Int):Decidable (bO i j):=by unfold bO;infer_instance
noncomputable def rA:=Bk λ i j=>.ok (.int (i+j))
noncomputable def vY:=Bk λ i j=>.ok (.int (i-j))
noncomputable def Hk:=Bk λ i j=>if 0<j then .ok (.int (i%j)) else .bad
noncomputable def GG:=Bk λ i j=>if bN i j then .ok (.int (i / j)) else .bad
noncomputable def YC:=Bk λ i j=>if iS i j then .ok (.int (i^j.toNat)) else .bad
noncomputable def dLt:=Bk λ i j=>.ok (.bl (decide (i<j)))
noncomputable def dLe:=Bk λ i j=>.ok (.bl (decide (i<=j)))
noncomputable def dGt:=Bk λ i j=>.ok (.bl (decide (j<i)))
noncomputable def dGe:=Bk λ i j=>.ok (.bl (decide (j<=i)))
theorem BW (ha:DE X WX c a f)(hb:DE X WX c b g):DE X WX c (.BinOp a .Add b pos) (λ ρ=>(f ρ).bind λ x=>(g ρ).bind λ y=>rA x y):=QY pX (Np λ _ _ _ _=>.int _) ha hb
theorem rB (ha:DE X WX c a f)(hb:DE X WX c b g):DE X WX c (.BinOp a .Sub b pos) (λ ρ=>(f ρ).bind λ x=>(g ρ).bind λ y=>vY x y):=QY pY (Np λ _ _ _ _=>.int _) ha hb
theorem C6 (ha:DE X WX c a f)(hb:DE X WX c b g):DE X WX c (.BinOp a .Mod b pos) (λ ρ=>(f ρ).bind λ x=>(g ρ).bind λ y=>Hk x y):=QY pZ (S9 λ _ _ _ _=>.int _) ha hb
theorem D6 (ha:DE X WX c a f)(hb:DE X WX c b g):DE X WX c (.BinOp a .FloorDiv b pos) (λ ρ=>(f ρ).bind λ x=>(g ρ).bind λ y=>GG x y):=QY iT (S9 λ _ _ _ _=>.int _) ha hb
theorem cW (ha:DE X WX c a f)(hb:DE X WX c b g):DE X WX c (.BinOp a .Pow b pos) (λ ρ=>(f ρ).bind λ x=>(g ρ).bind λ y=>YC x y):=QY qA (S9 λ _ _ _ _=>.int _) ha hb
noncomputable def cX (n:Nat)(x y:D):M D:=if S7 x<=n/\Cc x=true/\Cc y=true then .ok (.bl (Br x y)) else .bad
noncomputable def VO (n:Nat)(x y:D):M D:=if S7 x<=n/\Cc x=true/\Cc y=true then .ok (.bl (!Br x y)) else .bad
theorem cY {n:Nat}(hu:X.A.units+n<cLine):Xf X.K WX (jU X.K X.A false) (cX n):=by
 intro P H x y v w Q ht hx hy h;unfold cX at h;by_cases hd:S7 x<=n/\Cc x=true/\Cc y=true
 ·rw[if_pos hd] at h;exact⟨x,y,hx.mono EE,hy.mono EE,by omega,hd.2.1,hd.2.2,h _ H (Ak.refl H) (.bl _)⟩
 ·rw[if_neg hd] at h;exact h.elim
theorem rC {n:Nat}(hu:X.A.units+n<cLine):Xf X.K WX (jU X.K X.A true) (VO n):=by
 intro P H x y v w Q ht hx hy h;unfold VO at h;by_cases hd:S7 x<=n/\Cc x=true/\Cc y=true
 ·rw[if_pos hd] at h;exact⟨x,y,hx.mono EE,hy.mono EE,by omega,hd.2.1,hd.2.2,h _ H (Ak.refl H) (.bl _)⟩
 ·rw[if_neg hd] at h;exact h.elim
theorem TR {n:Nat}(hu:X.A.units+n<cLine)(ha:DE X WX c a f)(hb:DE X WX c b g):DE X WX c (.Compare a [.Eq] [b] pos) (λ ρ=>(f ρ).bind λ x=>(g ρ).bind λ y=>cX n x y):=VN cU (cY hu) ha hb (Ju _)
noncomputable def B0:D->Bool
 | .AJ=>true
 |_=>false
theorem BM.isN {K:za0}{H:Hp}{v:V}{d:D}(h:BM K H v d):decide (v=.AJ)=B0 d:=by
 cases h<;>simp[B0]
theorem cZ {j pos'}(ha:DE X WX c a f):DE X WX c (.Compare a [.Is] [.Constant .none j pos'] pos) (λ ρ=>(f ρ).bind λ x=>.ok (.bl (B0 x))):=by
 obtain⟨ta,a1,a2⟩:=ha;refine⟨_,pI (ZV a1),λ P0 P σ H Q ρ E h=>?_⟩;dsimp only at h;refine a2 P0 P σ H _ ρ E ?_;cases e:f ρ with
 |bad|ex x=>rw[e] at h;exact h
 |ok x=>rw[e] at h;exact λ v H1 s1 hv=>h _ H1 s1 (by rw[hv.isN];exact .bl _)
noncomputable def tR (x y:D):M D:=match x,y with
 | .tup ds,.int i| .lst ds,.int i=>(match X3 ds i with|some d=>.ok d|none=>.bad)
 |_,_=>.bad
theorem Al.X3 {K:za0}{H:Hp}{xs:List V}{ds:List D}{i:Int}{d:D}(h:Al K H xs ds)(e:L2.X3 ds i=some d):∃v,L2.X3 xs i=some v/\BM K H v d:=by
 unfold L2.X3 at e ⊢;rw[<-h.length] at e;cases q:iE xs.length i with
 |none=>rw[q] at e;cases e
 |some j =>
  rw[q] at e;exact h.get e
theorem CO.AV {K:za0}{H:Hp}{P:Addr->Prop}{a:Addr}{xs:List V}(h:CO K (del H P) a xs):CO K H a xs:=EE.seq h
theorem F9.AV {K:za0}{H:Hp}{P:Addr->Prop}{a:Addr}{xs:List V}(h:F9 K (del H P) a xs):F9 K H a xs:=EE.aac h
theorem Hl:Xf X.K WX (λ x y H Q=>qJ X.K x y H Q\/qK X.K x y H Q) tR:=by
 intro P H x y v w Q ht hx hy h;unfold tR at h;split at h
 ·rename_i ds i;split at h
  ·rename_i d e;cases hy;cases hx with
   |tup hs hl =>
    obtain⟨u,h1,h2⟩:=hl.X3 e;exact .inr ⟨_,_,i,u,rfl,rfl,F9.of (Ao hs).2,h1,h _ H (Ak.refl H) h2⟩
  ·exact h.elim
 ·rename_i ds i;split at h
  ·rename_i d e;cases hy;cases hx with
   |lst hs hl =>
    obtain⟨u,h1,h2⟩:=hl.X3 e;exact .inl ⟨_,_,i,u,rfl,rfl,hs.AV,h1,h _ H (Ak.refl H) h2⟩
  ·exact h.elim
 ·exact h.elim
theorem A9:DA X WX c [] (λ _=>.ok []):=⟨_,Cs,λ P0 P σ H Q ρ E h=>h [] H (Ak.refl H) .nil,λ ρ ds h=>by cases h;rfl⟩
theorem A4 {e:Expr}{es:List Expr}{f:Aj->M D}{fs:Aj->M (List D)}(he:DE X WX c e f)(hr:DA X WX c es fs)(hs:starEach (e::es) X.env=(false,eval e X.env)::starEach es X.env:=by rfl):
 DA X WX c (e::es) (λ ρ=>(f ρ).bind λ d=>(fs ρ).bind λ ds=>.ok (d::ds)):=by
 obtain⟨te,e1,e2⟩:=he;obtain⟨tr,r1,r2,r3⟩:=hr;refine⟨_,Bi e1 r1 hs,λ P0 P σ H Q ρ E h=>?_,λ ρ ds h=>?_⟩
 rotate_left
 ·dsimp only at h;cases q:f ρ with
  |bad|ex x=>rw[q] at h;cases h
  |ok x =>
   rw[q] at h;cases q2:fs ρ with
   |bad|ex x=>rw[q2] at h;cases h
   |ok xs =>
    rw[q2] at h;cases h;rw[za9,za9,r3 ρ xs q2]
 dsimp only at h;refine e2 P0 P σ H _ ρ E ?_;cases q:f ρ with
 |bad|ex x=>rw[q] at h;exact h
 |ok x =>
  rw[q] at h;intro v H1 s1 hv;refine r2 P0 P σ H1 _ ρ (E.same s1) ?_;cases q2:fs ρ with
  |bad=>rw[q2] at h;exact h
  |ex y=>rw[q2] at h;exact gA.same (m:=.ex y) h s1
  |ok ds =>
   rw[q2] at h;exact λ vs H2 s2 a7=>h _ H2 (s1.trans s2) (.cons (hv.mono s2.del) a7)
theorem Ka {H:Hp}{P:Addr->Prop}{p:Addr}{o:HO}(hn:H p=none)(ht:∀a,P a->F7 H a):del (upd H p o) P p=some o:=by
 rw[Az λ z=>(ht p z).no hn];exact Ap
theorem AK {es:List Expr}{fs:Aj->M (List D)}{x1}(ha:DA X WX c es fs)(hz:es.length<=1000:=by decide):DE X WX c (.Tuple es x1 pos) (λ ρ=>(fs ρ).bind λ ds=>if ds.length<=1000 then .ok (.tup ds) else .bad):=by
 obtain⟨ta,a1,a2,a3⟩:=ha;refine⟨_,bX a1,λ P0 P σ H Q ρ E h=>?_⟩;dsimp only at h;refine a2 P0 P σ H _ ρ E ?_;cases q:fs ρ with
 |bad|ex y=>rw[q] at h;exact h
 |ok ds =>
  rw[q] at h;simp only[M.Ad] at h;by_cases hd:ds.length<=1000
  ·rw[if_pos hd] at h;intro vs H1 s1 a7;refine⟨zbr (AG (by rw[a7.length];exact hd)),λ p hp=>h _ _ (s1.trans (AO hp _)) (.tup (Ka hp λ a q=>(E.same s1).vV c a q) (a7.mono (AO hp _).del))⟩
  ·rw[if_neg hd] at h;exact h.elim
theorem Hm {es:List Expr}{fs:Aj->M (List D)}(ha:DA X WX c es fs):DE X WX c (.List es pos) (λ ρ=>(fs ρ).bind λ ds=>if ds.length<=1000 then .ok (.lst ds) else .bad):=by
 obtain⟨ta,a1,a2,a3⟩:=ha;refine⟨_,Vz a1,λ P0 P σ H Q ρ E h=>?_⟩;dsimp only at h;refine a2 P0 P σ H _ ρ E ?_;cases q:fs ρ with
 |bad|ex y=>rw[q] at h;exact h
 |ok ds =>
  rw[q] at h;simp only[M.Ad] at h;by_cases hd:ds.length<=1000
  ·rw[if_pos hd] at h;intro vs H1 s1 a7;refine⟨zbr (AG (by rw[a7.length];exact hd)),λ p hp=>h _ _ (s1.trans (AO hp _)) (.lst (.of (Ka hp λ a q=>(E.same s1).vV c a q)) (a7.mono (AO hp _).del))⟩
  ·rw[if_neg hd] at h;exact h.elim
end
noncomputable def Qn (d:D):M Bool:=match d with | .bl b=>.ok b | _=>.bad
section
variable {X:Cx}{WX:Str->Hp->Prop}{c:Bool}{P0:E8}{P:Addr->Prop}{H:Hp}{σ:St}{ρ:Aj}{a b e:Expr}{f g:Aj->M D}{ft gt:Aj->M Bool}{pos:Pos}
theorem nR {WX:Str->Hp->Prop}{P:Addr->Prop}{K:za0}{H:Hp}{Q:Bool->Hp->Prop}{m:M D}(h:gT WX H Q (m.bind Qn)):gV K WX P H (λ x H'=>∃k,x=.bl k/\Q k H') m:=by
 cases m with
 |bad|ex x=>exact h
 |ok d =>
  intro v H' s hv;simp only[M.Ad] at h;unfold Qn at h;split at h
  ·rename_i b;exact⟨b,hv.Og,h H' s⟩
  ·exact h.elim
theorem Gb {op:CmpOp}{r:R2}{aJ:D->D->M D}(ho:G7 X (compareOp op) r)(hr:Xf X.K WX r aJ)(ha:DE X WX c a f)(hb:DE X WX c b g)(hm:behindInMarks op b=false):DT X WX (.Compare a [op] [b] pos) (λ ρ=>((f ρ).bind λ x=>(g ρ).bind λ y=>aJ x y).bind Qn):=by
 obtain⟨ta,a1,a2⟩:=ha;obtain⟨tb,b1,b2⟩:=hb;exact⟨_,iV ho a1 b1 hm,λ P0 P σ H Q ρ E h=>TQ a2 b2 hr E (nR h)⟩
theorem vZ (ha:DE X WX c a f)(hb:DE X WX c b g):DT X WX (.Compare a [.Lt] [b] pos) (λ ρ=>((f ρ).bind λ x=>(g ρ).bind λ y=>dLt x y).bind Qn):=Gb bP (Np λ _ _ _ _=>.bl _) ha hb (Ju _)
theorem wA (ha:DE X WX c a f)(hb:DE X WX c b g):DT X WX (.Compare a [.Gt] [b] pos) (λ ρ=>((f ρ).bind λ x=>(g ρ).bind λ y=>dGt x y).bind Qn):=Gb uZ (Np λ _ _ _ _=>.bl _) ha hb (Ju _)
theorem Kb {n:Nat}(hu:X.A.units+n<cLine)(ha:DE X WX c a f)(hb:DE X WX c b g):DT X WX (.Compare a [.Eq] [b] pos) (λ ρ=>((f ρ).bind λ x=>(g ρ).bind λ y=>cX n x y).bind Qn):=Gb cU (cY hu) ha hb (Ju _)
theorem Eh {n:Nat}(hu:X.A.units+n<cLine)(ha:DE X WX c a f)(hb:DE X WX c b g):DT X WX (.Compare a [.NotEq] [b] pos) (λ ρ=>((f ρ).bind λ x=>(g ρ).bind λ y=>VO n x y).bind Qn):=Gb qY (rC hu) ha hb (Ju _)
theorem Dn {j pos'}(ha:DE X WX c a f):DT X WX (.Compare a [.Is] [.Constant .none j pos'] pos) (λ ρ=>(f ρ).bind λ x=>.ok (B0 x)):=by
 obtain⟨ta,a1,a2⟩:=ha;refine⟨_,ZW (ZV a1),λ P0 P σ H Q ρ E h=>?_⟩;dsimp only at h;refine a2 P0 P σ H _ ρ E ?_;cases e:f ρ with
 |bad|ex x=>rw[e] at h;exact h
 |ok x=>rw[e] at h;exact λ v H1 s1 hv=>⟨_,rfl,by rw[hv.isN];exact h H1 s1⟩
theorem IB {j pos'}(ha:DE X WX c a f):DT X WX (.Compare a [.IsNot] [.Constant .none j pos'] pos) (λ ρ=>(f ρ).bind λ x=>.ok (!B0 x)):=by
 obtain⟨ta,a1,a2⟩:=ha;refine⟨_,ZW (iN a1),λ P0 P σ H Q ρ E h=>?_⟩;dsimp only at h;refine a2 P0 P σ H _ ρ E ?_;cases e:f ρ with
 |bad|ex x=>rw[e] at h;exact h
 |ok x=>rw[e] at h;exact λ v H1 s1 hv=>⟨_,rfl,by rw[hv.isN];exact h H1 s1⟩
theorem BC (ha:DT X WX a ft):DT X WX (.UnaryOp .Not a pos) (λ ρ=>(ft ρ).bind λ b=>.ok (!b)):=by
 obtain⟨ta,a1,a2⟩:=ha;refine⟨_,pJ a1,λ P0 P σ H Q ρ E h=>?_⟩;dsimp only at h;refine a2 P0 P σ H _ ρ E ?_;cases e:ft ρ with
 |bad|ex x=>rw[e] at h;exact h
 |ok x=>rw[e] at h;exact λ H1 s1=>h H1 s1
theorem Gd (ha:DT X WX a ft):DW X WX (.BoolOp .And [a] pos) ft:=let ⟨ta,a1,a2⟩:=ha;⟨_,pw_and1 a1,a2⟩
theorem C7 (ha:DT X WX a ft):DW X WX (.BoolOp .Or [a] pos) ft:=let ⟨ta,a1,a2⟩:=ha;⟨_,pw_or1 a1,a2⟩
theorem Hn {rest:List Expr}(ha:DT X WX a ft)(hb:DW X WX (.BoolOp .And (b::rest) pos) gt):DW X WX (.BoolOp .And (a::b::rest) pos) (λ ρ=>(ft ρ).bind λ k=>if k=true then gt ρ else .ok false):=by
 obtain⟨ta,a1,a2⟩:=ha;obtain⟨tb,b1,b2⟩:=hb;refine⟨_,pw_and a1 b1,λ P0 P σ H Q ρ E h=>?_⟩;dsimp only at h;refine a2 P0 P σ H _ ρ E ?_;cases e:ft ρ with
 |bad|ex x=>rw[e] at h;exact h
 |ok k =>
  rw[e] at h;intro H1 s1;cases k with
  |true =>
   simp only[M.Ad,if_true] at h ⊢;exact b2 P0 P σ H1 _ ρ (E.same s1) (h.same s1)
  |false =>
   simp only[M.Ad,zat,if_false] at h ⊢;exact h H1 s1
theorem Ce {rest:List Expr}(ha:DT X WX a ft)(hb:DW X WX (.BoolOp .Or (b::rest) pos) gt):DW X WX (.BoolOp .Or (a::b::rest) pos) (λ ρ=>(ft ρ).bind λ k=>if k=true then .ok true else gt ρ):=by
 obtain⟨ta,a1,a2⟩:=ha;obtain⟨tb,b1,b2⟩:=hb;refine⟨_,pw_or a1 b1,λ P0 P σ H Q ρ E h=>?_⟩;dsimp only at h;refine a2 P0 P σ H _ ρ E ?_;cases e:ft ρ with
 |bad|ex x=>rw[e] at h;exact h
 |ok k =>
  rw[e] at h;intro H1 s1;cases k with
  |true =>
   simp only[M.Ad,if_true] at h ⊢;exact h H1 s1
  |false =>
   simp only[M.Ad,zat,if_false] at h ⊢;exact b2 P0 P σ H1 _ ρ (E.same s1) (h.same s1)
theorem Oh {op}(ha:DE X WX c a f):DE X WX c (.BoolOp op [a] pos) f:=let ⟨ta,a1,a2⟩:=ha;⟨_,pK a1,a2⟩
theorem LZ {rest:List Expr}(ha:DE X WX c a f)(hb:DE X WX c (.BoolOp .And (b::rest) pos) g):DE X WX c (.BoolOp .And (a::b::rest) pos) (λ ρ=>((f ρ).bind Qn).bind λ k=>if k=true then g ρ else .ok (.bl false)):=by
 obtain⟨ta,a1,a2⟩:=ha;obtain⟨tb,b1,b2⟩:=hb;refine⟨_,pL a1 b1,λ P0 P σ H Q ρ E h=>?_⟩;dsimp only at h;refine a2 P0 P σ H _ ρ E ?_;cases e:f ρ with
 |bad|ex x=>rw[e] at h;exact h
 |ok d =>
  rw[e] at h;simp only[M.Ad] at h;unfold Qn at h;split at h
  ·rename_i k;intro v H1 s1 hv;refine⟨k,hv.Og,?_⟩;cases k with
   |true =>
    simp only[M.Ad,if_true] at h ⊢;exact b2 P0 P σ H1 _ ρ (E.same s1) (h.same s1)
   |false =>
    simp only[M.Ad,zat,if_false] at h ⊢;exact h _ H1 s1 (.bl _)
  ·exact h.elim
theorem wB {rest:List Expr}(ha:DE X WX c a f)(hb:DE X WX c (.BoolOp .Or (b::rest) pos) g):DE X WX c (.BoolOp .Or (a::b::rest) pos) (λ ρ=>((f ρ).bind Qn).bind λ k=>if k=true then .ok (.bl true) else g ρ):=by
 obtain⟨ta,a1,a2⟩:=ha;obtain⟨tb,b1,b2⟩:=hb;refine⟨_,uO a1 b1,λ P0 P σ H Q ρ E h=>?_⟩;dsimp only at h;refine a2 P0 P σ H _ ρ E ?_;cases e:f ρ with
 |bad|ex x=>rw[e] at h;exact h
 |ok d =>
  rw[e] at h;simp only[M.Ad] at h;unfold Qn at h;split at h
  ·rename_i k;intro v H1 s1 hv;refine⟨k,hv.Og,?_⟩;cases k with
   |true =>
    simp only[M.Ad,if_true] at h ⊢;exact h _ H1 s1 (.bl _)
   |false =>
    simp only[M.Ad,zat,if_false] at h ⊢;exact b2 P0 P σ H1 _ ρ (E.same s1) (h.same s1)
  ·exact h.elim
theorem rD (ha:DE X WX c a f):DE X WX c (.UnaryOp .Not a pos) (λ ρ=>((f ρ).bind Qn).bind λ k=>.ok (.bl (!k))):=by
 obtain⟨ta,a1,a2⟩:=ha;refine⟨_,pM a1,λ P0 P σ H Q ρ E h=>?_⟩;dsimp only at h;refine a2 P0 P σ H _ ρ E ?_;cases e:f ρ with
 |bad|ex x=>rw[e] at h;exact h
 |ok d =>
  rw[e] at h;simp only[M.Ad] at h;unfold Qn at h;split at h
  ·rename_i k;exact λ v H1 s1 hv=>⟨k,hv.Og,h _ H1 s1 (.bl _)⟩
  ·exact h.elim
theorem aae (ha:DE X WX c a f):DE X WX c (.UnaryOp .USub a pos) (λ ρ=>(f ρ).bind λ d=>match d with | .int i=>.ok (.int (-i)) | _=>.bad):=by
 obtain⟨ta,a1,a2⟩:=ha;refine⟨_,uX qB a1,λ P0 P σ H Q ρ E h=>?_⟩;dsimp only at h;refine a2 P0 P σ H _ ρ E ?_;cases e:f ρ with
 |bad|ex x=>rw[e] at h;exact h
 |ok d =>
  rw[e] at h;simp only[M.Ad] at h;split at h
  ·rename_i i;exact λ v H1 s1 hv=>⟨i,hv.int_inv,h _ H1 s1 (.int _)⟩
  ·exact h.elim
theorem YD {d:Expr}{h:Aj->M D}{op bi:CmpOp}{p q:Int->Int->Bool}(ho:G7 X (compareOp op) (ZN λ i j=>.bl (p i j)))(aH:G7 X (compareOp bi) (ZN λ i j=>.bl (q i j)))(ha:DE X WX c a f)(hb:DE X WX c b g)(hd:DE X WX c d h)
 (hm:lastMarks [op,bi] [b,d]=false:=by with_unfolding_all rfl):DE X WX c (.Compare a [op,bi] [b,d] pos) (λ ρ=>(f ρ).bind λ x=>(g ρ).bind λ y=>Bk (λ i j=>if p i j=true then (h ρ).bind λ z=>Bk (λ _ k=>.ok (.bl (q j k))) (.int 0) z else .ok (.bl false)) x y):=by
 obtain⟨ta,a1,a2⟩:=ha;obtain⟨tb,b1,b2⟩:=hb;obtain⟨td,d1,d2⟩:=hd;refine⟨_,bS ho aH a1 b1 d1 hm,λ P0 P σ H Q ρ E hh=>?_⟩;dsimp only at hh;refine a2 P0 P σ H _ ρ E ?_;cases e:f ρ with
 |bad|ex x=>rw[e] at hh;exact hh
 |ok x =>
  rw[e] at hh;intro v H1 s1 hv;refine b2 P0 P σ H1 _ ρ (E.same s1) ?_;cases e2:g ρ with
  |bad=>rw[e2] at hh;exact hh
  |ex y=>rw[e2] at hh;exact gV.same (m:=.ex y) hh s1
  |ok y =>
   rw[e2] at hh;simp only[M.Ad] at hh;unfold Bk at hh;split at hh
   ·rename_i i j;intro w H2 s2 hw;refine⟨i,j,hv.int_inv,hw.int_inv,p i j,rfl,?_⟩;dsimp only at hh;by_cases hp:p i j=true
    ·rw[if_pos hp] at hh ⊢;refine d2 P0 P σ H2 _ ρ ((E.same s1).same s2) ?_;cases e3:h ρ with
     |bad=>rw[e3] at hh;exact hh
     |ex z=>rw[e3] at hh;exact gV.same (gV.same (m:=.ex z) hh s1) s2
     |ok z =>
      rw[e3] at hh;simp only[M.Ad] at hh;cases z with
      |int k=>exact λ u H3 s3 hu=>⟨j,k,hw.int_inv,hu.int_inv,hh _ H3 ((s1.trans s2).trans s3) (.bl _)⟩
      |_=>exact hh.elim
    ·rw[if_neg hp] at hh ⊢;exact hh _ H2 (s1.trans s2) (.bl _)
   ·exact hh.elim
def ME (K:za0)(WX:Str->Hp->Prop)(r:List V->Hp->VK->Prop)(dF:List D->M D):Prop:=
 ∀(P:Addr->Prop) (H:Hp) (ds:List D) (vs:List V) (Q:VK),(∀a,P a->F7 H a)->Al K (del H P) vs ds->gV K WX P H Q (dF ds)->r vs H Q
variable {x:Str}{p:Pos}{es:List Expr}{fs:Aj->M (List D)}{id T:String}{r:List V->Hp->VK->Prop}{dF:List D->M D}
theorem dA {ta:TA}(ha:∀P0 P σ H Q ρ,Aq X.K P0 P H σ ρ->gA X.K WX (Lv c P0 P) H Q (fs ρ)->ta σ H Q)(hr:ME X.K WX r dF){Q:VK}(E:Aq X.K P0 P H σ ρ)(h:gV X.K WX (Lv c P0 P) H Q ((fs ρ).bind dF)):zS r ta σ H Q:=by
 refine ha P0 P σ H _ ρ E ?_;cases e:fs ρ with
 |bad|ex x=>rw[e] at h;exact h
 |ok ds =>
  rw[e] at h;exact λ vs H1 s1 a7=>hr _ H1 ds vs Q (λ a q=>(E.same s1).vV c a q) a7 (h.same s1)
theorem Kc (hc:GF X (.builtin id) r)(hr:ME X.K WX r dF)(hg:Gl X x)(hm:X.mg x=none)(hv:bootBuiltins x=some (.builtin id))(ha:DA X WX c (e::es) fs)(hn:x ≠ "__name__" := by decide)(aN:(x==("__debug__" : Str))=false:=by decide)
 (he:starEach (e::es) X.env=(false,eval e X.env)::starEach es X.env:=by rfl) (hpl:(backTo pos (starEach es X.env)).any (·.1)=false:=by rfl):DE X WX c (.Call (.Name x p) (e::es) [] pos) (λ ρ=>(fs ρ).bind dF):=by
 obtain⟨ta,a1,a2,a3⟩:=ha;exact⟨_,Ts hc hg hm hv a1 hn aN he hpl,λ P0 P σ H Q ρ E h=>dA a2 hr E h⟩
theorem YE (hc:GF X (.type T) r)(hr:ME X.K WX r dF)(hg:Gl X x)(hm:X.mg x=none)(hv:bootBuiltins x=some (.type T))(ha:DA X WX c (e::es) fs)(hn:x ≠ "__name__" := by decide)(aN:(x==("__debug__" : Str))=false:=by decide)
 (he:starEach (e::es) X.env=(false,eval e X.env)::starEach es X.env:=by rfl) (hpl:(backTo pos (starEach es X.env)).any (·.1)=false:=by rfl):DE X WX c (.Call (.Name x p) (e::es) [] pos) (λ ρ=>(fs ρ).bind dF):=by
 obtain⟨ta,a1,a2,a3⟩:=ha;exact⟨_,LU hc hg hm hv a1 hn aN he hpl,λ P0 P σ H Q ρ E h=>dA a2 hr E h⟩
noncomputable def VP (ds:List D):M D:=match ds with
 |[.lst xs]|[.tup xs]=>.ok (.int xs.length)
 |_=>.bad
theorem Al.one {K:za0}{H:Hp}{vs:List V}{d:D}(h:Al K H vs [d]):∃v,vs=[v]/\BM K H v d:=by
 cases h with
 |cons h t=>cases t;exact⟨_,rfl,h⟩
theorem Al.two {K:za0}{H:Hp}{vs:List V}{d e:D}(h:Al K H vs [d,e]):∃v w,vs=[v,w]/\BM K H v d/\BM K H w e:=by
 cases h with
 |cons h t =>
  obtain⟨w,rfl,hw⟩:=t.one;exact⟨_,w,rfl,h,hw⟩
theorem rE:ME X.K WX (λ xs H Q=>∃p ys,xs=[.ref p]/\(CO X.K H p ys\/F9 X.K H p ys)/\Q (.int ys.length) H) VP:=by
 intro P H ds vs Q ht hl h;unfold VP at h;split at h
 ·obtain⟨v,rfl,hv⟩:=hl.one;cases hv with
  |lst hs hh=>exact⟨_,_,rfl,.inl hs.AV,by rw[hh.length];exact h _ H (Ak.refl H) (.int _)⟩
 ·obtain⟨v,rfl,hv⟩:=hl.one;cases hv with
  |tup hs hh=>exact⟨_,_,rfl,.inr (F9.of (Ao hs).2),by rw[hh.length];exact h _ H (Ak.refl H) (.int _)⟩
 ·exact h.elim
theorem Dp (hg:Gl X "len")(hm:X.mg "len" = none)(ha:DE X WX c e f)(hs:starEach [e] X.env=[(false,eval e X.env)]:=by rfl):DE X WX c (.Call (.Name "len" p) [e] [] pos) (λ ρ=>((f ρ).bind λ d=>(M.ok []).bind λ ds=>.ok (d::ds)).bind VP):=
 Kc S0 rE hg hm PySem.boot_len (A4 ha A9 hs) (he:=hs)
noncomputable def VQ (ds:List D):M D:=match ds with
 |[.lst xs]|[.tup xs]=>.ok (.tup xs)
 |_=>.bad
theorem dB:ME X.K WX (λ xs H Q=>∃p ys,xs=[.ref p]/\((CO X.K H p ys/\∀l,H l=none->Q (.ref l) (upd H l (.tup ys)))\/(F9 X.K H p ys/\Q (.ref p) H))) VQ:=by
 intro P H ds vs Q ht hl h;unfold VQ at h;split at h
 ·obtain⟨v,rfl,hv⟩:=hl.one;cases hv with
  |lst hs hh=>exact⟨_,_,rfl,.inl ⟨hs.AV,λ l hn=>h _ _ (AO hn _) (.tup (Ka hn ht) (hh.mono (AO hn _).del))⟩⟩
 ·obtain⟨v,rfl,hv⟩:=hl.one;cases hv with
  |tup hs hh=>exact⟨_,_,rfl,.inr ⟨F9.of (Ao hs).2,h _ H (Ak.refl H) (.tup hs hh)⟩⟩
 ·exact h.elim
theorem dC (hg:Gl X "tuple")(hm:X.mg "tuple" = none)(ha:DE X WX c e f)(hb:bootBuiltins "tuple" = some (.type "tuple"):=by decide +kernel)(hs:starEach [e] X.env=[(false,eval e X.env)]:=by rfl):DE X WX c (.Call (.Name "tuple" p) [e] [] pos) (λ ρ=>((f ρ).bind λ d=>(M.ok []).bind λ ds=>.ok (d::ds)).bind VQ):=
 YE Qk dB hg hm hb (A4 ha A9 hs) (he:=hs)
noncomputable def nS:D->String
 | .AJ => "NoneType"
 | .bl _ => "bool"
 | .int _ => "int"
 | .str _ => "str"
 | .tup _ => "tuple"
 | .lst _ => "list"
 | .JX _ => "NoneType"
 | .BB _ _ _ => "dict"
 | .ins _ _ _ => "NoneType"
noncomputable def F8 (T:String)(d:D):Bool:=(nS d==T)||(nS d == "bool" && T == "int")
noncomputable def J8 (T:String)(d:D):M D:=match d with
 | .JX _| .ins _ _ _=>.bad
 |d=>.ok (.bl (F8 T d))
noncomputable def wC:D->Bool
 | .JX _| .ins _ _ _=>true
 |_=>false
theorem dD {T:String}{d:D}(h:wC d=false):J8 T d=.ok (.bl (F8 T d)):=by cases d<;>first | rfl | cases h
def aaf (K:za0)(T:String):List V->Hp->VK->Prop:=λ xs H Q=>∃x d,xs=[x,.ty T]/\BM K H x d/\wC d=false/\Q (.bl (F8 T d)) H
theorem dE {T:String}(hk:∀d:D,PySem.W.kitOne X.K (.type (nS d)) (.type T)=some (F8 T d)):GF X (.builtin "isinstance") (aaf X.K T):=by
 intro pins s σ H xs us Q I r h;obtain⟨x,d,rfl,hd,hx,q⟩:=h;obtain⟨u,w,rfl,rx,aX⟩:=r.two;cases aX;have fin:∀tk,EP X pins σ Q (.bool (F8 T d)) {s with toks:=tk}:=λ tk=>⟨.bl _,H,I.tok tk,rfl,q⟩;have e:=hk d;cases hd with
 |JX _ _|ins _ _ _=>cases hx
 |QW hs hl =>
  cases rx;obtain⟨⟨o,h1,h2⟩,_,_⟩:=VI I (.inl ⟨_,hs⟩);exact zcm PySem.W.kitx_dict I.Q9 ⟨o,h1,h2⟩ e (λ z=>nomatch z) fin
 |S5 hs hl =>
  cases rx;obtain⟨⟨o,h1,h2⟩,_,_⟩:=VI I (.inr ⟨_,hs⟩);exact zcm PySem.W.kitx_dict I.Q9 ⟨o,h1,h2⟩ e (λ z=>nomatch z) fin
 |AJ=>cases rx;exact zcm PySem.W.kitx_none I.Q9 zcu e (λ z=>nomatch z) fin
 |bl b=>cases rx;exact zcm PySem.W.kitx_bool I.Q9 zcu e (λ z=>nomatch z) fin
 |int b=>obtain⟨t,rfl⟩:=rx;exact zcm PySem.W.kitx_int I.Q9 zcu e (λ z=>nomatch z) fin
 |str b=>obtain⟨t,rfl⟩:=rx;exact zcm PySem.W.kitx_str I.Q9 zcu e (λ z=>nomatch z) fin
 |tup hs hl =>
  cases rx;obtain⟨_,_,⟨o,h1,h2,_⟩,_⟩:=I.tuple (.of hs);exact zcm PySem.W.kitx_tuple I.Q9 ⟨o,h1,h2⟩ e (λ z=>nomatch z) fin
 |lst hs hl =>
  cases rx;obtain⟨_,_,⟨o,n,h1,h2,_⟩,_⟩:=I.list hs;exact zcm PySem.W.kitx_list I.Q9 ⟨o,h1,h2⟩ e (λ z=>nomatch z) fin
theorem D7 {T:String}{x2:Str}{p2:Pos}(hk:∀d:D,PySem.W.kitOne X.K (.type (nS d)) (.type T)=some (F8 T d))(hg:Gl X "isinstance")(hm:X.mg "isinstance" = none)(jj:Gl X x2)(c3:X.mg x2=none)(pk:bootBuiltins x2=some (.type T))(ha:DE X WX c e f)
 (hb:bootBuiltins "isinstance" = some (.builtin "isinstance"):=by decide +kernel) (aw:x2 ≠ "__name__" := by decide) (pq:(x2==("__debug__" : Str))=false:=by decide) (hs:starEach [e,.Name x2 p2] X.env=(false,eval e X.env)::starEach [.Name x2 p2] X.env:=by rfl) (a4:starEach [.Name x2 p2] X.env=[(false,eval (.Name x2 p2) X.env)]:=by rfl)
 (hpl:(backTo pos (starEach [.Name x2 p2] X.env)).any (·.1)=false:=by rfl):
 DE X WX c (.Call (.Name "isinstance" p) [e,.Name x2 p2] [] pos) (λ ρ=>(f ρ).bind λ d=>J8 T d):=by
 obtain⟨ta,a1,a2⟩:=ha;refine⟨_,Ts (dE hk) hg hm hb (Bi a1 (Bi (iM (v:=.ty T) jj c3 pk rfl aw pq) Cs a4) hs) (by decide) (by decide) hs hpl,λ P0 P σ H Q ρ E h=>?_⟩;dsimp only at h;refine a2 P0 P σ H _ ρ E ?_;refine YB h λ d h=>?_;cases hx:wC d with
 |true=>cases d<;>first|exact h.elim|cases hx
 |false =>
  rw[dD hx] at h;exact λ v H1 s1 hv=>⟨v,d,rfl,hv.mono EE,hx,h _ H1 s1 (.bl _)⟩
theorem Ge (K:za0)(d:D):PySem.W.kitOne K (.type (nS d)) (.type "tuple")=some (F8 "tuple" d):=by cases d<;>rfl
theorem IC (K:za0)(d:D):PySem.W.kitOne K (.type (nS d)) (.type "list")=some (F8 "list" d):=by cases d<;>rfl
theorem M2 (K:za0)(d:D):PySem.W.kitOne K (.type (nS d)) (.type "bool")=some (F8 "bool" d):=by cases d<;>rfl
theorem Oi (K:za0)(d:D):PySem.W.kitOne K (.type (nS d)) (.type "int")=some (F8 "int" d):=by cases d<;>rfl
noncomputable def tS (lo hi:Option Int)(d:D):M D:=match d with
 | .lst ds=>.ok (.lst ((ds.drop (HT.O4 ds.length 0 lo)).take (HT.O4 ds.length ds.length hi-HT.O4 ds.length 0 lo)))
 |_=>.bad
def DO (X:Cx)(WX:Str->Hp->Prop)(c:Bool)(e:Option Expr)(f:Aj->M (Option Int)):Prop:=
 ∃t,PO X e t/\∀P0 P σ H Q ρ,Aq X.K P0 P H σ ρ->(match f ρ with | .ok o=>∀H',Ak H H'->Q o H' | .ex x=>∀H',Ak H H'->WX x H' | .bad=>False)->t σ H Q
theorem Xg:DO X WX c none (λ _=>.ok none):=⟨_,jA,λ P0 P σ H Q ρ E h=>h H (Ak.refl H)⟩
noncomputable def asI (d:D):M (Option Int):=match d with | .int i=>.ok (some i) | _=>.bad
theorem Nq (ha:DE X WX c e f):DO X WX c (some e) (λ ρ=>(f ρ).bind asI):=by
 obtain⟨ta,a1,a2⟩:=ha;refine⟨_,jB a1,λ P0 P σ H Q ρ E h=>?_⟩;dsimp only at h;refine a2 P0 P σ H _ ρ E ?_;cases q:f ρ with
 |bad|ex x=>rw[q] at h;exact h
 |ok d =>
  rw[q] at h;cases d with
  |int i=>exact λ v H1 s1 hv=>⟨i,hv.int_inv,h H1 s1⟩
  |_=>exact h.elim
end
inductive Out where
 |ret (d:D)|next (ρ:Aj)|brk (ρ:Aj)|cont (ρ:Aj)|D1 (c:Cl)|FE (t:OT) (ρ:Aj)
def Tr (P0 P:Addr->Prop)(H:Hp)(P':Addr->Prop)(H':Hp):Prop:=Ak (del H P) (del H' P')/\∀a,P0 a->H' a=H a
theorem Tr.refl {P0 P:Addr->Prop}{H:Hp}:Tr P0 P H P H:=⟨Ak.refl _,λ _ _=>rfl⟩
theorem Tr.trans {P0 P P1 P2:Addr->Prop}{H H1 H2:Hp}(a:Tr P0 P H P1 H1)(b:Tr P0 P1 H1 P2 H2):Tr P0 P H P2 H2:=⟨a.1.trans b.1,λ x h=>(b.2 x h).trans (a.2 x h)⟩
theorem Aq.tr {K:za0}{P0:E8}{P:Addr->Prop}{H H':Hp}{σ:St}{ρ:Aj}(E:Aq K P0 P H σ ρ)(e:Ak H H'):Tr P0 P H P H':=
 ⟨e.del,λ a h=>by obtain⟨o,q,_⟩:=E.Cr a (E.sub a h);rw[e a o q,q]⟩
def gS (K:za0)(WX:Str->Hp->Prop)(P0:E8)(P:Addr->Prop)(H:Hp)(Z:Ends):M Out->Prop
 | .ok (.ret d)=>∀v H' P',Tr P0 P H P' H'->BM K (del H' P0) v d->Z.rt v H'
 | .ok (.next ρ)=>∀σ' H' P',Tr P0 P H P' H'->Aq K P0 P' H' σ' ρ->Z.nx σ' H'
 | .ok (.brk ρ)=>∀σ' H' P',Tr P0 P H P' H'->Aq K P0 P' H' σ' ρ->Z.bk σ' H'
 | .ok (.cont ρ)=>∀σ' H' P',Tr P0 P H P' H'->Aq K P0 P' H' σ' ρ->Z.ct σ' H'
 | .ok (.D1 c)=>∀v fp H' P',Tr P0 P H P' H'->(∀a,P0 a->P' a)->(∀a,P' a->F7 H' a)->D5 K H' P' c v fp->(∀a∈fp,P' a/\¬ P0 a)->fp.Nodup->Z.rt v H'
 | .ok (.FE t ρ)=>∀v fp σ' H' P',Tr P0 P H P' H'->Aq K P0 P' H' σ' ρ->C1 K H' P' v t fp->fp.Nodup->(∀a∈fp,P' a/\¬ P0 a/\∀(j:Nat) c v' fq,ρ[j]?=some (some c)->σ'[j]?=some (some v')->D5 K H' P' c v' fq->a∉fq)->Z.rt v H'
 | .ex x=>∀H' P',Tr P0 P H P' H'->WX x H'
 | .bad=>False
theorem gS.tr {K:za0}{WX:Str->Hp->Prop}{P0:E8}{P P':Addr->Prop}{H H':Hp}{Z:Ends}{m:M Out}(h:gS K WX P0 P H Z m)(t:Tr P0 P H P' H'):gS K WX P0 P' H' Z m:=by
 cases m with
 |bad=>exact h
 |ex x=>exact λ H2 P2 t2=>h H2 P2 (t.trans t2)
 |ok o =>
  cases o with
  |ret d=>exact λ v H2 P2 t2 hv=>h v H2 P2 (t.trans t2) hv
  |next ρ|brk ρ|cont ρ=>exact λ σ2 H2 P2 t2 hv=>h σ2 H2 P2 (t.trans t2) hv
  |D1 c=>exact λ v fp H2 P2 t2=>h v fp H2 P2 (t.trans t2)
  |FE c ρ=>exact λ v fp σ2 H2 P2 t2=>h v fp σ2 H2 P2 (t.trans t2)
def DS (X:Cx)(WX:Str->Hp->Prop)(st:Stmt)(g:Aj->M Out):Prop:=
 ∃t,PS X st t/\∀P0 P σ H Z ρ,Aq X.K P0 P H σ ρ->gS X.K WX P0 P H Z (g ρ)->t Z σ H
def Vk (X:Cx)(WX:Str->Hp->Prop)(st:List Stmt)(g:Aj->M Out):Prop:=
 ∃t,WV X st t/\∀P0 P σ H Z ρ,Aq X.K P0 P H σ ρ->gS X.K WX P0 P H Z (g ρ)->t Z σ H
noncomputable def dG (m:M Out)(k:Aj->M Out):M Out:=match m with
 | .ok (.next ρ)=>k ρ
 |m=>m
section
variable {X:Cx}{WX:Str->Hp->Prop}{c:Bool}{P0:E8}{P:Addr->Prop}{H:Hp}{σ:St}{ρ:Aj}{a b e:Expr}{f g:Aj->M D}{ft gt:Aj->M Bool}{pos:Pos}{st:Stmt}{rest:List Stmt}{g1 g2:Aj->M Out}
theorem Au:Vk X WX [] (λ ρ=>.ok (.next ρ)):=⟨_,iO,λ P0 P σ H Z ρ E h=>h σ H P Tr.refl E⟩
theorem A7 (h:DS X WX st g1):Vk X WX [st] g1:=let ⟨t,h1,h2⟩:=h;⟨_,iP h1,h2⟩
theorem A5 (h:DS X WX st g1)(hr:Vk X WX rest g2):Vk X WX (st::rest) (λ ρ=>dG (g1 ρ) g2):=by
 obtain⟨t,h1,h2⟩:=h;obtain⟨u,r1,r2⟩:=hr;refine⟨_,ZX h1 r1,λ P0 P σ H Z ρ E h=>?_⟩;dsimp only at h;refine h2 P0 P σ H {Z with nx:=u Z} ρ E ?_;cases q:g1 ρ with
 |bad|ex x=>rw[q] at h;exact h
 |ok o =>
  rw[q] at h;cases o with
  |ret d|brk d|cont d|D1 d|FE d ρ2=>exact h
  |next ρ'=>exact λ σ' H' P' t E'=>r2 P0 P' σ' H' Z ρ' E' (gS.tr h t)
theorem dH (ha:DE X WX false e f):DS X WX (.Return (some e) pos) (λ ρ=>(f ρ).bind λ d=>.ok (.ret d)):=by
 obtain⟨ta,a1,a2⟩:=ha;refine⟨_,Vp a1,λ P0 P σ H Z ρ E h=>?_⟩;dsimp only at h;refine a2 P0 P σ H _ ρ E ?_;cases q:f ρ with
 |bad=>rw[q] at h;exact h
 |ex x=>rw[q] at h;exact λ H' s=>h H' P (E.tr s)
 |ok d=>rw[q] at h;exact λ v H' s hv=>h v H' P (E.tr s) hv
theorem AX {c:Expr}{sa sb:List Stmt}(hc:DT X WX c ft)(ha:Vk X WX sa g1)(hb:Vk X WX sb g2):DS X WX (.If c sa sb pos) (λ ρ=>(ft ρ).bind λ k=>if k=true then g1 ρ else g2 ρ):=by
 obtain⟨tc,c1,c2⟩:=hc;obtain⟨ta,a1,a2⟩:=ha;obtain⟨tb,b1,b2⟩:=hb;refine⟨_,uS c1 a1 b1,λ P0 P σ H Z ρ E h=>?_⟩;dsimp only at h;refine c2 P0 P σ H _ ρ E ?_;cases q:ft ρ with
 |bad=>rw[q] at h;exact h
 |ex x=>rw[q] at h;exact λ H' s=>h H' P (E.tr s)
 |ok k =>
  rw[q] at h;intro H1 s1;cases k with
  |true =>
   simp only[M.Ad,if_true] at h ⊢;exact a2 P0 P σ H1 Z ρ (E.same s1) (h.tr (E.tr s1))
  |false =>
   simp only[M.Ad,zat,if_false] at h ⊢;exact b2 P0 P σ H1 Z ρ (E.same s1) (h.tr (E.tr s1))
theorem get_set {α:Type}{l:List α}{i j:Nat}{x y:α}(h:(l.set i x)[j]?=some y):(i=j/\i<l.length/\x=y)\/(i≠j/\l[j]?=some y):=by
 by_cases e:i=j
 ·subst e;rw[List.getElem?_set_self'] at h;cases q:l[i]? with
  |none=>rw[q] at h;cases h
  |some z =>
   rw[q] at h;exact .inl ⟨rfl,(zai.mp q).1,by simpa using h⟩
 ·rw[zbp e] at h;exact .inr ⟨e,h⟩
theorem Aq.VR {K:za0}(E:Aq K P0 P H σ ρ){i:Nat}{v:V}{d:D}(hv:BM K (del H P) v d):Aq K P0 P H (σ.set i (some v)) (ρ.set i (some (.val d))):=by
 have gs:∀ {j:Nat},i≠j->(σ.set i (some v))[j]?=σ[j]? :=λ h=>zbp h;refine⟨E.sub,E.Cr,λ j e h=>?_,λ j c h io=>?_,λ j k c c' u u' fp ag h1 h2 h3 h4 h5 h6 ad=>?_,by rw[zbw,zbw];exact E.len,λ j c n h hp=>?_⟩
 rotate_left 3
 ·rcases get_set h with ⟨rfl,hl,e1⟩|⟨ad,h⟩
  ·cases e1;cases hp
  ·rw[gs ad];exact E.pin j c n h hp
 ·rcases get_set h with ⟨rfl,hl,e1⟩|⟨ad,h⟩
  ·cases e1;exact⟨v,zb4 (by rw[E.len];exact hl),hv⟩
  ·obtain⟨w,h1,h2⟩:=E.val j e h;exact⟨w,by rw[gs ad];exact h1,h2⟩
 ·rcases get_set h with ⟨rfl,hl,e1⟩|⟨ad,h⟩
  ·cases e1;cases io
  ·obtain⟨w,fp,h1,h2⟩:=E.ows j c h io;exact⟨w,fp,by rw[gs ad];exact h1,h2⟩
 ·rcases get_set h1 with ⟨rfl,hl,e1⟩|⟨b9,h1⟩
  ·cases e1;exact h5.elim
  ·rcases get_set h2 with ⟨rfl,hl,e1⟩|⟨aw,h2⟩
   ·cases e1;exact h6.elim
   ·rw[gs b9] at h3;rw[gs aw] at h4;exact E.apart j k c c' u u' fp ag h1 h2 h3 h4 h5 h6 ad
theorem Aq.jV {K:za0}(E:Aq K P0 P H σ ρ){P':Addr->Prop}{H':Hp}{i:Nat}{v:V}{c:Cl}{fp:List Addr}(hs:∀a,P a->P' a)(ht:∀a,P' a->F7 H' a)(sm:Ak (del H P) (del H' P'))
 (keep:∀(j:Nat) c' v' ag,i≠j->ρ[j]?=some (some c')->σ[j]?=some (some v')->D5 K H P c' v' ag->∀a∈ag,H' a=H a/\a∉fp)
 (new:D5 K H' P' c v fp) (hp:∀a∈fp,P' a/\¬ P0 a) (nd:fp.Nodup) (gj:∀n,QX c=some n->v=.ref (P0.g n):=by intro n z;cases z):Aq K P0 P' H' (σ.set i (some v)) (ρ.set i (some c)):=by
 have gs:∀ {j:Nat},i≠j->(σ.set i (some v))[j]?=σ[j]? :=λ h=>zbp h;refine⟨λ a h=>hs a (E.sub a h),ht,λ j e h=>?_,λ j c' h io=>?_,λ j k c1 c2 u u' au b8 h1 h2 h3 h4 h5 h6 ad=>?_,by rw[zbw,zbw];exact E.len,λ j c' n h hp=>?_⟩
 rotate_left 3
 ·rcases get_set h with ⟨rfl,hl,e1⟩|⟨ad,h⟩
  ·cases e1;rw[zb4 (by rw[E.len];exact hl),gj n hp]
  ·rw[gs ad];exact E.pin j c' n h hp
 ·rcases get_set h with ⟨rfl,hl,e1⟩|⟨ad,h⟩
  ·cases e1;exact new.elim
  ·obtain⟨w,h1,h2⟩:=E.val j e h;exact⟨w,by rw[gs ad];exact h1,h2.mono sm⟩
 ·rcases get_set h with ⟨rfl,hl,e1⟩|⟨ad,h⟩
  ·cases e1;exact⟨v,fp,zb4 (by rw[E.len];exact hl),new,hp,nd⟩
  ·obtain⟨w,fq,h1,h2,h3,h4⟩:=E.ows j c' h io;exact⟨w,fq,by rw[gs ad];exact h1,h2.move sm λ a ha=>(keep j c' w fq ad h h1 h2 a ha).1,λ a ha=>⟨hs a (h3 a ha).1,(h3 a ha).2⟩,h4⟩
 ·have back:∀(l:Nat) (d:Cl) (w:V) (fq:List Addr),i≠l->ρ[l]?=some (some d)->σ[l]?=some (some w)->D5 K H' P' d w fq->∃fr,D5 K H P d w fr/\fr=fq:=λ l d w fq hn hk sk ho=>by
   have io:Hj d=true:=by cases d<;>first|rfl|exact ho.elim
   obtain⟨w',b8,s2,o2,_⟩:=E.ows l d hk io;rw[sk] at s2;cases s2;exact⟨b8,o2,(o2.move sm λ a ha=>(keep l d w b8 hn hk sk o2 a ha).1).Cd ho⟩
  rcases get_set h1 with ⟨rfl,hl,e1⟩|⟨b9,h1⟩
  ·cases e1;rw[zb4 (by rw[E.len];exact hl)] at h3;cases h3;rcases get_set h2 with ⟨e,_⟩|⟨aw,h2⟩
   ·exact (ad e).elim
   ·rw[gs aw] at h4;obtain⟨fr,o,rfl⟩:=back k c2 u' b8 aw h2 h4 h6;intro a ha hb;rw[new.Cd h5] at keep;exact (keep k c2 u' fr aw h2 h4 o a hb).2 ha
  ·rw[gs b9] at h3;obtain⟨fr,o,rfl⟩:=back j c1 u au b9 h1 h3 h5;rcases get_set h2 with ⟨rfl,hl,e1⟩|⟨aw,h2⟩
   ·cases e1;rw[zb4 (by rw[E.len];exact hl)] at h4;cases h4;intro a ha;rw[new.Cd h6] at keep;exact (keep j c1 u fr b9 h1 h3 o a ha).2
   ·rw[gs aw] at h4;obtain⟨pw,o2,rfl⟩:=back k c2 u' b8 aw h2 h4 h6;exact E.apart j k c1 c2 u u' fr pw h1 h2 h3 h4 o o2 ad
theorem Aq.wD {K:za0}(E:Aq K P0 P H σ ρ){P':Addr->Prop}{H':Hp}{i:Nat}{v:V}{c:Cl}{fp:List Addr}(hs:∀a,P0 a->P' a)(ht:∀a,P' a->F7 H' a)(sm:Ak (del H P) (del H' P'))
 (keep:∀(j:Nat) c' v' ag,i≠j->ρ[j]?=some (some c')->σ[j]?=some (some v')->D5 K H P c' v' ag->∀a∈ag,H' a=H a/\a∉fp/\P' a)
 (new:D5 K H' P' c v fp) (hp:∀a∈fp,P' a/\¬ P0 a) (nd:fp.Nodup) (gj:∀n,QX c=some n->v=.ref (P0.g n):=by intro n z;cases z):Aq K P0 P' H' (σ.set i (some v)) (ρ.set i (some c)):=by
 have gs:∀ {j:Nat},i≠j->(σ.set i (some v))[j]?=σ[j]? :=λ h=>zbp h;refine⟨hs,ht,λ j e h=>?_,λ j c' h io=>?_,λ j k c1 c2 u u' au b8 h1 h2 h3 h4 h5 h6 ad=>?_,by rw[zbw,zbw];exact E.len,λ j c' n h hp=>?_⟩
 rotate_left 3
 ·rcases get_set h with ⟨rfl,hl,e1⟩|⟨ad,h⟩
  ·cases e1;rw[zb4 (by rw[E.len];exact hl),gj n hp]
  ·rw[gs ad];exact E.pin j c' n h hp
 ·rcases get_set h with ⟨rfl,hl,e1⟩|⟨ad,h⟩
  ·cases e1;exact new.elim
  ·obtain⟨w,h1,h2⟩:=E.val j e h;exact⟨w,by rw[gs ad];exact h1,h2.mono sm⟩
 ·rcases get_set h with ⟨rfl,hl,e1⟩|⟨ad,h⟩
  ·cases e1;exact⟨v,fp,zb4 (by rw[E.len];exact hl),new,hp,nd⟩
  ·obtain⟨w,fq,h1,h2,h3,h4⟩:=E.ows j c' h io;exact⟨w,fq,by rw[gs ad];exact h1,h2.move sm λ a ha=>(keep j c' w fq ad h h1 h2 a ha).1,λ a ha=>⟨(keep j c' w fq ad h h1 h2 a ha).2.2,(h3 a ha).2⟩,h4⟩
 ·have back:∀(l:Nat) (d:Cl) (w:V) (fq:List Addr),i≠l->ρ[l]?=some (some d)->σ[l]?=some (some w)->D5 K H' P' d w fq->∃fr,D5 K H P d w fr/\fr=fq:=λ l d w fq hn hk sk ho=>by
   have io:Hj d=true:=by cases d<;>first|rfl|exact ho.elim
   obtain⟨w',b8,s2,o2,_⟩:=E.ows l d hk io;rw[sk] at s2;cases s2;exact⟨b8,o2,(o2.move sm λ a ha=>(keep l d w b8 hn hk sk o2 a ha).1).Cd ho⟩
  rcases get_set h1 with ⟨rfl,hl,e1⟩|⟨b9,h1⟩
  ·cases e1;rw[zb4 (by rw[E.len];exact hl)] at h3;cases h3;rcases get_set h2 with ⟨e,_⟩|⟨aw,h2⟩
   ·exact (ad e).elim
   ·rw[gs aw] at h4;obtain⟨fr,o,rfl⟩:=back k c2 u' b8 aw h2 h4 h6;intro a ha hb;rw[new.Cd h5] at keep;exact (keep k c2 u' fr aw h2 h4 o a hb).2.1 ha
  ·rw[gs b9] at h3;obtain⟨fr,o,rfl⟩:=back j c1 u au b9 h1 h3 h5;rcases get_set h2 with ⟨rfl,hl,e1⟩|⟨aw,h2⟩
   ·cases e1;rw[zb4 (by rw[E.len];exact hl)] at h4;cases h4;intro a ha;rw[new.Cd h6] at keep;exact (keep j c1 u fr b9 h1 h3 o a ha).2.1
   ·rw[gs aw] at h4;obtain⟨pw,o2,rfl⟩:=back k c2 u' b8 aw h2 h4 h6;exact E.apart j k c1 c2 u u' fr pw h1 h2 h3 h4 o o2 ad
theorem Sa {α:Type}:∀ {l:List α}{i:Nat}{x:α},l[i]?=some x->l.set i x=l
 |[],_,_,h=>by cases h
 |y::r,0,x,h=>by cases h;rfl
 |y::r,i+1,x,h=>by rw[zae,Sa (by simpa using h)]
theorem Aq.mut {K:za0}(E:Aq K P0 P H σ ρ){i p:Nat}{xs:List V}{ds mh:List D}(ho:ρ[i]?=some (some (.own ds)))(hs:σ[i]?=some (some (.ref p)))(pP:P p)(mi:¬ P0 p)(hx:Al K (del H P) xs mh):
 Aq K P0 P (upd H p (.lst xs)) σ (ρ.set i (some (.own mh)))/\Tr P0 P H P (upd H p (.lst xs)):=by
 have sd:del (upd H p (.lst xs)) P=del H P:=by
  funext b;by_cases hb:P b
  ·rw[Ga hb,Ga hb]
  ·rw[Az hb,Az hb,Ah (λ z=>hb (by rw[z];exact pP))]
 have sm:Ak (del H P) (del (upd H p (.lst xs)) P):=by rw[sd];exact Ak.refl _
 obtain⟨v,fp,s1,o1,_⟩:=E.ows i _ ho rfl;rw[hs] at s1;cases s1;have key:=E.jV (P':=P) (H':=upd H p (.lst xs)) (i:=i) (v:=.ref p) (c:=.own mh) (fp:=[p]) (λ a h=>h) (λ a h=>?_) sm (λ j c' v' ag ad h1 h2 h3 a ha=>?_) ⟨p,xs,rfl,rfl,Ap,by rw[sd];exact hx⟩ (λ a ha=>by rw[za7.mp ha];exact⟨pP,mi⟩) (by simp)
 ·rw[Sa hs] at key;exact⟨key,sm,λ a h=>by rw[Ah (λ z=>mi (by rw[<-z];exact h))]⟩
 ·by_cases ha:a=p
  ·subst ha;exact F7.lst Ap
  ·unfold F7;rw[Ah ha];exact E.Cr a h
 ·obtain⟨p',em,e,rfl,_⟩:=o1;cases e;have hn:a≠p:=λ z=>E.apart j i c' _ v' _ ag [p] h1 ho h2 hs h3 ⟨p,em,rfl,rfl,by assumption⟩ (zbi ad) a ha (by rw[z];exact za7.mpr rfl);exact⟨Ah hn,λ z=>hn (za7.mp z)⟩
theorem Aq.grow {K:za0}(E:Aq K P0 P H σ ρ){i p:Nat}{xs:List V}{ds:List D}{v:V}{d:D}(ho:ρ[i]?=some (some (.own ds)))(hs:σ[i]?=some (some (.ref p)))(hp:H p=some (.lst xs))(pP:P p)(mi:¬ P0 p)(hx:Al K (del H P) xs ds)(hv:BM K (del H P) v d):
 Aq K P0 P (upd H p (.lst (xs++[v]))) σ (ρ.set i (some (.own (ds++[d]))))/\Tr P0 P H P (upd H p (.lst (xs++[v]))):=E.mut ho hs pP mi (hx.snoc hv)
theorem AL (i:Nat){x:Str}{pos':Pos}(hN:X.N.Nodup)(hi:X.N[i]?=some x)(hx:Loc X.env.scope x)(ha:DE X WX true e f)(hs:swapsWith e (some (.Name x pos')) pos.line X.env=pure false:=by rfl)(hf:X.fn x=true\/X.env.scope.names.lookup x=some .local:=by first | exact .inl rfl | exact .inr rfl | assumption):
 DS X WX (.Assign [.Name x pos'] e pos) (λ ρ=>(f ρ).bind λ d=>.ok (.next (ρ.set i (some (.val d))))):=by
 obtain⟨ta,a1,a2⟩:=ha;refine⟨_,Vq hN hi hx a1 hs hf,λ P0 P σ H Z ρ E h=>?_⟩;dsimp only at h;refine a2 P0 P σ H _ ρ E ?_;cases q:f ρ with
 |bad=>rw[q] at h;exact h
 |ex x=>rw[q] at h;exact λ H' s=>h H' P (E.tr s)
 |ok d=>rw[q] at h;exact λ v H' s hv=>h _ H' P (E.tr s) ((E.same s).VR hv)
theorem iF {K:za0}{WX:Str->Hp->Prop}{P0:E8}{P:Addr->Prop}{H:Hp}{Z:Ends}{σ:St}{ρ:Aj}{α:Type}{m:M α}{k:α->M Out}{R:M α->Prop}(h:gS K WX P0 P H Z (m.bind k))(E:Aq K P0 P H σ ρ)(hk:∀a,gS K WX P0 P H Z (k a)->R (.ok a))(hb:False->R .bad:=by exact λ h=>h)(hx:∀x,(∀H',Ak H H'->WX x H')->R (.ex x):=by exact λ _ h=>h):R m:=by
 cases m with
 |ok a=>exact hk a h
 |ex x=>exact hx x λ H' s=>h H' P (E.tr s)
 |bad=>exact hb h
noncomputable def YF (i:Nat)(ρ:Aj)(m:M D):M Out:=match ρ[i]? with
 |some (some (.own ds))=>m.bind λ d=>if ds.length<1000 then .ok (.next (ρ.set i (some (.own (ds++[d]))))) else .bad
 |_=>.bad
theorem FF (i:Nat){x:Str}{p1 apos ac:Pos}(hv:PE X (.Name x p1) (Tg i))(ha:DE X WX true e f)(hs:starEach [e] X.env=[(false,eval e X.env)]:=by rfl)
 (bn:swapsWith (.Call (.Attribute (.Name x p1) "append" apos) [e] [] ac) none pos.line X.env=pure false:=by rfl)
 (aj:attributeBase (.Name x p1) "append" X.env (eval (.Name x p1) X.env)=eval (.Name x p1) X.env:=by rfl)
 (aE:((backTo ac (starEach [e] X.env)).all (λ x => !x.1)&&(backToKw ac (keywordEach [] X.env)).all (λ x=>x.1.isSome)&&decide (([e]:List Expr).length+([]:List Keyword).length+(if ([]:List Keyword).isEmpty then 0 else 1)<30))=true:=by rfl)
 (ak:(apos.endLine==ac.line)=true:=by rfl) (al:(backTo ac (starEach [] X.env)).any (·.1)=false:=by rfl):
 DS X WX (.Expr (.Call (.Attribute (.Name x p1) "append" apos) [e] [] ac) pos) (λ ρ=>YF i ρ (f ρ)):=by
 obtain⟨ta,a1,a2⟩:=ha;refine⟨_,IA (Tu zcc PySem.F.slot_list_append PySem.F.type_list_append QR hv (Bi a1 Cs hs) aj aE ak hs al) bn,λ P0 P σ H Z ρ E h=>?_⟩;dsimp only at h;unfold YF at h;split at h
 ·rename_i ds e1;obtain⟨p,xs,h1,h2,h3,h4,h5⟩:=E.own i ds e1;refine⟨_,h1,.inl ⟨rfl,xs,.of h2⟩,?_⟩;refine a2 P0 P σ H _ ρ E ?_;refine iF h E λ d h=>?_;by_cases hl:ds.length<1000
  ·rw[if_pos hl] at h;intro v H1 s1 hv;have E1:=E.same s1;have gi:H1 p=some (.lst xs):=s1 _ _ h2;refine⟨p,xs,v,rfl,rfl,gi,AG (by rw[h5.length];omega),?_⟩;obtain⟨E2,t2⟩:=E1.grow e1 h1 gi h3 h4 (h5.mono s1.del) hv;exact h _ _ _ ((E.tr s1).trans t2) E2
  ·rw[if_neg hl] at h;exact h.elim
 ·exact h.elim
end
def gG (K:za0)(P0:E8)(P:Addr->Prop)(H:Hp)(Q:St->Hp->Prop):M Aj->Prop
 | .ok ρ=>∀σ',Aq K P0 P H σ' ρ->Q σ' H
 |_=>False
def DG (X:Cx)(tg:Expr)(gt:D->Aj->M Aj):Prop:=
 ∃g:TG,PG X tg g/\∀P0 P σ H Q ρ v d,Aq X.K P0 P H σ ρ->BM X.K (del H P) v d->gG X.K P0 P H Q (gt d ρ)->g v σ H Q
def yG (X:Cx)(wo:List Expr)(gt:List D->Aj->M Aj):Prop:=
 ∃g:ZM,tO X wo g/\∀P0 P σ H Q ρ v d,Aq X.K P0 P H σ ρ->Al X.K (del H P) v d->gG X.K P0 P H Q (gt d ρ)->g v σ H Q
structure VS (K:za0)(J:It)(P:Addr->Prop)(H:Hp)(ds:List D):Prop where
 go:∀(i:Nat) P' H',Ak (del H P) (del H' P')->i<ds.length->J.go i H'
 stop:∀(i:Nat) P' H',Ak (del H P) (del H' P')->ds.length<=i->J.stop i H'
 iQ:∀(i:Nat) P' H' v c6 d,Ak (del H P) (del H' P')->(∀a,P' a->F7 H' a)->ds[i]?=some d->J.iQ i H' v c6->Ak H' c6/\BM K (del c6 P') v d
def DI (X:Cx)(WX:Str->Hp->Prop)(tg iter:Expr)(f:Aj->M (List D)):Prop:=
 ∃wi,PI X tg iter wi/\∀P0 P σ H R ρ,Aq X.K P0 P H σ ρ->(match f ρ with | .ok ds=>∀J H',Ak H H'->VS X.K J P H' ds->R J H' | .ex x=>∀H',Ak H H'->WX x H' | .bad=>False)->wi σ H R
noncomputable def forM (gt:D->Aj->M Aj)(body:Aj->M Out):List D->Aj->M Out
 |[],ρ=>.ok (.next ρ)
 |d::r,ρ=>match gt d ρ with
  | .ok ρ1=>(match body ρ1 with
   | .ok (.next ρ2)| .ok (.cont ρ2)=>forM gt body r ρ2
   | .ok (.brk ρ2)=>.ok (.next ρ2)
   |m=>m)
  |_=>.bad
section
variable {X:Cx}{WX:Str->Hp->Prop}{c:Bool}{P0:E8}{P:Addr->Prop}{H:Hp}{σ:St}{ρ:Aj}{a b e tg iter:Expr}{f g:Aj->M D}{ft:Aj->M Bool}{pos:Pos}{gt:D->Aj->M Aj}{dh:List D->Aj->M Aj}{gb:Aj->M Out}{fi:Aj->M (List D)}
theorem Ax (i:Nat){x:Str}(hN:X.N.Nodup)(hi:X.N[i]?=some x)(hx:Loc X.env.scope x)(hf:X.fn x=true\/X.env.scope.names.lookup x=some .local:=by first | exact .inl rfl | exact .inr rfl | assumption):DG X (.Name x pos) (λ d ρ=>.ok (ρ.set i (some (.val d)))):=
 ⟨_,RV hN hi hx hf,λ P0 P σ H Q ρ v d E hv h=>h _ (E.VR hv)⟩
theorem Gf:yG X [] (λ ds ρ=>match ds with | []=>.ok ρ | _=>.bad):=⟨_,WY,λ P0 P σ H Q ρ v d E hv h=>by
 cases hv with
 |nil=>exact⟨rfl,h σ E⟩
 |cons _ _=>exact h.elim⟩
theorem AZ {es:List Expr}(h1:DG X e gt)(h2:yG X es dh)(hs:(assignEach (e::es) X.env).map (·.2)=assign e X.env::(assignEach es X.env).map (·.2):=by rfl):
 yG X (e::es) (λ ds ρ=>match ds with|d::r=>(gt d ρ).bind (dh r)|[]=>.bad):=by
 obtain⟨t,a1,a2⟩:=h1;obtain⟨u,b1,b2⟩:=h2;refine⟨_,Tj a1 b1 hs,λ P0 P σ H Q ρ v d E hv h=>?_⟩;cases hv with
 |nil=>exact h.elim
 | @cons x d xs ds hx c7 =>
  refine⟨x,xs,rfl,a2 P0 P σ H _ ρ x d E hx ?_⟩;dsimp only at h;cases q:gt d ρ with
  |bad|ex y=>rw[q] at h;exact h
  |ok ρ1=>rw[q] at h;exact λ σ' E'=>b2 P0 P σ' H Q ρ1 xs ds E' c7 h
theorem JC {es:List Expr}{k n:Nat}(hc:X.calm=true)(h:yG X es dh)(hn:(assignEach es X.env).length=n:=by rfl)(aD:(assignEach es X.env).findIdx? (·.1)=none:=by rfl):
 DG X (.Tuple es k pos) (λ d ρ=>match d with | .tup ds=>if ds.length=n then dh ds ρ else .bad|_=>.bad):=by
 obtain⟨t,a1,a2⟩:=h;refine⟨_,ZZ hc a1 hn aD,λ P0 P σ H Q ρ v d E hv h=>?_⟩;cases hv with
 | @tup a xs ds hs hl =>
  dsimp only at h;by_cases hd:ds.length=n
  ·rw[if_pos hd] at h;exact⟨a,xs,rfl,F9.of (Ao hs).2,by rw[hl.length];exact hd,a2 P0 P σ H Q ρ xs ds E hl h⟩
  ·rw[if_neg hd] at h;exact h.elim
 |_=>exact h.elim
theorem dI (ha:DE X WX true e f)(hg:DG X tg gt)(hs:swapsWithSole [tg] e pos.line X.env=pure false:=by rfl)(hw:swappedStores [tg] e X.env=pure none:=by rfl)(h1:(assignEach [tg] X.env).map (·.2)=[assign tg X.env]:=by rfl):
 DS X WX (.Assign [tg] e pos) (λ ρ=>(f ρ).bind λ d=>match gt d ρ with | .ok ρ'=>.ok (.next ρ')|_=>.bad):=by
 obtain⟨ta,a1,a2⟩:=ha;obtain⟨t,b1,b2⟩:=hg;refine⟨_,bJ a1 b1 hs hw h1,λ P0 P σ H Z ρ E h=>?_⟩;dsimp only at h;refine a2 P0 P σ H _ ρ E ?_;refine iF h E λ d h=>?_;intro v H' s hv;refine b2 P0 P σ H' _ ρ v d (E.same s) hv ?_;cases q2:gt d ρ with
 |ok ρ'=>rw[q2] at h;exact λ σ' E'=>h σ' H' P (E.tr s) E'
 |_=>rw[q2] at h;exact h.elim
theorem AW (ha:DE X WX true e f):DI X WX tg e (λ ρ=>(f ρ).bind λ d=>match d with | .lst ds=>.ok ds | _=>.bad):=by
 obtain⟨ta,a1,a2⟩:=ha;refine⟨_,iR a1,λ P0 P σ H R ρ E h=>?_⟩;dsimp only at h;refine a2 P0 P σ H _ ρ E ?_;cases q:f ρ with
 |bad|ex x=>rw[q] at h;exact h
 |ok d =>
  rw[q] at h;cases d with
  |lst ds =>
   intro v H1 s1 hv;cases hv with
   | @lst a xs _ hs hl =>
    refine⟨a,rfl,⟨xs,hs.AV⟩,h _ H1 s1 ⟨λ i P' H' s hi=>?_,λ i P' H' s hi=>?_,λ i P' H' v c6 d s ht hd y=>?_⟩⟩
    ·obtain⟨x,hx,_⟩:=hl.get (za8 hi);exact⟨xs,x,(s.seq hs).AV,hx⟩
    ·exact⟨xs,(s.seq hs).AV,by rw[hl.length];exact hi⟩
    ·obtain⟨rfl,y⟩:=y;obtain⟨x,hx,aS⟩:=hl.get hd;have e:=y xs (s.seq hs).AV;rw[hx] at e;cases e;exact⟨Ak.refl _,aS.mono s⟩
  |_=>exact h.elim
noncomputable def Cg (lo:Int):Nat->List D
 |0=>[]
 |n+1=>.int lo::Cg (lo+1) n
theorem Dq (lo:Int):∀n:Nat,(Cg lo n).length=n:=by
 intro n;induction n generalizing lo with
 |zero=>rfl
 |succ n ih=>rw[Cg,za9,ih]
theorem CF {lo:Int}{n i:Nat}{d:D}(h:(Cg lo n)[i]?=some d):d=.int (lo+i)/\i<n:=by
 have hi:i<n:=by
  have:=(zai.mp h).1;rw[Dq] at this;exact this
 refine⟨?_,hi⟩;induction n generalizing lo i with
 |zero=>omega
 |succ n ih =>
  cases i with
  |zero=>rw[Cg] at h;simp at h;rw[<-h];simp
  |succ i =>
   rw[Cg,zau] at h;rw[ih h (by omega)];congr 1;omega
theorem VT {K:za0}{P:Addr->Prop}{H:Hp}(lo:Int)(n:Nat):VS K (yB lo n) P H (Cg lo n):=
 ⟨λ i P' H' _ hi=>by rw[Dq] at hi;exact hi,λ i P' H' _ hi=>by rw[Dq] at hi;exact hi,λ i P' H' v c6 d _ _ hd y=>by
  obtain⟨rfl,rfl⟩:=y;obtain⟨rfl,_⟩:=CF hd;exact⟨Ak.refl _,.int _⟩⟩
noncomputable def TU:D->M (List D)
 | .int j=>@ite _ (-(2^62)<=j/\j<2^62) (zdd _) (.ok (Cg 0 j.toNat)) .bad
 |_=>.bad
theorem TV {j:Int}(h1 : -(2^62)<=j)(h2:j<2^62):TU (.int j)=.ok (Cg 0 j.toNat):=if_pos ⟨h1,h2⟩
theorem Ho {n:Nat}(h:n<=1000):TU (.int (n:Int))=.ok (Cg 0 n):=by
 rw[TV (by omega) (by omega),zbl]
theorem Dr {p:Pos}(hg:Gl X "range")(hm:X.mg "range" = none)(ha:DE X WX c a f)(hs:starEach [a] X.env=[(false,eval a X.env)]:=by rfl):
 DI X WX tg (.Call (.Name "range" p) [a] [] pos) (λ ρ=>(f ρ).bind TU):=by
 obtain⟨ta,a1,a2⟩:=ha;refine⟨_,Yn hg hm (Bi a1 Cs hs) hs,λ P0 P σ H R ρ E h=>?_⟩;dsimp only at h;refine a2 P0 P σ H _ ρ E ?_;cases q:f ρ with
 |bad|ex x=>rw[q] at h;exact h
 |ok d =>
  rw[q] at h;cases d with
  |int j =>
   simp only[M.Ad] at h;by_cases hj : -(2^62)<=j/\j<2^62
   ·rw[TV hj.1 hj.2] at h;exact λ v H1 s1 hv=>⟨j,by rw[hv.int_inv],hj.1,hj.2,h _ H1 s1 (VT 0 _)⟩
   ·have e:TU (.int j)=.bad:=if_neg hj;rw[e] at h;exact h.elim
  |_=>exact h.elim
noncomputable def GH (k:Nat):List D->List D
 |[]=>[]
 |d::r=>.tup [.int k,d]::GH (k+1) r
theorem CQ (k:Nat)(ds:List D):(GH k ds).length=ds.length:=by
 induction ds generalizing k with
 |nil=>rfl
 |cons d r ih=>rw[GH,za9,za9,ih]
theorem FG {k i:Nat}{ds:List D}{e:D}(h:(GH k ds)[i]?=some e):∃d,ds[i]?=some d/\e=.tup [.int ((k+i:Nat):Int),d]:=by
 induction ds generalizing k i with
 |nil=>rw[GH] at h;simp at h
 |cons d r ih =>
  cases i with
  |zero=>rw[GH] at h;simp at h;exact⟨d,rfl,by rw[<-h];rfl⟩
  |succ i =>
   rw[GH,zau] at h;obtain⟨d',h1,h2⟩:=ih h;refine⟨d',by simpa using h1,?_⟩;rw[h2];congr 3;omega
theorem Nr {aG:List Expr}{x1}{a9 p:Pos}(hg:Gl X "enumerate")(hm:X.mg "enumerate" = none)(ha:DE X WX true a f)(hb:bootBuiltins "enumerate" = some (.type "enumerate"):=by decide +kernel)(hs:starEach [a] X.env=[(false,eval a X.env)]:=by rfl):
 DI X WX (.Tuple aG x1 a9) (.Call (.Name "enumerate" p) [a] [] pos) (λ ρ=>(f ρ).bind λ d=>match d with | .lst ds=>.ok (GH 0 ds)|_=>.bad):=by
 obtain⟨ta,a1,a2⟩:=ha;refine⟨_,jR hg hm (Bi a1 Cs hs) hb hs,λ P0 P σ H R ρ E h=>?_⟩;dsimp only at h;refine a2 P0 P σ H _ ρ E ?_;cases q:f ρ with
 |bad|ex x=>rw[q] at h;exact h
 |ok d =>
  rw[q] at h;cases d with
  |lst ds =>
   intro v H1 s1 hv;cases hv with
   | @lst a xs _ hs hl =>
    refine⟨a,rfl,⟨xs,hs.AV⟩,h _ H1 s1 ⟨λ i P' H' s hi=>?_,λ i P' H' s hi=>?_,λ i P' H' v c6 d s ht hd y=>?_⟩⟩
    ·rw[CQ] at hi;obtain⟨x,hx,_⟩:=hl.get (za8 hi);exact⟨xs,x,(s.seq hs).AV,hx⟩
    ·rw[CQ] at hi;exact⟨xs,(s.seq hs).AV,by rw[hl.length];exact hi⟩
    ·obtain⟨p,x,hn,rfl,y,rfl⟩:=y;obtain⟨d',aM,rfl⟩:=FG hd;obtain⟨x',hx,aS⟩:=hl.get aM;have e:=y xs (s.seq hs).AV;rw[hx] at e;cases e;refine⟨AO hn _,.tup (Ka hn ht) (.cons ?_ (.cons ((aS.mono s).mono (AO hn _).del) .nil))⟩;rw[Nat.zero_add];exact .int _
  |_=>exact h.elim
theorem Hq {α:Type}{l:List α}{i:Nat}(h:i<l.length):l.drop i=l[i]::l.drop (i+1):=zcl h
theorem BD {body:List Stmt}(hp:PassesOwn (model X.prog X.w) X.A X.env X.xe)(hc:X.calm=true)(hi:DI X WX tg iter fi)(hg:DG X tg gt)(hb:Vk X WX body gb)(hs:∀x,foldedSetIterable iter X.env x=pure x:=by intro _;rfl):
 DS X WX (.For tg iter body [] pos) (λ ρ=>(fi ρ).bind λ ds=>forM gt gb ds ρ):=by
 obtain⟨wi,i1,i2⟩:=hi;obtain⟨t,a1,a2⟩:=hg;obtain⟨tb,b1,b2⟩:=hb;refine⟨_,pU hp hc i1 a1 b1 hs,λ P0 P σ H Z ρ E h=>?_⟩;dsimp only at h;refine i2 P0 P σ H _ ρ E ?_;cases q:fi ρ with
 |bad=>rw[q] at h;exact h
 |ex x=>rw[q] at h;exact λ H' s=>h H' P (E.tr s)
 |ok ds =>
  rw[q] at h;simp only[M.Ad] at h;intro J H1 s1 ok;refine⟨λ i m σ' H'=>m=ds.length-i/\i<=ds.length/\∃P' ρ',Tr P0 P H1 P' H'/\Aq X.K P0 P' H' σ' ρ'/\gS X.K WX P0 P' H' Z (forM gt gb (ds.drop i) ρ'),
   ⟨ds.length,by simp,zbc _,P,ρ,Tr.refl,E.same s1,by rw[List.drop_zero];exact h.tr (E.tr s1)⟩,?_⟩
  rintro i m σ' H' ⟨rfl,hi,P',ρ',t',E',g'⟩;by_cases af:i<ds.length
  ·refine .inr ⟨ok.go i P' H' t'.1 af,λ σ2 H2=>i+1<=ds.length/\∃P2 ρ2,Tr P0 P H1 P2 H2/\Aq X.K P0 P2 H2 σ2 ρ2/\gS X.K WX P0 P2 H2 Z (forM gt gb (ds.drop (i+1)) ρ2),λ σ2 H2 hq=>⟨ds.length-(i+1),by omega,rfl,hq.1,hq.2⟩,λ v H2 y=>?_⟩;obtain⟨s2,hv⟩:=ok.iQ i P' H' v H2 ds[i] t'.1 E'.Cr (za8 af) y;rw[Hq af,forM] at g';have E2:=E'.same s2;refine a2 P0 P' σ' H2 _ ρ' v ds[i] E2 hv ?_;cases q1:gt ds[i] ρ' with
   |bad=>rw[q1] at g';exact g'
   |ex x=>rw[q1] at g';exact g'.elim
   |ok ρ1 =>
    rw[q1] at g';dsimp only at g';intro σ3 E3;refine b2 P0 P' σ3 H2 _ ρ1 E3 ?_;have tt:Tr P0 P H1 P' H2:=t'.trans (E'.tr s2);cases q2:gb ρ1 with
    |bad=>rw[q2] at g';exact g'
    |ex x=>rw[q2] at g';exact gS.tr (m:=.ex x) g' (E'.tr s2)
    |ok o =>
     rw[q2] at g';cases o with
     |ret d=>exact gS.tr (m:=.ok (.ret d)) g' (E'.tr s2)
     |D1 d=>exact gS.tr (m:=.ok (.D1 d)) g' (E'.tr s2)
     |FE d ρ2=>exact gS.tr (m:=.ok (.FE d ρ2)) g' (E'.tr s2)
     |next ρ2|cont ρ2=>exact λ σ4 H4 P4 t4 E4=>⟨af,P4,ρ2,tt.trans t4,E4,gS.tr g' ((E'.tr s2).trans t4)⟩
     |brk ρ2=>exact λ σ4 H4 P4 t4 E4=>g' σ4 H4 P4 ((E'.tr s2).trans t4) E4
  ·have e:i=ds.length:=by omega
   subst e;refine .inl ⟨ok.stop _ P' H' t'.1 (zag _),?_⟩;rw[zct,forM] at g';exact g' σ' H' P' Tr.refl E'
end
noncomputable def VU (K:za0)(n:Nat)(F:List D->M D):Sp:=λ vs H Q _=>vs.length=n/\∃P ds,(∀a,P a->F7 H a)/\Al K (del H P) vs ds/\gV K (λ _ _=>False) P H Q (F ds)
noncomputable def DQ (N:List Str)(ds:List D):Aj:=ds.map (λ d=>some (.val d))++zak (N.length-ds.length) none
noncomputable def clD:Cl->M D
 | .val d=>.ok d
 | .own ds=>.ok (.lst ds)
 | .ow (.rows G5)=>.ok (.lst (G5.map D.lst))
 | .ow (.MD _ _)=>.bad
 | .ow (.tree _ t)=>.ok (er t)
noncomputable def fin (m:M Out):M D:=match m with
 | .ok (.ret d)=>.ok d
 | .ok (.D1 c)=>clD c
 | .ok (.next _)=>.ok .AJ
 |_=>.bad
theorem QZ {K:za0}{P:Addr->Prop}{H:Hp}{N:List Str}{vs:List V}{ds:List D}(ht:∀a,P a->F7 H a)(h:Al K (del H P) vs ds):Aq K ⟨P,λ _=>0⟩ P H (start N vs) (DQ N ds):=by
 have hl:=h.length;have key:∀(i:Nat) (c:Cl),(DQ N ds)[i]?=some (some c)->∃d,ds[i]?=some d/\c=.val d:=λ i c e=>by
  unfold DQ at e;by_cases hi:i<ds.length
  ·rw[zc8 (by simpa using hi),zam] at e;cases q:ds[i]? with
   |none=>rw[q] at e;cases e
   |some d=>rw[q] at e;cases e;exact⟨d,rfl,rfl⟩
  ·rw[zd6 (by simpa using hi),zcg] at e;split at e<;>cases e
 refine⟨λ _ h=>h,ht,λ i d e=>?_,λ i es e io=>?_,λ i j c c' v v' fp ag e _ _ _ ho _ _=>?_,?_,λ i c n e hp=>?_⟩
 rotate_left 4
 ·obtain⟨d',q,z⟩:=key i _ e;cases z;cases hp
 ·obtain⟨d',q,z⟩:=key i _ e;cases z;obtain⟨v,hv,hd⟩:=h.get q;refine⟨v,?_,hd⟩;unfold start;rw[zc8 (by rw[za2];exact (zai.mp hv).1),zam,hv];rfl
 ·obtain⟨d',q,z⟩:=key i _ e;cases z;cases io
 ·obtain⟨d',q,z⟩:=key i _ e;cases z;exact ho.elim
 ·unfold start DQ;simp[hl]
theorem Em {P:Addr->Prop}{H H':Hp}{P':Addr->Prop}(t:Tr P P H P' H'):Ak H H':=λ b o e=>by
 by_cases hb:P b
 ·rw[t.2 b hb];exact e
 ·exact (Ao (t.1 b o (by rw[Az hb];exact e))).2
theorem D4.rF {K:za0}{H:Hp}{P P0:Addr->Prop}(hs:∀a,P0 a->P a):∀ {ps:List Addr}{G5:List (List D)},(∀a∈ps,¬ P0 a)->D4 K H P ps G5->Al K (del H P0) (ps.map V.ref) (G5.map D.lst)
 |_,_,_,.nil=>.nil
 |_,_,k,.cons h r t=>.cons (.lst (.of (show del H P0 _=_ by rw[Az (k _ za3)];exact h)) (r.mono (D3 hs))) (D4.rF hs (λ a ha=>k a (za4 _ ha)) t)
theorem jW {K:za0}{WX:Str->Hp->Prop}{P P2:Addr->Prop}{H H':Hp}{Q:VK}{c:Cl}{v:V}{fp:List Addr}(h:gV K WX P H Q (clD c))(t':Tr P P H P2 H')(hs:∀a,P a->P2 a)(ht:∀a,P2 a->F7 H' a)(ho:D5 K H' P2 c v fp)(hp:∀a∈fp,P2 a/\¬ P a):Q v H':=by
 cases c with
 |val d=>exact ho.elim
 |own ds =>
  obtain⟨p,xs,rfl,rfl,h1,h2⟩:=ho;exact h _ H' (Em t') (.lst (.of (show del H' P p=_ by rw[Az (hp p za3).2];exact h1)) (h2.mono (D3 hs)))
 |ow o =>
  cases o with
  |rows G5 =>
   obtain⟨p,ps,rfl,rfl,h1,h2⟩:=ho;exact h _ H' (Em t') (.lst (.of (show del H' P p=_ by rw[Az (hp p za3).2];exact h1)) (h2.rF hs λ a ha=>(hp a (za4 _ ha)).2))
  |MD p ds=>exact h.elim
  |tree p t=>exact h _ H' (Em t') (C1.has hs (λ a ha=>(hp a ha).2) ho)
section
variable {P:Program}{w:World}{K:za0}{mg:Str->Option Value}{base:Heap}
theorem wF {x qual:Str}{st:Stmt}{f:Addr}{fd:FuncData}{N ps:List Str}{k:Nat}(F:ZO K x qual st f fd)(S:Ai N ps (A8 st))(g:Aj->M Out)
 (hb:∀(B5:Value) (A:Around) (outer:List Env) (s:Shared) (H:Hp) (E:XK),BU k (A.deeper (envOfC qual (A8 st) s.heap.objs.size f B5))->Vk (Tp jI P w K mg base N qual (A8 st) f B5 A outer s H E).uP (λ _ _=>False) (AU st) g):
 E7 P w K mg base jI (k+1) f fd ps (VU K ps.length λ ds=>fin (g (DQ N ds))):=by
 refine F.ok S (λ vs H Q E h=>h.1) λ B5 A outer s H vs Q E hr h=>?_;obtain⟨hl,P',ds,ht,hv,hq⟩:=h;obtain⟨t,h1,h2⟩:=hb B5 A outer s H E hr;refine⟨t,h1,h2 ⟨P',λ _=>0⟩ P' _ H _ _ (QZ ht hv) ?_⟩;dsimp only at hq;revert hq;cases g (DQ N ds) with
 |bad|ex x=>exact λ h=>h.elim
 |ok o =>
  cases o with
  |ret d=>exact λ h v H' P2 t hv=>h v H' (Em t) hv
  |next ρ=>exact λ h σ' H' P2 t E=>h .AJ H' (Em t) .AJ
  |brk ρ|cont ρ=>exact λ h=>h.elim
  |D1 c=>exact λ h v fp H' P2 t hs ht ho hp nd=>jW h t hs ht ho hp
  |FE d ρ=>exact λ h=>h.elim
end
section
variable {X:Cx}{WX:Str->Hp->Prop}{c:Bool}{P0:E8}{P:Addr->Prop}{H:Hp}{σ:St}{ρ:Aj}{a b e tg iter:Expr}{f g:Aj->M D}{ft:Aj->M Bool}{pos:Pos}{gt:D->Aj->M Aj}{fi:Aj->M (List D)}{es:List Expr}{fs:Aj->M (List D)}
noncomputable def Ba (μ:List (Option Nat))(ρ:Aj):Aj:=μ.map λ o=>o.bind λ i=>match ρ[i]? with | some (some (.val d))=>some (.val d) | _=>none
theorem ID {μ:List (Option Nat)}{ρ:Aj}{j:Nat}{cl:Cl}(h:(Ba μ ρ)[j]?=some (some cl)):∃i d,μ[j]?=some (some i)/\ρ[i]?=some (some (.val d))/\cl=.val d:=by
 unfold Ba at h;rw[zam] at h;cases q:μ[j]? with
 |none=>rw[q] at h;cases h
 |some o =>
  rw[q] at h;cases o with
  |none=>cases h
  |some i =>
   simp only[zbo,Option.bind_some,Option.some.injEq] at h;split at h
   ·rename_i d e;cases h;exact⟨i,d,rfl,e,rfl⟩
   ·cases h
theorem Aq.block {K:za0}(E:Aq K P0 P H σ ρ)(μ:List (Option Nat)):Aq K P0 P H (Fn μ σ) (Ba μ ρ):=by
 refine⟨E.sub,E.Cr,λ j d h=>?_,λ j ds h io=>?_,λ j k c c' v v' fp ag h _ _ _ ho _ _=>?_,by unfold Fn Ba;simp,λ j c n h hp=>by obtain⟨i,d',h1,h2,h3⟩:=ID h;subst h3;cases hp⟩
 ·obtain⟨i,d',h1,h2,h3⟩:=ID h;cases h3;obtain⟨v,h4,h5⟩:=E.val i d h2;refine⟨v,?_,h5⟩;unfold Fn;rw[zam,h1];simp[h4]
 ·obtain⟨i,d',h1,h2,h3⟩:=ID h;cases h3;cases io
 ·obtain⟨i,d',h1,h2,h3⟩:=ID h;cases h3;exact ho.elim
noncomputable def B6 (gt:D->Aj->M Aj)(ft:Aj->M Bool)(fe:Aj->M D):List D->Aj->M (List D)
 |[],_=>.ok []
 |d::r,ρ=>match gt d ρ with
  | .ok ρ1=>(match ft ρ1 with
   | .ok k=>if k=true then (match fe ρ1 with
    | .ok y=>(match B6 gt ft fe r ρ with | .ok ys=>.ok (y::ys)|_=>.bad)
    |_=>.bad) else B6 gt ft fe r ρ
   |_=>.bad)
  |_=>.bad
def tT (X:Cx)(scope:Scope)(NB:List Str)(μ:List (Option Nat))(tg:Expr)(gt:D->Aj->M Aj):Prop:=
 ∃g:TG,(∀s H C ex,PG (blockOf X s H scope C NB ex) tg g)/\LW μ g/\∀P0 P σ H Q ρ v d,Aq X.K P0 P H σ ρ->BM X.K (del H P) v d->gG X.K P0 P H Q (gt d ρ)->g v σ H Q
theorem Bt {scope:Scope}{NB:List Str}{μ:List (Option Nat)}(i:Nat){x:Str}(hN:NB.Nodup)(hi:NB[i]?=some x)(hx:(relabel scope X.env).names.lookup x=some .local)(hm:μ[i]?=some none):tT X scope NB μ (.Name x pos) (λ d ρ=>.ok (ρ.set i (some (.val d)))):=
 ⟨QL i,λ s H C ex=>RV (X:=blockOf X s H scope C NB ex) hN hi (.inl hx) (.inr hx),jQ hm,λ P0 P σ H Q ρ v d E hv h=>h _ (E.VR hv)⟩
def tU (X:Cx)(cs:List Expr)(f:Aj->M Bool):Prop:=
 ∃t,tQ X cs t/\∀P0 P σ H Q ρ,Aq X.K P0 P H σ ρ->gT (λ _ _=>False) H Q (f ρ)->t σ H Q
theorem DJ:tU X [] (λ _=>.ok true):=⟨_,jO,λ P0 P σ H Q ρ E h=>h H (Ak.refl H)⟩
theorem En (h:DT X (λ _ _=>False) a ft):tU X [a] ft:=let ⟨t,h1,h2⟩:=h;⟨_,jP h1,h2⟩
noncomputable def Kd (m:M (List D)):M D:=match m with | .ok ys=>.ok (.lst ys) | _=>.bad
theorem rG {μ:List (Option Nat)}{wi:TI}{gg:TG}{tc:Shared->Hp->Addr->List Addr->TT}{te:Shared->Hp->Addr->List Addr->TE}{fe:Aj->M D}
 (i2:∀P0 P σ H R ρ,Aq X.K P0 P H σ ρ->(match fi ρ with | .ok ds=>∀J H',Ak H H'->VS X.K J P H' ds->R J H' | .ex x=>∀H',Ak H H'->WX x H' | .bad=>False)->wi σ H R)
 (g2:∀P0 P σ H Q ρ v d,Aq X.K P0 P H σ ρ->BM X.K (del H P) v d->gG X.K P0 P H Q (gt d ρ)->gg v σ H Q)
 (t2:∀s H' C ex P0 P σ H Q ρ,Aq X.K P0 P H σ ρ->gT (λ _ _=>False) H Q (ft ρ)->tc s H' C ex σ H Q)
 (e2:∀s H' C ex P0 P σ H Q ρ,Aq X.K P0 P H σ ρ->gV X.K (λ _ _=>False) (Lv c P0 P) H Q (fe ρ)->te s H' C ex σ H Q) {Q:VK}
 (E:Aq X.K P0 P H σ ρ) (h:gV X.K WX (Lv c P0 P) H Q ((fi ρ).bind λ ds=>if ds.length<=1000 then Kd (B6 gt ft fe ds (Ba μ ρ)) else .bad)):TK wi μ gg tc te σ H Q:=by
 refine i2 P0 P σ H _ ρ E ?_;cases q:fi ρ with
 |bad|ex x=>rw[q] at h;exact h
 |ok ds =>
  rw[q] at h;simp only[M.Ad] at h;by_cases hd:¬ ds.length<=1000
  ·rw[if_neg hd] at h;exact h.elim
  have hd:ds.length<=1000:=by omega
  rw[if_pos hd] at h;intro J H1 s1 ok s C ex;cases qc:B6 gt ft fe ds (Ba μ ρ) with
  |bad|ex x=>rw[qc] at h;exact h.elim
  |ok total =>
   rw[qc] at h;unfold Kd at h;dsimp only at h;have E1:=E.same s1;refine⟨λ i m ys H2=>m=ds.length-i/\i<=ds.length/\ys.length<=i/\Ak H1 H2/\∃es rest,Al X.K (del H2 (Lv c P0 P)) ys es/\B6 gt ft fe (ds.drop i) (Ba μ ρ)=.ok rest/\es++rest=total,
    ⟨ds.length,by simp,zbc _,zag _,Ak.refl _,[],total,.nil,by rw[List.drop_zero];exact qc,rfl⟩,?_⟩
   rintro i m ys H2 ⟨rfl,hi,hy,s2,es,rest,bE,ae,a8⟩;by_cases af:i<ds.length
   ·refine .inr ⟨ok.go i P H2 s2.del af,Nat.lt_of_le_of_lt hy (AG (by omega)),λ aL H'=>i+1<=ds.length/\aL.length<=i+1/\Ak H1 H'/\∃es rest,Al X.K (del H' (Lv c P0 P)) aL es/\B6 gt ft fe (ds.drop (i+1)) (Ba μ ρ)=.ok rest/\es++rest=total,λ aL H' hq=>⟨ds.length-(i+1),by omega,rfl,hq.1,hq.2.1,hq.2.2.1,hq.2.2.2⟩,λ v H3 y=>?_⟩;have E2:=E1.same s2;obtain⟨s3,hv⟩:=ok.iQ i P H2 v H3 ds[i] s2.del E2.Cr (za8 af) y;rw[Hq af,B6] at ae;have E3:=(E2.same s3).block μ;refine g2 P0 P _ H3 _ (Ba μ ρ) v ds[i] E3 hv ?_;cases q1:gt ds[i] (Ba μ ρ) with
    |bad|ex x=>rw[q1] at ae;cases ae
    |ok ρ1 =>
     rw[q1] at ae;dsimp only at ae;intro σ4 E4;refine t2 s H1 C ex P0 P σ4 H3 _ ρ1 E4 ?_;cases q2:ft ρ1 with
     |bad|ex x=>rw[q2] at ae;cases ae
     |ok k =>
      rw[q2] at ae;dsimp only at ae;intro H5 s5;cases k with
      |false =>
       simp only[zat,if_false] at ae ⊢;exact⟨af,by omega,(s2.trans s3).trans s5,es,rest,(bE.mono s3.del).mono s5.del,ae,a8⟩
      |true =>
       simp only[if_true] at ae ⊢;refine e2 s H1 C ex P0 P σ4 H5 _ ρ1 (E4.same s5) ?_;cases q3:fe ρ1 with
       |bad|ex x=>rw[q3] at ae;cases ae
       |ok y' =>
        rw[q3] at ae;dsimp only at ae;cases q4:B6 gt ft fe (ds.drop (i+1)) (Ba μ ρ) with
        |bad|ex x=>rw[q4] at ae;cases ae
        |ok jk =>
         rw[q4] at ae;cases ae;intro w H6 s6 hw;refine⟨af,by rw[zaj,zbf];omega,((s2.trans s3).trans s5).trans s6,es++[y'],jk,(((bE.mono s3.del).mono s5.del).mono s6.del).snoc hw,rfl,?_⟩;rw[zbk];exact a8
   ·have e:i=ds.length:=by omega
    subst e;rw[zct,B6] at ae;cases ae;rw[zb8] at a8;subst a8;refine .inl ⟨ok.stop _ P H2 s2.del (zag _),λ D0 hn=>h _ _ ((s1.trans s2).trans (AO hn _)) (.lst (.of (Ka hn λ a q=>(E1.same s2).vV c a q)) (bE.mono (AO hn _).del))⟩
theorem Gg {scope:Scope}{NB:List Str}{ifs:List Expr}{elt:Expr}{fe:Aj->M D}(i:Nat){x:Str}{px ay:Pos}(μ:List (Option Nat))(hN:X.N.Nodup)(jf:X.N[i]?=some x)(hx:Loc X.env.scope x)(hc:X.calm=true)(hi:DI X WX tg iter fi)(av:GZ scope X.env.scope=true)(aY:Qm X.N NB scope μ=true)(hg:tT X scope NB μ tg gt)
 (ht:∀s H C ex,tU (blockOf X s H scope C NB ex) ifs ft) (he:∀s H C ex,DE (blockOf X s H scope C NB ex) (λ _ _=>False) true elt fe)
 (bn:swapsWith (.ListComp elt [⟨tg,iter,ifs,0⟩] scope pos) (some (.Name x px)) ay.line X.env=pure true:=by rfl) (hs:∀x,foldedSetIterable iter X.env x=pure x:=by intro _;rfl) (hf:X.fn x=true\/X.env.scope.names.lookup x=some .local:=by first|exact .inl rfl|exact .inr rfl|assumption):
 DS X WX (.Assign [.Name x px] (.ListComp elt [⟨tg,iter,ifs,0⟩] scope pos) ay) (λ ρ=>((fi ρ).bind λ ds=>if ds.length<=1000 then Kd (B6 gt ft fe ds (Ba μ ρ)) else .bad).bind λ d=>.ok (.next (ρ.set i (some (.val d))))):=by
 obtain⟨wi,i1,i2⟩:=hi;obtain⟨gg,g1,gk,g2⟩:=hg;refine⟨_,X9 hN jf hx hc i1 av aY gk (λ s H C ex=>⟨g1 s H C ex,(za1 (ht s H C ex)).1,(za1 (he s H C ex)).1⟩) bn hs hf,λ P0 P σ H Z ρ E h=>?_⟩;refine rG (c:=true) i2 g2 (λ s H' C ex P0 P σ H Q ρ E h=>(za1 (ht s H' C ex)).2 P0 P σ H Q ρ E h) (λ s H' C ex P0 P σ H Q ρ E h=>(za1 (he s H' C ex)).2 P0 P σ H Q ρ E h) E ?_;dsimp only at h;revert h;cases ((fi ρ).bind λ ds=>if ds.length<=1000 then Kd (B6 gt ft fe ds (Ba μ ρ)) else .bad) with
 |bad=>exact λ h=>h
 |ex y=>exact λ h H' s=>h H' P (E.tr s)
 |ok d=>exact λ h v H' s hv=>h _ H' P (E.tr s) ((E.same s).VR hv)
end
section
variable {X:Cx}{WX:Str->Hp->Prop}{c:Bool}{P0:E8}{P:Addr->Prop}{H:Hp}{σ:St}{ρ:Aj}{a b e k:Expr}{f g:Aj->M D}{te tk:TE}{pos p2:Pos}
noncomputable def aba (x y:D):M D:=match x,y with | .lst ds,.int i=>if i = -1 then .ok (.lst ds.reverse) else .bad | _,_=>.bad
noncomputable def D8:List D->Option (List Int)
 |[]=>some []
 | .int i::r=>(D8 r).map (i::·)
 |_=>none
noncomputable def dJ:D->Option (List Int)
 | .tup ds=>D8 ds
 |_=>none
noncomputable def Hr:List D->Option (List (D×List Int))
 |[]=>some []
 |d::r=>(dJ d).bind λ k=>(Hr r).map ((d,k)::·)
noncomputable def Xh (l d:D):M D:=match l with
 | .lst ds=>(match Hr ds with|some ks=>.ok (match Bj ks with|none=>d|some b=>b.1)|none=>.bad)
 |_=>.bad
theorem M3 {K:za0}{H:Hp}:∀ {xs:List V}{ds:List D}{ns:List Int},Al K H xs ds->D8 ds=some ns->xs=ns.map V.int
 |_,_,_,.nil,e=>by simp only[D8] at e;cases e;rfl
 |_,_,_,.cons (d:=d) h t,e=>by
  cases d with
  |int i =>
   simp only[D8] at e;cases q:D8 _ with
   |none=>rw[q] at e;cases e
   |some ns =>
    rw[q] at e;cases e;rw[h.int_inv,M3 t q];rfl
  |_=>simp[D8] at e
noncomputable abbrev Alike (K:za0)(H:Hp):List (Addr×List Int)->List (D×List Int)->Prop:=Paired λ p q=>p.2=q.2/\BM K H (.ref p.1) q.1
theorem JD {K:za0}{H:Hp}:∀ {xs:List V}{ds:List D}{ks:List (D×List Int)},Al K H xs ds->Hr ds=some ks->∃bs:List (Addr×List Int),xs=bs.map (λ b=>V.ref b.1)/\(∀b∈bs,F9 K H b.1 (b.2.map V.int))/\Alike K H bs ks
 |_,_,_,.nil,e=>by simp only[Hr] at e;cases e;exact⟨[],rfl,by simp,.nil⟩
 |_,_,_,.cons (d:=d) h t,e=>by
  simp only[Hr] at e;cases q:dJ d with
  |none=>rw[q] at e;cases e
  |some k =>
   rw[q] at e;simp only[Option.bind_some] at e;cases q2:Hr _ with
   |none=>rw[q2] at e;cases e
   |some ks =>
    rw[q2] at e;cases e;obtain⟨bs,h1,h2,h3⟩:=JD t q2;cases d with
    |tup es =>
     have h':=h;cases h with
     | @tup a xs _ hs hl =>
      simp only[dJ] at q;have e1:=M3 hl q;subst e1;refine⟨(a,k)::bs,by rw[h1];rfl,λ b hb=>?_,.cons ⟨rfl,h'⟩ h3⟩;rcases zaa.mp hb with z|z
      ·subst z;exact F9.of hs
      ·exact h2 b z
    |_=>simp[dJ] at q
theorem Oj {K:za0}{H:Hp}{bs:List (Addr×List Int)}{ks:List (D×List Int)}(h:Alike K H bs ks):(Bj bs=none/\Bj ks=none)\/∃b k,Bj bs=some b/\Bj ks=some k/\b.2=k.2/\BM K H (.ref b.1) k.1:=by
 unfold Bj
 suffices z:∀(o:Option (Addr×List Int)) (o':Option (D×List Int)),((o=none/\o'=none)\/∃b k,o=some b/\o'=some k/\b.2=k.2/\BM K H (.ref b.1) k.1)->
  ((bs.foldl BV o=none/\ks.foldl BV o'=none) \/
   ∃b k,bs.foldl BV o=some b/\ks.foldl BV o'=some k/\b.2=k.2/\BM K H (.ref b.1) k.1) from z none none (.inl ⟨rfl,rfl⟩)
 induction h with
 |nil=>intro o o' h;exact h
 | @cons b k bs ks hh t ih =>
  intro o o' h;rw[zav,zav];refine ih _ _ ?_;rcases h with ⟨rfl,rfl⟩|⟨b',k',rfl,rfl,e1,e2⟩
  ·exact .inr ⟨b,k,rfl,rfl,hh⟩
  ·unfold BV;dsimp only;rw[hh.1,e1];by_cases hl:HT.lexLt k.2 k'.2=true
   ·rw[if_pos hl,if_pos hl];exact .inr ⟨b,k,rfl,rfl,hh⟩
   ·rw[if_neg hl,if_neg hl];exact .inr ⟨b',k',rfl,rfl,e1,e2⟩
theorem jX {p kp:Pos}{e2:Expr}(hc:X.calm=true)(hu:X.A.units+1<cLine)(hg:Gl X "min")(hm:X.mg "min" = none)(ha:DE X WX c e f)(hb:DE X WX c e2 g)
 (aD:starEach [e] X.env=[(false,eval e X.env)]:=by rfl) (aF:(backToKw pos (keywordEach [⟨some "default",e2,kp⟩] X.env)).all (·.1.isSome)=true:=by rfl) (pf:(backToKw pos (keywordEach [⟨some "default",e2,kp⟩] X.env)).filterMap (·.1)=([("default" : Str)]:List Str):=by rfl)
 (ph:(backToKw pos (keywordEach [⟨some "default",e2,kp⟩] X.env)).any (·.1.isNone)=false:=by rfl) (ci:backTo pos (starEach [e] X.env)=(false,eval e X.env)::backTo pos (starEach [] X.env):=by rfl) (hpl:(backTo pos (starEach [e] X.env)).any (·.1)=false:=by rfl):
 DE X WX c (.Call (.Name "min" p) [e] [⟨some "default",e2,kp⟩] pos) (λ ρ=>(f ρ).bind λ x=>(g ρ).bind λ y=>Xh x y):=by
 obtain⟨ta,a1,a2⟩:=ha;obtain⟨tb,b1,b2⟩:=hb;refine⟨_,jS hc hu hg hm a1 b1 aD aF pf ph ci hpl,λ P0 P σ H Q ρ E h=>TQ (r:=λ x d H2 Q=>∃(a:Addr) (bs:List (Addr×List Int)),x=.ref a/\CO X.K H2 a (bs.map λ b=>V.ref b.1)/\(∀b∈bs,F9 X.K H2 b.1 (b.2.map V.int))/\Q (match Bj bs with|none=>d|some b=>.ref b.1) H2) a2 b2 ?_ E h⟩;intro P H x y v w Q ht hx hy h;unfold Xh at h;split at h
 ·rename_i ds;split at h
  ·rename_i ks e1;cases hx with
   | @lst a xs _ hs hl =>
    obtain⟨bs,rfl,h2,h3⟩:=JD hl e1;refine⟨a,bs,rfl,hs.AV,λ b hb=>(h2 b hb).AV,?_⟩;rcases Oj h3 with ⟨q1,q2⟩|⟨b,k,q1,q2,_,q3⟩
    ·rw[q1];rw[q2] at h;exact h _ H (Ak.refl H) hy
    ·rw[q1];rw[q2] at h;exact h _ H (Ak.refl H) q3
  ·exact h.elim
 ·exact h.elim
end
theorem huR {A:Around}{k:Nat}(hr:BU k A)(n:Nat)(hn:n<=64):A.units+n<cLine:=by have:=hr.units;omega
structure AI (K:za0)(mg:Str->Option Value)(x:Str)(st:Stmt)(ps:List Str):Prop where
 ex:∃f fd,ZO K x x st f fd/\mg x=some (.ref f)/\Binds K fd ps []
noncomputable def YG (P:Program)(w:World)(base:Heap):WZ:=λ _ _ _ _ _ _=>False
noncomputable abbrev nT (P:Program)(w:World)(K:za0)(mg:Str->Option Value)(base:Heap)(N:List Str)(qual:Str)(scope:Scope)(f:Addr)(cd:Value)(A:Around)(outer:List Env)(s:Shared)(H:Hp)(E:XK):Cx:=
 Tp (YG P w base) P w K mg base N qual scope f cd A outer s H E
structure Hs (X:Cx)(E:XK):Prop where
 call:Jw (YG X.prog X.w X.base) X E
 own:PassesOwn (model X.prog X.w) X.A X.env X.xe
theorem Aa {P:Program}{w:World}{K:za0}{mg:Str->Option Value}{base:Heap}{N:List Str}{qual:Str}{scope:Scope}{f:Addr}{cd:Value}{A:Around}{outer:List Env}{s:Shared}{H:Hp}{E:XK}:
 Hs (nT P w K mg base N qual scope f cd A outer s H E) E:=⟨λ _ _ _ _ _ _ _ h=>h.elim,PassesOwn.leaving⟩
theorem Bn {X:Cx}(h:X.xe=λ _ _=>False):Hs X E0:=⟨λ _ _ _ _ _ _ _ h=>h.elim,by rw[h];exact PassesOwn.never⟩
theorem Hs.toXCall {X:Cx}{E:XK}(h:Hs X E):Hs X E:=h
def EF (K:za0)(E:XK):Str->Hp->Prop:=λ x H=>∃c,zb1 K mainGlobals x=some (some (.ref c))/\E (.ref c) none H
section
variable {X:Cx}{WX:Str->Hp->Prop}{c:Bool}{a b e:Expr}{f g:Aj->M D}{pos p:Pos}
noncomputable def nU (K:za0):R2:=λ x y H Q=>∃l b xs zs,x=.ref l/\y=.ref b/\CO K H l xs/\CO K H b zs/\xs.length+zs.length<=sizeLine/\∀p,H p=none->Q (.ref p) (upd H p (.lst (xs++zs)))
theorem jY:G7 X (binaryOp .Add) (nU X.K):=by
 intro pins s σ H x y v u Q I rx ry h;obtain⟨l,b,xs,zs,rfl,rfl,h1,h2,hz,q⟩:=h;cases rx;cases ry;obtain⟨aa,r,⟨⟨c1,d1,t1,wp⟩,n,e1,q1,q2,q3⟩,bA⟩:=I.list h1;obtain⟨aI,r2,⟨⟨c2,d2,t2,i5⟩,n2,e2,q4,q5,q6⟩,ur⟩:=I.list h2;dsimp only at q1 q2 q3 q4 q5 q6;subst q1 q2 q3 q4 q5 q6;have l1:=r.length;have l2:=r2.length;refine concat_meets ⟨_,e1,rfl⟩ ⟨_,e2,rfl⟩ noFill_list_add seq_list_add PySem.F.slot_list_add PySem.F.entry_list_add (PySem.F.args_list_add_2 _ _) (list_addW l b aa.toArray aI.toArray n n2 none none wp i5 (by rw[zad,zad];omega)) ⟨e1,e2,?_⟩;rw[show aa.toArray++aI.toArray=(aa++aI).toArray by simp];exact⟨.ref _,_,I.vK (t':=s.toks) (r.append r2) (by rw[zaj];omega),rfl,q _ I.fresh⟩
noncomputable def aaK (x y:D):M D:=match x,y with
 | .int i,.int j=>.ok (.int (i+j))
 | .lst ds,.lst es=>if ds.length+es.length<=1000 then .ok (.lst (ds++es)) else .bad
 |_,_=>.bad
theorem Al.wG {K:za0}{H:Hp}:∀ {xs ys:List V}{ds es:List D},Al K H xs ds->Al K H ys es->Al K H (xs++ys) (ds++es)
 |_,_,_,_,.nil,h=>h
 |_,_,_,_,.cons a t,h=>.cons a (t.wG h)
noncomputable def yH (neg:Bool)(x y:D):M D:=match x,y with
 | .int i,.lst ds=>(match D8 ds with|some ns=>.ok (.bl (if neg then !ns.contains i else ns.contains i))|none=>.bad)
 |_,_=>.bad
theorem dM (i:Int)(ns:List Int):yD (.int i) (ns.map V.int)=ns.contains i:=by
 unfold yD;induction ns with
 |nil=>rfl
 |cons n r ih =>
  rw[za5,zd5,ih,List.contains_cons];congr 1;show (n==i)=(i==n);rw[zcr,beq_iff_eq,beq_iff_eq];exact eq_comm
theorem YH (ns:List Int):(ns.map V.int).all K0=true:=by
 induction ns with
 |nil=>rfl
 |cons n r ih=>rw[za5,List.all_cons,ih];rfl
theorem Ht {neg:Bool}:Xf X.K WX (yE X.K neg) (yH neg):=by
 intro P H x y v w Q ht hx hy h;unfold yH at h;split at h
 ·rename_i i ds;split at h
  ·rename_i ns hn;cases hx;cases hy with
   |lst h1 h2 =>
    have e:=M3 h2 hn;subst e;refine⟨_,_,rfl,.inl h1.AV,rfl,YH ns,?_⟩;rw[dM];exact h _ H (Ak.refl H) (.bl _)
  ·exact h.elim
 ·exact h.elim
end
section
variable {X:Cx}{WX:Str->Hp->Prop}
theorem VW {st:Stmt}:DS X WX st (λ _=>.bad):=⟨λ _ _ _=>False,λ _ _ _ _ _ _ h=>h.elim,λ _ _ _ _ _ _ _ h=>h.elim⟩
end
def TX (i j:Int):Prop:=(i.natAbs<2^1000/\j.natAbs<2^1000)\/bO i j
instance (i j:Int):Decidable (TX i j):=by unfold TX;infer_instance
theorem R3 {i:Int}(h:i.natAbs<2^1000):zbs i<=2^20:=by
 unfold zbs;split
 ·exact zbc _
 ·rename_i z;have h0:i.natAbs≠0:=λ q=>z (by rw[Int.natAbs_eq_zero.mp q];rfl);have:=(Nat.log2_lt h0).mpr h;have h3:(1000:Nat)<=2^20:=by decide
  exact zbq this h3
theorem TX.ok {i j:Int}(h:TX i j):IntMulOk i j:=by
 rcases h with ⟨h1,h2⟩|h
 ·exact IntMulOk.of_bits (R3 h1) (R3 h2)
 ·exact h.ok
theorem Ol (n:Nat):Cg 0 n=(zb6 n).map λ i:Nat=>D.int (i:Int):=by
 apply zd4;intro i;rw[zam];by_cases h:i<n
 ·have hi:i<(Cg 0 n).length:=by rw[Dq];exact h
  have e:=za8 hi;obtain⟨h1,_⟩:=CF e;rw[e,h1,zc6 h,Int.zero_add];rfl
 ·rw[zbg (by rw[Dq];omega),zbg (by simp;omega)];rfl
theorem FH (ns:List Int):D8 (ns.map D.int)=some ns:=by
 induction ns with
 |nil=>rfl
 |cons n r ih=>rw[za5,D8,ih];rfl
theorem dN (ds:List D)(n:Nat):tS (some (n:Int)) none (.lst ds)=.ok (.lst (ds.drop n)):=by
 unfold tS;dsimp only;rw[HT.cD,HT.RX];congr 2;by_cases h:n<=ds.length
 ·rw[Nat.min_eq_left h,List.take_of_length_le (by rw[zd9];exact zag _)]
 ·rw[Nat.min_eq_right (by omega),List.drop_of_length_le (zag _),List.drop_of_length_le (by omega),List.take_nil]
def Pl (n:Nat)(d:D):Prop:=S7 d<=n/\Cc d=true
theorem Sb {n:Nat}:∀ {ds:List D},(∀d∈ds,S7 d<=n)->S8 ds<=n
 |[],_=>by rw[S8];exact zbc _
 |d::r,h=>by
  rw[S8];exact Nat.max_le.mpr ⟨h d za3,Sb λ d hd=>h d (za4 _ hd)⟩
theorem Sd:∀ {ds:List D},(∀d∈ds,Cc d=true)->LY ds=true
 |[],_=>by rw[LY]
 |d::r,h=>by
  rw[LY,h d za3,Sd λ d hd=>h d (za4 _ hd)];rfl
theorem Ct {n:Nat}(i:Int):Pl n (.int i):=⟨by rw[S7];exact zbc _;all_goals simp,by rw[Cc];all_goals simp⟩
theorem Hu {n:Nat}:Pl n .AJ:=⟨by rw[S7];exact zbc _;all_goals simp,by rw[Cc];all_goals simp⟩
theorem VX {n:Nat}{ds:List D}(h:∀d∈ds,Pl n d):Pl (n+1) (.tup ds):=
 ⟨by rw[S7];exact Nat.succ_le_succ (Sb λ d hd=>(h d hd).1),by rw[Cc];exact Sd λ d hd=>(h d hd).2⟩
theorem M4 {n:Nat}{ds:List D}(h:∀d∈ds,Pl n d):Pl (n+1) (.lst ds):=
 ⟨by rw[S7];exact Nat.succ_le_succ (Sb λ d hd=>(h d hd).1),by rw[Cc];exact Sd λ d hd=>(h d hd).2⟩
theorem Xi {n:Nat}(ns:List Int):Pl (n+1) (.lst (ns.map D.int)):=M4 λ d hd=>by
 obtain⟨i,_,rfl⟩:=zaq.mp hd;exact Ct i
theorem Pl.le {n m:Nat}{d:D}(h:Pl n d)(k:n<=m):Pl m d:=⟨zbq h.1 k,h.2⟩
theorem Om {n:Nat}:∀d∈([]:List D),Pl n d:=λ d h=>by cases h
theorem Cb {n:Nat}{d:D}{ds:List D}(h:Pl n d)(t:∀d∈ds,Pl n d):∀e∈d::ds,Pl n e:=λ e he=>by
 rcases zaa.mp he with rfl|he
 ·exact h
 ·exact t e he
theorem Oo {n:Nat}{x y:D}(h:Pl n x)(k:Pl n y):cX n x y=.ok (.bl (Br x y)):=by
 unfold cX;rw[if_pos ⟨h.1,h.2,k.2⟩]
theorem Se {n:Nat}{x y:D}(h:Pl n x)(k:Pl n y):VO n x y=.ok (.bl (!Br x y)):=by
 unfold VO;rw[if_pos ⟨h.1,h.2,k.2⟩]
theorem Hv {n:Nat}{x:D}(h:Pl n x):VO n x x=.ok (.bl false):=by rw[Se h h,Of];rfl
theorem jZ (ds:List D)(a b:Nat):tS (some (a:Int)) (some (b:Int)) (.lst ds)=.ok (.lst ((ds.drop a).take (b-a))):=by
 unfold tS;dsimp only;rw[HT.RX,HT.RX];congr 2;by_cases h:a<=ds.length
 ·rw[Nat.min_eq_left h];by_cases h2:b<=ds.length
  ·rw[Nat.min_eq_left h2]
  ·rw[Nat.min_eq_right (by omega),List.take_of_length_le (by rw[zd9];exact zag _),List.take_of_length_le (by rw[zd9];omega)]
 ·rw[Nat.min_eq_right (show ds.length<=a by omega),List.drop_of_length_le (zag _),List.drop_of_length_le (show ds.length<=a by omega),List.take_nil,List.take_nil]
section
variable {X:Cx}{WX:Str->Hp->Prop}{c:Bool}{P0:E8}{P:Addr->Prop}{H:Hp}{σ:St}{ρ:Aj}{a b e:Expr}{f g:Aj->M D}{ft gt:Aj->M Bool}{pos:Pos}{st:Stmt}{rest:List Stmt}{g1 g2:Aj->M Out}
theorem TY {K:za0}{H:Hp}{v:V}{d:D}(h:BM K H v d):∀n:Nat,Al K H (zak n v) (zak n d)
 |0=>.nil
 |n+1=>by rw[zc5,zc5];exact .cons h (TY h n)
theorem TZ {K:za0}{H:Hp}{v:V}{d:D}(h:BM K H v d):∀ {vs:List V}{ds:List D}(n:Nat),Al K H vs ds->Al K H (vs.set n v) (ds.set n d)
 |_,_,_,.nil=>.nil
 |_,_,0,.cons _ t=>.cons h t
 |_,_,n+1,.cons a t=>.cons a (TZ h n t)
noncomputable def abb (i:Nat)(ρ:Aj)(d k:D):M Out:=match k with
 | .int j=>if 0<=j/\j.toNat<=1000 then .ok (.next (ρ.set i (some (.own (zak j.toNat d))))) else .bad
 |_=>.bad
theorem R4 {α:Type}(v:α):∀n:Nat,(zak n [v]).flatten=zak n v
 |0=>rfl
 |n+1=>by rw[zc5,List.flatten_cons,R4 v n];rfl
noncomputable def rH (i:Nat)(ρ:Aj)(ds:List D)(d k:D):M Out:=match k with
 | .int j=>(match iE ds.length j with|some n=>.ok (.next (ρ.set i (some (.own (ds.set n d)))))|none=>.bad)
 |_=>.bad
noncomputable def kA (i:Nat)(ρ:Aj)(m:M D)(d:D):M Out:=match ρ[i]? with
 |some (some (.own ds))=>m.bind (rH i ρ ds d)
 |_=>.bad
theorem Oq (i:Nat){x:Str}{p1 ay:Pos}(hv:PE X (.Name x p1) (Tg i))(ha:DE X WX true a f)(hk:DE X WX true b g)
 (hs:swapsWithSole [.Subscript (.Name x p1) b ay] a pos.line X.env=pure false:=by rfl) (hw:swappedStores [.Subscript (.Name x p1) b ay] a X.env=pure none:=by rfl) (h1:(assignEach [.Subscript (.Name x p1) b ay] X.env).map (·.2)=[assign (.Subscript (.Name x p1) b ay) X.env]:=by rfl)
 (pz:∀v,assign (.Subscript (.Name x p1) b ay) X.env v=(do
  let ov <-holding [v] (eval (.Name x p1) X.env);let iv <-holding [v,ov] (eval b X.env)
  standAt ay
  holding [v,ov,iv] (setItem ov iv v)
  release [v,ov,iv] []):=by intro _;rfl):
 DS X WX (.Assign [.Subscript (.Name x p1) b ay] a pos) (λ ρ=>(f ρ).bind (kA i ρ (g ρ))):=by
 obtain⟨ta,a1,a2⟩:=ha;obtain⟨tb,b1,b2⟩:=hk;refine⟨_,bJ a1 (pR hv b1 set_list pz) hs hw h1,λ P0 P σ H Z ρ E h=>?_⟩;dsimp only at h;refine a2 P0 P σ H _ ρ E ?_;refine iF h E λ d h=>?_;intro v H1 s1 hv;have E1:=E.same s1;unfold kA at h;split at h
 ·rename_i ds e1;obtain⟨p,xs,h1,h2,h3,h4,h5⟩:=E1.own i ds e1;refine⟨_,h1,b2 P0 P σ H1 _ ρ E1 ?_⟩;cases q2:g ρ with
  |bad=>rw[q2] at h;exact h.elim
  |ex x=>rw[q2] at h;exact λ H' s2=>h H' P ((E.tr s1).trans (E1.tr s2))
  |ok k =>
   rw[q2] at h;simp only[M.Ad] at h;unfold rH at h;intro w H2 s2 hw;split at h
   ·rename_i j;cases hw;split at h
    ·rename_i n en;have E2:=E1.same s2;refine⟨p,xs,j,n,rfl,rfl,s2 _ _ h2,by rw[h5.length];exact en,?_⟩;obtain⟨E3,t3⟩:=E2.mut e1 h1 h3 h4 (TZ (hv.mono s2.del) n (h5.mono s2.del));exact h _ _ _ ((E.tr s1).trans ((E1.tr s2).trans t3)) E3
    ·exact h.elim
   ·exact h.elim
 ·exact h.elim
noncomputable def AD (c:Aj->M Bool)(b:Aj->M Out):Nat->Aj->M Out
 |0,_=>.bad
 |n+1,ρ=>match c ρ with
  | .ok true=>(match b ρ with
   | .ok (.next ρ')| .ok (.cont ρ')=>AD c b n ρ'
   | .ok (.brk ρ')=>.ok (.next ρ')
   |r=>r)
  | .ok false=>.ok (.next ρ)
  | .ex x=>.ex x
  | .bad=>.bad
noncomputable def MF (c:Aj->M Bool)(b:Aj->M Out)(ρ:Aj):M Out:=
 @dite _ (∃n,AD c b n ρ≠.bad) (zdd _) (λ h=>AD c b (za6 h) ρ) (λ _=>.bad)
theorem CS {c:Aj->M Bool}{b:Aj->M Out}:∀ {n:Nat}{ρ:Aj},AD c b n ρ≠.bad->∀m,AD c b (n+m) ρ=AD c b n ρ
 |0,ρ,h,m=>(h rfl).elim
 |n+1,ρ,h,m=>by
  rw[show n+1+m=(n+m)+1 by omega];rw[AD] at h;rw[AD,AD];cases q:c ρ with
  |bad|ex x=>rfl
  |ok k =>
   rw[q] at h;cases k with
   |false=>rfl
   |true =>
    dsimp only at h ⊢;cases q2:b ρ with
    |bad|ex x=>rfl
    |ok o =>
     rw[q2] at h;cases o with
     |next ρ'=>dsimp only at h ⊢;exact CS h m
     |cont ρ'=>dsimp only at h ⊢;exact CS h m
     |brk ρ'=>rfl
     |ret d|D1 d|FE d ρ2=>rfl
theorem dO {c:Aj->M Bool}{b:Aj->M Out}{n:Nat}{ρ:Aj}(h:AD c b n ρ≠.bad):MF c b ρ=AD c b n ρ:=by
 unfold MF;have hx:∃n,AD c b n ρ≠.bad:=⟨n,h⟩;rw[dif_pos hx];have hc:=za1 hx;have e1:=CS h (za6 hx);have e2:=CS hc n;rw[Nat.add_comm] at e2;rw[<-e1,e2]
theorem YI {c:Aj->M Bool}{b:Aj->M Out}{ρ:Aj}(h:MF c b ρ≠.bad):∃n,AD c b n ρ≠.bad/\MF c b ρ=AD c b n ρ:=by
 by_cases hx:∃n,AD c b n ρ≠.bad
 ·obtain⟨n,hn⟩:=hx;exact⟨n,hn,dO hn⟩
 ·exact (h (by unfold MF;rw[dif_neg hx])).elim
theorem wH {K:za0}{Z:Ends}{m:M Out}(h:gS K WX P0 P H Z m):m≠.bad:=λ e=>by rw[e] at h;exact h
theorem Ke {body:List Stmt}(hp:PassesOwn (model X.prog X.w) X.A X.env X.xe)(hc:DT X WX a ft)(hb:Vk X WX body g1):DS X WX (.While a body [] pos) (MF ft g1):=by
 obtain⟨tc,c1,c2⟩:=hc;obtain⟨tb,b1,b2⟩:=hb;refine⟨_,bK hp c1 b1,λ P0 P σ H Z ρ E h=>?_⟩;obtain⟨n,hn,en⟩:=YI (wH h);rw[en] at h;refine⟨λ m σ' H'=>∃ρ' P',Aq X.K P0 P' H' σ' ρ'/\Tr P0 P H P' H'/\gS X.K WX P0 P' H' Z (AD ft g1 m ρ'),⟨n,ρ,P,E,Tr.refl,h⟩,?_⟩;rintro m σ1 H1 ⟨ρ1,P1,E1,t1,h1⟩;cases m with
 |zero=>exact h1.elim
 |succ m =>
  rw[AD] at h1;refine c2 P0 P1 σ1 H1 _ ρ1 E1 ?_;cases q:ft ρ1 with
  |bad=>rw[q] at h1;exact h1
  |ex x=>rw[q] at h1;exact λ H2 s2=>h1 H2 P1 (E1.tr s2)
  |ok k =>
   rw[q] at h1;intro H2 s2;have E2:=E1.same s2;cases k with
   |false =>
    rw[if_neg (by simp)];exact h1 σ1 H2 P1 (E1.tr s2) E2
   |true =>
    rw[if_pos rfl];dsimp only at h1;refine⟨λ σ' H'=>∃ρ' P',Aq X.K P0 P' H' σ' ρ'/\Tr P0 P H P' H'/\gS X.K WX P0 P' H' Z (AD ft g1 m ρ'),λ σ' H' z=>⟨m,Nat.lt_succ_self m,z⟩,?_⟩;refine b2 P0 P1 σ1 H2 _ ρ1 E2 ?_;cases q2:g1 ρ1 with
    |bad=>rw[q2] at h1;exact h1
    |ex x=>rw[q2] at h1;exact λ H3 P3 t3=>h1 H3 P3 ((E1.tr s2).trans t3)
    |ok o =>
     rw[q2] at h1;have t2:=t1.trans (E1.tr s2);cases o with
     |next ρ'=>exact λ σ3 H3 P3 t3 E3=>⟨ρ',P3,E3,t2.trans t3,h1.tr ((E1.tr s2).trans t3)⟩
     |cont ρ'=>exact λ σ3 H3 P3 t3 E3=>⟨ρ',P3,E3,t2.trans t3,h1.tr ((E1.tr s2).trans t3)⟩
     |brk ρ'=>exact λ σ3 H3 P3 t3 E3=>h1 σ3 H3 P3 ((E1.tr s2).trans t3) E3
     |ret d=>exact λ v H3 P3 t3 hv=>h1 v H3 P3 ((E1.tr s2).trans t3) hv
     |D1 d=>exact λ v fp H3 P3 t3=>h1 v fp H3 P3 ((E1.tr s2).trans t3)
     |FE d ρ2=>exact λ v fp σ3 H3 P3 t3=>h1 v fp σ3 H3 P3 ((E1.tr s2).trans t3)
noncomputable def aaL (ds:List D):M D:=match ds with
 |[.int i]=>.ok (.int i)
 |[.bl b]=>.ok (.int (if b then 1 else 0))
 |_=>.bad
noncomputable def Hw:List D->Option (List Bool)
 |[]=>some []
 | .bl b::r=>(Hw r).map (b::·)
 |_=>none
theorem Ot (bs:List Bool):Hw (bs.map D.bl)=some bs:=by
 induction bs with
 |nil=>rfl
 |cons b r ih=>rw[za5,Hw,ih];rfl
theorem Ou:∀ {ds:List D}{bs:List Bool},Hw ds=some bs->ds=bs.map D.bl
 |[],bs,h=>by cases h;rfl
 | .bl b::r,bs,h=>by
  rw[Hw] at h;cases q:Hw r with
  |none=>rw[q] at h;cases h
  |some wq=>rw[q] at h;cases h;rw[Ou q];rfl
 | .AJ::r,bs,h| .int _::r,bs,h| .str _::r,bs,h| .tup _::r,bs,h| .lst _::r,bs,h| .JX _::r,bs,h| .BB _ _ _::r,bs,h| .ins _ _ _::r,bs,h=>by cases h
theorem Ov {K:za0}{H:Hp}:∀ {vs:List V}{bs:List Bool},Al K H vs (bs.map D.bl)->vs=bs.map V.bl
 |_,[],.nil=>rfl
 |_,b::r,.cons h t=>by cases h;rw[Ov t];rfl
theorem Ox:∀ {bs:List Bool}{us:List Value},Vals (bs.map V.bl) us->LSm.BoolsAre us bs
 |[],_,.nil=>.nil
 |b::r,_,.cons h t=>by cases h;exact .cons b (Ox t)
theorem Oy (hc:X.calm=true):GF X (.builtin "all") (λ xs H Q=>∃p bs,xs=[.ref p]/\CO X.K H p (List.map V.bl bs)/\Q (.bl (bs.all id)) H):=by
 intro pins s σ H xs us Q I r h;obtain⟨p,bs,rfl,hq,q⟩:=h;obtain⟨u,rfl,rx⟩:=vals1 r;cases rx;obtain⟨aa,r',pl,hz⟩:=I.list hq;have hl:=pl.isList;have hb:=Ox r';have af:p<s.heap.objs.size:=by obtain⟨_,e,_⟩:=hl;exact zaf e
 refine call_all_walk (wpAny_pyIter_list hl ?_);refine⟨s.heap.objs.size,[s.heap.objs.size,p],[s.heap.objs.size],aa.toArray.size,_,_,λ i=>(bs[i]?).getD true,rfl,Walks.list (A:=X.A.in1) (I.ok.hd hc) _ p (zar af) aa.toArray,
  ⟨⟨_,zap _ rfl,rfl,rfl⟩,hl.push _⟩,λ i v s' Q' E' hP hQ=>?_,λ h' tk hk=>?_⟩
 ·obtain⟨b,e,rfl⟩:=hb.get i v (by simpa using hP);simp only[e,Option.getD_some] at hQ;exact wpAny_truthy_bool hQ
 ·have e:((zb6 aa.toArray.size).all λ i=>(bs[i]?).getD true)=bs.all id:=by
   rw[zad,hb.length];exact LSm.range_all bs
  rw[e];exact⟨.bl _,H,I.kept (t':=tk) (LSm.kept_iter hk),rfl,q⟩
noncomputable def YJ (ds:List D):M D:=match ds with
 |[.lst xs]=>(match Hw xs with|some bs=>.ok (.bl (bs.all id))|none=>.bad)
 |_=>.bad
theorem rJ:ME X.K WX (λ xs H Q=>∃p bs,xs=[.ref p]/\CO X.K H p (List.map V.bl bs)/\Q (.bl (bs.all id)) H) YJ:=by
 intro P H ds vs Q ht hl h;unfold YJ at h;split at h
 ·rename_i xs;obtain⟨v,rfl,hv⟩:=hl.one;split at h
  ·rename_i bs eb;have:=Ou eb;subst this;cases hv with
   |lst hs hh =>
    have:=Ov hh;subst this;exact⟨_,bs,rfl,hs.AV,h _ H (Ak.refl H) (.bl _)⟩
  ·exact h.elim
 ·exact h.elim
theorem dP {p:Pos}(hc:X.calm=true)(hg:Gl X "all")(hm:X.mg "all" = none)(ha:DE X WX c e f)(hb:bootBuiltins "all" = some (.builtin "all"):=by decide +kernel)(hs:starEach [e] X.env=[(false,eval e X.env)]:=by rfl):DE X WX c (.Call (.Name "all" p) [e] [] pos) (λ ρ=>((f ρ).bind λ d=>(M.ok []).bind λ ds=>.ok (d::ds)).bind YJ):=
 Kc (Oy hc) rJ hg hm hb (A4 ha A9 hs) (he:=hs)
end
def Sm (n:Int):Prop:=zbs n<=2^20
theorem dQ:∀ {ns:List Int},W.WData.weightAll (ns.map W.WData.int)<=2^20->∀n∈ns,Sm n
 |m::r,h,n,hn=>by
  rw[za5,W.WData.weightAll,W.WData.weight] at h;rcases zaa.mp hn with rfl|hn
  ·unfold Sm zbs;omega
  ·exact dQ (by omega) n hn
theorem wI {ns:List Int}(h:W.WData.layableAll [W.WData.list (ns.map W.WData.int)]=true):∀n∈ns,Sm n:=by
 unfold W.WData.layableAll at h;rw[List.all_cons,zb5] at h;have h1:=h.1;unfold W.WData.layable at h1;rw[zb5,decide_eq_true_eq,W.WData.weight] at h1;exact dQ h1.2
end L2
namespace HT
open PySem PySem.W PyProof.Rows Spec Calls uh
theorem R5 {l:OpenLaw}{n:Nat}{q:Program}{loose:List Str}{XP:(Str->Option Value)->Heap->Prop}{YP:World->Heap->Prop}{d:DefRec}
 (hn:l.most=some n) (gl:d.params.defaults=[])
 (run:∀(w:World) (s₀ s₁:Shared) (mg mb:Str->Option Value) (fa:Addr) (o:Obj) (pm cd doc:Value) (a:Addr) (vs:List Value) (ns:List Int),(∀n∈ns,L2.Sm n)->
  Ground q loose [] XP w s₀ mg mb s₁.heap->YP w s₁.heap->s₁.heap.get? fa=some o->o.data=.func (docDef d.name d.params d.body d.scope pm cd doc)->s₁.heap.CodeRec cd d.name->mg d.name=some (.ref fa)->
  s₁.heap.get? a=some {cls:=.type "list",data:=.seq vs.toArray}->IntsAre vs ns->ns.length<=n->s₁.gens=#[]->
  codeAny (model l.prog w) callerA (.call (.ref fa) ⟨[.ref a],[]⟩) (λ r s'=>r=.ok (.ret (.bool true))/\OldK s₁.heap s'.heap/\s'.os=s₁.os/\AllBare s'.gens) s₁):
 WalkO q loose XP YP l.row.toRowW d [] (λ f vs=>PySem.call f vs):=by
 intro w s₀ s₁ mg mb G Y fa o pm cd doc dV kV ho hd aT hD gm hg args vals as de p6 gn lx hlo;obtain rfl:dV=.none:=Dflts.none hD gl;obtain rfl:kV=.none:=Dflts.noKw hD;obtain⟨a,vs,ns,rfl,rfl,ck,bc,hlen⟩:=Yv hn de lx;refine enter_call (codeAny_mono (run w s₀ s₁ mg mb fa o pm cd doc a vs ns (L2.wI p6) G Y ho (fd_plain hd) aT gm ck bc hlen hg) λ r s' hq=>?_);obtain⟨rfl,h2,h3,h4⟩:=hq;exact⟨.inl ⟨.bool true,.bool true,[],rfl,λ _=>rfl,.bool true,Yw l _,λ _=>⟨List.Pairwise.nil,λ _ hm=>(nomatch hm)⟩⟩,h2,h3,h4⟩
end HT
namespace L2
open PySem PySem.Spec PyProof.Rows
theorem yI {l:PySem.W.OpenLaw}{n k:Nat}{q:Program}{loose:List Str}{XP:(Str->Option Value)->Heap->Prop}{YP:World->Heap->Prop}{d:DefRec}{K:Params->za0}{CX:World->WZ}{sp:World->Sp}{x:Str}
 (hn:l.most=some n) (aw:n<=sizeLine) (gl:d.params.defaults=[]) (hr:BU k callerA) (hY:∀(w:World) (h:Heap),YP w h->(K w.params).In h)
 (F:∀(w:World) (mg:Str->Option Value) (fa:Addr) (h:Heap),(K w.params).In h->h.Ns mainGlobals mg->mg d.name=some (.ref fa)->∃fd:FuncData,(∀(s:Shared) (u:Value),BindsTo s fd ⟨[u],[]⟩ [(x,u)])/\
  ∀base:Heap,(K w.params).In base->base.Ns mainGlobals mg->E7 l.prog w (K w.params) mg base (CX w) k fa fd [x] (sp w))
 (b6:∀(w:World) (H:Hp) (a:Addr) (ns:List Int),(∀n∈ns,Sm n)->ns.length<=n->jH H->CO (K w.params) H a (ns.map V.int)->sp w [.ref a] H (λ v _=>v=.bl true) λ _ _ _=>False)
 (i9:∀(w:World) (H:Hp) (s:Shared) (e:Value) (s':Shared),CX w [] H s (λ _ _ _=>False) e s'->False):PySem.W.WalkO q loose XP YP l.row.toRowW d [] (λ f vs=>PySem.call f vs):=by
 refine HT.R5 hn gl λ w s₀ s₁ mg mb fa o pm cd doc a vs ns bz G Y ho hd aT gm ck bc hlen hg=>?_;have KX:=hY w _ Y;obtain⟨fd,hb,hF⟩:=F w mg fa _ KX G.T.g gm;exact Tw KX G.T.g G.T.b G.T.builtins G.T.nolimit hg ck bc (zbq hlen aw) hr hF hb (λ H hO hS=>b6 w H a ns bz hlen hO hS) λ H e s'=>i9 w H s₁ e s'
theorem kB {F:List D->M D}(h:∀ns:List Int,ns.length<=63->(∀n∈ns,Sm n)->F [.lst (ns.map D.int)]=.ok (.bl true))(K:za0)(H:Hp)(a:Addr)(ns:List Int)(bz:∀n∈ns,Sm n)(hl:ns.length<=63)(hS:CO K H a (ns.map V.int)):VU K 1 F [.ref a] H (λ v _=>v=.bl true) λ _ _ _=>False:=by
 refine⟨rfl,λ _=>False,[.lst (ns.map D.int)],λ _ z=>z.elim,.cons (.lst ?_ (Al.ints ns)) .nil,?_⟩
 ·have e:del H (λ _=>False)=H:=by funext b;exact Az (λ z=>z)
  rw[e];exact hS
 ·rw[h ns hl bz];exact λ v H' s hv=>hv.Og
def R6 (i j:Int):Prop:=(zbs i<=2^20+1/\zbs j<=2^10)\/TX i j
theorem YK {a b:Int}(h:zbs a+zbs b<=2^21):IntMulOk a b:=by
 have e:(2:Nat)^21=2097152:=by decide
 have h2:Builtin.Int.intTooBig (zbs a+zbs b)=false:=by
  unfold Builtin.Int.intTooBig bitsLine;exact decide_eq_false (by omega)
 unfold IntMulOk;rw[h2];simp
theorem R6.ok {i j:Int}(h:R6 i j):IntMulOk i j:=by
 rcases h with ⟨h1,h2⟩|h
 ·exact YK (by omega)
 ·exact h.ok
theorem kC {X:Cx}:G7 X (binaryOp .Mult) (rI R6 λ i j=>.int (i*j)):=yC λ _ _ _ _ _ _ _ hc q=>mul_int q hc.ok
noncomputable instance (i j:Int):Decidable (R6 i j):=zdd _
noncomputable def Oz:=Bk λ i j=>if R6 i j then .ok (.int (i*j)) else .bad
theorem Kf {i j:Int}(h:R6 i j):Oz (.int i) (.int j)=.ok (.int (i*j)):=by
 unfold Oz Bk;dsimp only;rw[if_pos h]
theorem Nt {X:Cx}{WX:Str->Hp->Prop}{c:Bool}{a b:Expr}{f g:Aj->M D}{pos:Pos}(ha:DE X WX c a f)(hb:DE X WX c b g):DE X WX c (.BinOp a .Mult b pos) (λ ρ=>(f ρ).bind λ x=>(g ρ).bind λ y=>Oz x y):=QY kC (S9 λ _ _ _ _=>.int _) ha hb
mutual
noncomputable def M5:D->Bool
 | .tup a=>Kg a
 | .lst _| .JX _| .BB _ _ _| .ins _ _ _=>false
 |_=>true
noncomputable def Kg:List D->Bool
 |[]=>true
 |a::r=>M5 a&&Kg r
end
theorem Xj {H:Hp}{P0 P:Addr->Prop}{a:Addr}{xs:List V}(ht:∀a,P a->F7 H a)(h:del H P0 a=some (.tup xs)):del H P a=some (.tup xs):=by
 obtain⟨h1,h2⟩:=Ao h;rw[Az λ z=>by
  obtain⟨o',q,r⟩:=ht a z;rw[h2] at q;cases q;exact (r xs).1 rfl]
 exact h2
mutual
theorem BM.M5 {K:za0}{H:Hp}{P0 P:Addr->Prop}(ht:∀a,P a->F7 H a):∀ {v:V}{d:D},M5 d=true->BM K (del H P0) v d->BM K (del H P) v d
 |_,_,_,.AJ=>.AJ
 |_,_,_,.bl b=>.bl b
 |_,_,_,.int i=>.int i
 |_,_,_,.str x=>.str x
 |_,_,n,.tup h r=>.tup (Xj ht h) (Al.M5 ht (by rw[L2.M5] at n;exact n) r)
 |_,_,n,.lst h r|_,_,n,.JX h r|_,_,n,.QW h r|_,_,n,.S5 h r|_,_,n,.ins _ h r=>by rw[L2.M5] at n;cases n
theorem Al.M5 {K:za0}{H:Hp}{P0 P:Addr->Prop}(ht:∀a,P a->F7 H a):∀ {vs:List V}{ds:List D},Kg ds=true->Al K (del H P0) vs ds->Al K (del H P) vs ds
 |_,_,_,.nil=>.nil
 |_,_,n,.cons h t=>by
  rw[Kg,zb5] at n;exact .cons (BM.M5 ht n.1 h) (Al.M5 ht n.2 t)
end
noncomputable def dp (m:M D):M D:=m.bind λ d=>if M5 d=true then .ok d else .bad
section
variable {α:Type}(lt:α->α->Prop)
def Qb:List α->List α->Prop
 |y::ys,x::xs=>(lt y x/\ys.length=xs.length)\/(y=x/\Qb ys xs)
 |_,_=>False
theorem Qb.len:∀ {ys xs:List α},Qb lt ys xs->ys.length=xs.length
 |y::ys,x::xs,h=>by
  rcases h with ⟨_,h⟩|⟨_,h⟩
  ·rw[za9,za9,h]
  ·rw[za9,za9,Qb.len h]
 |[],[],h|[],_::_,h|_::_,[],h=>h.elim
theorem dR (n:Nat)(ih:∀xs:List α,xs.length=n->Acc (Qb lt) xs){x:α}(hx:Acc lt x):∀ {xs:List α},xs.length=n->Acc (Qb lt) xs->Acc (Qb lt) (x::xs):=by
 induction hx with
 |intro x _ wr =>
  intro xs hl c7;induction c7 with
  |intro xs _ p7 =>
   refine .intro _ λ zs h=>?_;cases zs with
   |nil=>exact h.elim
   |cons y ys =>
    rcases h with ⟨h1,h2⟩|⟨h1,h2⟩
    ·exact wr y h1 (h2.trans hl) (ih ys (h2.trans hl))
    ·subst h1;exact p7 ys h2 ((Qb.len lt h2).trans hl)
theorem OA (h:∀x,Acc lt x):∀(n:Nat) (xs:List α),xs.length=n->Acc (Qb lt) xs
 |0,[],_=>.intro _ λ zs h=>by cases zs<;>exact h.elim
 |n+1,x::xs,e=>dR lt n (OA h n) (h x) (by simpa using e) (OA h n xs (by simpa using e))
theorem Xk:∀ {xs:List α}{i:Nat}{y:α}{x:α},xs[i]?=some x->lt y x->Qb lt (xs.set i y) xs
 |[],_,_,_,h,_=>by cases h
 |z::zs,0,y,x,h,hl=>by
  cases h;exact .inl ⟨hl,rfl⟩
 |z::zs,i+1,y,x,h,hl=>.inr ⟨rfl,Xk (by simpa using h) hl⟩
theorem Qb.trans (ht:∀a b c,lt a b->lt b c->lt a c):∀ {xs ys zs:List α},Qb lt xs ys->Qb lt ys zs->Qb lt xs zs
 |x::xs,y::ys,z::zs,h1,h2=>by
  rcases h1 with ⟨a,b⟩|⟨rfl,b⟩
  ·rcases h2 with ⟨c,d⟩|⟨rfl,d⟩
   ·exact .inl ⟨ht _ _ _ a c,b.trans d⟩
   ·exact .inl ⟨a,b.trans (Qb.len lt d)⟩
  ·rcases h2 with ⟨c,d⟩|⟨rfl,d⟩
   ·exact .inl ⟨c,(Qb.len lt b).trans d⟩
   ·exact .inr ⟨rfl,Qb.trans ht b d⟩
 |[],_,_,h,_|_::_,[],_,h,_|_::_,_::_,[],_,h=>by cases h
end
section
variable {X:Cx}{WX:Str->Hp->Prop}{c:Bool}{P0:E8}{P:Addr->Prop}{H:Hp}{σ:St}{ρ:Aj}{a b e:Expr}{f g g2:Aj->M D}{pos:Pos}
theorem FI:∀ {ds:List D}{ns:List Int},D8 ds=some ns->ds=ns.map D.int
 |[],ns,h=>by cases h;rfl
 | .int b::r,bs,h=>by
  rw[D8] at h;cases q:D8 r with
  |none=>rw[q] at h;cases h
  |some wq=>rw[q] at h;cases h;rw[FI q];rfl
 | .AJ::r,bs,h| .bl _::r,bs,h| .str _::r,bs,h| .tup _::r,bs,h| .lst _::r,bs,h| .JX _::r,bs,h| .BB _ _ _::r,bs,h| .ins _ _ _::r,bs,h=>by cases h
theorem EG {K:za0}{H:Hp}:∀ {vs:List V}{bs:List Int},Al K H vs (bs.map D.int)->vs=bs.map V.int
 |_,[],.nil=>rfl
 |_,b::r,.cons h t=>by cases h;rw[EG t];rfl
end
theorem rK {P P2:Addr->Prop}{H H':Hp}(t:Tr P P H P2 H'){a:Addr}(h:P2 a)(hn:¬ P a):H a=none:=by
 cases q:H a with
 |none=>rfl
 |some o =>
  have:=t.1 a o (by rw[Az hn];exact q);exact ((Ao this).1 h).elim
section
variable {X:Cx}{WX:Str->Hp->Prop}{c:Bool}{P0:E8}{P:Addr->Prop}{H:Hp}{σ:St}{ρ:Aj}{a b e:Expr}{f g:Aj->M D}{pos:Pos}
def kD:V->List V->Hp->VK->Prop:=λ x vs H Q=>∃(l:Addr) (xs:List V) (k:Nat) (y:V),x=.ref l/\vs=[.int (k:Int),y]/\H l=some (.lst xs)/\k<=xs.length/\xs.length<sizeLine/\Q .AJ (upd H l (.lst (xs.take k++y::xs.drop k)))
theorem U0:∀ {xs:List V}{us:List Value}{y:V}{w:Value},Vals xs us->∀k:Nat,RelV y w->Vals (xs.take k++y::xs.drop k) (us.take k++w::us.drop k)
 |_,_,_,_,r,0,h=>.cons h r
 |_,_,_,_,.nil,k+1,h=>.cons h .nil
 |_,_,_,_,.cons a t,k+1,h=>.cons a (U0 t k h)
theorem dS {prog:Program}{wd:World}{A:Around}{E:Value->Shared->Prop}{s:Shared}{Q:Value->Shared->Prop}{l:Addr}{items:Array Value}{n:Nat}(x:Int)(u:Tok)(y:Value)(hc:¬(!Builtin.List.listFitsIndex x)=true)(hs:items.size<=sizeLine)
 (e:s.heap.get? l=some {cls:=.type "list",data:=.seq items n})
 (h:Q .none {s with heap:=s.heap.update l (Obj.mapSeq λ xs=>(xs.extract 0 (if x<0 then (x+(xs.size:Int)).toNat else min x.toNat xs.size)).push y++xs.extract (if x<0 then (x+(xs.size:Int)).toNat else min x.toNat xs.size)),toks:=s.toks}):wpAny (model prog wd) A (call (.builtin "list.insert") [.ref l,.int x u,y]) Q E s:=by
 have hm:=PySem.AutoSeq1.list_insert_list_int_val_1 l items n x u y hc hs;have ha:=PySem.F.args_list_insert_3 (.ref l) (.int x u) y;exact call_meets PySem.F.slot_list_insert ⟨_,e,rfl⟩ PySem.F.entry_list_insert ha hm ⟨e,h⟩
theorem YL:vJ X "list.insert" kD:=by
 intro pins s σ H x vs v us Q I rx rv h;obtain⟨l,xs,k,y,rfl,rfl,hH,hk,hz,q⟩:=h;cases rx;obtain⟨u,w,rfl,ru,aX⟩:=rv.two;obtain⟨tk,rfl⟩:=ru;obtain⟨z,aa,n,r,hl,e⟩:=I.VF hH;have hlen:=r.length;have h63:=LR;have f8:¬ (!Builtin.List.listFitsIndex (k:Int))=true:=by
  unfold Builtin.List.listFitsIndex;simp;omega
 have hsz:aa.toArray.size<=sizeLine:=by rw[zad,<-hl];exact zbr hz
 refine dS (k:Int) tk w f8 hsz e ?_;refine⟨.AJ,_,I.cJ (its':=aa.take k++w::aa.drop k) hH e ?_ ?_ ?_,rfl,q⟩
 ·have e1:¬ ((k:Int)<0):=by omega
  have e2:min (k:Int).toNat aa.toArray.size=k:=by rw[zbl,zad];omega
  simp only[e1,if_false,e2];apply Array.toList_inj.mp;simp;rw[List.take_of_length_le (by rw[zd9];exact zag _)]
 ·exact U0 r k aX
 ·rw[zaj,za9,zby,zd9];omega
noncomputable def YM (i:Nat)(ρ:Aj)(mk md:M D):M Out:=match ρ[i]? with
 |some (some (.own ds))=>mk.bind λ k=>md.bind λ d=>match k with
  | .int j=>if 0<=j/\j.toNat<=ds.length/\ds.length<1000 then .ok (.next (ρ.set i (some (.own (ds.take j.toNat++d::ds.drop j.toNat))))) else .bad
  |_=>.bad
 |_=>.bad
theorem M6 {K:za0}{H:Hp}:∀ {vs:List V}{ds:List D}(n:Nat),Al K H vs ds->Al K H (vs.take n) (ds.take n)
 |_,_,0,_=>by rw[List.take_zero,List.take_zero];exact .nil
 |_,_,_+1,.nil=>.nil
 |_,_,n+1,.cons h t=>by rw[List.take_succ_cons,List.take_succ_cons];exact .cons h (M6 n t)
theorem R7 {K:za0}{H:Hp}:∀ {vs:List V}{ds:List D}(n:Nat),Al K H vs ds->Al K H (vs.drop n) (ds.drop n)
 |_,_,0,h=>h
 |_,_,_+1,.nil=>.nil
 |_,_,n+1,.cons h t=>by rw[List.drop_succ_cons,List.drop_succ_cons];exact R7 n t
theorem U1 {K:za0}{H:Hp}:∀ {vs ws:List V}{ds es:List D},Al K H vs ds->Al K H ws es->Al K H (vs++ws) (ds++es)
 |_,_,_,_,.nil,k=>k
 |_,_,_,_,.cons h t,k=>.cons h (U1 t k)
theorem YN (i:Nat){x:Str}{p1 apos ac:Pos}(hv:PE X (.Name x p1) (Tg i))(hk:DE X WX true a f)(hd:DE X WX true b g)(hs:starEach [a,b] X.env=(false,eval a X.env)::starEach [b] X.env:=by rfl)(a4:starEach [b] X.env=[(false,eval b X.env)]:=by rfl)
 (bn:swapsWith (.Call (.Attribute (.Name x p1) "insert" apos) [a,b] [] ac) none pos.line X.env=pure false:=by rfl)
 (aj:attributeBase (.Name x p1) "insert" X.env (eval (.Name x p1) X.env)=eval (.Name x p1) X.env:=by rfl)
 (aE:((backTo ac (starEach [a,b] X.env)).all (λ x => !x.1)&&(backToKw ac (keywordEach [] X.env)).all (λ x=>x.1.isSome)&&decide (([a,b]:List Expr).length+([]:List Keyword).length+(if ([]:List Keyword).isEmpty then 0 else 1)<30))=true:=by rfl)
 (ak:(apos.endLine==ac.line)=true:=by rfl) (al:(backTo ac (starEach [b] X.env)).any (·.1)=false:=by rfl):
 DS X WX (.Expr (.Call (.Attribute (.Name x p1) "insert" apos) [a,b] [] ac) pos) (λ ρ=>YM i ρ (f ρ) (g ρ)):=by
 obtain⟨ta,a1,a2⟩:=hk;obtain⟨tb,b1,b2⟩:=hd;refine⟨_,IA (Tu zcc PySem.F.slot_list_insert PySem.F.type_list_insert YL hv (Bi a1 (Bi b1 Cs a4) hs) aj aE ak hs al) bn,λ P0 P σ H Z ρ E h=>?_⟩;dsimp only at h;unfold YM at h;split at h
 ·rename_i ds e1;obtain⟨p,xs,h1,h2,h3,h4,h5⟩:=E.own i ds e1;refine⟨_,h1,.inl ⟨rfl,xs,.of h2⟩,a2 P0 P σ H _ ρ E ?_⟩;refine iF h E λ k h=>?_;intro w H1 s1 hw;have E1:=E.same s1;refine b2 P0 P σ H1 _ ρ E1 ?_;cases q2:g ρ with
  |bad=>rw[q2] at h;exact h
  |ex y=>rw[q2] at h;exact λ H' s=>h H' P ((E.tr s1).trans (E1.tr s))
  |ok d =>
   rw[q2] at h;simp only[M.Ad] at h;intro v H2 s2 wt;have E2:=E1.same s2;have p8:=s1.trans s2;split at h
   ·rename_i j;cases hw;by_cases hj:0<=j/\j.toNat<=ds.length/\ds.length<1000
    ·rw[if_pos hj] at h;have wu:((j.toNat:Nat):Int)=j:=Int.toNat_of_nonneg hj.1;have ut:=h5.mono p8.del;refine⟨p,xs,j.toNat,v,rfl,by rw[wu],p8 _ _ h2,by rw[h5.length];exact hj.2.1,AG (by rw[h5.length];exact zbr hj.2.2),?_⟩;obtain⟨E3,t3⟩:=E2.mut e1 h1 h3 h4 (U1 (M6 j.toNat ut) (.cons wt (R7 j.toNat ut)));exact h _ _ _ ((E.tr p8).trans t3) E3
    ·rw[if_neg hj] at h;exact h.elim
   ·exact h.elim
 ·exact h.elim
noncomputable def wJ (ds:List D):M D:=match ds with
 |[.lst xs]=>(match Hw xs with|some bs=>.ok (.bl (bs.any id))|none=>.bad)
 |_=>.bad
end
noncomputable def kids:OT->List OT
 | .sh _=>[]
 | .lst ts| .tup ts| .BB _ _ ts| .ins _ _ ts=>ts
noncomputable def Nu:OT->List OT->OT
 | .sh d,_=>.sh d
 | .lst _,ts=>.lst ts
 | .tup _,ts=>.tup ts
 | .BB b ks _,ts=>.BB b ks ts
 | .ins x ns _,ts=>.ins x ns ts
noncomputable def M7:OT->List Nat->Option OT
 |t,[]=>some t
 |t,j::π=>match (kids t)[j]? with|some s=>M7 s π|none=>none
noncomputable def EH:OT->List Nat->OT->OT
 |_,[],u=>u
 |t,j::π,u=>match (kids t)[j]? with|some s=>Nu t ((kids t).set j (EH s π u))|none=>t
@[simp] theorem U2 (t:OT):M7 t []=some t:=by unfold M7;rfl
@[simp] theorem DR (t u:OT):EH t [] u=u:=by unfold EH;rfl
theorem YO {t s:OT}{j:Nat}{π:List Nat}(h:(kids t)[j]?=some s):M7 t (j::π)=M7 s π:=by rw[M7,h]
theorem YQ {t s u:OT}{j:Nat}{π:List Nat}(h:(kids t)[j]?=some s):EH t (j::π) u=Nu t ((kids t).set j (EH s π u)):=by rw[EH,h]
section
variable {K:za0}{H H':Hp}{P P':Addr->Prop}
def CT (K:za0)(H:Hp)(P:Addr->Prop)(v:V)(t:OT)(q:List Addr)(xs:List V):Prop:=match t with
 | .sh _=>False
 | .lst ts=>∃p,v=.ref p/\q=[p]/\H p=some (.lst xs)
 | .tup ts=>∃p,v=.ref p/\q=[]/\del H P p=some (.tup xs)
 | .BB false ks ts=>∃p kvs,v=.ref p/\q=[p]/\H p=some (.dK kvs)/\ks=(kvs.map λ kv=>Cy kv.1)/\xs=kvs.map zbt
 | .BB true ks ts=>∃p kvs,v=.ref p/\q=[p]/\H p=some (.dT kvs)/\ks=(kvs.map λ kv=>.tup (kv.1.map Cy))/\xs=kvs.map zbt
 | .ins x ns ts=>∃p C dx fs,v=.ref p/\q=[p]/\zb1 K mainGlobals x=some (some (.ref C))/\H p=some (.ins C dx fs)/\ns=fs.map zb0/\xs=fs.map zbt
theorem CT.own {v:V}{t:OT}{q:List Addr}{xs:List V}{fp:List Addr}(h:CT K H P v t q xs)(r:AB K H P xs (kids t) fp):C1 K H P v t (q++fp):=by
 cases t with
 |sh d=>exact h.elim
 |lst ts=>obtain⟨p,rfl,rfl,h⟩:=h;exact .lst h r
 |tup ts=>obtain⟨p,rfl,rfl,h⟩:=h;exact .tup h r
 |BB b ks ts =>
  cases b with
  |false=>obtain⟨p,kvs,rfl,rfl,h,rfl,rfl⟩:=h;exact .dK h r
  |true=>obtain⟨p,kvs,rfl,rfl,h,rfl,rfl⟩:=h;exact .dT h r
 |ins x ns ts=>obtain⟨p,C,dx,fs,rfl,rfl,n,h,rfl,rfl⟩:=h;exact .ins n h r
theorem C1.node {v:V}{t:OT}{fp:List Addr}(h:C1 K H P v t fp)(hk:kids t≠[]\/∀d,t≠.sh d):∃q xs fq,fp=q++fq/\CT K H P v t q xs/\AB K H P xs (kids t) fq:=by
 cases h with
 |sh h=>rcases hk with hk|hk;exact (hk rfl).elim;exact (hk _ rfl).elim
 |lst h r=>exact⟨[_],_,_,rfl,⟨_,rfl,rfl,h⟩,r⟩
 |tup h r=>exact⟨[],_,_,rfl,⟨_,rfl,rfl,h⟩,r⟩
 |dK h r|dT h r=>exact⟨[_],_,_,rfl,⟨_,_,rfl,rfl,h,rfl,rfl⟩,r⟩
 |ins n h r=>exact⟨[_],_,_,rfl,⟨_,_,_,_,rfl,rfl,n,h,rfl,rfl⟩,r⟩
theorem CT.move (sm:Ak (del H P) (del H' P')){v:V}{t:OT}{q:List Addr}{xs:List V}(k:∀a∈q,H' a=H a)(h:CT K H P v t q xs):CT K H' P' v t q xs:=by
 cases t with
 |sh d=>exact h.elim
 |lst ts=>obtain⟨p,rfl,rfl,h⟩:=h;exact⟨p,rfl,rfl,(k p za3).trans h⟩
 |tup ts=>obtain⟨p,rfl,rfl,h⟩:=h;exact⟨p,rfl,rfl,sm _ _ h⟩
 |BB b ks ts =>
  cases b with
  |false|true=>obtain⟨p,kvs,rfl,rfl,h,rfl,rfl⟩:=h;exact⟨p,kvs,rfl,rfl,(k p za3).trans h,rfl,rfl⟩
 |ins x ns ts=>obtain⟨p,C,dx,fs,rfl,rfl,n,h,rfl,rfl⟩:=h;exact⟨p,C,dx,fs,rfl,rfl,n,(k p za3).trans h,rfl,rfl⟩
theorem CT.kids {v:V}{t:OT}{q:List Addr}{xs:List V}(h:CT K H P v t q xs)(ts:List OT):CT K H P v (Nu t ts) q xs:=by
 cases t with
 |sh d=>exact h.elim
 |lst us|tup us=>exact h
 |BB b ks us=>cases b<;>exact h
 |ins x ns us=>exact h
theorem Sf {v:V}{t:OT}{q:List Addr}{xs:List V}(h:CT K H P v t q xs)(ts:List OT):L2.kids (Nu t ts)=ts:=by
 cases t with
 |sh d=>exact h.elim
 |lst us|tup us|BB b ks us|ins x ns us=>rfl
theorem CT.inj {v:V}{t:OT}{q q':List Addr}{xs em:List V}(h:CT K H P v t q xs)(h':CT K H P v t q' em):q=q'/\xs=em:=by
 cases t with
 |sh d=>exact h.elim
 |lst ts|tup ts=>obtain⟨p,rfl,rfl,h⟩:=h;obtain⟨p',e,rfl,h'⟩:=h';cases e;rw[h] at h';cases h';exact⟨rfl,rfl⟩
 |BB b ks ts =>
  cases b with
  |false|true=>obtain⟨p,kvs,rfl,rfl,h,_,rfl⟩:=h;obtain⟨p',p9,e,rfl,h',_,rfl⟩:=h';cases e;rw[h] at h';cases h';exact⟨rfl,rfl⟩
 |ins x ns ts=>obtain⟨p,C,dx,fs,rfl,rfl,n,h,_,rfl⟩:=h;obtain⟨p',C',dx',bI,e,rfl,n',h',_,rfl⟩:=h';cases e;rw[h] at h';cases h';exact⟨rfl,rfl⟩
inductive Kh (K:za0) (H:Hp) (P:Addr->Prop):V->OT->List Nat->V->OT->Prop
 |nil {v t}:Kh K H P v t [] v t
 |cons {v t q xs j x s π v1 t1}:CT K H P v t q xs->xs[j]?=some x->(kids t)[j]?=some s->Kh K H P x s π v1 t1->Kh K H P v t (j::π) v1 t1
theorem Kh.sub {v v1:V}{t t1:OT}{π:List Nat}(h:Kh K H P v t π v1 t1):M7 t π=some t1:=by
 induction h with
 |nil=>exact U2 _
 |cons _ _ hs _ ih=>rw[YO hs];exact ih
theorem AB.get:∀ {xs:List V}{ts:List OT}{fp:List Addr}{j:Nat}{x:V}{s:OT},AB K H P xs ts fp->xs[j]?=some x->ts[j]?=some s->∃pre fs post,fp=pre++fs++post/\C1 K H P x s fs
 |_,_,_,_,_,_,.nil,e,_=>by simp at e
 |_,_,_,0,_,_,.cons h r,e,e'=>by
  simp at e e';subst e;subst e';exact⟨[],_,_,rfl,h⟩
 |_,_,_,j+1,_,_,.cons (fp:=f1) h r,e,e'=>by
  obtain⟨pre,fs,post,z,q⟩:=AB.get r (by simpa using e) (by simpa using e');exact⟨f1++pre,fs,post,by rw[z];simp,q⟩
theorem AB.len:∀ {xs:List V}{ts:List OT}{fp:List Addr},AB K H P xs ts fp->xs.length=ts.length
 |_,_,_,.nil=>rfl
 |_,_,_,.cons _ r=>by rw[za9,za9,r.len]
theorem C1.part {v v1:V}{t t1:OT}{π:List Nat}{fp:List Addr}(h:C1 K H P v t fp)(s:Kh K H P v t π v1 t1):∃au,C1 K H P v1 t1 au/\(∀a∈au,a∈fp)/\(fp.Nodup->au.Nodup):=by
 induction s generalizing fp with
 |nil=>exact⟨fp,h,λ _ h=>h,λ h=>h⟩
 |cons n hx hs _ ih =>
  obtain⟨q,xs,fq,rfl,n',r⟩:=h.node (.inl λ z=>by rw[z] at hs;cases hs);obtain⟨rfl,rfl⟩:=n.inj n';obtain⟨pre,fs,post,rfl,o⟩:=r.get hx hs;obtain⟨au,o1,k,kn⟩:=ih o;exact⟨au,o1,λ a ha=>zac _ (zb3 _ (zac _ (k a ha))),λ nd=>kn (zax.mp (zax.mp (zax.mp nd).2.1).1).2.1⟩
theorem AB.put (sm:Ak (del H P) (del H' P')):∀ {xs:List V}{ts:List OT}{fp:List Addr}{j:Nat}{x:V}{s s':OT}{fs bI:List Addr},AB K H P xs ts fp->xs[j]?=some x->ts[j]?=some s->C1 K H P x s fs->C1 K H' P' x s' bI->(∀a∈fp,a∉fs->H' a=H a)->fp.Nodup->bI.Nodup->(∀a∈bI,a∈fp->a∈fs)->
 ∃ag,AB K H' P' xs (ts.set j s') ag/\ag.Nodup/\∀a∈ag,a∈bI\/(a∈fp/\a∉fs)
 |_,_,_,_,_,_,_,_,_,.nil,e,_,_,_,_,_,_,_=>by simp at e
 |_,_,_,0,x,s,s',fs,bI,.cons (fp:=f1) (fq:=f2) h r,e,e',o,o',k,nd,jl,dj=>by
  simp at e e';subst e;subst e';have:=h.Cd o;subst this;have aP:=zax.mp nd;have k2:∀a∈f2,a∉f1:=λ a ha hb=>aP.2.2 a hb a ha rfl;refine⟨bI++f2,.cons o' (r.move sm λ a ha=>k a (zac _ ha) (k2 a ha)),zax.mpr ⟨jl,aP.2.1,λ a ha b hb z=>?_⟩,λ a ha=>?_⟩
  ·subst z;exact k2 a hb (dj a ha (zac _ hb))
  ·rcases zan.mp ha with ha|ha
   ·exact .inl ha
   ·exact .inr ⟨zac _ ha,k2 a ha⟩
 |_,_,_,j+1,x,s,s',fs,bI,.cons (vs:=uj) (ts:=wv) (fp:=f1) (fq:=f2) h r,e,e',o,o',k,nd,jl,dj=>by
  have aP:=zax.mp nd;have e2:uj[j]?=some x:=by simpa using e
  have e3:wv[j]?=some s:=by simpa using e'
  obtain⟨pre,fx,post,hf,ox⟩:=r.get e2 e3;have:=ox.Cd o;subst this;have k1:∀a∈f1,a∉fx:=λ a ha hb=>aP.2.2 a ha a (by rw[hf];exact zb3 _ (zac _ hb)) rfl;obtain⟨ag,q1,q2,q3⟩:=AB.put sm r e2 e3 o o' (λ a ha hn=>k a (zac _ ha) hn) aP.2.1 jl (λ a ha hb=>dj a ha (zac _ hb));refine⟨f1++ag,.cons (h.move sm λ a ha=>k a (zb3 _ ha) (k1 a ha)) q1,zax.mpr ⟨aP.1,q2,λ a ha b hb z=>?_⟩,λ a ha=>?_⟩
  ·subst z;rcases q3 a hb with z|z
   ·exact k1 a ha (dj a z (zb3 _ ha))
   ·exact aP.2.2 a ha a z.1 rfl
  ·rcases zan.mp ha with ha|ha
   ·exact .inr ⟨zb3 _ ha,k1 a ha⟩
   ·rcases q3 a ha with z|z
    ·exact .inl z
    ·exact .inr ⟨zac _ z.1,z.2⟩
theorem C1.put (sm:Ak (del H P) (del H' P')){v v1:V}{t t1 u:OT}{π:List Nat}{fp au fu:List Addr}(h:C1 K H P v t fp)(s:Kh K H P v t π v1 t1)(o:C1 K H P v1 t1 au)(o':C1 K H' P' v1 u fu)(k:∀a∈fp,a∉au->H' a=H a)(nd:fp.Nodup)(jl:fu.Nodup)(dj:∀a∈fu,a∈fp->a∈au):
 ∃ag,C1 K H' P' v (EH t π u) ag/\ag.Nodup/\∀a∈ag,a∈fu\/(a∈fp/\a∉au):=by
 induction s generalizing fp with
 |nil =>
  rw[DR];exact⟨fu,o',jl,λ a ha=>.inl ha⟩
 | @cons v t q xs j x s π v1 t1 n hx hs s1 ih =>
  obtain⟨q',em,fq,rfl,n',r⟩:=h.node (.inl λ z=>by rw[z] at hs;cases hs);obtain⟨rfl,rfl⟩:=n.inj n';have jm:=zax.mp nd;obtain⟨pre,fs,post,hf,ox⟩:=r.get hx hs;have sub:∀a∈fs,a∈fq:=λ a ha=>by rw[hf];exact zb3 _ (zac _ ha)
  have ww:fs.Nodup:=by
   have:=jm.2.1;rw[hf] at this;exact (zax.mp (zax.mp this).1).2.1
  obtain⟨fz,oz,kz,_⟩:=ox.part s1;have:=oz.Cd o;subst this;obtain⟨bI,q1,q2,q3⟩:=ih ox o o' (λ a ha hn=>k a (zac _ (sub a ha)) hn) ww (λ a ha hb=>dj a ha (zac _ (sub a hb)));have qf:∀a∈q,a∉fs:=λ a ha hb=>jm.2.2 a ha a (sub a hb) rfl;have kq:∀a∈q,H' a=H a:=λ a ha=>k a (zb3 _ ha) λ z=>qf a ha (kz a z);obtain⟨ag,p1,p2,p3⟩:=r.put sm hx hs ox q1 (λ a ha hn=>k a (zac _ ha) λ z=>hn (kz a z)) jm.2.1 q2 (λ a ha hb=>by
   rcases q3 a ha with z|z
   ·exact kz a (dj a z (zac _ hb))
   ·exact z.1)
  rw[YQ hs];have n2:=(n.move sm kq).kids ((kids t).set j (EH s π u));have o2:=n2.own (fp:=ag) (by rw[Sf n];exact p1);refine⟨q++ag,o2,zax.mpr ⟨jm.1,p2,λ a ha b hb z=>?_⟩,λ a ha=>?_⟩
  ·subst z;rcases p3 a hb with z|z
   ·rcases q3 a z with y|y
    ·exact qf a ha (kz a (dj a y (zb3 _ ha)))
    ·exact qf a ha y.1
   ·exact jm.2.2 a ha a z.1 rfl
  ·rcases zan.mp ha with ha|ha
   ·exact .inr ⟨zb3 _ ha,λ z=>qf a ha (kz a z)⟩
   ·rcases p3 a ha with z|z
    ·rcases q3 a z with y|y
     ·exact .inl y
     ·exact .inr ⟨zac _ (sub a y.1),y.2⟩
    ·exact .inr ⟨zac _ z.1,λ y=>z.2 (kz a y)⟩
end
def PU (P:Addr->Prop)(fp:List Addr):Addr->Prop:=λ a=>P a\/a∈fp
theorem M8 {P:Addr->Prop}{fp:List Addr}:∀a,P a->PU P fp a:=λ a h=>.inl h
theorem CB {P:Addr->Prop}{fp:List Addr}{H H':Hp}(s:Ak H H')(hn:∀a∈fp,H a=none):Ak (del H P) (del H' (PU P fp)):=λ b o e=>by
 obtain⟨h1,h2⟩:=Ao e;rw[Az λ z=>z.elim h1 λ w=>by rw[hn b w] at h2;cases h2];exact s b o h2
theorem VY {P:Addr->Prop}{H:Hp}:del H (PU P [])=del H P:=by
 funext b;by_cases h:P b
 ·rw[Ga h,Ga (.inl h)]
 ·rw[Az h,Az λ z=>z.elim h λ w=>by cases w]
theorem JE {P:Addr->Prop}{fp:List Addr}{K:za0}{H':Hp}{Q:Addr->Prop}{v:V}{t:OT}(hP:∀a,P a->F7 H' a)(o:C1 K H' Q v t fp):∀a,PU P fp a->F7 H' a:=λ a h=>h.elim (hP a) (o.Cr a)
theorem Xl {P:Addr->Prop}{fp:List Addr}{K:za0}{H':Hp}{Q:Addr->Prop}{v:List V}{t:List OT}(hP:∀a,P a->F7 H' a)(o:AB K H' Q v t fp):∀a,PU P fp a->F7 H' a:=λ a h=>h.elim (hP a) (o.Cr a)
theorem Aq.more {K:za0}{P0:E8}{P P':Addr->Prop}{H H':Hp}{σ:St}{ρ:Aj}(E:Aq K P0 P H σ ρ)(e:Ak H H')(hs:∀a,P a->P' a)(ht:∀a,P' a->F7 H' a)(sm:Ak (del H P) (del H' P')):Aq K P0 P' H' σ ρ:=by
 have keep:∀(c:Cl) (v:V) (fp:List Addr),D5 K H P c v fp->∀a∈fp,H' a=H a:=λ c v fp o a ha=>by
  obtain⟨xs,q⟩:=o.at a ha;rw[q];exact e _ _ q
 exact⟨λ a h=>hs a (E.sub a h),ht,λ i d h=>let ⟨v,h1,h2⟩:=E.val i d h;⟨v,h1,h2.mono sm⟩,
  λ i c h io=>let ⟨v,fp,h1,h2,h3,h4⟩:=E.ows i c h io;⟨v,fp,h1,h2.move sm (keep c v fp h2),λ a ha=>⟨hs a (h3 a ha).1,(h3 a ha).2⟩,h4⟩,
  λ i j c c' v v' fp ag hi hj si sj h h' ad=>E.cV sm (λ v fp _ o a ha=>keep _ _ _ o a ha) (λ v fp _ o a ha=>keep _ _ _ o a ha) hi hj si sj h h' ad,E.len,E.pin⟩
def ZP (K:za0)(WX:Str->Hp->Prop)(P:Addr->Prop)(H:Hp)(Q:VK):M OT->Prop
 | .ok t=>∀v fp H',Ak H H'->(∀a∈fp,H a=none)->fp.Nodup->C1 K H' (PU P fp) v t fp->Q v H'
 | .ex x=>∀H',Ak H H'->WX x H'
 | .bad=>False
def gNs (K:za0)(WX:Str->Hp->Prop)(P:Addr->Prop)(H:Hp)(Q:List V->Hp->Prop):M (List OT)->Prop
 | .ok t=>∀v fp H',Ak H H'->(∀a∈fp,H a=none)->fp.Nodup->AB K H' (PU P fp) v t fp->Q v H'
 | .ex x=>∀H',Ak H H'->WX x H'
 | .bad=>False
theorem Ex {H H':Hp}(s:Ak H H'){a:Addr}(h:H' a=none):H a=none:=by
 cases q:H a with
 |none=>rfl
 |some o=>rw[s a o q] at h;cases h
section
variable {K:za0}{WX:Str->Hp->Prop}{P:Addr->Prop}{H H':Hp}
theorem ZP.same {Q:VK}{m:M OT}(h:ZP K WX P H Q m)(e:Ak H H'):ZP K WX P H' Q m:=by
 cases m with
 |ok d=>exact λ v fp H2 q hn nd o=>h v fp H2 (e.trans q) (λ a ha=>Ex e (hn a ha)) nd o
 |ex x=>exact λ H2 q=>h H2 (e.trans q)
 |bad=>exact h
end
def DN (X:Cx)(WX:Str->Hp->Prop)(e:Expr)(f:Aj->M OT):Prop:=
 ∃t,PE X e t/\∀P0 P σ H Q ρ,Aq X.K P0 P H σ ρ->ZP X.K WX P H Q (f ρ)->t σ H Q
def wK (X:Cx)(WX:Str->Hp->Prop)(es:List Expr)(f:Aj->M (List OT)):Prop:=
 ∃t,PA X es t/\(∀P0 P σ H Q ρ,Aq X.K P0 P H σ ρ->gNs X.K WX P H Q (f ρ)->t σ H Q)/\∀ρ ts,f ρ=.ok ts->ts.length=es.length
noncomputable def tV (d:D):M OT:=.ok (.sh d)
noncomputable def tW (t:OT):M D:=.ok (er t)
section
variable {X:Cx}{WX:Str->Hp->Prop}{c:Bool}{P0:E8}{P:Addr->Prop}{H:Hp}{σ:St}{ρ:Aj}{a b e:Expr}{f g:Aj->M D}{fn:Aj->M OT}{pos:Pos}{es:List Expr}
theorem AE (h:DE X WX true e f):DN X WX e (λ ρ=>(f ρ).bind tV):=by
 obtain⟨t,h1,h2⟩:=h;refine⟨t,h1,λ P0 P σ H Q ρ E g=>h2 P0 P σ H Q ρ E ?_⟩;dsimp only at g;cases q:f ρ with
 |bad|ex x=>rw[q] at g;exact g
 |ok d=>rw[q] at g;exact λ v H' s hv=>g v [] H' s (λ a ha=>by cases ha) zbz (.sh (by rw[VY];exact hv))
theorem An (h:DN X WX e fn):DE X WX c e (λ ρ=>(fn ρ).bind tW):=by
 suffices z:DE X WX true e (λ ρ=>(fn ρ).bind tW) by
  cases c with
  |true=>exact z
  |false=>exact VM z
 obtain⟨t,h1,h2⟩:=h;refine⟨t,h1,λ P0 P σ H Q ρ E g=>h2 P0 P σ H Q ρ E ?_⟩;dsimp only at g;cases q:fn ρ with
 |bad|ex x=>rw[q] at g;exact g
 |ok d =>
  rw[q] at g;exact λ v fp H' s hn nd o=>g v H' s (o.has M8 λ a ha z=>(E.Cr a z).no (hn a ha))
theorem BX:wK X WX [] (λ _=>.ok []):=⟨_,Cs,λ P0 P σ H Q ρ E h=>h [] [] H (Ak.refl H) (λ a ha=>by cases ha) zbz .nil,λ ρ ds h=>by cases h;rfl⟩
theorem BN {es:List Expr}{fs:Aj->M (List OT)}(he:DN X WX e fn)(hr:wK X WX es fs)(hs:starEach (e::es) X.env=(false,eval e X.env)::starEach es X.env:=by rfl):
 wK X WX (e::es) (λ ρ=>(fn ρ).bind λ d=>(fs ρ).bind λ ds=>.ok (d::ds)):=by
 obtain⟨te,e1,e2⟩:=he;obtain⟨tr,r1,r2,r3⟩:=hr;refine⟨_,Bi e1 r1 hs,λ P0 P σ H Q ρ E h=>?_,λ ρ ds h=>?_⟩
 rotate_left
 ·dsimp only at h;cases q:fn ρ with
  |bad|ex x=>rw[q] at h;cases h
  |ok x =>
   rw[q] at h;cases q2:fs ρ with
   |bad|ex x=>rw[q2] at h;cases h
   |ok xs =>
    rw[q2] at h;cases h;rw[za9,za9,r3 ρ xs q2]
 dsimp only at h;refine e2 P0 P σ H _ ρ E ?_;cases q:fn ρ with
 |bad|ex x=>rw[q] at h;exact h
 |ok x =>
  rw[q] at h;intro v fp H1 s1 n1 gp o1;have E1:Aq X.K P0 (PU P fp) H1 σ ρ:=E.more s1 M8 (JE (E.same s1).Cr o1) (CB s1 n1);refine r2 P0 (PU P fp) σ H1 _ ρ E1 ?_;cases q2:fs ρ with
  |bad=>rw[q2] at h;exact h
  |ex y=>rw[q2] at h;exact λ H' s=>h H' (s1.trans s)
  |ok ds =>
   rw[q2] at h;intro vs fq H2 s2 n2 aP o2;have dj:∀a∈fp,a∉fq:=λ a ha hb=>(o1.Cr a ha).no (n2 a hb);have eP:PU (PU P fp) fq=PU P (fp++fq):=by
    funext a;simp only[PU,zan,or_assoc]
   have sm:Ak (del H1 (PU P fp)) (del H2 (PU P (fp++fq))):=by rw[<-eP];exact CB s2 n2
   refine h _ (fp++fq) H2 (s1.trans s2) (λ a ha=>?_) (zax.mpr ⟨gp,aP,λ a ha b hb z=>dj a ha (by rw[z];exact hb)⟩) (.cons (o1.move sm λ a ha=>?_) (by rw[<-eP];exact o2))
   ·rcases zan.mp ha with ha|ha
    ·exact n1 a ha
    ·exact Ex s1 (n2 a ha)
   ·obtain⟨o,z,_⟩:=o1.Cr a ha;rw[z];exact s2 _ _ z
theorem rL {P:Addr->Prop}{fp:List Addr}{p:Addr}{H:Hp}{o:HO}(hn:H p=none)(hP:∀a,PU P fp a->F7 H a):Ak (del H (PU P fp)) (del (upd H p o) (PU P (p::fp))):=λ b u e=>by
 obtain⟨h1,h2⟩:=Ao e;have hb:b≠p:=AH h2 hn;rw[Az λ z=>z.elim (λ z=>h1 (.inl z)) λ w=>(zaa.mp w).elim hb λ w=>h1 (.inr w),Ah hb];exact h2
theorem EI {fs:Aj->M (List OT)}(ha:wK X WX es fs)(hz:es.length<=1000:=by decide):DN X WX (.List es pos) (λ ρ=>(fs ρ).bind λ ts=>.ok (.lst ts)):=by
 obtain⟨ta,a1,a2,a3⟩:=ha;refine⟨_,Vz a1,λ P0 P σ H Q ρ E h=>?_⟩;dsimp only at h;refine a2 P0 P σ H _ ρ E ?_;cases q:fs ρ with
 |bad|ex y=>rw[q] at h;exact h
 |ok ts =>
  rw[q] at h;simp only[M.Ad] at h;intro vs fp H1 s1 n1 gp o1;have hP:=Xl (E.same s1).Cr o1;refine⟨zbr (AG (by rw[o1.len,a3 ρ ts q];exact hz)),λ p hp=>?_⟩;have ad:∀a∈fp,a≠p:=λ a ha z=>(o1.Cr a ha).no (by rw[z];exact hp);exact h _ (p::fp) _ (s1.trans (AO hp _)) (λ a ha=>(zaa.mp ha).elim (λ z=>by rw[z];exact Ex s1 hp) (n1 a)) (zbe.mpr ⟨λ z=>ad p z rfl,gp⟩) (.lst Ap (o1.move (rL hp hP) λ a ha=>Ah (ad a ha)))
theorem kE {P:Addr->Prop}{fp:List Addr}{p:Addr}{H:Hp}{o:HO}(hn:H p=none)(hP:∀a,PU P fp a->F7 H a):Ak (del H (PU P fp)) (del (upd H p o) (PU P fp)):=λ b u e=>by
 obtain⟨h1,h2⟩:=Ao e;have hb:b≠p:=AH h2 hn;rw[Az h1,Ah hb];exact h2
theorem Sg {fs:Aj->M (List OT)}{x1}(ha:wK X WX es fs)(hz:es.length<=1000:=by decide):DN X WX (.Tuple es x1 pos) (λ ρ=>(fs ρ).bind λ ts=>.ok (.tup ts)):=by
 obtain⟨ta,a1,a2,a3⟩:=ha;refine⟨_,bX a1,λ P0 P σ H Q ρ E h=>?_⟩;dsimp only at h;refine a2 P0 P σ H _ ρ E ?_;cases q:fs ρ with
 |bad|ex y=>rw[q] at h;exact h
 |ok ts =>
  rw[q] at h;simp only[M.Ad] at h;intro vs fp H1 s1 n1 gp o1;have hP:=Xl (E.same s1).Cr o1;refine⟨zbr (AG (by rw[o1.len,a3 ρ ts q];exact hz)),λ p hp=>?_⟩;have ad:∀a∈fp,a≠p:=λ a ha z=>(o1.Cr a ha).no (by rw[z];exact hp);refine h _ fp _ (s1.trans (AO hp _)) n1 gp (.tup ?_ (o1.move (kE hp hP) λ a ha=>Ah (ad a ha)));rw[Az λ z=>(hP p z).no hp];exact Ap
theorem Al.ows {K:za0}{H:Hp}{P:Addr->Prop}:∀ {xs:List V}{ds:List D},Al K (del H P) xs ds->AB K H P xs (ds.map .sh) []
 |_,_,.nil=>.nil
 |_,_,.cons h t=>.cons (.sh h) t.ows
theorem ZP.J4 {K:za0}{WX:Str->Hp->Prop}{P:Addr->Prop}{H H1:Hp}{Q:VK}{xs:List V}{ds:List D}(h:ZP K WX P H Q (.ok (.lst (ds.map .sh))))(s1:Ak H H1)(hx:Al K (del H1 P) xs ds):∀p,H1 p=none->Q (.ref p) (upd H1 p (.lst xs)):=λ p hp=>by
 have hn:∀a∈[p],H1 a=none:=λ a ha=>by rw[za7.mp ha];exact hp
 exact h _ [p] _ (s1.trans (AO hp _)) (λ a ha=>Ex s1 (hn a ha)) (by simp) (.lst Ap (hx.mono (CB (AO hp _) hn)).ows)
theorem AB.rM {K:za0}{H:Hp}{P:Addr->Prop}:∀ {xs:List V}{ds:List D}{fp:List Addr},AB K H P xs (ds.map .sh) fp->fp=[]/\Al K (del H P) xs ds
 |_,[],_,.nil=>⟨rfl,.nil⟩
 |_,d::ds,_,.cons (.sh h) r=>by
  obtain⟨rfl,q⟩:=AB.rM r;exact⟨rfl,.cons h q⟩
noncomputable def Ki:Cl->Cl
 | .val d=>.val d
 | .own ds=>.val (.lst ds)
 | .ow (.rows G5)=>.val (.lst (G5.map D.lst))
 | .ow (.MD _ ds)=>.val (.lst ds)
 | .ow (.tree _ t)=>.val (er t)
noncomputable def FJ (ρ:Aj):Aj:=ρ.map λ o=>o.map Ki
@[simp] theorem Kj:FJ []=[]:=rfl
@[simp] theorem IE (ρ:Aj):FJ (none::ρ)=none::FJ ρ:=rfl
@[simp] theorem IF (c:Cl) (ρ:Aj):FJ (some c::ρ)=some (Ki c)::FJ ρ:=rfl
theorem Aq.low {K:za0}{P0:E8}{P:Addr->Prop}{H:Hp}{σ:St}{ρ:Aj}(E:Aq K P0 P H σ ρ):Aq K P0 P0 H σ (FJ ρ):=by
 have key:∀(i:Nat) (c:Cl),(FJ ρ)[i]?=some (some c)->∃c',ρ[i]?=some (some c')/\c=Ki c':=λ i c h=>by
  unfold FJ at h;rw[zam] at h;cases q:ρ[i]? with
  |none=>rw[q] at h;cases h
  |some o =>
   rw[q] at h;cases o with
   |none=>cases h
   |some c'=>cases h;exact⟨c',rfl,rfl⟩
 have qd:∀c,Hj (Ki c)=false:=λ c=>by
  cases c with
  |val d|own ds=>rfl
  |ow o=>cases o<;>rfl
 have jn:∀c,QX (Ki c)=none:=λ c=>by
  cases c with
  |val d|own ds=>rfl
  |ow o=>cases o<;>rfl
 have wx:∀c v fp,¬ D5 K H P0 (Ki c) v fp:=λ c v fp h=>by
  cases c with
  |val d|own ds=>exact h
  |ow o=>cases o<;>exact h
 refine⟨λ _ h=>h,λ a h=>E.Cr a (E.sub a h),λ i d h=>?_,λ i c h io=>?_,λ i j c c' v v' fp ag hi hj si sj h h' ad=>?_,by unfold FJ;rw[za2];exact E.len,λ i c n h hp=>by obtain⟨c',h1,rfl⟩:=key i _ h;rw[jn] at hp;cases hp⟩
 ·obtain⟨c,h1,h2⟩:=key i _ h;cases c with
  |val d' =>
   cases h2;obtain⟨v,q1,q2⟩:=E.val i d h1;exact⟨v,q1,q2.mono (D3 E.sub)⟩
  |own ds =>
   cases h2;obtain⟨p,xs,q1,q2,q3,q4,q5⟩:=E.own i ds h1;exact⟨_,q1,.lst (.of (show del H P0 p=_ by rw[Az q4];exact q2)) (q5.mono (D3 E.sub))⟩
  |ow o =>
   obtain⟨v,fp,q1,q2,q3,q4⟩:=E.ows i _ h1 rfl;cases o with
   |rows G5 =>
    cases h2;obtain⟨p,ps,rfl,rfl,q5,q6⟩:=q2;exact⟨_,q1,.lst (.of (show del H P0 p=_ by rw[Az (q3 p za3).2];exact q5)) (q6.rF E.sub λ a ha=>(q3 a (za4 _ ha)).2)⟩
   |MD p ds =>
    cases h2;obtain⟨p,xs,rfl,rfl,q5,q6⟩:=q2;exact⟨_,q1,.lst (.of (show del H P0 p=_ by rw[Az (q3 p za3).2];exact q5)) (q6.mono (D3 E.sub))⟩
   |tree p t =>
    cases h2;exact⟨_,q1,C1.has E.sub (λ a ha=>(q3 a ha).2) q2⟩
 ·obtain⟨c',h1,rfl⟩:=key i _ h;rw[qd] at io;cases io
 ·obtain⟨c1,h1,rfl⟩:=key i _ hi;exact (wx _ _ _ h).elim
theorem Hx {ft:Aj->M Bool}(h:DT X WX e ft):DT X WX e (λ ρ=>ft (FJ ρ)):=by
 obtain⟨t,h1,h2⟩:=h;exact⟨t,h1,λ P0 P σ H Q ρ E g=>h2 P0 P0 σ H Q (FJ ρ) E.low g⟩
mutual
noncomputable def Hy:OT->Bool
 | .sh d=>M5 d
 | .lst ts| .tup ts| .BB _ _ ts| .ins _ _ ts=>GI ts
noncomputable def GI:List OT->Bool
 |[]=>true
 |t::r=>Hy t&&GI r
end
mutual
theorem C1.clean {K:za0}{H:Hp}{P P':Addr->Prop}(ht:∀a,P' a->F7 H a):∀ {v:V}{t:OT}{fp:List Addr},Hy t=true->C1 K H P v t fp->C1 K H P' v t fp
 |_,_,_,n,.sh h=>.sh (h.M5 ht (by rw[Hy] at n;exact n))
 |_,_,_,n,.lst h r=>.lst h (AB.clean ht (by rw[Hy] at n;exact n) r)
 |_,_,_,n,.tup h r=>.tup (Xj ht h) (AB.clean ht (by rw[Hy] at n;exact n) r)
 |_,_,_,n,.dK h r=>.dK h (AB.clean ht (by rw[Hy] at n;exact n) r)
 |_,_,_,n,.dT h r=>.dT h (AB.clean ht (by rw[Hy] at n;exact n) r)
 |_,_,_,n,.ins x h r=>.ins x h (AB.clean ht (by rw[Hy] at n;exact n) r)
theorem AB.clean {K:za0}{H:Hp}{P P':Addr->Prop}(ht:∀a,P' a->F7 H a):∀ {v:List V}{t:List OT}{fp:List Addr},GI t=true->AB K H P v t fp->AB K H P' v t fp
 |_,_,_,_,.nil=>.nil
 |_,_,_,n,.cons h r=>by
  rw[GI,zb5] at n;exact .cons (C1.clean ht n.1 h) (AB.clean ht n.2 r)
end
noncomputable def Vl (m:M OT):M OT:=m.bind λ t=>if Hy t=true then .ok t else .bad
theorem EJ (h:DN X WX e fn):DN X WX e (λ ρ=>Vl (fn (FJ ρ))):=by
 obtain⟨t,h1,h2⟩:=h;refine⟨t,h1,λ P0 P σ H Q ρ E g=>h2 P0 P0 σ H Q (FJ ρ) E.low ?_⟩;unfold Vl at g;dsimp only at g;cases q:fn (FJ ρ) with
 |bad|ex x=>rw[q] at g;exact g
 |ok t =>
  rw[q] at g;simp only[M.Ad] at g;by_cases hf:Hy t=true
  ·rw[if_pos hf] at g;exact λ v fp H' s hn nd o=>g v fp H' s hn nd (o.clean (JE (E.same s).Cr o) hf)
  ·rw[if_neg hf] at g;exact g.elim
noncomputable def J4 (d:D):M OT:=match d with
 | .lst ds| .tup ds=>.ok (.lst (ds.map .sh))
 |_=>.bad
theorem Nv {p:Pos}(hg:Gl X "list")(hm:X.mg "list" = none)(ha:DE X WX true e f)(hb:bootBuiltins "list" = some (.type "list"):=by decide +kernel)(aD:starEach [e] X.env=[(false,eval e X.env)]:=by rfl):
 DN X WX (.Call (.Name "list" p) [e] [] pos) (λ ρ=>(f ρ).bind J4):=by
 obtain⟨ta,a1,a2⟩:=ha;refine⟨_,LU S1 hg hm hb (Bi a1 Cs aD) (he:=aD),λ P0 P σ H Q ρ E h=>?_⟩;dsimp only at h;refine a2 P0 P σ H _ ρ E ?_;refine YB h λ d h=>?_;intro v H1 s1 hv;unfold J4 at h;split at h
 ·cases hv with
  |lst hs hh=>exact⟨_,_,rfl,.inl hs.AV,h.J4 s1 hh⟩
 ·cases hv with
  |tup hs hh=>exact⟨_,_,rfl,.inr (F9.of (Ao hs).2),h.J4 s1 hh⟩
 ·exact h.elim
def OpN (K:za0)(WX:Str->Hp->Prop)(r:R2)(aJ:D->D->M OT):Prop:=
 ∀(P:Addr->Prop) (H:Hp) (x y:D) (v w:V) (Q:VK),(∀a,P a->F7 H a)->BM K (del H P) v x->BM K (del H P) w y->ZP K WX P H Q (aJ x y)->r v w H Q
theorem wL {ta tb:TE}{r:R2}{aJ:D->D->M OT}(ha:∀P0 P σ H Q ρ,Aq X.K P0 P H σ ρ->gV X.K WX (Lv true P0 P) H Q (f ρ)->ta σ H Q)(hb:∀P0 P σ H Q ρ,Aq X.K P0 P H σ ρ->gV X.K WX (Lv true P0 P) H Q (g ρ)->tb σ H Q)
 (hr:OpN X.K WX r aJ) {Q:VK} (E:Aq X.K P0 P H σ ρ) (h:ZP X.K WX P H Q ((f ρ).bind λ x=>(g ρ).bind λ y=>aJ x y)):tP r ta tb σ H Q:=by
 refine ha P0 P σ H _ ρ E ?_;cases e:f ρ with
 |bad|ex x=>rw[e] at h;exact h
 |ok x =>
  rw[e] at h;intro v H1 s1 hv;refine hb P0 P σ H1 _ ρ (E.same s1) ?_;cases e2:g ρ with
  |bad=>rw[e2] at h;exact h
  |ex y=>rw[e2] at h;exact λ H' s=>h H' (s1.trans s)
  |ok y =>
   rw[e2] at h;intro w H2 s2 hw;exact hr _ H2 x y v w Q ((E.same s1).same s2).Cr (hv.mono s2.del) hw ((h.same s1).same s2)
noncomputable def R8 (x y:D):M OT:=match x,y with
 | .lst a,.lst b=>if a.length+b.length<=1000 then .ok (.lst ((a++b).map .sh)) else .bad
 |_,_=>.bad
end
noncomputable def spT (K:za0)(n:Nat)(F:List D->M OT):Sp:=λ vs H Q E=>vs.length=n/\∃P ds,(∀a,P a->F7 H a)/\Al K (del H P) vs ds/\ZP K (EF K E) P H Q (F ds)
noncomputable def wM:Cl->M OT
 | .val d=>.ok (.sh d)
 | .own ds=>.ok (.lst (ds.map .sh))
 | .ow (.rows G5)=>.ok (.lst (G5.map λ ds=>.lst (ds.map .sh)))
 | .ow (.MD _ _)=>.bad
 | .ow (.tree none t)=>.ok t
 | .ow (.tree (some _) _)=>.bad
noncomputable def YR (m:M Out):M OT:=match m with
 | .ok (.ret d)=>.ok (.sh d)
 | .ok (.D1 c)=>wM c
 | .ok (.next _)=>.ok (.sh .AJ)
 | .ex x=>.ex x
 |_=>.bad
theorem D4.ows {K:za0}{H:Hp}{P:Addr->Prop}:∀ {ps:List Addr}{G5:List (List D)},D4 K H P ps G5->AB K H P (ps.map V.ref) (G5.map λ ds=>.lst (ds.map .sh)) ps
 |_,_,.nil=>.nil
 |_,_,.cons h r t=>.cons (.lst h r.ows) t.ows
theorem D5.tree {K:za0}{H:Hp}{P:Addr->Prop}{c:Cl}{v:V}{fp:List Addr}{t:OT}(h:D5 K H P c v fp)(e:wM c=.ok t):C1 K H P v t fp:=by
 cases c with
 |val d=>exact h.elim
 |own ds =>
  cases e;obtain⟨p,xs,rfl,rfl,h1,h2⟩:=h;exact .lst h1 h2.ows
 |ow o =>
  cases o with
  |rows G5 =>
   cases e;obtain⟨p,ps,rfl,rfl,h1,h2⟩:=h;exact .lst h1 h2.ows
  |MD p ds=>cases e
  |tree p t' =>
   cases p with
   |none=>cases e;exact h
   |some q=>cases e
section
variable {P:Program}{w:World}{K:za0}{mg:Str->Option Value}{base:Heap}
theorem kF {WX:Str->Hp->Prop}{P P2:Addr->Prop}{H H':Hp}{Q:VK}{c:Cl}{v:V}{fp:List Addr}(h:ZP K WX P H Q (wM c))(t:Tr P P H P2 H')(hs:∀a,P a->P2 a)(ho:D5 K H' P2 c v fp)(hp:∀a∈fp,P2 a/\¬ P a)(nd:fp.Nodup):Q v H':=by
 cases q:wM c with
 |bad=>rw[q] at h;exact h.elim
 |ex x=>cases c with
  |val d|own ds=>cases q
  |ow o =>
   cases o with
   |rows G5|MD p ds=>cases q
   |tree p t'=>cases p<;>cases q
 |ok u =>
  rw[q] at h;have o:=ho.tree q;refine h v fp H' (Em t) (λ a ha=>rK t (hp a ha).1 (hp a ha).2) nd (o.move (D3 λ a ha=>ha.elim (hs a) λ z=>(hp a z).1) λ _ _=>rfl)
theorem wN {x qual:Str}{st:Stmt}{f:Addr}{fd:FuncData}{N ps:List Str}{k:Nat}(F:ZO K x qual st f fd)(S:Ai N ps (A8 st))(g:Aj->M Out)
 (hb:∀(B5:Value) (A:Around) (outer:List Env) (s:Shared) (H:Hp) (E:XK),BU k (A.deeper (envOfC qual (A8 st) s.heap.objs.size f B5))->Vk (nT P w K mg base N qual (A8 st) f B5 A outer s H E) (EF K E) (AU st) g):
 E7 P w K mg base (YG P w base) (k+1) f fd ps (spT K ps.length λ ds=>YR (g (DQ N ds))):=by
 obtain⟨oc,od,kV,doc,pm,an,B5,ct,Vj,rfl,lk,aT⟩:=F.ex;refine X2 lk aT S (λ vs H Q E h=>h.1) λ A outer s H vs Q E hr h=>?_;obtain⟨hl,P',ds,ht,hv,hq⟩:=h;obtain⟨t,h1,h2⟩:=hb B5 A outer s H E hr;refine⟨t,h1,h2 ⟨P',λ _=>0⟩ P' _ H _ _ (QZ ht hv) ?_⟩;dsimp only at hq;revert hq;cases g (DQ N ds) with
 |bad=>exact λ h=>h.elim
 |ex x=>exact λ h H' P2 t=>h H' (Em t)
 |ok o =>
  cases o with
  |ret d=>exact λ h v H' P2 t hv=>h v [] H' (Em t) (λ a ha=>by cases ha) zbz (.sh (by rw[VY];exact hv))
  |next ρ=>exact λ h σ' H' P2 t E=>h .AJ [] H' (Em t) (λ a ha=>by cases ha) zbz (.sh .AJ)
  |brk ρ|cont ρ=>exact λ h=>h.elim
  |D1 c=>exact λ h v fp H' P2 t hs ht ho hp nd=>kF h t hs ho hp nd
  |FE d ρ=>exact λ h=>h.elim
end
structure FnT (P:Program)(w:World)(K:za0)(mg:Str->Option Value)(base:Heap)(x:Str)(k n:Nat)(F:List D->M OT):Prop where
 ex:∃fa fd ps,E7 P w K mg base (YG P w base) k fa fd ps (spT K n F)/\mg x=some (.ref fa)/\zbj K (.ref fa)=true/\Binds K fd ps []
theorem Ay {P:Program}{w:World}{K:za0}{mg:Str->Option Value}{base:Heap}{x:Str}{st:Stmt}{N ps:List Str}{k n:Nat}(T:AI K mg x st ps)(S:Ai N ps (A8 st))(g:Aj->M Out)
 (hb:∀(f:Addr) (B5:Value) (A:Around) (outer:List Env) (s:Shared) (H:Hp) (E:XK),BU k (A.deeper (envOfC x (A8 st) s.heap.objs.size f B5))->Vk (nT P w K mg base N x (A8 st) f B5 A outer s H E) (EF K E) (AU st) g) (hn:ps.length=n:=by rfl):
 FnT P w K mg base x (k+1) n (λ ds=>YR (g (DQ N ds))):=by
 obtain⟨f,fd,F,hm,hB⟩:=T.ex;subst hn;exact⟨⟨f,fd,ps,wN F S g (hb f),hm,F.kp,hB⟩⟩
section
variable {X:Cx}{E:XK}{WX:Str->Hp->Prop}{c:Bool}{e:Expr}{es:List Expr}{fs:Aj->M (List D)}{f:Aj->M D}{fn:Aj->M OT}{ft:Aj->M Bool}{pos:Pos}
theorem Ac {k n:Nat}{F:List D->M OT}{x:Str}{p:Pos}(xo:Hs X E)(G:FnT X.prog X.w X.K X.mg X.base x k n F)(hr:BU k X.A)(hg:Gl X x)(ha:DA X (EF X.K E) true (e::es) fs)(hn:(e::es).length=n)
 (aN:(x==("__debug__" : Str))=false:=by decide) (he:starEach (e::es) X.env=(false,eval e X.env)::starEach es X.env:=by rfl) (hpl:(backTo pos (starEach es X.env)).any (·.1)=false:=by rfl):
 DN X (EF X.K E) (.Call (.Name x p) (e::es) [] pos) (λ ρ=>(fs ρ).bind F):=by
 obtain⟨fa,fd,ps,hF,hm,hk,hb⟩:=G.ex;obtain⟨ta,a1,a2,a3⟩:=ha;refine⟨_,X0 hF hr hg hm hk hb .nil xo.call a1 aN he hpl,λ P0 P σ H Q ρ E h=>?_⟩;dsimp only at h;refine a2 P0 P σ H _ ρ E ?_;cases q:fs ρ with
 |bad|ex x=>rw[q] at h;exact h
 |ok ds =>
  rw[q] at h;simp only[M.Ad] at h;intro vs H1 s1 a7;rw[zb8];exact⟨by rw[a7.length,a3 ρ ds q];exact hn,P,ds,(E.same s1).Cr,a7,h.same s1⟩
theorem C8 (h:DN X WX e fn):DN X (λ _ _=>False) e fn:=by
 obtain⟨t,h1,h2⟩:=h;refine⟨t,h1,λ P0 P σ H Q ρ E g=>h2 P0 P σ H Q ρ E ?_⟩;cases q:fn ρ with
 |bad=>rw[q] at g;exact g
 |ex x=>rw[q] at g;exact (g H (Ak.refl H)).elim
 |ok t=>rw[q] at g;exact g
noncomputable def YS (t:OT):M Out:=match t with
 | .sh d=>.ok (.ret d)
 |t=>.ok (.D1 (.ow (.tree none t)))
end
section
variable {X:Cx}{WX:Str->Hp->Prop}{c:Bool}{P0:E8}{P:Addr->Prop}{H:Hp}{σ:St}{ρ:Aj}{a b e:Expr}{f g:Aj->M D}{fn:Aj->M OT}{pos:Pos}
theorem Aq.yJ {K:za0}{H':Hp}{fp:List Addr}(E:Aq K P0 P H σ ρ)(s:Ak H H')(hn:∀a∈fp,H a=none):Tr P0 P H (PU P fp) H':=
 ⟨CB s hn,λ a ha=>by obtain⟨o,q,_⟩:=E.Cr a (E.sub a ha);rw[q];exact s _ _ q⟩
theorem Ag (ha:DN X WX e fn):DS X WX (.Return (some e) pos) (λ ρ=>(fn ρ).bind YS):=by
 obtain⟨ta,a1,a2⟩:=ha;refine⟨_,Vp a1,λ P0 P σ H Z ρ E h=>?_⟩;dsimp only at h;refine a2 P0 P σ H _ ρ E ?_;refine iF h E λ t h=>?_;intro v fp H' s hn nd o;have key:gS X.K WX P0 P H Z (.ok (.D1 (.ow (.tree none t))))->Z.rt v H':=λ h =>
  h v fp H' (PU P fp) (E.yJ s hn) (λ a ha=>.inl (E.sub a ha)) (JE (E.same s).Cr o) o (λ a ha=>⟨.inr ha,λ z=>(E.Cr a (E.sub a z)).no (hn a ha)⟩) nd
 cases t with
 |sh d =>
  cases o with
  |sh hv=>exact h v H' P (E.tr s) (hv.mono (D3 λ a ha=>.inl (E.sub a ha)))
 |lst ts|tup ts|BB b ks ts|ins x ns ts=>exact key h
noncomputable def Ei:List OT->Option (List D)
 |[]=>some []
 | .sh d::r=>(Ei r).map (d::·)
 |_::_=>none
theorem CU:∀ds:List D,Ei (ds.map .sh)=some ds
 |[]=>rfl
 |d::r=>by rw[za5,Ei,CU r];rfl
theorem CG:∀ {ts:List OT}{ds:List D},Ei ts=some ds->ts=ds.map .sh
 |[],ds,h=>by cases h;rfl
 | .sh d::r,ds,h=>by
  rw[Ei] at h;cases q:Ei r with
  |none=>rw[q] at h;cases h
  |some es=>rw[q] at h;cases h;rw[za5,<-CG q]
 | .lst _::r,ds,h| .tup _::r,ds,h| .BB _ _ _::r,ds,h| .ins _ _ _::r,ds,h=>by cases h
noncomputable def toCl (p:Option Nat)(t:OT):Cl:=match t with
 | .lst ts=>(match Ei ts with
  |some ds=>(match p with|none=>.own ds|some q=>.ow (.MD q ds))
  |none=>.ow (.tree p (.lst ts)))
 |t=>.ow (.tree p t)
@[simp] theorem toCl_list (ds:List D):toCl none (.lst (ds.map .sh))=.own ds:=by unfold toCl;simp only[CU]
@[simp] theorem toCl_listP (q:Nat) (ds:List D):toCl (some q) (.lst (ds.map .sh))=.ow (.MD q ds):=by unfold toCl;simp only[CU]
@[simp] theorem toCl_dct (p:Option Nat) (b:Bool) (ks:List D) (ts:List OT):toCl p (.BB b ks ts)=.ow (.tree p (.BB b ks ts)):=rfl
noncomputable def treeOf:Cl->Option (Option Nat×OT)
 | .own ds=>some (none,.lst (ds.map .sh))
 | .ow (.MD p ds)=>some (some p,.lst (ds.map .sh))
 | .ow (.rows G5)=>some (none,.lst (G5.map λ ds=>.lst (ds.map .sh)))
 | .ow (.tree p t)=>some (p,t)
 | .val _=>none
theorem D5.toT {K:za0}{H:Hp}{P:Addr->Prop}{c:Cl}{v:V}{fp:List Addr}{p:Option Nat}{t:OT}(h:D5 K H P c v fp)(e:treeOf c=some (p,t)):C1 K H P v t fp:=by
 cases c with
 |val d=>exact h.elim
 |own ds =>
  cases e;obtain⟨p,xs,rfl,rfl,h1,h2⟩:=h;exact .lst h1 h2.ows
 |ow o =>
  cases o with
  |rows G5 =>
   cases e;obtain⟨p,ps,rfl,rfl,h1,h2⟩:=h;exact .lst h1 h2.ows
  |MD p ds =>
   cases e;obtain⟨p,xs,rfl,rfl,h1,h2⟩:=h;exact .lst h1 h2.ows
  |tree p t'=>cases e;exact h
theorem D5.toCl {K:za0}{H:Hp}{P:Addr->Prop}{v:V}{fp:List Addr}{p:Option Nat}{t:OT}(h:C1 K H P v t fp):D5 K H P (toCl p t) v fp:=by
 unfold L2.toCl;split
 ·rename_i ts;cases q:Ei ts with
  |none=>exact h
  |some ds =>
   have e:=CG q;subst e;cases h with
   |lst h1 h2 =>
    obtain⟨rfl,h3⟩:=h2.rM;cases p with
    |none|some q=>exact⟨_,_,rfl,rfl,h1,h3⟩
 ·exact h
theorem Gh (p:Option Nat)(t:OT):QX (toCl p t)=p:=by
 unfold toCl;split
 ·rename_i ts;cases q:Ei ts with
  |none|some ds=>cases p<;>rfl
 ·cases p<;>rfl
theorem JF {c:Cl}{p:Option Nat}{t:OT}(h:treeOf c=some (p,t)):QX c=p:=by
 cases c with
 |val d=>cases h
 |own ds=>cases h;rfl
 |ow o =>
  cases o with
  |rows G5|MD p ds=>cases h;rfl
  |tree p t=>cases h;cases p<;>rfl
noncomputable def Sh (i:Nat)(ρ:Aj)(t:OT):M Out:=match t with
 | .sh d=>.ok (.next (ρ.set i (some (.val d))))
 |t=>.ok (.next (ρ.set i (some (toCl none t))))
theorem nV {K:za0}{i:Nat}{t:OT}{v:V}{fp:List Addr}{H':Hp}{Z:Ends}(E:Aq K P0 P H σ ρ)(s:Ak H H')(hn:∀a∈fp,H a=none)(nd:fp.Nodup)(o:C1 K H' (PU P fp) v t fp)(h:gS K WX P0 P H Z (Sh i ρ t)):Z.nx (σ.set i (some v)) H':=by
 have key:gS K WX P0 P H Z (.ok (.next (ρ.set i (some (toCl none t)))))->Z.nx (σ.set i (some v)) H':=λ h=>by
  refine h _ H' (PU P fp) (E.yJ s hn) (E.jV M8 (JE (E.same s).Cr o) (CB s hn) (λ j c' v' ag ad g1 g2 g3 a ha=>?_) (D5.toCl o) (λ a ha=>⟨.inr ha,λ z=>(E.Cr a (E.sub a z)).no (hn a ha)⟩) nd (λ n z=>by rw[Gh] at z;cases z));obtain⟨xs,z⟩:=g3.at a ha;exact⟨by rw[z];exact s _ _ z,λ w=>by rw[hn a w] at z;cases z⟩
 cases t with
 |sh d =>
  cases o with
  |sh hv=>exact h _ H' P (E.tr s) ((E.same s).VR (by rw[VY] at hv;exact hv))
 |lst ts|tup ts|BB b ks ts|ins x ns ts=>exact key h
theorem By (i:Nat){x:Str}{pos':Pos}(hN:X.N.Nodup)(hi:X.N[i]?=some x)(hx:Loc X.env.scope x)(ha:DN X WX e fn)(hs:swapsWith e (some (.Name x pos')) pos.line X.env=pure false:=by rfl)(hf:X.fn x=true\/X.env.scope.names.lookup x=some .local:=by first | exact .inl rfl | exact .inr rfl | assumption):
 DS X WX (.Assign [.Name x pos'] e pos) (λ ρ=>(fn ρ).bind (Sh i ρ)):=by
 obtain⟨ta,a1,a2⟩:=ha;refine⟨_,Vq hN hi hx a1 hs hf,λ P0 P σ H Z ρ E h=>?_⟩;dsimp only at h;refine a2 P0 P σ H _ ρ E ?_;cases q:fn ρ with
 |bad=>rw[q] at h;exact h
 |ex x=>rw[q] at h;exact λ H' s=>h H' P (E.tr s)
 |ok t =>
  rw[q] at h;exact λ v fp H' s hn nd o=>nV E s hn nd o h
noncomputable def VZ (i:Nat)(ρ:Aj):M Out:=match ρ[i]? with
 |some (some (.val d))=>.ok (.ret d)
 |some (some c)=>.ok (.D1 c)
 |_=>.bad
theorem CC (i:Nat){x:Str}{p1:Pos}(hv:PE X (.Name x p1) (Tg i)):DS X WX (.Return (some (.Name x p1)) pos) (VZ i):=by
 refine⟨_,Vp hv,λ P0 P σ H Z ρ E h=>?_⟩;unfold VZ at h;split at h
 ·rename_i d e1;obtain⟨v,h1,h2⟩:=E.val i d e1;exact⟨v,h1,h v H P Tr.refl (h2.mono (D3 E.sub))⟩
 ·rename_i c hc e1;have io:Hj c=true:=by
   cases c with
   |val d=>exact (hc d rfl).elim
   |own ds|ow o=>rfl
  obtain⟨v,fp,h1,h2,h3,h4⟩:=E.ows i _ e1 io;exact⟨v,h1,h v fp H P Tr.refl E.sub E.Cr h2 h3 h4⟩
 ·exact h.elim
theorem Hz:∀ds:List D,Qa (ds.map .sh)=ds
 |[]=>rfl
 |d::r=>by rw[za5,Qa,er,Hz r]
theorem YT {c:Cl}{p:Option Nat}{t:OT}(e:treeOf c=some (p,t)):Ki c=.val (er t):=by
 cases c with
 |val d=>cases e
 |own ds=>cases e;rw[er,Hz];rfl
 |ow o =>
  cases o with
  |rows G5 =>
   cases e;rw[er,Xe,zbv];have:(er ∘ λ ds:List D=>OT.lst (ds.map .sh))=D.lst:=by funext ds;rw[Function.comp,er,Hz]
   rw[this];rfl
  |MD p ds=>cases e;rw[er,Hz];rfl
  |tree p t'=>cases e;rfl
noncomputable def dU (i:Nat)(ρ:Aj):Aj:=match ρ[i]? with
 |some (some c)=>ρ.set i (some (Ki c))
 |_=>ρ
end
section
variable {K:za0}{H H':Hp}{P P':Addr->Prop}
theorem CT.same {v:V}{t:OT}{q:List Addr}{xs:List V}(e:Ak H H')(h:CT K H P v t q xs):CT K H' P v t q xs:=by
 cases t with
 |sh d=>exact h.elim
 |lst ts=>obtain⟨p,rfl,rfl,h⟩:=h;exact⟨p,rfl,rfl,e _ _ h⟩
 |tup ts=>obtain⟨p,rfl,rfl,h⟩:=h;exact⟨p,rfl,rfl,e.del _ _ h⟩
 |BB b ks ts =>
  cases b with
  |false|true=>obtain⟨p,kvs,rfl,rfl,h,rfl,rfl⟩:=h;exact⟨p,kvs,rfl,rfl,e _ _ h,rfl,rfl⟩
 |ins x ns ts=>obtain⟨p,C,dx,fs,rfl,rfl,n,h,rfl,rfl⟩:=h;exact⟨p,C,dx,fs,rfl,rfl,n,e _ _ h,rfl,rfl⟩
theorem Kh.same {v v1:V}{t t1:OT}{π:List Nat}(e:Ak H H')(h:Kh K H P v t π v1 t1):Kh K H' P v t π v1 t1:=by
 induction h with
 |nil=>exact .nil
 |cons n hx hs _ ih=>exact .cons (n.same e) hx hs ih
theorem CT.more {v:V}{t:OT}{q:List Addr}{xs:List V}(sm:Ak (del H P) (del H' P'))(e:Ak H H')(h:CT K H P v t q xs):CT K H' P' v t q xs:=by
 cases t with
 |sh d=>exact h.elim
 |lst ts=>obtain⟨p,rfl,rfl,h⟩:=h;exact⟨p,rfl,rfl,e _ _ h⟩
 |tup ts=>obtain⟨p,rfl,rfl,h⟩:=h;exact⟨p,rfl,rfl,sm _ _ h⟩
 |BB b ks ts =>
  cases b with
  |false|true=>obtain⟨p,kvs,rfl,rfl,h,rfl,rfl⟩:=h;exact⟨p,kvs,rfl,rfl,e _ _ h,rfl,rfl⟩
 |ins x ns ts=>obtain⟨p,C,dx,fs,rfl,rfl,n,h,rfl,rfl⟩:=h;exact⟨p,C,dx,fs,rfl,rfl,n,e _ _ h,rfl,rfl⟩
theorem Kh.more {v v1:V}{t t1:OT}{π:List Nat}(sm:Ak (del H P) (del H' P'))(e:Ak H H')(h:Kh K H P v t π v1 t1):Kh K H' P' v t π v1 t1:=by
 induction h with
 |nil=>exact .nil
 |cons n hx hs _ ih=>exact .cons (n.more sm e) hx hs ih
end
noncomputable def Vm (i:Nat)(ρ:Aj)(π:List Nat):Option OT:=match ρ[i]? with
 |some (some c)=>(match treeOf c with|some (_,t)=>M7 t π|none=>none)
 |_=>none
structure Bo (K:za0)(P:Addr->Prop)(H:Hp)(σ:St)(ρ:Aj)(i:Nat)(π:List Nat)(v:V)(t1:OT):Prop where
 ex:∃v0 c p t,ρ[i]?=some (some c)/\treeOf c=some (p,t)/\σ[i]?=some (some v0)/\Kh K H P v0 t π v t1
theorem Bo.at {K:za0}{P:Addr->Prop}{H:Hp}{σ:St}{ρ:Aj}{i:Nat}{π:List Nat}{v:V}{t1:OT}(h:Bo K P H σ ρ i π v t1):Vm i ρ π=some t1:=by
 obtain⟨v0,c,p,t,h1,h2,h3,h4⟩:=h.ex;unfold Vm;simp only[h1,h2];exact h4.sub
theorem Bo.same {K:za0}{P:Addr->Prop}{H H':Hp}{σ:St}{ρ:Aj}{i:Nat}{π:List Nat}{v:V}{t1:OT}(e:Ak H H')(h:Bo K P H σ ρ i π v t1):Bo K P H' σ ρ i π v t1:=by
 obtain⟨v0,c,p,t,h1,h2,h3,h4⟩:=h.ex;exact⟨v0,c,p,t,h1,h2,h3,h4.same e⟩
theorem Bo.more {K:za0}{P P':Addr->Prop}{H H':Hp}{σ:St}{ρ:Aj}{i:Nat}{π:List Nat}{v:V}{t1:OT}(sm:Ak (del H P) (del H' P'))(e:Ak H H')(h:Bo K P H σ ρ i π v t1):Bo K P' H' σ ρ i π v t1:=by
 obtain⟨v0,c,p,t,h1,h2,h3,h4⟩:=h.ex;exact⟨v0,c,p,t,h1,h2,h3,h4.more sm e⟩
theorem Bo.own {K:za0}{P0:E8}{P:Addr->Prop}{H:Hp}{σ:St}{ρ:Aj}{i:Nat}{π:List Nat}{v:V}{t1:OT}(h:Bo K P H σ ρ i π v t1)(E:Aq K P0 P H σ ρ):∃au,C1 K H P v t1 au/\(∀a∈au,P a/\¬ P0 a)/\au.Nodup:=by
 obtain⟨v0,c,p,t,h1,h2,h3,h4⟩:=h.ex;have io:Hj c=true:=by cases c<;>first|rfl|cases h2
 obtain⟨w,fp,k1,k2,k3,k4⟩:=E.ows i c h1 io;rw[h3] at k1;cases k1;obtain⟨au,o1,hk,kn⟩:=(k2.toT h2).part h4;exact⟨au,o1,λ a ha=>k3 a (hk a ha),kn k4⟩
def gP (K:za0)(WX:Str->Hp->Prop)(P:Addr->Prop)(H:Hp)(σ:St)(ρ:Aj)(i:Nat)(Q:VK):M (List Nat)->Prop
 | .ok π=>∀v t1 H',Ak H H'->Bo K P H' σ ρ i π v t1->Q v H'
 | .ex x=>∀H',Ak H H'->WX x H'
 | .bad=>False
def DP (X:Cx)(WX:Str->Hp->Prop)(e:Expr)(i:Nat)(f:Aj->M (List Nat)):Prop:=
 ∃t,PE X e t/\∀P0 P σ H Q ρ,Aq X.K P0 P H σ ρ->gP X.K WX P H σ ρ i Q (f ρ)->t σ H Q
section
variable {X:Cx}{WX:Str->Hp->Prop}{c:Bool}{P0:E8}{P:Addr->Prop}{H:Hp}{σ:St}{ρ:Aj}{a b e:Expr}{f g:Aj->M D}{fn:Aj->M OT}{fp:Aj->M (List Nat)}{pos:Pos}{i:Nat}
noncomputable def Qo (i:Nat)(ρ:Aj):M (List Nat):=match Vm i ρ [] with | some _=>.ok [] | none=>.bad
theorem Bz (i:Nat){x:Str}{p1:Pos}(hv:PE X (.Name x p1) (Tg i)):DP X WX (.Name x p1) i (Qo i):=by
 refine⟨_,hv,λ P0 P σ H Q ρ E h=>?_⟩;unfold Qo at h;split at h
 ·rename_i t e;unfold Vm at e;split at e
  ·rename_i cl e1;split at e
   ·rename_i p t0 e2;have io:Hj cl=true:=by cases cl<;>first|rfl|cases e2
    obtain⟨v,fp,h1,h2,h3,h4⟩:=E.ows i cl e1 io;exact⟨v,h1,h v t0 H (Ak.refl H) ⟨v,cl,p,t0,e1,e2,h1,.nil⟩⟩
   ·cases e
  ·cases e
 ·exact h.elim
noncomputable def aai (i:Nat)(ρ:Aj)(π:List Nat):M D:=match Vm i ρ π with
 |some (.sh d)=>.ok d
 |_=>.bad
theorem Aq.wO {K:za0}{P':Addr->Prop}{H':Hp}{π:List Nat}{v1:V}{t1 u:OT}{au fu:List Addr}(E:Aq K P0 P H σ ρ)(pl:Bo K P H σ ρ i π v1 t1)(o:C1 K H P v1 t1 au)(hs:∀a,P a->P' a)(ht:∀a,P' a->F7 H' a)(sm:Ak (del H P) (del H' P'))(keep:∀a,P a->a∉au->H' a=H a)
 (o':C1 K H' P' v1 u fu) (nd:fu.Nodup) (hf:∀a∈fu,a∈au\/(P' a/\¬ P0 a/\∀(j:Nat) c v fp,ρ[j]?=some (some c)->σ[j]?=some (some v)->D5 K H P c v fp->a∉fp)):
 ∃c p t,ρ[i]?=some (some c)/\treeOf c=some (p,t)/\Aq K P0 P' H' σ (ρ.set i (some (toCl p (EH t π u))))/\Tr P0 P H P' H':=by
 obtain⟨v0,c,p,t,h1,h2,h3,h4⟩:=pl.ex;have io:Hj c=true:=by cases c<;>first|rfl|cases h2
 obtain⟨w,fp,k1,k2,k3,k4⟩:=E.ows i c h1 io;rw[h3] at k1;cases k1;have ot:=k2.toT h2;obtain⟨fz,oz,kz,_⟩:=ot.part h4;have:=oz.Cd o;subst this;obtain⟨ag,q1,q2,q3⟩:=ot.put sm h4 o o' (λ a ha hn=>keep a (k3 a ha).1 hn) k4 nd (λ a ha hb=>(hf a ha).elim id λ z=>(z.2.2 i c v0 fp h1 h3 k2 hb).elim);refine⟨c,p,t,h1,h2,?_,sm,λ a ha=>keep a (E.sub a ha) λ z=>(k3 a (kz a z)).2 ha⟩;have key:=E.jV (P':=P') (H':=H') (i:=i) (v:=v0) (c:=toCl p (EH t π u)) (fp:=ag) hs ht sm (λ j c' v' fq ad g1 g2 g3 a ha=>?_) (D5.toCl q1) (λ a ha=>?_) q2 (λ n z=>by rw[Gh] at z;subst z;have:=E.pin i c n h1 (JF h2);rw[h3] at this;cases this;rfl)
 ·rw[Sa h3] at key;exact key
 ·have qe:a∉fp:=E.apart j i c' c v' v0 fq fp g1 h1 g2 h3 g3 k2 (zbi ad) a ha;have jo:Hj c'=true:=by cases c'<;>first|rfl|exact g3.elim
  obtain⟨w',fr,m1,m2,m3,m4⟩:=E.ows j c' g1 jo;rw[g2] at m1;cases m1;have:=m2.Cd g3;subst this;refine⟨keep a (m3 a ha).1 λ z=>qe (kz a z),λ z=>?_⟩;rcases q3 a z with y|y
  ·rcases hf a y with x|x
   ·exact qe (kz a x)
   ·exact x.2.2 j c' v' fr g1 g2 g3 ha
  ·exact qe y.1
 ·rcases q3 a ha with y|y
  ·rcases hf a y with x|x
   ·exact⟨hs a (k3 a (kz a x)).1,(k3 a (kz a x)).2⟩
   ·exact⟨x.1,x.2.1⟩
  ·exact⟨hs a (k3 a y.1).1,(k3 a y.1).2⟩
theorem Aq.rN {K:za0}{π:List Nat}{l:Addr}{xs ys:List V}{ts us:List OT}{fq fu:List Addr}(E:Aq K P0 P H σ ρ)(pl:Bo K P H σ ρ i π (.ref l) (.lst ts))(hH:H l=some (.lst xs))(o:AB K H P xs ts fq)(o':AB K H P ys us fu)(nd:fu.Nodup)(hl:l∉fu)
 (hf:∀a∈fu,a∈fq\/(P a/\¬ P0 a/\∀(j:Nat) c v fp,ρ[j]?=some (some c)->σ[j]?=some (some v)->D5 K H P c v fp->a∉fp)):
 ∃c p t,ρ[i]?=some (some c)/\treeOf c=some (p,t)/\Aq K P0 P (upd H l (.lst ys)) σ (ρ.set i (some (toCl p (EH t π (.lst us)))))/\Tr P0 P H P (upd H l (.lst ys)):=by
 have ot:C1 K H P (.ref l) (.lst ts) (l::fq):=.lst hH o;obtain⟨au,o1,hp,_⟩:=pl.own E;have:=o1.Cd ot;subst this;have pP:P l:=(hp l za3).1;have sd:del (upd H l (.lst ys)) P=del H P:=by
  funext b;by_cases hb:P b
  ·rw[Ga hb,Ga hb]
  ·rw[Az hb,Az hb,Ah (λ z=>hb (by rw[z];exact pP))]
 have sm:Ak (del H P) (del (upd H l (.lst ys)) P):=by rw[sd];exact Ak.refl _
 refine E.wO pl ot (λ _ h=>h) (λ a h=>?_) sm (λ a ha hn=>Ah λ z=>hn (by rw[z];exact za3)) (.lst Ap (o'.move sm λ a ha=>Ah λ z=>hl (by rw[<-z];exact ha))) (zbe.mpr ⟨hl,nd⟩) (λ a ha=>?_)
 ·by_cases ha:a=l
  ·subst ha;exact F7.lst Ap
  ·unfold F7;rw[Ah ha];exact E.Cr a h
 ·rcases zaa.mp ha with z|z
  ·exact .inl (by rw[z];exact za3)
  ·rcases hf a z with y|y
   ·exact .inl (za4 _ y)
   ·exact .inr y
end
noncomputable def kd:D->Option Key
 | .int i=>some (.inl i)
 | .str x=>some (.inr x)
 |_=>none
noncomputable def tX:List D->Option (List Key)
 |[]=>some []
 |d::r=>match kd d,tX r with|some k,some ks=>some (k::ks)|_,_=>none
theorem nW {d:D}{k:Key}(h:kd d=some k):d=Cy k:=by
 cases d<;>simp[kd] at h<;>subst h<;>rfl
theorem dW:∀ {ds:List D}{ks:List Key},tX ds=some ks->ds=ks.map Cy
 |[],ks,h=>by cases h;rfl
 |d::r,ks,h=>by
  rw[tX] at h;cases q:kd d with
  |none=>rw[q] at h;cases h
  |some k =>
   cases q2:tX r with
   |none=>rw[q,q2] at h;cases h
   |some wy =>
    rw[q,q2] at h;cases h;rw[za5,<-nW q,<-dW q2]
inductive kG:Bool->D->Prop
 |k (κ:Key):kG false (Cy κ)
 |t (κ:List Key):kG true (.tup (κ.map Cy))
noncomputable def keyOk (b:Bool)(d:D):Bool:=match b,d with
 |false,d=>(kd d).isSome
 |true,.tup ds=>(tX ds).isSome
 |_,_=>false
theorem EK {b:Bool}{d:D}(h:keyOk b d=true):kG b d:=by
 cases b with
 |false =>
  obtain⟨k,hk⟩:=zbu.mp (show (kd d).isSome=true from h);rw[nW hk];exact .k k
 |true =>
  cases d with
  |tup ds =>
   obtain⟨k,hk⟩:=zbu.mp (show (tX ds).isSome=true from h);rw[dW hk];exact .t k
  |_=>cases h
theorem HA (a b:Key):Br (Cy a) (Cy b)=decide (a=b):=by
 cases a with
 |inl i =>
  cases b with
  |inl j=>simp only[Cy,Br];rw[zcr];simp
  |inr y=>simp[Cy,Br]
 |inr x =>
  cases b with
  |inl j=>simp[Cy,Br]
  |inr y=>simp only[Cy,Br];rw[zcr];simp
theorem Nw:∀a b:List Key,Cn (a.map Cy) (b.map Cy)=decide (a=b)
 |[],[]|[],_::_|_::_,[]=>by simp[Cn]
 |a::r,b::t=>by
  rw[za5,za5,Cn,HA,Nw r t,zcr];simp
noncomputable def H9 {α:Type}:List D->List α->D->Option α
 |k::ks,v::vs,y=>if Br k y=true then some v else H9 ks vs y
 |_,_,_=>none
noncomputable def JG {α:Type}:List D->List α->D->α->List α
 |k::ks,v::vs,y,z=>(if Br k y=true then z else v)::JG ks vs y z
 |_,vs,_,_=>vs
noncomputable def N9 (ks:List D)(y:D):Bool:=ks.any λ k=>Br k y
section
variable {κ:Type} [DecidableEq κ] {fk:κ->D}(hf:∀a b,Br (fk a) (fk b)=decide (a=b))
include hf
theorem OB {α:Type}:∀(kvs:List (κ×α)) (k:κ),H9 (kvs.map λ kv=>fk kv.1) (kvs.map zbt) (fk k)=(kvs.find? λ kv=>decide (kv.1=k)).map (·.2)
 |[],k=>rfl
 |p::r,k=>by
  rw[za5,za5,H9,hf,zd0];by_cases e:p.1=k
  ·rw[decide_eq_true e];rfl
  ·rw[decide_eq_false e];simp only[zat,if_false];exact OB r k
theorem Kk {α:Type}(kvs:List (κ×α))(k:κ):N9 (kvs.map λ kv=>fk kv.1) (fk k)=kvs.any λ kv=>decide (kv.1=k):=by
 unfold N9;rw[List.any_map];congr 1;funext kv;exact hf _ _
theorem HB (k:κ)(v:V):∀(kvs:List (κ×V)),JG (kvs.map λ kv=>fk kv.1) (kvs.map zbt) (fk k) v=(kvs.map λ kv=>if kv.1=k then (kv.1,v) else kv).map zbt
 |[]=>rfl
 |p::r=>by
  rw[za5,za5,JG,hf,za5,za5,HB k v r];by_cases e:p.1=k
  ·rw[decide_eq_true e,if_pos e];rfl
  ·rw[decide_eq_false e,if_neg e];rfl
theorem HC (k:κ)(v:V):∀(kvs:List (κ×V)),(kvs.map λ kv=>if kv.1=k then (kv.1,v) else kv).map (λ kv=>fk kv.1)=kvs.map λ kv=>fk kv.1
 |[]=>rfl
 |p::r=>by
  rw[za5,za5,za5,HC k v r];by_cases e:p.1=k
  ·rw[if_pos e]
  ·rw[if_neg e]
end
theorem OC {K:za0}{H:Hp}:∀ {ks:List D}{xs:List V}{ds:List D}{y d:D},Al K H xs ds->H9 ks ds y=some d->∃x,H9 ks xs y=some x/\BM K H x d
 |[],_,_,_,_,_,e|_::_,_,_,_,_,.nil,e=>by simp[H9] at e
 |k::ks,_,_,y,d,.cons h t,e=>by
  rw[H9] at e ⊢;by_cases q:Br k y=true
  ·rw[if_pos q] at e ⊢;cases e;exact⟨_,rfl,h⟩
  ·rw[if_neg q] at e ⊢;exact OC t e
theorem IG {α:Type}:∀ {ks:List D}{xs:List α}{y:D},xs.length=ks.length->N9 ks y=(H9 ks xs y).isSome
 |[],[],y,_=>rfl
 |k::ks,x::xs,y,h=>by
  unfold N9;rw[zd5,H9];cases q:Br k y with
  |true=>rfl
  |false =>
   simp only[Bool.false_or,zat,if_false];exact IG (by simpa using h)
 |[],_::_,_,h|_::_,[],_,h=>by cases h
theorem HE {K:za0}{H:Hp}{P:Addr->Prop}{y d:D}{v:V}(hv:BM K (del H P) v d):∀ {ks:List D}{xs:List V}{ds:List D},Al K (del H P) xs ds->Al K (del H P) (JG ks xs y v) (JG ks ds y d)
 |[],_,_,h=>by simp only[JG];exact h
 |_::_,_,_,.nil=>by simp only[JG];exact .nil
 |k::ks,_,_,.cons h t=>by
  rw[JG,JG];refine .cons ?_ (HE hv t);by_cases q:Br k y=true
  ·rw[if_pos q,if_pos q];exact hv
  ·rw[if_neg q,if_neg q];exact h
section
variable {K:za0}{H:Hp}{P:Addr->Prop}
theorem Al.keys:∀ {xs:List V}(κ:List Key),Al K H xs (κ.map Cy)->xs=κ.map kV
 |_,[],.nil=>rfl
 |_,k::r,.cons h t=>by
  rw[za5,<-Al.keys r t];congr 1;cases k with
  |inl i=>exact h.int_inv
  |inr x=>cases h;rfl
theorem BM.kH {y:V}{κ:Key}(h:BM K H y (Cy κ)):y=kV κ:=by
 cases κ with
 |inl i=>exact h.int_inv
 |inr x=>cases h;rfl
theorem Si {v y:V}{b:Bool}{ks vs:List D}{k:D}(hv:BM K (del H P) v (.BB b ks vs))(hy:BM K (del H P) y k)(hk:kG b k):∃a xs,v=.ref a/\S2 H a y (H9 ks xs k)/\Al K (del H P) xs vs/\xs.length=ks.length:=by
 cases hv with
 |QW hh hl =>
  cases hk with
  |k κ =>
   refine⟨_,_,rfl,?_,hl,by simp⟩;rw[hy.kH,OB HA];exact .inl ⟨_,κ,hh.AV,rfl,rfl⟩
 |S5 hh hl =>
  cases hk with
  |t κ =>
   cases hy with
   |tup ht aq =>
    have e:=Al.keys κ aq;subst e;refine⟨_,_,rfl,?_,hl,by simp⟩;rw[OB (fk:=λ κ:List Key=>D.tup (κ.map Cy)) (λ a b=>by simp only[Br];exact Nw a b)];exact .inr ⟨_,κ,_,hh.AV,rfl,(Ao ht).2,rfl⟩
end
section
variable {X:Cx}{WX:Str->Hp->Prop}{c:Bool}{P0:E8}{P:Addr->Prop}{H:Hp}{σ:St}{ρ:Aj}{a b e:Expr}{f g:Aj->M D}{fn:Aj->M OT}{fp:Aj->M (List Nat)}{pos:Pos}{i:Nat}
noncomputable def wQ:R2:=λ x y H Q=>∃a v,x=.ref a/\S2 H a y (some v)/\Q v H
theorem kI (hu:X.A.units+1<cLine):jC X wQ:=by
 intro value slice pins s σ H x y v u Q I rx ry h hs;obtain⟨a,z,rfl,g,q⟩:=h;cases rx;have hT:=Tz I g;have h₂:wpAny (model X.prog X.w) X.A (getItem (.ref a) u) (EP X pins σ Q) X.xe s:=Yx hu I g ry λ w' s3 I3 aX=>⟨z,H,I3,aX,q⟩;unfold subscriptTail;refine wpAny_bind ?_;rw[getitemInPython_of_ne hT.not_modules];refine wpAny_bind (wpAny_specialOf hT PySem.F.slot_dict_getitem.lookup ?_);have fin:wpAny (model X.prog X.w) X.A (subscripted slice false (.ref a) u) (λ r s₃=>wpAny (model X.prog X.w) X.A (letTemporaryGo value (.ref a) r >>= λ _=>pure r) (EP X pins σ Q) X.xe s₃) X.xe s:=by
  rw[hs];exact wpAny_operating (wpAny_mono h₂ (λ r s₃ h₃=>wpAny_bind (wpAny_letTemporaryGo (wpAny_pure h₃))) λ _ _ x=>x)
 first
  |exact wpAny_pure (wpAny_bind fin)
  |exact wpAny_bind (wpAny_pure (wpAny_bind fin))
  |exact wpAny_bind fin
noncomputable def AM (x y:D):M D:=match x with
 | .BB b ks vs=>if keyOk b y=true then (match H9 ks vs y with|some d=>.ok d|none=>.bad) else .bad
 |x=>tR x y
theorem kJ:Xf X.K WX (λ x y H Q=>(qJ X.K x y H Q\/qK X.K x y H Q)\/wQ x y H Q) AM:=by
 intro P H x y v w Q ht hx hy h;cases x with
 |BB b ks vs =>
  simp only[AM] at h;by_cases hk:keyOk b y=true
  ·rw[if_pos hk] at h;obtain⟨a,xs,rfl,g,hl,_⟩:=Si hx hy (EK hk);split at h
   ·rename_i d e;obtain⟨u,e1,e2⟩:=OC hl e;rw[e1] at g;exact .inr ⟨a,u,rfl,g,h _ H (Ak.refl H) e2⟩
   ·exact h.elim
  ·rw[if_neg hk] at h;exact h.elim
 |AJ|bl b|int b|str b|tup b|lst b|JX b|ins b _ _=>exact .inl (Hl P H _ y v w Q ht hx hy h)
theorem Ab {n:Nat}(hu:X.A.units+n<cLine)(ha:DE X WX c a f)(hb:DE X WX c b g)(hs:RY b:=by exact λ _ _=>rfl)(hn:1<=n:=by decide):DE X WX c (.Subscript a b pos) (λ ρ=>(f ρ).bind λ x=>(g ρ).bind λ y=>AM x y):=vX ((jD.or qL).or (kI (by omega))) kJ ha hb hs
noncomputable def rO (neg:Bool):R2:=λ y x H Q=>∃a o,x=.ref a/\S2 H a y o/\Q (.bl (if neg=true then !o.isSome else o.isSome)) H
theorem W0 (hu:X.A.units+1<cLine):G7 X (compareOp .In) (rO false):=by
 intro pins s σ H x y v u Q I rx ry h;obtain⟨a,o,rfl,g,q⟩:=h;cases ry;exact zY hu I g rx λ s3 I3=>⟨.bl o.isSome,H,I3,rfl,q⟩
theorem J9 (hu:X.A.units+1<cLine):G7 X (compareOp .NotIn) (rO true):=by
 intro pins s σ H x y v u Q I rx ry h;obtain⟨a,o,rfl,g,q⟩:=h;cases ry;exact jJ hu I g rx λ s3 I3=>⟨.bl (!o.isSome),H,I3,rfl,q⟩
noncomputable def JH (neg:Bool)(y x:D):M D:=match x with
 | .BB b ks vs=>if keyOk b y=true then .ok (.bl (if neg=true then !N9 ks y else N9 ks y)) else .bad
 |x=>yH neg y x
theorem Sj {neg:Bool}:Xf X.K WX (λ x y H Q=>yE X.K neg x y H Q\/rO neg x y H Q) (JH neg):=by
 intro P H x y v w Q ht hx hy h;cases y with
 |BB b ks vs =>
  simp only[JH] at h;by_cases hk:keyOk b x=true
  ·rw[if_pos hk] at h;obtain⟨a,xs,rfl,g,hl,hn⟩:=Si hy hx (EK hk);rw[IG (xs:=xs) hn] at h;exact .inr ⟨a,_,rfl,g,h _ H (Ak.refl H) (.bl _)⟩
  ·rw[if_neg hk] at h;exact h.elim
 |AJ|bl b|int b|str b|tup b|lst b|JX b|ins b _ _=>exact .inl (Ht P H x _ v w Q ht hx hy h)
theorem kK {n:Nat}(hu:X.A.units+n<cLine)(ha:DE X WX c a f)(hb:DE X WX c b g)(hm:behindInMarks .NotIn b=false:=by rfl)(hn:1<=n:=by decide):DE X WX c (.Compare a [.NotIn] [b] pos) (λ ρ=>(f ρ).bind λ x=>(g ρ).bind λ y=>JH true x y):=VN (K5.or (J9 (by omega))) Sj ha hb hm
theorem JI {n:Nat}(hu:X.A.units+n<cLine)(ha:DE X WX c a f)(hb:DE X WX c b g)(hm:behindInMarks .In b=false:=by rfl)(hn:1<=n:=by decide):DT X WX (.Compare a [.In] [b] pos) (λ ρ=>((f ρ).bind λ x=>(g ρ).bind λ y=>JH false x y).bind Qn):=Gb (Yt.or (W0 (by omega))) Sj ha hb hm
theorem Kl {n:Nat}(hu:X.A.units+n<cLine)(ha:DE X WX c a f)(hb:DE X WX c b g)(hm:behindInMarks .NotIn b=false:=by rfl)(hn:1<=n:=by decide):DT X WX (.Compare a [.NotIn] [b] pos) (λ ρ=>((f ρ).bind λ x=>(g ρ).bind λ y=>JH true x y).bind Qn):=Gb (K5.or (J9 (by omega))) Sj ha hb hm
noncomputable def Eo:D->M Bool
 | .AJ=>.ok false
 | .bl b=>.ok b
 | .int i=>.ok (i != 0)
 | .tup ds| .lst ds=>.ok (!ds.isEmpty)
 |_=>.bad
theorem Km {K:za0}{H:Hp}{xs:List V}{ds:List D}(h:Al K H xs ds):(!ds.isEmpty) = !xs.isEmpty:=by cases h<;>rfl
theorem Be (h:DE X WX c e f)(he:∀whole,isTrue e X.env whole=(do let v <-whole;standAt e.pos;holding [v] (truthy v)):=by intro _;rfl):DT X WX e (λ ρ=>(f ρ).bind Eo):=by
 obtain⟨t,h1,h2⟩:=h;refine⟨_,bU h1 he,λ P0 P σ H Q ρ E h=>h2 P0 P σ H _ ρ E ?_⟩;dsimp only at h;refine YB h λ d h=>?_;intro v H' s hv;cases hv with
 |AJ=>exact⟨false,rfl,h H' s⟩
 |bl b=>exact⟨b,rfl,h H' s⟩
 |int i=>exact⟨_,rfl,h H' s⟩
 |tup hs hl=>exact⟨_,.inr (.inl ⟨_,F9.of (Ao hs).2,rfl⟩),by rw[<-Km hl];exact h H' s⟩
 |lst hs hl=>exact⟨_,.inl ⟨_,hs.AV,rfl⟩,by rw[<-Km hl];exact h H' s⟩
 |_=>exact h.elim
end
noncomputable def GJ (m:M (List D)):M OT:=match m with | .ok ys=>.ok (.lst (ys.map .sh)) | _=>.bad
section
variable {X:Cx}{WX:Str->Hp->Prop}{c:Bool}{P0:E8}{P:Addr->Prop}{H:Hp}{σ:St}{ρ:Aj}{a b e tg iter:Expr}{f g:Aj->M D}{ft:Aj->M Bool}{pos:Pos}{gt:D->Aj->M Aj}{fi:Aj->M (List D)}{es:List Expr}{fs:Aj->M (List D)}
theorem dX {μ:List (Option Nat)}{wi:TI}{gg:TG}{tc:Shared->Hp->Addr->List Addr->TT}{te:Shared->Hp->Addr->List Addr->TE}{fe:Aj->M D}
 (i2:∀P0 P σ H R ρ,Aq X.K P0 P H σ ρ->(match fi ρ with | .ok ds=>∀J H',Ak H H'->VS X.K J P H' ds->R J H' | .ex x=>∀H',Ak H H'->WX x H' | .bad=>False)->wi σ H R)
 (g2:∀P0 P σ H Q ρ v d,Aq X.K P0 P H σ ρ->BM X.K (del H P) v d->gG X.K P0 P H Q (gt d ρ)->gg v σ H Q)
 (t2:∀s H' C ex P0 P σ H Q ρ,Aq X.K P0 P H σ ρ->gT (λ _ _=>False) H Q (ft ρ)->tc s H' C ex σ H Q)
 (e2:∀s H' C ex P0 P σ H Q ρ,Aq X.K P0 P H σ ρ->gV X.K (λ _ _=>False) (Lv true P0 P) H Q (fe ρ)->te s H' C ex σ H Q) {Q:VK}
 (E:Aq X.K P0 P H σ ρ) (h:ZP X.K WX P H Q ((fi ρ).bind λ ds=>if ds.length<=1000 then GJ (B6 gt ft fe ds (Ba μ ρ)) else .bad)):TK wi μ gg tc te σ H Q:=by
 refine i2 P0 P σ H _ ρ E ?_;cases q:fi ρ with
 |bad|ex x=>rw[q] at h;exact h
 |ok ds =>
  rw[q] at h;simp only[M.Ad] at h;by_cases hd:¬ ds.length<=1000
  ·rw[if_neg hd] at h;exact h.elim
  have hd:ds.length<=1000:=by omega
  rw[if_pos hd] at h;intro J H1 s1 ok s C ex;cases qc:B6 gt ft fe ds (Ba μ ρ) with
  |bad|ex x=>rw[qc] at h;exact h.elim
  |ok total =>
   rw[qc] at h;unfold GJ at h;dsimp only at h;have E1:=E.same s1;refine⟨λ i m ys H2=>m=ds.length-i/\i<=ds.length/\ys.length<=i/\Ak H1 H2/\∃es rest,Al X.K (del H2 P) ys es/\B6 gt ft fe (ds.drop i) (Ba μ ρ)=.ok rest/\es++rest=total,
    ⟨ds.length,by simp,zbc _,zag _,Ak.refl _,[],total,.nil,by rw[List.drop_zero];exact qc,rfl⟩,?_⟩
   rintro i m ys H2 ⟨rfl,hi,hy,s2,es,rest,bE,ae,a8⟩;by_cases af:i<ds.length
   ·refine .inr ⟨ok.go i P H2 s2.del af,Nat.lt_of_le_of_lt hy (AG (by omega)),λ aL H'=>i+1<=ds.length/\aL.length<=i+1/\Ak H1 H'/\∃es rest,Al X.K (del H' P) aL es/\B6 gt ft fe (ds.drop (i+1)) (Ba μ ρ)=.ok rest/\es++rest=total,λ aL H' hq=>⟨ds.length-(i+1),by omega,rfl,hq.1,hq.2.1,hq.2.2.1,hq.2.2.2⟩,λ v H3 y=>?_⟩;have E2:=E1.same s2;obtain⟨s3,hv⟩:=ok.iQ i P H2 v H3 ds[i] s2.del E2.Cr (za8 af) y;rw[Hq af,B6] at ae;have E3:=(E2.same s3).block μ;refine g2 P0 P _ H3 _ (Ba μ ρ) v ds[i] E3 hv ?_;cases q1:gt ds[i] (Ba μ ρ) with
    |bad|ex x=>rw[q1] at ae;cases ae
    |ok ρ1 =>
     rw[q1] at ae;dsimp only at ae;intro σ4 E4;refine t2 s H1 C ex P0 P σ4 H3 _ ρ1 E4 ?_;cases q2:ft ρ1 with
     |bad|ex x=>rw[q2] at ae;cases ae
     |ok k =>
      rw[q2] at ae;dsimp only at ae;intro H5 s5;cases k with
      |false =>
       simp only[zat,if_false] at ae ⊢;exact⟨af,by omega,(s2.trans s3).trans s5,es,rest,(bE.mono s3.del).mono s5.del,ae,a8⟩
      |true =>
       simp only[if_true] at ae ⊢;refine e2 s H1 C ex P0 P σ4 H5 _ ρ1 (E4.same s5) ?_;cases q3:fe ρ1 with
       |bad|ex x=>rw[q3] at ae;cases ae
       |ok y' =>
        rw[q3] at ae;dsimp only at ae;cases q4:B6 gt ft fe (ds.drop (i+1)) (Ba μ ρ) with
        |bad|ex x=>rw[q4] at ae;cases ae
        |ok jk =>
         rw[q4] at ae;cases ae;intro w H6 s6 hw;refine⟨af,by rw[zaj,zbf];omega,((s2.trans s3).trans s5).trans s6,es++[y'],jk,(((bE.mono s3.del).mono s5.del).mono s6.del).snoc hw,rfl,?_⟩;rw[zbk];exact a8
   ·have e:i=ds.length:=by omega
    subst e;rw[zct,B6] at ae;cases ae;rw[zb8] at a8;subst a8;exact .inl ⟨ok.stop _ P H2 s2.del (zag _),λ D0 hn=>h.J4 (s1.trans s2) bE D0 hn⟩
theorem DK {scope:Scope}{NB:List Str}{ifs:List Expr}{elt:Expr}{fe:Aj->M D}(μ:List (Option Nat))(hc:X.calm=true)(hi:DI X WX tg iter fi)(av:GZ scope X.env.scope=true)(aY:Qm X.N NB scope μ=true)(hg:tT X scope NB μ tg gt)
 (ht:∀s H C ex,tU (blockOf X s H scope C NB ex) ifs ft) (he:∀s H C ex,DE (blockOf X s H scope C NB ex) (λ _ _=>False) true elt fe) (hs:∀x,foldedSetIterable iter X.env x=pure x:=by intro _;rfl):
 DN X WX (.ListComp elt [⟨tg,iter,ifs,0⟩] scope pos) (λ ρ=>(fi ρ).bind λ ds=>if ds.length<=1000 then GJ (B6 gt ft fe ds (Ba μ ρ)) else .bad):=by
 obtain⟨wi,i1,i2⟩:=hi;obtain⟨gg,g1,gk,g2⟩:=hg;refine⟨_,X8 hc i1 av aY gk (λ s H C ex=>⟨g1 s H C ex,(za1 (ht s H C ex)).1,(za1 (he s H C ex)).1⟩) hs,λ P0 P σ H Q ρ E h=>?_⟩;exact dX i2 g2 (λ s H' C ex P0 P σ H Q ρ E h=>(za1 (ht s H' C ex)).2 P0 P σ H Q ρ E h) (λ s H' C ex P0 P σ H Q ρ E h=>(za1 (he s H' C ex)).2 P0 P σ H Q ρ E h) E h
theorem dY {scope:Scope}{NB:List Str}{ifs:List Expr}{elt:Expr}{fe:Aj->M D}(i:Nat){x:Str}{px ay:Pos}(μ:List (Option Nat))(hN:X.N.Nodup)(jf:X.N[i]?=some x)(hx:Loc X.env.scope x)(hc:X.calm=true)(hi:DI X WX tg iter fi)(av:GZ scope X.env.scope=true)(aY:Qm X.N NB scope μ=true)(hg:tT X scope NB μ tg gt)
 (ht:∀s H C ex,tU (blockOf X s H scope C NB ex) ifs ft) (he:∀s H C ex,DE (blockOf X s H scope C NB ex) (λ _ _=>False) true elt fe)
 (bn:swapsWith (.ListComp elt [⟨tg,iter,ifs,0⟩] scope pos) (some (.Name x px)) ay.line X.env=pure true:=by rfl) (hs:∀x,foldedSetIterable iter X.env x=pure x:=by intro _;rfl) (hf:X.fn x=true\/X.env.scope.names.lookup x=some .local:=by first|exact .inl rfl|exact .inr rfl|assumption):
 DS X WX (.Assign [.Name x px] (.ListComp elt [⟨tg,iter,ifs,0⟩] scope pos) ay) (λ ρ=>(Vl ((fi (FJ ρ)).bind λ ds=>if ds.length<=1000 then GJ (B6 gt ft fe ds (Ba μ (FJ ρ))) else .bad)).bind (Sh i ρ)):=by
 obtain⟨wi,i1,i2⟩:=hi;obtain⟨gg,g1,gk,g2⟩:=hg;refine⟨_,X9 hN jf hx hc i1 av aY gk (λ s H C ex=>⟨g1 s H C ex,(za1 (ht s H C ex)).1,(za1 (he s H C ex)).1⟩) bn hs hf,λ P0 P σ H Z ρ E h=>?_⟩;refine dX (P0:=P0) (P:=P0) i2 g2 (λ s H' C ex P0 P σ H Q ρ E h=>(za1 (ht s H' C ex)).2 P0 P σ H Q ρ E h) (λ s H' C ex P0 P σ H Q ρ E h=>(za1 (he s H' C ex)).2 P0 P σ H Q ρ E h) E.low ?_;dsimp only at h;revert h;cases ((fi (FJ ρ)).bind λ ds=>if ds.length<=1000 then GJ (B6 gt ft fe ds (Ba μ (FJ ρ))) else .bad) with
 |bad=>exact λ h=>h
 |ex y=>exact λ h H' s=>h H' P (E.tr s)
 |ok t =>
  unfold Vl;simp only[M.Ad];by_cases hf:Hy t=true
  ·rw[if_pos hf];exact λ h v fp H' s hn nd o=>nV E s hn nd (o.clean (JE (E.same s).Cr o) hf) h
  ·rw[if_neg hf];exact λ h=>h.elim
end
def aaj (K:za0)(WX:Str->Hp->Prop)(P:Addr->Prop)(p:Addr)(fp:List Addr)(H:Hp)(Q:VK):M (OT×OT)->Prop
 | .ok (t,r)=>∀v H' P' ag fr,(∀a,P a->a∉fp->P' a/\H' a=H a)->(∀a,P' a->F7 H' a)->Ak (del H P) (del H' P')->C1 K H' P' (.ref p) t ag->ag.Nodup->C1 K H' P' v r fr->fr.Nodup->(∀a∈fr,a∉ag)->
  (∀a∈ag,P' a/\(P a->a∈fp))->(∀a∈fr,P' a/\(P a->a∈fp))->Q v H'
 | .ex _| .bad=>False
noncomputable def R9 (K:za0)(n:Nat)(F:OT->List D->M (OT×OT)):Sp:=λ vs H Q E=>vs.length=n/\∃P p t fp rest ao,vs=.ref p::rest/\(∀a,P a->F7 H a)/\(∀a∈fp,P a)/\fp.Nodup/\C1 K H P (.ref p) t fp/\Al K (del H P) rest ao/\aaj K (EF K E) P p fp H Q (F t ao)
noncomputable def Dh (N:List Str)(t:OT)(ao:List D):Aj:=some (toCl (some 0) t)::(ao.map (λ d=>some (.val d))++zak (N.length-(ao.length+1)) none)
noncomputable def HF (ρ:Aj):Option OT:=match ρ[0]? with
 |some (some c)=>(match treeOf c with|some (some 0,t)=>some t|_=>none)
 |_=>none
noncomputable def EL (m:M Out):M (OT×OT):=match m with
 | .ok (.next ρ)=>(match HF ρ with|some t=>.ok (t,.sh .AJ)|none=>.bad)
 | .ok (.FE r ρ)=>(match HF ρ with|some t=>.ok (t,r)|none=>.bad)
 |_=>.bad
theorem U3 (p:Option Nat)(t:OT):treeOf (toCl p t)=some (p,t):=by
 unfold toCl;split
 ·rename_i ts;cases q:Ei ts with
  |none=>rfl
  |some ds =>
   have e:=CG q;subst e;cases p<;>rfl
 ·rfl
theorem YU (p:Option Nat)(t:OT):Hj (toCl p t)=true:=by
 unfold toCl;split
 ·rename_i ts;cases q:Ei ts with
  |none=>rfl
  |some ds=>cases p<;>rfl
 ·rfl
theorem Kn {K:za0}{P:Addr->Prop}{H:Hp}{N:List Str}{p:Addr}{t:OT}{fp:List Addr}{rest:List V}{ao:List D}(ht:∀a,P a->F7 H a)(hp:∀a∈fp,P a)(nd:fp.Nodup)(o:C1 K H P (.ref p) t fp)(h:Al K (del H P) rest ao):
 Aq K ⟨λ a=>P a/\a∉fp,λ _=>p⟩ P H (start N (.ref p::rest)) (Dh N t ao):=by
 have hl:=h.length;have key:∀(i:Nat) (c:Cl),(ao.map (λ d=>some (Cl.val d))++zak (N.length-(ao.length+1)) none)[i]?=some (some c)->∃d,ao[i]?=some d/\c=.val d:=λ i c e=>by
  by_cases hi:i<ao.length
  ·rw[zc8 (by simpa using hi),zam] at e;cases q:ao[i]? with
   |none=>rw[q] at e;cases e
   |some d=>rw[q] at e;cases e;exact⟨d,rfl,rfl⟩
  ·rw[zd6 (by simpa using hi),zcg] at e;split at e<;>cases e
 have uu:(start N (.ref p::rest))[0]?=some (some (.ref p)):=by unfold start;rfl
 refine⟨λ a h=>h.1,ht,λ i d e=>?_,λ i c e io=>?_,λ i j c c' v v' fp ag e1 e2 _ _ o1 o2 ad=>?_,?_,λ i c n e wz=>?_⟩
 rotate_left 4
 ·cases i with
  |zero=>exact uu
  |succ i =>
   obtain⟨d',q,z⟩:=key i _ (by unfold Dh at e;simpa using e);cases z;cases wz
 ·cases i with
  |zero =>
   have e':some (toCl (some 0) t)=some (.val d):=by simpa [Dh] using e
   have:=YU (some 0) t;rw[zas e'] at this;cases this
  |succ i =>
   obtain⟨d',q,z⟩:=key i _ (by unfold Dh at e;simpa using e);cases z;obtain⟨v,hv,hd⟩:=h.get q;refine⟨v,?_,hd⟩;unfold start;rw[za5,zda,zau,zc8 (by rw[za2];exact (zai.mp hv).1),zam,hv];rfl
 ·cases i with
  |zero =>
   have e':toCl (some 0) t=c:=by simpa [Dh] using e
   subst e';exact⟨_,fp,uu,D5.toCl o,λ a ha=>⟨hp a ha,λ z=>z.2 ha⟩,nd⟩
  |succ i =>
   obtain⟨d',q,z⟩:=key i _ (by unfold Dh at e;simpa using e);cases z;cases io
 ·cases i with
  |zero =>
   cases j with
   |zero=>exact (ad rfl).elim
   |succ j =>
    obtain⟨d',q,z⟩:=key j _ (by unfold Dh at e2;simpa using e2);cases z;exact o2.elim
  |succ i =>
   obtain⟨d',q,z⟩:=key i _ (by unfold Dh at e1;simpa using e1);cases z;exact o1.elim
 ·unfold start Dh;simp[hl]
section
variable {P:Program}{w:World}{K:za0}{mg:Str->Option Value}{base:Heap}
theorem Nx {P0:E8}{P':Addr->Prop}{H':Hp}{σ':St}{ρ:Aj}{t:OT}(E:Aq K P0 P' H' σ' ρ)(h:HF ρ=some t):∃c ag,ρ[0]?=some (some c)/\σ'[0]?=some (some (.ref (P0.g 0)))/\D5 K H' P' c (.ref (P0.g 0)) ag/\C1 K H' P' (.ref (P0.g 0)) t ag/\ag.Nodup/\∀a∈ag,P' a/\¬ P0 a:=by
 unfold HF at h;split at h
 ·rename_i c e;split at h
  ·rename_i t' e2;cases h;have io:Hj c=true:=by cases c<;>first|rfl|cases e2
   obtain⟨v,fp,k1,k2,k3,k4⟩:=E.ows 0 c e io;have:=E.pin 0 c 0 e (JF e2);rw[k1] at this;cases this;exact⟨c,fp,e,k1,k2,k2.toT e2,k4,k3⟩
  ·cases h
 ·cases h
theorem rP {x qual:Str}{st:Stmt}{f:Addr}{fd:FuncData}{N ps:List Str}{k:Nat}(F:ZO K x qual st f fd)(S:Ai N ps (A8 st))(g:Aj->M Out)
 (hb:∀(B5:Value) (A:Around) (outer:List Env) (s:Shared) (H:Hp) (E:XK),BU k (A.deeper (envOfC qual (A8 st) s.heap.objs.size f B5))->Vk (nT P w K mg base N qual (A8 st) f B5 A outer s H E) (EF K E) (AU st) g):
 E7 P w K mg base (YG P w base) (k+1) f fd ps (R9 K ps.length λ t ao=>EL (g (Dh N t ao))):=by
 obtain⟨oc,od,kV,doc,pm,an,B5,ct,Vj,rfl,lk,aT⟩:=F.ex;refine X2 lk aT S (λ vs H Q E h=>h.1) λ A outer s H vs Q E hr h=>?_;obtain⟨hl,P',p,t,fp,rest,ao,rfl,ht,hp,nd,ho,hv,hq⟩:=h;obtain⟨tt,h1,h2⟩:=hb B5 A outer s H E hr;refine⟨tt,h1,h2 ⟨λ a=>P' a/\a∉fp,λ _=>p⟩ P' _ H _ _ (Kn ht hp nd ho hv) ?_⟩;dsimp only at hq;revert hq;cases g (Dh N t ao) with
 |bad|ex x=>exact λ h=>h.elim
 |ok o =>
  have sub:∀ {P2:Addr->Prop} {H2:Hp} {σ2:St} {ρ:Aj},Aq K ⟨λ a=>P' a/\a∉fp,λ _=>p⟩ P2 H2 σ2 ρ->∀a,P2 a/\¬ (P' a/\a∉fp)->P2 a/\(P' a->a∈fp):=λ E a ha=>⟨ha.1,λ z=>zd2 λ w=>ha.2 ⟨z,w⟩⟩;cases o with
  |ret d|D1 d=>exact λ h=>h.elim
  |next ρ =>
   intro hq σ' H' P2 t2 E2;unfold EL at hq;dsimp only at hq;split at hq
   ·rename_i t' e;obtain⟨c,ag,k1,k2,k3,k4,k5,k6⟩:=Nx E2 e;exact hq .AJ H' P2 ag [] (λ a ha hn=>⟨E2.sub a ⟨ha,hn⟩,t2.2 a ⟨ha,hn⟩⟩) E2.Cr t2.1 k4 k5 (.sh .AJ) zbz (λ a ha=>by cases ha) (λ a ha=>sub E2 a (k6 a ha)) (λ a ha=>by cases ha)
   ·exact hq.elim
  |FE r ρ =>
   intro hq v fr σ' H' P2 t2 E2 o2 aP hf;unfold EL at hq;dsimp only at hq;split at hq
   ·rename_i t' e;obtain⟨c,ag,k1,k2,k3,k4,k5,k6⟩:=Nx E2 e;exact hq v H' P2 ag fr (λ a ha hn=>⟨E2.sub a ⟨ha,hn⟩,t2.2 a ⟨ha,hn⟩⟩) E2.Cr t2.1 k4 k5 o2 aP (λ a ha=>(hf a ha).2.2 0 c _ ag k1 k2 k3) (λ a ha=>sub E2 a (k6 a ha)) (λ a ha=>sub E2 a ⟨(hf a ha).1,(hf a ha).2.1⟩)
   ·exact hq.elim
  |brk ρ|cont ρ=>exact λ h=>h.elim
end
structure Ra (P:Program)(w:World)(K:za0)(mg:Str->Option Value)(base:Heap)(x:Str)(k n:Nat)(F:OT->List D->M (OT×OT)):Prop where
 ex:∃fa fd ps,E7 P w K mg base (YG P w base) k fa fd ps (R9 K n F)/\mg x=some (.ref fa)/\zbj K (.ref fa)=true/\Binds K fd ps []
theorem U4 {P:Program}{w:World}{K:za0}{mg:Str->Option Value}{base:Heap}{x:Str}{st:Stmt}{N ps:List Str}{k n:Nat}(T:AI K mg x st ps)(S:Ai N ps (A8 st))(g:Aj->M Out)
 (hb:∀(f:Addr) (B5:Value) (A:Around) (outer:List Env) (s:Shared) (H:Hp) (E:XK),BU k (A.deeper (envOfC x (A8 st) s.heap.objs.size f B5))->Vk (nT P w K mg base N x (A8 st) f B5 A outer s H E) (EF K E) (AU st) g) (hn:ps.length=n:=by rfl):
 Ra P w K mg base x (k+1) n (λ t ao=>EL (g (Dh N t ao))):=by
 obtain⟨f,fd,F,hm,hB⟩:=T.ex;subst hn;exact⟨⟨f,fd,ps,rP F S g (hb f),hm,F.kp,hB⟩⟩
section
variable {X:Cx}{WX:Str->Hp->Prop}{c:Bool}{P0:E8}{P:Addr->Prop}{H:Hp}{σ:St}{ρ:Aj}{a b e:Expr}{f g:Aj->M D}{fn:Aj->M OT}{fp:Aj->M (List Nat)}{pos:Pos}{i:Nat}{es:List Expr}{fs:Aj->M (List D)}
theorem Aq.new {K:za0}{P':Addr->Prop}{H':Hp}(E:Aq K P0 P H σ ρ)(s:Ak H H')(sm:Ak (del H P) (del H' P')){a:Addr}(hn:H a=none):∀(j:Nat) c v fq,ρ[j]?=some (some c)->σ[j]?=some (some v)->D5 K H' P' c v fq->a∉fq:=λ j c v fq h1 h2 h3 ha=>by
 have io:Hj c=true:=by cases c<;>first|rfl|exact h3.elim
 obtain⟨w,fr,k1,k2,k3,k4⟩:=E.ows j c h1 io;rw[h2] at k1;cases k1;have m:=k2.move sm λ b hb=>by obtain⟨o,q⟩:=k2.at b hb;rw[q];exact s _ _ q
 rw[h3.Cd m] at ha;obtain⟨o,q⟩:=k2.at a ha;rw[hn] at q;cases q
theorem Aq.wR {K:za0}{P':Addr->Prop}{H':Hp}{π:List Nat}{v1 v2:V}{t1 u r:OT}{au fu fr:List Addr}(E:Aq K P0 P H σ ρ)(pl:Bo K P H σ ρ i π v1 t1)(o:C1 K H P v1 t1 au)(hs:∀a,P a->a∉au->P' a/\H' a=H a)(ht:∀a,P' a->F7 H' a)(sm:Ak (del H P) (del H' P'))
 (o':C1 K H' P' v1 u fu) (nd:fu.Nodup) (hf:∀a∈fu,P' a/\(P a->a∈au)) (or:C1 K H' P' v2 r fr) (ndr:fr.Nodup) (hr:∀a∈fr,P' a/\(P a->a∈au)) (dj:∀a∈fr,a∉fu):
 ∃c p t,ρ[i]?=some (some c)/\treeOf c=some (p,t)/\Aq K P0 P' H' σ (ρ.set i (some (toCl p (EH t π u))))/\Tr P0 P H P' H'/\
  ∀a∈fr,P' a/\¬ P0 a/\∀(j:Nat) c' v fq,(ρ.set i (some (toCl p (EH t π u))))[j]?=some (some c')->σ[j]?=some (some v)->D5 K H' P' c' v fq->a∉fq:=by
 obtain⟨v0,c,p,t,h1,h2,h3,h4⟩:=pl.ex;have io:Hj c=true:=by cases c<;>first|rfl|cases h2
 obtain⟨w,fp,k1,k2,k3,k4⟩:=E.ows i c h1 io;rw[h3] at k1;cases k1;have ot:=k2.toT h2;obtain⟨fz,oz,kz,_⟩:=ot.part h4;have:=oz.Cd o;subst this;obtain⟨ag,q1,q2,q3⟩:=ot.put sm h4 o o' (λ a ha hn=>(hs a (k3 a ha).1 hn).2) k4 nd (λ a ha hb=>(hf a ha).2 (k3 a hb).1);have uv:∀(j:Nat) c' v' fq,i≠j->ρ[j]?=some (some c')->σ[j]?=some (some v')->D5 K H P c' v' fq->∀a∈fq,P a/\a∉fp:=λ j c' v' fq ad g1 g2 g3 a ha=>by
  have jo:Hj c'=true:=by cases c'<;>first|rfl|exact g3.elim
  obtain⟨w',qg,m1,m2,m3,m4⟩:=E.ows j c' g1 jo;rw[g2] at m1;cases m1;have:=m2.Cd g3;subst this;exact⟨(m3 a ha).1,E.apart j i c' c v' v0 qg fp g1 h1 g2 h3 g3 k2 (zbi ad) a ha⟩
 have key:=E.wD (P':=P') (H':=H') (i:=i) (v:=v0) (c:=toCl p (EH t π u)) (fp:=ag) (λ a ha=>(hs a (E.sub a ha) λ z=>(k3 a (kz a z)).2 ha).1) ht sm (λ j c' v' fq ad g1 g2 g3 a ha=>?_) (D5.toCl q1) (λ a ha=>?_) q2 (λ n z=>by rw[Gh] at z;subst z;have:=E.pin i c n h1 (JF h2);rw[h3] at this;cases this;rfl)
 ·rw[Sa h3] at key;refine⟨c,p,t,h1,h2,key,⟨sm,λ a ha=>(hs a (E.sub a ha) λ z=>(k3 a (kz a z)).2 ha).2⟩,λ a ha=>⟨(hr a ha).1,λ z=>(k3 a (kz a ((hr a ha).2 (E.sub a z)))).2 z,λ j c' v fq g1 g2 g3 hb=>?_⟩⟩;rcases get_set g1 with ⟨rfl,hl,z⟩|⟨ad,g1⟩
  ·cases z;rw[h3] at g2;cases g2;rw[g3.Cd (D5.toCl q1)] at hb;rcases q3 a hb with y|y
   ·exact dj a ha y
   ·exact y.2 ((hr a ha).2 (k3 a y.1).1)
  ·have jo:Hj c'=true:=by cases c'<;>first|rfl|exact g3.elim
   obtain⟨w',qg,m1,m2,m3,m4⟩:=E.ows j c' g1 jo;rw[g2] at m1;cases m1;have o2:=uv j c' v qg ad g1 g2 m2;have mv:=m2.move sm λ b ax=>(hs b (o2 b ax).1 λ z=>(o2 b ax).2 (kz b z)).2;rw[g3.Cd mv] at hb;exact (o2 a hb).2 (kz a ((hr a ha).2 (o2 a hb).1))
 ·have o2:=uv j c' v' fq ad g1 g2 g3 a ha;have hk:=hs a o2.1 λ z=>o2.2 (kz a z);refine⟨hk.2,λ z=>?_,hk.1⟩;rcases q3 a z with y|y
  ·exact o2.2 (kz a ((hf a y).2 o2.1))
  ·exact o2.2 y.1
 ·rcases q3 a ha with y|y
  ·exact⟨(hf a y).1,λ z=>(k3 a (kz a ((hf a y).2 (E.sub a z)))).2 z⟩
  ·exact⟨(hs a (k3 a y.1).1 y.2).1,(k3 a y.1).2⟩
end
noncomputable def Ha (i:Nat)(ρ:Aj)(π:List Nat)(u:OT):M Out:=match ρ[i]? with
 |some (some c)=>(match treeOf c with|some (p,t)=>.ok (.next (ρ.set i (some (toCl p (EH t π u)))))|none=>.bad)
 |_=>.bad
noncomputable def EM (i:Nat)(ρ:Aj)(π:List Nat):M (List OT):=match Vm i ρ π with | some (.lst ts)=>.ok ts | _=>.bad
theorem IH {i:Nat}{ρ:Aj}{π:List Nat}{u:OT}{c:Cl}{p:Option Nat}{t:OT}(h:ρ[i]?=some (some c))(ht:treeOf c=some (p,t)):Ha i ρ π u=.ok (.next (ρ.set i (some (toCl p (EH t π u))))):=by
 unfold Ha;simp only[h,ht]
theorem AB.append {K:za0}{H:Hp}{P:Addr->Prop}:∀ {xs ys:List V}{ts us:List OT}{fp fq:List Addr},AB K H P xs ts fp->AB K H P ys us fq->AB K H P (xs++ys) (ts++us) (fp++fq)
 |_,_,_,_,_,_,.nil,h=>h
 |_,_,_,_,_,_,.cons a t,h=>by rw[zbk];exact .cons a (t.append h)
section
variable {X:Cx}{WX:Str->Hp->Prop}{c:Bool}{P0:E8}{P:Addr->Prop}{H:Hp}{σ:St}{ρ:Aj}{a b e:Expr}{f g:Aj->M D}{fn:Aj->M OT}{fp:Aj->M (List Nat)}{pos:Pos}{i:Nat}{es:List Expr}{fs:Aj->M (List D)}
theorem Bo.lst {K:za0}{π:List Nat}{v:V}{t1:OT}{ts:List OT}(pl:Bo K P H σ ρ i π v t1)(E:Aq K P0 P H σ ρ)(h:EM i ρ π=.ok ts):t1=.lst ts/\∃l xs fq,v=.ref l/\H l=some (.lst xs)/\AB K H P xs ts fq/\l∉fq/\fq.Nodup:=by
 unfold EM at h;rw[pl.at] at h;split at h
 ·rename_i qh e;cases e;cases h;obtain⟨au,o1,hp,nd⟩:=pl.own E;cases o1 with
  |lst hh hr=>exact⟨rfl,_,_,_,rfl,hh,hr,(zbe.mp nd).1,(zbe.mp nd).2⟩
 ·cases h
theorem dZ (ha:DP X WX a i fp)(he:DN X WX e fn){apos ac:Pos}(hs:starEach [e] X.env=[(false,eval e X.env)]:=by rfl)
 (bn:swapsWith (.Call (.Attribute a "append" apos) [e] [] ac) none pos.line X.env=pure false:=by rfl)
 (aj:attributeBase a "append" X.env (eval a X.env)=eval a X.env:=by rfl)
 (aE:((backTo ac (starEach [e] X.env)).all (λ x => !x.1)&&(backToKw ac (keywordEach [] X.env)).all (λ x=>x.1.isSome)&&decide (([e]:List Expr).length+([]:List Keyword).length+(if ([]:List Keyword).isEmpty then 0 else 1)<30))=true:=by rfl)
 (ak:(apos.endLine==ac.line)=true:=by rfl) (al:(backTo ac (starEach [] X.env)).any (·.1)=false:=by rfl):
 DS X WX (.Expr (.Call (.Attribute a "append" apos) [e] [] ac) pos) (λ ρ=>(fp ρ).bind λ π=>(EM i ρ π).bind λ ts=>(fn ρ).bind λ t=>if ts.length<1000 then Ha i ρ π (.lst (ts++[t])) else .bad):=by
 obtain⟨ta,a1,a2⟩:=ha;obtain⟨te,e1,e2⟩:=he;refine⟨_,IA (Tu zcc PySem.F.slot_list_append PySem.F.type_list_append QR a1 (Bi e1 Cs hs) aj aE ak hs al) bn,λ P0 P σ H Z ρ E h=>?_⟩;dsimp only at h;refine a2 P0 P σ H _ ρ E ?_;refine iF h E λ π h=>?_;intro v t1 H1 s1 pl;have E1:=E.same s1;cases q1:EM i ρ π with
 |bad=>rw[q1] at h;exact h.elim
 |ex x=>unfold EM at q1;split at q1<;>cases q1
 |ok ts =>
  rw[q1] at h;simp only[M.Ad] at h;obtain⟨rfl,l,xs,fq,rfl,hl,ol,nl,w4⟩:=pl.lst E1 q1;refine⟨.inl ⟨rfl,xs,.of hl⟩,e2 P0 P σ H1 _ ρ E1 ?_⟩;cases q2:fn ρ with
  |bad=>rw[q2] at h;exact h
  |ex y=>rw[q2] at h;exact λ H' s=>h H' P ((E.tr s1).trans (E1.tr s))
  |ok t =>
   rw[q2] at h;simp only[M.Ad] at h;by_cases hz:ts.length<1000
   ·rw[if_pos hz] at h;intro w fw H2 s2 n2 aP o2;have sm:=CB (P:=P) s2 n2;have E2:Aq X.K P0 (PU P fw) H2 σ ρ:=E1.more s2 M8 (JE (E1.same s2).Cr o2) sm;have keep:∀b∈fq,H2 b=H1 b:=λ b hb=>by obtain⟨o,z,_⟩:=ol.Cr b hb;rw[z];exact s2 _ _ z
    have e7:=ol.move sm keep;have aq:=s2 _ _ hl;have dj:∀b∈fq,b∉fw:=λ b hb hc=>(ol.Cr b hb).no (n2 b hc);obtain⟨c,p,t0,g1,g2,E3,t3⟩:=E2.rN (pl.more sm s2) aq e7 (us:=ts++[t]) (ys:=xs++[w]) (e7.append (.cons o2 .nil)) (by rw[zb8];exact zax.mpr ⟨w4,aP,λ b hb d hd z=>dj b hb (by rw[z];exact hd)⟩) (by
     rw[zb8];intro z;rcases zan.mp z with z|z
     ·exact nl z
     ·rw[n2 l z] at hl;cases hl) (by
     intro b hb;rw[zb8] at hb;rcases zan.mp hb with z|z
     ·exact .inl z
     ·exact .inr ⟨.inr z,λ y=>(E1.Cr b (E1.sub b y)).no (n2 b z),E1.new s2 sm (n2 b z)⟩)
    rw[IH g1 g2] at h;exact⟨l,xs,w,rfl,rfl,aq,AG (by rw[ol.len];exact zbr hz),h _ _ _ (((E.tr s1).trans (E1.yJ s2 n2)).trans t3) E3⟩
   ·rw[if_neg hz] at h;exact h.elim
noncomputable def kL {α:Type}(o:Option α):M α:=match o with | some x=>.ok x | none=>.bad
noncomputable def Ta (i:Nat)(ρ:Aj)(π:List Nat):M (List D):=match Vm i ρ π with | some (.lst ts)=>(match Ei ts with | some ds=>.ok ds | none=>.bad) | _=>.bad
theorem Bo.shl {K:za0}{π:List Nat}{v:V}{t1:OT}{ds:List D}(pl:Bo K P H σ ρ i π v t1)(E:Aq K P0 P H σ ρ)(h:Ta i ρ π=.ok ds):t1=.lst (ds.map .sh)/\∃l xs,v=.ref l/\H l=some (.lst xs)/\Al K (del H P) xs ds:=by
 unfold Ta at h;rw[pl.at] at h;split at h
 ·rename_i qh e;split at h
  ·rename_i mh e';cases e;cases h;have z:=CG e';subst z;obtain⟨au,o1,hp,nd⟩:=pl.own E;cases o1 with
   |lst hh hr=>exact⟨rfl,_,_,rfl,hh,hr.rM.2⟩
  ·cases h
 ·cases h
theorem W3 {π:List Nat}{x:Str}(h:Ta i ρ π=.ex x):False:=by
 unfold Ta at h;split at h
 ·split at h<;>cases h
 ·cases h
theorem Aq.wU {K:za0}{π:List Nat}{l:Addr}{xs ys:List V}{ds es:List D}(E:Aq K P0 P H σ ρ)(pl:Bo K P H σ ρ i π (.ref l) (.lst (ds.map .sh)))(hH:H l=some (.lst xs))(o:Al K (del H P) xs ds)(o':Al K (del H P) ys es):
 ∃c p t,ρ[i]?=some (some c)/\treeOf c=some (p,t)/\Aq K P0 P (upd H l (.lst ys)) σ (ρ.set i (some (toCl p (EH t π (.lst (es.map .sh))))))/\Tr P0 P H P (upd H l (.lst ys)):=
 E.rN pl hH o.ows o'.ows zbz (λ z=>by cases z) (λ a ha=>by cases ha)
noncomputable def kM (t:OT):M (List D):=match t with | .lst us=>kL (Ei us) | _=>.bad
theorem W4 (ha:DP X WX a i fp)(he:DN X WX e fn){apos ac:Pos}(hs:starEach [e] X.env=[(false,eval e X.env)]:=by rfl)
 (bn:swapsWith (.Call (.Attribute a "extend" apos) [e] [] ac) none pos.line X.env=pure false:=by rfl)
 (aj:attributeBase a "extend" X.env (eval a X.env)=eval a X.env:=by rfl)
 (aE:((backTo ac (starEach [e] X.env)).all (λ x => !x.1)&&(backToKw ac (keywordEach [] X.env)).all (λ x=>x.1.isSome)&&decide (([e]:List Expr).length+([]:List Keyword).length+(if ([]:List Keyword).isEmpty then 0 else 1)<30))=true:=by rfl)
 (ak:(apos.endLine==ac.line)=true:=by rfl) (al:(backTo ac (starEach [] X.env)).any (·.1)=false:=by rfl):
 DS X WX (.Expr (.Call (.Attribute a "extend" apos) [e] [] ac) pos) (λ ρ=>(fp ρ).bind λ π=>(Ta i ρ π).bind λ ds=>((fn ρ).bind kM).bind λ es=>if ds.length+es.length<=1000 then Ha i ρ π (.lst ((ds++es).map .sh)) else .bad):=by
 obtain⟨ta,a1,a2⟩:=ha;obtain⟨te,e1,e2⟩:=he;refine⟨_,IA (Tu zcc PySem.F.slot_list_extend PySem.F.type_list_extend Yu a1 (Bi e1 Cs hs) aj aE ak hs al) bn,λ P0 P σ H Z ρ E h=>?_⟩;dsimp only at h;refine a2 P0 P σ H _ ρ E ?_;refine iF h E λ π h=>?_;intro v t1 H1 s1 pl;have E1:=E.same s1;cases q1:Ta i ρ π with
 |bad=>rw[q1] at h;exact h.elim
 |ex x=>exact (W3 q1).elim
 |ok ds =>
  rw[q1] at h;simp only[M.Ad] at h;obtain⟨rfl,l,xs,rfl,hl,ol⟩:=pl.shl E1 q1;refine⟨.inl ⟨rfl,xs,.of hl⟩,e2 P0 P σ H1 _ ρ E1 ?_⟩;cases q2:fn ρ with
  |bad=>rw[q2] at h;exact h
  |ex y=>rw[q2] at h;exact λ H' s=>h H' P ((E.tr s1).trans (E1.tr s))
  |ok t =>
   rw[q2] at h;simp only[M.Ad] at h;intro w fw H2 s2 n2 aP o2;have sm:=CB (P:=P) s2 n2;have E2:Aq X.K P0 (PU P fw) H2 σ ρ:=E1.more s2 M8 (JE (E1.same s2).Cr o2) sm;cases t with
   |lst us =>
    simp only[kM] at h;cases q3:Ei us with
    |none=>rw[q3] at h;exact h.elim
    |some es =>
     rw[q3] at h;simp only[kL,M.Ad] at h;have z:=CG q3;subst z;cases o2 with
     |lst hb hr =>
      by_cases hz:ds.length+es.length<=1000
      ·rw[if_pos hz] at h;have he:=hr.rM.2;have e7:=ol.mono sm;have aq:=s2 _ _ hl;obtain⟨c,p,t0,g1,g2,E3,t3⟩:=E2.wU (pl.more sm s2) aq e7 (e7.append he);rw[IH g1 g2] at h;exact⟨l,_,xs,_,rfl,rfl,aq,hb,zbr (AG (by rw[ol.length,he.length];exact hz)),h _ _ _ (((E.tr s1).trans (E1.yJ s2 n2)).trans t3) E3⟩
      ·rw[if_neg hz] at h;exact h.elim
   |_=>exact h.elim
end
def gX (K:za0)(WX:Str->Hp->Prop)(P0:E8)(P:Addr->Prop)(H:Hp)(σ:St)(Q:VK):M (Aj×OT)->Prop
 | .ok (ρ,t)=>∀v fp H' P',Tr P0 P H P' H'->Aq K P0 P' H' σ ρ->C1 K H' P' v t fp->fp.Nodup->(∀a∈fp,P' a/\¬ P0 a/\∀(j:Nat) c v' fq,ρ[j]?=some (some c)->σ[j]?=some (some v')->D5 K H' P' c v' fq->a∉fq)->Q v H'
 | .ex x=>∀H' P',Tr P0 P H P' H'->WX x H'
 | .bad=>False
def DX (X:Cx)(WX:Str->Hp->Prop)(e:Expr)(f:Aj->M (Aj×OT)):Prop:=
 ∃t,PE X e t/\∀P0 P σ H Q ρ,Aq X.K P0 P H σ ρ->gX X.K WX P0 P H σ Q (f ρ)->t σ H Q
noncomputable def eA:OT->Bool
 | .sh _=>false
 |_=>true
noncomputable def U5 (i:Nat)(F:OT->List D->M (OT×OT))(ρ:Aj)(π:List Nat)(ao:List D):M (Aj×OT):=match ρ[i]? with
 |some (some c)=>(match treeOf c with
  |some (p,t)=>(match M7 t π with
   |some t1=>if eA t1=true then (match F t1 ao with | .ok (t2,r)=>.ok (ρ.set i (some (toCl p (EH t π t2))),r)|_=>.bad) else .bad
   |none=>.bad)
  |none=>.bad)
 |_=>.bad
section
variable {X:Cx}{E:XK}{WX:Str->Hp->Prop}{c:Bool}{P0:E8}{P:Addr->Prop}{H:Hp}{σ:St}{ρ:Aj}{a b e:Expr}{f g:Aj->M D}{fn:Aj->M OT}{fx:Aj->M (Aj×OT)}{fp:Aj->M (List Nat)}{pos:Pos}{i:Nat}{es:List Expr}{fs:Aj->M (List D)}
theorem eB {F:OT->List D->M (OT×OT)}{π:List Nat}{ao:List D}{c:Cl}{p:Option Nat}{t t1 t2 r:OT}(h:ρ[i]?=some (some c))(ht:treeOf c=some (p,t))(hs:M7 t π=some t1)(hN:eA t1=true)(hF:F t1 ao=.ok (t2,r)):U5 i F ρ π ao=.ok (ρ.set i (some (toCl p (EH t π t2))),r):=by
 unfold U5;simp only[h,ht,hs,hN,if_true,hF]
theorem eC {k n:Nat}{F:OT->List D->M (OT×OT)}{x:Str}{p:Pos}(xo:Hs X E)(G:Ra X.prog X.w X.K X.mg X.base x k n F)(hr:BU k X.A)(hg:Gl X x)(hp:DP X (EF X.K E) a i fp)(ha:DA X (EF X.K E) true es fs)(hn:es.length+1=n)
 (aN:(x==("__debug__" : Str))=false:=by decide) (he:starEach (a::es) X.env=(false,eval a X.env)::starEach es X.env:=by rfl) (hpl:(backTo pos (starEach es X.env)).any (·.1)=false:=by rfl):
 DX X (EF X.K E) (.Call (.Name x p) (a::es) [] pos) (λ ρ=>(fp ρ).bind λ π=>(fs ρ).bind λ ao=>U5 i F ρ π ao):=by
 obtain⟨fa,fd,ps,hF,hm,hk,hb⟩:=G.ex;obtain⟨tp,p1,p2⟩:=hp;obtain⟨ta,a1,a2,a3⟩:=ha;refine⟨_,X0 hF hr hg hm hk hb .nil xo.call (Bi p1 a1 he) aN he hpl,λ P0 P σ H Q ρ Ev h=>?_⟩;dsimp only at h;refine p2 P0 P σ H _ ρ Ev ?_;cases q:fp ρ with
 |bad=>rw[q] at h;exact h
 |ex x=>rw[q] at h;exact λ H' s=>h H' P (Ev.tr s)
 |ok π =>
  rw[q] at h;simp only[M.Ad] at h;intro v t1 H1 s1 pl;have E1:=Ev.same s1;refine a2 P0 P σ H1 _ ρ E1 ?_;cases q2:fs ρ with
  |bad=>rw[q2] at h;exact h
  |ex y=>rw[q2] at h;exact λ H' s=>h H' P ((Ev.tr s1).trans (E1.tr s))
  |ok ao =>
   rw[q2] at h;simp only[M.Ad] at h;intro vs H2 s2 a7;have E2:=E1.same s2;have di:=pl.same s2;show R9 X.K n F ((v::vs)++[]) H2 Q E;rw[zb8];obtain⟨v0,c,pp,t,g1,g2,g3,g4⟩:=di.ex;unfold U5 at h;simp only[g1,g2,g4.sub] at h;by_cases hx:eA t1=true
   ·rw[if_pos hx] at h;obtain⟨au,o1,w5,gp⟩:=di.own E2;have jp:∃l,v=.ref l:=by
     cases o1 with
     |sh hv=>exact absurd hx (by simp[eA])
     |lst _ _|tup _ _|dK _ _|dT _ _|ins _ _ _=>exact⟨_,rfl⟩
    obtain⟨l,rfl⟩:=jp;refine⟨by rw[za9,a7.length,a3 ρ ao q2];exact hn,P,l,t1,au,vs,ao,rfl,E2.Cr,λ b hb=>(w5 b hb).1,gp,o1,a7,?_⟩;cases qF:F t1 ao with
    |bad|ex x=>rw[qF] at h;exact h.elim
    |ok z =>
    obtain⟨t2,r⟩:=z;rw[qF] at h;intro w H' P' fu fr k1 k2 k3 k4 k5 k6 k7 k8 k9 qi;obtain⟨c',p',t',m1,m2,m3,m4,m5⟩:=E2.wR di o1 k1 k2 k3 k4 k5 k9 k6 k7 qi k8;rw[g1] at m1;cases m1;rw[g2] at m2;cases m2;exact h w fr H' P' (((Ev.tr s1).trans (E1.tr s2)).trans m4) m3 k6 k7 m5
   ·rw[if_neg hx] at h;exact h.elim
theorem OD (he:DX X WX e fx)(hs:swapsWith e none pos.line X.env=pure false:=by rfl):DS X WX (.Expr e pos) (λ ρ=>(fx ρ).bind λ z=>.ok (.next z.1)):=by
 obtain⟨te,e1,e2⟩:=he;refine⟨_,IA e1 hs,λ P0 P σ H Z ρ E h=>?_⟩;dsimp only at h;refine e2 P0 P σ H _ ρ E ?_;cases q:fx ρ with
 |bad|ex x=>rw[q] at h;exact h
 |ok z=>rw[q] at h;exact λ v fp H' P' t E' o nd hf=>h σ H' P' t E'
theorem kN (j:Nat){x:Str}{pos':Pos}(hN:X.N.Nodup)(hi:X.N[j]?=some x)(hx:Loc X.env.scope x)(he:DX X WX e fx)(hs:swapsWith e (some (.Name x pos')) pos.line X.env=pure false:=by rfl)(hf:X.fn x=true\/X.env.scope.names.lookup x=some .local:=by first | exact .inl rfl | exact .inr rfl | assumption):
 DS X WX (.Assign [.Name x pos'] e pos) (λ ρ=>(fx ρ).bind λ z=>Sh j z.1 z.2):=by
 obtain⟨te,e1,e2⟩:=he;refine⟨_,Vq hN hi hx e1 hs hf,λ P0 P σ H Z ρ E h=>?_⟩;dsimp only at h;refine e2 P0 P σ H _ ρ E ?_;refine YB h λ z h=>?_;intro v fp H' P' tr E' o nd hf;have h':=h.tr tr;have key:gS X.K WX P0 P' H' Z (.ok (.next (z.1.set j (some (toCl none z.2)))))->Z.nx (σ.set j (some v)) H':=λ h=>by
  refine h _ H' P' Tr.refl (E'.jV (λ _ h=>h) E'.Cr (Ak.refl _) (λ k c' v' ag ad g1 g2 g3 b hb=>⟨rfl,λ w=>(hf b w).2.2 k c' v' ag g1 g2 g3 hb⟩) (D5.toCl o) (λ b hb=>⟨(hf b hb).1,(hf b hb).2.1⟩) nd (λ n z=>by rw[Gh] at z;cases z))
 obtain⟨ρ1,u⟩:=z;cases u with
 |sh d =>
  cases o with
  |sh hv=>exact h' _ H' P' Tr.refl (E'.VR hv)
 |lst ts|tup ts|BB b ks ts|ins x ns ts=>exact key h'
end
noncomputable def GL (i:Nat)(ρ:Aj)(π:List Nat):M (Bool×List D×List D):=match Vm i ρ π with
 |some (.BB b ks ts)=>(match Ei ts with|some vs=>.ok (b,ks,vs)|none=>.bad)
 |_=>.bad
noncomputable def putD (ks vs:List D)(k v:D):List D×List D:=if N9 ks k=true then (ks,JG ks vs k v) else (ks++[k],vs++[v])
section
variable {X:Cx}{E:XK}{WX:Str->Hp->Prop}{c:Bool}{P0:E8}{P:Addr->Prop}{H:Hp}{σ:St}{ρ:Aj}{a b e:Expr}{f g:Aj->M D}{fn:Aj->M OT}{fx:Aj->M (Aj×OT)}{fp:Aj->M (List Nat)}{pos:Pos}{i:Nat}{es:List Expr}{fs:Aj->M (List D)}
theorem Bo.BB {K:za0}{π:List Nat}{v:V}{t1:OT}{bl:Bool}{ks vs:List D}(pl:Bo K P H σ ρ i π v t1)(E:Aq K P0 P H σ ρ)(h:GL i ρ π=.ok (bl,ks,vs)):t1=.BB bl ks (vs.map .sh)/\∃l xs,v=.ref l/\P l/\Al K (del H P) xs vs/\C1 K H P (.ref l) (.BB bl ks (vs.map .sh)) [l]/\
 ((bl=false/\∃kvs,H l=some (.dK kvs)/\ks=(kvs.map λ kv=>Cy kv.1)/\xs=kvs.map zbt)\/(bl=true/\∃kvs,H l=some (.dT kvs)/\ks=(kvs.map λ kv=>.tup (kv.1.map Cy))/\xs=kvs.map zbt)):=by
 unfold GL at h;rw[pl.at] at h;split at h
 ·rename_i b' wy qh e;split at h
  ·rename_i aB e';cases e;cases h;have z:=CG e';subst z;obtain⟨au,o1,hp,nd⟩:=pl.own E;generalize ht:OT.BB bl ks (vs.map .sh)=t at o1;cases o1 with
   |dK hh hr =>
    injection ht with h1 h2 h3
    subst h1 h2 h3;obtain⟨rfl,hs⟩:=hr.rM;exact⟨rfl,_,_,rfl,(hp _ za3).1,hs,.dK hh hr,.inl ⟨rfl,_,hh,rfl,rfl⟩⟩
   |dT hh hr =>
    injection ht with h1 h2 h3
    subst h1 h2 h3;obtain⟨rfl,hs⟩:=hr.rM;exact⟨rfl,_,_,rfl,(hp _ za3).1,hs,.dT hh hr,.inr ⟨rfl,_,hh,rfl,rfl⟩⟩
   |_=>cases ht
  ·cases h
 ·cases h
theorem eE {π:List Nat}{x:Str}(h:GL i ρ π=.ex x):False:=by
 unfold GL at h;split at h
 ·split at h<;>cases h
 ·cases h
theorem Aq.rQ {K:za0}{π:List Nat}{l:Addr}{t1 u:OT}{o':HO}(E:Aq K P0 P H σ ρ)(pl:Bo K P H σ ρ i π (.ref l) t1)(ot:C1 K H P (.ref l) t1 [l])(hn:∀xs,o'≠.tup xs/\∀z,o'≠.GD z (.tup xs))(new:Ak (del H P) (del (upd H l o') P)->C1 K (upd H l o') P (.ref l) u [l]):
 ∃c p t,ρ[i]?=some (some c)/\treeOf c=some (p,t)/\Aq K P0 P (upd H l o') σ (ρ.set i (some (toCl p (EH t π u))))/\Tr P0 P H P (upd H l o'):=by
 obtain⟨au,o1,hp,_⟩:=pl.own E;have:=o1.Cd ot;subst this;have pP:P l:=(hp l za3).1;have sd:del (upd H l o') P=del H P:=by
  funext b;by_cases hb:P b
  ·rw[Ga hb,Ga hb]
  ·rw[Az hb,Az hb,Ah (λ z=>hb (by rw[z];exact pP))]
 have sm:Ak (del H P) (del (upd H l o') P):=by rw[sd];exact Ak.refl _
 refine E.wO pl ot (λ _ h=>h) (λ a h=>?_) sm (λ a ha hn=>Ah λ z=>hn (by rw[z];exact za3)) (new sm) (by simp) (λ a ha=>.inl ha);by_cases ha:a=l
 ·subst ha;exact⟨_,Ap,hn⟩
 ·unfold F7;rw[Ah ha];exact E.Cr a h
theorem Ny {n:Nat}(hu:X.A.units+n<cLine)(ha:DP X WX a i fp)(hk:DE X WX true b g)(hv:DE X WX true e f){pos':Pos}(hs:swapsWith e (some (.Subscript a b pos')) pos.line X.env=pure false:=by rfl)(hn:1<=n:=by decide):
 DS X WX (.Assign [.Subscript a b pos'] e pos) (λ ρ=>(f ρ).bind λ v=>(fp ρ).bind λ π=>(g ρ).bind λ k=>(GL i ρ π).bind λ z=>if keyOk z.1 k=true/\z.2.1.length<1000 then Ha i ρ π (.BB z.1 (putD z.2.1 z.2.2 k v).1 ((putD z.2.1 z.2.2 k v).2.map .sh)) else .bad):=by
 obtain⟨ta,a1,a2⟩:=ha;obtain⟨tk,k1,k2⟩:=hk;obtain⟨tv,v1,v2⟩:=hv;refine⟨_,jK (by omega) a1 k1 v1 hs,λ P0 P σ H Z ρ E h=>?_⟩;dsimp only at h;refine v2 P0 P σ H _ ρ E ?_;refine iF h E λ d h=>?_;intro w H0 s0 hw;have E0:=E.same s0;refine a2 P0 P σ H0 _ ρ E0 ?_;cases q:fp ρ with
 |bad=>rw[q] at h;exact h
 |ex x=>rw[q] at h;exact λ H' s=>h H' P ((E.tr s0).trans (E0.tr s))
 |ok π =>
  rw[q] at h;simp only[M.Ad] at h;intro v t1 H1 s1 pl;have E1:=E0.same s1;refine k2 P0 P σ H1 _ ρ E1 ?_;cases q2:g ρ with
  |bad=>rw[q2] at h;exact h
  |ex y=>rw[q2] at h;exact λ H' s=>h H' P (((E.tr s0).trans (E0.tr s1)).trans (E1.tr s))
  |ok k =>
   rw[q2] at h;simp only[M.Ad] at h;intro y H2 s2 hy;have E2:=E1.same s2;have di:=pl.same s2;have ml:=(hw.mono s1.del).mono s2.del;have uw:=((E.tr s0).trans (E0.tr s1)).trans (E1.tr s2);cases q3:GL i ρ π with
   |bad=>rw[q3] at h;exact h.elim
   |ex x=>exact (eE q3).elim
   |ok z =>
    obtain⟨bb,ks,vs⟩:=z;rw[q3] at h;simp only[M.Ad] at h;by_cases hc:keyOk bb k=true/\ks.length<1000
    ·rw[if_pos hc] at h;obtain⟨rfl,l,xs,rfl,hP,c7,ot,jq⟩:=di.BB E2 q3;have hK:=EK hc.1;rcases jq with ⟨rfl,kvs,hH,rfl,rfl⟩|⟨rfl,kvs,hH,rfl,rfl⟩
     ·cases hK with
      |k κ =>
       have ey:=hy.kH;refine⟨l,_,rfl,.inl ⟨kvs,κ,hH,ey,AG (by have:=hc.2;rw[za2] at this;omega),rfl⟩,?_⟩;have aO:∃aB,(putD (kvs.map λ kv=>Cy kv.1) vs (Cy κ) d)=((putK kvs κ w).map (λ kv=>Cy kv.1),aB)/\Al X.K (del H2 P) ((putK kvs κ w).map zbt) aB:=by
        unfold putD putK;rw[Kk HA];by_cases hh:(kvs.any λ kv=>decide (kv.1=κ))=true
        ·rw[if_pos hh,if_pos hh];refine⟨_,by rw[HC (fk:=Cy) HA],?_⟩;rw[<-HB (fk:=Cy) HA];exact HE ml c7
        ·rw[if_neg hh,if_neg hh];refine⟨_,by rw[zay];rfl,?_⟩;rw[zay];exact c7.snoc ml
       obtain⟨aB,e1,e2⟩:=aO;obtain⟨c,p,t0,g1,g2,E3,t3⟩:=E2.rQ (o':=.dK (putK kvs κ w)) (u:=.BB false ((putK kvs κ w).map λ kv=>Cy kv.1) (aB.map .sh)) di ot (λ _=>⟨λ z=>(by cases z),λ _ z=>by cases z⟩) (λ mv=>.dK Ap (e2.mono mv).ows);rw[e1,IH g1 g2] at h;exact h _ _ _ (uw.trans t3) E3
     ·cases hK with
      |t κ =>
       cases hy with
       |tup ht aq =>
        have ey:=Al.keys κ aq;subst ey;refine⟨l,_,rfl,.inr ⟨kvs,κ,_,hH,rfl,(Ao ht).2,AG (by have:=hc.2;rw[za2] at this;omega),rfl⟩,?_⟩;have hf:∀a b:List Key,Br (.tup (a.map Cy)) (.tup (b.map Cy))=decide (a=b):=λ a b=>by simp only[Br];exact Nw a b
        have aO:∃aB,(putD (kvs.map λ kv=>.tup (kv.1.map Cy)) vs (.tup (κ.map Cy)) d)=((putK kvs κ w).map (λ kv=>.tup (kv.1.map Cy)),aB)/\Al X.K (del H2 P) ((putK kvs κ w).map zbt) aB:=by
         unfold putD putK;rw[Kk (fk:=λ κ:List Key=>D.tup (κ.map Cy)) hf];by_cases hh:(kvs.any λ kv=>decide (kv.1=κ))=true
         ·rw[if_pos hh,if_pos hh];refine⟨_,by rw[HC (fk:=λ κ:List Key=>D.tup (κ.map Cy)) hf],?_⟩;rw[<-HB (fk:=λ κ:List Key=>D.tup (κ.map Cy)) hf];exact HE ml c7
         ·rw[if_neg hh,if_neg hh];refine⟨_,by rw[zay];rfl,?_⟩;rw[zay];exact c7.snoc ml
        obtain⟨aB,e1,e2⟩:=aO;obtain⟨c,p,t0,g1,g2,E3,t3⟩:=E2.rQ (o':=.dT (putK kvs κ w)) (u:=.BB true ((putK kvs κ w).map λ kv=>.tup (kv.1.map Cy)) (aB.map .sh)) di ot (λ _=>⟨λ z=>(by cases z),λ _ z=>by cases z⟩) (λ mv=>.dT Ap (e2.mono mv).ows);rw[e1,IH g1 g2] at h;exact h _ _ _ (uw.trans t3) E3
    ·rw[if_neg hc] at h;exact h.elim
theorem U6 (tk:Bool):DN X WX (.Dict [] [] pos) (λ _=>.ok (.BB tk [] [])):=by
 cases tk with
 |false =>
  refine⟨_,cM,λ P0 P σ H Q ρ E h p hp=>?_⟩;exact h _ [p] _ (AO hp _) (λ a ha=>by rw[za7.mp ha];exact hp) (by simp) (.dK (kvs:=[]) Ap .nil)
 |true =>
  refine⟨_,cN,λ P0 P σ H Q ρ E h p hp=>?_⟩;exact h _ [p] _ (AO hp _) (λ a ha=>by rw[za7.mp ha];exact hp) (by simp) (.dT (kvs:=[]) Ap .nil)
end
section
variable {X:Cx}{WX:Str->Hp->Prop}{c:Bool}{e:Expr}{f:Aj->M D}{pos:Pos}
def nX (K:za0):List V->Hp->VK->Prop:=λ xs H Q=>∃(a:Addr) (bs:List (Addr×List Int)) (b:Addr×List Int),xs=[.ref a]/\CO K H a (bs.map λ b=>V.ref b.1)/\(∀b∈bs,F9 K H b.1 (b.2.map V.int))/\Bj bs=some b/\Q (.ref b.1) H
theorem YV (hc:X.calm=true)(hu:X.A.units+1<cLine):GF X (.builtin "min") (nX X.K):=by
 intro pins s σ H xs us Q I r h;obtain⟨a,bs,b0,rfl,hl,hb,he,q⟩:=h;obtain⟨ua,rfl,ra⟩:=r.one;cases ra;obtain⟨aa,rv,pl,hz⟩:=I.list hl;have ei:=LX rv;subst ei;have tv:∀a:Addr,∃t:Array Value,∀b∈bs,b.1=a->IsTup s.heap a t/\IntsAre t.toList b.2:=λ a=>by
  by_cases cj:∃b∈bs,b.1=a
  ·obtain⟨b,cj,rfl⟩:=cj;obtain⟨ts,rt,pt,_⟩:=I.tuple (hb b cj);refine⟨ts.toArray,λ b' ax e=>⟨pt,?_⟩⟩;have q2:=hb b' ax;rw[e] at q2;have e2:=I.FC q2 (hb b cj);rw[<-e2] at rt;simpa using intsAre_of rt
  ·exact⟨#[],λ b ax e=>absurd ⟨b,ax,e⟩ cj⟩
 have ad:bs≠[]:=λ z=>by subst z;cases he
 refine Oe bs (λ b=>za6 (tv b)) a none (λ _=>ad) (I.ok.hd hc) hu pl.isList (λ b ax=>(za1 (tv b.1) b ax rfl).1) (λ b ax=>(za1 (tv b.1) b ax rfl).2) λ h' tk hk=>?_;rw[he];exact⟨.ref b0.1,H,I.kept (t':=tk) hk,rfl,q⟩
noncomputable def Xm (ds:List D):M D:=match ds with
 |[.lst xs]=>(match Hr xs with|some ks=>(match Bj ks with|some k=>.ok k.1|none=>.bad)|none=>.bad)
 |_=>.bad
theorem kO:ME X.K WX (nX X.K) Xm:=by
 intro P H ds vs Q ht hl h;unfold Xm at h;split at h
 ·rename_i xs;obtain⟨v,rfl,hv⟩:=hl.one;split at h
  ·rename_i ks e1;cases hv with
   |lst hs hh =>
    obtain⟨bs,rfl,h2,h3⟩:=JD hh e1;split at h
    ·rename_i k e2;rcases Oj h3 with ⟨q1,q2⟩|⟨b,k',q1,q2,_,q3⟩
     ·rw[q2] at e2;cases e2
     ·rw[q2] at e2;cases e2;exact⟨_,bs,b,rfl,hs.AV,λ b hb=>(h2 b hb).AV,q1,h _ H (Ak.refl H) q3⟩
    ·exact h.elim
  ·exact h.elim
 ·exact h.elim
theorem kQ {p:Pos}{n:Nat}(hc:X.calm=true)(hu:X.A.units+n<cLine)(hg:Gl X "min")(hm:X.mg "min" = none)(ha:DE X WX c e f)(hb:bootBuiltins "min" = some (.builtin "min"):=by decide +kernel)(hs:starEach [e] X.env=[(false,eval e X.env)]:=by rfl)(hn:1<=n:=by decide):DE X WX c (.Call (.Name "min" p) [e] [] pos) (λ ρ=>((f ρ).bind λ d=>(M.ok []).bind λ ds=>.ok (d::ds)).bind Xm):=
 Kc (YV hc (by omega)) kO hg hm hb (A4 ha A9 hs) (he:=hs)
end
section
variable {X:Cx}{E:XK}{WX:Str->Hp->Prop}{c:Bool}{P0:E8}{P:Addr->Prop}{H:Hp}{σ:St}{ρ:Aj}{a b e:Expr}{f g:Aj->M D}{fn:Aj->M OT}{fp:Aj->M (List Nat)}{pos:Pos}{i:Nat}
def kR:V->List V->Hp->VK->Prop:=λ x vs H Q=>∃(l:Addr) (ns:List Int) (k:Int),x=.ref l/\vs=[.int k]/\H l=some (.lst (ns.map V.int))/\k∈ns/\Q .AJ (upd H l (.lst ((ns.erase k).map V.int)))
theorem Rb {α β:Type}(f:α->β):∀(l:List α) (k:Nat),(l.eraseIdx k).map f=(l.map f).eraseIdx k
 |[],_|_::_,0=>rfl
 |x::r,k+1=>by rw[List.eraseIdx_cons_succ,za5,za5,List.eraseIdx_cons_succ,Rb f r k]
noncomputable def W5 (k:Int):Value->Bool
 | .int i _=>i==k
 |_=>false
theorem YW:vJ X "list.remove" kR:=by
 intro pins s σ H x vs v us Q I rx rv h;obtain⟨l,ns,k,rfl,rfl,hH,hk,q⟩:=h;cases rx;obtain⟨u,rfl,ru⟩:=rv.one;obtain⟨tk,rfl⟩:=ru;obtain⟨z,aa,n,r,hl,e⟩:=I.VF hH;have hlen:=r.length;have gq:ns.idxOf k<ns.length:=List.idxOf_lt_length_iff.mpr hk;have gu:∀m (hm:m<aa.toArray.size) (ux:m<ns.length),∃t,aa.toArray[m]=Value.int ns[m] t:=λ m hm ux=>by
  have hx:(ns.map V.int)[m]?=some (V.int ns[m]):=by rw[zam,za8 ux];rfl
  obtain⟨w,hw,aX⟩:=r.get hx;obtain⟨t,rfl⟩:=aX;refine⟨t,?_⟩;have:aa[m]?=some aa[m]:=za8 (by simpa using hm);rw[hw] at this;simpa using (zas this).symm
 have hsz:aa.toArray.size=ns.length:=by rw[zad,<-hlen,za2]
 have hm:=MeetsSeq.list_remove l aa.toArray n (.int k tk) (W5 k) (λ y hy=>by
  obtain⟨m,hm,rfl⟩:=Array.mem_iff_getElem.mp hy;obtain⟨t,ht⟩:=gu m hm (by rw[<-hsz];exact hm);rw[ht];exact MeetsSeq.EqGives.int _ _ _ _) (ns.idxOf k) (by rw[hsz];exact gq) (by
  obtain⟨t,ht⟩:=gu (ns.idxOf k) (by rw[hsz];exact gq) gq;rw[ht];simp[W5]) (λ m hm af=>by
  obtain⟨t,ht⟩:=gu m hm (by omega);rw[ht];have:=List.not_of_lt_findIdx (p:=(· == k)) (xs:=ns) (i:=m) af;simpa [W5] using this) (by rw[zad];omega)
 refine call_meets F.slot_list_remove ⟨_,e,rfl⟩ F.entry_list_remove (F.args_list_remove_2 _ _) hm ⟨e,?_⟩;refine⟨.AJ,_,I.cJ (its':=aa.eraseIdx (ns.idxOf k)) hH e ?_ ?_ ?_,rfl,q⟩
 ·show aa.toArray.eraseIdxIfInBounds _=_;rw[List.eraseIdxIfInBounds_toArray]
 ·rw[show ns.erase k=ns.eraseIdx (ns.idxOf k) from List.erase_eq_eraseIdx_of_idxOf rfl,Rb];exact r.eraseIdx _
 ·rw[za2];have:=List.length_erase_le (a:=k) (l:=ns);rw[za2] at z;omega
theorem YX (ha:DP X WX a i fp)(he:DE X WX true e f){apos ac:Pos}(hs:starEach [e] X.env=[(false,eval e X.env)]:=by rfl)
 (bn:swapsWith (.Call (.Attribute a "remove" apos) [e] [] ac) none pos.line X.env=pure false:=by rfl)
 (aj:attributeBase a "remove" X.env (eval a X.env)=eval a X.env:=by rfl)
 (aE:((backTo ac (starEach [e] X.env)).all (λ x => !x.1)&&(backToKw ac (keywordEach [] X.env)).all (λ x=>x.1.isSome)&&decide (([e]:List Expr).length+([]:List Keyword).length+(if ([]:List Keyword).isEmpty then 0 else 1)<30))=true:=by rfl)
 (ak:(apos.endLine==ac.line)=true:=by rfl) (al:(backTo ac (starEach [] X.env)).any (·.1)=false:=by rfl):
 DS X WX (.Expr (.Call (.Attribute a "remove" apos) [e] [] ac) pos) (λ ρ=>(fp ρ).bind λ π=>(Ta i ρ π).bind λ ds=>(f ρ).bind λ d=>match d,D8 ds with
  | .int k,some ns=>if k∈ns then Ha i ρ π (.lst (((ns.erase k).map D.int).map .sh)) else .bad
  |_,_=>.bad):=by
 obtain⟨ta,a1,a2⟩:=ha;obtain⟨te,e1,e2⟩:=he;refine⟨_,IA (Tu zcc PySem.F.slot_list_remove PySem.F.type_list_remove YW a1 (Bi e1 Cs hs) aj aE ak hs al) bn,λ P0 P σ H Z ρ E h=>?_⟩;dsimp only at h;refine a2 P0 P σ H _ ρ E ?_;refine iF h E λ π h=>?_;intro v t1 H1 s1 pl;have E1:=E.same s1;cases q1:Ta i ρ π with
 |bad=>rw[q1] at h;exact h.elim
 |ex x=>exact (W3 q1).elim
 |ok ds =>
  rw[q1] at h;simp only[M.Ad] at h;obtain⟨rfl,l,xs,rfl,hl,ol⟩:=pl.shl E1 q1;refine⟨.inl ⟨rfl,xs,.of hl⟩,e2 P0 P σ H1 _ ρ E1 ?_⟩;cases q2:f ρ with
  |bad=>rw[q2] at h;exact h
  |ex y=>rw[q2] at h;exact λ H' s=>h H' P ((E.tr s1).trans (E1.tr s))
  |ok d =>
   rw[q2] at h;simp only[M.Ad] at h;intro w H2 s2 hw;have E2:=E1.same s2;have di:=pl.same s2;cases d with
   |int k =>
    cases q3:D8 ds with
    |none=>rw[q3] at h;exact h.elim
    |some ns =>
     rw[q3] at h;dsimp only at h;by_cases hk:k∈ns
     ·rw[if_pos hk] at h;have:=FI q3;subst this;have e7:=ol.mono s2.del;have ex:=EG e7;subst ex;have aq:=s2 _ _ hl;obtain⟨c,p,t0,g1,g2,E3,t3⟩:=E2.wU (ys:=(ns.erase k).map V.int) (es:=(ns.erase k).map D.int) di aq e7 (Al.ints _);rw[IH g1 g2] at h;exact⟨l,ns,k,rfl,by rw[hw.int_inv],aq,hk,h _ _ _ (((E.tr s1).trans (E1.tr s2)).trans t3) E3⟩
     ·rw[if_neg hk] at h;exact h.elim
   |_=>exact h.elim
end
section
variable {X:Cx}{WX:Str->Hp->Prop}{c:Bool}{P0:E8}{P:Addr->Prop}{H:Hp}{σ:St}{ρ:Aj}{a b e:Expr}{f g:Aj->M D}{fn:Aj->M OT}{pos:Pos}{te:TE}
noncomputable def wV (ds:List D):M D:=match ds with
 |[.lst xs]=>(match D8 xs with|some ns=>.ok (.int ns.sum)|none=>.bad)
 |_=>.bad
noncomputable def aak (te:TE):TE:=λ σ H Q=>te σ H λ x H1=>∃n:Nat,x=.int (n:Int)/\n<=1000/\∀r,H1 r=none->Q (.ref r) (upd H1 r (.lst ((zb6 n).map λ i:Nat=>V.int (i:Int))))
theorem YY {acc:Array Value}{n:Nat}(h:ItemsOf (λ i v=>∃t,v=Value.int (0+(i:Int)*1) t) acc n):Vals ((zb6 n).map λ i:Nat=>V.int (i:Int)) acc.toList:=by
 obtain⟨h1,h2⟩:=h;have key:∀(l:List Value) (k:Nat),(∀i v,l[i]?=some v->∃t,v=Value.int ((k+i:Nat):Int) t)->Vals ((List.range' k l.length).map λ i:Nat=>V.int (i:Int)) l:=by
  intro l;induction l with
  |nil=>intro k _;exact .nil
  |cons v r ih =>
   intro k hk;rw[za9,List.range'_succ,za5];refine .cons (by obtain⟨t,e⟩:=hk 0 v rfl;exact⟨t,by simpa using e⟩) (ih (k+1) λ i w hw=>?_);obtain⟨t,e⟩:=hk (i+1) w (by simpa using hw);exact⟨t,by rw[e];congr 1;omega⟩
 have:=key acc.toList 0 (λ i v hv=>by
  obtain⟨t,e⟩:=h2 i v (by rw[<-Array.getElem?_toList];exact hv);exact⟨t,by rw[e];congr 1;omega⟩)
 rw[zde,h1] at this;rw[List.range_eq_range'];exact this
theorem Sk {p p2 bq:Pos}(hc:X.calm=true)(hg:Gl X "list")(hm:X.mg "list" = none)(jj:Gl X "range")(c3:X.mg "range" = none)(he:PE X e te)
 (hv:bootBuiltins "list" = some (.type "list"):=by decide +kernel)
 (hs:starEach [.Call (.Name "range" p2) [e] [] bq] X.env=[(false,eval (.Call (.Name "range" p2) [e] [] bq) X.env)]:=by rfl) (a4:starEach [e] X.env=[(false,eval e X.env)]:=by rfl):
 PE X (.Call (.Name "list" p) [.Call (.Name "range" p2) [e] [] bq] [] pos) (aak te):=by
 intro pins s σ H Q I h;refine wpAny_Call_Name_kw (Dl I hg hm hv ?_);refine zba ?_ hs;rw[hs];refine zcj ?_;refine wpAny_Call_Name_kw (Dl I jj c3 boot_range ?_);refine zba ?_ a4;rw[a4];refine zcj (Bh (he pins s σ H _ I h) λ u s1 zz=>?_);obtain⟨x,H1,I1,r1,q1⟩:=zz;obtain⟨n,rfl,hn,q⟩:=q1;obtain⟨t,rfl⟩:=r1;refine zcq ?_;refine call_range_1 ?_;refine zcq ?_;have h4:((n:Nat):Int)<2^62:=by omega
 refine call_list_range (n:=n) (I1.ok.hd hc) (IsRange.new ..) (small_one (by omega) (by omega) (by omega) h4) (by rw[rangeSize_one];split<;>omega) (by omega) λ h' tk qj c' hk ba dk=>?_;have kp:∀b o,s1.heap.get? b=some o->h'.get? b=some o:=λ b o e=>hk b o (zab _ e);have rv:=YY dk;have e8:∀o:Obj,s1.heap.objs.size<=(s1.heap.push o).objs.size:=λ o=>by simp[Heap.push]
 refine⟨.ref _,_,I1.laid (t':=tk) (o:=.lst ((zb6 n).map λ i:Nat=>V.int (i:Int))) kp (e8 _) ⟨?_,qj.toList,c',rv,by simpa using ba⟩,rfl,q _ (I1.Aw.fresh (e8 _))⟩;rw[za2,zci];exact zbr (AG hn)
noncomputable def yK (d:D):M OT:=match d with
 | .int j=>@ite _ (0<=j/\j<=1000) (zdd _) (.ok (.lst ((Cg 0 j.toNat).map .sh))) .bad
 |_=>.bad
theorem Sl {n:Nat}(h:n<=1000):yK (.int (n:Int))=.ok (.lst (((zb6 n).map λ i:Nat=>D.int (i:Int)).map .sh)):=by
 unfold yK;dsimp only;rw[if_pos ⟨by omega,by omega⟩,zbl,Ol]
theorem Ko {p p2 bq:Pos}(hc:X.calm=true)(hg:Gl X "list")(hm:X.mg "list" = none)(jj:Gl X "range")(c3:X.mg "range" = none)(he:DE X WX true e f)
 (hv:bootBuiltins "list" = some (.type "list"):=by decide +kernel)
 (hs:starEach [.Call (.Name "range" p2) [e] [] bq] X.env=[(false,eval (.Call (.Name "range" p2) [e] [] bq) X.env)]:=by rfl) (a4:starEach [e] X.env=[(false,eval e X.env)]:=by rfl):
 DN X WX (.Call (.Name "list" p) [.Call (.Name "range" p2) [e] [] bq] [] pos) (λ ρ=>(f ρ).bind yK):=by
 obtain⟨te,e1,e2⟩:=he;refine⟨_,Sk hc hg hm jj c3 e1 hv hs a4,λ P0 P σ H Q ρ E h=>?_⟩;refine e2 P0 P σ H _ ρ E ?_;dsimp only at h;refine YB h λ d h=>?_;intro v H1 s1 hv;cases d with
 |int j =>
  by_cases hj:0<=j/\j<=1000
  ·obtain⟨n,rfl⟩:∃n:Nat,j=n:=⟨j.toNat,by omega⟩;rw[Sl (by omega)] at h;refine⟨n,hv.int_inv,by omega,λ r hr=>h.J4 s1 (xs:=(zb6 n).map λ i:Nat=>V.int (i:Int)) ?_ r hr⟩;have:∀l:List Nat,Al X.K (del H1 P) (l.map λ i:Nat=>V.int (i:Int)) (l.map λ i:Nat=>D.int (i:Int)):=λ l=>by
    induction l with
    |nil=>exact .nil
    |cons x r ih=>exact .cons (.int _) ih
   exact this _
  ·have e:yK (.int j)=.bad:=if_neg hj;rw[e] at h;exact h.elim
 |_=>exact h.elim
noncomputable def kS (lo hi:Option Int)(d:D):M OT:=match d with
 | .lst ds=>.ok (.lst (((ds.drop (HT.O4 ds.length 0 lo)).take (HT.O4 ds.length ds.length hi-HT.O4 ds.length 0 lo)).map .sh))
 |_=>.bad
theorem OE {lo hi:Option Expr}{qk fh:Aj->M (Option Int)}{p2:Pos}(ha:DE X WX true e f)(hl:DO X WX true lo qk)(hh:DO X WX true hi fh):DN X WX (.Subscript e (.Slice lo hi none p2) pos) (λ ρ=>(f ρ).bind λ d=>(qk ρ).bind λ l=>(fh ρ).bind λ u=>kS l u d):=by
 obtain⟨ta,a1,a2⟩:=ha;obtain⟨tl,l1,l2⟩:=hl;obtain⟨th,h1,h2⟩:=hh;refine⟨_,cE jE a1 l1 h1,λ P0 P σ H Q ρ E h=>?_⟩;dsimp only at h;refine a2 P0 P σ H _ ρ E ?_;cases q:f ρ with
 |bad|ex x=>rw[q] at h;exact h
 |ok d =>
  rw[q] at h;intro v H1 s1 hv;refine l2 P0 P σ H1 _ ρ (E.same s1) ?_;cases q2:qk ρ with
  |bad=>rw[q2] at h;exact h
  |ex y=>rw[q2] at h;exact λ H' s=>h H' (s1.trans s)
  |ok l =>
   rw[q2] at h;intro H2 s2;refine h2 P0 P σ H2 _ ρ ((E.same s1).same s2) ?_;cases q3:fh ρ with
   |bad=>rw[q3] at h;exact h
   |ex y=>rw[q3] at h;exact λ H' s=>h H' ((s1.trans s2).trans s)
   |ok u =>
    rw[q3] at h;simp only[M.Ad] at h;intro H3 s3;unfold kS at h;split at h
    ·cases hv with
     |lst hs hl =>
      refine⟨_,_,rfl,(s3.seq (s2.seq hs.AV)),λ p hp=>h.J4 ((s1.trans s2).trans s3) ?_ p hp⟩;unfold cF;rw[hl.length];exact ((((hl.drop _).take _).mono s2.del).mono s3.del)
    ·exact h.elim
theorem eF:OpN X.K WX (nU X.K) R8:=by
 intro P H x y v w Q ht hx hy h;unfold R8 at h;split at h
 ·rename_i ds es;by_cases hl:ds.length+es.length<=1000
  ·rw[if_pos hl] at h;cases hx with
   |lst h1 h2 =>
    cases hy with
    |lst h3 h4=>exact⟨_,_,_,_,rfl,rfl,h1.AV,h3.AV,zbr (AG (by rw[h2.length,h4.length];exact hl)),h.J4 (Ak.refl _) (h2.wG h4)⟩
  ·rw[if_neg hl] at h;exact h.elim
 ·exact h.elim
theorem Xn (ha:DE X WX true a f)(hb:DE X WX true b g):DN X WX (.BinOp a .Add b pos) (λ ρ=>(f ρ).bind λ x=>(g ρ).bind λ y=>R8 x y):=by
 obtain⟨ta,a1,a2⟩:=ha;obtain⟨tb,b1,b2⟩:=hb;exact⟨_,bM jY a1 b1,λ P0 P σ H Q ρ E h=>wL a2 b2 eF E h⟩
def GK (μ:List (Option Nat))(g:TG):Prop:=∀σ0 σ x H Q,(∀(j:Nat) v,(Fn μ σ0)[j]?=some (some v)->σ[j]?=some (some v))->g x σ H Q->g x σ H λ σ' H'=>Q σ' H'/\∀(j:Nat) v,(Fn μ σ0)[j]?=some (some v)->σ'[j]?=some (some v)
def wW (μ:List (Option Nat))(g:ZM):Prop:=∀σ0 σ x H Q,(∀(j:Nat) v,(Fn μ σ0)[j]?=some (some v)->σ[j]?=some (some v))->g x σ H Q->g x σ H λ σ' H'=>Q σ' H'/\∀(j:Nat) v,(Fn μ σ0)[j]?=some (some v)->σ'[j]?=some (some v)
theorem GK.keeps {μ:List (Option Nat)}{g:TG}(h:GK μ g):LW μ g:=λ σ x H Q q=>h σ (Fn μ σ) x H Q (λ _ _ z=>z) q
theorem kT {μ:List (Option Nat)}{i:Nat}(h:μ[i]?=some none):GK μ (QL i):=λ σ0 σ x H Q hk q=>by
 refine⟨q,λ j v hj=>?_⟩;have ad:i≠j:=λ z=>by
  subst z;unfold Fn at hj;rw[zam,h] at hj;cases hj
 rw[zbp ad];exact hk j v hj
theorem kU {μ:List (Option Nat)}:wW μ pO:=λ σ0 σ x H Q hk q=>⟨q.1,q.2,hk⟩
theorem eG {μ:List (Option Nat)}{t:TG}{u:ZM}(mono:∀v σ H Q Q',(∀σ' H',Q σ' H'->Q' σ' H')->t v σ H Q->t v σ H Q')(ht:GK μ t)(hu:wW μ u):wW μ (ZY t u):=λ σ0 σ x H Q hk q=>by
 obtain⟨v,r,rfl,q⟩:=q;exact⟨v,r,rfl,mono _ _ _ _ _ (λ σ' H' z=>hu σ0 σ' r H' Q z.2 z.1) (ht σ0 σ v H _ hk q)⟩
theorem rR {K:za0}{μ:List (Option Nat)}{n:Nat}{t:ZM}(h:wW μ t):GK μ (pQ K n t):=λ σ0 σ x H Q hk q=>by
 obtain⟨a,xs,rfl,h1,h2,q⟩:=q;exact⟨a,xs,rfl,h1,h2,h σ0 σ xs H Q hk q⟩
variable {dh:List D->Aj->M Aj}{gt:D->Aj->M Aj}{es:List Expr}
def kW (X:Cx)(scope:Scope)(NB:List Str)(μ:List (Option Nat))(es:List Expr)(gt:List D->Aj->M Aj):Prop:=
 ∃g:ZM,(∀s H C ex,tO (blockOf X s H scope C NB ex) es g)/\wW μ g/\∀P0 P σ H Q ρ vs ds,Aq X.K P0 P H σ ρ->Al X.K (del H P) vs ds->gG X.K P0 P H Q (gt ds ρ)->g vs σ H Q
theorem Kq {scope:Scope}{NB:List Str}{μ:List (Option Nat)}:kW X scope NB μ [] (λ ds ρ=>match ds with | []=>.ok ρ | _=>.bad):=
 ⟨pO,λ s H C ex=>WY,kU,λ P0 P σ H Q ρ vs ds E hv h=>by
  cases hv with
  |nil=>exact⟨rfl,h σ E⟩
  |cons _ _=>exact h.elim⟩
theorem CV {scope:Scope}{NB:List Str}{μ:List (Option Nat)}(i:Nat){x:Str}{px:Pos}(hN:NB.Nodup)(hi:NB[i]?=some x)(hx:(relabel scope X.env).names.lookup x=some .local)(hm:μ[i]?=some none)(hr:kW X scope NB μ es dh)
 (hs:∀s H C ex,(assignEach (.Name x px::es) (blockOf X s H scope C NB ex).env).map (·.2)=assign (.Name x px) (blockOf X s H scope C NB ex).env::(assignEach es (blockOf X s H scope C NB ex).env).map (·.2):=by intro _ _ _ _;rfl):
 kW X scope NB μ (.Name x px::es) (λ ds ρ=>match ds with|d::r=>dh r (ρ.set i (some (.val d)))|[]=>.bad):=by
 obtain⟨gr,r1,r2,r3⟩:=hr;refine⟨ZY (QL i) gr,λ s H C ex=>Tj (RV (X:=blockOf X s H scope C NB ex) hN hi (.inl hx) (.inr hx)) (r1 s H C ex) (hs s H C ex),eG (λ v σ H Q Q' hq h=>hq _ _ h) (kT hm) r2,λ P0 P σ H Q ρ vs ds E hv h=>?_⟩;cases hv with
 |nil=>exact h.elim
 |cons h1 h2=>exact⟨_,_,rfl,r3 P0 P _ H Q _ _ _ (E.VR h1) h2 h⟩
theorem Nz {scope:Scope}{NB:List Str}{μ:List (Option Nat)}{k n:Nat}{pt:Pos}(hc:X.calm=true)(h:kW X scope NB μ es dh)
 (hn:∀s H C ex,(assignEach es (blockOf X s H scope C NB ex).env).length=n:=by intro _ _ _ _;rfl) (aD:∀s H C ex,(assignEach es (blockOf X s H scope C NB ex).env).findIdx? (·.1)=none:=by intro _ _ _ _;rfl):
 tT X scope NB μ (.Tuple es k pt) (λ d ρ=>match d with | .tup ds=>if ds.length=n then dh ds ρ else .bad|_=>.bad):=by
 obtain⟨t,a1,a2,a3⟩:=h;refine⟨pQ X.K n t,λ s H C ex=>ZZ (X:=blockOf X s H scope C NB ex) hc (a1 s H C ex) (hn s H C ex) (aD s H C ex),(rR a2).keeps,λ P0 P σ H Q ρ v d E hv h=>?_⟩;cases hv with
 | @tup a xs ds hs hl =>
  dsimp only at h;by_cases hd:ds.length=n
  ·rw[if_pos hd] at h;exact⟨a,xs,rfl,F9.of (Ao hs).2,by rw[hl.length];exact hd,a3 P0 P σ H Q ρ xs ds E hl h⟩
  ·rw[if_neg hd] at h;exact h.elim
 |_=>exact h.elim
end
section
variable {X:Cx}{E:XK}{WX:Str->Hp->Prop}{c:Bool}{P0:E8}{P:Addr->Prop}{H:Hp}{σ:St}{ρ:Aj}{a b e:Expr}{f g:Aj->M D}{fn:Aj->M OT}{fx:Aj->M (Aj×OT)}{fp:Aj->M (List Nat)}{pos:Pos}{i:Nat}{te:TE}
theorem kX:ME X.K WX (λ xs H Q=>∃i j,xs=[.int i,.int j]/\Q (.int (if j<i then j else i)) H) (λ ds=>match ds with | [.int i,.int j]=>.ok (.int (if j<i then j else i)) | _=>.bad):=by
 intro P H ds vs Q ht hl h;dsimp only at h;split at h
 ·obtain⟨v,w,rfl,h1,h2⟩:=hl.two;exact⟨_,_,by rw[h1.int_inv,h2.int_inv],h _ H (Ak.refl H) (.int _)⟩
 ·exact h.elim
theorem kY {p:Pos}(hc:X.calm=true)(hg:Gl X "min")(hm:X.mg "min" = none)(ha:DE X WX c a f)(w6:DE X WX c b g)(hb:bootBuiltins "min" = some (.builtin "min"):=by decide +kernel)(hs:starEach [a,b] X.env=(false,eval a X.env)::starEach [b] X.env:=by rfl)(a4:starEach [b] X.env=[(false,eval b X.env)]:=by rfl)
 (hpl:(backTo pos (starEach [b] X.env)).any (·.1)=false:=by rfl):
 DE X WX c (.Call (.Name "min" p) [a,b] [] pos) (λ ρ=>((f ρ).bind λ d=>((g ρ).bind λ d2=>(M.ok []).bind λ ds=>.ok (d2::ds)).bind λ ds=>.ok (d::ds)).bind (λ ds=>match ds with|[.int i,.int j]=>.ok (.int (if j<i then j else i))|_=>.bad)):=
 Kc (Yo hc) kX hg hm hb (A4 ha (A4 w6 A9 a4) hs) (he:=hs) (hpl:=hpl)
end
def WP (m:M Out)(nx:Aj->Prop)(rt:Out->Prop)(ex:Str->Prop):Prop:=match m with
 | .ok (.next ρ)=>nx ρ
 | .ok o=>rt o
 | .ex x=>ex x
 | .bad=>False
section
variable {nx:Aj->Prop}{rt:Out->Prop}{ex:Str->Prop}{m:M Out}{k:Aj->M Out}{ρ ρ':Aj}
theorem Bb (h:m=.ok (.next ρ'))(hn:nx ρ'):WP m nx rt ex:=by rw[h];exact hn
theorem WP.mono {u3:Aj->Prop}{u4:Out->Prop}{nb:Str->Prop}(h:WP m nx rt ex)(h1:∀ρ,nx ρ->u3 ρ)(h2:∀o,rt o->u4 o)(h3:∀x,ex x->nb x):WP m u3 u4 nb:=by
 cases m with
 |bad=>exact h
 |ex x=>exact h3 x h
 |ok o =>
  cases o with
  |next ρ=>exact h1 ρ h
  |ret d|brk d|cont d|D1 d|FE d ρ=>exact h2 _ h
theorem wp_seq (h:WP m (λ ρ=>WP (k ρ) nx rt ex) rt ex):WP (dG m k) nx rt ex:=by
 cases m with
 |bad|ex x=>exact h
 |ok o =>
  cases o with
  |next ρ|ret d|brk d|cont d|D1 d|FE d ρ=>exact h
theorem wp_step (h:m=.ok (.next ρ'))(hk:WP (k ρ') nx rt ex):WP (dG m k) nx rt ex:=by rw[h];exact hk
theorem BI {I:Aj->Prop}(h:WP m I rt ex)(hk:∀ρ,I ρ->WP (k ρ) nx rt ex):WP (dG m k) nx rt ex:=wp_seq (h.mono hk (λ _ h=>h) λ _ h=>h)
def inLoop (I:Aj->Prop)(nx:Aj->Prop)(rt:Out->Prop)(o:Out):Prop:=match o with
 | .cont ρ=>I ρ
 | .brk ρ=>nx ρ
 |o=>rt o
theorem BE {gt:D->Aj->M Aj}{gb:Aj->M Out}{ds:List D}(I:Nat->Aj->Prop)(h0:I 0 ρ)
 (step:∀i d ρ,ds[i]?=some d->I i ρ->∃ρ1,gt d ρ=.ok ρ1/\WP (gb ρ1) (I (i+1)) (inLoop (I (i+1)) nx rt) ex) (done:∀ρ,I ds.length ρ->nx ρ):WP (forM gt gb ds ρ) nx rt ex:=by
 have key:∀(n i:Nat) (ρ:Aj),i+n=ds.length->I i ρ->WP (forM gt gb (ds.drop i) ρ) nx rt ex:=by
  intro n;induction n with
  |zero =>
   intro i ρ hi h;have e:i=ds.length:=by omega
   subst e;rw[zct,forM];exact done ρ h
  |succ n ih =>
   intro i ρ hi h;have af:i<ds.length:=by omega
   obtain⟨ρ1,h1,h2⟩:=step i ds[i] ρ (za8 af) h;rw[Hq af,forM,h1];dsimp only;cases q:gb ρ1 with
   |bad|ex x=>rw[q] at h2;exact h2
   |ok o =>
    rw[q] at h2;cases o with
    |next ρ2=>exact ih (i+1) ρ2 (by omega) h2
    |ret d|D1 d|FE d ρ2=>exact h2
    |cont ρ2=>exact ih (i+1) ρ2 (by omega) h2
    |brk ρ2=>exact h2
 have:=key ds.length 0 ρ (by omega) h0;rw[List.drop_zero] at this;exact this
theorem Kr {α:Type}{c:Aj->M Bool}{b:Aj->M Out}{lt:α->α->Prop}(J:α->Aj->Prop){x:α}(hx:Acc lt x)(h0:J x ρ)
 (step:∀x ρ,J x ρ->(c ρ=.ok false/\nx ρ)\/(c ρ=.ok true/\WP (b ρ) (λ ρ2=>∃y,lt y x/\J y ρ2) (inLoop (λ ρ2=>∃y,lt y x/\J y ρ2) nx rt) ex)):WP (MF c b ρ) nx rt ex:=by
 have key:∀x,Acc lt x->∀ρ,J x ρ->∃n,AD c b n ρ≠.bad/\WP (AD c b n ρ) nx rt ex:=by
  intro x hx;induction hx with
  |intro x _ ih =>
   intro ρ h;rcases step x ρ h with ⟨h1,h2⟩|⟨h1,h2⟩
   ·refine⟨1,?_,?_⟩
    ·rw[AD,h1];intro z;cases z
    ·rw[AD,h1];exact h2
   ·cases q:b ρ with
    |bad=>rw[q] at h2;exact h2.elim
    |ex y =>
     rw[q] at h2;refine⟨1,?_,?_⟩
     ·rw[AD,h1];dsimp only;rw[q];intro z;cases z
     ·rw[AD,h1];dsimp only;rw[q];exact h2
    |ok o =>
     rw[q] at h2;have go:∀ρ2,(∃y,lt y x/\J y ρ2)->(∀n,AD c b (n+1) ρ=AD c b n ρ2)->∃n,AD c b n ρ≠.bad/\WP (AD c b n ρ) nx rt ex:=by
      rintro ρ2 ⟨y,hy,hJ⟩ e;obtain⟨n,h3,h4⟩:=ih y hy ρ2 hJ;exact⟨n+1,by rw[e];exact h3,by rw[e];exact h4⟩
     cases o with
     |next ρ2|cont ρ2=>exact go ρ2 h2 λ n=>by rw[AD,h1];dsimp only;rw[q]
     |brk ρ2 =>
      refine⟨1,?_,?_⟩
      ·rw[AD,h1];dsimp only;rw[q];intro z;cases z
      ·rw[AD,h1];dsimp only;rw[q];exact h2
     |ret d =>
      refine⟨1,?_,?_⟩
      ·rw[AD,h1];dsimp only;rw[q];intro z;cases z
      ·rw[AD,h1];dsimp only;rw[q];exact h2
     |D1 d =>
      refine⟨1,?_,?_⟩
      ·rw[AD,h1];dsimp only;rw[q];intro z;cases z
      ·rw[AD,h1];dsimp only;rw[q];exact h2
     |FE d ρ2 =>
      refine⟨1,?_,?_⟩
      ·rw[AD,h1];dsimp only;rw[q];intro z;cases z
      ·rw[AD,h1];dsimp only;rw[q];exact h2
 obtain⟨n,h1,h2⟩:=key x hx ρ h0;unfold MF;have hx:∃n,AD c b n ρ≠.bad:=⟨n,h1⟩;rw[dif_pos hx];have e:AD c b (za6 hx) ρ=AD c b n ρ:=by
  have a:=CS (za1 hx) n;have b':=CS h1 (za6 hx);rw[Nat.add_comm] at b';rw[<-a,<-b']
 rw[e];exact h2
def rtT (Q:OT->Prop)(o:Out):Prop:=match o with
 | .ret d=>Q (.sh d)
 | .D1 c=>∃t,wM c=.ok t/\Q t
 |_=>False
theorem HG {Q:OT->Prop}(h:WP m (λ _=>Q (.sh .AJ)) (rtT Q) (λ _=>False)):∃t,YR m=.ok t/\Q t:=by
 cases m with
 |bad|ex x=>exact h.elim
 |ok o =>
  cases o with
  |next ρ|ret d=>exact⟨_,rfl,h⟩
  |D1 c=>exact h
  |FE c ρ|brk ρ|cont ρ=>exact h.elim
theorem B7 {t:OT}(h:WP m (λ _=>OT.sh .AJ=t) (rtT (·=t)) (λ _=>False)):YR m=.ok t:=by
 obtain⟨u,h1,h2⟩:=HG (Q:=(·=t)) h;rw[h1,h2]
def rtD (Q:D->Prop)(o:Out):Prop:=match o with
 | .ret d=>Q d
 | .D1 c=>∃t,clD c=.ok t/\Q t
 |_=>False
theorem wX {Q:D->Prop}(h:WP m (λ _=>Q .AJ) (rtD Q) (λ _=>False)):∃t,fin m=.ok t/\Q t:=by
 cases m with
 |bad|ex x=>exact h.elim
 |ok o =>
  cases o with
  |next ρ|ret d=>exact⟨_,rfl,h⟩
  |D1 c=>exact h
  |FE c ρ|brk ρ|cont ρ=>exact h.elim
theorem wY {d:D}(h:WP m (λ _=>D.AJ=d) (rtD (·=d)) (λ _=>False)):fin m=.ok d:=by
 obtain⟨u,h1,h2⟩:=wX (Q:=(·=d)) h;rw[h1,h2]
end
section
variable {d:D}{ds es:List D}{ρ ρ':Aj}{o:Option Cl}{i n:Nat}{p:Option Nat}{t u:OT}{π:List Nat}{b:Bool}{ks vs:List D}{ts:List OT}{m:M D}
theorem wZ:rv 0 (some (.val d)::ρ)=.ok d:=rfl
theorem xA:rv (i+1) (o::ρ)=rv i ρ:=rfl
noncomputable def U7 (f:Aj->Aj)(m:M Out):M Out:=match m with
 | .ok (.next ρ)=>.ok (.next (f ρ))
 |m=>m
theorem Ks {f:Aj->Aj}:U7 f (.ok (.next ρ))=.ok (.next (f ρ)):=rfl
theorem Kt:Qo 0 (some (.own ds)::ρ)=.ok []:=rfl
theorem Ku:Qo 0 (some (.ow (.MD n ds))::ρ)=.ok []:=rfl
theorem II:Qo 0 (some (.ow (.tree p t))::ρ)=.ok []:=by unfold Qo Vm;simp[treeOf]
theorem Xo:Qo (i+1) (o::ρ)=Qo i ρ:=rfl
theorem Xp:Vm 0 (some (.own ds)::ρ) π=M7 (.lst (ds.map .sh)) π:=rfl
theorem Xq:Vm 0 (some (.ow (.MD n ds))::ρ) π=M7 (.lst (ds.map .sh)) π:=rfl
theorem OF:Vm 0 (some (.ow (.tree p t))::ρ) π=M7 t π:=rfl
theorem NA:Ta 0 (some (.own ds)::ρ) []=.ok ds:=by unfold Ta;simp[Xp,CU]
theorem NC:Ta 0 (some (.ow (.MD n ds))::ρ) []=.ok ds:=by unfold Ta;simp[Xq,CU]
theorem Kv:Ta 0 (some (.ow (.tree p (.lst (ds.map .sh))))::ρ) []=.ok ds:=by unfold Ta;simp[OF,CU]
theorem kZ:Ta (i+1) (o::ρ) π=Ta i ρ π:=rfl
theorem IJ:EM 0 (some (.own ds)::ρ) []=.ok (ds.map .sh):=by unfold EM;simp[Xp]
theorem IK:EM 0 (some (.ow (.MD n ds))::ρ) []=.ok (ds.map .sh):=by unfold EM;simp[Xq]
theorem Gi:EM 0 (some (.ow (.tree p (.lst ts)))::ρ) []=.ok ts:=by unfold EM;simp[OF]
theorem Sn:EM (i+1) (o::ρ) π=EM i ρ π:=rfl
theorem Ds:GL 0 (some (.ow (.tree p (.BB b ks (vs.map .sh))))::ρ) []=.ok (b,ks,vs):=by unfold GL;simp[OF,CU]
theorem So:GL (i+1) (o::ρ) π=GL i ρ π:=rfl
theorem Kw:Ha 0 (some (.own ds)::ρ) [] u=.ok (.next (some (toCl none u)::ρ)):=by unfold Ha;simp[treeOf]
theorem Kx:Ha 0 (some (.ow (.MD n ds))::ρ) [] u=.ok (.next (some (toCl (some n) u)::ρ)):=by unfold Ha;simp[treeOf]
theorem IL:Ha 0 (some (.ow (.tree p t))::ρ) π u=.ok (.next (some (toCl p (EH t π u))::ρ)):=by unfold Ha;simp[treeOf]
theorem Xr:Ha (i+1) (o::ρ) π u=U7 (o::·) (Ha i ρ π u):=by
 unfold Ha U7;simp only[zau,zae];split
 ·rename_i c e;split<;>simp_all
 ·simp_all
theorem Ky:YF 0 (some (.own ds)::ρ) (.ok d)=if ds.length<1000 then .ok (.next (some (.own (ds++[d]))::ρ)) else .bad:=rfl
theorem Xs:YF (i+1) (o::ρ) m=U7 (o::·) (YF i ρ m):=by
 unfold YF;rw[zau];cases q:ρ[i]? with
 |none=>rfl
 |some oo =>
  cases oo with
  |none=>rfl
  |some c =>
   cases c with
   |own ds =>
    cases m with
    |ok d =>
     simp only[M.Ad,zae];by_cases h:ds.length<1000
     ·rw[if_pos h,if_pos h];rfl
     ·rw[if_neg h,if_neg h];rfl
    |ex x|bad=>rfl
   |val d|ow w=>rfl
theorem Kz {j:Int}:YM 0 (some (.own ds)::ρ) (.ok (.int j)) (.ok d)=if 0<=j/\j.toNat<=ds.length/\ds.length<1000 then .ok (.next (some (.own (ds.take j.toNat++d::ds.drop j.toNat))::ρ)) else .bad:=rfl
theorem Xu {m2:M D}:YM (i+1) (o::ρ) m m2=U7 (o::·) (YM i ρ m m2):=by
 unfold YM;rw[zau];cases q:ρ[i]? with
 |none=>rfl
 |some oo =>
  cases oo with
  |none=>rfl
  |some c =>
   cases c with
   |own ds =>
    cases m with
    |ok d =>
     cases m2 with
     |ok d2 =>
      simp only[M.Ad,zae];cases d with
      |int j =>
       dsimp only;by_cases h:0<=j/\j.toNat<=ds.length/\ds.length<1000
       ·rw[if_pos h,if_pos h];rfl
       ·rw[if_neg h,if_neg h];rfl
      |_=>rfl
     |ex x|bad=>rfl
    |ex x|bad=>rfl
   |val d|ow w=>rfl
theorem KA:VZ 0 (some (.val d)::ρ)=.ok (.ret d):=rfl
theorem KC:VZ 0 (some (.own ds)::ρ)=.ok (.D1 (.own ds)):=rfl
theorem ND {w:Ow}:VZ 0 (some (.ow w)::ρ)=.ok (.D1 (.ow w)):=rfl
theorem Xv:VZ (i+1) (o::ρ)=VZ i ρ:=rfl
theorem aaP:aai i ρ π=match Vm i ρ π with | some (.sh d)=>.ok d | _=>.bad:=rfl
theorem lA:dU (i+1) (o::ρ)=o::dU i ρ:=by
 unfold dU;simp only[zau,zae];split<;>simp_all
theorem lB {c:Cl}:dU 0 (some c::ρ)=some (Ki c)::ρ:=rfl
theorem KD:Ki (.val d)=.val d:=rfl
theorem KG:Ki (.own ds)=.val (.lst ds):=rfl
theorem KH:Ki (.ow (.MD n ds))=.val (.lst ds):=rfl
theorem NE:Ki (.ow (.tree p t))=.val (er t):=rfl
theorem JJ:er (.BB b ks (vs.map .sh))=.BB b ks vs:=by rw[er,Hz]
theorem M9:er (.lst (ds.map .sh))=.lst ds:=by rw[er,Hz]
theorem Rc:er (.sh d)=d:=rfl
theorem yL {l:List (Option Nat)}:Ba (none::l) ρ=none::Ba l ρ:=rfl
theorem yM:Ba [] ρ=[]:=rfl
theorem lC {l:List (Option Nat)}:Ba (some i::l) ρ=(match ρ[i]? with | some (some (.val d))=>some (.val d) | _=>none)::Ba l ρ:=rfl
theorem lD {α:Type}{x y:α}:(if ([]:List D).length<=1000 then x else y)=x:=if_pos (by show 0<=1000;decide)
theorem lE {α:Type}{x y:α}{a:D}:(if [a].length<=1000 then x else y)=x:=if_pos (by show 1<=1000;decide)
theorem lF {α:Type}{x y:α}{a b:D}:(if [a,b].length<=1000 then x else y)=x:=if_pos (by show 2<=1000;decide)
theorem lG {α:Type}{x y:α}{a b c:D}:(if [a,b,c].length<=1000 then x else y)=x:=if_pos (by show 3<=1000;decide)
theorem lH {α:Type}{x y:α}{a b c d:D}:(if [a,b,c,d].length<=1000 then x else y)=x:=if_pos (by show 4<=1000;decide)
theorem toCl_nil:toCl none (.lst [])=.own []:=rfl
theorem BJ {α:Type}{gt:D->Aj->M Aj}{ft:Aj->M Bool}{fe:Aj->M D}{g:α->D}(p:α->Bool)(f:α->D):∀ {l:List α},(∀x∈l,∃ρ1,gt (g x) ρ=.ok ρ1/\ft ρ1=.ok (p x)/\(p x=true->fe ρ1=.ok (f x)))->B6 gt ft fe (l.map g) ρ=.ok ((l.filter p).map f)
 |[],_=>rfl
 |x::r,h=>by
  obtain⟨ρ1,h1,h2,h3⟩:=h x za3;have ih:=BJ (gt:=gt) (ft:=ft) (fe:=fe) (g:=g) p f (l:=r) λ y hy=>h y (za4 _ hy);rw[za5,B6,h1];dsimp only;rw[h2];dsimp only;rw[List.filter_cons];cases hp:p x with
  |true =>
   rw[if_pos rfl,h3 hp];dsimp only;rw[ih];simp
  |false=>simp[ih]
theorem BK {α:Type}{gt:D->Aj->M Aj}{ft:Aj->M Bool}{fe:Aj->M D}{g:α->D}(f:α->D){l:List α}(h:∀x∈l,∃ρ1,gt (g x) ρ=.ok ρ1/\ft ρ1=.ok true/\fe ρ1=.ok (f x)):B6 gt ft fe (l.map g) ρ=.ok (l.map f):=by
 have:=BJ (gt:=gt) (ft:=ft) (fe:=fe) (ρ:=ρ) (g:=g) (λ _=>true) f (l:=l) λ x hx=>by
  obtain⟨ρ1,h1,h2,h3⟩:=h x hx;exact⟨ρ1,h1,h2,λ _=>h3⟩
 rw[this,List.filter_eq_self.mpr (λ _ _=>rfl)]
theorem Bm {α:Type}{g:α->D}{l:List α}{i:Nat}{d:D}(h:(l.map g)[i]?=some d):∃x,l[i]?=some x/\d=g x:=by
 rw[zam] at h;cases q:l[i]? with
 |none=>rw[q] at h;cases h
 |some x=>rw[q] at h;cases h;exact⟨x,rfl,rfl⟩
theorem Sq:kM (.lst (ds.map .sh))=.ok ds:=by unfold kM;simp[CU,kL]
theorem IM {α:Type}{x:α}:kL (some x)=.ok x:=rfl
theorem NF:Sh i ρ (.sh d)=.ok (.next (ρ.set i (some (.val d)))):=rfl
theorem KI:Sh i ρ (.lst ts)=.ok (.next (ρ.set i (some (toCl none (.lst ts))))):=rfl
theorem KJ:Sh i ρ (.tup ts)=.ok (.next (ρ.set i (some (.ow (.tree none (.tup ts)))))):=rfl
theorem KL:Sh i ρ (.BB b ks ts)=.ok (.next (ρ.set i (some (.ow (.tree none (.BB b ks ts)))))):=rfl
theorem KN {x:Str}{ns:List Str}:Sh i ρ (.ins x ns ts)=.ok (.next (ρ.set i (some (.ow (.tree none (.ins x ns ts)))))):=rfl
theorem NG:YS (.sh d)=.ok (.ret d):=rfl
theorem KO:YS (.lst ts)=.ok (.D1 (.ow (.tree none (.lst ts)))):=rfl
theorem KQ:YS (.tup ts)=.ok (.D1 (.ow (.tree none (.tup ts)))):=rfl
theorem KR:YS (.BB b ks ts)=.ok (.D1 (.ow (.tree none (.BB b ks ts)))):=rfl
theorem U8 {α:Type}{f:α->D}(h:∀x,M5 (f x)=true):∀l:List α,Kg (l.map f)=true
 |[]=>by simp[Kg]
 |x::r=>by rw[za5,Kg,h x,U8 h r];rfl
theorem U9:∀ds:List D,GI (ds.map .sh)=Kg ds
 |[]=>by simp[Kg,GI]
 |d::r=>by rw[za5,GI,Hy,U9 r,Kg]
theorem rS (h:M5 d=true):Vl (.ok (.sh d))=.ok (.sh d):=by unfold Vl;simp[Hy,h]
theorem lI (h:Kg ds=true):Vl (.ok (.lst (ds.map .sh)))=.ok (.lst (ds.map .sh)):=by unfold Vl;simp[Hy,U9,h]
theorem lJ {i:Int}:M5 (.int i)=true:=by simp[M5]
theorem Ua:Eo (.lst ds)=.ok (!ds.isEmpty):=rfl
theorem rT {a s m:Int}(h0:0<=a)(h1:a<m)(s0:1<=s)(s1:s<m):(a+s)%m≠a:=by
 by_cases h:a+s<m
 ·rw[Int.emod_eq_of_lt (by omega) h];omega
 ·have e:(a+s)%m=(a+s-m)%m:=by rw[Int.sub_emod_right]
  rw[e,Int.emod_eq_of_lt (by omega) (by omega)];omega
theorem NH {k:Nat}(i j:Int):cX k (.int i) (.int j)=.ok (.bl (decide (i=j))):=by
 rw[Oo (Ct _) (Ct _)];simp only[Br,Bool.beq_eq_decide_eq]
theorem NI {k:Nat}(i j:Int):VO k (.int i) (.int j)=.ok (.bl (!decide (i=j))):=by
 rw[Se (Ct _) (Ct _)];simp only[Br,Bool.beq_eq_decide_eq]
theorem KS {i j:Int}:rA (.int i) (.int j)=.ok (.int (i+j)):=rfl
theorem KU {i j:Int}:vY (.int i) (.int j)=.ok (.int (i-j)):=rfl
theorem NJ {i j:Int}:dLt (.int i) (.int j)=.ok (.bl (decide (i<j))):=rfl
theorem NK {i j:Int}:dLe (.int i) (.int j)=.ok (.bl (decide (i<=j))):=rfl
theorem NL {i j:Int}:dGt (.int i) (.int j)=.ok (.bl (decide (j<i))):=rfl
theorem NM {i j:Int}:dGe (.int i) (.int j)=.ok (.bl (decide (j<=i))):=rfl
theorem NO {i:Int}:asI (.int i)=.ok (some i):=rfl
theorem KW:VP [.lst ds]=.ok (.int ds.length):=rfl
theorem KY:VP [.tup ds]=.ok (.int ds.length):=rfl
theorem ite_tt {α:Type}{x y:α}:(if true=true then x else y)=x:=rfl
theorem ite_ff {α:Type}{x y:α}:(if false=true then x else y)=y:=rfl
theorem eI {lo hi:Option Int}{x:D}(h:tS lo hi x=.ok (.lst ds)):kS lo hi x=.ok (.lst (ds.map .sh)):=by
 unfold tS at h;unfold kS;cases x with
 |lst xs=>dsimp only at h ⊢;injection h with h;injection h with h;rw[h]
 |_=>cases h
theorem Ub (xs:List D)(k:Nat):kS (some (k:Int)) none (.lst xs)=.ok (.lst ((xs.drop k).map .sh)):=eI (dN xs k)
theorem lK (xs:List D)(a b:Nat):kS (some (a:Int)) (some (b:Int)) (.lst xs)=.ok (.lst (((xs.drop a).take (b-a)).map .sh)):=eI (jZ xs a b)
theorem KZ:J4 (.lst ds)=.ok (.lst (ds.map .sh)):=rfl
theorem L0:J4 (.tup ds)=.ok (.lst (ds.map .sh)):=rfl
theorem IQ {ns:List Int}:wV [.lst (ns.map D.int)]=.ok (.int ns.sum):=by unfold wV;dsimp only;rw[FH]
theorem IR {T:String}:J8 T (.lst ds)=.ok (.bl (F8 T (.lst ds))):=rfl
theorem IS {T:String}:J8 T (.tup ds)=.ok (.bl (F8 T (.tup ds))):=rfl
theorem IT {T:String}{k:Int}:J8 T (.int k)=.ok (.bl (F8 T (.int k))):=rfl
theorem IU {T:String}:J8 T .AJ=.ok (.bl (F8 T .AJ)):=rfl
theorem L4 {T:String}{k:Bool}:J8 T (.bl k)=.ok (.bl (F8 T (.bl k))):=rfl
theorem IV {T:String}{k:Str}:J8 T (.str k)=.ok (.bl (F8 T (.str k))):=rfl
theorem IW {T:String}:J8 T (.BB b ks vs)=.ok (.bl (F8 T (.BB b ks vs))):=rfl
theorem Xw:F8 "list" (.lst ds)=true:=rfl
theorem Xx:F8 "tuple" (.tup ds)=true:=rfl
theorem Xy {k:Int}:F8 "int" (.int k)=true:=rfl
theorem Xz {k:Int}:F8 "bool" (.int k)=false:=rfl
theorem XA:F8 "dict" (.BB b ks vs)=true:=rfl
theorem IX {neg:Bool}{k:Int}{ns:List Int}:JH neg (.int k) (.lst (ns.map D.int))=.ok (.bl (if neg then !ns.contains k else ns.contains k)):=by
 unfold JH yH;dsimp only;rw[FH]
noncomputable def vO (s:Option D):Option Cl:=s.map .val
theorem NP {s:Option D}:FJ (vO s::ρ)=vO s::FJ ρ:=by cases s<;>rfl
end
noncomputable def W6 (x:Int):List Int->List Int
 |[]=>[x]
 |y::r=>if x<=y then x::y::r else y::W6 x r
noncomputable def HH:List Int->List Int
 |[]=>[]
 |x::r=>W6 x (HH r)
theorem Ma (x:Int):∀l:List Int,(W6 x l).Perm (x::l)
 |[]=>.refl _
 |y::r=>by
  unfold W6;split
  ·exact .refl _
  ·exact ((Ma x r).cons y).trans (.swap x y r)
theorem EN:∀l:List Int,(HH l).Perm l
 |[]=>.refl _
 |x::r=>(Ma x (HH r)).trans ((EN r).cons x)
theorem MG (x:Int):∀l:List Int,l.Pairwise (·<=·)->(W6 x l).Pairwise (·<=·)
 |[],_=>by simp[W6]
 |y::r,h=>by
  unfold W6;have hy:=List.pairwise_cons.mp h;split
  ·rename_i cm;exact List.pairwise_cons.mpr ⟨λ z hz=>by
    rcases zaa.mp hz with rfl|hz
    ·exact cm
    ·exact Int.le_trans cm (hy.1 z hz),h⟩
  ·rename_i cm;exact List.pairwise_cons.mpr ⟨λ z hz=>by
    rcases zaa.mp ((Ma x r).mem_iff.mp hz) with rfl|hz
    ·omega
    ·exact hy.1 z hz,MG x r hy.2⟩
theorem Gj:∀l:List Int,(HH l).Pairwise (·<=·)
 |[]=>.nil
 |x::r=>MG x _ (Gj r)
theorem HI:∀ {a b:List Int},a.Perm b->a.Pairwise (·<=·)->b.Pairwise (·<=·)->a=b
 |[],b,hp,_,_=>(List.nil_perm.mp hp).symm
 |x::r,[],hp,_,_=>by have:=hp.length_eq;simp at this
 |x::r,y::t,hp,ha,hb=>by
  have bB:=List.pairwise_cons.mp ha;have ax:=List.pairwise_cons.mp hb;have e:x=y:=by
   have h1:x∈y::t:=hp.mem_iff.mp (za3 ..);have h2:y∈x::r:=hp.mem_iff.mpr (za3 ..);rcases zaa.mp h1 with e|h1
   ·exact e
   rcases zaa.mp h2 with e|h2
   ·exact e.symm
   have:=bB.1 _ h2;have:=ax.1 _ h1;omega
  subst e;rw[HI (List.Perm.cons_inv hp) bB.2 ax.2]
theorem L5:∀ {us:List Value}{ns:List Int},IntsAre us ns->Vals (ns.map V.int) us
 |_,_,.nil=>.nil
 |_,_,.cons n t h=>.cons ⟨t,rfl⟩ (L5 h)
theorem OG {K:za0}{H:Hp}:∀l:List Int,Al K H (l.map V.int) (l.map D.int)
 |[]=>.nil
 |x::r=>.cons (.int _) (OG r)
section
variable {X:Cx}{WX:Str->Hp->Prop}{c:Bool}{P0:E8}{P:Addr->Prop}{H:Hp}{σ:St}{ρ:Aj}{a b e:Expr}{f g:Aj->M D}{fn:Aj->M OT}{pos:Pos}{te:TE}
noncomputable def aal (X:Cx)(te:TE):TE:=λ σ H Q=>te σ H λ x H1=>∃p ns,x=.ref p/\CO X.K H1 p (List.map V.int ns)/\ns.length<64/\∀r,H1 r=none->Q (.ref r) (upd H1 r (.lst ((HH ns).map V.int)))
theorem YZ {p:Pos}(hc:X.calm=true)(hg:Gl X "sorted")(hm:X.mg "sorted" = none)(he:PE X e te)
 (hv:bootBuiltins "sorted" = some (.builtin "sorted"):=by decide +kernel)
 (hs:starEach [e] X.env=[(false,eval e X.env)]:=by rfl):
 PE X (.Call (.Name "sorted" p) [e] [] pos) (aal X te):=by
 intro pins s σ H Q I h;refine wpAny_Call_Name_kw (Dl I hg hm hv ?_);refine PyProof.Rows.callWith_builtin1 ?_ hs;rw[hs];refine zcj (Bh (he pins s σ H _ I h) λ u s1 zz=>?_);obtain⟨x,H1,I1,r1,q1⟩:=zz;obtain⟨q,ns,rfl,hq,w9,h⟩:=q1;cases r1;refine zcq ?_;obtain⟨aa,r',pl,hz⟩:=I1.list hq;have hi:=intsAre_of r';have dm:=r'.length;rw[za2] at dm;refine sorted_ints pl.isList hi (by omega) λ out db b1 b2 b3=>?_;obtain⟨c',ba⟩:=sortedAll_at s1.heap aa out;have e:db=HH ns:=HI (b2.trans (EN ns).symm) b3 (Gj ns);subst e;refine⟨.ref _,_,I1.laid (t':=s1.toks) (o:=.lst ((HH ns).map V.int)) (λ b o e=>sortedAll_old e) (Nat.le_succ _) ⟨?_,out.toList,c',L5 b1,by simpa using ba⟩,rfl,h _ (I1.Aw.fresh (Nat.le_succ _))⟩;rw[za2,(EN ns).length_eq];exact zbr (AG (by omega))
noncomputable def lL (d:D):M OT:=match d with
 | .lst xs=>(match D8 xs with|some ns=>if ns.length<64 then .ok (.lst (((HH ns).map .int).map .sh)) else .bad|none=>.bad)
 |_=>.bad
theorem Z0 {ns:List Int}(h:ns.length<64):lL (.lst (ns.map .int))=.ok (.lst (((HH ns).map .int).map .sh)):=by
 unfold lL;dsimp only;rw[FH];dsimp only;rw[if_pos h]
theorem Z1 {p:Pos}(hc:X.calm=true)(hg:Gl X "sorted")(hm:X.mg "sorted" = none)(he:DE X WX true e f)
 (hv:bootBuiltins "sorted" = some (.builtin "sorted"):=by decide +kernel)
 (hs:starEach [e] X.env=[(false,eval e X.env)]:=by rfl):
 DN X WX (.Call (.Name "sorted" p) [e] [] pos) (λ ρ=>(f ρ).bind lL):=by
 obtain⟨te,e1,e2⟩:=he;refine⟨_,YZ hc hg hm e1 hv hs,λ P0 P σ H Q ρ E h=>?_⟩;refine e2 P0 P σ H _ ρ E ?_;dsimp only at h;refine YB h λ d h=>?_;intro v H1 s1 hv;unfold lL at h;split at h
 ·rename_i xs;split at h
  ·rename_i ns eb;have:=FI eb;subst this;split at h
   ·rename_i hl;cases hv with
    |lst hs hh =>
     have:=EG hh;subst this;exact⟨_,ns,rfl,hs.AV,hl,h.J4 s1 (OG _)⟩
   ·exact h.elim
  ·exact h.elim
 ·exact h.elim
noncomputable def lM (d k:D):M OT:=match k with
 | .int j=>if 0<=j/\j.toNat<=1000 then .ok (.lst ((zak j.toNat d).map .sh)) else .bad
 |_=>.bad
theorem OH {d:D}{n:Nat}(h:n<=1000):lM d (.int (n:Int))=.ok (.lst ((zak n d).map .sh)):=by
 unfold lM;dsimp only;rw[if_pos ⟨by omega,by omega⟩,zbl]
theorem W7 {ql:Pos}(ha:DE X WX true a f)(hb:DE X WX true b g)(aD:starEach [a] X.env=[(false,eval a X.env)]:=by rfl):
 DN X WX (.BinOp (.List [a] ql) .Mult b pos) (λ ρ=>(f ρ).bind λ d=>(g ρ).bind λ k=>lM d k):=by
 obtain⟨ta,a1,a2⟩:=ha;obtain⟨tb,b1,b2⟩:=hb;refine⟨_,bM qQ (Vz (Bi a1 Cs aD)) b1,λ P0 P σ H Q ρ E h=>?_⟩;dsimp only at h;refine a2 P0 P σ H _ ρ E ?_;refine YB h λ d h=>?_;intro v H1 s1 hv;have E1:=E.same s1;refine⟨zbr (AG (by simp)),λ p hp=>?_⟩;have s2:Ak H1 (upd H1 p (.lst [v])):=AO hp _;have E2:=E1.same s2;refine b2 P0 P σ _ _ ρ E2 ?_;cases q2:g ρ with
 |bad=>rw[q2] at h;exact h
 |ex x=>rw[q2] at h;exact λ H' s3=>h H' ((s1.trans s2).trans s3)
 |ok k =>
  rw[q2] at h;simp only[M.Ad] at h;unfold lM at h;intro w H3 s3 hw;cases k with
  |int j =>
   dsimp only at h;by_cases hj:0<=j/\j.toNat<=1000
   ·rw[if_pos hj] at h;cases hw;refine⟨p,j,[v],rfl,rfl,s3 _ _ Ap,by omega,by omega,zbr (AG (by simp;omega)),?_⟩;rw[R4];exact h.J4 ((s1.trans s2).trans s3) (TY ((hv.mono s2.del).mono s3.del) j.toNat)
   ·rw[if_neg hj] at h;exact h.elim
  |_=>exact h.elim
end
noncomputable def lN (f:Str):List Str->List D->Option D
 |n::ns,d::ds=>if f==n then some d else lN f ns ds
 |_,_=>none
theorem Uc {K:za0}{H:Hp}{f:Str}:∀ {fs:List (Str×V)}{ds:List D}{d:D},Al K H (fs.map zbt) ds->lN f (fs.map zb0) ds=some d->∃v,fs.lookup f=some v/\BM K H v d
 |[],ds,d,_,h=>by simp[lN] at h
 |(n,v)::fs,_,d,.cons hv ht,h=>by
  rw[za5,lN] at h;rw[zc1];cases q:f==n with
  |true=>rw[q,if_pos rfl] at h;cases h;exact⟨v,rfl,hv⟩
  |false=>rw[q,if_neg (by simp)] at h;exact Uc ht h
theorem OI {K:za0}{H:Hp}{f:Str}:∀ {fs:List (Str×V)}{ds:List D},Al K H (fs.map zbt) ds->lN f (fs.map zb0) ds=none->fs.lookup f=none
 |[],ds,_,h=>rfl
 |(n,v)::fs,_,.cons hv ht,h=>by
  rw[za5,lN] at h;rw[zc1];cases q:f==n with
  |true=>rw[q,if_pos rfl] at h;cases h
  |false=>rw[q,if_neg (by simp)] at h;exact OI ht h
structure Ja (K:za0)(x f:Str):Prop where
 ex:∃C,zb1 K mainGlobals x=some (some (.ref C))/\Yr K C/\Jv K C f
noncomputable def Na (cs:List Str)(f:Str)(d:D):M D:=match d with
 | .ins x ns ds=>if x∈cs then (match lN f ns ds with|some e=>.ok e|none=>.bad) else .bad
 |_=>.bad
section
variable {X:Cx}{E:XK}{WX:Str->Hp->Prop}{c:Bool}{P0:E8}{P:Addr->Prop}{H:Hp}{σ:St}{ρ:Aj}{a b e:Expr}{es:List Expr}{f g:Aj->M D}{fs:Aj->M (List D)}{fn:Aj->M OT}{pos:Pos}{te:TE}
theorem Dt (cs:List Str){fl:Str}(ig:∀x∈cs,Ja X.K x fl)(ha:DE X WX c a f)(hb:attributeBase a fl X.env (eval a X.env)=eval a X.env:=by rfl):DE X WX c (.Attribute a fl pos) (λ ρ=>(f ρ).bind (Na cs fl)):=by
 obtain⟨ta,a1,a2⟩:=ha;refine⟨_,qD a1 hb,λ P0 P σ H Q ρ E h=>?_⟩;dsimp only at h;refine a2 P0 P σ H _ ρ E ?_;cases e:f ρ with
 |bad|ex x=>rw[e] at h;exact h
 |ok d =>
  rw[e] at h;simp only[M.Ad] at h;intro v H1 s1 hv;unfold Na at h;split at h
  ·rename_i x ns ds;split at h
   ·rename_i hx;split at h
    ·rename_i d' el;cases hv with
     |ins hn ha hl =>
      obtain⟨C,bf,hc,e9⟩:=(ig x hx).ex;rw[hn] at bf;cases bf;obtain⟨v',l1,l2⟩:=Uc hl el;exact⟨_,_,_,_,v',rfl,(Ao ha).2,hc,e9,l1,h v' H1 s1 l2⟩
    ·exact h.elim
   ·exact h.elim
  ·exact h.elim
structure OJ (K:za0)(x m qual:Str)(st:Stmt)(ps:List Str):Prop where
 ex:∃C f fd,zb1 K mainGlobals x=some (some (.ref C))/\Yr K C/\Meth K C m f/\ZO K m qual st f fd/\Binds K fd ps []
structure HJ (P:Program)(w:World)(K:za0)(mg:Str->Option Value)(base:Heap)(x m:Str)(k n:Nat)(F:List D->M OT):Prop where
 ex:∃C fa fd ps,zb1 K mainGlobals x=some (some (.ref C))/\Yr K C/\Meth K C m fa/\E7 P w K mg base (YG P w base) k fa fd ps (spT K n F)/\Binds K fd ps []
theorem L6 {P:Program}{w:World}{K:za0}{mg:Str->Option Value}{base:Heap}{x m qual:Str}{st:Stmt}{N ps:List Str}{k n:Nat}(T:OJ K x m qual st ps)(S:Ai N ps (A8 st))(g:Aj->M Out)
 (hb:∀(f:Addr) (B5:Value) (A:Around) (outer:List Env) (s:Shared) (H:Hp) (E:XK),BU k (A.deeper (envOfC qual (A8 st) s.heap.objs.size f B5))->Vk (nT P w K mg base N qual (A8 st) f B5 A outer s H E) (EF K E) (AU st) g) (hn:ps.length=n:=by rfl):
 HJ P w K mg base x m (k+1) n (λ ds=>YR (g (DQ N ds))):=by
 obtain⟨C,f,fd,h1,h2,h3,F,hB⟩:=T.ex;subst hn;exact⟨⟨C,f,fd,ps,h1,h2,h3,wN F S g (hb f),hB⟩⟩
noncomputable def yN (x:Str):List (Str×(List D->M OT))->Option (List D->M OT)
 |[]=>none
 |(y,F)::r=>if x=y then some F else yN x r
theorem XB {x:Str}{F:List D->M OT}:∀ {ms:List (Str×(List D->M OT))},yN x ms=some F->(x,F)∈ms
 |[],h=>by cases h
 |(y,G)::r,h=>by
  unfold yN at h;split at h
  ·rename_i e;cases h;subst e;exact za3
  ·exact za4 _ (XB h)
noncomputable def FK (ms:List (Str×(List D->M OT)))(m:Str)(d:D):M (List D->M OT):=match d with
 | .ins x ns es=>(match yN x ms with
  |some F=>(match lN m ns es with|none=>.ok F|some _=>.bad)
  |none=>.bad)
 |_=>.bad
theorem Ud {ms:List (Str×(List D->M OT))}{m:Str}{d:D}{F:List D->M OT}(h:FK ms m d=.ok F):∃x ns es,d=.ins x ns es/\(x,F)∈ms/\lN m ns es=none:=by
 unfold FK at h;split at h
 ·rename_i x ns es;split at h
  ·rename_i G e;split at h
   ·rename_i e2;cases h;exact⟨x,ns,es,rfl,XB e,e2⟩
   ·cases h
  ·cases h
 ·cases h
theorem Rf {ms:List (Str×(List D->M OT))}{m:Str}{d:D}{x:Str}:FK ms m d≠.ex x:=λ h=>by
 unfold FK at h;split at h
 ·split at h
  ·split at h<;>cases h
  ·cases h
 ·cases h
noncomputable def eJ (X:Cx)(m:Str)(k:Nat)(E:XK)(ta:TE)(t:TA):TE:=λ σ H Q=>ta σ H λ x H1=>∃a C dx fs f fd ps n F,x=.ref a/\H1 a=some (.ins C dx fs)/\fs.lookup m=none/\Yr X.K C/\Meth X.K C m f/\E7 X.prog X.w X.K X.mg X.base (YG X.prog X.w X.base) k f fd ps (spT X.K n F)/\Binds X.K fd ps []/\
 t σ H1 λ vs H2=>spT X.K n F (x::vs) H2 Q E
theorem eK {pl:Sem Bool}{o:Expr}{m:Str}{k:Nat}{ta:TE}{t:TA}{apos:Pos}(he:PE X o ta)(hr:BU k X.A)(hx:Jw (YG X.prog X.w X.base) X E)(ha:PA X (e::es) t)
 (aD:starEach (e::es) X.env=(false,eval e X.env)::starEach es X.env:=by rfl) (hpl:(backTo pos (starEach es X.env)).any (·.1)=false:=by rfl)
 (ht:eval (.Call (.Attribute o m apos) (e::es) [] pos) X.env=(do
  let ov <-eval o X.env
  standAt apos.atName
  let (f,first) <-holding [ov] (getMethod ov m pl)
  callWith pos f first (backTo pos (starEach (e::es) X.env)) (backToKw pos (keywordEach [] X.env))):=by rfl):
 PE X (.Call (.Attribute o m apos) (e::es) [] pos) (eJ X m k E ta t):=by
 intro pins s σ H Q I h;refine PySem.W.methodCall_KW (pl:=pl) (Bh (he pins s σ H _ I h) λ u s1 zz=>?_) ht;obtain⟨x,H1,I1,rx,a,C,dx,fs,f,fd,ps,n,F,ex,ea,l,c,hm,hF,hb,q⟩:=zz;subst ex;obtain rfl:u=zbm a:=rx;refine O0 I1 ea c hm l ?_;refine PySem.W.callWith_K (first:=[.ref a]) (h₀:=X.base) I.ok.mod.Yl hm.kp (Bh (ha pos pins s1 σ H1 _ I1 q) λ us s2 ⟨vs,H2,I2,r,q2⟩=>⟨I2.Q9,?_⟩) aD hpl;exact VB (us:=.ref a::us) (vs:=.ref a::vs) hF hr hb .nil hx I2 (.cons rfl r) (by rw[zb8];exact q2)
theorem Z2 {pl:Sem Bool}{o:Expr}{m:Str}{k:Nat}{ta:TE}{apos:Pos}(he:PE X o ta)(hr:BU k X.A)(hx:Jw (YG X.prog X.w X.base) X E)
 (ht:eval (.Call (.Attribute o m apos) [] [] pos) X.env=(do
  let ov <-eval o X.env
  standAt apos.atName
  let (f,first) <-holding [ov] (getMethod ov m pl)
  callWith pos f first (backTo pos (starEach [] X.env)) (backToKw pos (keywordEach [] X.env))):=by rfl):
 PE X (.Call (.Attribute o m apos) [] [] pos) (eJ X m k E ta qG):=by
 intro pins s σ H Q I h;refine PySem.W.methodCall_KW (pl:=pl) (Bh (he pins s σ H _ I h) λ u s1 zz=>?_) ht;obtain⟨x,H1,I1,rx,a,C,dx,fs,f,fd,ps,n,F,ex,ea,l,c,hm,hF,hb,q⟩:=zz;subst ex;obtain rfl:u=zbm a:=rx;refine O0 I1 ea c hm l ?_;exact PySem.W.callWith_K0 (first:=[.ref a]) I1.Q9 hm.kp (VB (us:=[.ref a]) (vs:=[.ref a]) hF hr hb .nil hx I1 (.cons rfl .nil) q)
theorem XC {P:Program}{w:World}{K:za0}{mg:Str->Option Value}{base:Heap}{CX:WZ}{k k':Nat}{f:Addr}{fd:FuncData}{ps:List Str}{sp:Sp}(h:k<=k')(F:E7 P w K mg base CX k f fd ps sp):E7 P w K mg base CX k' f fd ps sp:=
 ⟨F.len,λ A stack s H args us vs Q E hr=>F.run A stack s H args us vs Q E (hr.mono h)⟩
theorem IY {o:Expr}{fo:Aj->M D}{m:Str}{k n:Nat}{apos:Pos}{pl:Sem Bool}(ms:List (Str×(List D->M OT)))(xo:Hs X E)(qm:∀p∈ms,∃k',k'<=k/\HJ X.prog X.w X.K X.mg X.base p.1 m k' n p.2)(hr:BU k X.A)(ho:DE X (EF X.K E) true o fo)(ha:DA X (EF X.K E) true (e::es) fs)(a5:(e::es).length+1=n)
 (aD:starEach (e::es) X.env=(false,eval e X.env)::starEach es X.env:=by rfl) (hpl:(backTo pos (starEach es X.env)).any (·.1)=false:=by rfl)
 (ht:eval (.Call (.Attribute o m apos) (e::es) [] pos) X.env=(do
  let ov <-eval o X.env
  standAt apos.atName
  let (f,first) <-holding [ov] (getMethod ov m pl)
  callWith pos f first (backTo pos (starEach (e::es) X.env)) (backToKw pos (keywordEach [] X.env))):=by rfl):
 DN X (EF X.K E) (.Call (.Attribute o m apos) (e::es) [] pos) (λ ρ=>(fo ρ).bind λ d=>(FK ms m d).bind λ F=>(fs ρ).bind λ ds=>F (d::ds)):=by
 obtain⟨ta,a1,a2⟩:=ho;obtain⟨tb,b1,b2,b3⟩:=ha;refine⟨_,eK (pl:=pl) a1 hr xo.call b1 aD hpl ht,λ P0 P σ H Q ρ Ev h=>?_⟩;dsimp only at h;refine a2 P0 P σ H _ ρ Ev ?_;refine YB h λ d h=>?_;intro v H1 s1 hv;cases q2:FK ms m d with
 |bad=>rw[q2] at h;exact h.elim
 |ex y=>exact (Rf q2).elim
 |ok F =>
  rw[q2] at h;simp only[M.Ad] at h;obtain⟨x,ns,wE,rfl,aK,qo⟩:=Ud q2;obtain⟨k',ji,M0⟩:=qm _ aK;obtain⟨C,fa,fd,ps,h1,h2,h3,h4,h5⟩:=M0.ex;cases hv with
  |ins hn hH hl =>
   rw[hn] at h1;cases h1;refine⟨_,_,_,_,fa,fd,ps,n,F,rfl,(Ao hH).2,OI hl qo,h2,h3,XC ji h4,h5,?_⟩;refine b2 P0 P σ H1 _ ρ (Ev.same s1) ?_;cases q3:fs ρ with
   |bad=>rw[q3] at h;exact h
   |ex y=>rw[q3] at h;exact λ H' s=>h H' (s1.trans s)
   |ok ds =>
    rw[q3] at h;simp only[M.Ad] at h;intro vs H2 s2 a7;have jr:=(BM.ins hn hH hl).mono s2.del;exact⟨by rw[za9,a7.length,b3 ρ ds q3];exact a5,P,_,((Ev.same s1).same s2).Cr,.cons jr a7,h.same (s1.trans s2)⟩
theorem FL {o:Expr}{fo:Aj->M D}{m:Str}{k:Nat}{apos:Pos}{pl:Sem Bool}(ms:List (Str×(List D->M OT)))(xo:Hs X E)(qm:∀p∈ms,∃k',k'<=k/\HJ X.prog X.w X.K X.mg X.base p.1 m k' 1 p.2)(hr:BU k X.A)(ho:DE X (EF X.K E) true o fo)
 (ht:eval (.Call (.Attribute o m apos) [] [] pos) X.env=(do
  let ov <-eval o X.env
  standAt apos.atName
  let (f,first) <-holding [ov] (getMethod ov m pl)
  callWith pos f first (backTo pos (starEach [] X.env)) (backToKw pos (keywordEach [] X.env))):=by rfl):
 DN X (EF X.K E) (.Call (.Attribute o m apos) [] [] pos) (λ ρ=>(fo ρ).bind λ d=>(FK ms m d).bind λ F=>F [d]):=by
 obtain⟨ta,a1,a2⟩:=ho;refine⟨_,Z2 (pl:=pl) a1 hr xo.call ht,λ P0 P σ H Q ρ Ev h=>?_⟩;dsimp only at h;refine a2 P0 P σ H _ ρ Ev ?_;refine YB h λ d h=>?_;intro v H1 s1 hv;cases q2:FK ms m d with
 |bad=>rw[q2] at h;exact h.elim
 |ex y=>exact (Rf q2).elim
 |ok F =>
  rw[q2] at h;simp only[M.Ad] at h;obtain⟨x,ns,wE,rfl,aK,qo⟩:=Ud q2;obtain⟨k',ji,M0⟩:=qm _ aK;obtain⟨C,fa,fd,ps,h1,h2,h3,h4,h5⟩:=M0.ex;cases hv with
  |ins hn hH hl =>
   rw[hn] at h1;cases h1;refine⟨_,_,_,_,fa,fd,ps,1,F,rfl,(Ao hH).2,OI hl qo,h2,h3,XC ji h4,h5,?_⟩;exact⟨rfl,P,_,(Ev.same s1).Cr,.cons (BM.ins hn hH hl) .nil,h.same s1⟩
end
section
variable {X:Cx}{E:XK}{WX:Str->Hp->Prop}{c:Bool}{P0:E8}{P:Addr->Prop}{H:Hp}{σ:St}{ρ:Aj}{a b e:Expr}{es:List Expr}{f g:Aj->M D}{fs:Aj->M (List D)}{fn:Aj->M OT}{pos:Pos}{te:TE}
structure rV (K:za0)(mg:Str->Option Value)(x:Str)(C:Addr):Prop where
 ns:zb1 K mainGlobals x=some (some (.ref C))
 mg':mg x=some (.ref C)
theorem Rg {p dx C:Addr}(hp:H p=none)(hd:H dx=none):Ak H (upd (upd H dx (.own p)) p (.ins C dx [])):=λ b u q=>by
 rw[Ah (AH q hp),Ah (AH q hd)];exact q
structure xB (P:Program)(w:World)(K:za0)(mg:Str->Option Value)(base:Heap)(x:Str)(k n:Nat)(F:OT->List D->M (OT×OT)):Prop where
 ex:∃C fa fd ps,rV K mg x C/\Mk K C fa/\E7 P w K mg base (YG P w base) k fa fd ps (R9 K n F)/\Binds K fd ps []
noncomputable def OK (m:M (OT×OT)):M OT:=match m with
 | .ok (t,.sh .AJ)=>.ok t
 |_=>.bad
theorem XD {x:Str}{k n:Nat}{F:OT->List D->M (OT×OT)}{p:Pos}(xo:Hs X E)(G:xB X.prog X.w X.K X.mg X.base x k n F)(hr:BU (k+1) X.A)(hg:Gl X x)(ha:DA X (EF X.K E) true (e::es) fs)(a5:(e::es).length+1=n)
 (aN:(x==("__debug__" : Str))=false:=by decide) (he:starEach (e::es) X.env=(false,eval e X.env)::starEach es X.env:=by rfl) (hpl:(backTo pos (starEach es X.env)).any (·.1)=false:=by rfl):
 DN X (EF X.K E) (.Call (.Name x p) (e::es) [] pos) (λ ρ=>(fs ρ).bind λ ds=>OK (F (.ins x [] []) ds)):=by
 obtain⟨C,fa,fd,ps,hT,hM,hF,hb⟩:=G.ex;obtain⟨ta,a1,a2,a3⟩:=ha;refine⟨_,X1 hM hF hr hg hT.mg' hb .nil xo.call a1 aN he hpl,λ P0 P σ H Q ρ Ev h=>?_⟩;dsimp only at h;refine a2 P0 P σ H _ ρ Ev ?_;cases q:fs ρ with
 |bad|ex x=>rw[q] at h;exact h
 |ok ds =>
  rw[q] at h;simp only[M.Ad] at h;intro vs H1 s1 a7 y dx hy hd ad;rw[zb8];have E1:=Ev.same s1;have sm:=Rg (C:=C) hy hd;have b9:∀a∈[y],H1 a=none:=λ a ha=>by rw[za7.mp ha];exact hy
  refine⟨by rw[za9,a7.length,a3 ρ ds q];exact a5,PU P [y],y,.ins x [] [],[y],vs,ds,rfl,λ a ha=>?_,λ a ha=>.inr ha,by simp,C1.ins (fs:=[]) hT.ns Ap .nil,a7.mono (CB sm b9),?_⟩
  ·rcases ha with ha|ha
   ·exact (E1.Cr a ha).same sm
   ·rw[za7.mp ha];exact⟨_,Ap,λ xs=>⟨(λ z=>by cases z),(λ z w=>by cases w)⟩⟩
  ·cases q2:F (.ins x [] []) ds with
   |bad|ex z=>rw[q2] at h;exact h
   |ok tr =>
    obtain⟨t,r⟩:=tr;rw[q2] at h;simp only[OK] at h;intro v H' P' ag fr k1 k2 k3 k4 k5 k6 k7 k8 k9 qi;cases r with
    |sh d =>
     cases d with
     |AJ =>
      cases k6 with
      |sh hv =>
       cases hv;refine⟨rfl,h _ ag H' ?_ ?_ k5 ?_⟩
       ·intro b u eb;have e1:=s1 b u eb;have bC:b≠y:=λ z=>by rw[z,hy] at e1;cases e1
        have e2:=sm b u e1;by_cases hP:P b
        ·exact (k1 b (.inl hP) (by simp[bC])).2.trans e2
        ·exact (Ao (k3 b u (by rw[Az λ z=>z.elim hP λ w=>bC (za7.mp w)];exact e2))).2
       ·intro b js;cases eb:H b with
        |none=>rfl
        |some u =>
         exfalso;have e1:=s1 b u eb;have bC:b≠y:=λ z=>by rw[z,hy] at e1;cases e1
         have e2:=sm b u e1;have hn:=λ z=>bC (za7.mp ((k9 b js).2 z));exact (Ao (k3 b u (by rw[Az hn];exact e2))).1 (k9 b js).1
       ·refine k4.move (λ b u eb=>?_) λ _ _=>rfl;obtain⟨g1,g2⟩:=Ao eb;rw[Az]
        ·exact g2
        ·rintro (z|z)
         ·have bC:b≠y:=λ w=>by
           obtain⟨o,e1,_⟩:=E1.Cr b z;rw[w,hy] at e1;cases e1
          exact g1 (k1 b (.inl z) (by simp[bC])).1
         ·exact g1 (k9 b z).1
     |_=>exact h.elim
    |_=>exact h.elim
end
noncomputable def Rh (i:Nat)(ρ:Aj)(π:List Nat):M (Str×List Str×List D):=match Vm i ρ π with
 |some (.ins x ns ts)=>(match Ei ts with|some vs=>.ok (x,ns,vs)|none=>.bad)
 |_=>.bad
theorem eL {i:Nat}{ρ:Aj}{π:List Nat}{x:Str}(h:Rh i ρ π=.ex x):False:=by
 unfold Rh at h;split at h
 ·split at h<;>cases h
 ·cases h
noncomputable def eM (f:Str):List Str->List Str
 |[]=>[f]
 |g::r=>if g=f then g::r else g::eM f r
noncomputable def eO (f:Str)(d:D):List Str->List D->List D
 |[],_=>[d]
 |g::r,e::t=>if g=f then d::t else e::eO f d r t
 |_::_,[]=>[]
theorem Ue (f:Str)(v:V):∀fs:List (Str×V),(ED f v fs).map zb0=eM f (fs.map zb0)
 |[]=>rfl
 |(g,x)::r=>by
  rw[za5,eM,ED];split
  ·rfl
  ·rw[za5,Ue f v r]
theorem Ug {K:za0}{H:Hp}{f:Str}{v:V}{d:D}(hv:BM K H v d):∀ {fs:List (Str×V)}{ds:List D},Al K H (fs.map zbt) ds->Al K H ((ED f v fs).map zbt) (eO f d (fs.map zb0) ds)
 |[],_,.nil=>.cons hv .nil
 |(g,x)::r,_,.cons hx ht=>by
  rw[za5,eO,ED];split
  ·exact .cons hv ht
  ·exact .cons hx (Ug hv ht)
section
variable {X:Cx}{E:XK}{WX:Str->Hp->Prop}{c:Bool}{P0:E8}{P:Addr->Prop}{H:Hp}{σ:St}{ρ:Aj}{a b e:Expr}{f g:Aj->M D}{fn:Aj->M OT}{fp:Aj->M (List Nat)}{pos:Pos}{i:Nat}{es:List Expr}{fs:Aj->M (List D)}
theorem Bo.ins {K:za0}{π:List Nat}{v:V}{t1:OT}{x:Str}{ns:List Str}{vs:List D}(pl:Bo K P H σ ρ i π v t1)(E:Aq K P0 P H σ ρ)(h:Rh i ρ π=.ok (x,ns,vs)):
 t1=.ins x ns (vs.map .sh)/\∃l C dx fs,v=.ref l/\Al K (del H P) (fs.map zbt) vs/\C1 K H P (.ref l) (.ins x ns (vs.map .sh)) [l]/\zb1 K mainGlobals x=some (some (.ref C))/\H l=some (.ins C dx fs)/\ns=fs.map zb0:=by
 unfold Rh at h;rw[pl.at] at h;split at h
 ·rename_i x' db qh e;split at h
  ·rename_i aB e';cases e;cases h;have z:=CG e';subst z;obtain⟨au,o1,hp,nd⟩:=pl.own E;generalize ht:OT.ins x ns (vs.map .sh)=t at o1;cases o1 with
   |ins hn hh hr =>
    injection ht with h1 h2 h3
    subst h1 h2 h3;obtain⟨rfl,hs⟩:=hr.rM;exact⟨rfl,_,_,_,_,rfl,hs,.ins hn hh hr,hn,hh,rfl⟩
   |_=>cases ht
  ·cases h
 ·cases h
theorem NQ (cs:List Str){fl:Str}(ig:∀x∈cs,Ja X.K x fl)(ha:DP X WX a i fp)(hv:DE X WX true e f){pos':Pos}(hs:swapsWith e (some (.Attribute a fl pos')) pos.line X.env=pure false:=by rfl):
 DS X WX (.Assign [.Attribute a fl pos'] e pos) (λ ρ=>(f ρ).bind λ v=>(fp ρ).bind λ π=>(Rh i ρ π).bind λ z=>if z.1∈cs/\z.2.1.length<1000 then Ha i ρ π (.ins z.1 (eM fl z.2.1) ((eO fl v z.2.1 z.2.2).map .sh)) else .bad):=by
 obtain⟨ta,a1,a2⟩:=ha;obtain⟨tv,v1,v2⟩:=hv;refine⟨_,qE a1 v1 hs,λ P0 P σ H Z ρ E h=>?_⟩;dsimp only at h;refine v2 P0 P σ H _ ρ E ?_;refine iF h E λ d h=>?_;intro w H0 s0 hw;have E0:=E.same s0;refine a2 P0 P σ H0 _ ρ E0 ?_;cases q:fp ρ with
 |bad=>rw[q] at h;exact h
 |ex x=>rw[q] at h;exact λ H' s=>h H' P ((E.tr s0).trans (E0.tr s))
 |ok π =>
  rw[q] at h;simp only[M.Ad] at h;intro v t1 H1 s1 pl;have E1:=E0.same s1;have wP:=(E.tr s0).trans (E0.tr s1);cases q3:Rh i ρ π with
  |bad=>rw[q3] at h;exact h.elim
  |ex x=>exact (eL q3).elim
  |ok z =>
   obtain⟨x,ns,vs⟩:=z;rw[q3] at h;simp only[M.Ad] at h;by_cases hc:x∈cs/\ns.length<1000
   ·rw[if_pos hc] at h;obtain⟨rfl,l,C,dx,fs,rfl,c7,ot,hn,hH,rfl⟩:=pl.ins E1 q3;obtain⟨C',bf,ja,e9⟩:=(ig x hc.1).ex;rw[hn] at bf;cases bf;have wS:=hw.mono s1.del;obtain⟨c,p,t0,g1,g2,E3,t3⟩:=E1.rQ (o':=.ins C dx (ED fl w fs)) (u:=.ins x (eM fl (fs.map zb0)) ((eO fl d (fs.map zb0) vs).map .sh)) pl ot (λ _=>⟨λ z=>(by cases z),λ _ z=>by cases z⟩) (λ mv=>by
     have:=C1.ins (K:=X.K) (H:=upd H1 l (.ins C dx (ED fl w fs))) (P:=P) (p:=l) (fs:=ED fl w fs) (x:=x) hn Ap (((Ug wS c7).mono mv).ows);rw[Ue] at this;exact this)
    rw[IH g1 g2] at h;exact⟨l,C,dx,fs,rfl,hH,ja,e9,by have:=hc.2;rw[za2] at this;exact this,h _ _ _ (wP.trans t3) E3⟩
   ·rw[if_neg hc] at h;exact h.elim
end
section
variable {X:Cx}{E:XK}{WX:Str->Hp->Prop}{c:Bool}{P0:E8}{P:Addr->Prop}{H:Hp}{σ:St}{ρ:Aj}{a b e:Expr}{f g:Aj->M D}{fn:Aj->M OT}{fp:Aj->M (List Nat)}{pos:Pos}{i:Nat}{es:List Expr}{fs:Aj->M (List D)}
noncomputable def eQ (i:Nat)(ρ:Aj)(π:List Nat)(ds:List D):M (Aj×OT):=match ds[ds.length-1]? with
 |some d=>(match ρ[i]? with
  |some (some c)=>(match treeOf c with|some (p,t)=>.ok (ρ.set i (some (toCl p (EH t π (.lst (ds.dropLast.map .sh))))),.sh d)|none=>.bad)
  |_=>.bad)
 |none=>.bad
theorem XE {π:List Nat}{ds:List D}{d:D}{c:Cl}{p:Option Nat}{t:OT}(h:ρ[i]?=some (some c))(ht:treeOf c=some (p,t))(hd:ds[ds.length-1]?=some d):eQ i ρ π ds=.ok (ρ.set i (some (toCl p (EH t π (.lst (ds.dropLast.map .sh))))),.sh d):=by
 unfold eQ;simp only[h,ht,hd]
theorem Qp {K:za0}{H:Hp}{vs:List V}{ds:List D}(h:Al K H vs ds):Al K H vs.dropLast ds.dropLast:=by
 rw[List.dropLast_eq_take,List.dropLast_eq_take,h.length];exact M6 _ h
theorem rW (ha:DP X WX a i fp){apos ac:Pos}(aj:attributeBase a "pop" X.env (eval a X.env)=eval a X.env:=by rfl)(ak:(apos.endLine==ac.line)=true:=by rfl):
 DX X WX (.Call (.Attribute a "pop" apos) [] [] ac) (λ ρ=>(fp ρ).bind λ π=>(Ta i ρ π).bind λ ds=>eQ i ρ π ds):=by
 obtain⟨ta,a1,a2⟩:=ha;refine⟨_,qO zcc PySem.F.slot_list_pop PySem.F.type_list_pop qP a1 aj ak,λ P0 P σ H Q ρ E h=>?_⟩;dsimp only at h;refine a2 P0 P σ H _ ρ E ?_;cases q:fp ρ with
 |bad=>rw[q] at h;exact h
 |ex x=>rw[q] at h;exact λ H' s=>h H' P (E.tr s)
 |ok π =>
  rw[q] at h;simp only[M.Ad] at h;intro v t1 H1 s1 pl;have E1:=E.same s1;cases q1:Ta i ρ π with
  |bad=>rw[q1] at h;exact h.elim
  |ex x=>exact (W3 q1).elim
  |ok ds =>
   rw[q1] at h;simp only[M.Ad] at h;obtain⟨rfl,l,xs,rfl,hl,ol⟩:=pl.shl E1 q1;refine⟨.inl ⟨rfl,xs,.of hl⟩,?_⟩;cases hd:ds[ds.length-1]? with
   |none=>unfold eQ at h;rw[hd] at h;exact h.elim
   |some d =>
    obtain⟨y,hy,mn⟩:=ol.get hd;obtain⟨c,p,t0,g1,g2,E3,t3⟩:=E1.rN pl hl ol.ows (us:=ds.dropLast.map .sh) (ys:=xs.dropLast) (Qp ol).ows (by simp) (by simp) (by simp);rw[XE g1 g2 hd] at h;refine⟨l,xs,y,rfl,rfl,hl,by rw[ol.length];exact hy,?_⟩;have sd:Ak (del H1 P) (del (upd H1 l (.lst xs.dropLast)) P):=t3.1;exact h y [] _ _ ((E.tr s1).trans t3) E3 (.sh (mn.mono sd)) (by simp) (by simp)
end
theorem BG {K:za0}{f:Str}:∀y∈([]:List Str),Ja K y f:=λ y h=>by cases h
theorem Bf {K:za0}{f x:Str}{xs:List Str}(h:Ja K x f)(t:∀y∈xs,Ja K y f):∀y∈x::xs,Ja K y f:=λ y hy=>by
 rcases zaa.mp hy with rfl|hy
 ·exact h
 ·exact t y hy
theorem CD {P:Program}{w:World}{K:za0}{mg:Str->Option Value}{base:Heap}{m:Str}{k n:Nat}:∀p∈([]:List (Str×(List D->M OT))),∃k',k'<=k/\HJ P w K mg base p.1 m k' n p.2:=λ p h=>by cases h
theorem C2 {P:Program}{w:World}{K:za0}{mg:Str->Option Value}{base:Heap}{m x:Str}{k k' n:Nat}{F:List D->M OT}{ms:List (Str×(List D->M OT))}(hk:k'<=k)(h:HJ P w K mg base x m k' n F)(t:∀p∈ms,∃k',k'<=k/\HJ P w K mg base p.1 m k' n p.2):
 ∀p∈(x,F)::ms,∃k',k'<=k/\HJ P w K mg base p.1 m k' n p.2:=λ p hp=>by
 rcases zaa.mp hp with rfl|hp
 ·exact⟨k',hk,h⟩
 ·exact t p hp
end L2
set_option maxRecDepth 1000000
set_option maxHeartbeats 0
namespace L2
open PySem
theorem IZ:entryFor table "dict.update.loop" = some Builtin.«dict.update.loop»:=by unfold entryFor;rfl
open PySem PySem.Spec PySem.Calls PyProof.Rows PySem.W PySem.Builtin PySem.Builtin.ObjectAttr
section
variable {prog:Program}{w:World}{A:Around}{E:Value->Shared->Prop}{s:Shared}
theorem call_meets {T id:String}{nm:Str}{B:Builtin}{self:Value}{rest:List Value}{Sp:PySem.Spec}{Q:Value->Shared->Prop}(SL:Slot T nm id)(hB:entryFor table id=some B)(ht:s.TypeIs self T)(ha:argsOk id ⟨self::rest,[]⟩)(m:Meets (B ⟨self::rest,[]⟩) Sp)
 (h:Sp A (λ r s'=>match r with | .ok (.ret v)=>Q v s' | .ok _=>False | .error e=>E e s') s):wpAny (model prog w) A (call (.builtin id) (self::rest)) Q E s:=
 wpAny_call (codeAny_call_builtin SL.plain hB (SL.check _ _ _ _ _ _ _ _ ht ha (m prog w A _ s h)))
theorem MH {l:Addr}{xs:Array Value}{k:Nat}{sl:Array (Option Value)}{Q:Option Value->Shared->Prop}(hh:A.handled=none)(hl:s.heap.get? l=some {cls:=.type "list",data:=.seq xs k,slots:=sl})
 (h:∀h' tk,(∀b o,s.heap.get? b=some o->h'.get? b=some o)->Q none {s with heap:=h',toks:=tk}):wpAny (model prog w) A (getAttr? (.ref l) "keys") Q E s:=by
 have miss:typeLookup (.type "list") "keys" = pure none:=am_miss_of_fast (by decide +kernel);have T0:∀hp:Heap,hp.get? l=some {cls:=.type "list",data:=.seq xs k,slots:=sl}->Looks (model prog w) hp (typeOf (.ref l)) (.type "list"):=λ hp e=>(Looks.ld e).andThen .now;have SL:=PySem.F.slot_list_getattribute;have aA:(onTheHeap (Value.type "list")&&Value.builtin "list.__getattribute__" == Value.builtin "object.__getattribute__")=false:=rfl;have qp:(false&&onTheHeap (Value.builtin "list.__getattribute__"))=false:=rfl;unfold getAttr? getAttrBy?;refine wpAny_bind (wpAny_mkText (wpAny_bind (wpAny_attempt ?_)));unfold getAttrBy;refine wpAny_holding (wpAny_bind ((T0 _ hl).at (wpAny_bind ?_)));rw[SL.lookup];refine wpAny_pure ?_;dsimp only;rw[aA,if_neg zaw];unfold getAttrByItsOwn hookBefore;rw[if_neg (show ¬ onTheHeap (Value.type "list")=true from zaw)];refine wpAny_bind (wpAny_pure (wpAny_bind (wpAny_attempt (wpAny_holding ?_))));unfold callGetattribute;rw[qp,if_neg zaw];unfold boundAndCalled;rw[SL.bind];refine wpAny_bind (wpAny_pure ?_);dsimp only;refine call_meets SL am_entry_list_getattribute ⟨_,hl,rfl⟩ (PySem.F.args_list_getattribute_2 _ _) (meets_getattribute_miss_list l xs k sl "keys" s.toks miss rfl (by decide)) ⟨hl,hh,λ h' tk e ne=>?_⟩;dsimp only;obtain⟨kp,nw,t,u,he⟩:=ne;have T1:Looks (model prog w) h' (typeOf (.ref e)) (.type "AttributeError"):=(Looks.ld he).andThen .now;unfold getattributeRaised isInstance;refine wpAny_bind (wpAny_bind (T1.at ?_));rw[sub_AttributeError];refine wpAny_pure ?_;rw[if_pos rfl];unfold hookBehind;rw[if_neg (show ¬ onTheHeap (Value.type "list")=true from zaw),am_list_getattr_none];refine wpAny_bind (wpAny_pure ?_);unfold hookOrError attributeErrorLeaves;dsimp only;rw[if_pos (show (!false)=true from rfl)];refine wpAny_bind (wpAny_throw ?_);refine wpAny_bind (wpAny_bind (T1.at ?_));rw[sub_AttributeError];refine wpAny_pure ?_;rw[if_pos rfl];exact wpAny_pure (h h' tk kp)
theorem Ri {t:Addr}{aa:Array Value}{Q:List Value->Shared->Prop}(ht:IsTup s.heap t aa)(h:Q aa.toList s):wpAny (model prog w) A (Dict.pairItems (.ref t)) Q E s:=by
 obtain⟨o,h1,h2,n,h3⟩:=ht;have T0:Looks (model prog w) s.heap (typeOf (.ref t)) (.type "tuple"):=h2▸(Looks.ld h1).andThen .now;unfold Dict.pairItems;refine wpAny_bind (T0.at ?_);have hx:(Value.type "tuple" == Value.type "list" || Value.type "tuple" == Value.type "tuple")=true:=by decide
 rw[if_pos hx];exact wpAny_bind (wpAny_seqItems h1 h3 (wpAny_pure h))
theorem CW:plainId "dict.update.loop" = true:=by decide +kernel
theorem OL {K:Type}[DecidableEq K]{knd:KeyKind prog w K}{h h':Heap}{d I l:Addr}{i:Nat}{xs:List (List K×Addr×Value)}(hd:h.DictOfH (tupleKind knd) d xs)(hit:h.IsListIter I l i)(sb:∀b o,b≠I->h.get? b=some o->h'.get? b=some o):
 h'.DictOfH (tupleKind knd) d xs:=by
 obtain⟨o,es,ep,h1,h2,h3,h4,h5,h6⟩:=hd;obtain⟨oi,i1,i2,i3⟩:=hit;refine⟨o,es,ep,sb d o (λ z=>?_) h1,h2,h3,h4,λ x hx=>?_,h6⟩
 ·subst z;rw[i1] at h1;cases h1;rw[i3] at h3;cases h3
 ·obtain⟨ok,aa,n,k1,k2,k3,k4⟩:=h5 x hx;refine⟨ok,aa,n,sb _ _ (λ z=>?_) k1,k2,k3,k4⟩;rw[z,i1] at k1;cases k1;rw[i3] at k3;cases k3
theorem W8 {K:Type}[DecidableEq K]{knd:KeyKind prog w K}{R:Result->Shared->Prop}{d I l:Addr}{items:Array Value}{h0:Heap}(ps:List (List K×Addr×Value))(hh:A.handled=none)(aU:A.in1.units<cLine)(gh:l≠I)(qr:d≠I)(fc:l≠d)
 (jt:ps.length=items.size) (hsz:items.size+1<=sizeLine) (hl:h0.IsList l items)
 (hp:∀(j:Nat) p,ps[j]?=some p->(p.2.1≠d/\p.2.1≠I/\(tupleKind knd).is h0 p.1 p.2.1)/\∃t,items[j]?=some (.ref t)/\t≠d/\t≠I/\IsTup h0 t #[.ref p.2.1,p.2.2]):
 ∀(m i:Nat) (xs:List (List K×Addr×Value)) (s:Shared),items.size-i=m->i<=items.size->xs.length<=i->s.heap.IsListIter I l i->s.heap.DictOfH (tupleKind knd) d xs->(∀b o,b≠d->b≠I->h0.get? b=some o->s.heap.get? b=some o)->
  (∀h' tk,h'.DictOfH (tupleKind knd) d ((ps.drop i).foldl (λ acc p=>storedH acc p.1 p.2.1 p.2.2) xs)->(∀b o,b≠d->b≠I->h0.get? b=some o->h'.get? b=some o)->R (.ok (.ret .none)) {s with heap:=h',toks:=tk})->
  codeAny (model prog w) A (.builtin "dict.update.loop" ⟨[.ref d,.ref I,rawInt i,.none],[]⟩) R s:=by
 intro m;induction m with
 |zero =>
  intro i xs s hm hi qt hit hd hf h;have bo:i=items.size:=by omega
  refine codeAny_builtin IZ ?_;rw[zco CW _];show wpAny _ A.in1 (pyNext (.ref I) >>= _) _ _ s;refine wpAny_bind (wpAny_pyNext_list_end (A:=A.in1) hh hit (hl.at λ o e=>hf l o fc gh e) (by simp[bo]) λ h' eb=>?_);have hd2:=OL hd hit λ b o hb e=>eb b o hb e;show wpAny _ A.in1 (Dict.addKeywords d [] >>= _) _ _ _;unfold Dict.addKeywords;refine wpAny_bind (wpAny_bind ?_);refine wpAny_pure (wpAny_pure (wpAny_pure ?_));have ed:ps.drop i=[]:=by rw[List.drop_eq_nil_iff];omega
  rw[ed] at h;exact h h' s.toks hd2 λ b o h1 h2 e=>eb b o h2 (hf b o h1 h2 e)
 |succ m ih =>
  intro i xs s hm hi qt hit hd hf h;have af:i<items.size:=by omega
  obtain⟨p,gw⟩:∃p,ps[i]?=some p:=⟨ps[i]'(by omega),za8 _⟩;obtain⟨⟨p1,p2,p3⟩,t,ht,t1,t2,t3⟩:=hp i p gw;refine codeAny_builtin IZ ?_;rw[zco CW _];show wpAny _ A.in1 (pyNext (.ref I) >>= _) _ _ s;refine wpAny_bind (wpAny_pyNext_list_item (A:=A.in1) hit (hl.at λ o e=>hf l o fc gh e) ht λ h' bp sb=>?_);have hd2:h'.DictOfH (tupleKind knd) d xs:=OL hd hit λ b o hb e=>(sb.2 b hb).trans e;have ii:∀b o,b≠d->b≠I->h0.get? b=some o->h'.get? b=some o:=λ b o h1 h2 e=>(sb.2 b h2).trans (hf b o h1 h2 e);have t4:IsTup h' t #[.ref p.2.1,p.2.2]:=by
   obtain⟨o,e1,e2⟩:=t3;exact⟨o,ii t o t1 t2 e1,e2⟩
  have p4:(tupleKind knd).is h' p.1 p.2.1:=by
   obtain⟨o,aa,n,e1,e2⟩:=p3;exact⟨o,aa,n,ii _ o p1 p2 e1,e2⟩
  dsimp only;refine wpAny_bind (wpAny_holding (wpAny_bind (wpAny_tryCatch (Ri t4 ?_))));show wpAny _ A.in1 (holding [.ref p.2.1,p.2.2] (dictSet d (.ref p.2.1) p.2.2)) _ _ _;refine wpAny_holding (wpAny_dictSet_heap (knd:=tupleKind knd) (hsz:=by omega) aU p4 hd2 λ h3 gx ju=>?_);refine wpAny_pure ⟨plainId_quiet CW _,?_⟩;have gy:h3.IsListIter I l (i+1):=by
   obtain⟨o,e1,e2⟩:=bp;exact⟨o,(ju.2 I (zbi qr)).trans e1,e2⟩
  have ed:ps.drop i=p::ps.drop (i+1):=by
   rw[zcl (by omega:i<ps.length)];rw[za8 (by omega:i<ps.length)] at gw;rw[zas gw]
  rw[ed,zav] at h;have dm:(storedH xs p.1 p.2.1 p.2.2).length<=i+1:=by
   unfold storedH;split
   ·rw[za2];omega
   ·rw[zaj,zbf];omega
  have q:=ih (i+1) (storedH xs p.1 p.2.1 p.2.2) {s with heap:=h3,toks:=s.toks+(tupleKind knd).draws p.1} (by omega) (by omega) dm gy gx (λ b o h1 h2 e=>(ju.2 b h1).trans (ii b o h1 h2 e)) h;exact q
theorem Nb {K:Type}[DecidableEq K]{knd:KeyKind prog w K}{Q:Value->Shared->Prop}{l:Addr}{items:Array Value}{n:Nat}{sl:Array (Option Value)}(ps:List (List K×Addr×Value))(hh:A.handled=none)(aU:A.units+2<cLine)
 (jt:ps.length=items.size) (hsz:items.size+1<=sizeLine) (hl:s.heap.get? l=some {cls:=.type "list",data:=.seq items n,slots:=sl})
 (hp:∀(j:Nat) p,ps[j]?=some p->(tupleKind knd).is s.heap p.1 p.2.1/\∃t,items[j]?=some (.ref t)/\IsTup s.heap t #[.ref p.2.1,p.2.2])
 (h:∀h' tk,h'.DictOfH (tupleKind knd) s.heap.objs.size (ps.foldl (λ acc p=>storedH acc p.1 p.2.1 p.2.2) [])->(∀b o,s.heap.get? b=some o->h'.get? b=some o)->Q (.ref s.heap.objs.size) {s with heap:=h',toks:=tk}):
 wpAny (model prog w) A (call (.type "dict") [.ref l]) Q E s:=by
 refine callType_codes (Q₁:=λ obj s₁=>obj=.ref s.heap.objs.size/\s₁={s with heap:=s.heap.push {cls:=.type "dict",data:=.dict #[]} }) PySem.F.kt_called_dict (PySem.F.kt_typeCall_dict_1 _) PySem.F.entry_dict_init
  (kt_code_dict_new _ ⟨rfl,rfl⟩) λ obj s₁ h₁=>?_
 obtain⟨rfl,rfl⟩:=h₁;have hS:(s.heap.push {cls:=.type "dict",data:=.dict #[]}).get? s.heap.objs.size=some {cls:=.type "dict",data:=.dict #[]}:=zap _ rfl;have ll:l<s.heap.objs.size:=zaf hl;have bg:(s.heap.push {cls:=.type "dict",data:=.dict #[]}).get? l=some {cls:=.type "list",data:=.seq items n,slots:=sl}:=zab _ hl;refine⟨⟨_,hS,rfl⟩,PySem.F.args_dict_init_2 _ _,?_⟩;have TD:Looks (model prog w) (s.heap.push {cls:=.type "dict",data:=.dict #[]}) (typeOf (.ref s.heap.objs.size)) (.type "dict"):=(Looks.ld hS).andThen .now;have TL:Looks (model prog w) (s.heap.push {cls:=.type "dict",data:=.dict #[]}) (typeOf (.ref l)) (.type "list"):=(Looks.ld bg).andThen .now;unfold Builtin.«dict.__init__» Dict.selfAndRest Dict.notOrdered;dsimp only;rw[if_pos (by decide)];refine wpAny_bind (wpAny_bind (wpAny_bind (TD.at ?_)));rw[if_neg (by decide)];refine wpAny_pure ?_;unfold Dict.addrOf;refine wpAny_bind (wpAny_pure (wpAny_pure ?_));unfold Dict.updateCommon Dict.updateFrom;dsimp only;refine wpAny_bind (TL.at ?_);rw[if_pos (by decide)];refine wpAny_bind (MH (A:=A.in1.in1) hh bg λ h2 wT gz=>?_);rw[if_pos (show (none:Option Value).isNone=true from rfl)];refine wpAny_bind (wpAny_rule ?_);have aq:h2.IsList l items:=⟨_,gz _ _ bg,rfl,n,rfl⟩;have jv:=gz _ _ hS;refine wpAny_bind (wpAny_pyIter_list aq ?_);refine wpAny_pure ⟨plainId_quiet CW _,?_⟩;have lz:s.heap.objs.size<h2.objs.size:=zaf jv;have qu:∀b o,s.heap.get? b=some o->(h2.push {cls:=.type "list_iterator",data:=.fields #[.ref l,.int 0 0]}).get? b=some o:=λ b o e=>zab _ (gz _ _ (zab _ e));have gx:(h2.push {cls:=.type "list_iterator",data:=.fields #[.ref l,.int 0 0]}).DictOfH (tupleKind knd) s.heap.objs.size []:=
  ⟨_,#[],0,zab _ jv,⟨rfl,rfl,rfl⟩,rfl,rfl,λ x hx=>absurd hx List.not_mem_nil,zbz⟩
 have af:∀b o,s.heap.get? b=some o->b≠s.heap.objs.size/\b≠h2.objs.size:=λ b o e=>by
  have:=zaf e;exact⟨zar this,zar (Nat.lt_trans this lz)⟩
 refine W8 (A:=A.in1) (knd:=knd) (l:=l) (h0:=s.heap) ps hh aU (zar (Nat.lt_trans ll lz)) (zar lz) (zar ll) jt hsz ⟨_,hl,rfl,n,rfl⟩ (λ j p hj=>?_) items.size 0 [] _ (by omega) (by omega) (by simp) ⟨_,zap _ rfl,rfl,rfl⟩ gx (λ b o h1 gi e=>qu b o e) λ h' tk aS qv=>?_
 ·obtain⟨q1,t,q2,q3⟩:=hp j p hj;obtain⟨o1,_,_,e1,_⟩:=id q1;obtain⟨o2,e2,_⟩:=id q3;exact⟨⟨(af _ _ e1).1,(af _ _ e1).2,q1⟩,t,q2,(af _ _ e2).1,(af _ _ e2).2,q3⟩
 ·exact⟨rfl,h h' tk aS λ b o e=>qv b o (af _ _ e).1 (af _ _ e).2 e⟩
end
structure Z3 where
 (t:Addr) (κ:List Key) (b:Addr) (v:V)
def lO (H:Hp)(p:Z3):Prop:=H p.t=some (.tup [.ref p.b,p.v])/\H p.b=some (.tup (p.κ.map kV))
noncomputable def yO (ps:List Z3):List (List Key×V):=ps.foldl (λ acc p=>putK acc p.κ p.v) []
noncomputable def tDP (X:Cx)(te:TE):TE:=λ σ H Q=>te σ H λ x H1=>∃(l:Addr) (ps:List Z3),x=.ref l/\CO X.K H1 l (ps.map λ p=>V.ref p.t)/\(∀p∈ps,lO H1 p)/\ps.length<=1000/\∀r,H1 r=none->Q (.ref r) (upd H1 r (.dT (yO ps)))
theorem Uh:∀ {ps:List Z3}{us:List Value},Vals (ps.map λ p=>V.ref p.t) us->us=ps.map λ p=>zbm p.t
 |[],_,.nil=>rfl
 |p::ps,_,.cons h t=>by
  cases h;rw[za5,<-Uh t]
theorem nY {H:Hp}:∀ {ps:List Z3}{qs:List (List Key×Addr×Value)}{kvs:List (List Key×V)}{xs:List (List Key×Addr×Value)},(∀p∈ps,lO H p)->Paired (λ(p:Z3) (q:List Key×Addr×Value)=>p.κ=q.1/\p.b=q.2.1/\RelV p.v q.2.2) ps qs->KT H kvs xs->KT H (ps.foldl (λ acc p=>putK acc p.κ p.v) kvs) (qs.foldl (λ acc p=>storedH acc p.1 p.2.1 p.2.2) xs)
 |[],_,_,_,_,.nil,h=>h
 |p::ps,_,_,_,ho,.cons (b:=q) hq t,h=>by
  obtain⟨q1,q2,q3⟩:=q;obtain⟨e1,e2,e3⟩:=hq;dsimp only at e1 e2 e3;subst e1 e2;have r:=nY (ps:=ps) (λ p' hp=>ho p' (za4 _ hp)) t (h.put p.κ (ho p za3).2 e3);exact r
theorem eR:∀(ps:List Z3) (kvs:List (List Key×V)),(ps.foldl (λ acc p=>putK acc p.κ p.v) kvs).length<=kvs.length+ps.length
 |[],kvs=>zag _
 |p::ps,kvs=>by
  have h1:=eR ps (putK kvs p.κ p.v);have h2:=DM kvs p.κ p.v;rw[zav,za9];omega
theorem XF {h:Heap}{H:Hp}{P:Program}{w:World}(ok:G4 P w H h):∀ {ps:List Z3},(∀p∈ps,lO H p)->∃qs:List (List Key×Addr×Value),Paired (λ(p:Z3) (q:List Key×Addr×Value)=>p.κ=q.1/\p.b=q.2.1/\RelV p.v q.2.2) ps qs/\
 ∀(j:Nat) q,qs[j]?=some q->(tupleKind (AR P w)).is h q.1 q.2.1/\∃t,(ps.map λ p=>zbm p.t)[j]?=some (.ref t)/\IsTup h t #[.ref q.2.1,q.2.2]
 |[],_=>⟨[],.nil,λ j q e=>by simp at e⟩
 |p::ps,ho=>by
  obtain⟨qs,h1,h2⟩:=XF ok λ p hp=>ho p (za4 _ hp);obtain⟨o1,o2⟩:=ho p za3;obtain⟨_,aa,r,it⟩:=(show Bl P w H h p.t (.tup [.ref p.b,p.v]) from ok p.t _ o1);obtain⟨u,v,rfl,ru,rv⟩:=r.two;cases ru;refine⟨(p.κ,p.b,v)::qs,.cons ⟨rfl,rfl,rv⟩ h1,λ j q e=>?_⟩;cases j with
  |zero =>
   rw[zbb] at e;cases e;exact⟨Jx ok o2,p.t,by simp,it⟩
  |succ j =>
   rw[zau] at e;obtain⟨a1,t,a2,a3⟩:=h2 j q e;exact⟨a1,t,by simpa using a2,a3⟩
section
variable {X:Cx}{WX:Str->Hp->Prop}{c:Bool}{P0:E8}{P:Addr->Prop}{H:Hp}{σ:St}{ρ:Aj}{a b e:Expr}{f g:Aj->M D}{fn:Aj->M OT}{pos:Pos}{te:TE}
theorem eS {p:Pos}{n:Nat}(hc:X.calm=true)(hu:X.A.units+n<cLine)(hg:Gl X "dict")(hm:X.mg "dict" = none)(he:PE X e te)
 (hv:bootBuiltins "dict" = some (.type "dict"):=by decide +kernel)
 (hs:starEach [e] X.env=[(false,eval e X.env)]:=by rfl) (hn:2<=n:=by decide):
 PE X (.Call (.Name "dict" p) [e] [] pos) (tDP X te):=by
 intro pins s σ H Q I h;refine wpAny_Call_Name_kw (Dl I hg hm hv ?_);refine zba ?_ hs;rw[hs];refine zcj (Bh (he pins s σ H _ I h) λ u s1 zz=>?_);obtain⟨x,H1,I1,r1,q1⟩:=zz;obtain⟨l,ps,rfl,hq,ho,hlen,q⟩:=q1;cases r1;refine zcq ?_;obtain⟨aa,r',pl,hz⟩:=I1.list hq;have hits:=Uh r';subst hits;obtain⟨⟨qw,jw,jx,g7⟩,n0,o1,o2,o3,o4⟩:=pl;dsimp only at o2 o3 o4;subst o2 o3 o4;obtain⟨qs,h1,h2⟩:=XF I1.Aw ho;refine Nb (knd:=AR X.prog X.w) qs (I1.ok.hd hc) (by omega) (by rw[zad,za2,<-h1.length]) (AG (by rw[zad,za2];omega)) o1 (λ j p hj=>?_) λ h' tk hd kp=>?_
 ·obtain⟨a1,t,a2,a3⟩:=h2 j p hj;exact⟨a1,t,by rw[List.getElem?_toArray];exact a2,a3⟩
 ·have qx:=nY ho h1 (show KT H1 [] [] from .nil);have e8:s1.heap.objs.size<=s1.heap.objs.size:=zag _;have b5:=I1.Aw.fresh e8;have mo:=eR ps [];obtain⟨o,es,ep,g1,g2,g3,g4,g5,g6⟩:=hd;refine⟨.ref _,_,I1.laid (t':=tk) (o:=.dT (yO ps)) kp e8 ⟨zbr (AG (by unfold yO;simp at mo;omega)),beq_eq_false_iff_ne.mpr (zbi (zar I1.big)),_,qx.keeps (λ b ys eb=>by rw[Ah (λ z=>by rw[z,b5] at eb;cases eb)];exact eb),o,es,ep,g1,g2,g3,g4,g6⟩,rfl,q _ b5⟩
noncomputable def Sr:List D->Option (List (D×D))
 |[]=>some []
 | .tup [k,v]::r=>(Sr r).map ((k,v)::·)
 |_=>none
noncomputable def nZ (l:List (D×D)):List D×List D:=l.foldl (λ z kv=>putD z.1 z.2 kv.1 kv.2) ([],[])
noncomputable def lP (d:D):M OT:=match d with
 | .lst xs=>(match Sr xs with|some l=>if l.length<=1000/\(l.all λ kv=>keyOk true kv.1)=true then .ok (.BB true (nZ l).1 ((nZ l).2.map .sh)) else .bad|none=>.bad)
 |_=>.bad
theorem XG {K:za0}{H:Hp}{P:Addr->Prop}:∀ {xs:List V}{ds:List D}{l:List (D×D)},Al K (del H P) xs ds->Sr ds=some l->(l.all λ kv=>keyOk true kv.1)=true->
 ∃ps:List Z3,xs=ps.map (λ p=>V.ref p.t)/\(∀p∈ps,lO H p)/\Paired (λ(p:Z3) (kv:D×D)=>kv.1=.tup (p.κ.map Cy)/\BM K (del H P) p.v kv.2) ps l
 |_,[],l,.nil,e,_=>by cases e;exact⟨[],rfl,λ p hp=>(by cases hp),.nil⟩
 |_,d::ds,l,.cons hd ht,e,hk=>by
  unfold Sr at e;split at e
  ·rename_i ci;cases ci
  ·rename_i k v r ci;cases ci;obtain⟨l',e1,e2⟩:=Option.map_eq_some_iff.mp e;subst e2;rw[List.all_cons,zb5] at hk;obtain⟨ps,q1,q2,q3⟩:=XG ht e1 hk.2;have hK:=EK hk.1;cases hK with
   |t κ =>
    cases hd with
    |tup h1 h2 =>
     obtain⟨x,y,rfl,hx,hy⟩:=h2.two;cases hx with
     |tup g1 g2 =>
      rename_i tt bb em;have ey:=Al.keys κ g2;subst ey;refine⟨⟨tt,κ,bb,y⟩::ps,by rw[za5,q1],λ p hp=>?_,.cons ⟨rfl,hy⟩ q3⟩;rcases zaa.mp hp with rfl|hp
      ·exact⟨(Ao h1).2,(Ao g1).2⟩
      ·exact q2 p hp
  ·cases e
theorem eT {K:za0}{H:Hp}{P:Addr->Prop}:∀ {ps:List Z3}{l:List (D×D)}{kvs:List (List Key×V)}{vs:List D},Paired (λ(p:Z3) (kv:D×D)=>kv.1=.tup (p.κ.map Cy)/\BM K (del H P) p.v kv.2) ps l->Al K (del H P) (kvs.map zbt) vs->
 ∃aB,l.foldl (λ z kv=>putD z.1 z.2 kv.1 kv.2) (kvs.map (λ kv=>D.tup (kv.1.map Cy)),vs)=((ps.foldl (λ acc p=>putK acc p.κ p.v) kvs).map (λ kv=>D.tup (kv.1.map Cy)),aB)/\Al K (del H P) ((ps.foldl (λ acc p=>putK acc p.κ p.v) kvs).map zbt) aB
 |[],_,kvs,vs,.nil,h=>⟨vs,rfl,h⟩
 |p::ps,_,kvs,vs,.cons (b:=kv) hq t,h=>by
  obtain⟨k,d⟩:=kv;obtain⟨e1,e2⟩:=hq;dsimp only at e1 e2;subst e1;have hf:∀a b:List Key,Br (.tup (a.map Cy)) (.tup (b.map Cy))=decide (a=b):=λ a b=>by simp only[Br];exact Nw a b
  have aO:∃aB,(putD (kvs.map λ kv=>.tup (kv.1.map Cy)) vs (.tup (p.κ.map Cy)) d)=((putK kvs p.κ p.v).map (λ kv=>.tup (kv.1.map Cy)),aB)/\Al K (del H P) ((putK kvs p.κ p.v).map zbt) aB:=by
   unfold putD putK;rw[Kk (fk:=λ κ:List Key=>D.tup (κ.map Cy)) hf];by_cases hh:(kvs.any λ kv=>decide (kv.1=p.κ))=true
   ·rw[if_pos hh,if_pos hh];refine⟨_,by rw[HC (fk:=λ κ:List Key=>D.tup (κ.map Cy)) hf],?_⟩;rw[<-HB (fk:=λ κ:List Key=>D.tup (κ.map Cy)) hf];exact HE e2 h
   ·rw[if_neg hh,if_neg hh];refine⟨_,by rw[zay];rfl,?_⟩;rw[zay];exact h.snoc e2
  obtain⟨xa,g1,g2⟩:=aO;obtain⟨qy,g3,g4⟩:=eT t g2;refine⟨qy,?_,g4⟩;rw[zav];dsimp only;rw[g1];exact g3
theorem Ui {p:Pos}{n:Nat}(hc:X.calm=true)(hu:X.A.units+n<cLine)(hg:Gl X "dict")(hm:X.mg "dict" = none)(he:DE X WX true e f)
 (hv:bootBuiltins "dict" = some (.type "dict"):=by decide +kernel)
 (hs:starEach [e] X.env=[(false,eval e X.env)]:=by rfl) (hn:2<=n:=by decide):
 DN X WX (.Call (.Name "dict" p) [e] [] pos) (λ ρ=>(f ρ).bind lP):=by
 obtain⟨te,e1,e2⟩:=he;refine⟨_,eS hc hu hg hm e1 hv hs hn,λ P0 P σ H Q ρ E h=>?_⟩;refine e2 P0 P σ H _ ρ E ?_;dsimp only at h;refine YB h λ d h=>?_;intro v H1 s1 hv;unfold lP at h;split at h
 ·rename_i xs;split at h
  ·rename_i l eb;split at h
   ·rename_i hl;cases hv with
    |lst hs hh =>
     obtain⟨ps,q1,q2,q3⟩:=XG hh eb hl.2;subst q1;obtain⟨aB,g1,g2⟩:=eT (kvs:=[]) q3 .nil;refine⟨_,ps,rfl,hs.AV,q2,by rw[q3.length];exact hl.1,λ r hr=>?_⟩;have e3:nZ l=((yO ps).map (λ kv=>D.tup (kv.1.map Cy)),aB):=g1;rw[e3] at h;have bf:∀a∈[r],H1 a=none:=λ a ha=>by rw[za7.mp ha];exact hr
     exact h _ [r] _ (s1.trans (AO hr _)) (λ a ha=>Ex s1 (bf a ha)) (by simp) (.dT Ap (g2.mono (CB (AO hr _) bf)).ows)
   ·exact h.elim
  ·exact h.elim
 ·exact h.elim
end
open PySem PySem.Spec PyProof.Rows
section
variable {X:Cx}{WX:Str->Hp->Prop}{c:Bool}{P0:E8}{P:Addr->Prop}{H:Hp}{σ:St}{ρ:Aj}{a b e:Expr}{f g:Aj->M D}{fn:Aj->M OT}{pos:Pos}{te:TE}
noncomputable def eV (x y:D):M D:=match x,y with
 | .tup xs,.tup ys=>(match D8 xs,D8 ys with|some ns,some ms=>.ok (.bl (HT.lexLt ns ms))|_,_=>.bad)
 |_,_=>.bad
theorem XH:Xf X.K WX (vG X.K) eV:=by
 intro P H x y v w Q ht hx hy h;unfold eV at h;split at h
 ·rename_i xs ys;split at h
  ·rename_i ns ms e1 e2;have:=FI e1;subst this;have:=FI e2;subst this;cases hx with
   |tup h1 h2 =>
    cases hy with
    |tup h3 h4 =>
     have:=EG h2;subst this;have:=EG h4;subst this;exact⟨_,_,ns,ms,rfl,rfl,F9.of (Ao h1).2,F9.of (Ao h3).2,h _ H (Ak.refl H) (.bl _)⟩
  ·exact h.elim
 ·exact h.elim
theorem aam {n:Nat}(hu:X.A.units+n<cLine)(ha:DE X WX c a f)(hb:DE X WX c b g):DE X WX c (.Compare a [.Lt] [b] pos) (λ ρ=>(f ρ).bind λ x=>(g ρ).bind λ y=>eV x y):=VN (cG (by omega)) XH ha hb (Ju _)
theorem eW {n:Nat}(hu:X.A.units+n<cLine)(ha:DE X WX c a f)(hb:DE X WX c b g):DT X WX (.Compare a [.Lt] [b] pos) (λ ρ=>((f ρ).bind λ x=>(g ρ).bind λ y=>eV x y).bind Qn):=Gb (cG (by omega)) XH ha hb (Ju _)
theorem eX (hk:DE X WX true a f)(hv:DE X WX true b g):DN X WX (.Dict [some a] [b] pos) (λ ρ=>(f ρ).bind λ k=>(g ρ).bind λ v=>if keyOk false k=true then .ok (.BB false [k] [.sh v]) else .bad):=by
 obtain⟨tk,k1,k2⟩:=hk;obtain⟨tv,v1,v2⟩:=hv;refine⟨_,jM (cO k1 v1 jL) rfl rfl (by simp) (by simp),λ P0 P σ H Q ρ E h p hp=>?_⟩;dsimp only at h;have hn:∀a∈[p],H a=none:=λ a ha=>by rw[za7.mp ha];exact hp
 have s0:Ak H (upd H p (.dK [])):=AO hp _;have E1:Aq X.K P0 (PU P [p]) (upd H p (.dK [])) σ ρ:=E.more s0 M8 (λ a ha=>ha.elim (λ z=>(E.Cr a z).same s0) λ z=>by
  rw[za7.mp z];exact⟨_,Ap,λ _=>⟨λ z=>(by cases z),λ _ z=>by cases z⟩⟩) (CB s0 hn)
 refine k2 P0 (PU P [p]) σ _ _ ρ E1 ?_;cases q:f ρ with
 |bad=>rw[q] at h;exact h
 |ex x=>rw[q] at h;exact λ H' s=>h H' (s0.trans s)
 |ok k =>
  rw[q] at h;simp only[M.Ad] at h;intro y H2 s2 hy;have E2:=E1.same s2;refine v2 P0 (PU P [p]) σ H2 _ ρ E2 ?_;cases q2:g ρ with
  |bad=>rw[q2] at h;exact h
  |ex x=>rw[q2] at h;exact λ H' s=>h H' ((s0.trans s2).trans s)
  |ok d =>
   rw[q2] at h;simp only[M.Ad] at h;intro w H3 s3 hw;by_cases hc:keyOk false k=true
   ·rw[if_pos hc] at h;have hK:=EK hc;cases hK with
    |k κ =>
     have ey:=hy.kH;subst ey;refine⟨s3 _ _ (s2 _ _ Ap),[(κ,w)],rfl,by simp,?_⟩;have s4:Ak H (upd H3 p (.dK (Hg [] [(κ,w)]))):=λ a o ha=>by
      rw[Ah (λ z=>by rw[z,hp] at ha;cases ha)];exact s3 _ _ (s2 _ _ (s0 _ _ ha))
     have s5:Ak (del H3 (PU P [p])) (del (upd H3 p (.dK (Hg [] [(κ,w)]))) (PU P [p])):=λ a o ha=>by
      obtain⟨n1,n2⟩:=Ao ha;rw[Az n1,Ah (λ z=>n1 (.inr (by rw[z];exact za7.mpr rfl)))];exact n2
     refine h _ [p] _ s4 hn (by simp) ?_;have e1:Hg [] [(κ,w)]=[(κ,w)]:=rfl;rw[e1] at s5 ⊢;exact .dK (kvs:=[(κ,w)]) Ap (.cons (.sh (hw.mono s5)) .nil)
   ·rw[if_neg hc] at h;exact h.elim
noncomputable def Rj (x:D)(m:M D):M D:=match x with
 | .BB b ks vs=>m.bind λ y=>if keyOk b y=true then .ok ((H9 ks vs y).getD .AJ) else .bad
 |_=>.bad
theorem lQ {K:za0}{v:V}{bb:Bool}{ks vs:List D}{P:Addr->Prop}(h:BM K (del H P) v (.BB bb ks vs)):∃a,v=.ref a/\zZ H a:=by
 cases h with
 |QW h1 h2=>exact⟨_,rfl,.inl ⟨_,h1.AV⟩⟩
 |S5 h1 h2=>exact⟨_,rfl,.inr ⟨_,h1.AV⟩⟩
theorem OM {n:Nat}{o k:Expr}{apos ac:Pos}(hu:X.A.units+n<cLine)(ha:DE X WX c o f)(hb:DE X WX c k g)(m:M1 X o "get" apos k ac:=by exact⟨rfl,rfl,rfl,rfl⟩)(hn:1<=n:=by decide):
 DE X WX c (.Call (.Attribute o "get" apos) [k] [] ac) (λ ρ=>(f ρ).bind λ x=>Rj x (g ρ)):=by
 obtain⟨ta,a1,a2⟩:=ha;obtain⟨tb,b1,b2⟩:=hb;refine⟨_,cP (by omega) a1 b1 m,λ P0 P σ H Q ρ E h=>?_⟩;dsimp only at h;refine a2 P0 P σ H _ ρ E ?_;refine YB h λ x h=>?_;intro v H1 s1 hv;unfold Rj at h;split at h
 ·rename_i bb ks vs;obtain⟨a,rfl,hD⟩:=lQ hv;refine⟨a,rfl,hD,b2 P0 P σ H1 _ ρ (E.same s1) ?_⟩;cases e2:g ρ with
  |bad=>rw[e2] at h;exact h
  |ex y=>rw[e2] at h;exact gV.same (m:=.ex y) h s1
  |ok y =>
   rw[e2] at h;simp only[M.Ad] at h;intro w H2 s2 hw;by_cases hk:keyOk bb y=true
   ·rw[if_pos hk] at h;obtain⟨a',xs,ea,g',hl,bf⟩:=Si (hv.mono s2.del) hw (EK hk);cases ea;refine⟨_,g',?_⟩;refine gV.same (gV.same h s1) s2 _ H2 (Ak.refl _) ?_;cases eg:H9 ks vs y with
    |none =>
     have:H9 ks xs y=none:=by
      cases xb:H9 ks xs y with
      |none=>rfl
      |some z =>
       have h1:=IG (xs:=xs) (y:=y) bf;have h2:=IG (ks:=ks) (xs:=vs) (y:=y) (by rw[<-hl.length,bf]);rw[h1,xb,eg] at h2;cases h2
     rw[this];exact .AJ
    |some d =>
     obtain⟨x,e3,e4⟩:=OC hl eg;rw[e3];exact e4
   ·rw[if_neg hk] at h;exact h.elim
 ·exact h.elim
end
noncomputable def Itv (K:za0)(a:Addr)(n:Nat):It:=
 ⟨λ i H=>∃xs x,CO K H a xs/\xs.length=n/\i<n/\xs[n-1-i]?=some x,λ i H x H'=>H'=H/\∀xs,CO K H a xs->xs[n-1-i]?=some x,λ i H=>∃xs,CO K H a xs/\xs.length=n/\n<=i⟩
theorem eY {h:Heap}{it a:Addr}{i:Int}{xs:Array Value}(h1:h.IsRevIter it a i)(h2:h.IsList a xs):a≠it:=λ z=>by
 subst z;obtain⟨o,e1,e2,_⟩:=h1;obtain⟨o2,e3,e4,_⟩:=h2;rw[e1] at e3;cases e3;rw[e2] at e4;exact absurd (Value.type.inj e4) (by decide)
theorem eZ {P:Program}{w:World}{K:za0}{tg:Expr}(a it:Addr)(n:Nat):Turn P w K tg (Itv K a n) [it] it (λ i h=>i<=n/\h.IsRevIter it a ((n:Int)-1-i)) where
 mem:=by simp
 obj:=λ i h st b hb=>by
  have e:b=it:=by simpa using hb
  subst e;obtain⟨_,o,e,c,d⟩:=st;exact⟨o,e,λ v z=>by rw[d] at z;cases z⟩
 keep:=λ i h h' st k=>⟨st.1,st.2.at λ o e=>k it (by simp) o e⟩
 item:=by
  intro X hP hw hK hc i pins s σ H E I hf st hg;subst hP hw hK;obtain⟨xs,x,hq,qz,bo,hx⟩:=hg;obtain⟨aa,rv,p,hz⟩:=I.list hq;obtain⟨u,hu,ru⟩:=rv.get hx;obtain⟨f0,f1,f2,f3,f4,f5⟩:=hf it (by simp);have hl:=rv.length;have rb:aa.toArray.size=n:=by rw[zad,<-hl,qz]
  have W:=Walks.listRev (prog:=X.prog) (w:=X.w) (A:=X.A) (I.ok.hd hc) it a (eY st.2 p.isList) aa.toArray;rw[rb] at W;refine W.item i s _ _ bo ⟨st.1,st.2,p.isList⟩ λ v h' tk hv aW kp=>?_;have ev:v=u:=by
   rw[List.getElem?_toArray,hu] at hv;exact (zas hv).symm
  subst ev;have I1:Inv X pins σ H {s with heap:=h',toks:=tk}:=I.turned (t':=tk) (λ b o hb e=>kp b o (by simpa using hb) e) f0 f1 f3 f4 f5;obtain⟨o,e,c,d⟩:=id aW.2.1;exact⟨v,rfl,To (s:={s with heap:=h',toks:=tk}) e c d (by decide) ⟨x,H,I1,ru,⟨rfl,λ ys hy=>by rw[I.EC hy hq];exact hx⟩,⟨aW.1,aW.2.1⟩,λ b hb=>(hf b hb).1⟩⟩
 done:=by
  intro X hP hw hK hc i pins s σ H E I hf st hg;subst hP hw hK;obtain⟨xs,hq,qz,bo⟩:=hg;obtain⟨aa,rv,p,hz⟩:=I.list hq;obtain⟨f0,f1,f2,f3,f4,f5⟩:=hf it (by simp);have hl:=rv.length;have rb:aa.toArray.size=n:=by rw[zad,<-hl,qz]
  have W:=Walks.listRev (prog:=X.prog) (w:=X.w) (A:=X.A) (I.ok.hd hc) it a (eY st.2 p.isList) aa.toArray;rw[rb] at W;have rc:i=n:=Nat.le_antisymm st.1 bo;subst rc;exact W.done s _ _ ⟨st.1,st.2,p.isList⟩ λ h' tk kp=>⟨rfl,I.turned (t':=tk) (λ b o hb e=>kp b o (by simpa using hb) e) f0 f1 f3 f4 f5⟩
 self:=λ _ _ _ _ _ st h=>wpAny_pyIter_revIter st.2 h
section
variable {X:Cx}{WX:Str->Hp->Prop}{tg a:Expr}{f:Aj->M D}{pos p:Pos}{te:TE}
noncomputable def aan (K:za0)(ta:TA):TI:=λ σ H R=>ta σ H λ vs H1=>∃a xs,vs=[.ref a]/\CO K H1 a xs/\R (Itv K a xs.length) H1
theorem rX {ta:TA}(hg:Gl X "reversed")(hm:X.mg "reversed" = none)(ha:PA X [a] ta)(hb:bootBuiltins "reversed" = some (.type "reversed"):=by decide +kernel)(hs:starEach [a] X.env=[(false,eval a X.env)]:=by rfl):
 PI X tg (.Call (.Name "reversed" p) [a] [] pos) (aan X.K ta):=by
 intro pins s σ H R I h;refine Call_ (Dl I hg hm hb (zba (Bh (ha pos pins s σ H _ I h) λ us s1 zz=>?_) hs rfl));obtain⟨vs,H1,I1,r1,q1⟩:=zz;obtain⟨j,xs,e,hq,q⟩:=q1;subst e;cases r1 with
 |cons r rr =>
  cases rr;cases r;obtain⟨aa,rv,p,hz⟩:=I1.list hq;have hl:=rv.length;refine call_reversed_list p.isList ?_;have hit:(s1.heap.push (revObj j ((aa.toArray.size:Int)-1))).IsRevIter s1.heap.objs.size j ((xs.length:Int)-1-(0:Nat)):=by
   rw[zad,<-hl];exact⟨_,zap _ rfl,rfl,by simp[revObj]⟩
  refine wpAny_pyIter_revIter (s:={s1 with heap:=s1.heap.push (revObj j ((aa.toArray.size:Int)-1))}) hit ?_;refine⟨s1.heap.objs.size,[s1.heap.objs.size],_,_,H1,rfl,I1.kept (t':=s1.toks) λ b o e=>zab _ e,eZ j _ xs.length,⟨zbc _,hit⟩,λ b hb=>?_,q⟩;have e:b=s1.heap.objs.size:=by simpa using hb
  subst e;exact I1.Tn (zag _) (I1.Aw.fresh (zag _))
theorem rY (hg:Gl X "reversed")(hm:X.mg "reversed" = none)(ha:DE X WX true a f)(hb:bootBuiltins "reversed" = some (.type "reversed"):=by decide +kernel)(hs:starEach [a] X.env=[(false,eval a X.env)]:=by rfl):
 DI X WX tg (.Call (.Name "reversed" p) [a] [] pos) (λ ρ=>(f ρ).bind λ d=>match d with | .lst ds=>.ok ds.reverse|_=>.bad):=by
 obtain⟨ta,a1,a2⟩:=ha;refine⟨_,rX hg hm (Bi a1 Cs hs) hb hs,λ P0 P σ H R ρ E h=>?_⟩;dsimp only at h;refine a2 P0 P σ H _ ρ E ?_;cases q:f ρ with
 |bad|ex x=>rw[q] at h;exact h
 |ok d =>
  rw[q] at h;cases d with
  |lst ds =>
   intro v H1 s1 hv;cases hv with
   | @lst a xs _ hs hl =>
    have hlen:=hl.length;refine⟨a,xs,rfl,hs.AV,h _ H1 s1 ⟨λ i P' H' s hi=>?_,λ i P' H' s hi=>?_,λ i P' H' v c6 d s ht hd y=>?_⟩⟩
    ·rw[zbn] at hi;obtain⟨x,hx,_⟩:=hl.get (za8 (show xs.length-1-i<ds.length by omega));exact⟨xs,x,(s.seq hs).AV,rfl,by omega,hx⟩
    ·rw[zbn] at hi;exact⟨xs,(s.seq hs).AV,rfl,by omega⟩
    ·obtain⟨rfl,y⟩:=y;have af:=(zai.mp hd).1;rw[zbn] at af;rw[List.getElem?_reverse af] at hd;obtain⟨x,hx,aS⟩:=hl.get hd;have e:=y xs (s.seq hs).AV;rw[hlen,hx] at e;cases e;exact⟨Ak.refl _,aS.mono s⟩
  |_=>exact h.elim
end
structure rZ (K:za0)(x qual:Str)(st:Stmt)(f:Addr)(fd:FuncData):Prop where
 ex:∃(oc:Value) (od:Option Addr) (dV kV doc pm:Value) (an:Option Addr) (B5 ct:Value) (Vj:Array (Option Value)),
  fd=zbh x qual (Bx st) (AU st) (A8 st) dV kV doc pm an B5 ct/\K.lookup f=some ⟨oc,od,.func fd,Vj⟩/\zc3 K B5 qual=true
 kp:zbj K (.ref f)=true
section
variable {P:Program}{w:World}{K:za0}{mg:Str->Option Value}{base:Heap}
theorem lR {x qual:Str}{st:Stmt}{f:Addr}{fd:FuncData}{N ps:List Str}{k:Nat}(F:rZ K x qual st f fd)(S:Ai N ps (A8 st))(g:Aj->M Out)
 (hb:∀(B5:Value) (A:Around) (outer:List Env) (s:Shared) (H:Hp) (E:XK),BU k (A.deeper (envOfC qual (A8 st) s.heap.objs.size f B5))->Vk (nT P w K mg base N qual (A8 st) f B5 A outer s H E) (EF K E) (AU st) g):
 E7 P w K mg base (YG P w base) (k+1) f fd ps (R9 K ps.length λ t ao=>EL (g (Dh N t ao))):=by
 obtain⟨oc,od,dV,kV,doc,pm,an,B5,ct,Vj,rfl,lk,aT⟩:=F.ex;refine X2 lk aT S (λ vs H Q E h=>h.1) λ A outer s H vs Q E hr h=>?_;obtain⟨hl,P',p,t,fp,rest,ao,rfl,ht,hp,nd,ho,hv,hq⟩:=h;obtain⟨tt,h1,h2⟩:=hb B5 A outer s H E hr;refine⟨tt,h1,h2 ⟨λ a=>P' a/\a∉fp,λ _=>p⟩ P' _ H _ _ (Kn ht hp nd ho hv) ?_⟩;dsimp only at hq;revert hq;cases g (Dh N t ao) with
 |bad|ex x=>exact λ h=>h.elim
 |ok o =>
  have sub:∀ {P2:Addr->Prop} {H2:Hp} {σ2:St} {ρ:Aj},Aq K ⟨λ a=>P' a/\a∉fp,λ _=>p⟩ P2 H2 σ2 ρ->∀a,P2 a/\¬ (P' a/\a∉fp)->P2 a/\(P' a->a∈fp):=λ E a ha=>⟨ha.1,λ z=>zd2 λ w=>ha.2 ⟨z,w⟩⟩;cases o with
  |ret d|D1 d=>exact λ h=>h.elim
  |next ρ =>
   intro hq σ' H' P2 t2 E2;unfold EL at hq;dsimp only at hq;split at hq
   ·rename_i t' e;obtain⟨c,ag,k1,k2,k3,k4,k5,k6⟩:=Nx E2 e;exact hq .AJ H' P2 ag [] (λ a ha hn=>⟨E2.sub a ⟨ha,hn⟩,t2.2 a ⟨ha,hn⟩⟩) E2.Cr t2.1 k4 k5 (.sh .AJ) zbz (λ a ha=>by cases ha) (λ a ha=>sub E2 a (k6 a ha)) (λ a ha=>by cases ha)
   ·exact hq.elim
  |FE r ρ =>
   intro hq v fr σ' H' P2 t2 E2 o2 aP hf;unfold EL at hq;dsimp only at hq;split at hq
   ·rename_i t' e;obtain⟨c,ag,k1,k2,k3,k4,k5,k6⟩:=Nx E2 e;exact hq v H' P2 ag fr (λ a ha hn=>⟨E2.sub a ⟨ha,hn⟩,t2.2 a ⟨ha,hn⟩⟩) E2.Cr t2.1 k4 k5 o2 aP (λ a ha=>(hf a ha).2.2 0 c _ ag k1 k2 k3) (λ a ha=>sub E2 a (k6 a ha)) (λ a ha=>sub E2 a ⟨(hf a ha).1,(hf a ha).2.1⟩)
   ·exact hq.elim
  |brk ρ|cont ρ=>exact λ h=>h.elim
end
theorem lS {K:za0}{x qual:Str}{st:Stmt}{f:Addr}{oc:Value}{od an:Option Addr}{Vj:Array (Option Value)}{dV kV doc pm B5 ct:Value}(l:K.lookup f=some ⟨oc,od,.func (zbh x qual (Bx st) (AU st) (A8 st) dV kV doc pm an B5 ct),Vj⟩)
 (c:zc3 K B5 qual=true) (k:zbj K (.ref f)=true):rZ K x qual st f (zbh x qual (Bx st) (AU st) (A8 st) dV kV doc pm an B5 ct):=⟨⟨oc,od,dV,kV,doc,pm,an,B5,ct,Vj,rfl,l,c⟩,k⟩
structure Rk (P:Program)(w:World)(K:za0)(mg:Str->Option Value)(base:Heap)(x:Str)(k n:Nat)(F:OT->List D->M (OT×OT)):Prop where
 ex:∃C fa fd ps,rV K mg x C/\Mk K C fa/\E7 P w K mg base (YG P w base) k fa fd ps (R9 K n F)/\Binds K fd ps []/\Binds K fd ps [.none]
theorem Rk.ini {P:Program}{w:World}{K:za0}{mg:Str->Option Value}{base:Heap}{x:Str}{k n:Nat}{F:OT->List D->M (OT×OT)}(G:Rk P w K mg base x k n F):xB P w K mg base x k n F:=by
 obtain⟨C,fa,fd,ps,h1,h2,h3,h4,_⟩:=G.ex;exact⟨⟨C,fa,fd,ps,h1,h2,h3,h4⟩⟩
structure W9 (K:za0)(mg:Str->Option Value)(x qual:Str)(st:Stmt)(ps:List Str):Prop where
 ex:∃C f fd,rV K mg x C/\Mk K C f/\rZ K "__init__" qual st f fd/\Binds K fd ps []/\Binds K fd ps [.none]
theorem fA {P:Program}{w:World}{K:za0}{mg:Str->Option Value}{base:Heap}{x qual:Str}{st:Stmt}{N ps:List Str}{k n:Nat}(T:W9 K mg x qual st ps)(S:Ai N ps (A8 st))(g:Aj->M Out)
 (hb:∀(f:Addr) (B5:Value) (A:Around) (outer:List Env) (s:Shared) (H:Hp) (E:XK),BU k (A.deeper (envOfC qual (A8 st) s.heap.objs.size f B5))->Vk (nT P w K mg base N qual (A8 st) f B5 A outer s H E) (EF K E) (AU st) g) (hn:ps.length=n:=by rfl):
 Rk P w K mg base x (k+1) n (λ t ao=>EL (g (Dh N t ao))):=by
 obtain⟨C,f,fd,h1,h2,F,hB⟩:=T.ex;subst hn;exact⟨⟨C,f,fd,ps,h1,h2,lR F S g (hb f),hB⟩⟩
section
variable {X:Cx}{E:XK}{WX:Str->Hp->Prop}{c:Bool}{e:Expr}{es:List Expr}{fs:Aj->M (List D)}{pos:Pos}{H:Hp}
theorem fB {x:Str}{k n:Nat}{F:OT->List D->M (OT×OT)}{p:Pos}(xo:Hs X E)(G:Rk X.prog X.w X.K X.mg X.base x k n F)(hr:BU (k+1) X.A)(hg:Gl X x)(ha:DA X (EF X.K E) true (e::es) fs)(a5:(e::es).length+2=n)
 (aN:(x==("__debug__" : Str))=false:=by decide) (he:starEach (e::es) X.env=(false,eval e X.env)::starEach es X.env:=by rfl) (hpl:(backTo pos (starEach es X.env)).any (·.1)=false:=by rfl):
 DN X (EF X.K E) (.Call (.Name x p) (e::es) [] pos) (λ ρ=>(fs ρ).bind λ ds=>OK (F (.ins x [] []) (ds++[.AJ]))):=by
 obtain⟨C,fa,fd,ps,hT,hM,hF,_,hb⟩:=G.ex;obtain⟨ta,a1,a2,a3⟩:=ha;refine⟨_,X1 hM hF hr hg hT.mg' hb (show Vals [.AJ] [.none] from .cons (show RelV .AJ .none from rfl) .nil) xo.call a1 aN he hpl,λ P0 P σ H Q ρ Ev h=>?_⟩;dsimp only at h;refine a2 P0 P σ H _ ρ Ev ?_;cases q:fs ρ with
 |bad|ex x=>rw[q] at h;exact h
 |ok ds =>
  rw[q] at h;simp only[M.Ad] at h;intro vs H1 s1 a7 y dx hy hd ad;have E1:=Ev.same s1;have sm:=Rg (C:=C) hy hd;have b9:∀a∈[y],H1 a=none:=λ a ha=>by rw[za7.mp ha];exact hy
  refine⟨by rw[za9,zaj,a7.length,a3 ρ ds q];exact a5,PU P [y],y,.ins x [] [],[y],vs++[.AJ],ds++[.AJ],rfl,λ a ha=>?_,λ a ha=>.inr ha,by simp,C1.ins (fs:=[]) hT.ns Ap .nil,(a7.mono (CB sm b9)).append (.cons .AJ .nil),?_⟩
  ·rcases ha with ha|ha
   ·exact (E1.Cr a ha).same sm
   ·rw[za7.mp ha];exact⟨_,Ap,λ xs=>⟨(λ z=>by cases z),(λ z w=>by cases w)⟩⟩
  ·cases q2:F (.ins x [] []) (ds++[.AJ]) with
   |bad|ex z=>rw[q2] at h;exact h
   |ok tr =>
    obtain⟨t,r⟩:=tr;rw[q2] at h;simp only[OK] at h;intro v H' P' ag fr k1 k2 k3 k4 k5 k6 k7 k8 k9 qi;cases r with
    |sh d =>
     cases d with
     |AJ =>
      cases k6 with
      |sh hv =>
       cases hv;refine⟨rfl,h _ ag H' ?_ ?_ k5 ?_⟩
       ·intro b u eb;have e1:=s1 b u eb;have bC:b≠y:=λ z=>by rw[z,hy] at e1;cases e1
        have e2:=sm b u e1;by_cases hP:P b
        ·exact (k1 b (.inl hP) (by simp[bC])).2.trans e2
        ·exact (Ao (k3 b u (by rw[Az λ z=>z.elim hP λ w=>bC (za7.mp w)];exact e2))).2
       ·intro b js;cases eb:H b with
        |none=>rfl
        |some u =>
         exfalso;have e1:=s1 b u eb;have bC:b≠y:=λ z=>by rw[z,hy] at e1;cases e1
         have e2:=sm b u e1;have hn:=λ z=>bC (za7.mp ((k9 b js).2 z));exact (Ao (k3 b u (by rw[Az hn];exact e2))).1 (k9 b js).1
       ·refine k4.move (λ b u eb=>?_) λ _ _=>rfl;obtain⟨g1,g2⟩:=Ao eb;rw[Az]
        ·exact g2
        ·rintro (z|z)
         ·have bC:b≠y:=λ w=>by
           obtain⟨o,e1,_⟩:=E1.Cr b z;rw[w,hy] at e1;cases e1
          exact g1 (k1 b (.inl z) (by simp[bC])).1
         ·exact g1 (k9 b z).1
     |_=>exact h.elim
    |_=>exact h.elim
end
theorem ln0 {P:List Value->Prop}(h:P [])(us:List Value)(hl:us.length=0):P us:=by
 cases us with
 |nil=>exact h
 |cons _ _=>cases hl
theorem yP {P:List Value->Prop}(h:∀a,P [a])(us:List Value)(hl:us.length=1):P us:=by
 cases us with
 |nil=>cases hl
 |cons a us=>exact ln0 (P:=λ l=>P (a::l)) (h a) us (Nat.succ.inj hl)
theorem ln2 {P:List Value->Prop}(h:∀a b,P [a,b])(us:List Value)(hl:us.length=2):P us:=by
 cases us with
 |nil=>cases hl
 |cons a us=>exact yP (P:=λ l=>P (a::l)) (λ b=>h a b) us (Nat.succ.inj hl)
theorem ln3 {P:List Value->Prop}(h:∀a b c,P [a,b,c])(us:List Value)(hl:us.length=3):P us:=by
 cases us with
 |nil=>cases hl
 |cons a us=>exact ln2 (P:=λ l=>P (a::l)) (λ b c=>h a b c) us (Nat.succ.inj hl)
theorem ln4 {P:List Value->Prop}(h:∀a b c d,P [a,b,c,d])(us:List Value)(hl:us.length=4):P us:=by
 cases us with
 |nil=>cases hl
 |cons a us=>exact ln3 (P:=λ l=>P (a::l)) (λ b c d=>h a b c d) us (Nat.succ.inj hl)
theorem AS {K:za0}{mg:Str->Option Value}{h:Heap}{x:Str}{st:Stmt}{ps:List Str}(X:K.In h)(G:h.Ns mainGlobals mg)(p:FP K x st)(hb:∀(kV dc pm:Value) (an:Option Addr) (cd ct:Value) (us:List Value),us.length=ps.length->bindArgs (zbh x x (Bx st) (AU st) (A8 st) .none kV dc pm an cd ct) ⟨us,[]⟩=pure (ps.zip us):=by first | exact (λ _ _ _ _ _ _=>yP λ _=>rfl) | exact (λ _ _ _ _ _ _=>ln2 λ _ _=>rfl) | exact (λ _ _ _ _ _ _=>ln3 λ _ _ _=>rfl) | exact (λ _ _ _ _ _ _=>ln4 λ _ _ _ _=>rfl)):AI K mg x st ps:=by
 obtain⟨f,oc,od,an,sl,kV,dc,pm,cd,ct,a,l,c,k⟩:=p.ex;have F:=VG (st:=st) l c k;exact⟨⟨_,_,F,PySem.W.mg_of X G a,F.binds hb⟩⟩
theorem Uj {K:za0}{C:Addr}{x m qual:Str}{st:Stmt}{ps:List Str}(aC:zb1 K mainGlobals x=some (some (.ref C)))(cl:Yr K C)(p:MP K C m qual st)(hb:∀(kV dc pm:Value) (an:Option Addr) (cd ct:Value) (us:List Value),us.length=ps.length->bindArgs (zbh m qual (Bx st) (AU st) (A8 st) .none kV dc pm an cd ct) ⟨us,[]⟩=pure (ps.zip us):=by first | exact (λ _ _ _ _ _ _=>yP λ _=>rfl) | exact (λ _ _ _ _ _ _=>ln2 λ _ _=>rfl) | exact (λ _ _ _ _ _ _=>ln3 λ _ _ _=>rfl) | exact (λ _ _ _ _ _ _=>ln4 λ _ _ _ _=>rfl)):OJ K x m qual st ps:=by
 obtain⟨f,oc,od,an,sl,kV,dc,pm,cd,ct,a,i,l,c,k⟩:=p.ex;have F:=VG (st:=st) l c k;exact⟨⟨_,_,_,aC,cl,⟨a,i,k⟩,F,F.binds hb⟩⟩
open PySem PySem.W PySem.Calls PyProof.Rows
noncomputable def R0:Rn:=⟨topRun,Heap.nsMap,importEnds,fenceModules?,PySem.start,treeTable⟩
theorem sA:R0=R1:=by
 unfold R0 R1;rw[PySem.W.Fast.te14082659384304107361,PySem.W.Fast.te8920871248978507458,PySem.W.Fast.te10274390034422433532,PySem.W.Fast.te14289696077712309145,PySem.W.Fast.te1435165496053646825,PySem.W.Fast.te14364793385576792824]
theorem XI (p:Program)(w:World)(N:Nat):openEnds treeTable p w N=NX R0 p w N:=by
 unfold openEnds fencedOpening NX;rfl
theorem ON {h:Heap}{a:Addr}{o:Obj}:∀ {as:List Addr},(xY h as).lookup a=some o->h.get? a=some o
 |[],e=>by cases e
 |b::r,e=>by
  unfold xY at e;rw[zc7] at e;cases q:h.get? b with
  |none=>rw[q] at e;exact ON (as:=r) e
  |some u =>
   rw[q] at e;dsimp only [zbo] at e;rw[zc1] at e;cases c:a==b with
   |true=>rw[c] at e;cases e;rw[eq_of_beq c];exact q
   |false=>rw[c] at e;exact ON (as:=r) e
def xC (h h':Heap):Prop:=∀(b:Addr) (o:Obj),h.get? b=some o->h'.get? b=some o
theorem sC {h h':Heap}{as:List Addr}(s:xC h h'):(xY h as).In h':=λ a o e=>s a o (ON e)
theorem lT {p q:Program}{Xt:Shared->Bool}{N:Nat}(h:∀w:World,(openEnds treeTable p w N).map (λ s=>openSeen q [] (importedModules p.main.body) Xt true s)=some (openGood q [])):LeftO p q [] Xt (λ s=>s.heap) (λ w=>ZR R0 p w N) N:=λ w=>by
 have e:=h w;unfold ZR;dsimp only;rw[<-XI];cases q':openEnds treeTable p w N with
 |none=>rw[q'] at e;cases e
 |some s =>
  rw[q'] at e;rw[zbo] at e ⊢;dsimp only;rw[zas e]
theorem Ss {α β γ:Type}{o:Option γ}{f:γ->α×β}{a:α×β}(h:o.map (λ s=>(f s).1)=some a.1)(k:o.map (λ s=>(f s).2)=some a.2):o.map f=some a:=by
 cases o with
 |none=>cases h
 |some s =>
  rw[zbo] at h k ⊢;exact congrArg some (Prod.ext (zas h) (zas k))
theorem xD {l:PySem.W.OpenLaw}{n k:Nat}{q:Program}{loose:List Str}{XP:(Str->Option Value)->Heap->Prop}{YP:World->Heap->Prop}{d:DefRec}{K:World->za0}{CX:World->WZ}{sp:World->Sp}{x:Str}
 (hn:l.most=some n) (aw:n<=sizeLine) (gl:d.params.defaults=[]) (hr:BU k callerA) (hY:∀(w:World) (h:Heap),YP w h->(K w).In h)
 (F:∀(w:World) (mg:Str->Option Value) (fa:Addr) (h:Heap),(K w).In h->h.Ns mainGlobals mg->mg d.name=some (.ref fa)->∃fd:FuncData,(∀(s:Shared) (u:Value),BindsTo s fd ⟨[u],[]⟩ [(x,u)])/\
  ∀base:Heap,(K w).In base->base.Ns mainGlobals mg->E7 l.prog w (K w) mg base (CX w) k fa fd [x] (sp w))
 (b6:∀(w:World) (H:Hp) (a:Addr) (ns:List Int),(∀n∈ns,Sm n)->ns.length<=n->jH H->CO (K w) H a (ns.map V.int)->sp w [.ref a] H (λ v _=>v=.bl true) λ _ _ _=>False)
 (i9:∀(w:World) (H:Hp) (s:Shared) (e:Value) (s':Shared),CX w [] H s (λ _ _ _=>False) e s'->False):PySem.W.WalkO q loose XP YP l.row.toRowW d [] (λ f vs=>PySem.call f vs):=by
 refine HT.R5 hn gl λ w s₀ s₁ mg mb fa o pm cd doc a vs ns bz G Y ho hd aT gm ck bc hlen hg=>?_;have KX:=hY w _ Y;obtain⟨fd,hb,hF⟩:=F w mg fa _ KX G.T.g gm;exact Tw KX G.T.g G.T.b G.T.builtins G.T.nolimit hg ck bc (zbq hlen aw) hr hF hb (λ H hO hS=>b6 w H a ns bz hlen hO hS) λ H e s'=>i9 w H s₁ e s'
noncomputable def cst:Option (Int×Int)->D
 |none=>.AJ
 |some p=>.tup [.int p.1,.int p.2]
noncomputable def Av:Option (Int×Int)->Option (Int×Int)->Option (Int×Int)
 |some p,some q=>some (p.1+q.1,p.2+q.2)
 |_,_=>none
noncomputable def lU (p q:Int×Int):Int×Int:=if p.1<q.1\/(p.1=q.1/\p.2<=q.2) then p else q
noncomputable def EO:Option (Int×Int)->Option (Int×Int)->Option (Int×Int)
 |none,b=>b
 |some p,none=>some p
 |some p,some q=>some (lU p q)
noncomputable def Ep (cs:List (Option (Int×Int))):Option (Int×Int):=cs.foldl EO none
theorem MI (cs:List (Option (Int×Int))):B6 (λ d ρ=>.ok (ρ.set 0 (some (.val d)))) (λ ρ=>(rv 0 ρ).bind λ x=>.ok (!B0 x)) (rv 0) (cs.map cst) [none]=.ok ((cs.filterMap id).map λ p=>cst (some p)):=by
 induction cs with
 |nil=>rfl
 |cons c r ih =>
  rw[za5,B6];cases c with
  |none =>
   show B6 _ _ _ (r.map cst) [none]=_;rw[ih];rfl
  |some p =>
   show (match B6 _ _ _ (r.map cst) [none] with | .ok ys=>M.ok (cst (some p)::ys)|_=>.bad)=_;rw[ih];rfl
theorem Z4 (ps:List (Int×Int)):Hr (ps.map λ p=>cst (some p))=some (ps.map λ p=>(cst (some p),[p.1,p.2])):=by
 induction ps with
 |nil=>rfl
 |cons p r ih=>rw[za5,Hr,ih];rfl
theorem fC (cs:List (Option (Int×Int))):Bj ((cs.filterMap id).map λ p=>(cst (some p),[p.1,p.2]))=(Ep cs).map λ p=>(cst (some p),[p.1,p.2]):=by
 have key:∀(cs:List (Option (Int×Int))) (z:Option (Int×Int)),((cs.filterMap id).map λ p=>(cst (some p),[p.1,p.2])).foldl BV (z.map λ p=>(cst (some p),[p.1,p.2]))=(cs.foldl EO z).map λ p=>(cst (some p),[p.1,p.2]):=by
  intro cs;induction cs with
  |nil=>intro z;rfl
  |cons c r ih =>
   intro z;cases c with
   |none =>
    rw[show List.filterMap id (none::r)=List.filterMap id r from rfl,zav,ih z];cases z<;>rfl
   |some q =>
    rw[show List.filterMap id (some q::r)=q::List.filterMap id r from rfl,za5,zav,zav,<-ih (EO z (some q))];congr 1;cases z with
    |none=>rfl
    |some p =>
     simp only[zbo,BV,HT.G8,HT.Fm,EO,lU];by_cases h1:q.1=p.1
     ·by_cases h2:q.2=p.2
      ·rw[if_pos (show p.1<q.1\/(p.1=q.1/\p.2<=q.2) by omega)];simp[h1,h2]
      ·by_cases h3:q.2<p.2
       ·rw[if_neg (show ¬ (p.1<q.1\/(p.1=q.1/\p.2<=q.2)) by omega)];simp[h1,h2,h3]
       ·rw[if_pos (show p.1<q.1\/(p.1=q.1/\p.2<=q.2) by omega)];simp[h1,h2,h3]
     ·by_cases h3:q.1<p.1
      ·rw[if_neg (show ¬ (p.1<q.1\/(p.1=q.1/\p.2<=q.2)) by omega)];simp[h1,h3]
      ·rw[if_pos (show p.1<q.1\/(p.1=q.1/\p.2<=q.2) by omega)];simp[h1,h3]
 exact key cs none
theorem lV (cs:List (Option (Int×Int))):Xh (.lst ((cs.filterMap id).map λ p=>cst (some p))) .AJ=.ok (cst (Ep cs)):=by
 simp only[Xh,Z4,fC];cases Ep cs<;>rfl
theorem fD (cs:List (Option (Int×Int))):Kd (B6 (λ d ρ=>.ok (ρ.set 0 (some (.val d)))) (λ ρ=>(rv 0 ρ).bind λ x=>.ok (!B0 x)) (rv 0) (cs.map cst) [none])=.ok (.lst ((cs.filterMap id).map λ p=>cst (some p))):=by
 rw[MI];rfl
noncomputable abbrev Co:=Option (Int×Int)
def BO:Co->Co->Prop
 |_,none=>True
 |none,some _=>False
 |some p,some q=>p.1<q.1\/(p.1=q.1/\p.2<=q.2)
theorem Ci:∀a:Co,BO a a
 |none=>trivial
 |some p=>.inr ⟨rfl,Int.le_refl _⟩
theorem AA:∀ {a b c:Co},BO a b->BO b c->BO a c
 |_,_,none,_,_=>trivial
 |none,none,some _,_,h|some _,none,some _,_,h|none,some _,some _,h,_=>h.elim
 |some p,some q,some r,h1,h2=>by simp only[BO] at *;omega
theorem L7:∀ {a b:Co},BO a b->BO b a->a=b
 |none,none,_,_=>rfl
 |none,some _,h,_|some _,none,_,h=>h.elim
 |some p,some q,h1,h2=>by
  obtain⟨p1,p2⟩:=p;obtain⟨q1,q2⟩:=q;simp only[BO] at h1 h2;have e1:p1=q1:=by omega
  have e2:p2=q2:=by omega
  rw[e1,e2]
theorem Du:∀a b:Co,(EO a b=a/\BO a b)\/(EO a b=b/\BO b a/\a≠b)
 |none,none=>.inl ⟨rfl,trivial⟩
 |none,some q=>.inr ⟨rfl,trivial,λ h=>by cases h⟩
 |some p,none=>.inl ⟨rfl,trivial⟩
 |some p,some q=>by
  unfold EO lU;by_cases h:p.1<q.1\/(p.1=q.1/\p.2<=q.2)
  ·dsimp only;rw[if_pos h];exact .inl ⟨rfl,h⟩
  ·dsimp only;rw[if_neg h];refine .inr ⟨rfl,?_,λ e=>?_⟩
   ·simp only[BO];omega
   ·cases e;exact h (.inr ⟨rfl,Int.le_refl _⟩)
theorem Gk (a b:Co):BO (EO a b) a:=by
 rcases Du a b with ⟨e,h⟩|⟨e,h,_⟩
 ·rw[e];exact Ci a
 ·rw[e];exact h
theorem J0 (a b:Co):BO (EO a b) b:=by
 rcases Du a b with ⟨e,h⟩|⟨e,h,_⟩
 ·rw[e];exact h
 ·rw[e];exact Ci b
theorem Uk (cs:List Co):∀z:Co,BO (cs.foldl EO z) z/\(∀x∈cs,BO (cs.foldl EO z) x)/\(cs.foldl EO z=z\/cs.foldl EO z∈cs):=by
 induction cs with
 |nil=>intro z;exact⟨Ci z,(λ x h=>by cases h),.inl rfl⟩
 |cons c r ih =>
  intro z;obtain⟨h1,h2,h3⟩:=ih (EO z c);rw[zav];refine⟨AA h1 (Gk z c),λ x hx=>?_,?_⟩
  ·rcases zaa.mp hx with rfl|hx
   ·exact AA h1 (J0 z x)
   ·exact h2 x hx
  ·rcases h3 with h3|h3
   ·rw[h3];rcases Du z c with ⟨e,_⟩|⟨e,_⟩
    ·exact .inl e
    ·rw[e];exact .inr za3
   ·exact .inr (za4 _ h3)
theorem NR {cs:List Co}{x:Co}(h:x∈cs):BO (Ep cs) x:=(Uk cs none).2.1 x h
theorem L8 (cs:List Co):Ep cs=none\/Ep cs∈cs:=(Uk cs none).2.2
theorem Su {cs:List Co}{v:Co}(h1:∀x∈cs,BO v x)(h2:v≠none->∃x∈cs,BO x v):Ep cs=v:=by
 refine L7 ?_ ?_
 ·cases v with
  |none=>cases Ep cs<;>exact trivial
  |some p =>
   obtain⟨x,hx,hl⟩:=h2 (by intro z;cases z);exact AA (NR hx) hl
 ·rcases L8 cs with h|h
  ·rw[h];cases v<;>exact trivial
  ·exact h1 _ h
theorem FN:∀a b:Co,Av a b=Av b a
 |none,none=>rfl
 |none,some _|some _,none=>rfl
 |some p,some q=>by simp only[Av];rw[Int.add_comm,Int.add_comm p.2]
theorem Dv:∀ {a b:Co}(c:Co),BO a b->BO (Av a c) (Av b c)
 |_,none,c,_=>by cases c<;>exact trivial
 |none,some _,c,h=>h.elim
 |some p,some q,none,h=>trivial
 |some p,some q,some r,h=>by simp only[Av,BO] at *;omega
def NN:Co->Prop
 |none=>True
 |some p=>0<=p.1/\0<=p.2
theorem fE:∀ {a b:Co},NN a->NN b->NN (Av a b)
 |none,none,_,_=>trivial
 |none,some _,_,_|some _,none,_,_=>trivial
 |some p,some q,h1,h2=>by simp only[Av,NN] at *;omega
theorem xE {a b:Co}(h1:NN a)(h2:NN b):NN (EO a b):=by
 rcases Du a b with ⟨e,_⟩|⟨e,_⟩
 ·rw[e];exact h1
 ·rw[e];exact h2
def ltN (a b:Co):Prop:=NN a/\BO a b/\a≠b
theorem Z5 (a b c:Co)(h1:ltN a b)(h2:ltN b c):ltN a c:=
 ⟨h1.1,AA h1.2.1 h2.2.1,λ e=>by subst e;exact h1.2.2 (L7 h1.2.1 h2.2.1)⟩
noncomputable def rank:Co->Nat×Nat×Nat
 |none=>(1,0,0)
 |some p=>(0,p.1.toNat,p.2.toNat)
theorem sD:∀a:Co,NN a->Acc ltN a:=by
 have wf:WellFounded (InvImage (Prod.Lex (· < ·) (Prod.Lex (· < ·) (· < ·))) rank):=InvImage.wf rank (Prod.lex Nat.lt_wfRel (Prod.lex Nat.lt_wfRel Nat.lt_wfRel)).wf;intro a;induction a using wf.induction with
 |h a ih =>
  intro ha;refine .intro _ λ b ⟨hb,hl,ad⟩=>ih b ?_ hb;cases b with
  |none=>cases a with
   |none=>exact (ad rfl).elim
   |some p=>exact hl.elim
  |some q=>cases a with
   |none=>exact Prod.Lex.left _ _ (by decide)
   |some p =>
    obtain⟨p1,p2⟩:=p;obtain⟨q1,q2⟩:=q;simp only[BO,NN] at hl ha hb;show Prod.Lex _ _ (0,q1.toNat,q2.toNat) (0,p1.toNat,p2.toNat);refine Prod.Lex.right _ ?_;by_cases h:q1<p1
    ·exact Prod.Lex.left _ _ (by omega)
    ·have e:q1=p1:=by omega
     subst e;have h2:q2≠p2:=λ e=>ad (by rw[e]);exact Prod.Lex.right _ (by omega)
theorem lW (a:Co):Acc ltN a:=.intro _ λ b h=>sD b h.1
theorem Z6 (cs:List Co):Acc (Qb ltN) cs:=OA ltN lW cs.length cs rfl
structure Road where
 a:Int
 b:Int
 l:Option Int
 w:Int
noncomputable def D2:Option Int->D
 |none=>.AJ
 |some i=>.int i
noncomputable def C9 (r:Road):D:=.tup [.int r.a,.int r.b,D2 r.l,.int r.w]
noncomputable def Am (m:Int)(rs:List Road):D:=.tup [.int m,.lst (rs.map C9)]
noncomputable def BY (r:Road):Co:=match r.l with | none=>none | some l=>some (l,1)
structure JK (m:Nat)(r:Road):Prop where
 a0:0<=r.a
 a1:r.a<m
 b0:0<=r.b
 b1:r.b<m
 l0:∀l,r.l=some l->0<=l
noncomputable def L9 (r:Road):Road:=⟨r.b,r.a,r.l,r.w⟩
theorem oA {m:Nat}{r:Road}(h:JK m r):NN (BY r):=by
 unfold BY;split
 ·trivial
 ·rename_i l e;exact⟨h.l0 l e,by show (0:Int)<=1;decide⟩
noncomputable def atC (cs:List Co)(i:Int):Co:=cs.getD i.toNat none
theorem DL {cs:List Co}{i:Int}(h0:0<=i)(h1:i<cs.length):cs[i.toNat]?=some (atC cs i):=by
 unfold atC;rw[zb7,za8 (show i.toNat<cs.length by omega)];rfl
theorem set_same {α:Type}:∀ {l:List α}{i:Nat}{x:α},l[i]?=some x->l.set i x=l
 |[],_,_,h=>by cases h
 |y::r,0,x,h=>by cases h;rfl
 |y::r,i+1,x,h=>by rw[zae,set_same (by simpa using h)]
noncomputable def Dw (r:Road)(cs:List Co):List Co:=cs.set r.b.toNat (EO (atC cs r.b) (Av (atC cs r.a) (BY r)))
theorem NS {cs:List Co}{i j:Int}{v:Co}(hi:0<=i)(hj:0<=j)(h1:i<cs.length):atC (cs.set i.toNat v) j=if j=i then v else atC cs j:=by
 unfold atC;rw[zb7,zb7];by_cases h:j=i
 ·subst h;rw[if_pos rfl,zb4 (by omega)];rfl
 ·rw[if_neg h,zbp (by omega)]
structure Good (m s:Nat)(rs:List Road)(cs:List Co):Prop where
 len:cs.length=m
 st:atC cs s=some (0,0)
 nn:∀c∈cs,NN c
 sup:∀p:Int,0<=p->p<m->p≠s->atC cs p≠none->∃r∈rs,r.b=p/\BO (Av (atC cs r.a) (BY r)) (atC cs p)
theorem Good.oB {m s:Nat}{rs:List Road}{cs:List Co}(g:Good m s rs cs){i:Int}(h0:0<=i)(h1:i<m):NN (atC cs i):=
 g.nn _ (zao (DL h0 (by rw[g.len];exact h1)))
theorem Z7 {m s:Nat}{rs:List Road}{cs:List Co}{r:Road}(g:Good m s rs cs)(hr:r∈rs)(Aw:∀r∈rs,JK m r):
 Good m s rs (Dw r cs)/\(∀i:Int,0<=i->BO (atC (Dw r cs) i) (atC cs i))/\(EO (atC cs r.b) (Av (atC cs r.a) (BY r))=atC cs r.b->Dw r cs=cs)/\
 (EO (atC cs r.b) (Av (atC cs r.a) (BY r))≠atC cs r.b->Qb ltN (Dw r cs) cs):=by
 have ok:=Aw r hr;have ij:r.b<cs.length:=by rw[g.len];exact ok.b1
 have hx:NN (Av (atC cs r.a) (BY r)):=fE (g.oB ok.a0 ok.a1) (oA ok);have hv:NN (EO (atC cs r.b) (Av (atC cs r.a) (BY r))):=xE (g.oB ok.b0 ok.b1) hx;have br:∀i:Int,0<=i->atC (Dw r cs) i=if i=r.b then EO (atC cs r.b) (Av (atC cs r.a) (BY r)) else atC cs i:=λ i hi=>NS ok.b0 hi ij
 have le:∀i:Int,0<=i->BO (atC (Dw r cs) i) (atC cs i):=λ i hi=>by
  rw[br i hi];by_cases h:i=r.b
  ·rw[if_pos h,h];exact Gk _ _
  ·rw[if_neg h];exact Ci _
 refine⟨⟨by unfold Dw;rw[zbw];exact g.len,?_,λ c hc=>?_,λ p h0 h1 hp hn=>?_⟩,le,λ h=>?_,λ h=>?_⟩
 ·rw[br s (by omega)];by_cases h:(s:Int)=r.b
  ·rw[if_pos h,<-h,g.st];cases q:Av (atC cs r.a) (BY r) with
   |none=>rfl
   |some x =>
    rw[q] at hx;unfold EO lU;dsimp only;rw[if_pos (by simp only[NN] at hx;omega)]
  ·rw[if_neg h];exact g.st
 ·unfold Dw at hc;rcases List.mem_or_eq_of_mem_set hc with h|h
  ·exact g.nn c h
  ·rw[h];exact hv
 ·rw[br p h0] at hn ⊢;by_cases h:p=r.b
  ·rw[if_pos h] at hn ⊢;rcases Du (atC cs r.b) (Av (atC cs r.a) (BY r)) with ⟨e,_⟩|⟨e,_⟩
   ·rw[e] at hn ⊢;subst h;obtain⟨r',h2,h3,h4⟩:=g.sup r.b h0 h1 hp hn;exact⟨r',h2,h3,AA (Dv _ (le r'.a (Aw r' h2).a0)) h4⟩
   ·rw[e];exact⟨r,hr,h.symm,Dv _ (le r.a ok.a0)⟩
  ·rw[if_neg h] at hn ⊢;obtain⟨r',h2,h3,h4⟩:=g.sup p h0 h1 hp hn;exact⟨r',h2,h3,AA (Dv _ (le r'.a (Aw r' h2).a0)) h4⟩
 ·unfold Dw;rw[h];exact set_same (DL ok.b0 ij)
 ·unfold Dw;exact Xk ltN (DL ok.b0 ij) ⟨hv,Gk _ _,h⟩
def Right (m s:Nat)(rs:List Road)(cs:List Co):Prop:=
 cs.length=m/\atC cs s=some (0,0)/\(∀c∈cs,NN c)/\∀p:Int,0<=p->p<m->p≠s->atC cs p=Ep ((rs.filter λ r=>decide (r.b=p)).map λ r=>Av (BY r) (atC cs r.a))
theorem right_of {m s:Nat}{rs:List Road}{cs:List Co}(g:Good m s rs cs)(h:∀r∈rs,EO (atC cs r.b) (Av (atC cs r.a) (BY r))=atC cs r.b):Right m s rs cs:=by
 refine⟨g.len,g.st,g.nn,λ p h0 h1 hp=>?_⟩;symm;refine Su (λ x hx=>?_) λ hn=>?_
 ·obtain⟨r,hr,rfl⟩:=zaq.mp hx;obtain⟨h2,h3⟩:=zb2.mp hr;have e:r.b=p:=by simpa using h3
  have:=J0 (atC cs r.b) (Av (atC cs r.a) (BY r));rw[h r h2,e] at this;rw[FN];exact this
 ·obtain⟨r,h2,h3,h4⟩:=g.sup p h0 h1 hp hn;refine⟨_,zaq.mpr ⟨r,zb2.mpr ⟨h2,by simpa using h3⟩,rfl⟩,?_⟩;rw[FN];exact h4
theorem Wa {m s:Nat}(rs:List Road)(h:s<m):Good m s rs ((zak m none).set s (some (0,0))):=by
 have hl:(zak m (none:Co)).length=m:=List.length_replicate;have br:∀i:Int,0<=i->atC ((zak m none).set s (some (0,0))) i=if i=s then some (0,0) else none:=λ i hi=>by
  have:=NS (cs:=zak m none) (i:=(s:Int)) (j:=i) (v:=some (0,0)) (by omega) hi (by rw[hl];omega);rw[zbl] at this;rw[this];by_cases h:i=s
  ·rw[if_pos h,if_pos h]
  ·rw[if_neg h,if_neg h];unfold atC;rw[zb7,zcg];split<;>rfl
 refine⟨by rw[zbw,hl],?_,λ c hc=>?_,λ p h0 h1 hp hn=>?_⟩
 ·rw[br s (by omega),if_pos rfl]
 ·rcases List.mem_or_eq_of_mem_set hc with h|h
  ·rw[List.eq_of_mem_replicate h];trivial
  ·rw[h];exact⟨Int.le_refl _,Int.le_refl _⟩
 ·rw[br p h0,if_neg hp] at hn;exact (hn rfl).elim
theorem sE {α:Type}{l:List α}{n:Int}(h:0<=n/\n<l.length):X3 l n=l[n.toNat]? :=by
 unfold X3 iE;obtain⟨h1,h2⟩:=h;simp[h1,h2]
theorem lX {n:Nat}{j:Int}(h:0<=j/\j<n):iE n j=some j.toNat:=by
 unfold iE;obtain⟨h1,h2⟩:=h;simp[h1,h2]
theorem Gm {α:Type}{f:α->D}{l:List α}{n:Int}{x:α}(h0:0<=n)(h:l[n.toNat]?=some x):tR (.lst (l.map f)) (.int n)=.ok (f x):=by
 have h1:=(zai.mp h).1;unfold tR;dsimp only;rw[sE (by rw[za2];omega),zam,h];rfl
theorem Cj {cs:List Co}{i:Int}(h0:0<=i)(h1:i<cs.length):tR (.lst (cs.map cst)) (.int i)=.ok (cst (atC cs i)):=Gm h0 (DL h0 h1)
theorem Mb {n:Nat}(c:Co):Pl (n+1) (cst c):=by
 cases c with
 |none=>exact Hu
 |some p=>exact VX (Cb (Ct _) (Cb (Ct _) Om))
theorem XJ (a b:Co):Br (cst a) (cst b)=decide (a=b):=by
 rcases a with _|⟨a1,a2⟩<;>rcases b with _|⟨b1,b2⟩
 ·simp[cst,Br]
 ·simp[cst,Br]
 ·simp[cst,Br]
 ·rw[zcr];simp[cst,Br,Cn]
theorem lY (a b:Co):VO 16 (cst a) (cst b)=.ok (.bl (!decide (a=b))):=by rw[Se (Mb (n:=15) a) (Mb (n:=15) b),XJ]
theorem La (a b:Co):cX 16 (cst a) (cst b)=.ok (.bl (decide (a=b))):=by rw[Oo (Mb (n:=15) a) (Mb (n:=15) b),XJ]
theorem XM (c:Co):M5 (cst c)=true:=by
 cases c<;>simp[cst,M5,Kg]
theorem Sv (c:Co):dp (.ok (cst c))=.ok (cst c):=by
 unfold dp;rw[M.Ad,if_pos (XM c)]
theorem sF {n:Nat}(l:Option Int):Pl n (D2 l):=by
 cases l with
 |none=>exact Hu
 |some i=>exact Ct i
theorem xF (r:Road):Pl 1 (C9 r):=VX (Cb (Ct _) (Cb (Ct _) (Cb (sF r.l) (Cb (Ct _) Om))))
theorem BP {a b:Int}(h:0<b):Hk (.int a) (.int b)=.ok (.int (a%b)):=by
 unfold Hk Bk;dsimp only;rw[if_pos h]
theorem Cp {a b:Int}(h:bN a b):GG (.int a) (.int b)=.ok (.int (a / b)):=by
 unfold GG Bk;dsimp only;rw[if_pos h]
inductive Wk (rs:List Road):Int->Int->Int×Int->Prop
 |nil (u:Int):Wk rs u u (0,0)
 |cons {r:Road} {l:Int} {w:Int} {c:Int×Int}:r∈rs->r.l=some l->Wk rs r.b w c->Wk rs r.a w (l+c.1,1+c.2)
theorem Wk.trans {rs:List Road}{u v w:Int}{c d:Int×Int}(h:Wk rs u v c)(k:Wk rs v w d):Wk rs u w (c.1+d.1,c.2+d.2):=by
 induction h with
 |nil u=>simpa using k
 |cons hr hl _ ih =>
  have:=Wk.cons hr hl (ih k);simpa [zd7] using this
theorem Wk.one {rs:List Road}{r:Road}{l:Int}(hr:r∈rs)(hl:r.l=some l):Wk rs r.a r.b (l,1):=by
 have:=Wk.cons hr hl (Wk.nil (rs:=rs) r.b);simpa using this
def BA (rs:List Road)(u w:Int)(x:Co):Prop:=(∀c,Wk rs u w c->BO x (some c))/\∀p,x=some p->Wk rs u w p
theorem BA.Cd {rs:List Road}{u w:Int}{x y:Co}(h:BA rs u w x)(k:BA rs u w y):x=y:=by
 refine L7 ?_ ?_
 ·cases y with
  |none=>cases x<;>exact trivial
  |some q=>exact h.1 q (k.2 q rfl)
 ·cases x with
  |none=>cases y<;>exact trivial
  |some q=>exact k.1 q (h.2 q rfl)
theorem HK {r:Road}{c:Int×Int}(h:BY r=some c):∃l,r.l=some l/\c=(l,1):=by
 unfold BY at h;split at h
 ·cases h
 ·rename_i l e;cases h;exact⟨l,e,rfl⟩
theorem Ey {a b:Co}{c:Int×Int}(h:Av a b=some c):∃p q,a=some p/\b=some q/\c=(p.1+q.1,p.2+q.2):=by
 cases a with
 |none=>cases h
 |some p=>cases b with
  |none=>cases h
  |some q=>cases h;exact⟨p,q,rfl,rfl,rfl⟩
theorem Right.min_le {m s:Nat}{rs:List Road}{cs:List Co}(h:Right m s rs cs){r:Road}(hr:r∈rs)(Aw:JK m r):BO (atC cs r.b) (Av (BY r) (atC cs r.a)):=by
 obtain⟨h1,h2,h3,h4⟩:=h;by_cases hs:r.b=s
 ·rw[hs,h2];have hn:NN (Av (BY r) (atC cs r.a)):=fE (oA Aw) (h3 _ (zao (DL Aw.a0 (by rw[h1];exact Aw.a1))));cases q:Av (BY r) (atC cs r.a) with
  |none=>exact trivial
  |some p=>rw[q] at hn;simp only[NN] at hn;simp only[BO];omega
 ·rw[h4 r.b Aw.b0 Aw.b1 hs];exact NR (zaq.mpr ⟨r,zb2.mpr ⟨hr,by simp⟩,rfl⟩)
theorem Z8 {m s:Nat}{rs:List Road}{cs:List Co}(h:Right m s rs cs)(Aw:∀r∈rs,JK m r){u w:Int}{c:Int×Int}(k:Wk rs u w c):BO (atC cs w) (Av (atC cs u) (some c)):=by
 induction k with
 |nil u =>
  cases atC cs u with
  |none=>exact trivial
  |some p=>simp only[Av,BO];omega
 | @cons r l w c hr hl _ ih =>
  refine AA ih ?_;have h1:=h.min_le hr (Aw r hr);have e:BY r=some (l,1):=by unfold BY;rw[hl]
  rw[e] at h1;cases q:atC cs r.a with
  |none=>exact trivial
  |some p =>
   rw[q] at h1;cases q2:atC cs r.b with
   |none=>rw[q2] at h1;exact h1.elim
   |some p2=>rw[q2] at h1;simp only[Av,BO] at *;omega
theorem Z9 {m s:Nat}{rs:List Road}{cs:List Co}(h:Right m s rs cs)(Aw:∀r∈rs,JK m r):∀(n:Nat) (w:Int) (p:Int×Int),0<=w->w<m->atC cs w=some p->p.2.toNat=n->Wk rs s w p:=by
 obtain⟨h1,h2,h3,h4⟩:=h;intro n;induction n with
 |zero =>
  intro w p h0 hw hp hn;by_cases hs:w=s
  ·rw[hs,h2] at hp;cases hp;rw[hs];exact .nil _
  ·exfalso;have e:=h4 w h0 hw hs;rw[hp] at e;rcases L8 ((rs.filter λ r=>decide (r.b=w)).map λ r=>Av (BY r) (atC cs r.a)) with z|z
   ·rw[z] at e;cases e
   ·rw[<-e] at z;obtain⟨r,hr,e2⟩:=zaq.mp z;have aU:=(zb2.mp hr).1;obtain⟨p1,p2,e3,e4,e5⟩:=Ey e2;obtain⟨l,hl,rfl⟩:=HK e3;have ok:=Aw r aU;have nn:=h3 _ (zao (DL ok.a0 (by rw[h1];exact ok.a1)));rw[e4] at nn;simp only[NN] at nn;rw[e5] at hn;simp only at hn;omega
 |succ n ih =>
  intro w p h0 hw hp hn;by_cases hs:w=s
  ·rw[hs,h2] at hp;cases hp;rw[hs];exact .nil _
  ·have e:=h4 w h0 hw hs;rw[hp] at e;rcases L8 ((rs.filter λ r=>decide (r.b=w)).map λ r=>Av (BY r) (atC cs r.a)) with z|z
   ·rw[z] at e;cases e
   ·rw[<-e] at z;obtain⟨r,hr,e2⟩:=zaq.mp z;obtain⟨aU,re⟩:=zb2.mp hr;have re:r.b=w:=by simpa using re
    obtain⟨p1,p2,e3,e4,e5⟩:=Ey e2;obtain⟨l,hl,rfl⟩:=HK e3;have ok:=Aw r aU;have nn:=h3 _ (zao (DL ok.a0 (by rw[h1];exact ok.a1)));rw[e4] at nn;simp only[NN] at nn;subst e5;simp only at hn;have w1:=ih r.a p2 ok.a0 ok.a1 e4 (by omega);have w2:=w1.trans (Wk.one aU hl);rw[re] at w2;have e6:((l+p2.1,1+p2.2):Int×Int)=(p2.1+l,p2.2+1):=by rw[Int.add_comm l,Int.add_comm 1]
    show Wk rs s w (l+p2.1,1+p2.2);rw[e6];exact w2
theorem Right.oC {m s:Nat}{rs:List Road}{cs:List Co}(h:Right m s rs cs)(Aw:∀r∈rs,JK m r){w:Int}(h0:0<=w)(hw:w<m):BA rs s w (atC cs w):=by
 refine⟨λ c k=>?_,λ p hp=>Z9 h Aw _ w p h0 hw hp rfl⟩;have:=Z8 h Aw k;rw[h.2.1] at this;have e:Av (some (0,0)) (some c)=some c:=by simp[Av]
 rw[e] at this;exact this
theorem Wb {a b c d:Co}(h:BO a b)(k:BO c d):BO (Av a c) (Av b d):=by
 refine AA (Dv c h) ?_;rw[FN b c,FN b d];exact Dv b k
noncomputable def over (k:Int)(A:Int->Int->Co):Int->Int->Co:=λ x y=>EO (A x y) (Av (A x k) (A k y))
noncomputable def hit (rs:List Road)(cs:List Co)(p:Nat)(k:Nat):Bool:=match rs[k]? with
 |some r=>decide (r.b=(p:Int))&&decide (Av (atC cs r.a) (BY r)≠none)&&decide (Av (atC cs r.a) (BY r)=atC cs (p:Int))
 |none=>false
noncomputable def pbr (rs:List Road)(cs:List Co)(p:Int):Co:=Ep ((rs.filter λ r=>decide (r.a=p)).map λ r=>Av (BY r) (atC cs r.b))
noncomputable def Wc (m:Nat)(rs:List Road)(g:Nat)(cs:List Co):Bool:=(zb6 m).all λ p=>decide (atC cs (p:Int)=if p=g then some (0,0) else pbr rs cs (p:Int))
theorem Wk.nn {m:Nat}{rs:List Road}(Aw:∀r∈rs,JK m r){u w:Int}{c:Int×Int}(h:Wk rs u w c):0<=c.1/\0<=c.2:=by
 induction h with
 |nil=>exact⟨Int.le_refl _,Int.le_refl _⟩
 |cons hr hl _ ih =>
  have:=(Aw _ hr).l0 _ hl;simp only;omega
theorem Sw {m g:Nat}{rs:List Road}{cs:List Co}(hg:g<m)(Aw:∀r∈rs,JK m r)(h:∀u:Int,0<=u->u<m->BA rs u g (atC cs u)):Wc m rs g cs=true:=by
 unfold Wc;rw[zdb];intro p hp;have hp:=zc0.mp hp;rw[decide_eq_true_eq];have hm:=h p (by omega) (by omega);by_cases e:p=g
 ·rw[if_pos e];subst e;refine L7 (hm.1 _ (.nil _)) ?_;cases q:atC cs (p:Int) with
  |none=>exact trivial
  |some c =>
   have:=(hm.2 c q).nn Aw;simp only[BO];omega
 ·rw[if_neg e];symm;refine Su (λ x hx=>?_) λ hn=>?_
  ·obtain⟨r,hr,rfl⟩:=zaq.mp hx;obtain⟨h1,h2⟩:=zb2.mp hr;have xc:r.a=(p:Int):=by simpa using h2
   have ok:=Aw r h1;have hb:=h r.b ok.b0 ok.b1;cases q1:BY r with
   |none =>
    have:Av none (atC cs r.b)=none:=by cases atC cs r.b<;>rfl
    rw[this];cases atC cs (p:Int)<;>exact trivial
   |some z =>
    obtain⟨l,hl,rfl⟩:=HK q1;cases q2:atC cs r.b with
    |none =>
     have:Av (some (l,1)) none=none:=rfl;rw[this];cases atC cs (p:Int)<;>exact trivial
    |some c =>
     have w:=Wk.cons h1 hl (hb.2 c q2);rw[xc] at w;exact hm.1 _ w
  ·obtain⟨c,hc⟩:=Option.ne_none_iff_exists'.mp hn;have w:=hm.2 c hc;rw[hc];generalize hpi:(p:Int)=pi at w;cases w with
   |nil=>exact (e (by omega)).elim
   | @cons r l w c' hr hl w' =>
    have ok:=Aw r hr;have hb:=(h r.b ok.b0 ok.b1).1 c' w';refine⟨_,zaq.mpr ⟨r,zb2.mpr ⟨hr,by simpa using rfl⟩,rfl⟩,?_⟩;have e1:BY r=some (l,1):=by unfold BY;rw[hl]
    rw[e1];have:=Wb (Ci (some (l,1))) hb;exact this
noncomputable def pD (p:Int×Int):D:=.tup [.int p.1,.int p.2]
theorem Gn (p q:Int×Int):Br (pD p) (pD q)=decide (p=q):=by
 obtain⟨a,b⟩:=p;obtain⟨c,d⟩:=q;unfold pD;simp only[Br,Cn,Bool.and_true];rw[zcr];simp
theorem HL (p:Int×Int):keyOk true (pD p)=true:=rfl
theorem XN (B:List (Int×Int))(p:Int×Int):N9 (B.map pD) (pD p)=decide (p∈B):=by
 unfold N9;rw[List.any_map,zcr];simp only[List.any_eq_true,Function.comp,Gn,decide_eq_true_eq];constructor
 ·rintro ⟨x,hx,rfl⟩;exact hx
 ·intro h;exact⟨p,h,rfl⟩
theorem Sx (B:List (Int×Int))(vs:List D)(neg:Bool)(a b:Int):JH neg (.tup [.int a,.int b]) (.BB true (B.map pD) vs)=.ok (.bl (if neg=true then !decide ((a,b)∈B) else decide ((a,b)∈B))):=by
 unfold JH;dsimp only;have h1:keyOk true (D.tup [D.int a,D.int b])=true:=rfl;have h2:N9 (B.map pD) (D.tup [D.int a,D.int b])=decide ((a,b)∈B):=XN B (a,b);rw[if_pos h1,h2]
noncomputable def Mc (B:List (Int×Int))(p:Int×Int):List (Int×Int):=if p∈B then B else B++[p]
noncomputable def DU {α:Type}(B:List α):List D:=B.map λ _=>.bl true
theorem Rl {α:Type}(f:α->D)(y:D):∀B:List α,JG (B.map f) (DU B) y (.bl true)=DU B
 |[]=>rfl
 |b::r=>by
  show JG (f b::r.map f) (.bl true::DU r) y (.bl true)=.bl true::DU r;rw[JG,Rl f y r];split<;>rfl
theorem XO (B:List (Int×Int))(p:Int×Int):putD (B.map pD) (DU B) (pD p) (.bl true)=((Mc B p).map pD,DU (Mc B p)):=by
 unfold putD Mc;rw[XN];by_cases h:p∈B
 ·rw[decide_eq_true h,if_pos rfl,if_pos h,Rl]
 ·rw[decide_eq_false h,if_neg (by simp),if_neg h];unfold DU;simp
theorem Ul {B:List (Int×Int)}{p q:Int×Int}:q∈Mc B p↔q∈B\/q=p:=by
 unfold Mc;split
 ·constructor
  ·exact .inl
  ·rintro (h|rfl)
   ·exact h
   ·assumption
 ·simp
theorem Wd {B:List (Int×Int)}{p:Int×Int}(h:B.Nodup):(Mc B p).Nodup:=by
 unfold Mc;split
 ·exact h
 ·rename_i hn;exact zax.mpr ⟨h,by simp,λ a ha b hb z=>by simp at hb;subst hb;subst z;exact hn ha⟩
theorem Ez {α:Type}[DecidableEq α]:∀ {l u:List α},l.Nodup->(∀x∈l,x∈u)->l.length<=u.length
 |[],_,_,_=>zbc _
 |x::r,u,nd,h=>by
  have aP:=zbe.mp nd;have hx:=h x za3;have ih:=Ez (l:=r) (u:=u.erase x) aP.2 λ y hy=>(List.mem_erase_of_ne (λ z=>aP.1 (by rw[<-z];exact hy))).mpr (h y (za4 _ hy));have e:=List.length_erase_of_mem hx;have:0<u.length:=List.length_pos_of_mem hx;rw[za9];omega
theorem fF (p:Int×Int):M5 (pD p)=true:=by simp[pD,M5,Kg]
noncomputable def Bp (m:Nat):List Int:=(zb6 m).map λ i:Nat=>(i:Int)
theorem OO (m:Nat):((zb6 m).map λ i:Nat=>D.int (i:Int))=(Bp m).map D.int:=by unfold Bp;rw[zbv];rfl
theorem DV (m:Nat):(Bp m).length=m:=by unfold Bp;simp
theorem FO {m:Nat}{p:Int}:p∈Bp m↔0<=p/\p<m:=by
 unfold Bp;constructor
 ·intro h;obtain⟨i,hi,rfl⟩:=zaq.mp h;have:=zc0.mp hi;omega
 ·rintro ⟨h0,h1⟩;exact zaq.mpr ⟨p.toNat,zc0.mpr (by omega),by omega⟩
noncomputable def Bg (B:List (Int×Int))(L:List Int)(v:Int):List (Int×Int):=(L.filter λ u=>decide ((u,v)∈B)).flatMap λ u=>((L.filter λ w=>decide ((v,w)∈B)).filter λ w=>decide (u≠w) && !decide ((u,w)∈B)).map λ w=>(u,w)
def sG (B:List (Int×Int)):Prop:=∀x,(x,x)∉B
theorem Za (B:List (Int×Int))(L:List Int)(v:Int):(Bg B L v).length<=L.length*L.length:=by
 unfold Bg;rw[List.length_flatMap];have key:∀l:List Int,(l.map λ u=>(((L.filter λ w=>decide ((v,w)∈B)).filter λ w=>decide (u≠w) && !decide ((u,w)∈B)).map λ w=>(u,w)).length).sum<=l.length*L.length:=by
  intro l;induction l with
  |nil=>simp
  |cons u r ih =>
   rw[za5,List.sum_cons,za9,Nat.succ_mul];have:(((L.filter λ w=>decide ((v,w)∈B)).filter λ w=>decide (u≠w) && !decide ((u,w)∈B)).map λ w=>(u,w)).length<=L.length:=by
    rw[za2];exact zbq (zcz _ _) (zcz _ _)
   omega
 exact zbq (key _) (Nat.mul_le_mul_right _ (zcz _ _))
theorem Rm {α:Type}(f:α->List Int):∀l:List α,Hr (l.map λ x=>D.tup ((f x).map D.int))=some (l.map λ x=>(D.tup ((f x).map D.int),f x))
 |[]=>rfl
 |x::r=>by
  rw[za5,Hr,Rm f r];simp[dJ,FH]
theorem Ro {B:List (Int×Int)}{L:List Int}{v:Int}{p:Int×Int}(h:p∈Bg B L v):p.1∈L/\p.2∈L/\p.1≠p.2:=by
 unfold Bg at h;obtain⟨u,hu,h⟩:=List.mem_flatMap.mp h;obtain⟨w,hw,rfl⟩:=zaq.mp h;have h1:=zb2.mp hw;have h2:=zb2.mp h1.1;have h3:=zb2.mp hu;simp at h1;exact⟨h3.1,h2.1,h1.2.1⟩
noncomputable def Cu (B ps:List (Int×Int)):List (Int×Int):=ps.foldl Mc B
structure Cv (m:Nat)(B:List (Int×Int)):Prop where
 nd:B.Nodup
 no:sG B
 inn:∀p∈B,(0<=p.1/\p.1<m)/\(0<=p.2/\p.2<m)
theorem Cv.add {m:Nat}{B:List (Int×Int)}(h:Cv m B){p:Int×Int}(hp:p.1≠p.2)(h1:0<=p.1/\p.1<m)(h2:0<=p.2/\p.2<m):Cv m (Mc B p):=by
 refine⟨Wd h.nd,λ x hx=>?_,λ q hq=>?_⟩
 ·rcases Ul.mp hx with z|z
  ·exact h.no x z
  ·subst z;exact hp rfl
 ·rcases Ul.mp hq with z|z
  ·exact h.inn q z
  ·subst z;exact⟨h1,h2⟩
theorem Cv.Cu {m:Nat}{B:List (Int×Int)}(h:Cv m B):∀ {ps:List (Int×Int)},(∀p∈ps,p.1≠p.2/\(0<=p.1/\p.1<m)/\(0<=p.2/\p.2<m))->Cv m (L2.Cu B ps):=by
 intro ps;induction ps generalizing B with
 |nil=>intro _;exact h
 |cons p r ih =>
  intro hp;have:=hp p za3;exact ih (h.add this.1 this.2.1 this.2.2) λ q hq=>hp q (za4 _ hq)
theorem Cv.len {m:Nat}{B:List (Int×Int)}(h:Cv m B)(hm:m<=20):B.length<1000:=by
 have key:=Ez (l:=B) (u:=(zb6 m).flatMap λ i:Nat=>(zb6 m).map λ j:Nat=>((i:Int),(j:Int))) h.nd λ p hp=>by
  obtain⟨h1,h2⟩:=h.inn p hp;refine List.mem_flatMap.mpr ⟨p.1.toNat,zc0.mpr (by omega),zaq.mpr ⟨p.2.toNat,zc0.mpr (by omega),?_⟩⟩;rw[Int.toNat_of_nonneg h1.1,Int.toNat_of_nonneg h2.1]
 have e:((zb6 m).flatMap λ i:Nat=>(zb6 m).map λ j:Nat=>((i:Int),(j:Int))).length=m*m:=by
  rw[List.length_flatMap];simp[List.map_const',List.sum_replicate_nat]
 rw[e] at key;have:m*m<=20*20:=Nat.mul_le_mul hm hm;omega
theorem Fo (a b c d:Int):HT.lexLt [a,b] [c,d]=decide (a<c\/(a=c/\b<d)):=by
 rw[HT.G8,HT.G8,HT.Fm,zcr];by_cases h1:a=c
 ·subst h1;by_cases h2:b=d
  ·subst h2;simp
  ·simp[h2]
 ·simp[h1]
theorem Zb {α β:Type}(f:α->β):∀bs:List (α×List Int),Bj (bs.map λ b=>(f b.1,b.2))=(Bj bs).map λ b=>(f b.1,b.2):=by
 intro bs;unfold Bj
 suffices z:∀o:Option (α×List Int),(bs.map λ b=>(f b.1,b.2)).foldl BV (o.map λ b=>(f b.1,b.2))=(bs.foldl BV o).map λ b=>(f b.1,b.2) from z none
 induction bs with
 |nil=>intro o;rfl
 |cons b r ih =>
  intro o;rw[za5,zav,zav,<-ih];congr 1;cases o with
  |none=>rfl
  |some c =>
   unfold BV;dsimp only [zbo];split<;>rfl
theorem fG {α:Type}:∀(bs:List (α×List Int)) (o:Option (α×List Int)) (b:α×List Int),bs.foldl BV o=some b->b∈bs\/o=some b:=by
 intro bs;induction bs with
 |nil=>intro o b h;exact .inr h
 |cons x r ih =>
  intro o b h;rw[zav] at h;rcases ih _ _ h with q|q
  ·exact .inl (za4 _ q)
  ·cases o with
   |none=>cases q;exact .inl za3
   |some c =>
    unfold BV at q;dsimp only at q;split at q
    ·cases q;exact .inl za3
    ·exact .inr q
theorem Zc {α:Type}{bs:List (α×List Int)}(h2:∀b∈bs,∃x y:Int,b.2=[x,y]){b:α×List Int}(hb:Bj bs=some b):∀c∈bs,HT.lexLt c.2 b.2=false:=by
 unfold Bj at hb
 suffices z:∀(bs:List (α×List Int)) (o:Option (α×List Int)),(∀b∈bs,∃x y:Int,b.2=[x,y])->(∀b,o=some b->∃x y:Int,b.2=[x,y])->∀b,bs.foldl BV o=some b->(∀c∈bs,HT.lexLt c.2 b.2=false)/\(∀c,o=some c->HT.lexLt c.2 b.2=false) from (z bs none h2 (λ b h=>by cases h) b hb).1
 intro bs;induction bs with
 |nil =>
  intro o _ ho b h;refine⟨λ c hc=>(by cases hc),λ c hc=>?_⟩;have e:o=some b:=h;rw[hc] at e;cases e;obtain⟨x,y,e⟩:=ho _ hc;rw[e,Fo];simp
 |cons d r ih =>
  intro o h2 ho b h;rw[zav] at h;have hd:=h2 d za3;have aD:∀b,BV o d=some b->∃x y:Int,b.2=[x,y]:=λ b hb=>by
   unfold BV at hb;cases o with
   |none=>cases hb;exact hd
   |some c =>
    dsimp only at hb;split at hb
    ·cases hb;exact hd
    ·cases hb;exact ho _ rfl
  obtain⟨i1,i2⟩:=ih (BV o d) (λ c hc=>h2 c (za4 _ hc)) aD b h;have xf:=JA o d;obtain⟨k,hk⟩:∃k,BV o d=some k:=by
   cases q:BV o d with
   |none=>exact (xf q).elim
   |some k=>exact⟨k,rfl⟩
  have xg:=i2 k hk;obtain⟨kx,ky,ek⟩:=aD k hk;have fb:∃x y:Int,b.2=[x,y]:=by
   have:=fG r (BV o d) b h;rcases this with z|z
   ·exact h2 b (za4 _ z)
   ·exact aD b z
  obtain⟨bx,by',eb⟩:=fb;obtain⟨dx,dy,ed⟩:=hd;rw[ek,eb,Fo,decide_eq_false_iff_not] at xg;have cn:HT.lexLt d.2 b.2=false/\∀c,o=some c->HT.lexLt c.2 b.2=false:=by
   unfold BV at hk;cases o with
   |none =>
    cases hk;rw[ed] at ek;injection ek with e1 e2
    injection e2 with e2 _
    refine⟨?_,λ c hc=>by cases hc⟩;rw[ed,eb,Fo,decide_eq_false_iff_not];omega
   |some c =>
    obtain⟨cx,cy,ec⟩:=ho c rfl;dsimp only at hk;rw[ed,ec,Fo] at hk;by_cases hl:dx<cx\/(dx=cx/\dy<cy)
    ·rw[if_pos (decide_eq_true hl)] at hk;cases hk;rw[ed] at ek;injection ek with e1 e2
     injection e2 with e2 _
     refine⟨?_,λ c' bt=>?_⟩
     ·rw[ed,eb,Fo,decide_eq_false_iff_not];omega
     ·cases bt;rw[ec,eb,Fo,decide_eq_false_iff_not];omega
    ·rw[if_neg (by simpa using hl)] at hk;cases hk;rw[ec] at ek;injection ek with e1 e2
     injection e2 with e2 _
     refine⟨?_,λ c' bt=>?_⟩
     ·rw[ed,eb,Fo,decide_eq_false_iff_not];omega
     ·cases bt;rw[ec,eb,Fo,decide_eq_false_iff_not];omega
  refine⟨λ c hc=>?_,cn.2⟩;rcases zaa.mp hc with z|z
  ·rw[z];exact cn.1
  ·exact i1 c z
noncomputable def BH (B:List (Int×Int))(L:List Int):Int:=match Bj (L.map λ p=>(p,[((Bg B L p).length:Int),p])) with
 |some k=>k.1
 |none=>0
theorem Rp {B:List (Int×Int)}{L:List Int}(h:L≠[]):BH B L∈L/\∀p∈L,¬ (((Bg B L p).length:Int)<(Bg B L (BH B L)).length\/(((Bg B L p).length:Int)=(Bg B L (BH B L)).length/\p<BH B L)):=by
 unfold BH;cases q:Bj (L.map λ p=>(p,[((Bg B L p).length:Int),p])) with
 |none=>exact (Od (λ z=>h (List.map_eq_nil_iff.mp z)) q).elim
 |some k =>
  obtain⟨p,hp,rfl⟩:=zaq.mp (QV _ _ q);refine⟨hp,λ p' je=>?_⟩;have:=Zc (λ b hb=>by obtain⟨x,_,rfl⟩:=zaq.mp hb;exact⟨_,_,rfl⟩) q _ (zaq.mpr ⟨p',je,rfl⟩);rw[Fo,decide_eq_false_iff_not] at this;exact this
noncomputable def Zd:Nat->List (Int×Int)->List Int->List Int
 |0,_,_=>[]
 |n+1,B,L=>if L=[] then [] else BH B L::Zd n (Cu B (Bg B L (BH B L))) (L.erase (BH B L))
noncomputable def Ck (rs:List Road):List (Int×Int):=rs.foldl (λ B r=>match r.l with | none=>B | some _=>Mc B (r.a,r.b)) []
theorem Um {m:Nat}:∀ {rs:List Road},(∀r∈rs,JK m r/\r.a≠r.b)->Cv m (Ck rs):=by
 intro rs
 suffices z:∀(rs:List Road) (B:List (Int×Int)),Cv m B->(∀r∈rs,JK m r/\r.a≠r.b)->Cv m (rs.foldl (λ B r=>match r.l with|none=>B|some _=>Mc B (r.a,r.b)) B) from λ h=>z rs [] ⟨zbz,λ x h=>(by cases h),λ p h=>(by cases h)⟩ h
 intro rs;induction rs with
 |nil=>intro B h _;exact h
 |cons r t ih =>
  intro B h hr;rw[zav];refine ih _ ?_ λ r' h'=>hr r' (za4 _ h');have:=hr r za3;cases r.l with
  |none=>exact h
  |some l=>exact h.add this.2 ⟨this.1.a0,this.1.a1⟩ ⟨this.1.b0,this.1.b1⟩
theorem FQ {f:Int->Int->M D}{a b:Int}:Bk f (.int a) (.int b)=f a b:=rfl
theorem HM {bs:List Bool}:YJ [.lst (bs.map D.bl)]=.ok (.bl (bs.all id)):=by unfold YJ;dsimp only;rw[Ot]
theorem Lb {bs:List Bool}:wJ [.lst (bs.map D.bl)]=.ok (.bl (bs.any id)):=by unfold wJ;dsimp only;rw[Ot]
theorem XQ {a b:List D}(h:a.length+b.length<=1000):R8 (.lst a) (.lst b)=.ok (.lst ((a++b).map .sh)):=if_pos h
theorem Uo (m:Nat):(Bp m).Pairwise (·<=·):=by
 unfold Bp;rw[List.pairwise_map];exact (List.pairwise_lt_range (n:=m)).imp λ h=>by omega
theorem OP (m:Nat):(Bp m).Nodup:=by
 unfold Bp List.Nodup;rw[List.pairwise_map];exact (List.pairwise_lt_range (n:=m)).imp λ h=>by omega
theorem Ze {m:Nat}{L:List Int}:HH L=Bp m↔L.Perm (Bp m):=
 ⟨λ h=>by rw[<-h];exact (EN L).symm,λ h=>HI ((EN L).trans h) (Gj L) (Uo m)⟩
theorem FR {m:Nat}{L:List Int}(h:L.Perm (Bp m)):L.length=m:=by rw[h.length_eq,DV]
theorem B8 {m:Nat}{L:List Int}(h:L.Perm (Bp m)){p:Int}:p∈L↔0<=p/\p<m:=by rw[h.mem_iff,FO]
theorem Gp {m:Nat}{L:List Int}(h:L.Perm (Bp m)):L.Nodup:=h.nodup_iff.mpr (OP m)
theorem Rq:∀ {a b:List Int},Cn (a.map D.int) (b.map D.int)=decide (a=b)
 |[],[]=>by simp[Cn]
 |[],y::t=>by simp[Cn]
 |x::r,[]=>by simp[Cn]
 |x::r,y::t=>by
  rw[za5,za5,Cn,Rq,Br];by_cases h:x=y<;>by_cases k:r=t<;>simp[h,k]
theorem fH {a b:List Int}:Br (.lst (a.map D.int)) (.lst (b.map D.int))=decide (a=b):=by rw[Br];exact Rq
theorem fI {a b:List Int}:cX 16 (.lst (a.map D.int)) (.lst (b.map D.int))=.ok (.bl (decide (a=b))):=by rw[Oo (Xi (n:=15) a) (Xi (n:=15) b),fH]
theorem Zf {i:Nat}{L:List Int}(h:L.Perm (Bp i))(n:Nat):(L.take n++(i:Int)::L.drop n).Perm (Bp (i+1)):=by
 have e:Bp (i+1)=Bp i++[(i:Int)]:=by unfold Bp;rw[List.range_succ,zay];rfl
 rw[e];refine List.perm_middle.trans ?_;rw[zc9];exact ((h.cons _).trans (List.perm_append_singleton _ _).symm)
theorem Lc {i:Nat}{ρ:Aj}{ds:List D}{d:D}{p:Int}(hi:ρ[i]?=some (some (.own ds)))(h0:0<=p)(h1:p<ds.length):kA i ρ (.ok (.int p)) d=.ok (.next (ρ.set i (some (.own (ds.set p.toNat d))))):=by
 unfold kA;rw[hi];dsimp only;rw[M.Ad];unfold rH;dsimp only;rw[lX ⟨h0,h1⟩]
theorem lZ {ρ:Aj}:dU 0 (none::ρ)=none::ρ:=rfl
theorem fJ:∃T Q:Int,YC (.int 10) (.int 60)=.ok (.int T)/\YC (.int 982451653) (.int 7)=.ok (.int Q)/\1000000<T/\T.natAbs<2^200/\0<Q/\Q.natAbs<2^250:=⟨10^60,982451653^7,rfl,rfl,by decide,by decide,by decide,by decide⟩
noncomputable def Rr:Int:=za6 fJ
theorem oE:∃Q:Int,YC (.int 10) (.int 60)=.ok (.int Rr)/\YC (.int 982451653) (.int 7)=.ok (.int Q)/\1000000<Rr/\Rr.natAbs<2^200/\0<Q/\Q.natAbs<2^250:=za1 fJ
theorem oF:YC (.int 10) (.int 60)=.ok (.int Rr):=(za1 oE).1
theorem We:1000000<Rr:=(za1 oE).2.2.1
theorem mB {i:Int}:Hk (.int i) (.int Rr)=.ok (.int (i%Rr)):=BP (by have:=We;omega)
def cl:Nat->D->Prop
 |0,d=>wC d=false
 |n+1,d=>wC d=false/\∀ds,(d=.tup ds\/d=.lst ds)->∀e∈ds,cl n e
structure Md (m:Nat)(r:Road):Prop where
 a0:0<=r.a
 a1:r.a<m
 b0:0<=r.b
 b1:r.b<m
 ab:r.a≠r.b
 l0:∀l,r.l=some l->0<=l/\l<Rr
 w0:0<=r.w
 w1:r.w<Rr
theorem fK {S:List D}{q:Int}(h:0<S.length)(h0:0<=q):Hk (.int q) (.int (S.length:Int))=.ok (.int (q%S.length))/\∃y,y∈S/\AM (.lst S) (.int (q%(S.length:Int)))=.ok y:=by
 have b6:(0:Int)<(S.length:Int):=by omega
 have b0:0<=q%(S.length:Int):=zca _ (by omega);have b1:q%(S.length:Int)<S.length:=zcb _ b6;refine⟨BP b6,S[(q%(S.length:Int)).toNat]'(by omega),List.getElem_mem _,?_⟩;have:=Gm (f:=λ d:D=>d) (l:=S) b0 (za8 (by omega));rw[List.map_id'] at this;exact this
theorem mC {a b:OT}:er (.tup [a,b])=.tup [er a,er b]:=by simp[er,Qa]
section
variable {α β:Type}{a b c d e f g:α}{x y:β}
theorem mD:(if [a,b,c,d,e].length<=1000 then x else y)=x:=rfl
theorem mE:(if [a,b,c,d,e,f].length<=1000 then x else y)=x:=rfl
theorem mF:(if [a,b,c,d,e,f,g].length<=1000 then x else y)=x:=rfl
theorem NT {t:Bool}:er (.BB t [] [])=.BB t [] []:=by simp[er,Qa]
end
structure Vn (m:Nat)(rs:List Road)(rk:Int->Nat)(Af:Int->Int->Co):Prop where
 snd:∀x y c,Af x y=some c->Wk rs x y c/\x≠y/\(0<=x/\x<m)/\0<=y/\y<m
 road:∀r∈rs,BO (Af r.a r.b) (BY r)
 tri:∀p x y,x≠y->rk p<rk x->rk p<rk y->BO (Af x y) (Av (Af x p) (Af p y))
 inj:∀x y:Int,0<=x->x<m->0<=y->y<m->rk x=rk y->x=y
 nn:∀x y c,Wk rs x y c->0<=c.1/\0<=c.2
inductive Ld (Af:Int->Int->Co) (rk:Int->Nat) (s:Int):Int->Int×Int->Prop
 |nil:Ld Af rk s s (0,0)
 |snoc {x y:Int} {c d:Int×Int}:Ld Af rk s x c->rk x<rk y->Af x y=some d->Ld Af rk s y (c.1+d.1,c.2+d.2)
inductive Sy (Af:Int->Int->Co) (rk:Int->Nat) (t:Int):Nat->Int->Int×Int->Prop
 |nil:Sy Af rk t 0 t (0,0)
 |snoc {n:Nat} {x y:Int} {c d:Int×Int}:Sy Af rk t n x c->rk y<rk x->Af x y=some d->Sy Af rk t (n+1) y (c.1+d.1,c.2+d.2)
def NU (p q:Int×Int):Prop:=p.1<q.1\/(p.1=q.1/\p.2<=q.2)
theorem OQ {a:Co}{q:Int×Int}(h:BO a (some q)):∃p,a=some p/\NU p q:=by
 cases a with
 |none=>exact h.elim
 |some p=>exact⟨p,rfl,h⟩
def UD (Af:Int->Int->Co)(rk:Int->Nat)(s w:Int)(c:Int×Int):Prop:=∃t n c1 c2,Ld Af rk s t c1/\Sy Af rk t n w c2/\NU (c1.1+c2.1,c1.2+c2.2) c
section
variable {m:Nat}{rs:List Road}{rk:Int->Nat}{Af Cf:Int->Int->Co}{s w:Int}
theorem Ld.walk (L:Vn m rs rk Af){t:Int}{c:Int×Int}(h:Ld Af rk s t c):Wk rs s t c:=by
 induction h with
 |nil=>exact .nil s
 |snoc _ _ ha ih=>exact ih.trans (L.snd _ _ _ ha).1
theorem Sy.walk (L:Vn m rs rk Af){t x:Int}{n:Nat}{c:Int×Int}(h:Sy Af rk t n x c):Wk rs t x c:=by
 induction h with
 |nil=>exact .nil t
 |snoc _ _ ha ih=>exact ih.trans (L.snd _ _ _ ha).1
theorem sH (L:Vn m rs rk Af):∀(n:Nat){t x y:Int}{c1 c2 d:Int×Int},Ld Af rk s t c1->Sy Af rk t n x c2->Af x y=some d->UD Af rk s y (c1.1+c2.1+d.1,c1.2+c2.2+d.2):=by
 intro n;induction n with
 |zero =>
  intro t x y c1 c2 d hu hd ha;obtain⟨_,ad,hx,hy⟩:=L.snd _ _ _ ha;cases hd with
  |nil =>
   by_cases h:rk y<rk t
   ·exact⟨t,1,c1,_,hu,.snoc .nil h ha,by simp only[NU];omega⟩
   ·have h2:rk t<rk y:=by
     have hq:rk t≠rk y:=λ e=>ad (L.inj t y hx.1 hx.2 hy.1 hy.2 e);omega
    exact⟨y,0,_,_,.snoc hu h2 ha,.nil,by simp only[NU];omega⟩
 |succ n ih =>
  intro t x y c1 c2 d hu hd ha;obtain⟨hw,ad,hx,hy⟩:=L.snd _ _ _ ha;by_cases h:rk y<rk x
  ·exact⟨t,n+2,c1,_,hu,.snoc hd h ha,by simp only[NU];omega⟩
  ·have h2:rk x<rk y:=by
    have hq:rk x≠rk y:=λ e=>ad (L.inj x y hx.1 hx.2 hy.1 hy.2 e);omega
   cases hd with
   | @snoc _ z _ c e aS hr bB =>
    have n1:=L.nn _ _ _ hw;have n2:=L.nn _ _ _ (L.snd _ _ _ bB).1;by_cases hz:z=y
    ·subst hz;exact⟨t,n,c1,c,hu,aS,by simp only[NU];omega⟩
    ·have q:=L.tri x z y hz hr h2;rw[bB,ha] at q;obtain⟨f,hf,hle⟩:=OQ q;obtain⟨t',n',jy,jz,g1,g2,g3⟩:=ih hu aS hf;refine⟨t',n',jy,jz,g1,g2,?_⟩;simp only[NU] at *;omega
theorem mG (L:Vn m rs rk Af){u:Int}{c:Int×Int}(h:Wk rs u w c):∀ {c0:Int×Int},UD Af rk s u c0->UD Af rk s w (c0.1+c.1,c0.2+c.2):=by
 induction h with
 |nil u =>
  intro c0 h;simpa using h
 | @cons r l w c hr hl _ ih =>
  intro c0 h0;obtain⟨t,n,c1,c2,g1,g2,g3⟩:=h0;have q:=L.road r hr;unfold BY at q;rw[hl] at q;obtain⟨d,hd,hle⟩:=OQ q;obtain⟨t',n',jy,jz,k1,k2,k3⟩:=sH L n g1 g2 hd;have r1:=@ih (c0.1+l,c0.2+1) ⟨t',n',jy,jz,k1,k2,by simp only[NU] at *;omega⟩;simpa [zd7] using r1
def Kept (rs:List Road)(Af Cf:Int->Int->Co):Prop:=∀x y c,Cf x y=some c↔(Af x y=some c/\BA rs x y (some c))
theorem mH (L:Vn m rs rk Af)(K:Kept rs Af Cf){t:Int}{c1:Int×Int}(h:Ld Af rk s t c1):∀ {c2:Int×Int},Wk rs t w c2->(∀c,Wk rs s w c->NU (c1.1+c2.1,c1.2+c2.2) c)->Ld Cf rk s t c1:=by
 induction h with
 |nil=>exact λ _ _=>.nil
 | @snoc x y c d hu hr ha ih =>
  intro c2 hw hm;have bB:=(L.snd _ _ _ ha).1;refine .snoc (ih (c2:=(d.1+c2.1,d.2+c2.2)) (bB.trans hw) λ c' bt=>?_) hr ((K x y d).mpr ⟨ha,λ e he=>?_,λ p hp=>by cases hp;exact bB⟩)
  ·have:=hm c' bt;simp only[NU] at *;omega
  ·have:=hm _ (((hu.walk L).trans he).trans hw);simp only[NU,BO] at *;omega
theorem mI (L:Vn m rs rk Af)(K:Kept rs Af Cf){t x:Int}{n:Nat}{c2:Int×Int}{c1:Int×Int}(hs:Wk rs s t c1)(h:Sy Af rk t n x c2):(∀c,Wk rs s x c->NU (c1.1+c2.1,c1.2+c2.2) c)->Sy Cf rk t n x c2:=by
 induction h with
 |nil=>exact λ _=>.nil
 | @snoc n x y c d hd hr ha ih =>
  intro hm;have bB:=(L.snd _ _ _ ha).1;refine .snoc (ih λ c' bt=>?_) hr ((K x y d).mpr ⟨ha,λ e he=>?_,λ p hp=>by cases hp;exact bB⟩)
  ·have:=hm _ (bt.trans bB);simp only[NU] at *;omega
  ·have:=hm _ ((hs.trans (hd.walk L)).trans he);simp only[NU,BO] at *;omega
theorem Up (L:Vn m rs rk Af)(K:Kept rs Af Cf){c:Int×Int}(h:BA rs s w (some c)):∃t n c1 c2,Ld Cf rk s t c1/\Sy Cf rk t n w c2/\c=(c1.1+c2.1,c1.2+c2.2):=by
 obtain⟨t,n,c1,c2,g1,g2,g3⟩:=mG L (h.2 c rfl) (c0:=(0,0)) ⟨s,0,_,_,.nil,.nil,by simp[NU]⟩;have hw:=(g1.walk L).trans (g2.walk L);have q:=h.1 _ hw;have e:c=(c1.1+c2.1,c1.2+c2.2):=by
  obtain⟨a,b⟩:=c;simp only[NU,BO] at *;refine Prod.ext ?_ ?_<;>dsimp only<;>omega
 refine⟨t,n,c1,c2,mH L K g1 (g2.walk L) λ c' bt=>?_,mI L K (g1.walk L) g2 λ c' bt=>?_,e⟩
 ·have:=h.1 _ bt;rw[e] at this;exact this
 ·have:=h.1 _ bt;rw[e] at this;exact this
structure yQ (rk:Int->Nat)(Cf:Int->Int->Co)(s:Int)(R:Int->Co):Prop where
 st:BO (R s) (some (0,0))
 cl:∀x y,rk x<rk y->BO (R y) (Av (R x) (Cf x y))
 sd:∀x c,R x=some c->Ld Cf rk s x c
theorem yQ.le {R:Int->Co}(h:yQ rk Cf s R){t:Int}{c:Int×Int}(u:Ld Cf rk s t c):BO (R t) (some c):=by
 induction u with
 |nil=>exact h.st
 | @snoc x y c d hu hr ha ih =>
  refine AA (h.cl x y hr) ?_;rw[ha];exact Dv (some d) ih
structure yR (rk:Int->Nat)(Cf:Int->Int->Co)(s:Int)(R T:Int->Co)(m:Nat):Prop where
 top:∀x:Int,0<=x->x<m->BO (T x) (R x)
 cl:∀x y:Int,0<=x->x<m->0<=y->y<m->rk y<rk x->BO (T y) (Av (T x) (Cf x y))
 sd:∀x c,T x=some c->∃t n c1 c2,Ld Cf rk s t c1/\Sy Cf rk t n x c2/\c=(c1.1+c2.1,c1.2+c2.2)
theorem Kept.ZQ (K:Kept rs Af Cf){x y:Int}{c:Int×Int}(h:Cf x y=some c):Af x y=some c:=((K x y c).mp h).1
theorem Ld.of_kept (K:Kept rs Af Cf){t:Int}{c:Int×Int}(h:Ld Cf rk s t c):Ld Af rk s t c:=by
 induction h with
 |nil=>exact .nil
 |snoc _ hr ha ih=>exact .snoc ih hr (K.ZQ ha)
theorem Sy.of_kept (K:Kept rs Af Cf){t x:Int}{n:Nat}{c:Int×Int}(h:Sy Cf rk t n x c):Sy Af rk t n x c:=by
 induction h with
 |nil=>exact .nil
 |snoc _ hr ha ih=>exact .snoc ih hr (K.ZQ ha)
theorem xG (L:Vn m rs rk Af)(K:Kept rs Af Cf){t x:Int}{n:Nat}{c:Int×Int}(h:Sy Cf rk t n x c)(ht:0<=t/\t<m):0<=x/\x<m:=by
 cases h with
 |nil=>exact ht
 |snoc _ hr ha=>exact (L.snd _ _ _ (K.ZQ ha)).2.2.2
theorem xH (L:Vn m rs rk Af)(K:Kept rs Af Cf){t:Int}{c:Int×Int}(h:Ld Cf rk s t c)(ht:0<=s/\s<m):0<=t/\t<m:=by
 cases h with
 |nil=>exact ht
 |snoc _ hr ha=>exact (L.snd _ _ _ (K.ZQ ha)).2.2.2
theorem yR.le (L:Vn m rs rk Af)(K:Kept rs Af Cf){R T:Int->Co}(h:yR rk Cf s R T m){t x:Int}{n:Nat}{c1 c2:Int×Int}(ht:0<=t/\t<m)(hT:BO (T t) (some c1))(u:Sy Cf rk t n x c2):BO (T x) (some (c1.1+c2.1,c1.2+c2.2)):=by
 induction u with
 |nil=>simpa using hT
 | @snoc n x y c d hd hr ha ih =>
  have hx:=xG L K hd ht;have hy:=(L.snd _ _ _ (K.ZQ ha)).2.2.2;refine AA (h.cl x y hx.1 hx.2 hy.1 hy.2 hr) ?_;rw[ha];have:=Dv (some d) ih;simp only[Av,zd7] at this;exact this
theorem Zg (L:Vn m rs rk Af)(K:Kept rs Af Cf){R T:Int->Co}(hs:0<=s/\s<m)(hR:yQ rk Cf s R)(hT:yR rk Cf s R T m){x:Co}(hx:BA rs s w x):BA rs s w (T w):=by
 have key:BO (T w) x:=by
  cases x with
  |none=>cases T w<;>exact trivial
  |some c =>
   obtain⟨t,n,c1,c2,g1,g2,e⟩:=Up L K hx;have ht:=xH L K g1 hs;rw[e];exact hT.le L K ht (AA (hT.top t ht.1 ht.2) (hR.le g1)) g2
 refine⟨λ c hc=>AA key (hx.1 c hc),λ p hp=>?_⟩;obtain⟨t,n,c1,c2,g1,g2,rfl⟩:=hT.sd w p hp;exact ((g1.of_kept K).walk L).trans ((g2.of_kept K).walk L)
end
theorem Wk.turn {rs:List Road}{u w:Int}{c:Int×Int}(h:Wk rs u w c):Wk (rs.map L9) w u c:=by
 induction h with
 |nil u=>exact .nil u
 | @cons r l w c hr hl _ ih =>
  have h1:Wk (rs.map L9) (L9 r).a (L9 r).b (l,1):=Wk.one (zaq.mpr ⟨r,hr,rfl⟩) hl;have:=ih.trans h1;have e:(c.1+l,c.2+1)=(l+c.1,1+c.2):=by rw[Int.add_comm,Int.add_comm c.2]
  rw[<-e];exact this
theorem FU (rs:List Road):(rs.map L9).map L9=rs:=by
 rw[zbv];exact (List.map_congr_left λ r _=>rfl).trans (List.map_id rs)
theorem BA.turn {rs:List Road}{u w:Int}{x:Co}(h:BA rs u w x):BA (rs.map L9) w u x:=by
 refine⟨λ c hc=>h.1 c ?_,λ p hp=>(h.2 p hp).turn⟩;have:=hc.turn;rw[FU] at this;exact this
theorem Vn.turn {m:Nat}{rs:List Road}{rk:Int->Nat}{Af:Int->Int->Co}(L:Vn m rs rk Af):Vn m (rs.map L9) rk (λ x y=>Af y x):=by
 refine⟨λ x y c h=>?_,λ r hr=>?_,λ p x y ad h1 h2=>?_,L.inj,λ x y c h=>?_⟩
 ·obtain⟨a,b,c,d⟩:=L.snd _ _ _ h;exact⟨a.turn,zbi b,d,c⟩
 ·obtain⟨r',bF,rfl⟩:=zaq.mp hr;exact L.road r' bF
 ·rw[FN];exact L.tri p y x (zbi ad) h2 h1
 ·have:=h.turn;rw[FU] at this;exact L.nn _ _ _ this
theorem Kept.turn {rs:List Road}{Af Cf:Int->Int->Co}(K:Kept rs Af Cf):Kept (rs.map L9) (λ x y=>Af y x) (λ x y=>Cf y x):=λ x y c=>by
 refine (K y x c).trans ⟨λ h=>⟨h.1,h.2.turn⟩,λ h=>⟨h.1,?_⟩⟩;have:=h.2.turn;rw[FU] at this;exact this
section
variable {κ β:Type} [DecidableEq κ]
noncomputable def As:List (κ×β)->κ->Option β
 |[],_=>none
 |(k,v)::r,x=>if k=x then some v else As r x
noncomputable def Dx (A:List (κ×β))(k:κ)(v:β):List (κ×β):=if (As A k).isSome=true then A.map λ kv=>if kv.1=k then (kv.1,v) else kv else A++[(k,v)]
theorem Sz (k j:κ)(v:β):∀A:List (κ×β),As (A.map λ kv=>if kv.1=k then (kv.1,v) else kv) j=if j=k then (As A j).map λ _=>v else As A j
 |[]=>by simp[As]
 |(k',v')::r=>by
  rw[za5];by_cases h1:k'=k
  ·rw[if_pos h1];subst h1;simp only[As];by_cases h2:k'=j
   ·subst h2;simp
   ·rw[if_neg h2,if_neg h2,Sz k' j v r]
  ·rw[if_neg h1];simp only[As];by_cases h2:k'=j
   ·subst h2;rw[if_pos rfl,if_pos rfl,if_neg h1]
   ·rw[if_neg h2,if_neg h2,Sz k j v r]
theorem Uq (k j:κ)(v:β):∀A:List (κ×β),As A k=none->As (A++[(k,v)]) j=if j=k then some v else As A j
 |[],_=>by
  simp only[List.nil_append,As];by_cases h:k=j
  ·subst h;simp
  ·rw[if_neg h,if_neg (zbi h)]
 |(k',v')::r,h=>by
  simp only[As] at h;by_cases h1:k'=k
  ·rw[if_pos h1] at h;cases h
  ·rw[if_neg h1] at h;rw[zda];simp only[As];rw[Uq k j v r h];by_cases h2:k'=j
   ·subst h2;rw[if_pos rfl,if_pos rfl,if_neg h1]
   ·rw[if_neg h2,if_neg h2]
theorem Fb (A:List (κ×β))(k j:κ)(v:β):As (Dx A k v) j=if j=k then some v else As A j:=by
 unfold Dx;by_cases h:(As A k).isSome=true
 ·rw[if_pos h,Sz];by_cases hj:j=k
  ·subst hj;rw[if_pos rfl,if_pos rfl];obtain⟨x,hx⟩:=zbu.mp h;rw[hx];rfl
  ·rw[if_neg hj,if_neg hj]
 ·rw[if_neg h];exact Uq k j v A (by cases e:As A k with|none=>rfl|some x=>rw[e] at h;exact (h rfl).elim)
theorem Gq:∀ {A:List (κ×β)}{k:κ},(As A k).isSome=true↔k∈A.map zb0
 |[],k=>by simp[As]
 |(k',v')::r,k=>by
  simp only[As,za5,zaa];by_cases h:k'=k
  ·rw[if_pos h];simp[h]
  ·rw[if_neg h,Gq];simp[zbi h]
theorem Ur {A:List (κ×β)}{k:κ}:As A k=none↔k∉A.map zb0:=by
 rw[<-Gq];cases As A k<;>simp
theorem Us (A:List (κ×β))(k:κ)(v:β):(Dx A k v).map zb0=if (As A k).isSome=true then A.map zb0 else A.map zb0++[k]:=by
 unfold Dx;split
 ·rw[zbv];refine List.map_congr_left λ kv _=>?_;dsimp only [Function.comp];split<;>rfl
 ·rw[zay];rfl
theorem Me {A:List (κ×β)}{k:κ}{v:β}(h:(A.map zb0).Nodup):((Dx A k v).map zb0).Nodup:=by
 rw[Us];split
 ·exact h
 ·rename_i hn;rw[Gq] at hn;rw[zax];exact⟨h,by simp,λ x hx y hy=>by rw[za7.mp hy];exact λ e=>hn (e▸hx)⟩
theorem OR {A:List (κ×β)}{k x:κ}{v:β}(h:x∈(Dx A k v).map zb0):x∈A.map zb0\/x=k:=by
 rw[Us] at h;split at h
 ·exact .inl h
 ·rcases zan.mp h with h|h
  ·exact .inl h
  ·exact .inr (za7.mp h)
theorem OS:∀ {A:List (κ×β)}{k:κ}{v:β},As A k=some v->(k,v)∈A
 |(k',v')::r,k,v,h=>by
  simp only[As] at h;split at h
  ·rename_i e;cases h;subst e;exact za3
  ·exact za4 _ (OS h)
theorem SA:∀ {A:List (κ×β)}{k:κ}{v:β},(A.map zb0).Nodup->(k,v)∈A->As A k=some v
 |(k',v')::r,k,v,hn,h=>by
  rw[za5,zbe] at hn;simp only[As];rcases zaa.mp h with e|h
  ·cases e;rw[if_pos rfl]
  ·have:k'≠k:=λ e=>hn.1 (e▸zaq.mpr ⟨_,h,rfl⟩);rw[if_neg this];exact SA hn.2 h
variable {kf:κ->D}{vf:β->D}(he:∀a b,Br (kf a) (kf b)=decide (a=b))
include he
theorem Le (A:List (κ×β))(k:κ):N9 (A.map λ kv=>kf kv.1) (kf k)=(As A k).isSome:=by
 induction A with
 |nil=>rfl
 |cons kv r ih =>
  obtain⟨k',v'⟩:=kv;unfold N9 at ih ⊢;rw[za5,zd5,ih,he];simp only[As];by_cases h:k'=k
  ·rw[if_pos h,decide_eq_true h];rfl
  ·rw[if_neg h,decide_eq_false h];rfl
theorem HN (A:List (κ×β))(k:κ):H9 (A.map λ kv=>kf kv.1) (A.map λ kv=>vf kv.2) (kf k)=(As A k).map vf:=by
 induction A with
 |nil=>rfl
 |cons kv r ih =>
  obtain⟨k',v'⟩:=kv;rw[za5,za5,H9,he,ih];simp only[As];by_cases h:k'=k
  ·rw[decide_eq_true h,if_pos rfl,if_pos h];rfl
  ·rw[decide_eq_false h,if_neg zaw,if_neg h]
theorem fL (k:κ)(v:β)(A:List (κ×β)):JG (A.map λ kv=>kf kv.1) (A.map λ kv=>vf kv.2) (kf k) (vf v)=(A.map λ kv=>if kv.1=k then (kv.1,v) else kv).map λ kv=>vf kv.2:=by
 induction A with
 |nil=>rfl
 |cons kv r ih =>
  obtain⟨k',v'⟩:=kv;rw[za5,za5,JG,he,ih,za5,za5];by_cases h:k'=k
  ·rw[decide_eq_true h,if_pos rfl,if_pos h]
  ·rw[decide_eq_false h,if_neg zaw,if_neg h]
theorem Lf (A:List (κ×β))(k:κ)(v:β):putD (A.map λ kv=>kf kv.1) (A.map λ kv=>vf kv.2) (kf k) (vf v)=((Dx A k v).map (λ kv=>kf kv.1),(Dx A k v).map λ kv=>vf kv.2):=by
 unfold putD Dx;rw[Le he];by_cases h:(As A k).isSome=true
 ·rw[if_pos h,if_pos h,fL he];refine Prod.ext ?_ rfl;dsimp only;rw[zbv];refine List.map_congr_left λ kv _=>?_;dsimp only [Function.comp];split<;>rfl
 ·rw[if_neg h,if_neg h,zay,zay];rfl
end
theorem HP (a b:Int):Br (.int a) (.int b)=decide (a=b):=by
 simp only[Br];by_cases h:a=b
 ·subst h;simp
 ·simp[h]
noncomputable abbrev LA:=List ((Int×Int)×((Int×Int)×Option Int))
noncomputable def Wf (v:(Int×Int)×Option Int):D:=.tup [cst (some v.1),D2 v.2]
noncomputable def Qq (A:LA):D:=.BB true (A.map λ kv=>pD kv.1) (A.map λ kv=>Wf kv.2)
noncomputable def Nc (A:LA):OT:=.BB true (A.map λ kv=>pD kv.1) ((A.map λ kv=>Wf kv.2).map .sh)
noncomputable def Ae (A:LA)(p:Int×Int):Co:=(As A p).map zb0
noncomputable def layA (A:LA)(p:Int×Int)(c:Co)(mid:Option Int):LA:=match c with
 |none=>A
 |some c=>(match As A p with
  |none=>Dx A p (c,mid)
  |some z=>if c.1<z.1.1\/(c.1=z.1.1/\c.2<z.1.2) then Dx A p (c,mid) else A)
theorem HQ (A:LA)(p q:Int×Int)(c:Co)(mid:Option Int):Ae (layA A p c mid) q=if q=p then EO (Ae A p) c else Ae A q:=by
 unfold layA Ae;cases c with
 |none =>
  by_cases h:q=p
  ·subst h;rw[if_pos rfl];cases As A q<;>rfl
  ·rw[if_neg h]
 |some c =>
  cases e:As A p with
  |none =>
   dsimp only;rw[Fb];by_cases h:q=p
   ·rw[if_pos h,if_pos h];rfl
   ·rw[if_neg h,if_neg h]
  |some z =>
   dsimp only;by_cases hc:c.1<z.1.1\/(c.1=z.1.1/\c.2<z.1.2)
   ·rw[if_pos hc,Fb];by_cases h:q=p
    ·rw[if_pos h,if_pos h];simp only[zbo,EO,lU];rw[if_neg (by omega)]
    ·rw[if_neg h,if_neg h]
   ·rw[if_neg hc];by_cases h:q=p
    ·subst h;rw[if_pos rfl,e];simp only[zbo,EO,lU];rw[if_pos (by omega)]
    ·rw[if_neg h]
theorem Wg (A:LA)(p q:Int×Int)(c:Co)(mid:Option Int):BO (Ae (layA A p c mid) q) (Ae A q):=by
 rw[HQ];split
 ·rename_i h;subst h;exact Gk _ _
 ·exact Ci _
theorem fM {A:LA}{p x:Int×Int}{c:Co}{mid:Option Int}(h:x∈(layA A p c mid).map zb0):x∈A.map zb0\/x=p:=by
 unfold layA at h;split at h
 ·exact .inl h
 ·split at h
  ·exact OR h
  ·split at h
   ·exact OR h
   ·exact .inl h
theorem Zh {A:LA}{p:Int×Int}{c:Co}{mid:Option Int}(h:(A.map zb0).Nodup):((layA A p c mid).map zb0).Nodup:=by
 unfold layA;split
 ·exact h
 ·split
  ·exact Me h
  ·split
   ·exact Me h
   ·exact h
noncomputable def NV (p u:Int)(A:LA)(w:Int):LA:=if u=w then A else layA A (u,w) (Av (Ae A (u,p)) (Ae A (p,w))) (some p)
noncomputable def Zi (p:Int)(H:List Int)(A:LA)(u:Int):LA:=H.foldl (NV p u) A
noncomputable def mJ (A:LA)(p:Int)(H:List Int):LA:=H.foldl (Zi p H) A
noncomputable def Qc:LA->List Int->LA
 |A,[]=>A
 |A,p::r=>Qc (mJ A p r) r
noncomputable def lay0 (rs:List Road):LA:=rs.foldl (λ A r=>layA A (r.a,r.b) (BY r) none) []
noncomputable def Bu (rs:List Road)(L:List Int):LA:=Qc (lay0 rs) L
structure Hb (m:Nat)(A:LA):Prop where
 nd:(A.map zb0).Nodup
 rg:∀p∈A.map zb0,p.1≠p.2/\(0<=p.1/\p.1<m)/\0<=p.2/\p.2<m
theorem Hb.lay {m:Nat}{A:LA}(h:Hb m A){p:Int×Int}{c:Co}{mid:Option Int}(hp:p.1≠p.2/\(0<=p.1/\p.1<m)/\0<=p.2/\p.2<m):Hb m (layA A p c mid):=
 ⟨Zh h.nd,λ q hq=>(fM hq).elim (h.rg q) λ e=>e▸hp⟩
theorem Hb.len {m:Nat}{A:LA}(h:Hb m A)(hm:m<=20):A.length<1000:=by
 have:=Cv.len (B:=A.map zb0) (m:=m) ⟨h.nd,λ x hx=>(h.rg _ hx).1 rfl,λ q hq=>⟨(h.rg q hq).2.1,(h.rg q hq).2.2⟩⟩ hm;rwa[za2] at this
theorem FV {α β:Type}{f:β->α->β}(P:List α->β->Prop):∀ {L pre:List α}{b:β},P pre b->(∀a∈L,∀pre b,P pre b->P (pre++[a]) (f b a))->P (pre++L) (L.foldl f b)
 |[],pre,b,h,_=>by rw[zb8];exact h
 |a::L,pre,b,h,hs=>by
  have:=FV P (L:=L) (hs a za3 pre b h) λ x hx=>hs x (za4 _ hx);rw[zbk] at this;exact this
def mK (rs:List Road)(A:LA):Prop:=∀x y c,Ae A (x,y)=some c->Wk rs x y c
theorem mK.lay {rs:List Road}{A:LA}(h:mK rs A){x y:Int}{c:Co}{mid:Option Int}(hc:∀p,c=some p->Wk rs x y p):mK rs (layA A (x,y) c mid):=λ u w d hd=>by
 rw[HQ] at hd;split at hd
 ·rename_i e;cases e;rcases Du (Ae A (x,y)) c with ⟨e,_⟩|⟨e,_⟩
  ·rw[e] at hd;exact h _ _ _ hd
  ·rw[e] at hd;exact hc d hd
 ·exact h _ _ _ hd
structure Over (m:Nat)(rs:List Road)(p:Int)(H:List Int)(A0 A:LA):Prop where
 ok:Hb m A
 sd:mK rs A
 le:∀q,BO (Ae A q) (Ae A0 q)
 sm:∀x y,(x∉H\/y∉H)->Ae A (x,y)=Ae A0 (x,y)
theorem Zj {m:Nat}{rs:List Road}{p:Int}{H:List Int}{A0 A:LA}(hp:p∉H)(hH:∀x∈H,0<=x/\x<m)(h:Over m rs p H A0 A){u w:Int}(hu:u∈H)(hw:w∈H):Over m rs p H A0 (NV p u A w)/\(u≠w->BO (Ae (NV p u A w) (u,w)) (Av (Ae A0 (u,p)) (Ae A0 (p,w)))):=by
 unfold NV;by_cases e:u=w
 ·rw[if_pos e];exact⟨h,λ z=>(z e).elim⟩
 ·rw[if_neg e];have e1:=h.sm u p (.inr hp);have e2:=h.sm p w (.inl hp);refine⟨⟨h.ok.lay ⟨e,hH u hu,hH w hw⟩,h.sd.lay λ c hc=>?_,λ q=>AA (Wg _ _ _ _ _) (h.le q),λ x y cm=>?_⟩,λ _=>?_⟩
  ·obtain⟨a,b,ha,hb,rfl⟩:=Ey hc;exact (h.sd _ _ _ ha).trans (h.sd _ _ _ hb)
  ·rw[HQ,if_neg (λ z=>by cases z;exact cm.elim (λ q=>q hu) λ q=>q hw)];exact h.sm x y cm
  ·rw[HQ,if_pos rfl,e1,e2];exact J0 _ _
theorem oG {p u:Int}{A:LA}{w:Int}(q:Int×Int):BO (Ae (NV p u A w) q) (Ae A q):=by
 unfold NV;split
 ·exact Ci _
 ·exact Wg _ _ _ _ _
theorem oH {p u:Int}(q:Int×Int):∀(H:List Int) (A:LA),BO (Ae (H.foldl (NV p u) A) q) (Ae A q)
 |[],A=>Ci _
 |w::H,A=>AA (oH q H (NV p u A w)) (oG q)
theorem sI {m:Nat}{rs:List Road}{p:Int}{H:List Int}{A0 A:LA}(hp:p∉H)(hH:∀x∈H,0<=x/\x<m)(h:Over m rs p H A0 A){u:Int}(hu:u∈H):Over m rs p H A0 (Zi p H A u)/\∀w∈H,u≠w->BO (Ae (Zi p H A u) (u,w)) (Av (Ae A0 (u,p)) (Ae A0 (p,w))):=by
 unfold Zi;have:=FV (L:=H) (pre:=[]) (f:=NV p u) (b:=A) (λ W A=>Over m rs p H A0 A/\∀w∈W,u≠w->BO (Ae A (u,w)) (Av (Ae A0 (u,p)) (Ae A0 (p,w)))) ⟨h,λ w hw=>by cases hw⟩ λ w hw W B hB=>by
  obtain⟨b1,b2⟩:=hB;obtain⟨c1,c2⟩:=Zj hp hH b1 hu hw;refine⟨c1,λ x hx ad=>?_⟩;rcases zan.mp hx with hx|hx
  ·exact AA (oG _) (b2 x hx ad)
  ·rw[za7.mp hx] at ad ⊢;exact c2 ad
 exact this
theorem fN {m:Nat}{rs:List Road}{p:Int}{H:List Int}{A:LA}(hp:p∉H)(hH:∀x∈H,0<=x/\x<m)(h1:Hb m A)(h2:mK rs A):Over m rs p H A (mJ A p H)/\∀u∈H,∀w∈H,u≠w->BO (Ae (mJ A p H) (u,w)) (Av (Ae A (u,p)) (Ae A (p,w))):=by
 unfold mJ;have:=FV (L:=H) (pre:=[]) (f:=Zi p H) (b:=A) (λ U B=>Over m rs p H A B/\∀u∈U,∀w∈H,u≠w->BO (Ae B (u,w)) (Av (Ae A (u,p)) (Ae A (p,w)))) ⟨⟨h1,h2,λ q=>Ci _,λ x y _=>rfl⟩,λ u hu=>by cases hu⟩ λ u hu U B hB=>by
  obtain⟨b1,b2⟩:=hB;obtain⟨c1,c2⟩:=sI hp hH b1 hu;refine⟨c1,λ x hx w hw ad=>?_⟩;rcases zan.mp hx with hx|hx
  ·exact AA (oH _ H B) (b2 x hx w hw ad)
  ·rw[za7.mp hx] at ad ⊢;exact c2 w hw ad
 exact this
theorem SD {m:Nat}{rs:List Road}(Aw:∀r∈rs,JK m r/\r.a≠r.b):Hb m (lay0 rs)/\mK rs (lay0 rs)/\∀r∈rs,BO (Ae (lay0 rs) (r.a,r.b)) (BY r):=by
 unfold lay0;have:=FV (L:=rs) (pre:=[]) (f:=λ A r=>layA A (r.a,r.b) (BY r) none) (b:=[]) (λ W A=>Hb m A/\mK rs A/\∀r∈W,BO (Ae A (r.a,r.b)) (BY r)) ⟨⟨by simp,λ p hp=>by cases hp⟩,⟨(λ _ _ _ h=>by cases h),λ r hr=>by cases hr⟩⟩ λ r hr W B hB=>by
  obtain⟨b1,b2,b3⟩:=hB;obtain⟨o1,o2⟩:=Aw r hr;refine⟨b1.lay ⟨o2,⟨o1.a0,o1.a1⟩,o1.b0,o1.b1⟩,b2.lay λ c hc=>?_,λ x hx=>?_⟩
  ·obtain⟨l,hl,rfl⟩:=HK hc;exact Wk.one hr hl
  ·rcases zan.mp hx with hx|hx
   ·exact AA (Wg _ _ _ _ _) (b3 x hx)
   ·rw[za7.mp hx,HQ,if_pos rfl];exact J0 _ _
 exact this
noncomputable def BZ:List Int->Int->Nat
 |[],_=>0
 |a::l,x=>if a=x then 0 else BZ l x+1
theorem XR:∀ {pre post:List Int}{p:Int},p∉pre->BZ (pre++p::post) p=pre.length
 |[],post,p,_=>by simp[BZ]
 |a::pre,post,p,h=>by
  rw[zaa,not_or] at h;rw[zda,BZ,if_neg (zbi h.1),XR h.2];rfl
theorem Wh:∀ {pre post:List Int}{x:Int},x∈pre->BZ (pre++post) x<pre.length
 |a::pre,post,x,h=>by
  rw[zda,BZ];by_cases e:a=x
  ·rw[if_pos e];simp
  ·rw[if_neg e,za9];have:=Wh (post:=post) ((zaa.mp h).resolve_left (zbi e));omega
theorem SE:∀ {pre post:List Int}{x:Int},x∉pre->pre.length<=BZ (pre++post) x
 |[],post,x,_=>zbc _
 |a::pre,post,x,h=>by
  rw[zaa,not_or] at h;rw[zda,BZ,if_neg (zbi h.1),za9];have:=SE (post:=post) h.2;omega
theorem SF:∀ {L:List Int}{x y:Int},x∈L->y∈L->BZ L x=BZ L y->x=y
 |a::l,x,y,hx,hy,e=>by
  rw[BZ,BZ] at e;by_cases h1:a=x
  ·by_cases h2:a=y
   ·rw[<-h1,<-h2]
   ·rw[if_pos h1,if_neg h2] at e;omega
  ·by_cases h2:a=y
   ·rw[if_neg h1,if_pos h2] at e;omega
   ·rw[if_neg h1,if_neg h2] at e;exact SF ((zaa.mp hx).resolve_left (zbi h1)) ((zaa.mp hy).resolve_left (zbi h2)) (by omega)
theorem Wi {L:List Int}{x:Int}(h:BZ L x<L.length):x∈L:=by
 refine zd2 λ hn=>?_;have:=SE (pre:=L) (post:=[]) hn;rw[zb8] at this;omega
theorem XS:∀(L:List Int) (x:Int),BZ L x<=L.length
 |[],_=>zag _
 |a::l,x=>by
  rw[BZ,za9];split
  ·omega
  ·have:=XS l x;omega
theorem MJ:∀ {L:List Int}{p:Int},p∈L->∃pre post,L=pre++p::post/\p∉pre
 |a::l,p,h=>by
  by_cases ha:a=p
  ·subst ha;exact⟨[],l,rfl,by simp⟩
  ·obtain⟨pre,post,e2,hn⟩:=MJ ((zaa.mp h).resolve_left (zbi ha));exact⟨a::pre,post,by rw[zda,<-e2],by simp[zbi ha,hn]⟩
theorem fO {L:List Int}{p:Int}(h:BZ L p<L.length):∃pre post,L=pre++p::post/\p∉pre/\∀x,BZ L p<BZ L x->x∈L->x∈post:=by
 obtain⟨pre,post,e,hn⟩:=MJ (Wi h);refine⟨pre,post,e,hn,λ x hr hx=>?_⟩;subst e;rw[XR hn] at hr;rcases zan.mp hx with hx|hx
 ·have:=Wh (post:=p::post) hx;omega
 ·rcases zaa.mp hx with rfl|hx
  ·rw[XR hn] at hr;omega
  ·exact hx
theorem sJ {m:Nat}{rs:List Road}{L:List Int}(hL:L.Nodup)(hr:∀x∈L,0<=x/\x<m):∀(post pre:List Int) (A:LA),L=pre++post->Hb m A->mK rs A->(∀r∈rs,BO (Ae A (r.a,r.b)) (BY r))->
 (∀pa p pb,L=pa++p::pb->pa.length<pre.length->∀x∈pb,∀y∈pb,x≠y->BO (Ae A (x,y)) (Av (Ae A (x,p)) (Ae A (p,y))))->
 Hb m (Qc A post)/\mK rs (Qc A post)/\(∀r∈rs,BO (Ae (Qc A post) (r.a,r.b)) (BY r))/\∀pa p pb,L=pa++p::pb->∀x∈pb,∀y∈pb,x≠y->BO (Ae (Qc A post) (x,y)) (Av (Ae (Qc A post) (x,p)) (Ae (Qc A post) (p,y))):=by
 intro post;induction post with
 |nil =>
  intro pre A e h1 h2 h3 h4;rw[zb8] at e;refine⟨h1,h2,h3,λ pa p pb e2=>h4 pa p pb e2 ?_⟩;rw[<-e,e2,zaj,za9];omega
 |cons p post ih =>
  intro pre A e h1 h2 h3 h4;rw[Qc];have hn:(pre++p::post).Nodup:=e▸hL;rw[zax,zbe] at hn;have bo:∀x∈post,0<=x/\x<m:=λ x hx=>hr x (by rw[e];simp[hx]);obtain⟨o,ov⟩:=fN (p:=p) hn.2.1.1 bo h1 h2;refine ih (pre++[p]) (mJ A p post) (by rw[e];simp) o.ok o.sd (λ r bF=>AA (o.le _) (h3 r bF)) λ pa q pb e2 af x hx y hy ad=>?_;rw[zaj,zbf] at af;by_cases hq:pa.length<pre.length
  ·-- an mq one
   have u5:q∉post:=λ bu=>by
    have e3:pre++p::post=pa++q::pb:=by rw[<-e,e2]
    have q1:q∈pre:=by
     have:=congrArg (λ l=>l[pa.length]?) e3;rw[zc8 hq,zd6 (zag _),Nat.sub_self] at this;exact zao this
    exact hn.2.2 q q1 q (za4 _ bu) rfl
   rw[o.sm x q (.inr u5),o.sm q y (.inl u5)];exact AA (o.le _) (h4 pa q pb e2 hq x hx y hy ad)
  ·have hpl:pa.length=pre.length:=by omega
   have e3:pa++q::pb=pre++p::post:=by rw[<-e2,e]
   obtain⟨rfl,e4⟩:=List.append_inj e3 hpl;cases e4;rw[o.sm x p (.inr hn.2.1.1),o.sm p y (.inl hn.2.1.1)];exact ov x hx y hy ad
theorem Lg {m:Nat}{rs:List Road}{L:List Int}(hL:L.Perm (Bp m))(Aw:∀r∈rs,JK m r/\r.a≠r.b):Hb m (Bu rs L)/\Vn m rs (BZ L) (λ x y=>Ae (Bu rs L) (x,y)):=by
 have jp:L.Nodup:=Gp hL;obtain⟨a1,a2,a3⟩:=SD Aw;obtain⟨b1,b2,b3,b4⟩:=sJ jp (λ x hx=>(B8 hL).mp hx) L [] (lay0 rs) rfl a1 a2 a3 (λ pa p pb _ h=>by simp at h);refine⟨b1,λ x y c h=>?_,b3,λ p x y ad h1 h2=>?_,λ x y x0 x1 y0 y1 e=>SF ((B8 hL).mpr ⟨x0,x1⟩) ((B8 hL).mpr ⟨y0,y1⟩) e,λ x y c h=>Wk.nn (λ r hr=>(Aw r hr).1) h⟩
 ·have hm:(x,y)∈(Qc (lay0 rs) L).map zb0:=by
   rw[<-Gq];unfold Ae at h;cases q:As (Bu rs L) (x,y) with
   |none=>rw[q] at h;cases h
   |some z=>unfold Bu at q;rw[q];rfl
  have:=b1.rg _ hm;exact⟨b2 _ _ _ h,this.1,this.2.1,this.2.2⟩
 ·have aK:∀ {x y:Int} {c:Int×Int},Ae (Bu rs L) (x,y)=some c->x∈L/\y∈L:=fun {x y c} h=>by
   have hm:(x,y)∈(Qc (lay0 rs) L).map zb0:=by
    rw[<-Gq];unfold Ae at h;cases q:As (Bu rs L) (x,y) with
    |none=>rw[q] at h;cases h
    |some z=>unfold Bu at q;rw[q];rfl
   have:=b1.rg _ hm;exact⟨(B8 hL).mpr this.2.1,(B8 hL).mpr this.2.2⟩
  have hpl:BZ L p<L.length:=zal h1 (XS L x);obtain⟨pre,post,e,hn,ff⟩:=fO hpl;cases q1:Ae (Bu rs L) (x,p) with
  |none=>cases Ae (Bu rs L) (x,y)<;>exact trivial
  |some c1 =>
   cases q2:Ae (Bu rs L) (p,y) with
   |none=>cases Ae (Bu rs L) (x,y)<;>exact trivial
   |some c2 =>
    have r:=b4 pre p post e x (ff x h1 (aK q1).1) y (ff y h2 (aK q2).2) ad;rw[<-q1,<-q2];exact r
noncomputable abbrev CA:=List ((Int×Int)×(Int×Int))
noncomputable def Tb (C:CA):D:=.BB true (C.map λ kv=>pD kv.1) (C.map λ kv=>cst (some kv.2))
noncomputable def yS (C:CA):OT:=.BB true (C.map λ kv=>pD kv.1) ((C.map λ kv=>cst (some kv.2)).map .sh)
noncomputable abbrev RA:=List (Int×(Int×Int))
noncomputable def Zk (R:RA):D:=.BB false (R.map λ kv=>D.int kv.1) (R.map λ kv=>cst (some kv.2))
noncomputable def Wj (R:RA):OT:=.BB false (R.map λ kv=>D.int kv.1) ((R.map λ kv=>cst (some kv.2)).map .sh)
theorem SG (A:LA):er (Nc A)=Qq A:=JJ
theorem SH (C:CA):er (yS C)=Tb C:=JJ
theorem SI (R:RA):er (Wj R)=Zk R:=JJ
theorem Mf (i:Int):keyOk false (.int i)=true:=rfl
theorem SJ (A:LA)(p:Int×Int)(neg:Bool):JH neg (pD p) (Qq A)=.ok (.bl (if neg=true then !(As A p).isSome else (As A p).isSome)):=by
 unfold Qq JH;dsimp only;rw[if_pos (HL p),Le Gn]
theorem OU {A:LA}{p:Int×Int}{v:(Int×Int)×Option Int}(h:As A p=some v):AM (Qq A) (pD p)=.ok (Wf v):=by
 unfold Qq AM;dsimp only;rw[if_pos (HL p),HN Gn,h];rfl
theorem sL (C:CA)(p:Int×Int)(neg:Bool):JH neg (pD p) (Tb C)=.ok (.bl (if neg=true then !(As C p).isSome else (As C p).isSome)):=by
 unfold Tb JH;dsimp only;rw[if_pos (HL p),Le Gn]
theorem sM {C:CA}{p:Int×Int}{c:Int×Int}(h:As C p=some c):AM (Tb C) (pD p)=.ok (cst (some c)):=by
 unfold Tb AM;dsimp only;rw[if_pos (HL p),HN (vf:=λ c=>cst (some c)) Gn,h];rfl
theorem sN (C:CA)(p:Int×Int):Rj (Tb C) (.ok (pD p))=.ok (cst (As C p)):=by
 unfold Tb Rj;simp only[M.Ad];rw[if_pos (HL p),HN (vf:=λ c=>cst (some c)) Gn];cases As C p<;>rfl
theorem fP (R:RA)(p:Int)(neg:Bool):JH neg (.int p) (Zk R)=.ok (.bl (if neg=true then !(As R p).isSome else (As R p).isSome)):=by
 unfold Zk JH;dsimp only;rw[if_pos (Mf p),Le (kf:=D.int) HP]
theorem Wl {R:RA}{p:Int}{c:Int×Int}(h:As R p=some c):AM (Zk R) (.int p)=.ok (cst (some c)):=by
 unfold Zk AM;dsimp only;rw[if_pos (Mf p),HN (kf:=D.int) (vf:=λ c=>cst (some c)) HP,h];rfl
theorem fQ (R:RA)(p:Int):Rj (Zk R) (.ok (.int p))=.ok (cst (As R p)):=by
 unfold Zk Rj;simp only[M.Ad];rw[if_pos (Mf p),HN (kf:=D.int) (vf:=λ c=>cst (some c)) HP];cases As R p<;>rfl
theorem fR (A:LA)(p:Int×Int)(v:(Int×Int)×Option Int):putD (A.map λ kv=>pD kv.1) (A.map λ kv=>Wf kv.2) (pD p) (Wf v)=((Dx A p v).map (λ kv=>pD kv.1),(Dx A p v).map λ kv=>Wf kv.2):=Lf Gn A p v
theorem sO (R:RA)(p:Int)(c:Int×Int):putD (R.map λ kv=>D.int kv.1) (R.map λ kv=>cst (some kv.2)) (.int p) (cst (some c))=((Dx R p c).map (λ kv=>D.int kv.1),(Dx R p c).map λ kv=>cst (some kv.2)):=Lf (kf:=D.int) (vf:=λ c=>cst (some c)) HP R p c
theorem SK {α:Type}(k v:α->D):∀l:List α,Sr (l.map λ x=>.tup [k x,v x])=some (l.map λ x=>(k x,v x))
 |[]=>rfl
 |x::l=>by rw[za5,Sr,SK k v l];rfl
theorem oI:∀(C C0:CA),((C0++C).map zb0).Nodup->(C.map λ kv=>(pD kv.1,cst (some kv.2))).foldl (λ z kv=>putD z.1 z.2 kv.1 kv.2) (C0.map (λ kv=>pD kv.1),C0.map λ kv=>cst (some kv.2))=((C0++C).map (λ kv=>pD kv.1),(C0++C).map λ kv=>cst (some kv.2))
 |[],C0,_=>by simp
 |kv::C,C0,hn=>by
  obtain⟨p,c⟩:=kv;rw[za5,zav];dsimp only;have h0:As C0 p=none:=by
   rw[Ur];intro hm;rw[zay,zax] at hn;exact hn.2.2 p hm p (by simp) rfl
  have e:Dx C0 p c=C0++[(p,c)]:=by unfold Dx;rw[h0];rfl
  rw[Lf (vf:=λ c=>cst (some c)) Gn,e,oI C (C0++[(p,c)]) (by rw[zbk];exact hn),zbk];rfl
theorem fS {C:CA}(hn:(C.map zb0).Nodup)(hl:C.length<=1000):lP (.lst (C.map λ kv=>.tup [pD kv.1,cst (some kv.2)]))=.ok (yS C):=by
 unfold lP;dsimp only;rw[SK (λ kv:(Int×Int)×(Int×Int)=>pD kv.1) (λ kv=>cst (some kv.2))];dsimp only;have e:=oI C [] hn;rw[if_pos ⟨by rw[za2];exact hl,by rw[List.all_map];exact zdb.mpr λ x _=>rfl⟩];have e2:nZ (C.map λ kv=>(pD kv.1,cst (some kv.2)))=(C.map (λ kv=>pD kv.1),C.map λ kv=>cst (some kv.2)):=e;rw[e2];rfl
noncomputable def B9 (m:Nat)(rs:List Road)(L:List Int)(A:LA)(K:List (Int×Int)):D:=.ins "Ladder" ["own_map","own_order","laid","kept_ones"] [Am m rs,.lst (L.map D.int),Qq A,.lst (K.map pD)]
structure Bc (m:Nat)(rs:List Road)(L:List Int)(A:LA)(K:List (Int×Int)):Prop where
 m1:1<=m
 m2:m<=16
 rl:rs.length<=60
 ok:∀r∈rs,JK m r/\r.a≠r.b
 pm:L.Perm (Bp m)
 la:A=Bu rs L
 kn:K.Nodup
 km:∀p,p∈K↔∃c,Ae A p=some c/\BA rs p.1 p.2 (some c)
theorem Bc.xI {m:Nat}{rs:List Road}{L:List Int}{A:LA}{K:List (Int×Int)}(h:Bc m rs L A K):Hb m A:=by
 rw[h.la];exact (Lg h.pm h.ok).1
theorem Bc.ZQ {m:Nat}{rs:List Road}{L:List Int}{A:LA}{K:List (Int×Int)}(h:Bc m rs L A K):Vn m rs (BZ L) (λ x y=>Ae A (x,y)):=by
 rw[h.la];exact (Lg h.pm h.ok).2
theorem EQ {A:LA}{p:Int×Int}{c:Int×Int}(h:Ae A p=some c):p∈A.map zb0:=by
 rw[<-Gq];unfold Ae at h;cases q:As A p with
 |none=>rw[q] at h;cases h
 |some z=>rfl
theorem Bc.Yl {m:Nat}{rs:List Road}{L:List Int}{A:LA}{K:List (Int×Int)}(h:Bc m rs L A K){p:Int×Int}(hp:p∈K):p.1≠p.2/\(0<=p.1/\p.1<m)/\0<=p.2/\p.2<m:=by
 obtain⟨c,hc,_⟩:=(h.km p).mp hp;exact h.xI.rg p (EQ hc)
theorem Bc.kl {m:Nat}{rs:List Road}{L:List Int}{A:LA}{K:List (Int×Int)}(h:Bc m rs L A K):K.length<1000:=
 Cv.len (m:=m) ⟨h.kn,λ x hx=>(h.Yl hx).1 rfl,λ q hq=>⟨(h.Yl hq).2.1,(h.Yl hq).2.2⟩⟩ (by have:=h.m2;omega)
noncomputable def Hc (A:LA)(K:List (Int×Int)):CA:=K.map λ p=>(p,(Ae A p).getD (0,0))
theorem OV (A:LA)(K:List (Int×Int)):(Hc A K).map zb0=K:=by
 unfold Hc;rw[zbv];exact (List.map_congr_left λ p _=>rfl).trans (List.map_id K)
theorem Bc.kept {m:Nat}{rs:List Road}{L:List Int}{A:LA}{K:List (Int×Int)}(h:Bc m rs L A K):Kept rs (λ x y=>Ae A (x,y)) (λ x y=>As (Hc A K) (x,y)):=λ x y c=>by
 have hn:((Hc A K).map zb0).Nodup:=by rw[OV];exact h.kn
 constructor
 ·intro hf;have hm:=OS hf;unfold Hc at hm;obtain⟨p,hp,e⟩:=zaq.mp hm;obtain⟨c',hc,aQ⟩:=(h.km p).mp hp;rw[hc] at e;cases e;exact⟨hc,aQ⟩
 ·rintro ⟨h1,h2⟩;refine SA hn ?_;unfold Hc;exact zaq.mpr ⟨(x,y),(h.km (x,y)).mpr ⟨c,h1,h2⟩,by rw[show Ae A (x,y)=some c from h1];rfl⟩
noncomputable def Qr (C:CA):CA:=C.map λ kv=>((kv.1.2,kv.1.1),kv.2)
theorem Zl {C:CA}(h:(C.map zb0).Nodup):((Qr C).map zb0).Nodup:=by
 have e:(Qr C).map zb0=(C.map zb0).map λ p=>(p.2,p.1):=by
  unfold Qr;rw[zbv,zbv];rfl
 rw[e];exact (List.pairwise_map.mpr (h.imp fun {a b} j0 e=>j0 (by cases a;cases b;cases e;rfl)))
theorem Lh (x y:Int):∀C:CA,As (Qr C) (x,y)=As C (y,x)
 |[]=>rfl
 |((a,b),c)::C=>by
  unfold Qr;rw[za5,As,As];have:=Lh x y C;unfold Qr at this;rw[this];by_cases h:a=y/\b=x
  ·rw[if_pos (by rw[h.1,h.2]),if_pos (by rw[h.1,h.2])]
  ·rw[if_neg (λ e=>h (by cases e;exact⟨rfl,rfl⟩)),if_neg (λ e=>h (by cases e;exact⟨rfl,rfl⟩))]
theorem xJ (p q:Int×Int):eV (cst (some p)) (cst (some q))=.ok (.bl (decide (p.1<q.1\/(p.1=q.1/\p.2<q.2)))):=by
 rw[<-Fo];rfl
theorem Wm {m:M Out}{t r:OT}(h:WP m (λ ρ=>HF ρ=some t/\OT.sh .AJ=r) (λ o=>match o with | .FE r' ρ=>HF ρ=some t/\r'=r | _=>False) (λ _=>False)):EL m=.ok (t,r):=by
 cases m with
 |bad|ex x=>exact h.elim
 |ok o =>
  cases o with
  |next ρ=>obtain⟨h1,h2⟩:=(show HF ρ=some t/\OT.sh .AJ=r from h);unfold EL;dsimp only;rw[h1,<-h2]
  |FE r' ρ=>obtain⟨h1,h2⟩:=(show HF ρ=some t/\r'=r from h);unfold EL;dsimp only;rw[h1,<-h2]
  |ret d|D1 d|brk d|cont d=>exact h.elim
theorem Mg {F:OT->List D->M (OT×OT)}{ρ:Aj}{p:Option Nat}{t t2 r:OT}{ao:List D}{i:Nat}(h:ρ[i]?=some (some (.ow (.tree p t))))(hN:eA t=true)(hF:F t ao=.ok (t2,r)):U5 i F ρ [] ao=.ok (ρ.set i (some (toCl p t2)),r):=by
 rw[eB h rfl rfl hN hF,DR]
theorem EA {A:LA}{p:Option Nat}{ρ:Aj}:GL 0 (some (.ow (.tree p (Nc A)))::ρ) []=.ok (true,A.map (λ kv=>pD kv.1),A.map λ kv=>Wf kv.2):=Ds
theorem J1 {R:RA}{p:Option Nat}{ρ:Aj}:GL 0 (some (.ow (.tree p (Wj R)))::ρ) []=.ok (false,R.map (λ kv=>D.int kv.1),R.map λ kv=>cst (some kv.2)):=Ds
theorem Hb.ov {m:Nat}{A:LA}(h:Hb m A){p u w:Int}(hu:0<=u/\u<m)(hw:0<=w/\w<m):Hb m (NV p u A w):=by
 unfold NV;split
 ·exact h
 ·rename_i e;exact h.lay ⟨e,hu,hw⟩
theorem Hb.ou {m:Nat}{p u:Int}(hu:0<=u/\u<m):∀ {H:List Int}{A:LA},Hb m A->(∀x∈H,0<=x/\x<m)->Hb m (H.foldl (NV p u) A)
 |[],A,h,_=>h
 |w::H,A,h,hH=>by
  have r:=Hb.ou (A:=NV p u A w) (H:=H) (p:=p) hu (h.ov hu (hH w za3)) λ x hx=>hH x (za4 _ hx);exact r
theorem ER {α β:Type}{f:β->α->β}{l:List α}{i:Nat}{x:α}{b:β}(h:l[i]?=some x):(l.take (i+1)).foldl f b=f ((l.take i).foldl f b) x:=by
 rw[zc4,h,Option.toList_some,List.foldl_append];rfl
theorem Hb.lo {m:Nat}{p:Int}{H0:List Int}(h0:∀x∈H0,0<=x/\x<m):∀ {H:List Int}{A:LA},Hb m A->(∀x∈H,0<=x/\x<m)->Hb m (H.foldl (Zi p H0) A)
 |[],A,h,_=>h
 |w::H,A,h,hH=>by
  have r:=Hb.lo (p:=p) (A:=Zi p H0 A w) (H:=H) h0 (Hb.ou (hH w za3) h h0) λ x hx=>hH x (za4 _ hx);exact r
theorem NW (c:Co):Vl (.ok (.sh (cst c)))=.ok (.sh (cst c)):=by
 cases c<;>rfl
def Rcb (a b:List Co×Bool):Prop:=b.2=true/\(a.2=false\/(a.2=true/\Qb ltN a.1 b.1))
theorem sP (x:List Co):Acc Rcb (x,false):=.intro _ λ y h=>by cases h.1
theorem sQ (x:List Co):Acc Rcb (x,true):=by
 have:=Z6 x;induction this with
 |intro x _ ih =>
  refine .intro _ λ y h=>?_;obtain⟨y,b⟩:=y;rcases h.2 with e|⟨e,h2⟩
  ·dsimp only at e;subst e;exact sP y
  ·dsimp only at e;subst e;exact ih y h2
theorem Wn (n:Nat):Cg 0 n=(Bp n).map D.int:=by rw[Ol,OO]
theorem Md.okR {m:Nat}{r:Road}(h:Md m r):JK m r/\r.a≠r.b:=⟨⟨h.a0,h.a1,h.b0,h.b1,λ l hl=>(h.l0 l hl).1⟩,h.ab⟩
def KP (rs:List Road)(A:LA)(p:Int×Int):Prop:=∃c,Ae A p=some c/\BA rs p.1 p.2 (some c)
noncomputable def xK (A:LA)(cs:List Co)(u w:Int):Bool:=match Ae A (u,w) with
 |none=>false
 |some c=>decide (some c=atC cs w)
theorem fT {m s:Nat}{rs:List Road}{cs:List Co}{A:LA}(hR:Right m s rs cs)(Aw:∀r∈rs,JK m r){w:Int}(h0:0<=w)(h1:w<m):xK A cs s w=true↔KP rs A (s,w):=by
 have hm:=hR.oC Aw h0 h1;unfold xK KP;cases q:Ae A ((s:Int),w) with
 |none=>simp
 |some c =>
  dsimp only;constructor
  ·intro h;have e:=of_decide_eq_true h;exact⟨c,rfl,e▸hm⟩
  ·rintro ⟨c',e,h⟩;cases e;exact decide_eq_true (h.Cd hm)
theorem sR {m:Nat}{rs:List Road}{A:LA}{K:List (Int×Int)}(hA:Hb m A)(hm:m<=20)(hn:K.Nodup)(hK:∀p∈K,KP rs A p):K.length<1000:=by
 have hr:∀p∈K,p.1≠p.2/\(0<=p.1/\p.1<m)/\0<=p.2/\p.2<m:=λ p hp=>by
  obtain⟨c,hc,_⟩:=hK p hp;exact hA.rg p (EQ hc)
 exact Cv.len (m:=m) ⟨hn,λ x hx=>(hr _ hx).1 rfl,λ q hq=>⟨(hr q hq).2.1,(hr q hq).2.2⟩⟩ hm
theorem Mh:∀ds:List D,(∀d∈ds,M5 d=true)->GI (ds.map .sh)=true
 |[],_=>rfl
 |d::ds,h=>by
  rw[za5,GI,Hy,h d za3,Mh ds λ x hx=>h x (za4 _ hx)];rfl
theorem OW {ds:List D}(h:∀d∈ds,M5 d=true):Vl (.ok (.lst (ds.map .sh)))=.ok (.lst (ds.map .sh)):=by
 unfold Vl;simp only[M.Ad];rw[Hy,Mh ds h];rfl
theorem fU (L:List Int):Vl (.ok (.lst ((L.map D.int).map .sh)))=.ok (.lst ((L.map D.int).map .sh)):=OW λ d hd=>by
 obtain⟨x,_,rfl⟩:=zaq.mp hd;rfl
theorem mL (K:List (Int×Int)):Vl (.ok (.lst ((K.map pD).map .sh)))=.ok (.lst ((K.map pD).map .sh)):=OW λ d hd=>by
 obtain⟨x,_,rfl⟩:=zaq.mp hd;exact fF x
theorem fV (cs:List Co):Vl (.ok (.lst ((cs.map cst).map .sh)))=.ok (.lst ((cs.map cst).map .sh)):=OW λ d hd=>by
 obtain⟨x,_,rfl⟩:=zaq.mp hd;exact XM x
theorem sS (v:(Int×Int)×Option Int):M5 (Wf v)=true:=by
 obtain⟨c,l⟩:=v;cases l<;>rfl
theorem mM (A:LA):Vl (.ok (Nc A))=.ok (Nc A):=by
 unfold Vl Nc;simp only[M.Ad];rw[Hy,Mh _ λ d hd=>by
  obtain⟨x,_,rfl⟩:=zaq.mp hd;exact sS x.2]
 rfl
theorem OX {L:List Int}(hn:L.Nodup){i:Nat}{x:Int}(h:L[i]?=some x):BZ L x=i:=by
 have af:=(zai.mp h).1;have e:L=L.take i++x::L.drop (i+1):=by
  have h2:L.drop i=x::L.drop (i+1):=by
   rw[zcl af];rw[za8 af] at h;rw[zas h]
  rw[<-h2,zc9]
 have hx:x∉L.take i:=λ hm=>by
  rw[e,zax] at hn;exact hn.2.2 x hm x za3 rfl
 rw[e,XR hx,zby];omega
theorem XT {L:List Int}(hn:L.Nodup){i:Nat}{y:Int}(h:y∈L.drop i):i<=BZ L y:=by
 have hy:y∉L.take i:=λ hm=>by
  rw[<-zc9 i L,zax] at hn;exact hn.2.2 y hm y h rfl
 have h1:=SE (pre:=L.take i) (post:=L.drop i) hy;rw[zc9,zby] at h1;have h2:L.drop i≠[]:=λ e=>by rw[e] at h;cases h
 have h3:i<L.length:=by
  rw[Ne,List.drop_eq_nil_iff] at h2;omega
 omega
theorem mN {L:List Int}{i:Nat}{y:Int}(h:y∈L)(hr:i<=BZ L y):y∈L.drop i:=by
 rw[<-zc9 i L] at h;rcases zan.mp h with h|h
 ·have h1:=Wh (post:=L.drop i) h;rw[zc9,zby] at h1;omega
 ·exact h
structure Qd (L:List Int)(C:CA)(s:Int)(i:Nat)(R:RA):Prop where
 nd:(R.map zb0).Nodup
 rg:∀k∈R.map zb0,k∈L
 st:BO (As R s) (some (0,0))
 sd:∀y c,As R y=some c->Ld (λ x y=>As C (x,y)) (BZ L) s y c
 cl:∀x y,BZ L x<i->BZ L x<BZ L y->BO (As R y) (Av (As R x) (As C (x,y)))
theorem Qd.len {L:List Int}{C:CA}{s:Int}{i:Nat}{R:RA}(h:Qd L C s i R):R.length<=L.length:=by
 have:=Ez h.nd h.rg;rwa[za2] at this
structure oJ (L:List Int)(C:CA)(s:Int)(i:Nat)(x:Int)(c0:Int×Int)(W:List Int)(R0 R:RA):Prop where
 nd:(R.map zb0).Nodup
 rg:∀k∈R.map zb0,k∈L
 sd:∀y c,As R y=some c->Ld (λ x y=>As C (x,y)) (BZ L) s y c
 le:∀y,BO (As R y) (As R0 y)
 sm:∀y,BZ L y<=i->As R y=As R0 y
 cw:∀y∈W,BO (As R y) (Av (some c0) (As C (x,y)))
theorem oJ.put {L:List Int}{C:CA}{s:Int}{i:Nat}{x:Int}{c0:Int×Int}{W:List Int}{R0 R:RA}(h:oJ L C s i x c0 W R0 R){y:Int}{d v:Int×Int}(hy:y∈L)(hr:i<BZ L y)(hx:BZ L x=i)(qp:As R0 x=some c0)(hd:As C (x,y)=some d)(hv:EO (As R y) (some (c0.1+d.1,c0.2+d.2))=some v):oJ L C s i x c0 (W++[y]) R0 (Dx R y v):=by
 have hle:BO (some v) (As R y):=hv▸Gk _ _;refine⟨Me h.nd,λ k hk=>(OR hk).elim (h.rg k) λ e=>e▸hy,λ z c hz=>?_,λ z=>?_,λ z hz=>?_,λ z hz=>?_⟩
 ·rw[Fb] at hz;split at hz
  ·rename_i e;subst e;cases hz;rcases Du (As R z) (some (c0.1+d.1,c0.2+d.2)) with ⟨e,_⟩|⟨e,_⟩
   ·rw[hv] at e;exact h.sd z _ e.symm
   ·rw[hv] at e;cases e;have aA:=h.sd x c0 (by rw[h.sm x (by omega)];exact qp);exact .snoc aA (by omega) hd
  ·exact h.sd z c hz
 ·rw[Fb];split
  ·rename_i e;subst e;exact AA hle (h.le z)
  ·exact h.le z
 ·rw[Fb,if_neg (λ e=>by subst e;omega)];exact h.sm z hz
 ·rw[Fb];split
  ·rename_i e;subst e;rw[hd];exact hv▸J0 _ _
  ·rename_i e;rcases zan.mp hz with hz|hz
   ·exact h.cw z hz
   ·exact (e (za7.mp hz)).elim
theorem oJ.skip {L:List Int}{C:CA}{s:Int}{i:Nat}{x:Int}{c0:Int×Int}{W:List Int}{R0 R:RA}(h:oJ L C s i x c0 W R0 R){y:Int}(hd:As C (x,y)=none):oJ L C s i x c0 (W++[y]) R0 R:=
 ⟨h.nd,h.rg,h.sd,h.le,h.sm,λ z hz=>by
  rcases zan.mp hz with hz|hz
  ·exact h.cw z hz
  ·rw[za7.mp hz,hd];cases As R y<;>exact trivial⟩
theorem Qd.go {L:List Int}{C:CA}{s:Int}{i:Nat}{x:Int}{c0:Int×Int}{R0 R:RA}(hC:∀p c,As C p=some c->p.2∈L)(h0:Qd L C s i R0)(hx:L[i]?=some x)(hn:L.Nodup)(hc:As R0 x=some c0)(h:oJ L C s i x c0 (L.drop (i+1)) R0 R):Qd L C s (i+1) R:=by
 have rf:=OX hn hx;refine⟨h.nd,h.rg,AA (h.le s) h0.st,h.sd,λ u y hu hy=>?_⟩;by_cases e:BZ L u<i
 ·rw[h.sm u (by omega)];exact AA (h.le y) (h0.cl u y e hy)
 ·have e2:BZ L u=i:=by omega
  have hi:=(zai.mp hx).1;have rh:u∈L:=Wi (by omega);have eu:u=x:=SF rh (zao hx) (by omega);subst eu;rw[h.sm u (by omega),hc];cases q:As C (u,y) with
  |none=>cases As R y<;>exact trivial
  |some d =>
   have:=h.cw y (mN (hC _ _ q) (by omega));rw[q] at this;exact this
theorem Qd.skip {L:List Int}{C:CA}{s:Int}{i:Nat}{x:Int}{R:RA}(h0:Qd L C s i R)(hx:L[i]?=some x)(hn:L.Nodup)(hc:As R x=none):Qd L C s (i+1) R:=by
 have rf:=OX hn hx;refine⟨h0.nd,h0.rg,h0.st,h0.sd,λ u y hu hy=>?_⟩;by_cases e:BZ L u<i
 ·exact h0.cl u y e hy
 ·have hi:=(zai.mp hx).1;have eu:u=x:=SF (Wi (by omega)) (zao hx) (by omega);subst eu;rw[hc];cases As C (u,y)<;>cases As R y<;>exact trivial
theorem Qd.start {L:List Int}{C:CA}{s:Int}(hs:s∈L):Qd L C s 0 [(s,(0,0))]:=by
 refine⟨by simp,λ k hk=>by simp at hk;rw[hk];exact hs,by simp[As,BO],λ y c h=>?_,λ x y h=>by omega⟩;simp only[As] at h;split at h
 ·rename_i e;subst e;cases h;exact .nil
 ·cases h
theorem Qd.upC {m:Nat}{L:List Int}{C:CA}{s:Int}{R:RA}(h:Qd L C s L.length R)(hC:∀p c,As C p=some c->p.1∈L/\p.2∈L):yQ (BZ L) (λ x y=>As C (x,y)) s (As R):=by
 refine⟨h.st,λ x y hr=>?_,h.sd⟩;cases q:As C (x,y) with
 |none=>cases As R x<;>cases As R y<;>exact trivial
 |some d =>
  have hx:BZ L x<L.length:=zal hr (XS L y);have:=h.cl x y hx hr;rw[q] at this;exact this
structure iG (m:Nat)(L:List Int)(C:CA)(s:Int)(R:RA)(W:List Int)(T:List Co):Prop where
 len:T.length=m
 no:∀x:Int,0<=x->x<m->x∉W->atC T x=none
 top:∀x∈W,BO (atC T x) (As R x)
 cl:∀x∈W,∀y∈W,BZ L y<BZ L x->BO (atC T y) (Av (atC T x) (As C (x,y)))
 sd:∀(x:Int) c,0<=x->x<m->atC T x=some c->∃t n c1 c2,Ld (λ x y=>As C (x,y)) (BZ L) s t c1/\Sy (λ x y=>As C (x,y)) (BZ L) t n x c2/\c=(c1.1+c2.1,c1.2+c2.2)
theorem iG.step {m:Nat}{L:List Int}{C:CA}{s:Int}{R:RA}{W:List Int}{T:List Co}(hR:∀y c,As R y=some c->Ld (λ x y=>As C (x,y)) (BZ L) s y c)(h:iG m L C s R W T){y:Int}(rj:0<=y)(xh:y<m)(rm:y∉W)(hW:∀x∈W,(0<=x/\x<m)/\BZ L y<BZ L x):
 iG m L C s R (W++[y]) (T.set y.toNat (Ep (As R y::W.map λ x=>Av (atC T x) (As C (x,y))))):=by
 obtain⟨v,hv⟩:∃v,v=Ep (As R y::W.map λ x=>Av (atC T x) (As C (x,y))):=⟨_,rfl⟩;rw[<-hv];have br:∀i:Int,0<=i->atC (T.set y.toNat v) i=if i=y then v else atC T i:=λ i hi=>NS rj hi (by rw[h.len];exact xh)
 have cm:∀x∈W,x≠y:=λ x hx e=>rm (e▸hx);refine⟨by rw[zbw];exact h.len,λ x h0 h1 hx=>?_,λ x hx=>?_,λ x hx z hz hr=>?_,λ x c h0 h1 hx=>?_⟩
 ·rw[zan,not_or] at hx;rw[br x h0,if_neg (λ e=>hx.2 (za7.mpr e))];exact h.no x h0 h1 hx.1
 ·rcases zan.mp hx with hx|hx
  ·rw[br x (hW x hx).1.1,if_neg (cm x hx)];exact h.top x hx
  ·have e:=za7.mp hx;subst e;rw[br x rj,if_pos rfl,hv];exact NR za3
 ·rcases zan.mp hx with aA|aA
  ·rcases zan.mp hz with bA|bA
   ·rw[br x (hW x aA).1.1,if_neg (cm x aA),br z (hW z bA).1.1,if_neg (cm z bA)];exact h.cl x aA z bA hr
   ·have e:=za7.mp bA;rw[e] at hr ⊢;rw[br x (hW x aA).1.1,if_neg (cm x aA),br y rj,if_pos rfl,hv];exact NR (za4 _ (zaq.mpr ⟨x,aA,rfl⟩))
  ·have e:=za7.mp aA;rw[e] at hr;rcases zan.mp hz with bA|bA
   ·have:=(hW z bA).2;omega
   ·rw[za7.mp bA] at hr;omega
 ·rw[br x h0] at hx;split at hx
  ·rename_i e;subst e;rw[hv] at hx;rcases L8 (As R x::W.map λ z=>Av (atC T z) (As C (z,x))) with e|e
   ·rw[e] at hx;cases hx
   ·rw[hx] at e;rcases zaa.mp e with e|e
    ·exact⟨x,0,c,(0,0),hR x c e.symm,.nil,by simp⟩
    ·obtain⟨z,hz,e⟩:=zaq.mp e;obtain⟨p,q,e1,e2,rfl⟩:=Ey e;obtain⟨t,n,c1,c2,g1,g2,rfl⟩:=h.sd z p (hW z hz).1.1 (hW z hz).1.2 e1;exact⟨t,n+1,c1,_,g1,.snoc g2 (hW z hz).2 e2,by simp only[zd7]⟩
  ·exact h.sd x c h0 h1 hx
theorem iG.start {m:Nat}{L:List Int}{C:CA}{s:Int}{R:RA}:iG m L C s R [] (zak m none):=by
 have e9:∀x:Int,atC (zak m none) x=none:=λ x=>by
  unfold atC;rw[zb7,zcg];split<;>rfl
 exact⟨by simp,λ x _ _ _=>e9 x,(λ x hx=>by cases hx),(λ x hx=>by cases hx),λ x c _ _ h=>by rw[e9] at h;cases h⟩
noncomputable abbrev Ar:=Option ((Int×Int)×Option Int)
noncomputable def JL (v:Ar)(c:Co)(mid:Option Int):Ar:=match c with
 |none=>v
 |some c=>(match v with
  |none=>some (c,mid)
  |some z=>if c.1<z.1.1\/(c.1=z.1.1/\c.2<z.1.2) then some (c,mid) else v)
theorem XU (A:LA)(p q:Int×Int)(c:Co)(mid:Option Int):As (layA A p c mid) q=if q=p then JL (As A p) c mid else As A q:=by
 unfold layA JL;cases c with
 |none =>
  dsimp only;by_cases h:q=p
  ·rw[if_pos h,h]
  ·rw[if_neg h]
 |some c =>
  cases e:As A p with
  |none=>dsimp only;rw[Fb]
  |some z =>
   dsimp only;by_cases hc:c.1<z.1.1\/(c.1=z.1.1/\c.2<z.1.2)
   ·rw[if_pos hc,if_pos hc,Fb]
   ·rw[if_neg hc,if_neg hc];by_cases h:q=p
    ·rw[if_pos h,h,e]
    ·rw[if_neg h]
theorem Wo (p u w:Int)(A:LA)(x y:Int):As (NV p u A w) (x,y)=if x=u/\y=w/\x≠y then JL (As A (x,y)) (Av (Ae A (x,p)) (Ae A (p,y))) (some p) else As A (x,y):=by
 unfold NV;by_cases e:u=w
 ·rw[if_pos e,if_neg (λ h=>h.2.2 (h.1.trans (e.trans h.2.1.symm)))]
 ·rw[if_neg e,XU];by_cases h:(x,y)=(u,w)
  ·cases h;rw[if_pos rfl,if_pos ⟨rfl,rfl,e⟩]
  ·rw[if_neg h,if_neg (λ z=>h (by rw[z.1,z.2.1]))]
theorem fW {p u:Int}(hu:u≠p)(x y:Int):∀ {H:List Int}{A:LA},H.Nodup->p∉H->As (H.foldl (NV p u) A) (x,y)=if x=u/\y∈H/\x≠y then JL (As A (x,y)) (Av (Ae A (x,p)) (Ae A (p,y))) (some p) else As A (x,y)
 |[],A,_,_=>by rw[List.foldl_nil,if_neg (λ h=>by cases h.2.1)]
 |w::H,A,hn,hp=>by
  rw[zbe] at hn;have rn:p≠w:=λ e=>hp (by rw[e];exact za3);have xi:p∉H:=λ e=>hp (za4 _ e);have c1:Ae (NV p u A w) (x,p)=Ae A (x,p):=by unfold Ae;rw[Wo,if_neg (λ h=>rn h.2.1)]
  have c2:Ae (NV p u A w) (p,y)=Ae A (p,y):=by unfold Ae;rw[Wo,if_neg (λ h=>hu h.1.symm)]
  rw[zav,fW hu x y hn.2 xi,c1,c2,Wo];by_cases h1:x=u
  ·by_cases h2:x=y
   ·rw[if_neg (λ h=>h.2.2 h2),if_neg (λ h=>h.2.2 h2),if_neg (λ h=>h.2.2 h2)]
   ·by_cases h3:y=w
    ·have h4:y∉H:=by rw[h3];exact hn.1
     rw[if_neg (λ h=>h4 h.2.1),if_pos ⟨h1,h3,h2⟩,if_pos ⟨h1,by rw[h3];exact za3,h2⟩]
    ·by_cases h4:y∈H
     ·rw[if_pos ⟨h1,h4,h2⟩,if_neg (λ h=>h3 h.2.1),if_pos ⟨h1,za4 _ h4,h2⟩]
     ·rw[if_neg (λ h=>h4 h.2.1),if_neg (λ h=>h3 h.2.1),if_neg (λ h=>by rcases zaa.mp h.2.1 with z|z;exact h3 z;exact h4 z)]
  ·rw[if_neg (λ h=>h1 h.1),if_neg (λ h=>h1 h.1),if_neg (λ h=>h1 h.1)]
theorem Ut {p:Int}{H:List Int}(hn:H.Nodup)(hp:p∉H)(x y:Int):∀ {U:List Int}{A:LA},U.Nodup->p∉U->As (U.foldl (Zi p H) A) (x,y)=if x∈U/\y∈H/\x≠y then JL (As A (x,y)) (Av (Ae A (x,p)) (Ae A (p,y))) (some p) else As A (x,y)
 |[],A,_,_=>by rw[List.foldl_nil,if_neg (λ h=>by cases h.1)]
 |u::U,A,hU,u6=>by
  rw[zbe] at hU;have u7:u≠p:=λ e=>u6 (by rw[e];exact za3);have xj:p∉U:=λ e=>u6 (za4 _ e);have at':∀x y,As (Zi p H A u) (x,y)=if x=u/\y∈H/\x≠y then JL (As A (x,y)) (Av (Ae A (x,p)) (Ae A (p,y))) (some p) else As A (x,y):=λ x y=>fW u7 x y hn hp
  have c1:Ae (Zi p H A u) (x,p)=Ae A (x,p):=by unfold Ae;rw[at',if_neg (λ h=>hp h.2.1)]
  have c2:Ae (Zi p H A u) (p,y)=Ae A (p,y):=by unfold Ae;rw[at',if_neg (λ h=>u7 h.1.symm)]
  rw[zav,Ut hn hp x y hU.2 xj,c1,c2,at'];by_cases h2:y∈H/\x≠y
  ·by_cases h1:x=u
   ·have h3:x∉U:=by rw[h1];exact hU.1
    rw[if_neg (λ h=>h3 h.1),if_pos ⟨h1,h2⟩,if_pos ⟨by rw[h1];exact za3,h2⟩]
   ·by_cases h3:x∈U
    ·rw[if_pos ⟨h3,h2⟩,if_neg (λ h=>h1 h.1),if_pos ⟨za4 _ h3,h2⟩]
    ·rw[if_neg (λ h=>h3 h.1),if_neg (λ h=>h1 h.1),if_neg (λ h=>by rcases zaa.mp h.1 with z|z;exact h1 z;exact h3 z)]
  ·rw[if_neg (λ h=>h2 h.2),if_neg (λ h=>h2 h.2),if_neg (λ h=>h2 h.2)]
theorem Mi {p:Int}{H:List Int}(hn:H.Nodup)(hp:p∉H)(A:LA)(x y:Int):As (mJ A p H) (x,y)=if x∈H/\y∈H/\x≠y then JL (As A (x,y)) (Av (Ae A (x,p)) (Ae A (p,y))) (some p) else As A (x,y):=Ut hn hp x y hn hp
noncomputable def mO (A:LA)(x y:Int)(W:List Int)(v:Ar):Ar:=W.foldl (λ v p=>JL v (Av (Ae A (x,p)) (Ae A (p,y))) (some p)) v
theorem OY {x y:Int}:∀ {L:List Int}{A:LA},L.Nodup->(x∉L\/y∉L)->As (Qc A L) (x,y)=As A (x,y)
 |[],A,_,_=>rfl
 |p::r,A,hn,h=>by
  rw[zbe] at hn;have h':x∉r\/y∉r:=h.imp (λ z w=>z (za4 _ w)) λ z w=>z (za4 _ w);rw[Qc,OY hn.2 h',Mi hn.2 hn.1,if_neg (λ z=>h'.elim (λ w=>w z.1) λ w=>w z.2.1)]
theorem XW {x y:Int}(ad:x≠y):∀ {L:List Int}{A:LA},L.Nodup->x∈L->y∈L->As (Qc A L) (x,y)=mO (Qc A L) x y (L.take (min (BZ L x) (BZ L y))) (As A (x,y))
 |[],A,_,h,_=>by cases h
 |p::r,A,hn,hx,hy=>by
  rw[zbe] at hn;have u8:∀z,z≠p->BZ (p::r) z=BZ r z+1:=λ z hz=>by show (if p=z then 0 else BZ r z+1)=_;rw[if_neg (zbi hz)]
  have u9:BZ (p::r) p=0:=by show (if p=p then 0 else BZ r p+1)=_;rw[if_pos rfl]
  rw[Qc];by_cases h1:x=p
  ·rw[OY hn.2 (.inl (by rw[h1];exact hn.1)),Mi hn.2 hn.1,if_neg (λ z=>hn.1 (by rw[<-h1];exact z.1)),h1,u9,Nat.zero_min];rfl
  by_cases h2:y=p
  ·rw[OY hn.2 (.inr (by rw[h2];exact hn.1)),Mi hn.2 hn.1,if_neg (λ z=>hn.1 (by rw[<-h2];exact z.2.1)),h2,u9,Nat.min_zero];rfl
  have mr:x∈r:=(zaa.mp hx).resolve_left h1;have ee:y∈r:=(zaa.mp hy).resolve_left h2;have e1:Ae (Qc (mJ A p r) r) (x,p)=Ae A (x,p):=by unfold Ae;rw[OY hn.2 (.inr hn.1),Mi hn.2 hn.1,if_neg (λ z=>hn.1 z.2.1)]
  have e2:Ae (Qc (mJ A p r) r) (p,y)=Ae A (p,y):=by unfold Ae;rw[OY hn.2 (.inl hn.1),Mi hn.2 hn.1,if_neg (λ z=>hn.1 z.1)]
  have et:(p::r).take (min (BZ (p::r) x) (BZ (p::r) y))=p::r.take (min (BZ r x) (BZ r y)):=by
   rw[u8 x h1,u8 y h2,Nat.add_min_add_right,List.take_succ_cons]
  rw[et,XW ad hn.2 mr ee,Mi hn.2 hn.1,if_pos ⟨mr,ee,ad⟩];unfold mO;rw[zav,e1,e2]
theorem Zm {rs:List Road}{L:List Int}{x y:Int}(hn:L.Nodup)(hx:x∈L)(hy:y∈L)(ad:x≠y):As (Bu rs L) (x,y)=mO (Bu rs L) x y (L.take (min (BZ L x) (BZ L y))) (As (lay0 rs) (x,y)):=XW ad hn hx hy
theorem XX (rs:List Road):∀x y c mid,As (lay0 rs) (x,y)=some (c,mid)->mid=none/\∃r∈rs,r.a=x/\r.b=y/\BY r=some c:=by
 unfold lay0;have:=FV (L:=rs) (pre:=[]) (f:=λ A r=>layA A (r.a,r.b) (BY r) none) (b:=[]) (λ _ A=>∀x y c mid,As A (x,y)=some (c,mid)->mid=none/\∃r∈rs,r.a=x/\r.b=y/\BY r=some c) (λ _ _ _ _ h=>by cases h) λ r hr W B hB x y c mid h=>by
  rw[XU] at h;by_cases e:(x,y)=(r.a,r.b)
  ·cases e;rw[if_pos rfl] at h;unfold JL at h;cases q:BY r with
   |none=>rw[q] at h;exact hB _ _ _ _ h
   |some d =>
    rw[q] at h;dsimp only at h;split at h
    ·cases h;exact⟨rfl,r,hr,rfl,rfl,q⟩
    ·rename_i z hz;split at h
     ·cases h;exact⟨rfl,r,hr,rfl,rfl,q⟩
     ·exact hB _ _ _ _ h
  ·rw[if_neg e] at h;exact hB _ _ _ _ h
 exact this
noncomputable def fX (v:Ar):Co:=v.map zb0
theorem mP (v:Ar)(c:Co)(mid:Option Int):fX (JL v c mid)=EO (fX v) c:=by
 unfold JL fX;cases c with
 |none=>cases v<;>rfl
 |some c =>
  cases v with
  |none=>rfl
  |some z =>
   dsimp only;simp only[zbo,EO,lU];by_cases hc:c.1<z.1.1\/(c.1=z.1.1/\c.2<z.1.2)
   ·rw[if_pos hc,if_neg (by omega)];rfl
   ·rw[if_neg hc,if_pos (by omega)];rfl
structure Fd (cd:Int->Co)(v0:Ar)(W:List Int)(v:Ar):Prop where
 le0:BO (fX v) (fX v0)
 lec:∀p∈W,BO (fX v) (cd p)
 AJ:∀c,v=some (c,none)->v0=some (c,none)
 mid:∀c p,v=some (c,some p)->(∃W1 W2,W=W1++p::W2/\cd p=some c/\∀q∈W1,cd q≠some c)/\fX v0≠some c
theorem sT {cd:Int->Co}{v0:Ar}(h0:∀c p,v0≠some (c,some p))(W:List Int):Fd cd v0 W (W.foldl (λ v p=>JL v (cd p) (some p)) v0):=by
 have:=FV (L:=W) (pre:=[]) (f:=λ v p=>JL v (cd p) (some p)) (b:=v0) (λ W v=>Fd cd v0 W v) ⟨Ci _,(λ p hp=>by cases hp),λ c h=>h,λ c p h=>absurd h (h0 c p)⟩ λ p hp W v hv=>by
  have dn:=mP v (cd p) (some p);refine⟨?_,λ q hq=>?_,λ c h=>?_,λ c q h=>?_⟩
  ·rw[dn];exact AA (Gk _ _) hv.le0
  ·rw[dn];rcases zan.mp hq with hq|hq
   ·exact AA (Gk _ _) (hv.lec q hq)
   ·rw[za7.mp hq];exact J0 _ _
  ·unfold JL at h;split at h
   ·exact hv.AJ c h
   ·split at h
    ·cases h
    ·rename_i z;split at h
     ·cases h
     ·exact hv.AJ c h
  ·have keep:v=some (c,some q)->(∃W1 W2,W++[p]=W1++q::W2/\cd q=some c/\∀q∈W1,cd q≠some c)/\fX v0≠some c:=λ h=>by
    obtain⟨⟨W1,W2,e1,e2,e3⟩,e4⟩:=hv.mid c q h;exact⟨⟨W1,W2++[p],by rw[e1];simp,e2,e3⟩,e4⟩
   have new:∀d:Int×Int,cd p=some d->(∀z,fX v=some z->d.1<z.1\/(d.1=z.1/\d.2<z.2))->(∃W1 W2,W++[p]=W1++p::W2/\cd p=some d/\∀q∈W1,cd q≠some d)/\fX v0≠some d:=λ d hd af=>by
    have no:∀o:Co,BO (fX v) o->o≠some d:=λ o ho e=>by
     subst e;obtain⟨z,hz,hle⟩:=OQ ho;have:=af z hz;simp only[NU] at hle;omega
    exact⟨⟨W,[],rfl,hd,λ q hq=>no _ (hv.lec q hq)⟩,no _ hv.le0⟩
   unfold JL at h;split at h
   ·exact keep h
   ·rename_i c' hd;split at h
    ·cases h;exact new _ hd λ z hz=>by cases hz
    ·rename_i z;split at h
     ·rename_i hc;cases h;exact new _ hd λ z' hz=>by cases hz;exact hc
     ·exact keep h
 exact this
section
variable {m:Nat}{rs:List Road}{L:List Int}
theorem Uu {L:List Int}(hn:L.Nodup){k:Nat}{x:Int}(h:x∈L.take k):x∈L/\BZ L x<k:=by
 obtain⟨i,hi⟩:=List.mem_iff_getElem?.mp h;rw[List.getElem?_take] at hi;split at hi
 ·rename_i hk;exact⟨zao hi,by rw[OX hn hi];exact hk⟩
 ·cases hi
end
theorem sU {a b i:Int}(ha:0<=a/\a<Rr)(hb:0<=b/\b<Rr)(h0:0<=i)(h1:i<2):∃w:Int,AM (.lst [.int a,.int b]) (.int i)=.ok (.int w)/\0<=w/\w<Rr:=by
 have hi:i=0\/i=1:=by omega
 rcases hi with rfl|rfl
 ·exact⟨a,rfl,ha⟩
 ·exact⟨b,rfl,hb⟩
theorem mQ {α:Type}{a b c d e f g h:D}{x y:α}:(if [a,b,c,d,e,f,g,h].length<=1000 then x else y)=x:=if_pos (by simp)
theorem XY (r:Road):dp (.ok (C9 r))=.ok (C9 r):=by
 obtain⟨a,b,l,w⟩:=r;cases l<;>rfl
theorem SM (i:Int):dp (.ok (.int i))=.ok (.int i):=rfl
theorem Uv:∀(n:Nat) (B:List (Int×Int)) (L:List Int),L.length=n->(Zd n B L).Perm L
 |0,B,L,h=>by rw[List.length_eq_zero_iff.mp h];exact .refl _
 |n+1,B,L,h=>by
  have ad:L≠[]:=λ e=>by rw[e] at h;cases h
  have hm:=(Rp (B:=B) ad).1;rw[Zd,if_neg ad];refine List.Perm.trans ?_ (List.perm_cons_erase hm).symm;exact (Uv n _ _ (by rw[List.length_erase_of_mem hm,h];rfl)).cons _
theorem mR (cs:List Co):Pl 16 (.lst (cs.map cst)):=(M4 (n:=1) λ d hd=>by
 obtain⟨c,_,rfl⟩:=zaq.mp hd;exact Mb (n:=0) c).le (by decide)
noncomputable def Itz (K:za0)(a b:Addr):It:=
 ⟨λ i H=>∃xs ys x y,CO K H a xs/\CO K H b ys/\xs[i]?=some x/\ys[i]?=some y,
  λ i H v H'=>∃p x y,H p=none/\v=.ref p/\(∀xs,CO K H a xs->xs[i]?=some x)/\(∀ys,CO K H b ys->ys[i]?=some y)/\H'=upd H p (.tup [x,y]),
  λ i H=>∃xs ys,CO K H a xs/\CO K H b ys/\(xs.length<=i\/ys.length<=i)⟩
theorem OZ {X:Cx}{pins:List (Addr×Obj)}{σ:St}{H H':Hp}{s:Shared}{h':Heap}{t':Nat}{fp:List Addr}(I:Inv X pins σ H s)(hf:∀b∈fp,LP X pins H b)(k:∀b o,b∉fp->s.heap.get? b=some o->h'.get? b=some o)
 (hH:∀b u,H b=some u->H' b=some u) (hn:∀b o,s.heap.get? b=some o->H b=none->H' b=none) (ok:G4 X.prog X.w H' h'):Inv X pins σ H' {s with heap:=h',toks:=t' }:=by
 refine I.step (g':=s.gens) (d':=s.drawn) (ch:=fp) (λ b hb=>⟨(hf b hb).2.2.2.1,(hf b hb).2.1,(hf b hb).2.2.2.2.1,(hf b hb).2.2.2.2.2⟩) (λ b o _ _ hc q _=>k b o hc q) (λ b o _ _ hc q _=>⟨o.slots,k b o hc q⟩)
  (λ b o _ q n=>hn b o q n) (λ b o hc q=>⟨o,k b o hc q⟩) (λ b xs q=>hH b _ q) (λ b o u q=>hH b _ q) (λ b ps q=>⟨#[],by rw[hH b _ q];simp⟩) (λ m hm=>?_) ok I.bare
 obtain⟨o,es,ep,ho,r⟩:=hm;exact⟨o,es,ep,k _ o (λ z=>(hf _ z).2.1 rfl) ho,r⟩
theorem fY {P:Program}{w:World}{K:za0}{aG:List Expr}{x1}{a9:Pos}(a b z TI TO i1 i2:Addr)(D:ZipApart z TI TO i1 i2 a b):
 Turn P w K (.Tuple aG x1 a9) (Itz K a b) [z,TI,TO,i1,i2] z (λ i h=>IsZip h z TI TO .none/\IsPair h TI (.ref i1) (.ref i2)/\(∃x y,IsPair h TO x y)/\h.IsListIter i1 a i/\h.IsListIter i2 b i) where
 mem:=by simp
 obj:=λ i h st c hc=>by
  obtain⟨h1,h2,⟨x,y,h3⟩,⟨o4,h4,c4,d4⟩,⟨o5,h5,c5,d5⟩⟩:=st;simp only[zaa,List.not_mem_nil,or_false] at hc;rcases hc with rfl|rfl|rfl|rfl|rfl
  ·exact⟨_,h1,λ v z=>by cases z⟩
  ·exact⟨_,h2,λ v z=>by cases z⟩
  ·exact⟨_,h3,λ v z=>by cases z⟩
  ·exact⟨o4,h4,λ v z=>by rw[d4] at z;cases z⟩
  ·exact⟨o5,h5,λ v z=>by rw[d5] at z;cases z⟩
 keep:=λ i h h' st k=>⟨k z (by simp) _ st.1,k TI (by simp) _ st.2.1,let ⟨x,y,q⟩:=st.2.2.1;⟨x,y,k TO (by simp) _ q⟩,st.2.2.2.1.at λ o e=>k i1 (by simp) o e,st.2.2.2.2.at λ o e=>k i2 (by simp) o e⟩
 item:=by
  intro X hP hw hK hc i pins s σ H E I hf st hg;subst hP hw hK;obtain⟨xs,ys,x,y,hq,bu,hx,hy⟩:=hg;obtain⟨hz,j1,⟨oa,ob,mt⟩,mw,mx⟩:=st;obtain⟨aa,rv,p,xk⟩:=I.list hq;obtain⟨its',bw,p',rp⟩:=I.list bu;obtain⟨u,hu,ru⟩:=rv.get hx;obtain⟨u',ai,xl⟩:=bw.get hy;refine wpAny_pyNext_zip_item D hz j1 mt mw mx p.isList p'.isList (x:=u) (y:=u') (by simpa using hu) (by simpa using ai) λ h1 bA rq xm va ht hsz hk=>?_;refine⟨_,rfl,wpAny_letOwnedTupleGo_zip (s:={s with heap:=h1}) bA λ h2 ur a4=>?_⟩;have a6:zd1 z h1 h2:=a4;have lt:∀c∈[z,TI,TO,i1,i2],s.heap.objs.size≠c:=λ c hc=>by
   simp only[zaa,List.not_mem_nil,or_false] at hc;rcases hc with rfl|rfl|rfl|rfl|rfl
   ·exact zcs (zaf hz)
   ·exact zcs (zaf j1)
   ·exact zcs (zaf mt)
   ·obtain⟨o,ho,_⟩:=mw;exact zcs (zaf ho)
   ·obtain⟨o,ho,_⟩:=mx;exact zcs (zaf ho)
  have kk:∀c o,c∉[z,TI,TO,i1,i2]->s.heap.get? c=some o->h2.get? c=some o:=λ c o hc q =>
   (a6.2 c λ w=>hc (by simp[w])).trans (hk c o (λ w=>hc (by simp[w])) (λ w=>hc (by simp[w])) (λ w=>hc (by simp[w])) (λ w=>hc (by simp[w])) q)
  have I1:Inv X pins σ H {s with heap:=h2,toks:=s.toks}:=OZ I hf kk (λ _ _ q=>q) (λ _ _ _ q=>q) λ c v q=>(I.Aw c v q).N6 (λ d v' hd w=>kk d v' (λ m=>by
   have e0:=(hf d m).1;rcases hd with e|e
   ·subst e;rw[e0] at q;cases q
   ·rw[e0] at e;cases e) w) (λ _ w=>w) λ _ _ w=>w
  have tup:h2.get? s.heap.objs.size=some {cls:=.type "tuple",data:=.seq #[u,u']}:=(a6.2 _ (lt z (by simp))).trans ht;have nH:H s.heap.objs.size=none:=I.Aw.fresh (zag _);have vv:Vals [x,y] [u,u']:=.cons ru (.cons xl .nil);have gf:G4 X.prog X.w (upd H s.heap.objs.size (.tup [x,y])) h2:=I1.Aw.adopt nH ⟨by show 2<=sizeLine;decide,_,vv,⟨_,tup,rfl,_,rfl⟩⟩;have I2:Inv X pins σ (upd H s.heap.objs.size (.tup [x,y])) {s with heap:=h2,toks:=s.toks}:=OZ I hf kk (λ b v q=>by rw[Ah (AH q nH)];exact q) (λ b o q n=>by rw[Ah (zar (zaf q))];exact n) gf;refine⟨.ref s.heap.objs.size,_,I2,rfl,⟨_,x,y,nH,rfl,(λ zs ee=>by rw[I.EC ee hq];exact hx),(λ zs ee=>by rw[I.EC ee bu];exact hy),rfl⟩,⟨ur,(a6.2 TI D.TIz).trans (hk _ _ D.TIz D.TITO D.TIi1 D.TIi2 j1),⟨_,_,(a6.2 TO D.TOz).trans rq⟩,xm.at λ o q=>(a6.2 i1 D.i1z).trans q,va.at λ o q=>(a6.2 i2 D.i2z).trans q⟩,λ c hc=>?_⟩;rw[Ah (zbi (lt c hc))];exact (hf c hc).1
 done:=by
  intro X hP hw hK hc i pins s σ H E I hf st hg;subst hP hw hK;obtain⟨xs,ys,hq,bu,hx⟩:=hg;obtain⟨hz,j1,⟨oa,ob,mt⟩,mw,mx⟩:=st;obtain⟨aa,rv,p,xk⟩:=I.list hq;obtain⟨its',bw,p',rp⟩:=I.list bu;have hl:=rv.length;have cz:=bw.length;refine wpAny_pyNext_zip_end (I.ok.hd hc) D hz j1 mt mw mx p.isList p'.isList (hx.elim (λ h=>.inl (by simp;omega)) λ h=>.inr (by simp;omega)) λ h' hk=>⟨rfl,?_⟩;have kk:∀c o,c∉[z,TI,TO,i1,i2]->s.heap.get? c=some o->h'.get? c=some o:=λ c o hc q=>hk c o (λ w=>hc (by simp[w])) (λ w=>hc (by simp[w])) (λ w=>hc (by simp[w])) (λ w=>hc (by simp[w])) q;exact OZ (t':=s.toks) I hf kk (λ _ _ q=>q) (λ _ _ _ q=>q) λ c v q=>(I.Aw c v q).N6 (λ d v' hd w=>kk d v' (λ m=>by
   have e0:=(hf d m).1;rcases hd with e|e
   ·subst e;rw[e0] at q;cases q
   ·rw[e0] at e;cases e) w) (λ _ w=>w) λ _ _ w=>w
 self:=λ _ _ _ _ _ st h=>wpAny_pyIter_zip st.1 h
section
variable {X:Cx}{WX:Str->Hp->Prop}{tg a b:Expr}{f g:Aj->M D}{pos p:Pos}{te:TE}
noncomputable def aar (K:za0)(ta:TA):TI:=λ σ H R=>ta σ H λ vs H1=>∃a b xs ys,vs=[.ref a,.ref b]/\CO K H1 a xs/\CO K H1 b ys/\R (Itz K a b) H1
theorem sV {aG:List Expr}{x1}{a9:Pos}{ta:TA}(hg:Gl X "zip")(hm:X.mg "zip" = none)(ha:PA X [a,b] ta)(hb:bootBuiltins "zip" = some (.type "zip"):=by decide +kernel)(hs:starEach [a,b] X.env=(false,eval a X.env)::starEach [b] X.env:=by rfl)(a4:(backTo pos (starEach [b] X.env)).any (·.1)=false:=by rfl):
 PI X (.Tuple aG x1 a9) (.Call (.Name "zip" p) [a,b] [] pos) (aar X.K ta):=by
 intro pins s σ H R I h;refine Call_ (Dl I hg hm hb (zba (Bh (ha pos pins s σ H _ I h) λ us s1 zz=>?_) hs a4));obtain⟨vs,H1,I1,r1,q1⟩:=zz;obtain⟨j,k,xs,ys,e,hq,bu,q⟩:=q1;subst e;cases r1 with
 |cons r rr =>
  cases rr with
  |cons r' rr =>
   cases rr;cases r;cases r';obtain⟨aa,rv,p,hz⟩:=I1.list hq;obtain⟨its',bw,p',uo⟩:=I1.list bu;refine call_zip_2 p.isList p'.isList λ h' z1 z2 z3 z4 z5 hsz hk=>?_;refine wpAny_pyIter_zip (s:={s1 with heap:=h' }) z1 ?_;have I2:Inv X pins σ H1 {s1 with heap:=h' }:=I1.kept (t':=s1.toks) hk;have lj:j<s1.heap.objs.size:=let ⟨_,e,_⟩:=p.isList;zaf e;have lk:k<s1.heap.objs.size:=let ⟨_,e,_⟩:=p'.isList;zaf e;have D:ZipApart (s1.heap.objs.size+4) (s1.heap.objs.size+2) (s1.heap.objs.size+3) s1.heap.objs.size (s1.heap.objs.size+1) j k:=by
    constructor<;>intro z<;>simp only[Addr] at * <;>omega
   refine⟨_,[s1.heap.objs.size+4,s1.heap.objs.size+2,s1.heap.objs.size+3,s1.heap.objs.size,s1.heap.objs.size+1],_,_,H1,rfl,I2,fY j k _ _ _ _ _ D,⟨z1,z2,⟨_,_,z3⟩,z4,z5⟩,λ c hc=>?_,q⟩;have le:s1.heap.objs.size<=c:=by
    simp only[zaa,List.not_mem_nil,or_false] at hc;rcases hc with rfl|rfl|rfl|rfl|rfl<;>simp only[Addr] at * <;>omega
   exact I1.Tn le (I1.Aw.fresh le)
noncomputable def Mj:List D->List D->List D
 |x::xs,y::ys=>.tup [x,y]::Mj xs ys
 |_,_=>[]
theorem P5:∀xs ys:List D,(Mj xs ys).length=min xs.length ys.length
 |[],_=>by rw[Mj];simp;nofun
 |x::xs,[]=>by rw[Mj];simp;nofun
 |x::xs,y::ys=>by rw[Mj,za9,P5 xs ys,za9,za9];omega
theorem Uw:∀ {xs ys:List D}{i:Nat}{d:D},(Mj xs ys)[i]?=some d->∃x y,xs[i]?=some x/\ys[i]?=some y/\d=.tup [x,y]
 |[],ys,i,d,h=>by rw[Mj] at h;cases h;nofun
 |x::xs,[],i,d,h=>by rw[Mj] at h;cases h;nofun
 |x::xs,y::ys,0,d,h=>by rw[Mj,zbb] at h;cases h;exact⟨x,y,rfl,rfl,rfl⟩
 |x::xs,y::ys,i+1,d,h=>by rw[Mj,zau] at h;exact Uw (xs:=xs) (ys:=ys) (i:=i) h
theorem sW {aG:List Expr}{x1}{a9:Pos}(hg:Gl X "zip")(hm:X.mg "zip" = none)(ha:DE X WX true a f)(ax:DE X WX true b g)(hb:bootBuiltins "zip" = some (.type "zip"):=by decide +kernel)(hs:starEach [a,b] X.env=(false,eval a X.env)::starEach [b] X.env:=by rfl)(xn:starEach [b] X.env=[(false,eval b X.env)]:=by rfl)(a4:(backTo pos (starEach [b] X.env)).any (·.1)=false:=by rfl):
 DI X WX (.Tuple aG x1 a9) (.Call (.Name "zip" p) [a,b] [] pos) (λ ρ=>(f ρ).bind λ d=>(g ρ).bind λ e=>match d,e with | .lst xs,.lst ys=>.ok (Mj xs ys)|_,_=>.bad):=by
 obtain⟨ta,a1,a2⟩:=ha;obtain⟨tb,b1,b2⟩:=ax;refine⟨_,sV hg hm (Bi a1 (Bi b1 Cs xn) hs) hb hs a4,λ P0 P σ H R ρ E h=>?_⟩;dsimp only at h;refine a2 P0 P σ H _ ρ E ?_;cases q:f ρ with
 |bad|ex x=>rw[q] at h;exact h
 |ok d =>
  rw[q] at h;intro v H1 s1 hv;refine b2 P0 P σ H1 _ ρ (E.same s1) ?_;cases q2:g ρ with
  |bad=>rw[q2] at h;exact h
  |ex x=>rw[q2] at h;exact λ H' s=>h H' (s1.trans s)
  |ok e =>
   rw[q2] at h;intro v2 H2 s2 pk;have iw:=hv.mono s2.del;cases d with
   |lst ds =>
    cases e with
    |lst es =>
     cases iw with
     | @lst j xs _ j2 hl =>
      cases pk with
      | @lst k ys _ dq cz =>
       have xp:=hl.length;have xq:=cz.length;refine⟨j,k,xs,ys,rfl,j2.AV,dq.AV,h _ H2 (s1.trans s2) ⟨λ i P' H' s hi=>?_,λ i P' H' s hi=>?_,λ i P' H' v c6 d s ht hd y=>?_⟩⟩
       ·rw[P5] at hi;obtain⟨x,hx,_⟩:=hl.get (za8 (show i<ds.length by omega));obtain⟨y,hy,_⟩:=cz.get (za8 (show i<es.length by omega));exact⟨xs,ys,x,y,(s.seq j2).AV,(s.seq dq).AV,hx,hy⟩
       ·rw[P5] at hi;exact⟨xs,ys,(s.seq j2).AV,(s.seq dq).AV,by omega⟩
       ·obtain⟨pa,x,y',hn,rfl,y1,y2,rfl⟩:=y;obtain⟨dx,dy,xr,xt,rfl⟩:=Uw hd;obtain⟨x',mr,xu⟩:=hl.get xr;obtain⟨y'',r6,xv⟩:=cz.get xt;have e1:=y1 xs (s.seq j2).AV;have e2:=y2 ys (s.seq dq).AV;rw[mr] at e1;rw[r6] at e2;cases e1;cases e2;have sn:=AO hn (HO.tup [x,y']);have np:¬ P' pa:=λ z=>(ht pa z).no hn;refine⟨sn,.tup (a:=pa) (by rw[Az np];exact Ap) (.cons ((xu.mono s).mono sn.del) (.cons ((xv.mono s).mono sn.del) .nil))⟩
    |_=>exact h.elim
   |_=>exact h.elim
end
theorem Ux {α:Type}(f g:α->D):∀l:List α,Mj (l.map f) (l.map g)=l.map λ x=>D.tup [f x,g x]
 |[]=>rfl
 |x::r=>by rw[za5,za5,Mj,Ux f g r,za5]
theorem Inv.freeze {X:Cx}{pins:List (Addr×Obj)}{σ:St}{H:Hp}{s:Shared}{a:Addr}{kvs:List (Key×V)}(I:Inv X pins σ H s)(e:H a=some (.dK kvs)):
 ∃o,s.heap.get? a=some o/\Inv X pins σ (upd H a (.GD o (.dK kvs))) s:=by
 obtain⟨z,y,vs,r,o,es,ep,ho,c⟩:=(show Bl X.prog X.w H s.heap a (.dK kvs) from I.Aw a _ e);have ne:∀b u,H b=some u->u≠.dK kvs->b≠a:=λ b u q n hb=>n (by rw[hb,e] at q;exact (zas q).symm);have Aw:G4 X.prog X.w (upd H a (.GD o (.dK kvs))) s.heap:=λ b u q=>by
  by_cases hb:b=a
  ·subst hb;rw[Ap] at q;cases q;exact⟨ho,⟨z,y,vs,r,o,es,ep,ho,c⟩⟩
  ·rw[Ah hb] at q;exact (I.Aw b u q).N6 (λ _ _ _ w=>w) (λ d w=>by rw[Ah (ne d _ w (λ z=>by cases z))];exact w) λ d xs w=>by rw[Ah (ne d _ w (λ z=>by cases z))];exact w
 refine⟨o,ho,?_⟩;have:=I.step (g':=s.gens) (d':=s.drawn) (t':=s.toks) (ch:=[]) (h':=s.heap) (H':=upd H a (.GD o (.dK kvs))) (λ b hb=>by cases hb) (λ _ _ _ _ _ q _=>q) (λ b o _ _ _ q _=>⟨o.slots,q⟩) (λ b o _ _ n=>by rw[Ah (λ z=>by rw[z,e] at n;cases n)];exact n)
  (λ b o _ q=>⟨o,q⟩) (λ b xs q=>by rw[Ah (ne b _ q (λ z=>by cases z))];exact q) (λ b o u q=>by rw[Ah (ne b _ q (λ z=>by cases z))];exact q) (λ b ps q=>⟨#[],by rw[Ah (ne b _ q (λ z=>by cases z)),q];simp⟩) (λ _ q=>q) Aw I.bare
 exact this
theorem Inv.xM {X:Cx}{pins:List (Addr×Obj)}{σ:St}{H:Hp}{s:Shared}{a:Addr}{kvs:List (Key×V)}(I:Inv X pins σ H s)(e:H a=some (.dK kvs)):∀o u,X.H₀ a≠some (.GD o u):=λ o u q=>by
 rw[I.base.N7 a o u q] at e;cases e
theorem Inv.fZ {X:Cx}{pins:List (Addr×Obj)}{σ:St}{H:Hp}{s:Shared}{a:Addr}{o:Obj}{kvs:List (Key×V)}(I:Inv X pins σ H s)(e:H a=some (.GD o (.dK kvs)))(n0:∀o u,X.H₀ a≠some (.GD o u)):Inv X pins σ (upd H a (.dK kvs)) s:=by
 have ne:∀b u,H b=some u->u≠.GD o (.dK kvs)->b≠a:=λ b u q n hb=>n (by rw[hb,e] at q;exact (zas q).symm);have nn:∀b,H b=none->b≠a:=λ b q hb=>by rw[hb,e] at q;cases q
 refine⟨I.ok,I.os,I.bare,⟨I.base.keep,I.base.slot,λ b ob q n hx=>?_,I.base.there,λ b xs q=>?_,λ b ob u q=>?_,λ b ps q=>?_⟩,I.loc,I.cell,?_,λ x c h=>?_,λ p hp=>?_,λ b u q=>?_,I.len⟩
 ·have:=I.base.free b ob q n hx;rw[Ah (nn b this)];exact this
 ·have:=I.base.Qf b xs q;rw[Ah (ne b _ this (λ z=>by cases z))];exact this
 ·by_cases hb:b=a
  ·subst hb;exact absurd q (n0 ob u)
  ·rw[Ah hb];exact I.base.N7 b ob u q
 ·obtain⟨m,h⟩:=I.base.Qg b ps q;exact⟨m,by rw[Ah (ne b _ h (λ z=>by cases z))];exact h⟩
 ·rw[Ah (nn _ I.free)];exact I.free
 ·rw[Ah (nn _ (I.FA x c h))];exact I.FA x c h
 ·obtain⟨h1,h2,h3⟩:=I.pin p hp;exact⟨h1,by rw[Ah (nn _ h2)];exact h2,h3⟩
 ·by_cases hb:b=a
  ·subst hb;rw[Ap] at q;cases q;obtain⟨h1,z,y,vs,r,ob,es,ep,ho,c⟩:=(show Bl X.prog X.w H s.heap b (.GD o (.dK kvs)) from I.Aw b _ e);exact⟨z,y,vs,r,ob,es,ep,ho,c⟩
  ·rw[Ah hb] at q;exact (I.Aw b u q).N6 (λ _ _ _ w=>w) (λ d w=>by rw[Ah (ne d _ w (λ z=>by cases z))];exact w) λ d xs w=>by rw[Ah (ne d _ w (λ z=>by cases z))];exact w
theorem Zn:∀ {k:Key}{u:Value},NY k u=true->RelV (kV k) u
 | .inl i,u,h=>by
  obtain⟨t,e⟩:=Value.isInt_shape (k:=i) (v:=u) h;exact⟨t,e⟩
 | .inr x,u,h=>by
  obtain⟨t,e⟩:=Value.isStrOf_shape (x:=x) (v:=u) h;exact⟨t,e⟩
theorem KV.get {kvs:List (Key×V)}{vs:List (Key×Value)}(r:KV kvs vs){i:Nat}{k:Key}{x:Value}(h:vs[i]?=some (k,x)):∃v,kvs[i]?=some (k,v):=by
 induction r generalizing i with
 |nil=>cases h
 | @cons p q ps qs hd tl ih =>
  cases i with
  |zero =>
   rw[zbb] at h;cases h;have ep:p=(k,p.2):=Prod.ext hd.1 rfl;exact⟨p.2,by rw[zbb,<-ep]⟩
  |succ i=>rw[zau] at h ⊢;exact ih h
noncomputable def xN (a:Addr)(o:Obj)(kvs:List (Key×V)):It:=
 ⟨λ i H=>H a=some (.GD o (.dK kvs))/\i<kvs.length,λ i H v H'=>H'=H/\∃kv,kvs[i]?=some kv/\v=kV kv.1,λ i H=>H a=some (.GD o (.dK kvs))/\kvs.length<=i⟩
theorem Zo {P:Program}{w:World}{K:za0}{tg:Expr}(a it:Addr)(o:Obj)(kvs:List (Key×V))(vs:List (Key×Value))(ep:Nat)(hD:∀h:Heap,h.get? a=some o->h.DictAt (AR P w) a vs ep)(j3:KV kvs vs)(ad:a≠it):
 Turn P w K tg (xN a o kvs) [it] it (λ i h=>i<=kvs.length/\h.IsKeyIter it a i kvs.length ep) where
 mem:=by simp
 obj:=λ i h st b hb=>by
  have e:b=it:=by simpa using hb
  subst e;obtain⟨_,o,e,c,d⟩:=st;exact⟨o,e,λ v z=>by rw[d] at z;cases z⟩
 keep:=λ i h h' st k=>⟨st.1,st.2.at λ o e=>k it (by simp) o e⟩
 item:=by
  intro X hP hw hK hc i pins s σ H E I hf st hg;subst hP hw hK;obtain⟨he,hi⟩:=hg;have hlen:kvs.length=vs.length:=zcx j3;have g8:s.heap.get? a=some o:=(show Bl X.prog X.w H s.heap a (.GD o (.dK kvs)) from I.Aw a _ he).1;obtain⟨f0,f1,f2,f3,f4,f5⟩:=hf it (by simp);have W:=Walks.dictKeys (prog:=X.prog) (w:=X.w) (knd:=AR X.prog X.w) (A:=X.A) (I.ok.hd hc) it a ad vs ep;refine W.item i s _ _ (by omega) ⟨by rw[<-hlen];exact st.2,hD _ g8⟩ λ v h' tk hv aW kp=>?_;obtain⟨k,x,hk,xw⟩:=hv;obtain⟨v',iw⟩:=j3.get hk;have I1:Inv X pins σ H {s with heap:=h',toks:=tk}:=I.turned (t':=tk) (λ b o hb e=>kp b o (by simpa using hb) e) f0 f1 f3 f4 f5;obtain⟨ob,e,c,d⟩:=id aW.1;exact⟨v,rfl,To (s:={s with heap:=h',toks:=tk}) e c d (by decide) ⟨kV k,H,I1,Zn xw,⟨rfl,_,iw,rfl⟩,⟨hi,by rw[hlen];exact aW.1⟩,λ b hb=>(hf b hb).1⟩⟩
 done:=by
  intro X hP hw hK hc i pins s σ H E I hf st hg;subst hP hw hK;obtain⟨he,hi⟩:=hg;have hlen:kvs.length=vs.length:=zcx j3;have g8:s.heap.get? a=some o:=(show Bl X.prog X.w H s.heap a (.GD o (.dK kvs)) from I.Aw a _ he).1;obtain⟨f0,f1,f2,f3,f4,f5⟩:=hf it (by simp);have W:=Walks.dictKeys (prog:=X.prog) (w:=X.w) (knd:=AR X.prog X.w) (A:=X.A) (I.ok.hd hc) it a ad vs ep;have rc:i=vs.length:=by have:=st.1;omega
  subst rc;exact W.done s _ _ ⟨by rw[<-hlen];rw[<-hlen] at st;exact st.2,hD _ g8⟩ λ h' tk kp=>⟨rfl,I.turned (t':=tk) (λ b o hb e=>kp b o (by simpa using hb) e) f0 f1 f3 f4 f5⟩
 self:=λ _ _ _ _ _ st h=>wpAny_pyIter_keyiter st.2 h
section
variable {X:Cx}{WX:Str->Hp->Prop}{tg e:Expr}{f g:Aj->M D}{pos p:Pos}{te:TE}
noncomputable def xO (H0:Hp)(te:TE):TI:=λ σ H R=>te σ H λ v H1=>∃a kvs,v=.ref a/\((H1 a=some (.dK kvs)/\∀o,(∀o u,H0 a≠some (.GD o u))->R (xN a o kvs) (upd H1 a (.GD o (.dK kvs))))\/∃o,H1 a=some (.GD o (.dK kvs))/\R (xN a o kvs) H1)
theorem mS (ha:PE X e te):PI X tg e (xO X.H₀ te):=by
 intro pins s σ H R I h;refine Bh (ha pins s σ H _ I h) λ v s1 zz=>?_;obtain⟨x,H1,I1,r1,q1⟩:=zz;obtain⟨a,kvs,rfl,q⟩:=q1;cases r1;have fin:∀(H2:Hp) (o:Obj),Inv X pins σ H2 s1->H2 a=some (.GD o (.dK kvs))->R (xN a o kvs) H2->wpAny (model X.prog X.w) X.A (pyIter (.ref a)) (zJ X pins σ tg R) X.xe s1:=λ H2 o I2 e2 q2=>by
  obtain⟨g8,z,y,vs,r,ob,es,ep,ho,c⟩:=(show Bl X.prog X.w H2 s1.heap a (.GD o (.dK kvs)) from I2.Aw a _ e2);have eo:o=ob:=zas (g8.symm.trans ho);subst eo;have hD:∀h:Heap,h.get? a=some o->h.DictAt (AR X.prog X.w) a vs ep:=λ h q=>⟨o,es,q,c⟩;have hlen:kvs.length=vs.length:=zcx r;refine wpAny_pyIter_dict y (hD _ g8) ?_;refine⟨s1.heap.objs.size,[s1.heap.objs.size],_,_,H2,rfl,I2.kept (t':=s1.toks) λ b o e=>zab _ e,Zo a _ o kvs vs ep hD r (zar (zaf g8)),⟨zbc _,_,zap _ rfl,rfl,by rw[hlen];rfl⟩,λ b hb=>?_,q2⟩;have e:b=s1.heap.objs.size:=by simpa using hb
  subst e;exact I2.Tn (zag _) (I2.Aw.fresh (zag _))
 rcases q with ⟨e1,q⟩|⟨o,e1,q⟩
 ·obtain⟨o,ho,I2⟩:=I1.freeze e1;exact fin _ o I2 Ap (q o (I1.xM e1))
 ·exact fin H1 o I1 e1 q
end
def Rz (H H':Hp):Prop:=∀b u,H b=some u->H' b=some u\/(∃o kvs,u=.GD o (.dK kvs)/\H' b=some (.dK kvs))\/∃o kvs,u=.dK kvs/\H' b=some (.GD o (.dK kvs))
theorem Rz.tup {H H':Hp}(e:Rz H H'){a:Addr}{xs:List V}(h:H a=some (.tup xs)):H' a=some (.tup xs):=by
 rcases e _ _ h with q|⟨o,k,q,_⟩|⟨o,k,q,_⟩
 ·exact q
 ·cases q
 ·cases q
theorem Rz.dT {H H':Hp}(e:Rz H H'){a:Addr}{kvs:List (List Key×V)}(h:Rd H a (.dT kvs)):Rd H' a (.dT kvs):=by
 rcases h with h|⟨o,h⟩
 ·rcases e _ _ h with q|⟨o,k,q,_⟩|⟨o,k,q,_⟩
  ·exact .inl q
  ·cases q
  ·cases q
 ·rcases e _ _ h with q|⟨o,k,q,_⟩|⟨o,k,q,_⟩
  ·exact .inr ⟨_,q⟩
  ·cases q
  ·cases q
theorem Rz.dK {H H':Hp}(e:Rz H H'){a:Addr}{kvs:List (Key×V)}(h:Rd H a (.dK kvs)):Rd H' a (.dK kvs):=by
 rcases h with h|⟨o,h⟩
 ·rcases e _ _ h with q|⟨o,k,q,_⟩|⟨o,k,q,r⟩
  ·exact .inl q
  ·cases q
  ·cases q;exact .inr ⟨_,r⟩
 ·rcases e _ _ h with q|⟨o,k,q,r⟩|⟨o,k,q,_⟩
  ·exact .inr ⟨_,q⟩
  ·cases q;exact .inl r
  ·cases q
theorem Rz.ins {H H':Hp}(e:Rz H H'){a C dx:Addr}{fs:List (Str×V)}(h:H a=some (.ins C dx fs)):H' a=some (.ins C dx fs):=by
 rcases e _ _ h with q|⟨o,k,q,_⟩|⟨o,k,q,_⟩
 ·exact q
 ·cases q
 ·cases q
theorem Rz.ext {H H':Hp}(e:Rz H H'){a:Addr}{φ:Heap->Prop}(h:H a=some (.ext φ)):H' a=some (.ext φ):=by
 rcases e _ _ h with q|⟨o,k,q,_⟩|⟨o,k,q,_⟩
 ·exact q
 ·cases q
 ·cases q
theorem Rz.seq {K:za0}{H H':Hp}(e:Rz H H'){a:Addr}{xs:List V}(h:CO K H a xs):CO K H' a xs:=by
 rcases h with (h|⟨o,h⟩)|h
 ·rcases e _ _ h with q|⟨o,k,q,_⟩|⟨o,k,q,_⟩
  ·exact .inl (.inl q)
  ·cases q
  ·cases q
 ·rcases e _ _ h with q|⟨o,k,q,_⟩|⟨o,k,q,_⟩
  ·exact .inl (.inr ⟨_,q⟩)
  ·cases q
  ·cases q
 ·exact .inr h
mutual
theorem BM.rz {K:za0}{H H':Hp}(e:Rz H H'):∀ {v:V}{d:D},BM K H v d->BM K H' v d
 |_,_,.AJ=>.AJ
 |_,_,.bl b=>.bl b
 |_,_,.int i=>.int i
 |_,_,.str x=>.str x
 |_,_,.tup h r=>.tup (e.tup h) (Al.rz e r)
 |_,_,.lst h r=>.lst (e.seq h) (Al.rz e r)
 |_,_,.QW h r=>.QW (e.dK h) (Al.rz e r)
 |_,_,.S5 h r=>.S5 (e.dT h) (Al.rz e r)
 |_,_,.ins n h r=>.ins n (e.ins h) (Al.rz e r)
 |_,_,.JX h r=>.JX h (e.ext r)
theorem Al.rz {K:za0}{H H':Hp}(e:Rz H H'):∀ {vs:List V}{ds:List D},Al K H vs ds->Al K H' vs ds
 |_,_,.nil=>.nil
 |_,_,.cons h t=>.cons (BM.rz e h) (Al.rz e t)
end
mutual
theorem C1.rz {K:za0}{H H':Hp}{P P':Addr->Prop}(sm:Rz (del H P) (del H' P')):∀ {v:V}{t:OT}{fp:List Addr},(∀a∈fp,H' a=H a)->C1 K H P v t fp->C1 K H' P' v t fp
 |_,_,_,_,.sh h=>.sh (h.rz sm)
 |_,_,_,k,.lst h r=>.lst ((k _ za3).trans h) (AB.rz sm (λ a ha=>k a (za4 _ ha)) r)
 |_,_,_,k,.tup h r=>.tup (sm.tup h) (AB.rz sm k r)
 |_,_,_,k,.dK h r=>.dK ((k _ za3).trans h) (AB.rz sm (λ a ha=>k a (za4 _ ha)) r)
 |_,_,_,k,.dT h r=>.dT ((k _ za3).trans h) (AB.rz sm (λ a ha=>k a (za4 _ ha)) r)
 |_,_,_,k,.ins n h r=>.ins n ((k _ za3).trans h) (AB.rz sm (λ a ha=>k a (za4 _ ha)) r)
theorem AB.rz {K:za0}{H H':Hp}{P P':Addr->Prop}(sm:Rz (del H P) (del H' P')):∀ {v:List V}{t:List OT}{fp:List Addr},(∀a∈fp,H' a=H a)->AB K H P v t fp->AB K H' P' v t fp
 |_,_,_,_,.nil=>.nil
 |_,_,_,k,.cons h r=>.cons (C1.rz sm (λ a ha=>k a (zb3 _ ha)) h) (AB.rz sm (λ a ha=>k a (zac _ ha)) r)
end
theorem D4.rz {K:za0}{H H':Hp}{P P':Addr->Prop}(sm:Rz (del H P) (del H' P')):∀ {ps:List Addr}{G5:List (List D)},(∀a∈ps,H' a=H a)->D4 K H P ps G5->D4 K H' P' ps G5
 |_,_,_,.nil=>.nil
 |_,_,k,.cons h r t=>.cons ((k _ za3).trans h) (r.rz sm) (D4.rz sm (λ a ha=>k a (za4 _ ha)) t)
theorem D5.rz {K:za0}{H H':Hp}{P P':Addr->Prop}(sm:Rz (del H P) (del H' P')){c:Cl}{v:V}{fp:List Addr}(k:∀a∈fp,H' a=H a)(h:D5 K H P c v fp):D5 K H' P' c v fp:=by
 cases c with
 |val d=>exact h
 |own ds =>
  obtain⟨p,xs,rfl,rfl,h1,h2⟩:=h;exact⟨p,xs,rfl,rfl,(k p za3).trans h1,h2.rz sm⟩
 |ow o =>
  cases o with
  |rows G5 =>
   obtain⟨p,ps,rfl,rfl,h1,h2⟩:=h;exact⟨p,ps,rfl,rfl,(k p za3).trans h1,h2.rz sm λ a ha=>k a (za4 _ ha)⟩
  |MD p ds =>
   obtain⟨p,xs,rfl,rfl,h1,h2⟩:=h;exact⟨p,xs,rfl,rfl,(k p za3).trans h1,h2.rz sm⟩
  |tree p t=>exact C1.rz sm k h
theorem Aq.rz {K:za0}{P0:E8}{P:Addr->Prop}{H H':Hp}{σ:St}{ρ:Aj}(E:Aq K P0 P H σ ρ)(k:∀a,P a->H' a=H a)(sm:Rz (del H P) (del H' P)):Aq K P0 P H' σ ρ:=by
 have key:∀(j:Nat) (d:Cl) (w:V) (fq:List Addr),ρ[j]?=some (some d)->σ[j]?=some (some w)->D5 K H' P d w fq->D5 K H P d w fq:=λ j d w fq hk sk ho=>by
  have io:Hj d=true:=by cases d<;>first|rfl|exact ho.elim
  obtain⟨w',b8,s2,o2,h3,_⟩:=E.ows j d hk io;rw[sk] at s2;cases s2;have o3:=o2.rz sm λ a ha=>k a (h3 a ha).1;rw[ho.Cd o3];exact o2
 exact⟨E.sub,λ a h=>by obtain⟨o,z,y⟩:=E.Cr a h;exact⟨o,(k a h).trans z,y⟩,λ i d h=>let ⟨v,h1,h2⟩:=E.val i d h;⟨v,h1,h2.rz sm⟩,
  λ i c h io=>let ⟨v,fp,h1,h2,h3,h4⟩:=E.ows i c h io;⟨v,fp,h1,h2.rz sm λ a ha=>k a (h3 a ha).1,h3,h4⟩,
  λ i j c c' v v' fp ag hi hj si sj h h' ad=>E.apart i j c c' v v' fp ag hi hj si sj (key i c v fp hi si h) (key j c' v' ag hj sj h') ad,E.len,E.pin⟩
def Fz (H0:Hp)(H H':Hp):Prop:=H'=H\/∃a o kvs,H a=some (.dK kvs)/\H'=upd H a (.GD o (.dK kvs))/\∀o u,H0 a≠some (.GD o u)
def Uz (H0:Hp)(H H':Hp):Prop:=H'=H\/∃a o kvs,H a=some (.GD o (.dK kvs))/\H'=upd H a (.dK kvs)/\∀o u,H0 a≠some (.GD o u)
theorem Inv.uz {X:Cx}{pins:List (Addr×Obj)}{σ:St}{H H':Hp}{s:Shared}(I:Inv X pins σ H s)(u:Uz X.H₀ H H'):Inv X pins σ H' s:=by
 rcases u with rfl|⟨a,o,kvs,e,rfl,n0⟩
 ·exact I
 ·exact I.fZ e n0
noncomputable def tUz (H0:Hp)(t:TE):TE:=λ σ H Q=>t σ H λ v H2=>∃H3,Uz H0 H2 H3/\Q v H3
theorem xP {X:Cx}{e:Expr}{t:TE}(h:PE X e t):PE X e (tUz X.H₀ t):=by
 intro pins s σ H Q I q;refine Bh (h pins s σ H _ I q) λ v s1 zz=>?_;obtain⟨x,H1,I1,r1,q1⟩:=zz;obtain⟨H3,u,q⟩:=q1;exact⟨x,H3,I1.uz u,r1,q⟩
def DIK (X:Cx)(WX:Str->Hp->Prop)(tg iter:Expr)(f:Aj->M (List D)):Prop:=
 ∃wi,PI X tg iter wi/\∀P0 P σ H R ρ,Aq X.K P0 P H σ ρ->(match f ρ with | .ok ds=>∀J H1 H',Ak H H1->Fz X.H₀ H1 H'->(∀b,P b->H' b=H1 b)->Rz (del H1 P) (del H' P)->VS X.K J P H' ds->R J H' | .ex x=>∀H',Ak H H'->WX x H' | .bad=>False)->wi σ H R
noncomputable def sX (d:D):M (List D):=match d with | .BB false ks _=>.ok ks | _=>.bad
theorem mT {K:za0}{H:Hp}:∀k:Key,BM K H (kV k) (Cy k)
 | .inl i=>.int i
 | .inr x=>.str x
theorem gB {K:za0}{P:Addr->Prop}{H:Hp}{a:Addr}{o:Obj}{kvs:List (Key×V)}(nP:¬ P a)(e:H a=some (.GD o (.dK kvs))):VS K (xN a o kvs) P H (kvs.map λ kv=>Cy kv.1):=by
 have at':∀ {P':Addr->Prop} {H':Hp},Ak (del H P) (del H' P')->H' a=some (.GD o (.dK kvs)):=λ s=>(Ao (s a _ (by rw[Az nP];exact e))).2;refine⟨λ i P' H' s hi=>⟨at' s,by rw[za2] at hi;exact hi⟩,λ i P' H' s hi=>⟨at' s,by rw[za2] at hi;exact hi⟩,λ i P' H' v c6 d s ht hd y=>?_⟩;obtain⟨rfl,kv,hk,rfl⟩:=y;rw[zam,hk] at hd;cases hd;exact⟨Ak.refl _,mT _⟩
section
variable {X:Cx}{WX:Str->Hp->Prop}{c:Bool}{P0:E8}{P:Addr->Prop}{H:Hp}{σ:St}{ρ:Aj}{a b e tg iter:Expr}{f g:Aj->M D}{ft:Aj->M Bool}{pos:Pos}{gt:D->Aj->M Aj}{fi:Aj->M (List D)}{es:List Expr}{fs:Aj->M (List D)}
theorem mU (ha:DE X WX true e f):DIK X WX tg e (λ ρ=>(f ρ).bind sX):=by
 obtain⟨ta,a1,a2⟩:=ha;refine⟨_,mS a1,λ P0 P σ H R ρ E h=>?_⟩;dsimp only at h;refine a2 P0 P σ H _ ρ E ?_;cases q:f ρ with
 |bad|ex x=>rw[q] at h;exact h
 |ok d =>
  rw[q] at h;simp only[M.Ad] at h;unfold sX at h;cases d with
  |BB t ks vs =>
   intro v H1 s1 hv;cases hv with
   | @QW a kvs _ hh hl =>
    rcases hh with hh|⟨o,hh⟩
    ·obtain⟨nP,ea⟩:=Ao hh;refine⟨a,kvs,rfl,.inl ⟨ea,λ o n0=>h _ H1 _ s1 (.inr ⟨a,o,kvs,ea,rfl,n0⟩) (λ b hb=>Ah λ z=>nP (by rw[<-z];exact hb)) (λ b u q=>?_) (gB nP Ap)⟩⟩;obtain⟨n,q'⟩:=Ao q;by_cases hb:b=a
     ·subst hb;rw[ea] at q';cases q';exact .inr (.inr ⟨o,kvs,rfl,by rw[Az n];exact Ap⟩)
     ·exact .inl (by rw[Az n,Ah hb];exact q')
    ·obtain⟨nP,ea⟩:=Ao hh;exact⟨a,kvs,rfl,.inr ⟨o,ea,h _ H1 H1 s1 (.inl rfl) (λ _ _=>rfl) (λ _ _ q=>.inl q) (gB nP ea)⟩⟩
   |S5 _ _=>exact h.elim
  |_=>exact h.elim
theorem mV {μ:List (Option Nat)}{wi:TI}{gg:TG}{tc:Shared->Hp->Addr->List Addr->TT}{te:Shared->Hp->Addr->List Addr->TE}{fe:Aj->M D}
 (i2:∀P0 P σ H R ρ,Aq X.K P0 P H σ ρ->(match fi ρ with | .ok ds=>∀J H1 H',Ak H H1->Fz X.H₀ H1 H'->(∀b,P b->H' b=H1 b)->Rz (del H1 P) (del H' P)->VS X.K J P H' ds->R J H' | .ex x=>∀H',Ak H H'->WX x H' | .bad=>False)->wi σ H R)
 (g2:∀P0 P σ H Q ρ v d,Aq X.K P0 P H σ ρ->BM X.K (del H P) v d->gG X.K P0 P H Q (gt d ρ)->gg v σ H Q)
 (t2:∀s H' C ex P0 P σ H Q ρ,Aq X.K P0 P H σ ρ->gT (λ _ _=>False) H Q (ft ρ)->tc s H' C ex σ H Q)
 (e2:∀s H' C ex P0 P σ H Q ρ,Aq X.K P0 P H σ ρ->gV X.K (λ _ _=>False) (Lv true P0 P) H Q (fe ρ)->te s H' C ex σ H Q) {Q:VK}
 (E:Aq X.K P0 P H σ ρ) (h:ZP X.K WX P H Q ((fi ρ).bind λ ds=>if ds.length<=1000 then GJ (B6 gt ft fe ds (Ba μ ρ)) else .bad)):tUz X.H₀ (TK wi μ gg tc te) σ H Q:=by
 unfold tUz;refine i2 P0 P σ H _ ρ E ?_;cases q:fi ρ with
 |bad|ex x=>rw[q] at h;exact h
 |ok ds =>
  rw[q] at h;simp only[M.Ad] at h;by_cases hd:¬ ds.length<=1000
  ·rw[if_neg hd] at h;exact h.elim
  have hd:ds.length<=1000:=by omega
  rw[if_pos hd] at h;intro J H0 H1 s0 fz kP rz ok s C ex;cases qc:B6 gt ft fe ds (Ba μ ρ) with
  |bad|ex x=>rw[qc] at h;exact h.elim
  |ok total =>
   rw[qc] at h;unfold GJ at h;dsimp only at h;have E1:Aq X.K P0 P H1 σ ρ:=(E.same s0).rz kP rz;refine⟨λ i m ys H2=>m=ds.length-i/\i<=ds.length/\ys.length<=i/\Ak H1 H2/\∃es rest,Al X.K (del H2 P) ys es/\B6 gt ft fe (ds.drop i) (Ba μ ρ)=.ok rest/\es++rest=total,
    ⟨ds.length,by simp,zbc _,zag _,Ak.refl _,[],total,.nil,by rw[List.drop_zero];exact qc,rfl⟩,?_⟩
   rintro i m ys H2 ⟨rfl,hi,hy,s2,es,rest,bE,ae,a8⟩;by_cases af:i<ds.length
   ·refine .inr ⟨ok.go i P H2 s2.del af,Nat.lt_of_le_of_lt hy (AG (by omega)),λ aL H'=>i+1<=ds.length/\aL.length<=i+1/\Ak H1 H'/\∃es rest,Al X.K (del H' P) aL es/\B6 gt ft fe (ds.drop (i+1)) (Ba μ ρ)=.ok rest/\es++rest=total,λ aL H' hq=>⟨ds.length-(i+1),by omega,rfl,hq.1,hq.2.1,hq.2.2.1,hq.2.2.2⟩,λ v H3 y=>?_⟩;have E2:=E1.same s2;obtain⟨s3,hv⟩:=ok.iQ i P H2 v H3 ds[i] s2.del E2.Cr (za8 af) y;rw[Hq af,B6] at ae;have E3:=(E2.same s3).block μ;refine g2 P0 P _ H3 _ (Ba μ ρ) v ds[i] E3 hv ?_;cases q1:gt ds[i] (Ba μ ρ) with
    |bad|ex x=>rw[q1] at ae;cases ae
    |ok ρ1 =>
     rw[q1] at ae;dsimp only at ae;intro σ4 E4;refine t2 s H1 C ex P0 P σ4 H3 _ ρ1 E4 ?_;cases q2:ft ρ1 with
     |bad|ex x=>rw[q2] at ae;cases ae
     |ok k =>
      rw[q2] at ae;dsimp only at ae;intro H5 s5;cases k with
      |false =>
       simp only[zat,if_false] at ae ⊢;exact⟨af,by omega,(s2.trans s3).trans s5,es,rest,(bE.mono s3.del).mono s5.del,ae,a8⟩
      |true =>
       simp only[if_true] at ae ⊢;refine e2 s H1 C ex P0 P σ4 H5 _ ρ1 (E4.same s5) ?_;cases q3:fe ρ1 with
       |bad|ex x=>rw[q3] at ae;cases ae
       |ok y' =>
        rw[q3] at ae;dsimp only at ae;cases q4:B6 gt ft fe (ds.drop (i+1)) (Ba μ ρ) with
        |bad|ex x=>rw[q4] at ae;cases ae
        |ok jk =>
         rw[q4] at ae;cases ae;intro w H6 s6 hw;refine⟨af,by rw[zaj,zbf];omega,((s2.trans s3).trans s5).trans s6,es++[y'],jk,(((bE.mono s3.del).mono s5.del).mono s6.del).snoc hw,rfl,?_⟩;rw[zbk];exact a8
   ·have e:i=ds.length:=by omega
    subst e;rw[zct,B6] at ae;cases ae;rw[zb8] at a8;subst a8;refine .inl ⟨ok.stop _ P H2 s2.del (zag _),λ D0 hn=>?_⟩;rcases fz with rfl|⟨a,o,kvs,ea,rfl,n0⟩
    ·exact⟨_,.inl rfl,h.J4 (s0.trans s2) bE D0 hn⟩
    ·have e2:H2 a=some (.GD o (.dK kvs)):=s2 a _ Ap;have nP:¬ P a:=λ z=>by
      have:=kP a z;rw[Ap,ea] at this;cases this
     have ad:a≠D0:=λ z=>by rw[<-z,e2] at hn;cases hn
     have ec:upd (upd H2 D0 (.lst ys)) a (.dK kvs)=upd (upd H2 a (.dK kvs)) D0 (.lst ys):=by
      funext b;by_cases hb:b=a
      ·subst hb;rw[Ap,Ah ad,Ap]
      ·rw[Ah hb];by_cases hd:b=D0
       ·subst hd;rw[Ap,Ap]
       ·rw[Ah hd,Ah hd,Ah hb]
     refine⟨upd (upd H2 D0 (.lst ys)) a (.dK kvs),.inr ⟨a,o,kvs,by rw[Ah ad];exact e2,rfl,n0⟩,?_⟩;rw[ec];have su:Ak H (upd H2 a (.dK kvs)):=s0.trans λ b u q=>by
      by_cases hb:b=a
      ·subst hb;rw[ea] at q;cases q;exact Ap
      ·rw[Ah hb];exact s2 b u (by rw[Ah hb];exact q)
     refine h.J4 su (bE.rz λ b u q=>?_) D0 (by rw[Ah (zbi ad)];exact hn);by_cases hb:b=a
     ·subst hb;rw[Az nP,e2] at q;cases q;exact .inr (.inl ⟨o,kvs,rfl,by rw[Az nP];exact Ap⟩)
     ·refine .inl ?_;obtain⟨n,q'⟩:=Ao q;rw[Az n,Ah hb];exact q'
theorem gC {scope:Scope}{NB:List Str}{ifs:List Expr}{elt:Expr}{fe:Aj->M D}(μ:List (Option Nat))(hc:X.calm=true)(hi:DIK X WX tg iter fi)(av:GZ scope X.env.scope=true)(aY:Qm X.N NB scope μ=true)(hg:tT X scope NB μ tg gt)
 (ht:∀s H C ex,tU (blockOf X s H scope C NB ex) ifs ft) (he:∀s H C ex,DE (blockOf X s H scope C NB ex) (λ _ _=>False) true elt fe) (hs:∀x,foldedSetIterable iter X.env x=pure x:=by intro _;rfl):
 DN X WX (.ListComp elt [⟨tg,iter,ifs,0⟩] scope pos) (λ ρ=>(fi ρ).bind λ ds=>if ds.length<=1000 then GJ (B6 gt ft fe ds (Ba μ ρ)) else .bad):=by
 obtain⟨wi,i1,i2⟩:=hi;obtain⟨gg,g1,gk,g2⟩:=hg;refine⟨_,xP (X8 hc i1 av aY gk (λ s H C ex=>⟨g1 s H C ex,(za1 (ht s H C ex)).1,(za1 (he s H C ex)).1⟩) hs),λ P0 P σ H Q ρ E h=>?_⟩;exact mV i2 g2 (λ s H' C ex P0 P σ H Q ρ E h=>(za1 (ht s H' C ex)).2 P0 P σ H Q ρ E h) (λ s H' C ex P0 P σ H Q ρ E h=>(za1 (he s H' C ex)).2 P0 P σ H Q ρ E h) E h
end
theorem XZ:∀ {kvs:List (Key×V)}{vs:List (Key×Value)},KV kvs vs->∀us:List Value,us.length=vs.length->(∀(j:Nat) (v:Value),us[j]?=some v->∃k,vs[j]?=some (k,v))->Vals (kvs.map zbt) us
 |_,_,.nil,[],_,_=>.nil
 |_,_,.nil,_::_,h,_|_,_,.cons _ _,[],h,_=>by cases h
 |_,_,.cons hd tl,u::us,h,g=>by
  obtain⟨k,e⟩:=g 0 u rfl;rw[zbb] at e;cases e;exact .cons hd.2 (XZ tl us (by simpa using h) λ j v e=>by
   obtain⟨k,q⟩:=g (j+1) v (by rw[zau];exact e);rw[zau] at q;exact⟨k,q⟩)
section
variable {X:Cx}{WX:Str->Hp->Prop}{c:Bool}{o:Expr}{f:Aj->M D}{pos p apos ac:Pos}{to:TE}
noncomputable def xQ (to:TE):TE:=λ σ H Q=>to σ H λ x H1=>∃a kvs,x=.ref a/\Rd H1 a (.dK kvs)/\∀p,H1 p=none->Q (.ref p) (upd H1 p (.ext λ h=>h.IsValuesView p a))
theorem Zp (ho:PE X o to)(aj:attributeBase o "values" X.env (eval o X.env)=eval o X.env:=by rfl)(ak:(apos.endLine==ac.line)=true:=by rfl):PE X (.Call (.Attribute o "values" apos) [] [] ac) (xQ to):=by
 intro pins s0 σ H Q I0 h;refine wpAny_Call_method0_late aj ak (Bh (ho pins s0 σ H _ I0 h) λ v s zz=>?_);obtain⟨x,H1,I,r,q⟩:=zz;obtain⟨a,kvs,rfl,ha,q⟩:=q;cases r;obtain⟨z,hd,vs,rel,dd⟩:=K6 I.Aw ha;obtain⟨ob,es,ep,aH,hx,dL⟩:=id dd;refine⟨"dict","dict.values",PySem.F.plainAttrs_dict,PySem.F.slot_dict_values,PySem.F.type_dict_values,dd.typeIs,λ b e=>?_,Calls.callWith_builtin rfl (PySem.evalArgs_none ?_)⟩
 ·cases e;exact⟨ob,aH,hx.2.1⟩
 refine call_meetsIn PySem.F.slot_dict_values dd.typeIs PySem.F.entry_dict_values (PySem.F.args_dict_values_1 _) (meets_dict_values (AR X.prog X.w) a hd) ⟨⟨vs,dd⟩,?_⟩;refine⟨.ref s.heap.objs.size,_,I.laid (a:=s.heap.objs.size) (o:=.ext λ h=>h.IsValuesView s.heap.objs.size a) (t':=s.toks) (λ b ob e=>zab _ e) (zag _) ⟨⟨_,zap _ rfl,rfl,rfl⟩,⟨_,zap _ rfl⟩,λ h1 h2 ⟨ob,e,cc⟩ k=>⟨ob,k ob e,cc⟩⟩,rfl,q _ (I.Aw.fresh (zag _))⟩
theorem Wq:GF X (.type "list") (λ xs H Q=>∃p a kvs,xs=[.ref p]/\H p=some (.ext λ h=>h.IsValuesView p a)/\Rd H a (.dK kvs)/\X.calm=true/\∀l,H l=none->Q (.ref l) (upd H l (.lst (kvs.map zbt)))):=by
 intro pins s σ H xs us Q I r h;obtain⟨p,a,kvs,rfl,hp,ha,hc,q⟩:=h;obtain⟨u,rfl,rx⟩:=vals1 r;cases rx;obtain⟨z,hd,vs,rel,dd⟩:=K6 I.Aw ha;obtain⟨ep,dat⟩:=dd.dictAt;have hv:s.heap.IsValuesView p a:=(show Bl X.prog X.w H s.heap p (.ext λ h=>h.IsValuesView p a) from I.Aw p _ hp).1;have hlen:kvs.length=vs.length:=zcx rel;refine PySem.W.kdl_call (PySem.W.kdl_values (knd:=AR X.prog X.w) (kvs:=vs) (ep:=ep)) (I.ok.hd hc) ⟨hv,dat⟩ (by rw[<-hlen];exact z) λ h' tk acc c' hk hS dk=>?_;have j4:Vals (kvs.map zbt) acc.toList:=XZ rel acc.toList (by rw[zde];exact dk.1) λ j v e=>dk.2 j v (by rw[<-Array.getElem?_toList];exact e);exact⟨.ref s.heap.objs.size,_,I.laid (t':=tk) hk (zag _) (show Bl X.prog X.w _ h' _ (.lst (kvs.map zbt)) from ⟨by rw[za2];exact z,acc.toList,c',j4,by rw[Array.toArray_toList];exact hS⟩),rfl,q _ (I.Aw.fresh (zag _))⟩
noncomputable def gD (d:D):M OT:=match d with | .BB false _ vs=>.ok (.lst (vs.map .sh)) | _=>.bad
theorem Uy (hc:X.calm=true)(hg:Gl X "list")(hm:X.mg "list" = none)(ha:DE X WX true o f)(hb:bootBuiltins "list" = some (.type "list"):=by decide +kernel)
 (aj:attributeBase o "values" X.env (eval o X.env)=eval o X.env:=by rfl) (ak:(apos.endLine==ac.line)=true:=by rfl)
 (aD:starEach [.Call (.Attribute o "values" apos) [] [] ac] X.env=[(false,eval (.Call (.Attribute o "values" apos) [] [] ac) X.env)]:=by rfl):
 DN X WX (.Call (.Name "list" p) [.Call (.Attribute o "values" apos) [] [] ac] [] pos) (λ ρ=>(f ρ).bind gD):=by
 obtain⟨ta,a1,a2⟩:=ha;refine⟨_,LU Wq hg hm hb (Bi (Zp a1 aj ak) Cs aD) (he:=aD),λ P0 P σ H Q ρ E h=>?_⟩;dsimp only at h;refine a2 P0 P σ H _ ρ E ?_;refine YB h λ d h=>?_;intro v H1 s1 hv;unfold gD at h;split at h
 ·cases hv with
  | @QW a kvs _ hh hl =>
   have hr:=hh.AV;refine⟨a,kvs,rfl,hr,λ p hp=>?_⟩;have sp:Ak H1 (upd H1 p (.ext λ h=>h.IsValuesView p a)):=AO hp _;exact⟨p,a,kvs,rfl,Ap,hr.same sp,hc,h.J4 (s1.trans sp) (hl.mono sp.del)⟩
 ·exact h.elim
end
section
variable {X:Cx}{WX:Str->Hp->Prop}{c:Bool}{P0:E8}{P:Addr->Prop}{H:Hp}{σ:St}{ρ:Aj}{a b e tg iter:Expr}{f g:Aj->M D}{ft:Aj->M Bool}{pos:Pos}{gt:D->Aj->M Aj}{fi:Aj->M (List D)}
theorem sY (ha:DE X WX true e f):DI X WX tg e (λ ρ=>(f ρ).bind λ d=>match d with | .tup ds=>.ok ds | _=>.bad):=by
 obtain⟨ta,a1,a2⟩:=ha;refine⟨_,pT a1,λ P0 P σ H R ρ E h=>?_⟩;dsimp only at h;refine a2 P0 P σ H _ ρ E ?_;cases q:f ρ with
 |bad|ex x=>rw[q] at h;exact h
 |ok d =>
  rw[q] at h;cases d with
  |tup ds =>
   intro v H1 s1 hv;cases hv with
   | @tup a xs _ hh hl =>
    have at':∀ {P':Addr->Prop} {H':Hp},Ak (del H1 P) (del H' P')->F9 X.K H' a xs:=λ s=>.inl (.inl (Ao (s a _ hh)).2);refine⟨a,rfl,⟨xs,.inl (.inl (Ao hh).2)⟩,h _ H1 s1 ⟨λ i P' H' s hi=>?_,λ i P' H' s hi=>?_,λ i P' H' v c6 d s ht hd y=>?_⟩⟩
    ·obtain⟨x,hx,_⟩:=hl.get (za8 hi);exact⟨xs,x,at' s,hx⟩
    ·exact⟨xs,at' s,by rw[hl.length];exact hi⟩
    ·obtain⟨rfl,y⟩:=y;obtain⟨x,hx,aS⟩:=hl.get hd;have e:=y xs (at' s);rw[hx] at e;cases e;exact⟨Ak.refl _,aS.mono s⟩
  |_=>exact h.elim
end
section
variable {prog:Program}{w:World}{A:Around}{E:Value->Shared->Prop}{s:Shared}
theorem Rt {K:Type}[DecidableEq K]{knd:KeyKind prog w K}{h h':Heap}{d I l:Addr}{i:Nat}{xs:List (K×Value)}(hd:h.DictOf knd d xs)(hit:h.IsListIter I l i)(sb:∀b o,b≠I->h.get? b=some o->h'.get? b=some o):h'.DictOf knd d xs:=by
 obtain⟨o,es,ep,h1,h2,h3,h4⟩:=hd;obtain⟨oi,i1,i2,i3⟩:=hit;refine⟨o,es,ep,sb d o (λ z=>?_) h1,h2,h3,h4⟩;subst z;rw[i1] at h1;cases h1;rw[i3] at h3;cases h3
theorem Wr {K:Type}[DecidableEq K]{knd:KeyKind prog w K}{R:Result->Shared->Prop}{d I l:Addr}{items:Array Value}{h0:Heap}(ps:List (K×Value×Value))(hh:A.handled=none)(gh:l≠I)(qr:d≠I)(fc:l≠d)
 (jt:ps.length=items.size) (hsz:items.size+1<=sizeLine) (hl:h0.IsList l items)
 (hp:∀(j:Nat) p,ps[j]?=some p->knd.is p.1 p.2.1=true/\∃t,items[j]?=some (.ref t)/\t≠d/\t≠I/\IsTup h0 t #[p.2.1,p.2.2]):
 ∀(m i:Nat) (xs:List (K×Value)) (s:Shared),items.size-i=m->i<=items.size->xs.length<=i->s.heap.IsListIter I l i->s.heap.DictOf knd d xs->(∀b o,b≠d->b≠I->h0.get? b=some o->s.heap.get? b=some o)->
  (∀h' tk,h'.DictOf knd d ((ps.drop i).foldl (λ acc p=>stored acc p.1 p.2.2) xs)->(∀b o,b≠d->b≠I->h0.get? b=some o->h'.get? b=some o)->R (.ok (.ret .none)) {s with heap:=h',toks:=tk})->
  codeAny (model prog w) A (.builtin "dict.update.loop" ⟨[.ref d,.ref I,rawInt i,.none],[]⟩) R s:=by
 intro m;induction m with
 |zero =>
  intro i xs s hm hi qt hit hd hf h;have bo:i=items.size:=by omega
  refine codeAny_builtin IZ ?_;rw[zco CW _];show wpAny _ A.in1 (pyNext (.ref I) >>= _) _ _ s;refine wpAny_bind (wpAny_pyNext_list_end (A:=A.in1) hh hit (hl.at λ o e=>hf l o fc gh e) (by simp[bo]) λ h' eb=>?_);have hd2:=Rt hd hit λ b o hb e=>eb b o hb e;show wpAny _ A.in1 (Dict.addKeywords d [] >>= _) _ _ _;unfold Dict.addKeywords;refine wpAny_bind (wpAny_bind ?_);refine wpAny_pure (wpAny_pure (wpAny_pure ?_));have ed:ps.drop i=[]:=by rw[List.drop_eq_nil_iff];omega
  rw[ed] at h;exact h h' s.toks hd2 λ b o h1 h2 e=>eb b o h2 (hf b o h1 h2 e)
 |succ m ih =>
  intro i xs s hm hi qt hit hd hf h;have af:i<items.size:=by omega
  obtain⟨p,gw⟩:∃p,ps[i]?=some p:=⟨ps[i]'(by omega),za8 _⟩;obtain⟨p3,t,ht,t1,t2,t3⟩:=hp i p gw;refine codeAny_builtin IZ ?_;rw[zco CW _];show wpAny _ A.in1 (pyNext (.ref I) >>= _) _ _ s;refine wpAny_bind (wpAny_pyNext_list_item (A:=A.in1) hit (hl.at λ o e=>hf l o fc gh e) ht λ h' bp sb=>?_);have hd2:h'.DictOf knd d xs:=Rt hd hit λ b o hb e=>(sb.2 b hb).trans e;have ii:∀b o,b≠d->b≠I->h0.get? b=some o->h'.get? b=some o:=λ b o h1 h2 e=>(sb.2 b h2).trans (hf b o h1 h2 e);have t4:IsTup h' t #[p.2.1,p.2.2]:=by
   obtain⟨o,e1,e2⟩:=t3;exact⟨o,ii t o t1 t2 e1,e2⟩
  dsimp only;refine wpAny_bind (wpAny_holding (wpAny_bind (wpAny_tryCatch (Ri t4 ?_))));show wpAny _ A.in1 (holding [p.2.1,p.2.2] (dictSet d p.2.1 p.2.2)) _ _ _;refine wpAny_holding (wpAny_dictSet_pairs (knd:=knd) (hsz:=by omega) p3 hd2 λ h3 gx ju=>?_);refine wpAny_pure ⟨plainId_quiet CW _,?_⟩;have gy:h3.IsListIter I l (i+1):=by
   obtain⟨o,e1,e2⟩:=bp;exact⟨o,(ju.2 I (zbi qr)).trans e1,e2⟩
  have ed:ps.drop i=p::ps.drop (i+1):=by
   rw[zcl (by omega:i<ps.length)];rw[za8 (by omega:i<ps.length)] at gw;rw[zas gw]
  rw[ed,zav] at h;have dm:(stored xs p.1 p.2.2).length<=i+1:=by
   unfold stored;split
   ·rw[za2];omega
   ·rw[zaj,zbf];omega
  exact ih (i+1) (stored xs p.1 p.2.2) {s with heap:=h3,toks:=s.toks+1} (by omega) (by omega) dm gy gx (λ b o h1 h2 e=>(ju.2 b h1).trans (ii b o h1 h2 e)) h
theorem Qs {K:Type}[DecidableEq K]{knd:KeyKind prog w K}{Q:Value->Shared->Prop}{l:Addr}{items:Array Value}{n:Nat}{sl:Array (Option Value)}(ps:List (K×Value×Value))(hh:A.handled=none)
 (jt:ps.length=items.size) (hsz:items.size+1<=sizeLine) (hl:s.heap.get? l=some {cls:=.type "list",data:=.seq items n,slots:=sl})
 (hp:∀(j:Nat) p,ps[j]?=some p->knd.is p.1 p.2.1=true/\∃t,items[j]?=some (.ref t)/\IsTup s.heap t #[p.2.1,p.2.2])
 (h:∀h' tk,h'.DictOf knd s.heap.objs.size (ps.foldl (λ acc p=>stored acc p.1 p.2.2) [])->(∀b o,s.heap.get? b=some o->h'.get? b=some o)->Q (.ref s.heap.objs.size) {s with heap:=h',toks:=tk}):
 wpAny (model prog w) A (call (.type "dict") [.ref l]) Q E s:=by
 refine callType_codes (Q₁:=λ obj s₁=>obj=.ref s.heap.objs.size/\s₁={s with heap:=s.heap.push {cls:=.type "dict",data:=.dict #[]} }) PySem.F.kt_called_dict (PySem.F.kt_typeCall_dict_1 _) PySem.F.entry_dict_init
  (kt_code_dict_new _ ⟨rfl,rfl⟩) λ obj s₁ h₁=>?_
 obtain⟨rfl,rfl⟩:=h₁;have hS:(s.heap.push {cls:=.type "dict",data:=.dict #[]}).get? s.heap.objs.size=some {cls:=.type "dict",data:=.dict #[]}:=zap _ rfl;have ll:l<s.heap.objs.size:=zaf hl;have bg:(s.heap.push {cls:=.type "dict",data:=.dict #[]}).get? l=some {cls:=.type "list",data:=.seq items n,slots:=sl}:=zab _ hl;refine⟨⟨_,hS,rfl⟩,PySem.F.args_dict_init_2 _ _,?_⟩;have TD:Looks (model prog w) (s.heap.push {cls:=.type "dict",data:=.dict #[]}) (typeOf (.ref s.heap.objs.size)) (.type "dict"):=(Looks.ld hS).andThen .now;have TL:Looks (model prog w) (s.heap.push {cls:=.type "dict",data:=.dict #[]}) (typeOf (.ref l)) (.type "list"):=(Looks.ld bg).andThen .now;unfold Builtin.«dict.__init__» Dict.selfAndRest Dict.notOrdered;dsimp only;rw[if_pos (by decide)];refine wpAny_bind (wpAny_bind (wpAny_bind (TD.at ?_)));rw[if_neg (by decide)];refine wpAny_pure ?_;unfold Dict.addrOf;refine wpAny_bind (wpAny_pure (wpAny_pure ?_));unfold Dict.updateCommon Dict.updateFrom;dsimp only;refine wpAny_bind (TL.at ?_);rw[if_pos (by decide)];refine wpAny_bind (MH (A:=A.in1.in1) hh bg λ h2 wT gz=>?_);rw[if_pos (show (none:Option Value).isNone=true from rfl)];refine wpAny_bind (wpAny_rule ?_);have aq:h2.IsList l items:=⟨_,gz _ _ bg,rfl,n,rfl⟩;have jv:=gz _ _ hS;refine wpAny_bind (wpAny_pyIter_list aq ?_);refine wpAny_pure ⟨plainId_quiet CW _,?_⟩;have lz:s.heap.objs.size<h2.objs.size:=zaf jv;have qu:∀b o,s.heap.get? b=some o->(h2.push {cls:=.type "list_iterator",data:=.fields #[.ref l,.int 0 0]}).get? b=some o:=λ b o e=>zab _ (gz _ _ (zab _ e));have gx:(h2.push {cls:=.type "list_iterator",data:=.fields #[.ref l,.int 0 0]}).DictOf knd s.heap.objs.size []:=
  ⟨_,#[],0,zab _ jv,⟨rfl,rfl,rfl⟩,rfl,(by intro e he;simp at he),.nil,zbz⟩
 have af:∀b o,s.heap.get? b=some o->b≠s.heap.objs.size/\b≠h2.objs.size:=λ b o e=>by
  have:=zaf e;exact⟨zar this,zar (Nat.lt_trans this lz)⟩
 refine Wr (A:=A.in1) (knd:=knd) (l:=l) (h0:=s.heap) ps hh (zar (Nat.lt_trans ll lz)) (zar lz) (zar ll) jt hsz ⟨_,hl,rfl,n,rfl⟩ (λ j p hj=>?_) items.size 0 [] _ (by omega) (by omega) (by simp) ⟨_,zap _ rfl,rfl,rfl⟩ gx (λ b o h1 gi e=>qu b o e) λ h' tk aS qv=>?_
 ·obtain⟨q1,t,q2,q3⟩:=hp j p hj;obtain⟨o2,e2,_⟩:=id q3;exact⟨q1,t,q2,(af _ _ e2).1,(af _ _ e2).2,q3⟩
 ·exact⟨rfl,h h' tk aS λ b o e=>qv b o (af _ _ e).1 (af _ _ e).2 e⟩
end
structure Zq where
 (t:Addr) (κ:Key) (v:V)
def sZ (H:Hp)(p:Zq):Prop:=H p.t=some (.tup [kV p.κ,p.v])
noncomputable def mW (ps:List Zq):List (Key×V):=ps.foldl (λ acc p=>putK acc p.κ p.v) []
noncomputable def tDK (X:Cx)(te:TE):TE:=λ σ H Q=>te σ H λ x H1=>∃(l:Addr) (ps:List Zq),x=.ref l/\CO X.K H1 l (ps.map λ p=>V.ref p.t)/\(∀p∈ps,sZ H1 p)/\ps.length<=1000/\∀r,H1 r=none->Q (.ref r) (upd H1 r (.dK (mW ps)))
theorem UA:∀ {ps:List Zq}{us:List Value},Vals (ps.map λ p=>V.ref p.t) us->us=ps.map λ p=>zbm p.t
 |[],_,.nil=>rfl
 |p::ps,_,.cons h t=>by
  cases h;rw[za5,<-UA t]
theorem oK:∀ {ps:List Zq}{qs:List (Key×Value×Value)}{kvs:List (Key×V)}{xs:List (Key×Value)},Paired (λ(p:Zq) (q:Key×Value×Value)=>p.κ=q.1/\RelV p.v q.2.2) ps qs->KV kvs xs->KV (ps.foldl (λ acc p=>putK acc p.κ p.v) kvs) (qs.foldl (λ acc p=>stored acc p.1 p.2.2) xs)
 |[],_,_,_,.nil,h=>h
 |p::ps,_,_,_,.cons (b:=q) hq t,h=>by
  obtain⟨q1,q2,q3⟩:=q;obtain⟨e1,e3⟩:=hq;dsimp only at e1 e3;subst e1;have r:=oK (ps:=ps) t (h.put p.κ e3);exact r
theorem Y0:∀(ps:List Zq) (kvs:List (Key×V)),(ps.foldl (λ acc p=>putK acc p.κ p.v) kvs).length<=kvs.length+ps.length
 |[],kvs=>zag _
 |p::ps,kvs=>by
  have h1:=Y0 ps (putK kvs p.κ p.v);have h2:=DM kvs p.κ p.v;rw[zav,za9];omega
theorem Y1 {h:Heap}{H:Hp}{P:Program}{w:World}(ok:G4 P w H h):∀ {ps:List Zq},(∀p∈ps,sZ H p)->∃qs:List (Key×Value×Value),Paired (λ(p:Zq) (q:Key×Value×Value)=>p.κ=q.1/\RelV p.v q.2.2) ps qs/\
 ∀(j:Nat) q,qs[j]?=some q->(AR P w).is q.1 q.2.1=true/\∃t,(ps.map λ p=>zbm p.t)[j]?=some (.ref t)/\IsTup h t #[q.2.1,q.2.2]
 |[],_=>⟨[],.nil,λ j q e=>by simp at e⟩
 |p::ps,ho=>by
  obtain⟨qs,h1,h2⟩:=Y1 ok λ p hp=>ho p (za4 _ hp);have o1:=ho p za3;obtain⟨_,aa,r,it⟩:=(show Bl P w H h p.t (.tup [kV p.κ,p.v]) from ok p.t _ o1);obtain⟨u,v,rfl,ru,rv⟩:=r.two;refine⟨(p.κ,u,v)::qs,.cons ⟨rfl,rv⟩ h1,λ j q e=>?_⟩;cases j with
  |zero =>
   rw[zbb] at e;cases e;exact⟨MC ru,p.t,by simp,it⟩
  |succ j =>
   rw[zau] at e;obtain⟨a1,t,a2,a3⟩:=h2 j q e;exact⟨a1,t,by simpa using a2,a3⟩
section
variable {X:Cx}{WX:Str->Hp->Prop}{c:Bool}{P0:E8}{P:Addr->Prop}{H:Hp}{σ:St}{ρ:Aj}{a b e:Expr}{f g:Aj->M D}{fn:Aj->M OT}{pos:Pos}{te:TE}
theorem gE {p:Pos}(hc:X.calm=true)(hg:Gl X "dict")(hm:X.mg "dict" = none)(he:PE X e te)(hv:bootBuiltins "dict" = some (.type "dict"):=by decide +kernel)(hs:starEach [e] X.env=[(false,eval e X.env)]:=by rfl):
 PE X (.Call (.Name "dict" p) [e] [] pos) (tDK X te):=by
 intro pins s σ H Q I h;refine wpAny_Call_Name_kw (Dl I hg hm hv ?_);refine zba ?_ hs;rw[hs];refine zcj (Bh (he pins s σ H _ I h) λ u s1 zz=>?_);obtain⟨x,H1,I1,r1,q1⟩:=zz;obtain⟨l,ps,rfl,hq,ho,hlen,q⟩:=q1;cases r1;refine zcq ?_;obtain⟨aa,r',pl,hz⟩:=I1.list hq;have hits:=UA r';subst hits;obtain⟨⟨qw,jw,jx,g7⟩,n0,o1,o2,o3,o4⟩:=pl;dsimp only at o2 o3 o4;subst o2 o3 o4;obtain⟨qs,h1,h2⟩:=Y1 I1.Aw ho;refine Qs (knd:=AR X.prog X.w) qs (I1.ok.hd hc) (by rw[zad,za2,<-h1.length]) (AG (by rw[zad,za2];omega)) o1 (λ j p hj=>?_) λ h' tk hd kp=>?_
 ·obtain⟨a1,t,a2,a3⟩:=h2 j p hj;exact⟨a1,t,by rw[List.getElem?_toArray];exact a2,a3⟩
 ·have qx:=oK h1 (show KV [] [] from .nil);have e8:s1.heap.objs.size<=s1.heap.objs.size:=zag _;have b5:=I1.Aw.fresh e8;have mo:=Y0 ps [];exact⟨.ref _,_,I1.laid (t':=tk) (o:=.dK (mW ps)) kp e8 ⟨zbr (AG (by unfold mW;simp at mo;omega)),beq_eq_false_iff_ne.mpr (zbi (zar I1.big)),_,qx,hd⟩,rfl,q _ b5⟩
noncomputable def mX (d:D):M OT:=match d with
 | .lst xs=>(match Sr xs with|some l=>if l.length<=1000/\(l.all λ kv=>keyOk false kv.1)=true then .ok (.BB false (nZ l).1 ((nZ l).2.map .sh)) else .bad|none=>.bad)
 |_=>.bad
theorem Y2 {K:za0}{H:Hp}{P:Addr->Prop}:∀ {xs:List V}{ds:List D}{l:List (D×D)},Al K (del H P) xs ds->Sr ds=some l->(l.all λ kv=>keyOk false kv.1)=true->
 ∃ps:List Zq,xs=ps.map (λ p=>V.ref p.t)/\(∀p∈ps,sZ H p)/\Paired (λ(p:Zq) (kv:D×D)=>kv.1=Cy p.κ/\BM K (del H P) p.v kv.2) ps l
 |_,[],l,.nil,e,_=>by cases e;exact⟨[],rfl,λ p hp=>(by cases hp),.nil⟩
 |_,d::ds,l,.cons hd ht,e,hk=>by
  unfold Sr at e;split at e
  ·rename_i ci;cases ci
  ·rename_i k v r ci;cases ci;obtain⟨l',e1,e2⟩:=Option.map_eq_some_iff.mp e;subst e2;rw[List.all_cons,zb5] at hk;obtain⟨ps,q1,q2,q3⟩:=Y2 ht e1 hk.2;have hK:=EK hk.1;cases hK with
   |k κ =>
    cases hd with
    | @tup tt _ _ h1 h2 =>
     obtain⟨x,y,rfl,hx,hy⟩:=h2.two;have ex:=hx.kH;subst ex;refine⟨⟨tt,κ,y⟩::ps,by rw[za5,q1],λ p hp=>?_,.cons ⟨rfl,hy⟩ q3⟩;rcases zaa.mp hp with rfl|hp
     ·exact (Ao h1).2
     ·exact q2 p hp
  ·cases e
theorem Y3 {K:za0}{H:Hp}{P:Addr->Prop}:∀ {ps:List Zq}{l:List (D×D)}{kvs:List (Key×V)}{vs:List D},Paired (λ(p:Zq) (kv:D×D)=>kv.1=Cy p.κ/\BM K (del H P) p.v kv.2) ps l->Al K (del H P) (kvs.map zbt) vs->
 ∃aB,l.foldl (λ z kv=>putD z.1 z.2 kv.1 kv.2) (kvs.map (λ kv=>Cy kv.1),vs)=((ps.foldl (λ acc p=>putK acc p.κ p.v) kvs).map (λ kv=>Cy kv.1),aB)/\Al K (del H P) ((ps.foldl (λ acc p=>putK acc p.κ p.v) kvs).map zbt) aB
 |[],_,kvs,vs,.nil,h=>⟨vs,rfl,h⟩
 |p::ps,_,kvs,vs,.cons (b:=kv) hq t,h=>by
  obtain⟨k,d⟩:=kv;obtain⟨e1,e2⟩:=hq;dsimp only at e1 e2;subst e1;have aO:∃aB,(putD (kvs.map λ kv=>Cy kv.1) vs (Cy p.κ) d)=((putK kvs p.κ p.v).map (λ kv=>Cy kv.1),aB)/\Al K (del H P) ((putK kvs p.κ p.v).map zbt) aB:=by
   unfold putD putK;rw[Kk (fk:=Cy) HA];by_cases hh:(kvs.any λ kv=>decide (kv.1=p.κ))=true
   ·rw[if_pos hh,if_pos hh];refine⟨_,by rw[HC (fk:=Cy) HA],?_⟩;rw[<-HB (fk:=Cy) HA];exact HE e2 h
   ·rw[if_neg hh,if_neg hh];refine⟨_,by rw[zay];rfl,?_⟩;rw[zay];exact h.snoc e2
  obtain⟨xa,g1,g2⟩:=aO;obtain⟨qy,g3,g4⟩:=Y3 t g2;refine⟨qy,?_,g4⟩;rw[zav];dsimp only;rw[g1];exact g3
theorem gF {p:Pos}(hc:X.calm=true)(hg:Gl X "dict")(hm:X.mg "dict" = none)(he:DE X WX true e f)(hv:bootBuiltins "dict" = some (.type "dict"):=by decide +kernel)(hs:starEach [e] X.env=[(false,eval e X.env)]:=by rfl):
 DN X WX (.Call (.Name "dict" p) [e] [] pos) (λ ρ=>(f ρ).bind mX):=by
 obtain⟨te,e1,e2⟩:=he;refine⟨_,gE hc hg hm e1 hv hs,λ P0 P σ H Q ρ E h=>?_⟩;refine e2 P0 P σ H _ ρ E ?_;dsimp only at h;refine YB h λ d h=>?_;intro v H1 s1 hv;unfold mX at h;split at h
 ·rename_i xs;split at h
  ·rename_i l eb;split at h
   ·rename_i hl;cases hv with
    |lst hs hh =>
     obtain⟨ps,q1,q2,q3⟩:=Y2 hh eb hl.2;subst q1;obtain⟨aB,g1,g2⟩:=Y3 (kvs:=[]) q3 .nil;refine⟨_,ps,rfl,hs.AV,q2,by rw[q3.length];exact hl.1,λ r hr=>?_⟩;have e3:nZ l=((mW ps).map (λ kv=>Cy kv.1),aB):=g1;rw[e3] at h;have bf:∀a∈[r],H1 a=none:=λ a ha=>by rw[za7.mp ha];exact hr
     exact h _ [r] _ (s1.trans (AO hr _)) (λ a ha=>Ex s1 (bf a ha)) (by simp) (.dK Ap (g2.mono (CB (AO hr _) bf)).ows)
   ·exact h.elim
  ·exact h.elim
 ·exact h.elim
end
theorem Bc.tD {m:Nat}{rs:List Road}{L:List Int}{A:LA}{K:List (Int×Int)}(ok:Bc m rs L A K):∀p c,As (Hc A K) p=some c->p.1∈L/\p.2∈L:=λ p c h=>by
 have hm:=OS h;unfold Hc at hm;obtain⟨q,hq,e⟩:=zaq.mp hm;cases e;have:=ok.Yl hq;exact⟨(B8 ok.pm).mpr this.2.1,(B8 ok.pm).mpr this.2.2⟩
theorem Bc.xR {m:Nat}{rs:List Road}{L:List Int}{A:LA}{K:List (Int×Int)}(ok:Bc m rs L A K):∀p c,As (Qr (Hc A K)) p=some c->p.1∈L/\p.2∈L:=λ p c h=>by
 rw[show p=(p.1,p.2) from rfl,Lh] at h;have:=ok.tD _ _ h;exact⟨this.2,this.1⟩
theorem mY (R:RA):sX (Zk R)=.ok (R.map λ kv=>D.int kv.1):=rfl
theorem mZ (R:RA):gD (Zk R)=.ok (.lst ((R.map λ kv=>cst (some kv.2)).map .sh)):=rfl
theorem tE {a b g i:Int}(ha:0<=a/\a<Rr)(hb:0<=b/\b<Rr)(hg:0<=g/\g<Rr)(h0:0<=i)(h1:i<8):∃l:Option Int,AM (.lst [.AJ,.int 0,.int 0,.int 1,.int a,.int a,.int b,.int g]) (.int i)=.ok (D2 l)/\∀z,l=some z->0<=z/\z<Rr:=by
 have ht:=We;have hi:i=0\/i=1\/i=2\/i=3\/i=4\/i=5\/i=6\/i=7:=by omega
 rcases hi with rfl|rfl|rfl|rfl|rfl|rfl|rfl|rfl
 ·exact⟨none,rfl,λ z e=>by cases e⟩
 ·exact⟨some 0,rfl,λ z e=>by cases e;omega⟩
 ·exact⟨some 0,rfl,λ z e=>by cases e;omega⟩
 ·exact⟨some 1,rfl,λ z e=>by cases e;omega⟩
 ·exact⟨some a,rfl,λ z e=>by cases e;exact ha⟩
 ·exact⟨some a,rfl,λ z e=>by cases e;exact ha⟩
 ·exact⟨some b,rfl,λ z e=>by cases e;exact hb⟩
 ·exact⟨some g,rfl,λ z e=>by cases e;exact hg⟩
theorem Ws (cs:List Int):GH 0 (cs.map D.int)=(zb6 cs.length).map λ i:Nat=>D.tup [.int (i:Int),.int (cs.getD i 0)]:=by
 apply zd4;intro i;rw[zam];by_cases hi:i<cs.length
 ·obtain⟨e,he⟩:∃e,(GH 0 (cs.map D.int))[i]?=some e:=⟨_,za8 (by rw[CQ,za2];exact hi)⟩;obtain⟨d,hd,rfl⟩:=FG he;rw[he,zc6 hi];rw[zam,za8 hi] at hd;cases hd;rw[zbo,zb7,Nat.zero_add,za8 hi];rfl
 ·rw[zbg (by rw[CQ,za2];omega),zbg (by rw[zci];omega)];rfl
theorem UB (rs:List Road):VO 16 (.lst (rs.map C9)) (.lst [])=.ok (.bl (decide (rs≠[]))):=by
 have h1:Pl 16 (.lst (rs.map C9)):=(M4 (n:=1) λ d hd=>by
  obtain⟨r,_,rfl⟩:=zaq.mp hd;exact xF r).le (by decide)
 have h2:Pl 16 (.lst ([]:List D)):=(M4 (n:=1) λ d hd=>by cases hd).le (by decide);rw[Se h1 h2];cases rs with
 |nil=>rfl
 |cons r q=>simp[Br,Cn]
noncomputable def Cz (R1 R2:RA):RA:=R1.filterMap λ kv=>(As R2 kv.1).map λ c=>(kv.1,(kv.2.1+c.1,kv.2.2+c.2))
theorem Dy (R2:RA):∀R1:RA,((Cz R1 R2).map zb0).Sublist (R1.map zb0)
 |[]=>.slnil
 |kv::r=>by
  unfold Cz;rw[zc7];cases As R2 kv.1 with
  |none=>exact (Dy R2 r).cons _
  |some c=>exact (Dy R2 r).cons₂ _
theorem P6 {R2:RA}{p:Int}:∀ {R1:RA},(R1.map zb0).Nodup->As (Cz R1 R2) p=Av (As R1 p) (As R2 p)
 |[],_=>by simp only[Cz,List.filterMap_nil,As];rfl
 |(k,v)::r,hn=>by
  rw[za5,zbe] at hn;have ih:=P6 (R2:=R2) (p:=p) hn.2;by_cases hk:k=p
  ·subst hk;have n1:As (Cz r R2) k=none:=by
    cases q:As (Cz r R2) k with
    |none=>rfl
    |some c=>exact absurd ((Dy R2 r).subset (Gq.mp (by rw[q];rfl))) hn.1
   have e2:As ((k,v)::r) k=some v:=by simp[As]
   rw[e2];unfold Cz;rw[zc7];cases q:As R2 k with
   |none=>exact n1
   |some c=>simp[As,Av]
  ·have e2:As ((k,v)::r) p=As r p:=by simp[As,hk]
   rw[e2,<-ih];unfold Cz;rw[zc7];cases q:As R2 k with
   |none=>rfl
   |some c=>simp[As,hk]
theorem Ru (R2:RA):∀R1:RA,((R1.filter λ kv=>(As R2 kv.1).isSome).map λ kv=>D.tup [.int kv.1,cst (Av (some kv.2) (As R2 kv.1))])=(Cz R1 R2).map λ kv=>D.tup [.int kv.1,cst (some kv.2)]
 |[]=>rfl
 |kv::r=>by
  have ih:=Ru R2 r;unfold Cz at ih ⊢;rw[zc7];cases q:As R2 kv.1 with
  |none=>rw[List.filter_cons_of_neg (by rw[q];simp)];exact ih
  |some c=>rw[List.filter_cons_of_pos (by rw[q];rfl),za5,ih,q];rfl
theorem oM:∀(C C0:RA),((C0++C).map zb0).Nodup->(C.map λ kv=>(D.int kv.1,cst (some kv.2))).foldl (λ z kv=>putD z.1 z.2 kv.1 kv.2) (C0.map (λ kv=>D.int kv.1),C0.map λ kv=>cst (some kv.2))=((C0++C).map (λ kv=>D.int kv.1),(C0++C).map λ kv=>cst (some kv.2))
 |[],C0,_=>by simp
 |kv::C,C0,hn=>by
  obtain⟨p,c⟩:=kv;rw[za5,zav];dsimp only;have h0:As C0 p=none:=by
   rw[Ur];intro hm;rw[zay,zax] at hn;exact hn.2.2 p hm p (by simp) rfl
  have e:Dx C0 p c=C0++[(p,c)]:=by unfold Dx;rw[h0];rfl
  rw[Lf (vf:=λ c=>cst (some c)) HP,e,oM C (C0++[(p,c)]) (by rw[zbk];exact hn),zbk];rfl
theorem tF {C:RA}(hn:(C.map zb0).Nodup)(hl:C.length<=1000):mX (.lst (C.map λ kv=>.tup [.int kv.1,cst (some kv.2)]))=.ok (Wj C):=by
 unfold mX;dsimp only;rw[SK (λ kv:Int×(Int×Int)=>D.int kv.1) (λ kv=>cst (some kv.2))];dsimp only;have e:=oM C [] hn;rw[if_pos ⟨by rw[za2];exact hl,by rw[List.all_map];exact zdb.mpr λ x _=>rfl⟩];have e2:nZ (C.map λ kv=>(D.int kv.1,cst (some kv.2)))=(C.map (λ kv=>D.int kv.1),C.map λ kv=>cst (some kv.2)):=e;rw[e2];rfl
section
variable {Cf:Int->Int->Co}{rk:Int->Nat}
theorem Ld.front {s y t:Int}{c d:Int×Int}(hr:rk s<rk y)(ha:Cf s y=some d)(u:Ld Cf rk y t c):Ld Cf rk s t (d.1+c.1,d.2+c.2):=by
 induction u with
 |nil =>
  have:=Ld.snoc (Ld.nil (Af:=Cf) (rk:=rk) (s:=s)) hr ha;simpa using this
 | @snoc x z c e hu bF bB ih =>
  have:=Ld.snoc ih bF bB;rwa[zd7,zd7] at this
theorem Sy.up {t x:Int}{n:Nat}{c:Int×Int}(h:Sy Cf rk t n x c):Ld (λ a b=>Cf b a) rk x t c:=by
 induction h with
 |nil=>exact .nil
 | @snoc n x y c d hd hr ha ih =>
  have:=Ld.front (Cf:=λ a b=>Cf b a) hr ha ih;rwa[Int.add_comm d.1,Int.add_comm d.2] at this
end
theorem nA {a b c d:Int×Int}(h:NU a c)(k:NU b d):NU (a.1+b.1,a.2+b.2) (c.1+d.1,c.2+d.2):=by
 unfold NU at *;simp only;omega
theorem P7 {a:Co}{q:Int×Int}:BO a (some q)↔∃p,a=some p/\NU p q:=by
 constructor
 ·exact OQ
 ·rintro ⟨p,rfl,h⟩;unfold NU at h;unfold BO;simp only;omega
theorem gH {m:Nat}{rs:List Road}{L:List Int}{A:LA}{K:List (Int×Int)}{s g:Int}{R1 R2:RA}(ok:Bc m rs L A K)(hs:0<=s/\s<m)(hg:0<=g/\g<m)(h1:Qd L (Hc A K) s L.length R1)(h2:Qd L (Qr (Hc A K)) g L.length R2){x:Co}(hx:BA rs s g x):
 Ep ((Cz R1 R2).map λ kv=>some kv.2)=x:=by
 have u1:=h1.upC (m:=m) ok.tD;have u2:=h2.upC (m:=m) ok.xR;have ef:(λ x y=>As (Qr (Hc A K)) (x,y))=λ x y=>As (Hc A K) (y,x):=by funext x y;exact Lh x y _
 rw[ef] at u2;have mem:∀p c,As (Cz R1 R2) p=some c->some c∈(Cz R1 R2).map λ kv=>some kv.2:=λ p c h=>zaq.mpr ⟨_,OS h,rfl⟩;have walk:∀p c,As (Cz R1 R2) p=some c->Wk rs s g c:=λ p c h=>by
  rw[P6 h1.nd] at h;cases q1:As R1 p with
  |none=>rw[q1] at h;cases h
  |some a =>
   cases q2:As R2 p with
   |none=>rw[q1,q2] at h;cases h
   |some b =>
    rw[q1,q2] at h;cases h;have w1:=((u1.sd p a q1).of_kept ok.kept).walk ok.ZQ;have w2:=(((u2.sd p b q2).of_kept ok.kept.turn).walk ok.ZQ.turn).turn;rw[FU] at w2;exact w1.trans w2
 have jp:((Cz R1 R2).map zb0).Nodup:=(Dy R2 R1).nodup h1.nd;have walk2:∀v∈(Cz R1 R2).map (λ kv=>some kv.2),BO x v:=λ v hv=>by
  obtain⟨kv,hk,rfl⟩:=zaq.mp hv;exact hx.1 _ (walk kv.1 kv.2 (SA jp hk))
 refine Su walk2 λ ad=>?_;cases x with
 |none=>exact absurd rfl ad
 |some c =>
  obtain⟨t,n,c1,c2,g1,g2,e⟩:=Up ok.ZQ ok.kept hx;obtain⟨p1,q1,l1⟩:=P7.mp (u1.le g1);obtain⟨p2,q2,l2⟩:=P7.mp (u2.le g2.up);have hf:As (Cz R1 R2) t=some (p1.1+p2.1,p1.2+p2.2):=by rw[P6 h1.nd,q1,q2];rfl
  exact⟨_,mem t _ hf,P7.mpr ⟨_,rfl,by rw[e];exact nA l1 l2⟩⟩
theorem nB (m:Nat)(rs:List Road):er (.tup [.sh (.int m),.lst ((rs.map C9).map .sh)])=Am m rs:=by
 rw[er,Qa,Rc,Qa,M9,Qa];rfl
theorem oN {n:Nat}(p:Int×Int):Pl (n+1) (pD p):=VX (Cb (Ct _) (Cb (Ct _) Om))
theorem tG (p q:Int×Int):cX 16 (pD p) (pD q)=.ok (.bl (decide (p=q))):=by rw[Oo (oN (n:=15) p) (oN (n:=15) q),Gn]
noncomputable def gI (rs:List Road)(p c:Int×Int)(i:Nat):Bool:=match rs[i]? with
 |some r=>decide (r.a=p.1/\r.b=p.2/\BY r=some c)
 |none=>false
noncomputable def P8 (rs:List Road)(p c:Int×Int):Nat:=((zb6 rs.length).filter (gI rs p c)).headD 0
theorem Y4 {rs:List Road}{p c:Int×Int}(h:∃r∈rs,r.a=p.1/\r.b=p.2/\BY r=some c):∃(r:Road) (t:List Nat),(zb6 rs.length).filter (gI rs p c)=P8 rs p c::t/\rs[P8 rs p c]?=some r/\r.a=p.1/\r.b=p.2/\BY r=some c:=by
 obtain⟨r,hr,h1⟩:=h;obtain⟨i,hi⟩:=List.mem_iff_getElem?.mp hr;have hm:i∈(zb6 rs.length).filter (gI rs p c):=zb2.mpr ⟨zc0.mpr (zai.mp hi).1,by unfold gI;rw[hi];exact decide_eq_true h1⟩;unfold P8;cases q:(zb6 rs.length).filter (gI rs p c) with
 |nil=>rw[q] at hm;cases hm
 |cons n t =>
  have hn:n∈(zb6 rs.length).filter (gI rs p c):=by rw[q];exact za3
  have hb:=(zb2.mp hn).2;unfold gI at hb;cases z:rs[n]? with
  |none=>rw[z] at hb;cases hb
  |some r' =>
   rw[z] at hb;have ax:r'.a=p.1/\r'.b=p.2/\BY r'=some c:=by simpa using hb
   exact⟨r',t,rfl,z,ax⟩
noncomputable def oO (rs:List Road)(A:LA):Nat->Int×Int->List Nat
 |0,_=>[]
 |k+1,p=>match As A p with
  |none=>[]
  |some (c,none)=>[P8 rs p c]
  |some (_,some q)=>oO rs A k (p.1,q)++oO rs A k (q,p.2)
noncomputable def Rv (L:List Int)(p:Int×Int):Nat:=min (BZ L p.1) (BZ L p.2)
inductive Qe (rs:List Road):Int->List Nat->Int->Int->Prop
 |nil (x:Int):Qe rs x [] x 0
 |cons {x y l s:Int} {n:Nat} {N:List Nat} {r:Road}:rs[n]?=some r->r.a=x->r.l=some l->Qe rs r.b N y s->Qe rs x (n::N) y (l+s)
theorem Qe.wG {rs:List Road}{x q y s t:Int}{N M:List Nat}(h:Qe rs x N q s)(k:Qe rs q M y t):Qe rs x (N++M) y (s+t):=by
 induction h with
 |nil x=>simpa using k
 |cons h1 h2 h3 _ ih =>
  have:=Qe.cons h1 h2 h3 (ih k);simpa [zd7] using this
theorem Qe.inv {rs:List Road}{x y s:Int}{n:Nat}{N:List Nat}(h:Qe rs x (n::N) y s):∃r l t,rs[n]?=some r/\r.a=x/\r.l=some l/\Qe rs r.b N y t/\s=l+t:=by
 cases h with
 |cons h1 h2 h3 h4=>exact⟨_,_,_,h1,h2,h3,h4,rfl⟩
section
variable {m:Nat}{rs:List Road}{L:List Int}{A:LA}{K:List (Int×Int)}
theorem J2 (ok:Bc m rs L A K){p c:Int×Int}{mid:Option Int}(h:As A p=some (c,mid)):(p.1∈L/\p.2∈L/\p.1≠p.2)/\(mid=none->∃r∈rs,r.a=p.1/\r.b=p.2/\BY r=some c)/\∀q,mid=some q->BZ L q<Rv L p/\q∈L/\∃a b ma mb,As A (p.1,q)=some (a,ma)/\As A (q,p.2)=some (b,mb)/\c=(a.1+b.1,a.2+b.2):=by
 obtain⟨x,y⟩:=p;have hn:=Gp ok.pm;rw[ok.la] at h;have dn:Ae (Bu rs L) (x,y)=some c:=by unfold Ae;rw[h];rfl
 obtain⟨_,ad,my,fg⟩:=(Lg ok.pm ok.ok).2.snd x y c dn;have hx:=(B8 ok.pm).mpr my;have hy:=(B8 ok.pm).mpr fg;have hf:=Zm (rs:=rs) hn hx hy ad;have h0:∀c p,As (lay0 rs) (x,y)≠some (c,some p):=λ c p h=>by cases (XX rs x y c _ h).1
 have hF:=sT (cd:=λ p=>Av (Ae (Bu rs L) (x,p)) (Ae (Bu rs L) (p,y))) h0 (L.take (min (BZ L x) (BZ L y)));unfold mO at hf;rw[<-hf] at hF;refine⟨⟨hx,hy,ad⟩,λ e=>?_,λ q e=>?_⟩
 ·subst e;exact (XX rs x y c none (hF.AJ c h)).2
 ·subst e;obtain⟨⟨W1,W2,e1,e2,_⟩,_⟩:=hF.mid c q h;have hq:q∈L.take (min (BZ L x) (BZ L y)):=by rw[e1];simp
  obtain⟨q1,q2⟩:=Uu hn hq;obtain⟨a,b,ha,hb,rfl⟩:=Ey e2;have ex:∀ {z:Int×Int} {d:Int×Int},Ae (Bu rs L) z=some d->∃md,As A z=some (d,md):=fun {z d} hd=>by
   rw[ok.la];unfold Ae at hd;cases w:As (Bu rs L) z with
   |none=>rw[w] at hd;cases hd
   |some v=>rw[w] at hd;cases hd;exact⟨v.2,rfl⟩
  obtain⟨ma,h1⟩:=ex ha;obtain⟨mb,h2⟩:=ex hb;exact⟨q2,q1,a,b,ma,mb,h1,h2,rfl⟩
theorem gJ {p:Int×Int}{q:Int}(h:BZ L q<Rv L p):Rv L (p.1,q)=BZ L q/\Rv L (q,p.2)=BZ L q:=by
 unfold Rv at *;dsimp only;omega
theorem Li (ok:Bc m rs L A K):∀(k k':Nat) (p:Int×Int),Rv L p<k->Rv L p<k'->oO rs A k p=oO rs A k' p
 |0,_,_,h,_|_+1,0,_,_,h=>absurd h (Nat.not_lt_zero _)
 |k+1,k'+1,p,h,h'=>by
  unfold oO;cases q:As A p with
  |none=>rfl
  |some z =>
   obtain⟨c,mid⟩:=z;cases mid with
   |none=>rfl
   |some v =>
    obtain⟨_,_,h3⟩:=J2 ok q;obtain⟨hv,_,_⟩:=h3 v rfl;obtain⟨e1,e2⟩:=gJ hv;dsimp only;rw[Li ok k k' (p.1,v) (by omega) (by omega),Li ok k k' (v,p.2) (by omega) (by omega)]
noncomputable def CH (rs:List Road)(L:List Int)(A:LA)(p:Int×Int):List Nat:=oO rs A (Rv L p+1) p
theorem UC (ok:Bc m rs L A K){p c:Int×Int}{v:Int}(h:As A p=some (c,some v)):CH rs L A p=CH rs L A (p.1,v)++CH rs L A (v,p.2):=by
 obtain⟨_,_,h3⟩:=J2 ok h;obtain⟨hv,_,_⟩:=h3 v rfl;obtain⟨e1,e2⟩:=gJ hv
 conv=>lhs;unfold CH oO;rw[h]
 dsimp only;unfold CH;rw[Li ok (Rv L p) (Rv L (p.1,v)+1) (p.1,v) (by omega) (by omega),Li ok (Rv L p) (Rv L (v,p.2)+1) (v,p.2) (by omega) (by omega)]
theorem Rw {p c:Int×Int}(h:As A p=some (c,none)):CH rs L A p=[P8 rs p c]:=by
 unfold CH oO;rw[h]
structure xS (rs:List Road)(L:List Int)(p c:Int×Int)(N:List Nat):Prop where
 ch:Qe rs p.1 N p.2 c.1
 ln:(N.length:Int)=c.2
 ne:1<=N.length
 up:N.length<=2^Rv L p
 lo:∀n∈N.tail,∀r,rs[n]?=some r->BZ L r.a<Rv L p
theorem Ml (ok:Bc m rs L A K):∀(k:Nat){p c:Int×Int}{mid:Option Int},Rv L p=k->As A p=some (c,mid)->xS rs L p c (CH rs L A p):=by
 intro k;induction k using Nat.strongRecOn with
 |ind k ih =>
  intro p c mid hk h;obtain⟨_,h2,h3⟩:=J2 ok h;cases mid with
  |none =>
   rw[Rw h];obtain⟨r,t,_,hr,ha,hb,hc⟩:=Y4 (h2 rfl);obtain⟨l,hl,rfl⟩:=HK hc;refine⟨?_,rfl,zag _,Nat.one_le_two_pow,λ n hn=>by cases hn⟩;have:=Qe.cons hr ha hl (.nil r.b);rw[hb] at this;simpa using this
  |some v =>
   obtain⟨hv,_,a,b,ma,mb,f1,f2,rfl⟩:=h3 v rfl;obtain⟨e1,e2⟩:=gJ hv;have u1:=ih (BZ L v) (by omega) e1 f1;have u2:=ih (BZ L v) (by omega) e2 f2;rw[UC ok h];have p2:2^(BZ L v)+2^(BZ L v)<=2^Rv L p:=by
    have:2^(BZ L v+1)<=2^Rv L p:=Nat.pow_le_pow_right (by decide) (by omega);rw[Nat.pow_succ] at this;omega
   have l1:=u1.up;have l2:=u2.up;rw[e1] at l1;rw[e2] at l2;refine⟨u1.ch.wG u2.ch,?_,?_,?_,λ n hn r hr=>?_⟩
   ·rw[zaj,Int.natCast_add,u1.ln,u2.ln]
   ·rw[zaj];have:=u1.ne;omega
   ·rw[zaj];omega
   ·have n1:=u1.ne;rcases zan.mp (by
     have:(CH rs L A (p.1,v)++CH rs L A (v,p.2)).tail=(CH rs L A (p.1,v)).tail++CH rs L A (v,p.2):=by
      cases q:CH rs L A (p.1,v) with
      |nil=>rw[q] at n1;cases n1
      |cons x xs=>rfl
     rw[this] at hn;exact hn) with hn|hn
    ·have:=u1.lo n hn r hr;omega
    ·cases q:CH rs L A (v,p.2) with
     |nil=>rw[q] at hn;cases hn
     |cons x xs =>
      rw[q] at hn;rcases zaa.mp hn with rfl|hn
      ·have ch:=u2.ch;rw[q] at ch;obtain⟨r',_,_,g1,g2,_⟩:=ch.inv;rw[g1] at hr;cases hr;rw[g2];exact hv
      ·have:=u2.lo n (by rw[q];exact hn) r hr;omega
end
theorem Zr (rs:List Road):GH 0 (rs.map C9)=(zb6 rs.length).map λ i:Nat=>D.tup [.int (i:Int),C9 (rs.getD i ⟨0,0,none,0⟩)]:=by
 apply zd4;intro i;rw[zam];by_cases hi:i<rs.length
 ·obtain⟨e,he⟩:∃e,(GH 0 (rs.map C9))[i]?=some e:=⟨_,za8 (by rw[CQ,za2];exact hi)⟩;obtain⟨d,hd,rfl⟩:=FG he;obtain⟨r,hr,rfl⟩:=Bm hd;rw[he,zc6 hi,zbo,zb7,hr,Nat.zero_add];rfl
 ·rw[zbg (by rw[CQ,za2];omega),zbg (by rw[zci];omega)];rfl
theorem Zs {ρ:Aj}{i:Nat}{xs:List D}{d:D}(h:ρ[i]?=some (some (.own (xs++[d])))):eQ i ρ [] (xs++[d])=.ok (ρ.set i (some (.own xs)),.sh d):=by
 rw[XE h (p:=none) (t:=.lst ((xs++[d]).map .sh)) rfl (d:=d) (by simp)];rw[DR,List.dropLast_concat,toCl_list]
noncomputable def UE (rs:List Road)(L:List Int)(A:LA)(W:List (Int×Int)):List Nat:=W.flatMap (CH rs L A)
noncomputable def oP (rs:List Road)(L:List Int)(A:LA):List (Int×Int)->Nat
 |[]=>0
 |p::W=>2*(CH rs L A p).length-1+oP rs L A W
theorem SN {m:Nat}{rs:List Road}{L:List Int}{A:LA}{K:List (Int×Int)}(ok:Bc m rs L A K):∀ {W:List (Int×Int)},(∀p∈W,(As A p).isSome=true)->W.length<=(UE rs L A W).length
 |[],_=>zag _
 |p::W,h=>by
  obtain⟨z,hz⟩:=zbu.mp (h p za3);have:=(Ml ok _ (c:=z.1) (mid:=z.2) rfl hz).ne;have ih:=SN ok λ q hq=>h q (za4 _ hq);show W.length+1<=(CH rs L A p++UE rs L A W).length;rw[zaj];omega
section
variable {X:Cx}{WX:Str->Hp->Prop}{c:Bool}{a b d:Expr}{f g h:Aj->M D}{pos:Pos}
theorem Zt {op bi:CmpOp}{p q:Int->Int->Bool}(ho:G7 X (compareOp op) (ZN λ i j=>.bl (p i j)))(aH:G7 X (compareOp bi) (ZN λ i j=>.bl (q i j)))(ha:DE X WX c a f)(hb:DE X WX c b g)(hd:DE X WX c d h)
 (hm:lastMarks [op,bi] [b,d]=false:=by with_unfolding_all rfl):DT X WX (.Compare a [op,bi] [b,d] pos) (λ ρ=>((f ρ).bind λ x=>(g ρ).bind λ y=>Bk (λ i j=>if p i j=true then (h ρ).bind λ z=>Bk (λ _ k=>.ok (.bl (q j k))) (.int 0) z else .ok (.bl false)) x y).bind Qn):=by
 obtain⟨ta,a1,a2⟩:=ha;obtain⟨tb,b1,b2⟩:=hb;obtain⟨td,d1,d2⟩:=hd;refine⟨_,bT ho aH a1 b1 d1 hm,λ P0 P σ H Q0 ρ E xx=>?_⟩;unfold bQ;have hh:=nR (K:=X.K) (P:=Lv c P0 P) xx;refine a2 P0 P σ H _ ρ E ?_;cases e:f ρ with
 |bad|ex x=>rw[e] at hh;exact hh
 |ok x =>
  rw[e] at hh;intro v H1 s1 hv;refine b2 P0 P σ H1 _ ρ (E.same s1) ?_;cases e2:g ρ with
  |bad=>rw[e2] at hh;exact hh
  |ex y=>rw[e2] at hh;exact gV.same (m:=.ex y) hh s1
  |ok y =>
   rw[e2] at hh;simp only[M.Ad] at hh;unfold Bk at hh;split at hh
   ·rename_i i j;intro w H2 s2 hw;refine⟨i,j,hv.int_inv,hw.int_inv,p i j,rfl,?_⟩;dsimp only at hh;by_cases hp:p i j=true
    ·rw[if_pos hp] at hh ⊢;refine d2 P0 P σ H2 _ ρ ((E.same s1).same s2) ?_;cases e3:h ρ with
     |bad=>rw[e3] at hh;exact hh
     |ex z=>rw[e3] at hh;exact gV.same (gV.same (m:=.ex z) hh s1) s2
     |ok z =>
      rw[e3] at hh;simp only[M.Ad] at hh;cases z with
      |int k=>exact λ u H3 s3 hu=>⟨j,k,hw.int_inv,hu.int_inv,hh _ H3 ((s1.trans s2).trans s3) (.bl _)⟩
      |_=>exact hh.elim
    ·rw[if_neg hp] at hh ⊢;exact hh _ H2 (s1.trans s2) (.bl _)
   ·exact hh.elim
end
theorem xT {α:Type}(l:List α):YJ [.lst (l.map λ _=>D.bl true)]=.ok (.bl true):=by
 have e:(l.map λ _=>D.bl true)=(l.map λ _=>true).map D.bl:=by rw[zbv];rfl
 rw[e,HM];simp
theorem aat (n:Str)(N:List Str)(d:D)(ds:List D):DQ (n::N) (d::ds)=some (.val d)::DQ N ds:=by
 unfold DQ;rw[za9,za9,Nat.add_sub_add_right];rfl
theorem aau (n:Str)(N:List Str):DQ (n::N) []=none::DQ N []:=rfl
theorem aav:DQ [] []=[]:=rfl
theorem P9 {rs:List Road}{r:Road}{l g:Int}{c:Int×Int}(hr:r∈rs)(hl:r.l=some l)(w:Wk rs r.b g c)(h:BA rs r.a g (some (l+c.1,1+c.2))):BA rs r.b g (some c):=by
 refine⟨λ d hd=>?_,λ p hp=>by cases hp;exact w⟩;have:=h.1 _ (.cons hr hl hd);simp only[BO] at this ⊢;omega
theorem SO {m:Nat}{rs:List Road}(Aw:∀r∈rs,JK m r/\r.a≠r.b){u g:Int}{c:Int×Int}(h:Wk rs u g c)(hu:0<=u/\u<m):BA rs u g (some c)->∃V:List Int,V.Nodup/\(V.length:Int)=c.2+1/\∀v∈V,(0<=v/\v<m)/\∃d,BA rs v g (some d)/\d.2<=c.2:=by
 induction h with
 |nil u=>exact λ hm=>⟨[u],by simp,rfl,λ v hv=>by rw[za7.mp hv];exact⟨hu,_,hm,Int.le_refl _⟩⟩
 | @cons r l g c hr hl w ih =>
  intro hm;have ok:=(Aw r hr).1;obtain⟨V,h1,h2,h3⟩:=ih ⟨ok.b0,ok.b1⟩ (P9 hr hl w hm);refine⟨r.a::V,zbe.mpr ⟨λ z=>?_,h1⟩,by rw[za9];omega,λ v hv=>?_⟩
  ·obtain⟨_,d,hd,aq⟩:=h3 _ z;have:=hd.Cd hm;cases this;omega
  ·rcases zaa.mp hv with rfl|hv
   ·exact⟨hu,_,hm,Int.le_refl _⟩
   ·obtain⟨a,d,hd,aq⟩:=h3 _ hv;exact⟨a,d,hd,by omega⟩
theorem UG {m:Nat}{rs:List Road}(Aw:∀r∈rs,JK m r/\r.a≠r.b){u g:Int}{c:Int×Int}(hu:0<=u/\u<m)(h:BA rs u g (some c)):c.2<m:=by
 obtain⟨V,h1,h2,h3⟩:=SO Aw (h.2 c rfl) hu h;have:=Ez h1 (u:=Bp m) λ v hv=>by
  obtain⟨⟨a,b⟩,_⟩:=h3 v hv;exact zaq.mpr ⟨v.toNat,zc0.mpr (by omega),by omega⟩
 rw[DV] at this;omega
section
variable {m:Nat}{rs:List Road}{L:List Int}{A:LA}{K:List (Int×Int)}
noncomputable def Zu (A:LA)(T:List Co)(p:Int)(q:Int×Int):Bool:=decide (Av (Ae A q) (atC T q.2)=atC T p)
noncomputable def Rx (A:LA)(K:List (Int×Int))(T:List Co)(p:Int):List (Int×Int):=(K.filter λ q=>decide (q.1=p)).filter (Zu A T p)
theorem Zv (ok:Bc m rs L A K){T:List Co}{g p:Int}{cp:Int×Int}(hT:∀w:Int,0<=w->w<m->BA rs w g (atC T w))(hp:0<=p/\p<m)(ad:p≠g)(hc:atC T p=some cp):∃q r,Rx A K T p=q::r:=by
 have hm:=hT p hp.1 hp.2;rw[hc] at hm;have w:=hm.2 cp rfl
 suffices ∃q,q∈Rx A K T p by
  obtain⟨q,hq⟩:=this;cases e:Rx A K T p with
  |nil=>rw[e] at hq;cases hq
  |cons a r=>exact⟨a,r,rfl⟩
 cases w with
 |nil=>exact (ad rfl).elim
 | @cons r l _ c' hr hl w' =>
  have vb:=ok.ok r hr;have hb:=P9 hr hl w' hm;have eb:atC T r.b=some c':=(hT r.b vb.1.b0 vb.1.b1).Cd hb;have e1:BY r=some (l,1):=by unfold BY;rw[hl]
  have hle:=ok.ZQ.road r hr;rw[e1] at hle;obtain⟨d,hd,fc⟩:=OQ hle;have wd:=(ok.ZQ.snd _ _ _ hd).1;have h2:=hm.1 _ (wd.trans w');have ed:d=(l,1):=by
   simp only[BO] at h2;unfold NU at fc;dsimp only at fc;exact Prod.ext (by omega) (by omega)
  subst ed;have aQ:BA rs r.a r.b (some (l,1)):=⟨λ e he=>by
   have:=hm.1 _ (he.trans w');simp only[BO] at this ⊢;omega,λ p hp=>by cases hp;exact wd⟩
  have hK:(r.a,r.b)∈K:=(ok.km _).mpr ⟨_,hd,aQ⟩;refine⟨(r.a,r.b),zb2.mpr ⟨zb2.mpr ⟨hK,by simp⟩,?_⟩⟩;unfold Zu;dsimp only;rw[hc,eb,hd];simp[Av]
structure aaw (m:Nat)(rs:List Road)(A:LA)(T:List Co)(p:Int)(cp:Int×Int)(q ca cq:Int×Int):Prop where
 a:q.1=p
 r:0<=q.2/\q.2<m
 c:Ae A q=some ca
 t:atC T q.2=some cq
 s:cp=(ca.1+cq.1,ca.2+cq.2)
theorem tH (ok:Bc m rs L A K){T:List Co}{p:Int}{cp q:Int×Int}{r:List (Int×Int)}(hc:atC T p=some cp)(h:Rx A K T p=q::r):∃ca cq,aaw m rs A T p cp q ca cq:=by
 have hq:q∈Rx A K T p:=by rw[h];exact za3
 obtain⟨h1,h2⟩:=zb2.mp hq;obtain⟨h3,h4⟩:=zb2.mp h1;have e4:q.1=p:=by simpa using h4
 have e2:Av (Ae A q) (atC T q.2)=some cp:=by
  unfold Zu at h2;rw[hc] at h2;simpa using h2
 obtain⟨a,b,ha,hb,e⟩:=Ey e2;exact⟨a,b,e4,(ok.Yl h3).2.2,ha,hb,e⟩
end
noncomputable def Cw (m:Nat)(rs:List Road)(T:List Co)(i:Nat):List Co:=(zb6 m).map λ p:Nat=>Ep (((rs.take i).filter λ r=>decide (r.a=(p:Int))).map λ r=>Av (BY r) (atC T r.b))
theorem D9 (m:Nat)(rs:List Road)(T:List Co)(i:Nat):(Cw m rs T i).length=m:=by unfold Cw;rw[za2,zci]
theorem Y5 {m:Nat}{rs:List Road}{T:List Co}{i p:Nat}(hp:p<m):atC (Cw m rs T i) (p:Int)=Ep (((rs.take i).filter λ r=>decide (r.a=(p:Int))).map λ r=>Av (BY r) (atC T r.b)):=by
 unfold Cw atC;rw[zbl,zb7,zam,zc6 hp];rfl
theorem Zw (m:Nat)(rs:List Road)(T:List Co):Cw m rs T 0=zak m none:=by
 unfold Cw;rw[List.take_zero];exact zd4 λ j=>by
  rw[zam,zcg];by_cases h:j<m
  ·rw[zc6 h,if_pos h];rfl
  ·rw[zbg (by rw[zci];omega),if_neg h];rfl
theorem Zx (cs:List Co)(c:Co):Ep (cs++[c])=EO (Ep cs) c:=by unfold Ep;rw[List.foldl_append];rfl
theorem nE (a:Co):EO a none=a:=by cases a<;>rfl
theorem Ry {m:Nat}{rs:List Road}{T:List Co}{i:Nat}{r:Road}(hr:rs[i]?=some r)(ok:JK m r):Cw m rs T (i+1)=(Cw m rs T i).set r.a.toNat (EO (atC (Cw m rs T i) r.a) (Av (BY r) (atC T r.b))):=by
 have ha:=ok.a0;have mz:=ok.a1;refine zd4 λ j=>?_;have et:rs.take (i+1)=rs.take i++[r]:=by rw[zc4,hr];rfl
 by_cases h:j<m
 ·by_cases e:r.a.toNat=j
  ·have e2:r.a=(j:Int):=by omega
   rw[e,zb4 (by rw[D9];exact h),e2,Y5 h];unfold Cw;rw[zam,zc6 h,et];simp only[zbo,List.filter_append,zay];rw[List.filter_cons_of_pos (by simpa using e2),List.filter_nil,za5,zcy,Zx]
  ·rw[zbp e];unfold Cw;rw[zam,zam,zc6 h,et];simp only[zbo,List.filter_append];rw[List.filter_cons_of_neg (by simp;omega),List.filter_nil,zb8]
 ·rw[zbg (by rw[D9];omega),zbg (by rw[zbw,D9];omega)]
theorem Zy {m:Nat}{rs:List Road}{T:List Co}{i:Nat}{r:Road}(hr:rs[i]?=some r)(ok:JK m r)(hl:r.l=none):Cw m rs T (i+1)=Cw m rs T i:=by
 have e1:BY r=none:=by unfold BY;rw[hl]
 have e2:Av none (atC T r.b)=none:=by cases atC T r.b<;>rfl
 have ha:=ok.a0;have mz:=ok.a1;rw[Ry hr ok,e1,e2,nE];exact set_same (DL ha (by rw[D9];exact mz))
theorem Zz {m g:Nat}{rs:List Road}{T:List Co}(hg:g<m)(Aw:∀r∈rs,JK m r)(h:∀u:Int,0<=u->u<m->BA rs u g (atC T u)){p:Nat}(hp:p<m):atC ((Cw m rs T rs.length).set g (some (0,0))) (p:Int)=atC T (p:Int):=by
 have hR:=Sw hg Aw h;unfold Wc at hR;have:=zdb.mp hR p (zc0.mpr hp);rw[decide_eq_true_eq] at this;rw[this];have es:=NS (cs:=Cw m rs T rs.length) (i:=(g:Int)) (j:=(p:Int)) (v:=some (0,0)) (by omega) (by omega) (by rw[D9];omega);rw[zbl] at es;rw[es];by_cases e:p=g
 ·rw[if_pos e,if_pos (by omega)]
 ·rw[if_neg e,if_neg (by omega),Y5 hp,zbx];rfl
theorem UH {m g:Nat}{rs:List Road}{T U:List Co}(hT:T.length=m)(hU:U.length=m)(h1:∀w:Int,0<=w->w<m->BA rs w g (atC T w))(h2:∀w:Int,0<=w->w<m->BA rs w g (atC U w)):T=U:=by
 refine zd4 λ j=>?_;by_cases h:j<m
 ·have a:=DL (cs:=T) (i:=(j:Int)) (by omega) (by omega);have b:=DL (cs:=U) (i:=(j:Int)) (by omega) (by omega);rw[zbl] at a b;rw[a,b,(h1 j (by omega) (by omega)).Cd (h2 j (by omega) (by omega))]
 ·rw[zbg (by omega),zbg (by omega)]
noncomputable def Ej (N:List Nat):D:=.lst (N.map λ n:Nat=>D.int (n:Int))
noncomputable def Df (x:Co)(N:List Nat)(T:List Co):D:=match x with | none=>.AJ | some c=>.tup [cst (some c),Ej N,.lst (T.map cst)]
noncomputable def ZA (ts:List OT):Cl:=toCl none (.lst ts)
theorem Mm (ts:List OT):treeOf (ZA ts)=some (none,.lst ts):=U3 _ _
theorem gK (ts:List OT):Ki (ZA ts)=.val (er (.lst ts)):=YT (Mm ts)
theorem Y6 {ts:List OT}{ρ:Aj}:Vm 0 (some (ZA ts)::ρ) []=some (.lst ts):=by
 unfold Vm;simp only[zbb,Mm,U2]
theorem gL {ts:List OT}{ρ:Aj}:Qo 0 (some (ZA ts)::ρ)=.ok []:=by unfold Qo;rw[Y6]
theorem ZC {ts:List OT}{ρ:Aj}:EM 0 (some (ZA ts)::ρ) []=.ok ts:=by unfold EM;rw[Y6]
theorem gM {ts us:List OT}{ρ:Aj}:Ha 0 (some (ZA ts)::ρ) [] (.lst us)=.ok (.next (some (ZA us)::ρ)):=by
 unfold Ha;simp only[zbb,Mm,DR,zah];rfl
noncomputable abbrev LQ:=List Int×LA×List (Int×Int)
noncomputable def Y7 (m:Nat)(rs:List Road)(q:LQ):D:=B9 m rs q.1 q.2.1 q.2.2
end L2
set_option maxHeartbeats 4000000
namespace c9
open PySem L2
noncomputable def top (i:Nat):Stmt:=PySem.Challenge.pw_nodeladder_k44_whole_any_order.main.body.getD i (.Pass ⟨0,0,0,0⟩)
noncomputable abbrev FW:Stmt:=top 7
theorem Lj:Ai ["thing","bound"] ["thing","bound"] (A8 FW):=⟨rfl,rfl,rfl,by decide +kernel,rfl,by decide +kernel,by decide +kernel⟩
noncomputable abbrev Lk:Stmt:=top 8
theorem Qt:Ai ["thing"] ["thing"] (A8 Lk):=⟨rfl,rfl,rfl,by decide +kernel,rfl,by decide +kernel,by decide +kernel⟩
noncomputable abbrev RB:Stmt:=top 9
theorem Wt:Ai ["thing","many"] ["thing","many"] (A8 RB):=⟨rfl,rfl,rfl,by decide +kernel,rfl,by decide +kernel,by decide +kernel⟩
noncomputable abbrev UI:Stmt:=top 10
theorem Mn:Ai ["thing","many","roads"] ["thing"] (A8 UI):=⟨rfl,rfl,rfl,by decide +kernel,rfl,by decide +kernel,by decide +kernel⟩
noncomputable abbrev RC:Stmt:=top 11
theorem Wu:Ai ["thing"] ["thing"] (A8 RC):=⟨rfl,rfl,rfl,by decide +kernel,rfl,by decide +kernel,by decide +kernel⟩
noncomputable abbrev Y8:Stmt:=top 12
theorem gN:Ai ["one","other"] ["one","other"] (A8 Y8):=⟨rfl,rfl,rfl,by decide +kernel,rfl,by decide +kernel,by decide +kernel⟩
noncomputable abbrev Y9:Stmt:=top 13
theorem gO:Ai ["some"] ["some"] (A8 Y9):=⟨rfl,rfl,rfl,by decide +kernel,rfl,by decide +kernel,by decide +kernel⟩
noncomputable abbrev MK:Stmt:=top 14
theorem SQ:Ai ["road"] ["road"] (A8 MK):=⟨rfl,rfl,rfl,by decide +kernel,rfl,by decide +kernel,by decide +kernel⟩
noncomputable abbrev Ll:Stmt:=top 16
theorem Qu:Ai ["ladder"] ["ladder"] (A8 Ll):=⟨rfl,rfl,rfl,by decide +kernel,rfl,by decide +kernel,by decide +kernel⟩
noncomputable abbrev Ek:Stmt:=top 17
theorem HR:Ai ["ladder"] ["ladder"] (A8 Ek):=⟨rfl,rfl,rfl,by decide +kernel,rfl,by decide +kernel,by decide +kernel⟩
noncomputable abbrev RD:Stmt:=top 18
theorem Dz:Ai ["order","costs","place","reached","rank","lower","higher","cost"] ["order","costs","place"] (A8 RD):=⟨rfl,rfl,rfl,by decide +kernel,rfl,by decide +kernel,by decide +kernel⟩
noncomputable abbrev HS:Stmt:=top 19
theorem Nd:Ai ["ladder","start"] ["ladder","start"] (A8 HS):=⟨rfl,rfl,rfl,by decide +kernel,rfl,by decide +kernel,by decide +kernel⟩
noncomputable abbrev Jb:Stmt:=top 20
theorem Pa:Ai ["ladder","goal"] ["ladder","goal"] (A8 Jb):=⟨rfl,rfl,rfl,by decide +kernel,rfl,by decide +kernel,by decide +kernel⟩
noncomputable abbrev HU:Stmt:=top 21
theorem E9:Ai ["ladder","start","goal","ahead","behind"] ["ladder","start","goal"] (A8 HU):=⟨rfl,rfl,rfl,by decide +kernel,rfl,by decide +kernel,by decide +kernel⟩
noncomputable abbrev Yb:Stmt:=top 23
theorem FX:Ai ["order","costs","place","reached","told","higher","lower","over"] ["order","costs","place"] (A8 Yb):=⟨rfl,rfl,rfl,by decide +kernel,rfl,by decide +kernel,by decide +kernel⟩
noncomputable abbrev Pb:Stmt:=top 24
theorem UJ:Ai ["ladder","goal"] ["ladder","goal"] (A8 Pb):=⟨rfl,rfl,rfl,by decide +kernel,rfl,by decide +kernel,by decide +kernel⟩
noncomputable abbrev HV:Stmt:=top 26
theorem Ng:Ai ["ladder","start","goal"] ["ladder","start","goal"] (A8 HV):=⟨rfl,rfl,rfl,by decide +kernel,rfl,by decide +kernel,by decide +kernel⟩
noncomputable abbrev FY:Stmt:=top 27
theorem Fc:Ai ["ladder","prices","place","kept"] ["ladder","prices","place"] (A8 FY):=⟨rfl,rfl,rfl,by decide +kernel,rfl,by decide +kernel,by decide +kernel⟩
noncomputable abbrev GN:Stmt:=top 28
theorem BQ:Ai ["ladder","prices","start","goal","roads","place","arc"] ["ladder","prices","start","goal"] (A8 GN):=⟨rfl,rfl,rfl,by decide +kernel,rfl,by decide +kernel,by decide +kernel⟩
noncomputable abbrev oQ:Stmt:=top 29
theorem Wv:Ai ["ladder","start","goal","cost","prices"] ["ladder","start","goal"] (A8 oQ):=⟨rfl,rfl,rfl,by decide +kernel,rfl,by decide +kernel,by decide +kernel⟩
noncomputable abbrev Jc:Stmt:=top 31
theorem Pc:Ai ["laid","pair"] ["laid","pair"] (A8 Jc):=⟨rfl,rfl,rfl,by decide +kernel,rfl,by decide +kernel,by decide +kernel⟩
noncomputable abbrev oR:Stmt:=top 32
theorem tI:Ai ["laid","pair","cost","middle"] ["laid","pair","cost","middle"] (A8 oR):=⟨rfl,rfl,rfl,by decide +kernel,rfl,by decide +kernel,by decide +kernel⟩
noncomputable abbrev Pd:Stmt:=top 33
theorem Fe:Ai ["laid","place","higher","u","w","cost"] ["laid","place","higher"] (A8 Pd):=⟨rfl,rfl,rfl,by decide +kernel,rfl,by decide +kernel,by decide +kernel⟩
noncomputable abbrev ML:Stmt:=top 34
theorem Dc:Ai ["net","order","laid","road","rank","place"] ["net","order"] (A8 ML):=⟨rfl,rfl,rfl,by decide +kernel,rfl,by decide +kernel,by decide +kernel⟩
noncomputable abbrev Pe:Stmt:=top 36
theorem UK:Ai ["net","thing"] ["net","thing"] (A8 Pe):=⟨rfl,rfl,rfl,by decide +kernel,rfl,by decide +kernel,by decide +kernel⟩
noncomputable abbrev GO:Stmt:=top 37
theorem Mo:Ai ["net","thing"] ["net","thing"] (A8 GO):=⟨rfl,rfl,rfl,by decide +kernel,rfl,by decide +kernel,by decide +kernel⟩
noncomputable abbrev Lm:Stmt:=top 38
theorem Fp:Ai ["net","bows","road"] ["net"] (A8 Lm):=⟨rfl,rfl,rfl,by decide +kernel,rfl,by decide +kernel,by decide +kernel⟩
noncomputable abbrev HW:Stmt:=top 39
theorem C3:Ai ["bows","left","place","ahead","behind","missing","u"] ["bows","left","place"] (A8 HW):=⟨rfl,rfl,rfl,by decide +kernel,rfl,by decide +kernel,by decide +kernel⟩
noncomputable abbrev Pf:Stmt:=top 40
theorem UL:Ai ["bows","left"] ["bows","left"] (A8 Pf):=⟨rfl,rfl,rfl,by decide +kernel,rfl,by decide +kernel,by decide +kernel⟩
noncomputable abbrev UM:Stmt:=top 41
theorem EB:Ai ["net","bows","left","order","place","bow"] ["net"] (A8 UM):=⟨rfl,rfl,rfl,by decide +kernel,rfl,by decide +kernel,by decide +kernel⟩
noncomputable abbrev Ln:Stmt:=top 43
theorem BL:Ai ["net","start","costs","changed","road","cost"] ["net","start"] (A8 Ln):=⟨rfl,rfl,rfl,by decide +kernel,rfl,by decide +kernel,by decide +kernel⟩
noncomputable abbrev Ff:Stmt:=top 45
theorem JM:Ai ["net","order"] ["net","order"] (A8 Ff):=⟨rfl,rfl,rfl,by decide +kernel,rfl,by decide +kernel,by decide +kernel⟩
noncomputable abbrev MM:Stmt:=top 46
theorem Er:Ai ["net","laid","kept","u","costs"] ["net","laid"] (A8 MM):=⟨rfl,rfl,rfl,by decide +kernel,rfl,by decide +kernel,by decide +kernel⟩
noncomputable abbrev Lo:Stmt:=top 47
theorem Jd:Ai ["net","arc","cost","numbers"] ["net","arc","cost"] (A8 Lo):=⟨rfl,rfl,rfl,by decide +kernel,rfl,by decide +kernel,by decide +kernel⟩
noncomputable abbrev AF:Stmt:=inClass (top 48) 0
theorem JN:Ai ["self","net","order"] ["self","net","order"] (A8 AF):=⟨rfl,rfl,rfl,by decide +kernel,rfl,by decide +kernel,by decide +kernel⟩
noncomputable abbrev HX:Stmt:=inClass (top 48) 2
theorem Nh:Ai ["self"] ["self"] (A8 HX):=⟨rfl,rfl,rfl,by decide +kernel,rfl,by decide +kernel,by decide +kernel⟩
noncomputable abbrev DY:Stmt:=inClass (top 48) 4
theorem Di:Ai ["self","u","w","many"] ["self","u","w"] (A8 DY):=⟨rfl,rfl,rfl,by decide +kernel,rfl,by decide +kernel,by decide +kernel⟩
noncomputable abbrev Je:Stmt:=inClass (top 48) 5
theorem Pg:Ai ["self","u","w"] ["self","u","w"] (A8 Je):=⟨rfl,rfl,rfl,by decide +kernel,rfl,by decide +kernel,by decide +kernel⟩
noncomputable abbrev Fg:Stmt:=inClass (top 48) 7
theorem Bv:Ai ["self","u","w","roads","waiting","arc","middle"] ["self","u","w"] (A8 Fg):=⟨rfl,rfl,rfl,by decide +kernel,rfl,by decide +kernel,by decide +kernel⟩
noncomputable abbrev Jf:Stmt:=inClass (top 48) 8
theorem Ph:Ai ["self"] ["self"] (A8 Jf):=⟨rfl,rfl,rfl,by decide +kernel,rfl,by decide +kernel,by decide +kernel⟩
noncomputable abbrev Jg:Stmt:=top 50
theorem Pj:Ai ["_law_script","_law_k"] ["_law_script","_law_k"] (A8 Jg):=⟨rfl,rfl,rfl,by decide +kernel,rfl,by decide +kernel,by decide +kernel⟩
noncomputable abbrev MN:Stmt:=top 51
theorem Gr:Ai ["_law_cell","_law_k","_law_number"] ["_law_cell","_law_k"] (A8 MN):=⟨rfl,rfl,rfl,by decide +kernel,rfl,by decide +kernel,by decide +kernel⟩
noncomputable abbrev Pk:Stmt:=top 52
theorem CY:Ai ["_law_cell","_law_many","_law_k","_law_x","_law_one","_law_other","_law_length"] ["_law_cell","_law_many","_law_k"] (A8 Pk):=⟨rfl,rfl,rfl,by decide +kernel,rfl,by decide +kernel,by decide +kernel⟩
noncomputable abbrev RE:Stmt:=top 53
theorem DB:Ai ["_law_script","_law_places","_law_most","_law_cells","_law_x","_law_many","_law_roads"] ["_law_script","_law_places","_law_most"] (A8 RE):=⟨rfl,rfl,rfl,by decide +kernel,rfl,by decide +kernel,by decide +kernel⟩
noncomputable abbrev MO:Stmt:=top 54
theorem Gs:Ai ["_law_cell","_law_many","_law_k","_law_order_here","_law_place"] ["_law_cell","_law_many","_law_k"] (A8 MO):=⟨rfl,rfl,rfl,by decide +kernel,rfl,by decide +kernel,by decide +kernel⟩
noncomputable abbrev Pm:Stmt:=top 55
theorem UN:Ai ["_law_one","_law_other"] ["_law_one","_law_other"] (A8 Pm):=⟨rfl,rfl,rfl,by decide +kernel,rfl,by decide +kernel,by decide +kernel⟩
noncomputable abbrev MQ:Stmt:=top 56
theorem SR:Ai ["_law_one","_law_other"] ["_law_one","_law_other"] (A8 MQ):=⟨rfl,rfl,rfl,by decide +kernel,rfl,by decide +kernel,by decide +kernel⟩
noncomputable abbrev Pn:Stmt:=top 57
theorem MR:Ai ["_law_found","_law_due","_law_part"] ["_law_found","_law_due"] (A8 Pn):=⟨rfl,rfl,rfl,by decide +kernel,rfl,by decide +kernel,by decide +kernel⟩
noncomputable abbrev Po:Stmt:=top 58
theorem Bq:Ai ["_law_net","_law_start","_law_goal","_law_roads","_law_here","_law_cost_here","_law_road_here","_law_u","_law_w","_law_length","_law_width"] ["_law_net","_law_start","_law_goal","_law_roads"] (A8 Po):=⟨rfl,rfl,rfl,by decide +kernel,rfl,by decide +kernel,by decide +kernel⟩
noncomputable abbrev Lp:Stmt:=top 59
theorem Bd:Ai ["_law_net","_law_goal","_law_prices_here","_law_many","_law_roads","_law_due","_law_u","_law_w","_law_length","_law_width","_law_place"] ["_law_net","_law_goal","_law_prices_here"] (A8 Lp):=⟨rfl,rfl,rfl,by decide +kernel,rfl,by decide +kernel,by decide +kernel⟩
noncomputable abbrev Pp:Stmt:=top 60
theorem UO:Ai ["_law_net"] ["_law_net"] (A8 Pp):=⟨rfl,rfl,rfl,by decide +kernel,rfl,by decide +kernel,by decide +kernel⟩
noncomputable abbrev Jh:Stmt:=top 61
theorem Bw:Ai ["_law_net","_law_start","_law_found","_law_turn","_law_u","_law_w","_law_length","_law_width"] ["_law_net","_law_start"] (A8 Jh):=⟨rfl,rfl,rfl,by decide +kernel,rfl,by decide +kernel,by decide +kernel⟩
noncomputable abbrev Pq:Stmt:=top 62
theorem CZ:Ai ["_law_net","_law_ladders","_law_start","_law_goal","_law_told","_law_costs","_law_found","_law_cost_here","_law_trod"] ["_law_net","_law_ladders","_law_start","_law_goal"] (A8 Pq):=⟨rfl,rfl,rfl,by decide +kernel,rfl,by decide +kernel,by decide +kernel⟩
noncomputable abbrev RF:Stmt:=top 63
theorem Mp:Ai ["_law_script","_law_net","_law_cell","_law_ladders","_law_start","_law_goal"] ["_law_script"] (A8 RF):=⟨rfl,rfl,rfl,by decide +kernel,rfl,by decide +kernel,by decide +kernel⟩
structure Txt (K:za0)(mg:Str->Option Value):Prop where
 Mq:AI K mg "is_whole_below" FW ["thing","bound"]
 SS:AI K mg "is_measure" Lk ["thing"]
 ZD:AI K mg "is_road" RB ["thing","many"]
 gQ:AI K mg "is_map" UI ["thing"]
 ZE:AI K mg "checked" RC ["thing"]
 nF:AI K mg "added" Y8 ["one","other"]
 nG:AI K mg "least" Y9 ["some"]
 UP:AI K mg "road_cost" MK ["road"]
 SU:AI K mg "kept_costs" Ll ["ladder"]
 J5:AI K mg "kept_costs_turned" Ek ["ladder"]
 ZF:AI K mg "climbed" RD ["order","costs","place"]
 Pr:AI K mg "climbed_from" HS ["ladder","start"]
 Qv:AI K mg "climbing_to" Jb ["ladder","goal"]
 Pt:AI K mg "sums_at_tops" HU ["ladder","start","goal"]
 nI:AI K mg "swept" Yb ["order","costs","place"]
 Ww:AI K mg "costs_in" Pb ["ladder","goal"]
 Pu:AI K mg "cost_between" HV ["ladder","start","goal"]
 Mr:AI K mg "arcs_by_prices" FY ["ladder","prices","place"]
 Ni:AI K mg "way_by_prices" GN ["ladder","prices","start","goal"]
 xU:AI K mg "ask" oQ ["ladder","start","goal"]
 Qw:AI K mg "cost_so_far" Jc ["laid","pair"]
 xV:AI K mg "lay" oR ["laid","pair","cost","middle"]
 Wx:AI K mg "lay_over" Pd ["laid","place","higher"]
 UQ:AI K mg "laid_arcs" ML ["net","order"]
 Wy:AI K mg "is_order" Pe ["net","thing"]
 Nj:AI K mg "checked_order" GO ["net","thing"]
 SV:AI K mg "first_bows" Lm ["net"]
 Pw:AI K mg "missing_bows" HW ["bows","left","place"]
 Wz:AI K mg "lightest" Pf ["bows","left"]
 gR:AI K mg "ranked" UM ["net"]
 SW:AI K mg "costs_from" Ln ["net","start"]
 Lq:AI K mg "order_or_ranked" Ff ["net","order"]
 UR:AI K mg "kept_arcs" MM ["net","laid"]
 SX:AI K mg "road_under" Lo ["net","arc","cost"]
 Lu:W9 K mg "Ladder" "Ladder.__init__" AF ["self","net","order"]
 Px:OJ K "Ladder" "order" "Ladder.order" HX ["self"]
 HY:OJ K "Ladder" "checked_arc" "Ladder.checked_arc" DY ["self","u","w"]
 Qx:OJ K "Ladder" "cost" "Ladder.cost" Je ["self","u","w"]
 Lw:OJ K "Ladder" "unpacked" "Ladder.unpacked" Fg ["self","u","w"]
 Qy:OJ K "Ladder" "kept" "Ladder.kept" Jf ["self"]
 Qz:AI K mg "_law_cell_at" Jg ["_law_script","_law_k"]
 US:AI K mg "_law_mixed" MN ["_law_cell","_law_k"]
 WA:AI K mg "_law_road" Pk ["_law_cell","_law_many","_law_k"]
 ZG:AI K mg "_law_map" RE ["_law_script","_law_places","_law_most"]
 UT:AI K mg "_law_order" MO ["_law_cell","_law_many","_law_k"]
 WB:AI K mg "_law_plus" Pm ["_law_one","_law_other"]
 UU:AI K mg "_law_least" MQ ["_law_one","_law_other"]
 WC:AI K mg "_law_cost" Pn ["_law_found","_law_due"]
 WD:AI K mg "_law_walk" Po ["_law_net","_law_start","_law_goal","_law_roads"]
 SY:AI K mg "_law_prices" Lp ["_law_net","_law_goal","_law_prices_here"]
 WE:AI K mg "_law_copy" Pp ["_law_net"]
 QA:AI K mg "_law_reached" Jh ["_law_net","_law_start"]
 WG:AI K mg "_law_pair" Pq ["_law_net","_law_ladders","_law_start","_law_goal"]
 aa0:AI K mg "law" RF ["_law_script"]
 oS:mg "all" = none
 WH:mg "bool" = none
 WI:mg "dict" = none
 Fh:mg "enumerate" = none
 gU:mg "int" = none
 AQ:mg "isinstance" = none
 FZ:mg "len" = none
 ES:mg "list" = none
 gW:mg "min" = none
 Es:mg "range" = none
 WJ:mg "reversed" = none
 gY:mg "sorted" = none
 Lx:mg "tuple" = none
 xW:mg "zip" = none
 ET:Ja K "Ladder" "kept_ones"
 C4:Ja K "Ladder" "laid"
 Bs:Ja K "Ladder" "own_map"
 CI:Ja K "Ladder" "own_order"
local macro_rules | `(tactic| rfl')=>`(tactic| simp only [aat,aau,aav])
local macro_rules | `(‹$t›)=>`(some (Cl.val $t))
local macro_rules | `(!$n:num)=>`(qZ $n (pv $n))
local macro_rules | `(!$h:ident)=>`(huR $h 16 (by decide))
local macro_rules | `(-$h:ident)=>`(($h).mono (by decide))
local macro_rules | `(tactic| simp_arith [$xs,*])=>`(tactic| simp only [wZ,xA,NP,List.set_cons_zero,List.set_cons_succ,M.Ad,IF,IE,Kj,KD,KG,KH,NE,JJ,M9,Rc,Kt,Ku,II,Xo,NA,NC,Kv,kZ,IJ,IK,Gi,Sn,Ds,So,Kw,Kx,IL,Xr,Ks,DR,toCl_list,toCl_listP,toCl_dct,NF,KI,KJ,KL,KN,NG,KO,KQ,KR,tW,tV,Ky,Xs,Kz,Xu,KA,KC,ND,Xv,yL,yM,lC,lD,lE,lF,lG,lH,toCl_nil,Kd,GJ,Qn,Sq,IM,NH,NI,KS,KU,NJ,NK,NL,NM,NO,KW,KY,KZ,L0,IQ,IR,IS,IT,IU,L4,IV,IW,Xw,Xx,Xy,Xz,XA,IX,ite_tt,ite_ff,Bool.not_true,Bool.not_false,List.getElem?_cons_zero,List.getElem?_cons_succ,FQ,HM,Lb,lB,lZ,lA,mD,mE,mF,NT,SG,SH,SI,EA,J1,NW,Sv,mQ,XY,SM,$xs,*])
def FT (nm:Str)(lv n:Nat)(F:List D->M OT):Prop:=∀ {P w K mg base},Txt K mg->FnT P w K mg base nm lv n F
variable {P:Program}{w:World}{K:za0}{mg:Str->Option Value}{base:Heap}
def G0 (F:List D->M OT):Prop:=∀i n:Int,0<=i->i<n->F [.int i,.int n]=.ok (.sh (.bl true))
theorem Dd:∃F,FT "is_whole_below" 1 2 F/\G0 F:=by
 refine⟨_,λ T=>Ay (k:=0) T.Mq Lj _ (λ f B5 A outer s H E hr=>(A7 (Ag (AE (LZ (D7 (Oi _) rfl T.AQ rfl T.gU (by decide +kernel) (!0)) (LZ (rD (D7 (M2 _) rfl T.AQ rfl T.WH (by decide +kernel) (!0))) (Oh (YD nK bP A6 (!0) (!1))))))))),?_⟩;intro i n h0 h1;rfl';refine B7 ?_;have a:=decide_eq_true h0;have b:=decide_eq_true h1;simp_arith[FQ,a,b,Eo];rfl
noncomputable def GP:=za6 Dd
theorem B1:FT "is_whole_below" 1 2 GP:=(za1 Dd).1
theorem B2:G0 GP:=(za1 Dd).2
def Ly (F:List D->M OT):Prop:=∀i:Int,0<=i->i<Rr->F [.int i]=.ok (.sh (.bl true))
theorem Fq:∃F,FT "is_measure" 2 1 F/\Ly F:=by
 refine⟨_,λ T=>Ay (k:=1) T.SS Qt _ (λ f B5 A outer s H E hr=>(A7 (Ag (Ac Aa.toXCall (B1 T) (-hr) rfl (A4 (!0) (A4 (cW A6 A6) A9)) rfl)))),?_⟩;intro i h0 h1;rfl';have h:=B2 i Rr h0 h1;refine B7 ?_;simp_arith[oF,h];rfl
noncomputable def MS:=za6 Fq
theorem Ji:FT "is_measure" 2 1 MS:=(za1 Fq).1
theorem Jj:Ly MS:=(za1 Fq).2
def RG (F:List D->M OT):Prop:=∀(m:Nat) (r:Road),Md m r->F [C9 r,.int m]=.ok (.sh (.bl true))
theorem JO:∃F,FT "is_road" 3 2 F/\RG F:=by
 refine⟨_,λ T=>Ay (k:=2) T.ZD Wt _ (λ f B5 A outer s H E hr=>(A5 (AX (DW.dt (Ce (BC (Be (c:=true) (D7 (Ge _) rfl T.AQ rfl T.Lx (by decide +kernel) (!0)))) (C7 (Eh (c:=true) (!hr) (Dp rfl T.FZ (!0)) A6)))) (A7 (Ag (AE Cq))) Au) (A5 (AX (DW.dt (Ce (BC (Be (c:=true) (An (Ac Aa.toXCall (B1 T) (-hr) rfl (A4 (Ab (!hr) (!0) A6) (A4 (!1) A9)) rfl)))) (C7 (BC (Be (c:=true) (An (Ac Aa.toXCall (B1 T) (-hr) rfl (A4 (Ab (!hr) (!0) A6) (A4 (!1) A9)) rfl))))))) (A7 (Ag (AE Cq))) Au) (A5 (AX (Kb (c:=true) (!hr) (Ab (!hr) (!0) A6) (Ab (!hr) (!0) A6)) (A7 (Ag (AE Cq))) Au) (A7 (Ag (AE (LZ (wB (cZ (Ab (!hr) (!0) A6)) (Oh (An (Ac Aa.toXCall (Ji T) (-hr) rfl (A4 (Ab (!hr) (!0) A6) A9) rfl)))) (Oh (An (Ac Aa.toXCall (Ji T) (-hr) rfl (A4 (Ab (!hr) (!0) A6) A9) rfl))))))))))),?_⟩;intro m r ok;rfl';refine B7 ?_;have i0:AM (C9 r) (.int 0)=.ok (.int r.a):=rfl;have i1:AM (C9 r) (.int 1)=.ok (.int r.b):=rfl;have i2:AM (C9 r) (.int 2)=.ok (D2 r.l):=rfl;have i3:AM (C9 r) (.int 3)=.ok (.int r.w):=rfl;have ha:=B2 r.a m ok.a0 ok.a1;have hb:=B2 r.b m ok.b0 ok.b1;have hw:=Jj r.w ok.w0 ok.w1;apply wp_step
 ·rfl
 apply wp_step
 ·simp_arith[i0,i1,ha,hb,Eo];rfl
 apply wp_step
 ·simp_arith[i0,i1,decide_eq_false ok.ab];rfl
 simp_arith[i2,i3,hw];cases q:r.l with
 |none=>rfl
 |some z =>
  have hl:=Jj z (ok.l0 z q).1 (ok.l0 z q).2;have e:D2 (some z)=.int z:=rfl;simp_arith[e,hl];rfl
noncomputable def UW:=za6 JO
theorem WK:FT "is_road" 3 2 UW:=(za1 JO).1
theorem WL:RG UW:=(za1 JO).2
def UX (F:List D->M OT):Prop:=∀(m:Nat) (rs:List Road),1<=m->m<=16->rs.length<=60->(∀r∈rs,Md m r)->F [Am m rs]=.ok (.sh (.bl true))
theorem Ms:∃F,FT "is_map" 4 1 F/\UX F:=by
 refine⟨_,λ T=>Ay (k:=3) T.gQ Mn _ (λ f B5 A outer s H E hr=>(A5 (AX (DW.dt (Ce (BC (Be (c:=true) (D7 (Ge _) rfl T.AQ rfl T.Lx (by decide +kernel) (!0)))) (C7 (Eh (c:=true) (!hr) (Dp rfl T.FZ (!0)) A6)))) (A7 (Ag (AE Cq))) Au) (A5 (AL 1 Mn.nd rfl (Or.inr rfl) (Ab (!hr) (!0) A6)) (A5 (AL 2 Mn.nd rfl (zaz rfl) (Ab (!hr) (!0) A6)) (A5 (AX (DW.dt (Ce (BC (Be (c:=true) (An (Ac Aa.toXCall (B1 T) (-hr) rfl (A4 (!1) (A4 A6 A9)) rfl)))) (C7 (Kb (c:=true) (!hr) (!1) A6)))) (A7 (Ag (AE Cq))) Au) (A5 (AX (DW.dt (Ce (BC (Be (c:=true) (D7 (IC _) rfl T.AQ rfl T.ES (by decide +kernel) (!2)))) (C7 (wA (c:=true) (Dp rfl T.FZ (!2)) A6)))) (A7 (Ag (AE Cq))) Au) (A7 (Ag (AE (dP rfl rfl T.oS (An (DK (NB:=["road","many"]) [none,some 1] rfl (AW (!2)) rfl rfl (Bt 0 (by decide) rfl rfl rfl) (λ _ _ _ _=>DJ) (λ _ _ _ _=>(An (C8 (Ac (Bn rfl).toXCall (WK T) (-hr) rfl (A4 (!0) (A4 (!1) A9)) rfl)))))))))))))))),?_⟩;intro m rs h1 h2 hl Aw;rfl';refine B7 ?_;have i0:AM (Am m rs) (.int 0)=.ok (.int m):=rfl;have i1:AM (Am m rs) (.int 1)=.ok (.lst (rs.map C9)):=rfl;have hn:=B2 m 17 (by omega) (by omega);have hm:decide ((m:Int)=0)=false:=decide_eq_false (by omega);have bg:decide ((60:Int)<((rs.map C9).length:Int))=false:=decide_eq_false (by rw[za2];omega);have aq:(rs.map C9).length<=1000:=by rw[za2];omega
 apply wp_step
 ·rfl
 apply wp_step
 ·simp_arith[i0];rfl
 apply wp_step
 ·simp_arith[i1];rfl
 apply wp_step
 ·simp_arith[hn,hm,Eo];rfl
 apply wp_step
 ·simp_arith[bg,Eo];rfl
 simp_arith[if_pos aq];rw[BK (λ _:Road=>D.bl true) (λ r hr=>⟨_,rfl,rfl,by
  have:=WL m r (Aw r hr);simp_arith[this]⟩)]
 simp_arith[xT];rfl
noncomputable def Yc:=za6 Ms
theorem ZH:FT "is_map" 4 1 Yc:=(za1 Ms).1
theorem ZI:UX Yc:=(za1 Ms).2
def RH (F:List D->M OT):Prop:=∀(m:Nat) (rs:List Road),1<=m->m<=16->rs.length<=60->(∀r∈rs,Md m r)->F [Am m rs]=.ok (.tup [.sh (.int m),.lst ((rs.map C9).map .sh)])
theorem JP:∃F,FT "checked" 5 1 F/\RH F:=by
 refine⟨_,λ T=>Ay (k:=4) T.ZE Wu _ (λ f B5 A outer s H E hr=>(A5 (AX (BC (Be (c:=true) (An (Ac Aa.toXCall (ZH T) (-hr) rfl (A4 (!0) A9) rfl)))) (A7 VW) Au) (A7 (Ag (Sg (BN (AE (Ab (!hr) (!0) A6)) (BN (DK (NB:=["road"]) [none] rfl (AW (Ab (!hr) (!0) A6)) rfl rfl (Bt 0 (by decide) rfl rfl rfl) (λ _ _ _ _=>DJ) (λ _ _ _ _=>(dC rfl T.Lx (!0)))) BX))))))),?_⟩;intro m rs h1 h2 hl Aw;rfl';have h1:=ZI m rs h1 h2 hl Aw;have n0:AM (Am m rs) (.int 0)=.ok (.int m):=rfl;have n1:AM (Am m rs) (.int 1)=.ok (.lst (rs.map C9)):=rfl;have aq:(rs.map C9).length<=1000:=by rw[za2];omega
 refine B7 ?_;apply wp_step
 ·simp_arith[h1,Eo];rfl
 simp_arith[n0,n1,if_pos aq];rw[BK C9 (λ r hr=>⟨_,rfl,rfl,rfl⟩)];simp_arith[];exact⟨_,rfl,rfl⟩
noncomputable def UY:=za6 JP
theorem WM:FT "checked" 5 1 UY:=(za1 JP).1
theorem WN:RH UY:=(za1 JP).2
def Yd (F:List D->M OT):Prop:=∀a b:Co,F [cst a,cst b]=.ok (.sh (cst (Av a b)))
theorem Py:∃F,FT "added" 1 2 F/\Yd F:=by
 refine⟨_,λ T=>Ay (k:=0) T.nF gN _ (λ f B5 A outer s H E hr=>(A5 (AX (DW.dt (Ce (Dn (c:=true) (!0)) (C7 (Dn (c:=true) (!1))))) (A7 (Ag (AE C5))) Au) (A7 (Ag (AE (AK (A4 (BW (Ab (!hr) (!0) A6) (Ab (!hr) (!1) A6)) (A4 (BW (Ab (!hr) (!0) A6) (Ab (!hr) (!1) A6)) A9)))))))),?_⟩;intro a b;dsimp only;rcases a with _|⟨a1,a2⟩<;>rcases b with _|⟨b1,b2⟩<;>rfl
noncomputable def gZ:=za6 Py
theorem G1:FT "added" 1 2 gZ:=(za1 Py).1
theorem G2:Yd gZ:=(za1 Py).2
def Ye (F:List D->M OT):Prop:=∀cs:List Co,cs.length<=1000->F [.lst (cs.map cst)]=.ok (.sh (cst (Ep cs)))
theorem Pz:∃F,FT "least" 1 1 F/\Ye F:=by
 refine⟨_,λ T=>Ay (k:=0) T.nG gO _ (λ f B5 A outer s H E hr=>(A7 (Ag (AE (jX rfl (huR hr 1 (by decide)) rfl T.gW (An (DK (NB:=["cost"]) [none] rfl (AW (!0)) rfl rfl (Bt 0 (by decide) rfl rfl rfl) (λ _ _ _ _=>En (IB (c:=true) (!0))) (λ _ _ _ _=>(!0)))) C5))))),?_⟩;intro cs hc;dsimp only;have e0:∀x:D,DQ ["some"] [x]=[‹x›]:=λ x=>rfl;rw[e0];refine B7 ?_;have hl:(cs.map cst).length<=1000:=by rw[za2];exact hc
 have dn:=fD cs;have xy:=lV cs;simp_arith[if_pos hl];rw[MI];simp_arith[xy];rfl
noncomputable def PB:=za6 Pz
theorem Lz:FT "least" 1 1 PB:=(za1 Pz).1
theorem LB:Ye PB:=(za1 Pz).2
def MT (F:List D->M OT):Prop:=∀r:Road,F [C9 r]=.ok (.sh (cst (BY r)))
theorem Gu:∃F,FT "road_cost" 1 1 F/\MT F:=by
 refine⟨_,λ T=>Ay (k:=0) T.UP SQ _ (λ f B5 A outer s H E hr=>(A5 (AX (Dn (c:=true) (Ab (!hr) (!0) A6)) (A7 (Ag (AE C5))) Au) (A7 (Ag (AE (AK (A4 (Ab (!hr) (!0) A6) (A4 A6 A9)))))))),?_⟩;intro r;dsimp only;obtain⟨a,b,l,w⟩:=r;cases l<;>rfl
noncomputable def PD:=za6 Gu
theorem Et:FT "road_cost" 1 1 PD:=(za1 Gu).1
theorem Eu:MT PD:=(za1 Gu).2
def DZ (F:List D->M OT):Prop:=∀(m:Nat) (rs:List Road) (L:List Int) (A:LA) (K:List (Int×Int)) (u w:Int),0<=u->u<m->0<=w->w<m->(As A (u,w)).isSome=true->F [B9 m rs L A K,.int u,.int w]=.ok (.sh (pD (u,w)))
theorem Ca:∃F:List D->M OT,(∀ {P w K mg base},Txt K mg->HJ P w K mg base "Ladder" "checked_arc" 2 3 F)/\DZ F:=by
 refine⟨_,λ T=>L6 (k:=1) T.HY Di _ (λ f B5 A outer s H E hr=>(A5 (AL 3 Di.nd rfl (zaz rfl) (Ab (!hr) (Dt ["Ladder"] (Bf T.Bs BG) (!0)) A6)) (A5 (AX (DW.dt (Ce (BC (Be (c:=true) (An (Ac Aa.toXCall (B1 T) (-hr) rfl (A4 (!1) (A4 (!3) A9)) rfl)))) (Ce (BC (Be (c:=true) (An (Ac Aa.toXCall (B1 T) (-hr) rfl (A4 (!2) (A4 (!3) A9)) rfl)))) (C7 (Kl (c:=true) (!hr) (AK (A4 (!1) (A4 (!2) A9))) (Dt ["Ladder"] (Bf T.C4 BG) (!0))))))) (A7 VW) Au) (A7 (Ag (AE (AK (A4 (!1) (A4 (!2) A9))))))))),?_⟩;intro m rs L A K u w u0 u1 w0 w1 hf;rfl';refine B7 ?_;have f1:Na ["Ladder"] "own_map" (B9 m rs L A K)=.ok (Am m rs):=rfl;have f2:Na ["Ladder"] "laid" (B9 m rs L A K)=.ok (Qq A):=rfl;have n0:AM (Am m rs) (.int 0)=.ok (.int m):=rfl;have h1:=B2 u m u0 u1;have h2:=B2 w m w0 w1;have hp:D.tup [.int u,.int w]=pD (u,w):=rfl;have hm:=SJ A (u,w) true;rw[hf] at hm;apply wp_step
 ·simp_arith[f1,n0];rfl
 apply wp_step
 ·simp_arith[h1,h2,f2,hp,hm,Eo];rfl
 rfl
noncomputable def AN:=za6 Ca
theorem Dj:Txt K mg->HJ P w K mg base "Ladder" "checked_arc" 2 3 AN:=(za1 Ca).1
theorem Dk:DZ AN:=(za1 Ca).2
def Jk (F:List D->M OT):Prop:=∀(m:Nat) (rs:List Road) (L:List Int) (A:LA) (K:List (Int×Int)) (u w:Int) (c:Int×Int),Hb m A->Ae A (u,w)=some c->F [B9 m rs L A K,.int u,.int w]=.ok (.sh (cst (some c)))
theorem EU:∃F:List D->M OT,(∀ {P w K mg base},Txt K mg->HJ P w K mg base "Ladder" "cost" 3 3 F)/\Jk F:=by
 refine⟨_,λ T=>L6 (k:=2) T.Qx Pg _ (λ f B5 A outer s H E hr=>(A7 (Ag (AE (Ab (!hr) (Ab (!hr) (Dt ["Ladder"] (Bf T.C4 BG) (!0)) (An (IY (k:=2) [("Ladder",AN)] Aa.toXCall (C2 (by decide) (Dj T) CD) (-hr) (!0) (A4 (!1) (A4 (!2) A9)) rfl))) A6))))),?_⟩;intro m rs L A K u w c hA hc;rfl';refine B7 ?_;have f2:Na ["Ladder"] "laid" (B9 m rs L A K)=.ok (Qq A):=rfl;have hk:=hA.rg _ (EQ hc);obtain⟨v,hv⟩:∃v,As A (u,w)=some (c,v):=by
  unfold Ae at hc;cases q:As A (u,w) with
  |none=>rw[q] at hc;cases hc
  |some z=>rw[q] at hc;obtain⟨z1,z2⟩:=z;cases hc;exact⟨z2,rfl⟩
 have h1:=Dk m rs L A K u w hk.2.1.1 hk.2.1.2 hk.2.2.1 hk.2.2.2 (by rw[hv];rfl);have hi:=OU hv;have h0:AM (Wf (c,v)) (.int 0)=.ok (cst (some c)):=rfl;have hs:FK [("Ladder",AN)] "checked_arc" (B9 m rs L A K)=.ok AN:=rfl;simp_arith[f2,hs,h1,hi,h0];rfl
noncomputable def B3:=za6 EU
theorem EV:Txt K mg->HJ P w K mg base "Ladder" "cost" 3 3 B3:=(za1 EU).1
theorem EW:Jk B3:=(za1 EU).2
def Jl (F:List D->M OT):Prop:=∀(m:Nat) (rs:List Road) (L:List Int) (A:LA) (K:List (Int×Int)),F [B9 m rs L A K]=.ok (.lst ((K.map pD).map .sh))
theorem EX:∃F:List D->M OT,(∀ {P w K mg base},Txt K mg->HJ P w K mg base "Ladder" "kept" 1 1 F)/\Jl F:=by
 refine⟨_,λ T=>L6 (k:=0) T.Qy Ph _ (λ f B5 A outer s H E hr=>(A7 (Ag (Nv rfl T.ES (Dt ["Ladder"] (Bf T.ET BG) (!0)))))),?_⟩;intro m rs L A K;dsimp only;rfl
noncomputable def B4:=za6 EX
theorem EY:Txt K mg->HJ P w K mg base "Ladder" "kept" 1 1 B4:=(za1 EX).1
theorem EZ:Jl B4:=(za1 EX).2
def LC (F:List D->M OT):Prop:=∀(m:Nat) (rs:List Road) (L:List Int) (A:LA) (K:List (Int×Int)),Bc m rs L A K->F [B9 m rs L A K]=.ok (yS (Hc A K))
theorem Fs:∃F,FT "kept_costs" 4 1 F/\LC F:=by
 refine⟨_,λ T=>Ay (k:=3) T.SU Qu _ (λ f B5 A outer s H E hr=>(A7 (Ag (Ui rfl (!hr) rfl T.WI (An (DK (NB:=["u","w","ladder"]) [none,none,some 0] rfl (AW (An (FL (k:=1) [("Ladder",B4)] Aa.toXCall (C2 (by decide) (EY T) CD) (-hr) (!0)))) rfl rfl (Nz (n:=2) rfl (CV 0 (by decide) rfl rfl rfl (CV 1 (by decide) rfl rfl rfl Kq))) (λ _ _ _ _=>DJ) (λ _ _ _ _=>(AK (A4 (AK (A4 (!0) (A4 (!1) A9))) (A4 (An (C8 (IY (k:=3) [("Ladder",B3)] (Bn rfl).toXCall (C2 (by decide) (EV T) CD) (-hr) (!2) (A4 (!0) (A4 (!1) A9)) rfl))) A9)))))))))),?_⟩;intro m rs L A K ok;rfl';refine B7 ?_;have hs:FK [("Ladder",B4)] "kept" (B9 m rs L A K)=.ok B4:=rfl;have a4:FK [("Ladder",B3)] "cost" (B9 m rs L A K)=.ok B3:=rfl;have hk:=EZ m rs L A K;have hl:(K.map pD).length<=1000:=by rw[za2];have:=ok.kl;omega
 have hn:((Hc A K).map zb0).Nodup:=by rw[OV];exact ok.kn
 have hd:=fS (C:=Hc A K) hn (by simp only[Hc,za2];have:=ok.kl;omega);simp_arith[hs,hk,if_pos hl];rw[BK (λ p=>D.tup [pD p,cst (some ((Ae A p).getD (0,0)))]) (λ p hp=>⟨_,rfl,rfl,by
  obtain⟨c,hc,_⟩:=(ok.km p).mp hp;have h1:=EW m rs L A K p.1 p.2 c ok.xI hc;simp_arith[a4,h1];rw[hc];rfl⟩)]
 have e1:(K.map λ p=>D.tup [pD p,cst (some ((Ae A p).getD (0,0)))])=(Hc A K).map λ kv=>D.tup [pD kv.1,cst (some kv.2)]:=by
  simp only[Qr,Hc,zbv];rfl
 rw[e1];simp_arith[hd];exact⟨_,rfl,rfl⟩
noncomputable def MU:=za6 Fs
theorem QB:FT "kept_costs" 4 1 MU:=(za1 Fs).1
theorem QC:LC MU:=(za1 Fs).2
def El (F:List D->M OT):Prop:=∀(m:Nat) (rs:List Road) (L:List Int) (A:LA) (K:List (Int×Int)),Bc m rs L A K->F [B9 m rs L A K]=.ok (yS (Qr (Hc A K)))
theorem Cm:∃F,FT "kept_costs_turned" 4 1 F/\El F:=by
 refine⟨_,λ T=>Ay (k:=3) T.J5 HR _ (λ f B5 A outer s H E hr=>(A7 (Ag (Ui rfl (!hr) rfl T.WI (An (DK (NB:=["u","w","ladder"]) [none,none,some 0] rfl (AW (An (FL (k:=1) [("Ladder",B4)] Aa.toXCall (C2 (by decide) (EY T) CD) (-hr) (!0)))) rfl rfl (Nz (n:=2) rfl (CV 0 (by decide) rfl rfl rfl (CV 1 (by decide) rfl rfl rfl Kq))) (λ _ _ _ _=>DJ) (λ _ _ _ _=>(AK (A4 (AK (A4 (!1) (A4 (!0) A9))) (A4 (An (C8 (IY (k:=3) [("Ladder",B3)] (Bn rfl).toXCall (C2 (by decide) (EV T) CD) (-hr) (!2) (A4 (!0) (A4 (!1) A9)) rfl))) A9)))))))))),?_⟩;intro m rs L A K ok;rfl';refine B7 ?_;have hs:FK [("Ladder",B4)] "kept" (B9 m rs L A K)=.ok B4:=rfl;have a4:FK [("Ladder",B3)] "cost" (B9 m rs L A K)=.ok B3:=rfl;have hk:=EZ m rs L A K;have hl:(K.map pD).length<=1000:=by rw[za2];have:=ok.kl;omega
 have hn:((Hc A K).map zb0).Nodup:=by rw[OV];exact ok.kn
 have hd:=fS (C:=Qr (Hc A K)) (Zl hn) (by unfold Qr;simp only[Hc,za2];have:=ok.kl;omega);simp_arith[hs,hk,if_pos hl];rw[BK (λ p=>D.tup [pD (p.2,p.1),cst (some ((Ae A p).getD (0,0)))]) (λ p hp=>⟨_,rfl,rfl,by
  obtain⟨c,hc,_⟩:=(ok.km p).mp hp;have h1:=EW m rs L A K p.1 p.2 c ok.xI hc;simp_arith[a4,h1];rw[hc];rfl⟩)]
 have e1:(K.map λ p=>D.tup [pD (p.2,p.1),cst (some ((Ae A p).getD (0,0)))])=(Qr (Hc A K)).map λ kv=>D.tup [pD kv.1,cst (some kv.2)]:=by
  simp only[Qr,Hc,zbv];rfl
 rw[e1];simp_arith[hd];exact⟨_,rfl,rfl⟩
noncomputable def F0:=za6 Cm
theorem E5:FT "kept_costs_turned" 4 1 F0:=(za1 Cm).1
theorem E6:El F0:=(za1 Cm).2
def RI (F:List D->M OT):Prop:=∀(m:Nat) (L:List Int) (C:CA) (s:Int),m<=20->L.Perm (Bp m)->s∈L->(∀p c,As C p=some c->p.1∈L/\p.2∈L)->∃R:RA,F [.lst (L.map D.int),Tb C,.int s]=.ok (Wj R)/\Qd L C s L.length R
theorem JQ:∃F,FT "climbed" 2 3 F/\RI F:=by
 refine⟨_,λ T=>Ay (k:=1) T.ZF Dz _ (λ f B5 A outer s H E hr=>(A5 (By 3 Dz.nd rfl (zaz rfl) (eX (!2) (AK (A4 A6 (A4 A6 A9))))) (A5 (BD Aa.toXCall.own rfl (Nr rfl T.Fh (!0)) (JC (n:=2) rfl (AZ (Ax 4 Dz.nd rfl (zaz rfl)) (AZ (Ax 5 Dz.nd rfl (zaz rfl)) Gf))) (A7 (AX (Hx (JI (c:=true) (!hr) (!5) (!3))) (A7 (BD Aa.toXCall.own rfl (AW (An (OE (!0) (Nq (BW (!4) A6)) Xg))) (Ax 6 Dz.nd rfl (zaz rfl)) (A7 (AX (JI (c:=true) (!hr) (AK (A4 (!5) (A4 (!6) A9))) (!1)) (A5 (AL 7 Dz.nd rfl (zaz rfl) (An (EJ (Ac Aa.toXCall (G1 T) (-hr) rfl (A4 (Ab (!hr) (!3) (!5)) (A4 (Ab (!hr) (!1) (AK (A4 (!5) (A4 (!6) A9)))) A9)) rfl)))) (A7 (Ny (!hr) (Bz 3 (pv 3)) (!6) (An (EJ (Ac Aa.toXCall (Lz T) (-hr) rfl (A4 (Hm (A4 (OM (!hr) (!3) (!6)) (A4 (!7) A9))) A9) rfl)))))) Au)))) Au))) (A7 (CC 3 (pv 3)))))),?_⟩;intro m L C s hm hL hs hC;have hn:=Gp hL;have hlen:=FR hL;rfl';refine (λ h:∃t,_/\∃R:RA,t=Wj R/\Qd L C s L.length R=>by
  obtain⟨t,h1,R,rfl,h2⟩:=h;exact⟨R,h1,h2⟩) (HG ?_)
 refine wp_step (ρ':=[‹.lst (L.map D.int)›,‹Tb C›,‹.int s›,some (.ow (.tree none (Wj [(s,(0,0))]))),none,none,none,none]) (by rfl) ?_;refine BI (I:=λ ρ=>∃(R:RA) (s4 s5 s6 s7:Option Cl),ρ=[‹.lst (L.map D.int)›,‹Tb C›,‹.int s›,some (.ow (.tree none (Wj R))),s4,s5,s6,s7]/\Qd L C s L.length R) ?_ ?_
 ·simp_arith[];refine BE (λ i ρ=>i<=L.length/\∃(R:RA) (s4 s5 s6 s7:Option Cl),ρ=[‹.lst (L.map D.int)›,‹Tb C›,‹.int s›,some (.ow (.tree none (Wj R))),s4,s5,s6,s7]/\Qd L C s i R) ⟨zbc _,_,none,none,none,none,rfl,Qd.start hs⟩ ?_ ?_
  ·rintro i d ρ hd ⟨hi,R,s4,s5,s6,s7,rfl,hR⟩;obtain⟨d',aM,rfl⟩:=FG hd;obtain⟨x,hx,rfl⟩:=Bm aM;have af:=(zai.mp hx).1;rw[Nat.zero_add];refine⟨_,rfl,?_⟩;have dr:=fP R x false;have rf:=OX hn hx;cases q:As R x with
   |none =>
    rw[q] at dr;refine Bb (ρ':=_) (by simp_arith[dr];rfl) ⟨af,R,_,_,_,_,rfl,hR.skip hx hn q⟩
   |some c0 =>
    rw[q] at dr;have sl:kS (some ((i:Int)+1)) none (.lst (L.map D.int))=.ok (.lst (((L.drop (i+1)).map D.int).map .sh)):=by rw[List.map_drop];exact Ub _ (i+1)
    simp_arith[dr,sl,if_true,Option.isSome_some,zat,if_false];refine BE (λ j ρ=>j<=(L.drop (i+1)).length/\∃(R':RA) (s6 s7:Option Cl),ρ=[‹.lst (L.map D.int)›,‹Tb C›,‹.int s›,some (.ow (.tree none (Wj R'))),‹.int i›,‹.int x›,s6,s7]/\oJ L C s i x c0 ((L.drop (i+1)).take j) R R') ⟨zbc _,R,s6,s7,rfl,hR.nd,hR.rg,hR.sd,λ y=>Ci _,λ y _=>rfl,λ y hy=>by rw[List.take_zero] at hy;cases hy⟩ ?_ ?_
    ·rintro j d ρ hd ⟨hj,R',s6,s7,rfl,hI⟩;obtain⟨y,hy,rfl⟩:=Bm hd;have j5:=(zai.mp hy).1;have mn:=zao hy;have xz:y∈L:=List.mem_of_mem_drop mn;have fg:i<BZ L y:=XT hn mn;have et:(L.drop (i+1)).take (j+1)=(L.drop (i+1)).take j++[y]:=by rw[zc4,hy];rfl
     refine⟨_,rfl,?_⟩;rw[et];have t1:∀a b:Int,D.tup [.int a,.int b]=pD (a,b):=λ a b=>rfl;have m6:=sL C (x,y) false;cases q2:As C (x,y) with
     |none =>
      rw[q2] at m6;refine Bb (ρ':=_) (by simp_arith[t1,m6];rfl) ⟨j5,R',_,_,rfl,hI.skip q2⟩
     |some dd =>
      rw[q2] at m6;have aA:As R' x=some c0:=by rw[hI.sm x (by omega)];exact q
      have i1:=Wl aA;have i2:=sM q2;have h1:=G2 (some c0) (some dd);have g1:=fQ R' y;obtain⟨v,hv⟩:∃v,EO (As R' y) (some (c0.1+dd.1,c0.2+dd.2))=some v:=by
       cases As R' y with
       |none|some z=>exact⟨_,rfl⟩
      have h2:PB [.lst [cst (As R' y),cst (some (c0.1+dd.1,c0.2+dd.2))]]=.ok (.sh (cst (EO (As R' y) (some (c0.1+dd.1,c0.2+dd.2))))):=LB [As R' y,some (c0.1+dd.1,c0.2+dd.2)] (by simp);rw[hv] at h2;have az:=hI.put xz fg rf q q2 hv;have hl:(R'.map λ kv=>D.int kv.1).length<1000:=by
       have:=Ez hI.nd hI.rg;rw[za2] at this ⊢;omega
      have ik:∀z:Int,keyOk false (.int z)=true:=λ z=>rfl;have ha:Av (some c0) (some dd)=some (c0.1+dd.1,c0.2+dd.2):=rfl;rw[ha] at h1;simp_arith[t1,m6,if_true,Option.isSome_some,zat,if_false];apply wp_step
      ·simp_arith[t1,i1,i2,h1];rfl
      refine Bb (ρ':=[‹.lst (L.map D.int)›,‹Tb C›,‹.int s›,some (.ow (.tree none (Wj (Dx R' y v)))),‹.int i›,‹.int x›,‹.int y›,‹cst (some (c0.1+dd.1,c0.2+dd.2))›]) (by
       simp_arith[g1,h2,ik,hl,and_self,if_true,sO];rfl) ⟨j5,_,_,_,rfl,az⟩
    ·rintro ρ ⟨_,R',s6,s7,rfl,hI⟩;rw[za2,zbx] at hI;exact⟨af,R',_,_,s6,s7,rfl,hR.go (λ p c h=>(hC p c h).2) hx hn q hI⟩
  ·rintro ρ ⟨_,R,s4,s5,s6,s7,rfl,hR⟩;rw[CQ,za2] at hR;exact⟨R,s4,s5,s6,s7,rfl,hR⟩
 ·rintro ρ ⟨R,s4,s5,s6,s7,rfl,hR⟩;exact⟨_,rfl,R,rfl,hR⟩
noncomputable def UZ:=za6 JQ
theorem JR:FT "climbed" 2 3 UZ:=(za1 JQ).1
theorem JS:RI UZ:=(za1 JQ).2
def HZ (F:List D->M OT):Prop:=∀(m:Nat) (rs:List Road) (L:List Int) (A:LA) (K:List (Int×Int)),F [B9 m rs L A K]=.ok (.lst ((L.map D.int).map .sh))
theorem Ea:∃F:List D->M OT,(∀ {P w K mg base},Txt K mg->HJ P w K mg base "Ladder" "order" 1 1 F)/\HZ F:=by
 refine⟨_,λ T=>L6 (k:=0) T.Px Nh _ (λ f B5 A outer s H E hr=>(A7 (Ag (Nv rfl T.ES (Dt ["Ladder"] (Bf T.CI BG) (!0)))))),?_⟩;intro m rs L A K;dsimp only;rfl
noncomputable def AY:=za6 Ea
theorem Eb:Txt K mg->HJ P w K mg base "Ladder" "order" 1 1 AY:=(za1 Ea).1
theorem Ec:HZ AY:=(za1 Ea).2
def I9 (F:List D->M OT):Prop:=∀(m:Nat) (rs:List Road) (L:List Int) (A:LA) (K:List (Int×Int)) (s:Nat),Bc m rs L A K->s<m->∃R:RA,F [B9 m rs L A K,.int s]=.ok (Wj R)/\Qd L (Hc A K) s L.length R
theorem Ed:∃F,FT "climbed_from" 5 2 F/\I9 F:=by
 refine⟨_,λ T=>Ay (k:=4) T.Pr Nd _ (λ f B5 A outer s H E hr=>(A7 (Ag (Ac Aa.toXCall (JR T) (-hr) rfl (A4 (An (FL (k:=1) [("Ladder",AY)] Aa.toXCall (C2 (by decide) (Eb T) CD) (-hr) (!0))) (A4 (An (Ac Aa.toXCall (QB T) (-hr) rfl (A4 (!0) A9) rfl)) (A4 (!1) A9))) rfl)))),?_⟩;intro m rs L A K s ok hs;have hm:=ok.m2;rfl';have h1:=QC m rs L A K ok;have h2:=Ec m rs L A K;have cr:FK [("Ladder",AY)] "order" (B9 m rs L A K)=.ok AY:=rfl;have j6:(s:Int)∈L:=(B8 ok.pm).mpr ⟨by omega,by omega⟩;obtain⟨R,hF,hR⟩:=JS m L (Hc A K) s (by omega) ok.pm j6 ok.tD;refine⟨R,B7 ?_,hR⟩;simp_arith[cr,h2,h1,hF];exact⟨_,rfl,rfl⟩
noncomputable def Ft:=za6 Ed
theorem Nk:FT "climbed_from" 5 2 Ft:=(za1 Ed).1
theorem Nl:I9 Ft:=(za1 Ed).2
def Jm (F:List D->M OT):Prop:=∀(m:Nat) (rs:List Road) (L:List Int) (A:LA) (K:List (Int×Int)) (s:Nat),Bc m rs L A K->s<m->∃R:RA,F [B9 m rs L A K,.int s]=.ok (Wj R)/\Qd L (Qr (Hc A K)) s L.length R
theorem F1:∃F,FT "climbing_to" 5 2 F/\Jm F:=by
 refine⟨_,λ T=>Ay (k:=4) T.Qv Pa _ (λ f B5 A outer s H E hr=>(A7 (Ag (Ac Aa.toXCall (JR T) (-hr) rfl (A4 (An (FL (k:=1) [("Ladder",AY)] Aa.toXCall (C2 (by decide) (Eb T) CD) (-hr) (!0))) (A4 (An (Ac Aa.toXCall (E5 T) (-hr) rfl (A4 (!0) A9) rfl)) (A4 (!1) A9))) rfl)))),?_⟩;intro m rs L A K s ok hs;have hm:=ok.m2;rfl';have h1:=E6 m rs L A K ok;have h2:=Ec m rs L A K;have cr:FK [("Ladder",AY)] "order" (B9 m rs L A K)=.ok AY:=rfl;have j6:(s:Int)∈L:=(B8 ok.pm).mpr ⟨by omega,by omega⟩;obtain⟨R,hF,hR⟩:=JS m L (Qr (Hc A K)) s (by omega) ok.pm j6 ok.xR;refine⟨R,B7 ?_,hR⟩;simp_arith[cr,h2,h1,hF];exact⟨_,rfl,rfl⟩
noncomputable def Gv:=za6 F1
theorem PF:FT "climbing_to" 5 2 Gv:=(za1 F1).1
theorem PH:Jm Gv:=(za1 F1).2
def Ia (F:List D->M OT):Prop:=∀(m:Nat) (rs:List Road) (L:List Int) (A:LA) (K:List (Int×Int)) (s g:Nat) (R1 R2:RA),Bc m rs L A K->(Ft) [B9 m rs L A K,.int s]=.ok (Wj R1)->(Gv) [B9 m rs L A K,.int g]=.ok (Wj R2)->(R1.map zb0).Nodup->R1.length<=900->F [B9 m rs L A K,.int s,.int g]=.ok (Wj (Cz R1 R2))
theorem Ee:∃F,FT "sums_at_tops" 6 3 F/\Ia F:=by
 refine⟨_,λ T=>Ay (k:=5) T.Pt E9 _ (λ f B5 A outer s H E hr=>(A5 (AL 3 E9.nd rfl (Or.inr rfl) (An (Ac Aa.toXCall (Nk T) (-hr) rfl (A4 (!0) (A4 (!1) A9)) rfl))) (A5 (AL 4 E9.nd rfl (Or.inr rfl) (An (Ac Aa.toXCall (PF T) (-hr) rfl (A4 (!0) (A4 (!2) A9)) rfl))) (A7 (Ag (gF rfl rfl T.WI (An (gC (NB:=["place","ahead","behind"]) [none,some 3,some 4] rfl (mU (!3)) rfl rfl (Bt 0 (by decide) rfl rfl rfl) (λ _ _ _ _=>En (JI (c:=true) (!hr) (!0) (!2))) (λ _ _ _ _=>(AK (A4 (!0) (A4 (An (C8 (Ac (Bn rfl).toXCall (G1 T) (-hr) rfl (A4 (Ab (!hr) (!1) (!0)) (A4 (Ab (!hr) (!2) (!0)) A9)) rfl))) A9)))))))))))),?_⟩;intro m rs L A K s g R1 R2 ok j7 r9 hn hl;rfl';refine B7 ?_;apply wp_step
 ·simp_arith[j7];rfl
 try simp only[zah,zae]
 apply wp_step
 ·simp_arith[r9];rfl
 try simp only[zah,zae]
 have aq:(R1.map λ kv=>D.int kv.1).length<=1000:=by rw[za2];omega
 simp_arith[mY,if_pos aq];rw[BJ (λ kv:Int×(Int×Int)=>(As R2 kv.1).isSome) (λ kv=>D.tup [.int kv.1,cst (Av (some kv.2) (As R2 kv.1))]) (λ kv j3=>⟨_,rfl,by
  have h1:=fP R2 kv.1 false;simp_arith[h1];try rfl,λ hp=>by
  have f1:As R1 kv.1=some kv.2:=SA hn j3;obtain⟨c,hc⟩:=zbu.mp hp;have i1:=Wl f1;have i2:=Wl hc;have j8:=G2 (some kv.2) (some c);rw[hc];simp_arith[i1,i2,j8];try rfl⟩)]
 rw[Ru];have hd:=tF (C:=Cz R1 R2) ((Dy R2 R1).nodup hn) (by
  have:=(Dy R2 R1).length_le;rw[za2,za2] at this;omega)
 simp_arith[hd];exact⟨_,rfl,rfl⟩
noncomputable def Jn:=za6 Ee
theorem Nm:FT "sums_at_tops" 6 3 Jn:=(za1 Ee).1
theorem Nn:Ia Jn:=(za1 Ee).2
def Yg (F:List D->M OT):Prop:=∀(m:Nat) (L:List Int) (C:CA) (s:Int),m<=20->L.Perm (Bp m)->s∈L->(∀p c,As C p=some c->p.1∈L/\p.2∈L)->∃(R:RA) (T:List Co),F [.lst (L.map D.int),Tb C,.int s]=.ok (.lst ((T.map cst).map .sh))/\Qd L C s L.length R/\iG m L C s R L.reverse T
theorem PJ:∃F,FT "swept" 3 3 F/\Yg F:=by
 refine⟨_,λ T=>Ay (k:=2) T.nI FX _ (λ f B5 A outer s H E hr=>(A5 (AL 3 FX.nd rfl (zaz rfl) (An (Ac Aa.toXCall (JR T) (-hr) rfl (A4 (!0) (A4 (!1) (A4 (!2) A9))) rfl))) (A5 (By 4 FX.nd rfl (Or.inr rfl) (W7 C5 (Dp rfl T.FZ (!0)))) (A5 (By 5 FX.nd rfl (zaz rfl) (EI BX)) (A5 (BD Aa.toXCall.own rfl (rY rfl T.WJ (!0)) (Ax 6 FX.nd rfl (Or.inr rfl)) (A5 (dY (NB:=["high","told","costs","lower"]) 7 [none,some 4,some 1,some 6] FX.nd rfl (zaz rfl) rfl (AW (!5)) rfl rfl (Bt 0 (by decide) rfl rfl rfl) (λ _ _ _ _=>DJ) (λ _ _ _ _=>(An (C8 (Ac (Bn rfl).toXCall (G1 T) (-hr) rfl (A4 (Ab (!hr) (!1) (!0)) (A4 (OM (!hr) (!2) (AK (A4 (!0) (A4 (!3) A9)))) A9)) rfl))))) (A5 (Oq 4 (pv 4) (An (EJ (Ac Aa.toXCall (Lz T) (-hr) rfl (A4 (An (Xn (Hm (A4 (OM (!hr) (!3) (!6)) A9)) (!7))) A9) rfl))) (!6)) (A7 (FF 5 (pv 5) (!6)))))) (A7 (CC 4 (pv 4)))))))),?_⟩;intro m L C s hm hL hs hC;have hn:=Gp hL;have hlen:=FR hL;obtain⟨R,hF,hR⟩:=JS m L C s hm hL hs hC;rfl';refine (λ h:∃t,_/\∃T:List Co,t=.lst ((T.map cst).map .sh)/\iG m L C s R L.reverse T=>by
  obtain⟨t,h1,T,rfl,h2⟩:=h;exact⟨R,T,h1,hR,h2⟩) (HG ?_)
 have m7:((L.map D.int).length:Int)=(m:Int):=by rw[za2,hlen]
 have bd:=OH (d:=.AJ) (n:=m) (by omega);have cu:zak m D.AJ=(zak m (none:Co)).map cst:=by rw[List.map_replicate];rfl
 rw[cu] at bd;apply wp_step
 ·simp_arith[hF];rfl
 try simp only[zah,zae]
 apply wp_step
 ·simp_arith[m7,bd];rfl
 try simp only[zah,zae]
 apply wp_step
 ·rfl
 try simp only[zah,zae]
 refine BI (I:=λ ρ=>∃(T:List Co) (s5 s6 s7:Option Cl),ρ=[‹.lst (L.map D.int)›,‹Tb C›,‹.int s›,‹Zk R›,some (.own (T.map cst)),s5,s6,s7]/\iG m L C s R L.reverse T) ?_ ?_
 ·have g9:(L.map D.int).reverse=L.reverse.map D.int:=by rw[List.map_reverse]
  simp_arith[g9];refine BE (λ i ρ=>i<=L.reverse.length/\∃(T:List Co) (s6 s7:Option Cl),ρ=[‹.lst (L.map D.int)›,‹Tb C›,‹.int s›,‹Zk R›,some (.own (T.map cst)),some (.own ((L.reverse.take i).map D.int)),s6,s7]/\iG m L C s R (L.reverse.take i) T) ⟨zbc _,_,none,none,rfl,iG.start⟩ ?_ ?_
  ·rintro i d ρ hd ⟨hi,T,s6,s7,rfl,hT⟩;obtain⟨y,hy,rfl⟩:=Bm hd;have af:=(zai.mp hy).1;have fg:=(B8 hL).mp (List.mem_reverse.mp (zao hy));have et:L.reverse.take (i+1)=L.reverse.take i++[y]:=by rw[zc4,hy];rfl
   rw[zbn] at af;have x3:L[L.length-1-i]?=some y:=by rw[List.getElem?_reverse af] at hy;exact hy
   have hrk:=OX hn x3;have se:∀x∈L.reverse.take i,(0<=x/\x<m)/\BZ L y<BZ L x:=λ x hx=>by
    have x4:=List.mem_reverse.mp (zcd hx);refine⟨(B8 hL).mp x4,?_⟩;rw[List.take_reverse,List.mem_reverse] at hx;have:=XT hn hx;omega
   have rm:y∉L.reverse.take i:=λ hx=>by have:=(se y hx).2;omega
   have c8:=hT.len;refine⟨_,rfl,?_⟩;have bg:((L.reverse.take i).map D.int).length<=1000:=by rw[za2,zby,zbn];omega
   have t1:∀a b:Int,D.tup [.int a,.int b]=pD (a,b):=λ a b=>rfl;have g1:=fQ R y;obtain⟨vs,a7⟩:∃vs:List Co,vs=(L.reverse.take i).map λ x=>Av (atC T x) (As C (x,y)):=⟨_,rfl⟩;apply wp_step
   ·simp_arith[if_pos bg];rw[BK (λ x=>cst (Av (atC T x) (As C (x,y)))) (λ x hx=>⟨_,rfl,rfl,by
     have my:=(se x hx).1;have x1:AM (.lst (T.map cst)) (.int x)=.ok (cst (atC T x)):=Cj my.1 (by rw[c8];exact my.2);have g2:=sN C (x,y);have h1:=G2 (atC T x) (As C (x,y));simp_arith[t1,x1,g2,h1]⟩)]
    have ev:(L.reverse.take i).map (λ x=>cst (Av (atC T x) (As C (x,y))))=vs.map cst:=by rw[a7,zbv];rfl
    rw[ev];have dv:=fV vs;simp_arith[dv];rfl
   try simp only[zah,zae]
   have hpl:R8 (.lst [cst (As R y)]) (.lst (vs.map cst))=.ok (.lst (((As R y::vs).map cst).map .sh)):=XQ (by rw[a7,za2,za2,zby,zbn,zbf];omega);have h3:=LB (As R y::vs) (by rw[a7,za9,za2,zby,zbn];omega);have az:=Lc (i:=4) (ρ:=[‹.lst (L.map D.int)›,‹Tb C›,‹.int s›,‹Zk R›,some (.own (T.map cst)),some (.own ((L.reverse.take i).map D.int)),‹.int y›,some (.own (vs.map cst))]) (d:=cst (Ep (As R y::vs))) (p:=y) rfl fg.1 (by rw[za2,c8];exact fg.2);have aR:(T.map cst).set y.toNat (cst (Ep (As R y::vs)))=(T.set y.toNat (Ep (As R y::vs))).map cst:=by rw[List.map_set]
   rw[aR] at az;apply wp_step
   ·simp_arith[g1,hpl,h3,az];rfl
   try simp only[zah,zae]
   have x5:((L.reverse.take i).map D.int).length<1000:=by rw[za2,zby,zbn];omega
   refine Bb (ρ':=[‹.lst (L.map D.int)›,‹Tb C›,‹.int s›,‹Zk R›,some (.own ((T.set y.toNat (Ep (As R y::vs))).map cst)),some (.own ((L.reverse.take (i+1)).map D.int)),‹.int y›,some (.own (vs.map cst))]) (by simp_arith[if_pos x5,et,zay,za5,zcy]) ⟨by rw[zbn];exact af,_,_,_,rfl,?_⟩;rw[et,a7];exact hT.step hR.sd fg.1 fg.2 rm se
  ·rintro ρ ⟨_,T,s6,s7,rfl,hT⟩;rw[za2,zbx] at hT;exact⟨T,_,s6,s7,rfl,hT⟩
 ·rintro ρ ⟨T,s5,s6,s7,rfl,hT⟩;exact⟨_,rfl,T,rfl,hT⟩
noncomputable def hV:=za6 PJ
theorem hX:FT "swept" 3 3 hV:=(za1 PJ).1
theorem hZ:Yg hV:=(za1 PJ).2
def LD (F:List D->M OT):Prop:=∀(m s:Nat) (rs:List Road),s<m->m<=900->(∀r∈rs,JK m r)->∃cs:List Co,Right m s rs cs/\F [Am m rs,.int s]=.ok (.lst ((cs.map cst).map .sh))
theorem Fu:∃F,FT "costs_from" 2 2 F/\LD F:=by
 refine⟨_,λ T=>Ay (k:=1) T.SW BL _ (λ f B5 A outer s H E hr=>(A5 (By 2 BL.nd rfl (zaz rfl) (W7 C5 (Ab (!hr) (!0) A6))) (A5 (Oq 2 (pv 2) (AK (A4 A6 (A4 A6 A9))) (!1)) (A5 (AL 3 BL.nd rfl (zaz rfl) Cq) (A5 (Ke Aa.toXCall.own (Be (c:=true) (!3)) (A5 (AL 3 BL.nd rfl (zaz rfl) Cq) (A7 (BD Aa.toXCall.own rfl (AW (Ab (!hr) (!0) A6)) (Ax 4 BL.nd rfl (zaz rfl)) (A5 (AL 5 BL.nd rfl (zaz rfl) (An (EJ (Ac Aa.toXCall (Lz T) (-hr) rfl (A4 (Hm (A4 (Ab (!hr) (!2) (Ab (!hr) (!4) A6)) (A4 (An (Ac Aa.toXCall (G1 T) (-hr) rfl (A4 (Ab (!hr) (!2) (Ab (!hr) (!4) A6)) (A4 (An (Ac Aa.toXCall (Et T) (-hr) rfl (A4 (!4) A9) rfl)) A9)) rfl)) A9))) A9) rfl)))) (A7 (AX (Hx (Eh (c:=true) (!hr) (!5) (Ab (!hr) (!2) (Ab (!hr) (!4) A6)))) (A5 (Oq 2 (pv 2) (!5) (Ab (!hr) (!4) A6)) (A7 (AL 3 BL.nd rfl (zaz rfl) Cq))) Au))))))) (A7 (CC 2 (pv 2)))))))),?_⟩;intro m s rs hs hm Aw;rfl';refine (λ h:∃t,_/\∃cs:List Co,Right m s rs cs/\t=.lst ((cs.map cst).map .sh)=>by
  obtain⟨t,h1,cs,h2,rfl⟩:=h;exact⟨cs,h2,h1⟩) (HG ?_)
 have n0:AM (Am m rs) (.int 0)=.ok (.int m):=rfl;have n1:AM (Am m rs) (.int 1)=.ok (.lst (rs.map C9)):=rfl;have bd:=OH (d:=.AJ) (n:=m) (by omega);have cu:zak m D.AJ=(zak m (none:Co)).map cst:=by rw[List.map_replicate];rfl
 rw[cu] at bd;apply wp_step
 ·simp_arith[n0,bd];rfl
 try simp only[zah,zae]
 have az:=Lc (i:=2) (ρ:=[‹Am m rs›,‹.int s›,some (.own ((zak m (none:Co)).map cst)),none,none,none]) (d:=.tup [.int 0,.int 0]) (p:=(s:Int)) rfl (by omega) (by rw[za2,List.length_replicate];omega);have aR:((zak m (none:Co)).map cst).set (s:Int).toNat (.tup [.int 0,.int 0])=((zak m none).set s (some (0,0))).map cst:=by rw[zbl,List.map_set];rfl
 rw[aR] at az;apply wp_step
 ·simp_arith[az];rfl
 try simp only[zah,zae]
 apply wp_step
 ·rfl
 try simp only[zah,zae]
 refine BI (I:=λ ρ=>∃(cs:List Co) (s3 s4 s5:Option Cl),ρ=[‹Am m rs›,‹.int s›,some (.own (cs.map cst)),s3,s4,s5]/\Right m s rs cs) ?_ ?_
 ·refine Kr (lt:=Rcb) (λ z ρ=>∃(s4 s5:Option Cl),ρ=[‹Am m rs›,‹.int s›,some (.own (z.1.map cst)),‹.bl z.2›,s4,s5]/\Good m s rs z.1/\(z.2=false->Right m s rs z.1)) (sQ _) ⟨none,none,rfl,Wa rs hs,λ e=>by cases e⟩ ?_;rintro ⟨cs,b⟩ ρ ⟨s4,s5,rfl,g,hR⟩;cases b with
  |false=>exact .inl ⟨rfl,cs,_,s4,s5,rfl,hR rfl⟩
  |true =>
   refine .inr ⟨rfl,?_⟩;apply wp_step
   ·rfl
   try simp only[zah,zae]
   simp_arith[n1];refine BE (λ i ρ=>∃(ap:List Co) (ch:Bool) (s4 s5:Option Cl),ρ=[‹Am m rs›,‹.int s›,some (.own (ap.map cst)),‹.bl ch›,s4,s5]/\Good m s rs ap/\(ch=true->Qb ltN ap cs)/\(ch=false->ap=cs/\∀r∈rs.take i,EO (atC cs r.b) (Av (atC cs r.a) (BY r))=atC cs r.b)) ⟨cs,false,s4,s5,rfl,g,(λ h=>by cases h),λ _=>⟨rfl,λ r hr=>by rw[List.take_zero] at hr;cases hr⟩⟩ ?_ ?_
   ·rintro i d ρ hd ⟨ap,ch,s4,s5,rfl,g1,h1,h2⟩;obtain⟨r,hq,rfl⟩:=Bm hd;have hr:=zao hq;have ok:=Aw r hr;obtain⟨g2,_,g4,g5⟩:=Z7 g1 hr Aw;have ij:r.b<ap.length:=by rw[g1.len];exact ok.b1
    have mz:r.a<ap.length:=by rw[g1.len];exact ok.a1
    have r0:AM (C9 r) (.int 0)=.ok (.int r.a):=rfl;have r1:AM (C9 r) (.int 1)=.ok (.int r.b):=rfl;have x0:AM (.lst (ap.map cst)) (.int r.a)=.ok (cst (atC ap r.a)):=Cj ok.a0 mz;have x1:AM (.lst (ap.map cst)) (.int r.b)=.ok (cst (atC ap r.b)):=Cj ok.b0 ij;have sf:=Eu r;have j8:=G2 (atC ap r.a) (BY r);have hle:PB [.lst [cst (atC ap r.b),cst (Av (atC ap r.a) (BY r))]]=.ok (.sh (cst (EO (atC ap r.b) (Av (atC ap r.a) (BY r))))):=LB [atC ap r.b,Av (atC ap r.a) (BY r)] (by simp);have ad:=lY (EO (atC ap r.b) (Av (atC ap r.a) (BY r))) (atC ap r.b);refine⟨_,rfl,?_⟩;apply wp_step
    ·simp_arith[r0,r1,x0,x1,sf,j8,hle];rfl
    try simp only[zah,zae]
    by_cases hc:EO (atC ap r.b) (Av (atC ap r.a) (BY r))=atC ap r.b
    ·rw[decide_eq_true hc] at ad;refine Bb (ρ':=_) (by simp_arith[r1,x1,ad];rfl) ⟨ap,ch,_,_,rfl,g1,h1,λ hf=>?_⟩;obtain⟨e1,e2⟩:=h2 hf;subst e1;refine⟨rfl,λ r' bF=>?_⟩;rw[zc4,hq] at bF;rcases zan.mp bF with bF|bF
     ·exact e2 r' bF
     ·have:r'=r:=by simpa using bF
      rw[this];exact hc
    ·rw[decide_eq_false hc] at ad;have az:=Lc (i:=2) (ρ:=[‹Am m rs›,‹.int s›,some (.own (ap.map cst)),‹.bl ch›,‹C9 r›,‹cst (EO (atC ap r.b) (Av (atC ap r.a) (BY r)))›]) (d:=cst (EO (atC ap r.b) (Av (atC ap r.a) (BY r)))) (p:=r.b) rfl ok.b0 (by rw[za2];exact ij);have aR:(ap.map cst).set r.b.toNat (cst (EO (atC ap r.b) (Av (atC ap r.a) (BY r))))=(Dw r ap).map cst:=by unfold Dw;rw[List.map_set]
     rw[aR] at az;simp_arith[r1,x1,ad,if_true];apply wp_step
     ·simp_arith[r1,az];rfl
     refine Bb (ρ':=_) rfl ⟨Dw r ap,true,_,_,rfl,g2,λ _=>?_,λ hf=>by cases hf⟩;cases ch with
     |false=>obtain⟨e1,_⟩:=h2 rfl;subst e1;exact g5 hc
     |true=>exact Qb.trans ltN Z5 (g5 hc) (h1 rfl)
   ·rintro ρ' ⟨ap,ch,s4,s5,rfl,g1,h1,h2⟩;cases ch with
    |true=>exact⟨(ap,true),⟨rfl,.inr ⟨rfl,h1 rfl⟩⟩,s4,s5,rfl,g1,λ e=>by cases e⟩
    |false =>
     obtain⟨e1,e2⟩:=h2 rfl;subst e1;rw[za2,zbx] at e2;exact⟨(ap,false),⟨rfl,.inl rfl⟩,s4,s5,rfl,g1,λ _=>right_of g1 e2⟩
 ·rintro ρ' ⟨cs,s3,s4,s5,rfl,hR⟩;exact⟨_,rfl,cs,hR,rfl⟩
noncomputable def MV:=za6 Fu
theorem QD:FT "costs_from" 2 2 MV:=(za1 Fu).1
theorem Jo:LD MV:=(za1 Fu).2
def PL (F:List D->M OT):Prop:=∀(m:Nat) (rs:List Road) (L:List Int) (A:LA) (K:List (Int×Int)) (s:Nat),Bc m rs L A K->s<m->∃T:List Co,F [B9 m rs L A K,.int s]=.ok (.lst ((T.map cst).map .sh))/\T.length=m/\∀w:Int,0<=w->w<m->BA rs w s (atC T w)
theorem Ib:∃F,FT "costs_in" 5 2 F/\PL F:=by
 refine⟨_,λ T=>Ay (k:=4) T.Ww UJ _ (λ f B5 A outer s H E hr=>(A7 (Ag (Ac Aa.toXCall (hX T) (-hr) rfl (A4 (An (FL (k:=1) [("Ladder",AY)] Aa.toXCall (C2 (by decide) (Eb T) CD) (-hr) (!0))) (A4 (An (Ac Aa.toXCall (E5 T) (-hr) rfl (A4 (!0) A9) rfl)) (A4 (!1) A9))) rfl)))),?_⟩;intro m rs L A K s ok hs;have hm:=ok.m2;rfl';have h1:=E6 m rs L A K ok;have h2:=Ec m rs L A K;have cr:FK [("Ladder",AY)] "order" (B9 m rs L A K)=.ok AY:=rfl;have j6:(s:Int)∈L:=(B8 ok.pm).mpr ⟨by omega,by omega⟩;have du:∀p c,As (Hc A K) p=some c->p.1∈L/\p.2∈L:=λ p c h=>by
  have hm:=OS h;unfold Hc at hm;obtain⟨q,hq,e⟩:=zaq.mp hm;cases e;have:=ok.Yl hq;exact⟨(B8 ok.pm).mpr this.2.1,(B8 ok.pm).mpr this.2.2⟩
 have hC:∀p c,As (Qr (Hc A K)) p=some c->p.1∈L/\p.2∈L:=λ p c h=>by
  rw[show p=(p.1,p.2) from rfl,Lh] at h;have:=du _ _ h;exact⟨this.2,this.1⟩
 obtain⟨R,T,hF,hR,hT⟩:=hZ m L (Qr (Hc A K)) s (by omega) ok.pm j6 hC;refine⟨T,B7 ?_,hT.len,λ w h0 h1=>?_⟩
 ·simp_arith[cr,h2,h1,hF];exact⟨_,rfl,rfl⟩
 ·have hU:=hR.upC (m:=m) hC;have aF:∀x:Int,0<=x->x<m->x∈L.reverse:=λ x a b=>List.mem_reverse.mpr ((B8 ok.pm).mpr ⟨a,b⟩);obtain⟨T',vc⟩:∃T':Int->Co,T'=λ x:Int=>if 0<=x/\x<(m:Int) then atC T x else none:=⟨_,rfl⟩
  have j9:∀x:Int,0<=x->x<m->T' x=atC T x:=λ x a b=>by rw[vc];exact if_pos ⟨a,b⟩
  have hS:yR (BZ L) (λ x y=>As (Qr (Hc A K)) (x,y)) s (As R) T' m:=⟨λ x a b=>by rw[j9 x a b];exact hT.top x (aF x a b),λ x y a b c d hr=>by rw[j9 x a b,j9 y c d];exact hT.cl x (aF x a b) y (aF y c d) hr,λ x c hx=>by
   have ar:0<=x/\x<m:=by
    refine zd2 λ hn=>?_;rw[vc] at hx;dsimp only at hx;rw[if_neg hn] at hx;cases hx
   rw[j9 x ar.1 ar.2] at hx;exact hT.sd x c ar.1 ar.2 hx⟩
  have x6:(λ x y=>As (Qr (Hc A K)) (x,y))=λ x y=>As (Hc A K) (y,x):=by funext x y;exact Lh x y _
  rw[x6] at hU hS;obtain⟨cs,x8,_⟩:=Jo m w.toNat rs (by omega) (by omega) (λ r hr=>(ok.ok r hr).1);have aQ:=x8.oC (λ r hr=>(ok.ok r hr).1) (w:=(s:Int)) (by omega) (by omega);have ew:((w.toNat:Nat):Int)=w:=by omega
  rw[ew] at aQ;have q:=(Zg (s:=(s:Int)) (w:=w) ok.ZQ.turn ok.kept.turn ⟨by omega,by omega⟩ hU hS aQ.turn).turn;rw[FU,j9 w h0 h1] at q;exact q
noncomputable def RJ:=za6 Ib
theorem V0:FT "costs_in" 5 2 RJ:=(za1 Ib).1
theorem V1:PL RJ:=(za1 Ib).2
def Ic (F:List D->M OT):Prop:=∀(m:Nat) (rs:List Road) (L:List Int) (A:LA) (K:List (Int×Int)) (s g:Nat) (x:Co),Bc m rs L A K->s<m->g<m->BA rs s g x->F [B9 m rs L A K,.int s,.int g]=.ok (.sh (cst x))
theorem Ef:∃F,FT "cost_between" 7 3 F/\Ic F:=by
 refine⟨_,λ T=>Ay (k:=6) T.Pu Ng _ (λ f B5 A outer s H E hr=>(A7 (Ag (Ac Aa.toXCall (Lz T) (-hr) rfl (A4 (An (Uy rfl rfl T.ES (An (Ac Aa.toXCall (Nm T) (-hr) rfl (A4 (!0) (A4 (!1) (A4 (!2) A9))) rfl)))) A9) rfl)))),?_⟩;intro m rs L A K s g x ok hs hg hx;dsimp only;have hm:=ok.m2;obtain⟨R1,j7,sg⟩:=Nl m rs L A K s ok hs;obtain⟨R2,r9,x9⟩:=PH m rs L A K g ok hg;have hRl:R1.length<=m:=by have:=sg.len;rw[FR ok.pm] at this;exact this
 have hS:=Nn m rs L A K s g R1 R2 ok j7 r9 sg.nd (by omega);have aQ:=gH ok (s:=(s:Int)) (g:=(g:Int)) ⟨by omega,by omega⟩ ⟨by omega,by omega⟩ sg x9 hx;have hl:(Cz R1 R2).length<=900:=by
  have:=(Dy R2 R1).length_le;rw[za2,za2] at this;omega
 obtain⟨S,xL⟩:∃S,S=Cz R1 R2:=⟨_,rfl⟩;rw[<-xL] at hS hl aQ;rw[<-aQ];rfl';refine B7 ?_;have hle:=LB (S.map λ kv=>some kv.2) (by rw[za2];omega);rw[zbv] at hle;have so:PB [.lst (S.map λ kv=>cst (some kv.2))]=.ok (.sh (cst (Ep (S.map λ kv=>some kv.2)))):=hle;simp_arith[hS,mZ,so];rfl
noncomputable def Fv:=za6 Ef
theorem GQ:FT "cost_between" 7 3 Fv:=(za1 Ef).1
theorem GR:Ic Fv:=(za1 Ef).2
def G3 (F:List D->M OT):Prop:=∀(m:Nat) (rs:List Road) (L:List Int) (A:LA) (K:List (Int×Int)) (T:List Co) (p:Int),Bc m rs L A K->T.length=m->0<=p->p<m->F [B9 m rs L A K,.lst (T.map cst),.int p]=.ok (.lst (((Rx A K T p).map pD).map .sh))
theorem De:∃F,FT "arcs_by_prices" 4 3 F/\G3 F:=by
 refine⟨_,λ T=>Ay (k:=3) T.Mr Fc _ (λ f B5 A outer s H E hr=>(A5 (Gg (NB:=["arc","place"]) 3 [none,some 2] Fc.nd rfl (zaz rfl) rfl (AW (An (FL (k:=1) [("Ladder",B4)] Aa.toXCall (C2 (by decide) (EY T) CD) (-hr) (!0)))) rfl rfl (Bt 0 (by decide) rfl rfl rfl) (λ _ _ _ _=>En (Kb (c:=true) (!hr) (Ab (!hr) (!0) A6) (!1))) (λ _ _ _ _=>(!0))) (A7 (Ag (DK (NB:=["arc","prices","place","ladder"]) [none,some 1,some 2,some 0] rfl (AW (!3)) rfl rfl (Bt 0 (by decide) rfl rfl rfl) (λ _ _ _ _=>En (Kb (c:=true) (!hr) (An (C8 (Ac (Bn rfl).toXCall (G1 T) (-hr) rfl (A4 (An (IY (k:=3) [("Ladder",B3)] (Bn rfl).toXCall (C2 (by decide) (EV T) CD) (-hr) (!3) (A4 (!2) (A4 (Ab (!hr) (!0) A6) A9)) rfl)) (A4 (Ab (!hr) (!1) (Ab (!hr) (!0) A6)) A9)) rfl))) (Ab (!hr) (!1) (!2)))) (λ _ _ _ _=>(!0))))))),?_⟩;intro m rs L A K T p ok hT h0 h1;rfl';refine B7 ?_;have hs:FK [("Ladder",B4)] "kept" (B9 m rs L A K)=.ok B4:=rfl;have a4:FK [("Ladder",B3)] "cost" (B9 m rs L A K)=.ok B3:=rfl;have hk:=EZ m rs L A K;have mo:=ok.kl;have bg:(K.map pD).length<=1000:=by rw[za2];omega
 refine wp_step (ρ':=[‹B9 m rs L A K›,‹.lst (T.map cst)›,‹.int p›,‹.lst ((K.filter λ q=>decide (q.1=p)).map pD)›]) (by
  simp_arith[hs,hk,if_pos bg];rw[BJ (λ q:Int×Int=>decide (q.1=p)) pD (λ q hq=>⟨_,rfl,by
   have p0:AM (pD q) (.int 0)=.ok (.int q.1):=rfl;simp_arith[p0];try rfl,λ _=>by simp_arith[]⟩)]
  try rfl) ?_
 have aq:((K.filter λ q=>decide (q.1=p)).map pD).length<=1000:=by
  have:=zcz (λ q:Int×Int=>decide (q.1=p)) K;rw[za2];omega
 have x2:AM (.lst (T.map cst)) (.int p)=.ok (cst (atC T p)):=Cj h0 (by omega);simp_arith[if_pos aq];rw[BJ (Zu A T p) pD (λ q hq=>⟨_,rfl,by
  obtain⟨q1,q2⟩:=zb2.mp hq;have e:q.1=p:=by simpa using q2
  have du:=ok.Yl q1;obtain⟨c,hc,_⟩:=(ok.km q).mp q1;obtain⟨qa,qb⟩:=q;dsimp only at e du;subst e;have p1:AM (pD (qa,qb)) (.int 1)=.ok (.int qb):=rfl;have h2:=EW m rs L A K qa qb c ok.xI hc;have x1:AM (.lst (T.map cst)) (.int qb)=.ok (cst (atC T qb)):=Cj du.2.2.1 (by omega);have j8:=G2 (some c) (atC T qb);have bG:=La (Av (some c) (atC T qb)) (atC T qa);have eb:Zu A T qa (qa,qb)=decide (Av (some c) (atC T qb)=atC T qa):=by unfold Zu;rw[hc]
  rw[eb];simp_arith[a4,p1,h2,x1,x2,j8,bG];try rfl,λ _=>by simp_arith[]⟩)]
 exact⟨_,rfl,rfl⟩
noncomputable def GS:=za6 De
theorem LF:FT "arcs_by_prices" 4 3 GS:=(za1 De).1
theorem LG:G3 GS:=(za1 De).2
def LH (F:List D->M OT):Prop:=∀(m:Nat) (rs:List Road) (p c:Int×Int),rs.length<=900->(∃r∈rs,r.a=p.1/\r.b=p.2/\BY r=some c)->F [Am m rs,pD p,cst (some c)]=.ok (.sh (.int (P8 rs p c:Nat)))
theorem Fw:∃F,FT "road_under" 2 3 F/\LH F:=by
 refine⟨_,λ T=>Ay (k:=1) T.SX Jd _ (λ f B5 A outer s H E hr=>(A5 (Gg (NB:=["number","road","arc","cost"]) 3 [none,none,some 1,some 2] Jd.nd rfl (zaz rfl) rfl (Nr rfl T.Fh (Ab (!hr) (!0) A6)) rfl rfl (Nz (n:=2) rfl (CV 0 (by decide) rfl rfl rfl (CV 1 (by decide) rfl rfl rfl Kq))) (λ _ _ _ _=>En (DW.dt (Hn (Kb (c:=true) (!hr) (AK (A4 (Ab (!hr) (!1) A6) (A4 (Ab (!hr) (!1) A6) A9))) (!2)) (Gd (Kb (c:=true) (!hr) (An (C8 (Ac (Bn rfl).toXCall (Et T) (-hr) rfl (A4 (!1) A9) rfl))) (!3)))))) (λ _ _ _ _=>(!0))) (A7 (Ag (AE (Ab (!hr) (!3) A6)))))),?_⟩;intro m rs p c hl hr;rfl';refine B7 ?_;obtain⟨r,t,hq,_⟩:=Y4 hr;have n1:AM (Am m rs) (.int 1)=.ok (.lst (rs.map C9)):=rfl;have aq:((zb6 rs.length).map λ i:Nat=>D.tup [.int (i:Int),C9 (rs.getD i ⟨0,0,none,0⟩)]).length<=1000:=by rw[za2,zci];omega
 refine wp_step (ρ':=[‹Am m rs›,‹pD p›,‹cst (some c)›,‹.lst (((zb6 rs.length).filter (gI rs p c)).map λ i:Nat=>D.int (i:Int))›]) (by
  simp_arith[n1,Zr,if_pos aq];rw[BJ (gI rs p c) (λ i:Nat=>D.int (i:Int)) (λ i hi=>⟨_,rfl,by
   have ya:=zc0.mp hi;obtain⟨r,hr⟩:∃r,rs[i]?=some r:=⟨_,za8 ya⟩;have eg:rs.getD i ⟨0,0,none,0⟩=r:=by rw[zb7,hr];rfl
   have r0:AM (C9 r) (.int 0)=.ok (.int r.a):=rfl;have r1:AM (C9 r) (.int 1)=.ok (.int r.b):=rfl;have t1:D.tup [.int r.a,.int r.b]=pD (r.a,r.b):=rfl;have bG:=tG (r.a,r.b) p;have sf:=Eu r;have hd2:=La (BY r) (some c);have eb:gI rs p c i=(decide ((r.a,r.b)=p)&&decide (BY r=some c)):=by
    unfold gI;rw[hr];dsimp only;by_cases e1:(r.a,r.b)=p
    ·subst e1;simp
    ·have:¬ (r.a=p.1/\r.b=p.2/\BY r=some c):=λ h=>e1 (Prod.ext h.1 h.2.1);rw[decide_eq_false this,decide_eq_false e1];rfl
   rw[eb,eg];by_cases e1:(r.a,r.b)=p
   ·rw[decide_eq_true e1] at bG ⊢;simp_arith[r0,r1,t1,bG,sf,hd2,Bool.true_and];try rfl
   ·rw[decide_eq_false e1] at bG ⊢;simp_arith[r0,r1,t1,bG];try rfl,λ _=>by simp_arith[]⟩)]
  try rfl) ?_
 rw[hq];have hx:AM (.lst ((P8 rs p c::t).map λ i:Nat=>D.int (i:Int))) (.int 0)=.ok (.int (P8 rs p c:Nat)):=Gm (by decide) rfl;simp_arith[hx];rfl
noncomputable def MW:=za6 Fw
theorem QE:FT "road_under" 2 3 MW:=(za1 Fw).1
theorem QF:LH MW:=(za1 Fw).2
def Fi (F:List D->M OT):Prop:=∀(m:Nat) (rs:List Road) (L:List Int) (A:LA) (K:List (Int×Int)) (u w:Int),Bc m rs L A K->m<=8->(As A (u,w)).isSome=true->F [B9 m rs L A K,.int u,.int w]=.ok (.lst (((CH rs L A (u,w)).map λ n:Nat=>D.int (n:Int)).map .sh))
theorem CJ:∃F:List D->M OT,(∀ {P w K mg base},Txt K mg->HJ P w K mg base "Ladder" "unpacked" 3 3 F)/\Fi F:=by
 refine⟨_,λ T=>L6 (k:=2) T.Lw Bv _ (λ f B5 A outer s H E hr=>(A5 (By 3 Bv.nd rfl (zaz rfl) (EI BX)) (A5 (By 4 Bv.nd rfl (zaz rfl) (EI (BN (IY (k:=2) [("Ladder",AN)] Aa.toXCall (C2 (by decide) (Dj T) CD) (-hr) (!0) (A4 (!1) (A4 (!2) A9)) rfl) BX))) (A5 (Ke Aa.toXCall.own (Hx (Be (c:=true) (!4))) (A5 (kN 5 Bv.nd rfl (zaz rfl) (rW (Bz 4 (pv 4)))) (A5 (AL 6 Bv.nd rfl (zaz rfl) (Ab (!hr) (Ab (!hr) (Dt ["Ladder"] (Bf T.C4 BG) (!0)) (!5)) A6)) (A7 (AX (Dn (c:=true) (!6)) (A7 (dZ (Bz 3 (pv 3)) (Ac Aa.toXCall (QE T) (-hr) rfl (A4 (Dt ["Ladder"] (Bf T.Bs BG) (!0)) (A4 (!5) (A4 (Ab (!hr) (Ab (!hr) (Dt ["Ladder"] (Bf T.C4 BG) (!0)) (!5)) A6) A9))) rfl))) (A5 (FF 4 (pv 4) (AK (A4 (!6) (A4 (Ab (!hr) (!5) A6) A9)))) (A7 (FF 4 (pv 4) (AK (A4 (Ab (!hr) (!5) A6) (A4 (!6) A9))))))))))) (A7 (CC 3 (pv 3))))))),?_⟩;intro m rs L A K u w ok hm hf;rfl';refine B7 ?_;have hA:=ok.xI;obtain⟨z0,sq⟩:=zbu.mp hf;have yb:Ae A (u,w)=some z0.1:=by unfold Ae;rw[sq];rfl
 have hk:=hA.rg _ (EQ yb);have aV:=Dk m rs L A K u w hk.2.1.1 hk.2.1.2 hk.2.2.1 hk.2.2.2 hf;have av:FK [("Ladder",AN)] "checked_arc" (B9 m rs L A K)=.ok AN:=rfl;have f1:Na ["Ladder"] "own_map" (B9 m rs L A K)=.ok (Am m rs):=rfl;have f2:Na ["Ladder"] "laid" (B9 m rs L A K)=.ok (Qq A):=rfl;have yc:=Ml ok _ (c:=z0.1) (mid:=z0.2) rfl sq;have yd:Rv L (u,w)<=8:=by
  have:=XS L u;have:=FR ok.pm;unfold Rv;dsimp only;omega
 have ye:(CH rs L A (u,w)).length<=256:=by
  have:=yc.up;have h2:2^Rv L (u,w)<=2^8:=Nat.pow_le_pow_right (by decide) yd;omega
 refine wp_step (ρ':=[‹B9 m rs L A K›,‹.int u›,‹.int w›,some (.own []),none,none,none]) (by simp_arith[];try rfl) ?_;refine wp_step (ρ':=[‹B9 m rs L A K›,‹.int u›,‹.int w›,some (.own []),some (.own [pD (u,w)]),none,none]) (by simp_arith[av,aV];try rfl) ?_;refine BI (I:=λ ρ=>∃s4 s5 s6:Option Cl,ρ=[‹B9 m rs L A K›,‹.int u›,‹.int w›,some (.own ((CH rs L A (u,w)).map λ n:Nat=>D.int (n:Int))),s4,s5,s6]) ?_ ?_
 ·refine Kr (lt:=λ a b:Nat=>a<b) (λ n ρ=>∃(N:List Nat) (W:List (Int×Int)) (o5 o6:Option D),ρ=[‹B9 m rs L A K›,‹.int u›,‹.int w›,some (.own (N.map λ n:Nat=>D.int (n:Int))),some (.own ((W.map pD).reverse)),vO o5,vO o6]/\oP rs L A W=n/\(∀p∈W,(As A p).isSome=true)/\N++UE rs L A W=CH rs L A (u,w)) (Nat.lt_wfRel.wf.apply (oP rs L A [(u,w)])) ⟨[],[(u,w)],none,none,rfl,rfl,(λ p hp=>by rw[za7.mp hp];exact hf),by unfold UE;simp⟩ ?_;rintro n ρ ⟨N,W,o5,o6,rfl,hn,hW,hE⟩;have hlen:=congrArg List.length hE;rw[zaj] at hlen;have lx:=SN ok hW;cases W with
  |nil =>
   left;refine⟨rfl,some (.own []),vO o5,vO o6,?_⟩;have:N=CH rs L A (u,w):=by rw[<-hE];unfold UE;simp
   rw[this];rfl
  |cons p W =>
   have sr:Eo (.lst (((p::W).map pD).reverse))=.ok true:=by
    rw[Ua];simp
   obtain⟨z,hz⟩:=zbu.mp (hW p za3);obtain⟨c,mid⟩:=z;obtain⟨_,m2,m3⟩:=J2 ok hz;have yf:=Ml ok _ rfl hz;have g9:((p::W).map pD).reverse=(W.map pD).reverse++[pD p]:=by rw[za5,List.reverse_cons]
   have hi:=OU hz;have l0:AM (Wf (c,mid)) (.int 0)=.ok (cst (some c)):=rfl;have l1:AM (Wf (c,mid)) (.int 1)=.ok (D2 mid):=rfl;have p0:AM (pD p) (.int 0)=.ok (.int p.1):=rfl;have p1:AM (pD p) (.int 1)=.ok (.int p.2):=rfl;have vd:UE rs L A (p::W)=CH rs L A p++UE rs L A W:=rfl;rw[vd,zaj] at hlen;rw[vd] at hE;have yg:oP rs L A (p::W)=2*(CH rs L A p).length-1+oP rs L A W:=rfl;rw[yg] at hn;have yh:=SN ok λ q hq=>hW q (za4 _ hq);right;constructor
   ·simp_arith[sr];try rfl
   rw[g9];have hp:=Zs (ρ:=[‹B9 m rs L A K›,‹.int u›,‹.int w›,some (.own (N.map λ n:Nat=>D.int (n:Int))),some (.own ((W.map pD).reverse++[pD p])),vO o5,vO o6]) (i:=4) (xs:=(W.map pD).reverse) (d:=pD p) rfl;apply wp_step
   ·simp_arith[hp];rfl
   try simp only[zah,zae]
   refine wp_step (ρ':=[‹B9 m rs L A K›,‹.int u›,‹.int w›,some (.own (N.map λ n:Nat=>D.int (n:Int))),some (.own ((W.map pD).reverse)),‹pD p›,‹D2 mid›]) (by simp_arith[f2,hi,l1];try rfl) ?_;cases mid with
   |none =>
    have a5:B0 (D2 none)=true:=rfl;have yi:=QF m rs p c (by have:=ok.rl;omega) (m2 rfl);rw[Rw hz] at hE hlen hn;have be:((N.map λ n:Nat=>D.int (n:Int)).map OT.sh).length<1000:=by rw[za2,za2];omega
    have ea:(N.map λ n:Nat=>D.int (n:Int)).map OT.sh++[OT.sh (.int (P8 rs p c:Nat))]=((N++[P8 rs p c]).map λ n:Nat=>D.int (n:Int)).map OT.sh:=by rw[zay,zay];rfl
    refine Bb (ρ':=[‹B9 m rs L A K›,‹.int u›,‹.int w›,some (.own ((N++[P8 rs p c]).map λ n:Nat=>D.int (n:Int))),some (.own ((W.map pD).reverse)),vO (some (pD p)),vO (some (D2 none))]) (by
     simp_arith[a5,f1,f2,hi,l0,yi,if_true,if_pos be,ea];rfl) ⟨oP rs L A W,?_,_,W,_,_,rfl,rfl,λ q hq=>hW q (za4 _ hq),by rw[zbk];exact hE⟩
    rw[zbf] at hn;omega
   |some v =>
    obtain⟨_,_,a,b,ma,mb,g1,g2,_⟩:=m3 v rfl;have a5:B0 (D2 (some v))=false:=rfl;have lv:D2 (some v)=.int v:=rfl;have ka:=UC ok hz;have u1:=(Ml ok _ rfl g1).ne;have u2:=(Ml ok _ rfl g2).ne;have be:((W.map pD).reverse).length<1000:=by rw[zbn,za2];omega
    have h7:((W.map pD).reverse++[pD (v,p.2)]).length<1000:=by
     rw[zaj,zbn,za2,zbf];have:=yf.ne;omega
    have yj:(((p.1,v)::(v,p.2)::W).map pD).reverse=(W.map pD).reverse++[pD (v,p.2)]++[pD (p.1,v)]:=by rw[za5,za5,List.reverse_cons,List.reverse_cons]
    have ss:B0 (.int v)=false:=rfl;simp_arith[lv,ss,zat,if_false];apply wp_step
    ·simp_arith[p1,if_pos be];rfl
    try simp only[zah,zae]
    have t1:D.tup [.int v,.int p.2]=pD (v,p.2):=rfl;refine Bb (ρ':=[‹B9 m rs L A K›,‹.int u›,‹.int w›,some (.own (N.map λ n:Nat=>D.int (n:Int))),some (.own ((((p.1,v)::(v,p.2)::W).map pD).reverse)),vO (some (pD p)),vO (some (.int v))]) (by
     rw[yj];simp_arith[p0,t1,if_pos h7];try rfl) ⟨oP rs L A ((p.1,v)::(v,p.2)::W),?_,N,_,_,_,rfl,rfl,λ q hq=>?_,?_⟩
    ·rw[ka,zaj] at hn;show 2*(CH rs L A (p.1,v)).length-1+(2*(CH rs L A (v,p.2)).length-1+oP rs L A W)<n;omega
    ·rcases zaa.mp hq with rfl|hq
     ·rw[g1];rfl
     ·rcases zaa.mp hq with rfl|hq
      ·rw[g2];rfl
      ·exact hW q (za4 _ hq)
    ·rw[ka] at hE;show N++(CH rs L A (p.1,v)++(CH rs L A (v,p.2)++UE rs L A W))=_;rw[<-zbk (CH rs L A (p.1,v))];exact hE
 ·rintro ρ ⟨s4,s5,s6,rfl⟩;exact⟨_,rfl,rfl⟩
noncomputable def BR:=za6 CJ
theorem JT:Txt K mg->HJ P w K mg base "Ladder" "unpacked" 3 3 BR:=(za1 CJ).1
theorem JU:Fi BR:=(za1 CJ).2
def GU (F:List D->M OT):Prop:=∀(m:Nat) (rs:List Road) (L:List Int) (A:LA) (K:List (Int×Int)) (T:List Co) (s g:Nat) (c:Int×Int),Bc m rs L A K->m<=8->T.length=m->(∀w:Int,0<=w->w<m->BA rs w g (atC T w))->s<m->g<m->atC T s=some c->∃N:List Nat,F [B9 m rs L A K,.lst (T.map cst),.int s,.int g]=.ok (.lst ((N.map λ n:Nat=>D.int (n:Int)).map .sh))/\Qe rs s N g c.1/\(N.length:Int)=c.2
theorem DC:∃F,FT "way_by_prices" 5 4 F/\GU F:=by
 refine⟨_,λ T=>Ay (k:=4) T.Ni BQ _ (λ f B5 A outer s H E hr=>(A5 (By 4 BQ.nd rfl (zaz rfl) (EI BX)) (A5 (AL 5 BQ.nd rfl (zaz rfl) (!2)) (A5 (Ke Aa.toXCall.own (Eh (c:=true) (!hr) (!5) (!3)) (A5 (AL 6 BQ.nd rfl (zaz rfl) (Ab (!hr) (An (Ac Aa.toXCall (LF T) (-hr) rfl (A4 (!0) (A4 (!1) (A4 (!5) A9))) rfl)) A6)) (A5 (W4 (Bz 4 (pv 4)) (by exact (IY (k:=3) [("Ladder",BR)] Aa.toXCall (C2 (by decide) (JT T) CD) (-hr) (!0) (A4 (Ab (!hr) (!6) A6) (A4 (Ab (!hr) (!6) A6) A9)) rfl))) (A7 (AL 5 BQ.nd rfl (zaz rfl) (Ab (!hr) (!6) A6)))))) (A7 (CC 4 (pv 4))))))),?_⟩;intro m rs L A K T s g c ok hm c8 hT hs hg hc;rfl';refine (λ h:∃t,_/\∃N:List Nat,t=.lst ((N.map λ n:Nat=>D.int (n:Int)).map .sh)/\Qe rs s N g c.1/\(N.length:Int)=c.2=>by
  obtain⟨t,h1,N,rfl,h2⟩:=h;exact⟨N,h1,h2⟩) (HG ?_)
 have cv:∀r∈rs,JK m r:=λ r hr=>(ok.ok r hr).1;have ae:=hT s (by omega) (by omega);rw[hc] at ae;have yk:=UG ok.ok ⟨by omega,by omega⟩ ae;have yl:FK [("Ladder",BR)] "unpacked" (B9 m rs L A K)=.ok BR:=rfl;refine wp_step (ρ':=[‹B9 m rs L A K›,‹.lst (T.map cst)›,‹.int s›,‹.int g›,some (.own []),none,none]) (by simp_arith[];try rfl) ?_;refine wp_step (ρ':=[‹B9 m rs L A K›,‹.lst (T.map cst)›,‹.int s›,‹.int g›,some (.own []),‹.int s›,none]) (by simp_arith[];try rfl) ?_;refine BI (I:=λ ρ=>∃(N:List Nat) (s5 s6:Option Cl),ρ=[‹B9 m rs L A K›,‹.lst (T.map cst)›,‹.int s›,‹.int g›,some (.own (N.map λ n:Nat=>D.int (n:Int))),s5,s6]/\Qe rs s N g c.1/\(N.length:Int)=c.2) ?_ ?_
 ·refine Kr (lt:=λ a b:Nat=>a<b) (λ n ρ=>∃(N:List Nat) (p t:Int) (cp:Int×Int) (s6:Option Cl),ρ=[‹B9 m rs L A K›,‹.lst (T.map cst)›,‹.int s›,‹.int g›,some (.own (N.map λ n:Nat=>D.int (n:Int))),‹.int p›,s6]/\(0<=p/\p<m)/\atC T p=some cp/\Qe rs s N p t/\t+cp.1=c.1/\(N.length:Int)+cp.2=c.2/\cp.2.toNat=n) (Nat.lt_wfRel.wf.apply c.2.toNat) ⟨[],s,0,c,none,rfl,⟨by omega,by omega⟩,hc,.nil _,by omega,by simp,rfl⟩ ?_;rintro n ρ ⟨N,p,t,cp,s6,rfl,hp,il,aV,h1,h2,h3⟩;have sv:=hT p hp.1 hp.2;rw[il] at sv;have ve:=(sv.2 cp rfl).nn cv;by_cases e:p=g
  ·left;subst e;refine⟨by simp_arith[decide_true,Bool.not_true];try rfl,N,_,s6,rfl,?_⟩;have hz:=sv.1 _ (.nil _);simp only[BO] at hz;have e1:cp.1=0:=by omega
   have e2:cp.2=0:=by omega
   exact⟨by rw[<-h1,e1,Int.add_zero];exact aV,by omega⟩
  ·right;refine⟨by simp_arith[decide_eq_false e,zcv];try rfl,?_⟩;obtain⟨q,r,hq⟩:=Zv ok hT hp e il;obtain⟨ca,cq,a1⟩:=tH ok il hq;have vg:=LG m rs L A K T p ok c8 hp.1 hp.2;rw[hq] at vg;obtain⟨z,hz⟩:∃z,As A q=some z:=by
    have:=a1.c;unfold Ae at this;cases hf:As A q with
    |none=>rw[hf] at this;cases this
    |some z=>exact⟨z,rfl⟩
   have ez:z.1=ca:=by have:=a1.c;unfold Ae at this;rw[hz] at this;cases this;rfl
   have vh:=JU m rs L A K q.1 q.2 ok hm (by rw[hz];rfl);have kb:=Ml ok _ (p:=q) (c:=z.1) (mid:=z.2) rfl hz;rw[ez] at kb;have p0:AM (pD q) (.int 0)=.ok (.int q.1):=rfl;have p1:AM (pD q) (.int 1)=.ok (.int q.2):=rfl;have hx:AM (.lst ((q::r).map pD)) (.int 0)=.ok (pD q):=Gm (by decide) rfl;have hcq:=((hT q.2 a1.r.1 a1.r.2).2 cq a1.t).nn cv;have a4:=a1.s;have dm:=kb.ln;have ad:=kb.ne;obtain⟨U,hU⟩:∃U,U=CH rs L A q:=⟨_,rfl⟩;have eU:CH rs L A (q.1,q.2)=U:=by rw[hU]
   rw[eU] at vh;rw[<-hU] at dm ad kb;have hb:(N.map λ n:Nat=>D.int (n:Int)).length+(U.map λ n:Nat=>D.int (n:Int)).length<=1000:=by
    rw[za2,za2];rw[a4] at h2 ve;dsimp only at h2 ve;omega
   refine wp_step (ρ':=[‹B9 m rs L A K›,‹.lst (T.map cst)›,‹.int s›,‹.int g›,some (.own (N.map λ n:Nat=>D.int (n:Int))),‹.int p›,‹pD q›]) (by simp_arith[vg,hx];try rfl) ?_;refine wp_step (ρ':=[‹B9 m rs L A K›,‹.lst (T.map cst)›,‹.int s›,‹.int g›,some (.own ((N++U).map λ n:Nat=>D.int (n:Int))),‹.int p›,‹pD q›]) (by
    rw[zay];simp_arith[p0,p1,yl,vh,if_pos hb];try rfl) ?_
   refine Bb (ρ':=[‹B9 m rs L A K›,‹.lst (T.map cst)›,‹.int s›,‹.int g›,some (.own ((N++U).map λ n:Nat=>D.int (n:Int))),‹.int q.2›,‹pD q›]) (by simp_arith[p1];try rfl) ⟨cq.2.toNat,?_,N++U,q.2,t+ca.1,cq,_,rfl,a1.r,a1.t,?_,?_,?_,rfl⟩
   ·rw[a4] at h3;dsimp only at h3;omega
   ·have:=kb.ch;rw[a1.a] at this;exact aV.wG this
   ·rw[a4] at h1;dsimp only at h1;omega
   ·rw[a4] at h2;dsimp only at h2;rw[zaj];omega
 ·rintro ρ ⟨N,s5,s6,rfl,h1,h2⟩;exact⟨_,rfl,N,rfl,h1,h2⟩
noncomputable def Ie:=za6 DC
theorem Mt:FT "way_by_prices" 5 4 Ie:=(za1 DC).1
theorem Mu:GU Ie:=(za1 DC).2
def oT (F:List D->M OT):Prop:=∀(m:Nat) (rs:List Road) (L:List Int) (A:LA) (K:List (Int×Int)) (s g:Nat),Bc m rs L A K->m<=8->s<m->g<m->∃(T:List Co) (N:List Nat),T.length=m/\(∀w:Int,0<=w->w<m->BA rs w g (atC T w))/\(∀c,atC T s=some c->Qe rs s N g c.1/\(N.length:Int)=c.2)/\∃t,F [B9 m rs L A K,.int s,.int g]=.ok t/\er t=Df (atC T s) N T
theorem WO:∃F,FT "ask" 8 3 F/\oT F:=by
 refine⟨_,λ T=>Ay (k:=7) T.xU Wv _ (λ f B5 A outer s H E hr=>(A5 (AL 3 Wv.nd rfl (zaz rfl) (An (Ac Aa.toXCall (GQ T) (-hr) rfl (A4 (!0) (A4 (!1) (A4 (!2) A9))) rfl))) (A5 (AX (Dn (c:=true) (!3)) (A7 (Ag (AE C5))) Au) (A5 (AL 4 Wv.nd rfl (zaz rfl) (An (Ac Aa.toXCall (V0 T) (-hr) rfl (A4 (!0) (A4 (!2) A9)) rfl))) (A7 (Ag (Sg (BN (AE (!3)) (BN (Ac Aa.toXCall (Mt T) (-hr) rfl (A4 (!0) (A4 (!4) (A4 (!1) (A4 (!2) A9)))) rfl) (BN (AE (!4)) BX)))))))))),?_⟩;intro m rs L A K s g ok hm hs hg;obtain⟨T,g1,l1,t1⟩:=V1 m rs L A K g ok hg;have im:=GR m rs L A K s g (atC T s) ok hs hg (t1 s (by omega) (by omega));rfl';cases hc:atC T s with
 |none =>
  rw[hc] at im;refine⟨T,[],l1,t1,λ c h=>(by rw[hc] at h;cases h),(λ h:∃t,_/\er t=Df (atC T s) [] T=>h) (HG ?_)⟩;refine wp_step (ρ':=[‹B9 m rs L A K›,‹.int s›,‹.int g›,‹cst none›,none]) (by simp_arith[im];try rfl) ?_;have a5:B0 (cst none)=true:=rfl;simp_arith[a5];rw[hc];rfl
 |some c =>
  rw[hc] at im;obtain⟨N,hF,n1,n2⟩:=Mu m rs L A K T s g c ok hm l1 t1 hs hg hc;refine⟨T,N,l1,t1,λ c' h=>(by rw[hc] at h;cases h;exact⟨n1,n2⟩),(λ h:∃t,_/\er t=Df (atC T s) N T=>h) (HG ?_)⟩;refine wp_step (ρ':=[‹B9 m rs L A K›,‹.int s›,‹.int g›,‹cst (some c)›,none]) (by simp_arith[im];try rfl) ?_;have a5:B0 (cst (some c))=false:=rfl;apply wp_step
  ·simp_arith[a5];rfl
  refine wp_step (ρ':=[‹B9 m rs L A K›,‹.int s›,‹.int g›,‹cst (some c)›,‹.lst (T.map cst)›]) (by simp_arith[g1];try rfl) ?_;simp_arith[hF];refine⟨_,rfl,?_⟩;rw[hc];unfold Df Ej;simp only[er,Qa,Hz]
noncomputable def nJ:=za6 WO
theorem tJ:FT "ask" 8 3 nJ:=(za1 WO).1
theorem iA:oT nJ:=(za1 WO).2
def Jp (F:List D->M OT):Prop:=∀(A:LA) (p:Int×Int),F [Qq A,pD p]=.ok (.sh (cst (Ae A p)))
theorem F2:∃F,FT "cost_so_far" 1 2 F/\Jp F:=by
 refine⟨_,λ T=>Ay (k:=0) T.Qw Pc _ (λ f B5 A outer s H E hr=>(A5 (AX (Kl (c:=true) (!hr) (!1) (!0)) (A7 (Ag (AE C5))) Au) (A7 (Ag (AE (Ab (!hr) (Ab (!hr) (!0) (!1)) A6)))))),?_⟩;intro A p;rfl';refine B7 ?_;have hm:=SJ A p true;unfold Ae;cases q:As A p with
 |none =>
  rw[q] at hm;simp_arith[hm,Eo];rfl
 |some v =>
  rw[q] at hm;have hi:=OU q;have h0:AM (Wf v) (.int 0)=.ok (cst (some v.1)):=rfl;apply wp_step
  ·simp_arith[hm,Eo];rfl
  simp_arith[hi,h0];rfl
noncomputable def LI:=za6 F2
theorem Ig:FT "cost_so_far" 1 2 LI:=(za1 F2).1
theorem Ih:Jp LI:=(za1 F2).2
def oU (F:OT->List D->M (OT×OT)):Prop:=∀(A:LA) (p:Int×Int) (c:Co) (mid:Option Int),A.length<1000->F (Nc A) [pD p,cst c,D2 mid]=.ok (Nc (layA A p c mid),.sh .AJ)
theorem WQ:∃F:OT->List D->M (OT×OT),(∀ {P w K mg base},Txt K mg->Ra P w K mg base "lay" 1 4 F)/\oU F:=by
 refine⟨_,λ T=>U4 (k:=0) T.xV tI _ (λ f B5 A outer s H E hr=>(A7 (AX (Hx (DW.dt (Hn (IB (c:=true) (!2)) (Gd (DW.dt (Ce (Kl (c:=true) (!hr) (!1) (!0)) (C7 (eW (c:=true) (!hr) (!2) (Ab (!hr) (Ab (!hr) (!0) (!1)) A6))))))))) (A7 (Ny (!hr) (Bz 0 (pv 0)) (!1) (AK (A4 (!2) (A4 (!3) A9))))) Au))),?_⟩;intro A p c mid hA;dsimp only;have e0:Dh ["laid","pair","cost","middle"] (Nc A) [pD p,cst c,D2 mid]=[some (.ow (.tree (some 0) (Nc A))),‹pD p›,‹cst c›,‹D2 mid›]:=rfl;rw[e0];refine Wm ?_;have hm:=SJ A p true;have vi:∀c:Int×Int,D.tup [cst (some c),D2 mid]=Wf (c,mid):=λ c=>rfl;have hl:(A.map λ kv=>pD kv.1).length<1000:=by rw[za2];exact hA
 have ik:keyOk true (pD p)=true:=rfl;have af:∀v,(List.map (λ kv=>pD kv.1) (Dx A p v))=(List.map (λ kv=>pD kv.1) (Dx A p v)):=λ _=>rfl;cases c with
 |none =>
  refine Bb (ρ':=_) (by simp_arith[cst,B0];rfl) ⟨rfl,rfl⟩
 |some c =>
  have a5:B0 (cst (some c))=false:=rfl;cases q:As A p with
  |none =>
   rw[q] at hm;have el:layA A p (some c) mid=Dx A p (c,mid):=by unfold layA;dsimp only;rw[q]
   rw[el];refine Bb (ρ':=[some (.ow (.tree (some 0) (Nc (Dx A p (c,mid))))),‹pD p›,‹cst (some c)›,‹D2 mid›]) (by
    simp_arith[a5,hm,Eo,EA,vi,if_pos (And.intro ik hl),fR,ik,hl,and_self,if_true];rfl) ⟨rfl,rfl⟩
  |some z =>
   rw[q] at hm;have hi:=OU q;have h0:AM (Wf z) (.int 0)=.ok (cst (some z.1)):=rfl;have hx:=xJ c z.1;by_cases hc:c.1<z.1.1\/(c.1=z.1.1/\c.2<z.1.2)
   ·have el:layA A p (some c) mid=Dx A p (c,mid):=by unfold layA;dsimp only;rw[q];dsimp only;rw[if_pos hc]
    rw[decide_eq_true hc] at hx;rw[el];refine Bb (ρ':=[some (.ow (.tree (some 0) (Nc (Dx A p (c,mid))))),‹pD p›,‹cst (some c)›,‹D2 mid›]) (by
     simp_arith[a5,hm,hi,h0,hx,Eo,EA,vi,if_pos (And.intro ik hl),fR,ik,hl,and_self,if_true];rfl) ⟨rfl,rfl⟩
   ·have el:layA A p (some c) mid=A:=by unfold layA;dsimp only;rw[q];dsimp only;rw[if_neg hc]
    rw[decide_eq_false hc] at hx;rw[el];refine Bb (ρ':=_) (by simp_arith[a5,hm,hi,h0,hx,Eo];rfl) ⟨rfl,rfl⟩
noncomputable def xX:=za6 WQ
theorem iB:Txt K mg->Ra P w K mg base "lay" 1 4 xX:=(za1 WQ).1
theorem iC:oU xX:=(za1 WQ).2
def PM (F:OT->List D->M (OT×OT)):Prop:=∀(m:Nat) (A:LA) (p:Int) (H:List Int),m<=20->Hb m A->(∀x∈H,0<=x/\x<m)->F (Nc A) [.int p,.lst (H.map D.int)]=.ok (Nc (mJ A p H),.sh .AJ)
theorem Ii:∃F:OT->List D->M (OT×OT),(∀ {P w K mg base},Txt K mg->Ra P w K mg base "lay_over" 2 3 F)/\PM F:=by
 refine⟨_,λ T=>U4 (k:=1) T.Wx Fe _ (λ f B5 A outer s H E hr=>(A7 (BD Aa.toXCall.own rfl (AW (!2)) (Ax 3 Fe.nd rfl (zaz rfl)) (A7 (BD Aa.toXCall.own rfl (AW (!2)) (Ax 4 Fe.nd rfl (zaz rfl)) (A7 (AX (Eh (c:=true) (!hr) (!3) (!4)) (A5 (AL 5 Fe.nd rfl (zaz rfl) (An (EJ (Ac Aa.toXCall (G1 T) (-hr) rfl (A4 (An (Ac Aa.toXCall (Ig T) (-hr) rfl (A4 (!0) (A4 (AK (A4 (!3) (A4 (!1) A9))) A9)) rfl)) (A4 (An (Ac Aa.toXCall (Ig T) (-hr) rfl (A4 (!0) (A4 (AK (A4 (!1) (A4 (!4) A9))) A9)) rfl)) A9)) rfl)))) (A7 (OD (eC Aa.toXCall (iB T) (-hr) rfl (Bz 0 (pv 0)) (A4 (AK (A4 (!3) (A4 (!4) A9))) (A4 (!5) (A4 (!1) A9))) rfl)))) Au))))))),?_⟩;intro m A p H hm hA hH;dsimp only;have e0:Dh ["laid","place","higher","u","w","cost"] (Nc A) [.int p,.lst (H.map D.int)]=[some (.ow (.tree (some 0) (Nc A))),‹.int p›,‹.lst (H.map D.int)›,none,none,none]:=rfl;rw[e0];refine Wm ?_;simp_arith[];refine BE (λ i ρ=>∃s3 s4 s5:Option Cl,ρ=[some (.ow (.tree (some 0) (Nc ((H.take i).foldl (Zi p H) A)))),‹.int p›,‹.lst (H.map D.int)›,s3,s4,s5]) ⟨none,none,none,rfl⟩ ?_ ?_
 ·rintro i d ρ hd ⟨s3,s4,s5,rfl⟩;obtain⟨u,hu,rfl⟩:=Bm hd;have rh:=hH u (zao hu);refine⟨_,rfl,?_⟩;obtain⟨B,hB⟩:∃B,B=(H.take i).foldl (Zi p H) A:=⟨_,rfl⟩;have h8:Hb m B:=by rw[hB];exact Hb.lo hH hA λ x hx=>hH x (zcd hx)
  rw[<-hB,ER hu,<-hB];simp_arith[];refine BE (λ j ρ=>∃s4 s5:Option Cl,ρ=[some (.ow (.tree (some 0) (Nc ((H.take j).foldl (NV p u) B)))),‹.int p›,‹.lst (H.map D.int)›,‹.int u›,s4,s5]) ⟨s4,s5,rfl⟩ ?_ ?_
  ·rintro j d ρ hd ⟨s4,s5,rfl⟩;obtain⟨w,hw,rfl⟩:=Bm hd;have hwm:=hH w (zao hw);refine⟨_,rfl,?_⟩;obtain⟨C,hC⟩:∃C,C=(H.take j).foldl (NV p u) B:=⟨_,rfl⟩;have sw:Hb m C:=by rw[hC];exact Hb.ou rh h8 λ x hx=>hH x (zcd hx)
   rw[ER hw,<-hC];by_cases e:u=w
   ·have ev:NV p u C w=C:=by unfold NV;rw[if_pos e]
    rw[ev];refine Bb (ρ':=_) (by simp_arith[decide_eq_true e];rfl) ⟨_,_,rfl⟩
   ·have ev:NV p u C w=layA C (u,w) (Av (Ae C (u,p)) (Ae C (p,w))) (some p):=by unfold NV;rw[if_neg e]
    rw[ev];have h1:=Ih C (u,p);have h2:=Ih C (p,w);have h3:=G2 (Ae C (u,p)) (Ae C (p,w));have h4:=iC C (u,w) (Av (Ae C (u,p)) (Ae C (p,w))) (some p) (sw.len hm);have t1:∀a b:Int,D.tup [.int a,.int b]=pD (a,b):=λ a b=>rfl;have t2:D2 (some p)=.int p:=rfl;rw[t2] at h4;have h5:=Mg (ρ:=[some (.ow (.tree (some 0) (Nc C))),‹.int p›,‹.lst (H.map D.int)›,‹.int u›,‹.int w›,‹cst (Av (Ae C (u,p)) (Ae C (p,w)))›]) (i:=0) rfl rfl h4;simp_arith[decide_eq_false e,if_true];apply wp_step
    ·simp_arith[t1,h1,h2,h3];rfl
    refine Bb (ρ':=_) (by simp_arith[t1,h5];rfl) ⟨_,_,rfl⟩
  ·rintro ρ ⟨s4,s5,rfl⟩;rw[za2,zbx];exact⟨_,s4,s5,rfl⟩
 ·rintro ρ ⟨s3,s4,s5,rfl⟩;rw[za2,zbx];exact⟨rfl,trivial⟩
noncomputable def RK:=za6 Ii
theorem V2:Txt K mg->Ra P w K mg base "lay_over" 2 3 RK:=(za1 Ii).1
theorem V3:PM RK:=(za1 Ii).2
def MX (F:List D->M OT):Prop:=∀(m:Nat) (rs:List Road) (L:List Int),m<=20->L.Perm (Bp m)->(∀r∈rs,JK m r/\r.a≠r.b)->F [Am m rs,.lst (L.map D.int)]=.ok (Nc (Bu rs L))
theorem Gw:∃F,FT "laid_arcs" 3 2 F/\MX F:=by
 refine⟨_,λ T=>Ay (k:=2) T.UQ Dc _ (λ f B5 A outer s H E hr=>(A5 (By 2 Dc.nd rfl (zaz rfl) (U6 true)) (A5 (BD Aa.toXCall.own rfl (AW (Ab (!hr) (!0) A6)) (Ax 3 Dc.nd rfl (zaz rfl)) (A7 (OD (eC Aa.toXCall (iB T) (-hr) rfl (Bz 2 (pv 2)) (A4 (AK (A4 (Ab (!hr) (!3) A6) (A4 (Ab (!hr) (!3) A6) A9))) (A4 (An (Ac Aa.toXCall (Et T) (-hr) rfl (A4 (!3) A9) rfl)) (A4 C5 A9))) rfl)))) (A5 (BD Aa.toXCall.own rfl (Nr rfl T.Fh (!1)) (JC (n:=2) rfl (AZ (Ax 4 Dc.nd rfl (zaz rfl)) (AZ (Ax 5 Dc.nd rfl (zaz rfl)) Gf))) (A7 (OD (eC Aa.toXCall (V2 T) (-hr) rfl (Bz 2 (pv 2)) (A4 (!5) (A4 (An (OE (!1) (Nq (BW (!4) A6)) Xg)) A9)) rfl)))) (A7 (CC 2 (pv 2))))))),?_⟩;intro m rs L hm hL Aw;rfl';refine B7 ?_;have n1:AM (Am m rs) (.int 1)=.ok (.lst (rs.map C9)):=rfl;apply wp_step
 ·rfl
 try simp only[zah,zae]
 have h9:∀i,i<=rs.length->Hb m ((rs.take i).foldl (λ A r=>layA A (r.a,r.b) (BY r) none) []):=λ i hi=>by
  have:=(SD (m:=m) (rs:=rs.take i) λ r hr=>Aw r (zcd hr)).1;exact this
 refine BI (I:=λ ρ=>∃s3 s4 s5:Option Cl,ρ=[‹Am m rs›,‹.lst (L.map D.int)›,some (.ow (.tree none (Nc (lay0 rs)))),s3,s4,s5]) ?_ ?_
 ·simp_arith[n1];refine BE (λ i ρ=>i<=rs.length/\∃s3 s4 s5:Option Cl,ρ=[‹Am m rs›,‹.lst (L.map D.int)›,some (.ow (.tree none (Nc ((rs.take i).foldl (λ A r=>layA A (r.a,r.b) (BY r) none) [])))),s3,s4,s5]) ⟨zbc _,none,none,none,rfl⟩ ?_ ?_
  ·rintro i d ρ hd ⟨hi,s3,s4,s5,rfl⟩;obtain⟨r,hr,rfl⟩:=Bm hd;have af:=(zai.mp hr).1;refine⟨_,rfl,?_⟩;rw[ER hr];obtain⟨B,hB⟩:∃B,B=(rs.take i).foldl (λ A r=>layA A (r.a,r.b) (BY r) none) []:=⟨_,rfl⟩;have h8:Hb m B:=by rw[hB];exact h9 i hi
   rw[<-hB];have i0:AM (C9 r) (.int 0)=.ok (.int r.a):=rfl;have i1:AM (C9 r) (.int 1)=.ok (.int r.b):=rfl;have h1:=Eu r;have h2:=iC B (r.a,r.b) (BY r) none (h8.len hm);have t1:∀a b:Int,D.tup [.int a,.int b]=pD (a,b):=λ a b=>rfl;have t2:D2 none=.AJ:=rfl;rw[t2] at h2;have h5:=Mg (ρ:=[‹Am m rs›,‹.lst (L.map D.int)›,some (.ow (.tree none (Nc B))),‹C9 r›,s4,s5]) (i:=2) rfl rfl h2;refine Bb (ρ':=_) (by simp_arith[i0,i1,h1,t1,h5];rfl) ⟨af,_,_,_,rfl⟩
  ·rintro ρ ⟨_,s3,s4,s5,rfl⟩;rw[za2,zbx];exact⟨s3,s4,s5,rfl⟩
 ·rintro ρ ⟨s3,s4,s5,rfl⟩;have m7:=SD Aw;refine BI (I:=λ ρ=>∃s3 s4 s5:Option Cl,ρ=[‹Am m rs›,‹.lst (L.map D.int)›,some (.ow (.tree none (Nc (Bu rs L)))),s3,s4,s5]) ?_ ?_
  ·simp_arith[];refine BE (λ i ρ=>i<=L.length/\∃(G:LA) (s3 s4 s5:Option Cl),ρ=[‹Am m rs›,‹.lst (L.map D.int)›,some (.ow (.tree none (Nc G))),s3,s4,s5]/\Hb m G/\Qc G (L.drop i)=Qc (lay0 rs) L) ⟨zbc _,lay0 rs,s3,s4,s5,rfl,m7.1,rfl⟩ ?_ ?_
   ·rintro i d ρ hd ⟨hi,G,s3,s4,s5,rfl,hG,kc⟩;obtain⟨d',aM,rfl⟩:=FG hd;obtain⟨p,hp,rfl⟩:=Bm aM;have af:=(zai.mp hp).1;rw[Nat.zero_add];refine⟨_,rfl,?_⟩;have bo:∀x∈L.drop (i+1),0<=x/\x<m:=λ x hx=>(B8 hL).mp (List.mem_of_mem_drop hx);have ed:L.drop i=p::L.drop (i+1):=by
     rw[zcl af];rw[za8 af] at hp;rw[zas hp]
    rw[ed,Qc] at kc;have h2:=V3 m G p (L.drop (i+1)) hm hG bo;have sl:kS (some ((i:Int)+1)) none (.lst (L.map D.int))=.ok (.lst (((L.drop (i+1)).map D.int).map .sh)):=by rw[List.map_drop];exact Ub _ (i+1)
    have h5:=Mg (ρ:=[‹Am m rs›,‹.lst (L.map D.int)›,some (.ow (.tree none (Nc G))),s3,‹.int i›,‹.int p›]) (i:=2) rfl rfl h2;refine Bb (ρ':=_) (by simp_arith[sl,h5];rfl) ⟨af,_,_,_,_,rfl,Hb.lo bo hG bo,kc⟩
   ·rintro ρ ⟨_,G,s3,s4,s5,rfl,hG,kc⟩;rw[CQ,za2,zct,Qc] at kc;exact⟨s3,s4,s5,by rw[kc];rfl⟩
  ·rintro ρ ⟨s3,s4,s5,rfl⟩;exact⟨_,rfl,rfl⟩
noncomputable def PN:=za6 Gw
theorem T4:FT "laid_arcs" 3 2 PN:=(za1 Gw).1
theorem T5:MX PN:=(za1 Gw).2
def PP (F:List D->M OT):Prop:=∀(m:Nat) (x:D) (L:List Int),m<=60->L.Perm (Bp m)->F [.tup [.int m,x],.lst (L.map .int)]=.ok (.sh (.bl true))
theorem Ij:∃F,FT "is_order" 2 2 F/\PP F:=by
 refine⟨_,λ T=>Ay (k:=1) T.Wy UK _ (λ f B5 A outer s H E hr=>(A5 (AX (DW.dt (Ce (BC (Be (c:=true) (D7 (IC _) rfl T.AQ rfl T.ES (by decide +kernel) (!1)))) (C7 (Eh (c:=true) (!hr) (Dp rfl T.FZ (!1)) (Ab (!hr) (!0) A6))))) (A7 (Ag (AE Cq))) Au) (A5 (AX (BC (Be (c:=true) (dP rfl rfl T.oS (An (DK (NB:=["place","net"]) [none,some 0] rfl (AW (!1)) rfl rfl (Bt 0 (by decide) rfl rfl rfl) (λ _ _ _ _=>DJ) (λ _ _ _ _=>(An (C8 (Ac (Bn rfl).toXCall (B1 T) (-hr) rfl (A4 (!0) (A4 (Ab (!hr) (!1) A6) A9)) rfl))))))))) (A7 (Ag (AE Cq))) Au) (A7 (Ag (AE (TR (!hr) (An (Z1 rfl rfl T.gY (!1))) (An (Ko rfl rfl T.ES rfl T.Es (Ab (!hr) (!0) A6)))))))))),?_⟩;intro m x L hm hL;rfl';have n0:AM (.tup [.int m,x]) (.int 0)=.ok (.int m):=rfl;refine B7 ?_;have hlen:=FR hL;have h1:decide (((L.map D.int).length:Int)=(m:Int))=true:=decide_eq_true (by rw[za2];omega);have hl:(L.map D.int).length<=1000:=by rw[za2];omega
 have hs:=Z0 (ns:=L) (by omega);have h3:=Sl (n:=m) (by omega);rw[OO] at h3;have e:decide (HH L=Bp m)=true:=decide_eq_true (Ze.mpr hL);apply wp_step
 ·simp_arith[n0,h1];rfl
 apply wp_step
 ·simp_arith[if_pos hl];rw[BK (λ _:Int=>D.bl true) (λ j hj=>⟨_,rfl,rfl,by
   have va:=FO.mp (hL.mem_iff.mp hj);have:=B2 j m (by omega) (by omega);simp_arith[n0,this]⟩)]
  simp_arith[xT];rfl
 simp_arith[n0,hs,h3,fI,e];rfl
noncomputable def RL:=za6 Ij
theorem V4:FT "is_order" 2 2 RL:=(za1 Ij).1
theorem V5:PP RL:=(za1 Ij).2
def GV (F:List D->M OT):Prop:=∀(m:Nat) (x:D) (L:List Int),m<=60->L.Perm (Bp m)->F [.tup [.int m,x],.lst (L.map .int)]=.ok (.lst ((L.map D.int).map .sh))
theorem DD:∃F,FT "checked_order" 3 2 F/\GV F:=by
 refine⟨_,λ T=>Ay (k:=2) T.Nj Mo _ (λ f B5 A outer s H E hr=>(A5 (AX (BC (Be (c:=true) (An (Ac Aa.toXCall (V4 T) (-hr) rfl (A4 (!0) (A4 (!1) A9)) rfl)))) (A7 VW) Au) (A7 (Ag (Nv rfl T.ES (!1)))))),?_⟩;intro m x L hm hL;rfl';have h1:=V5 m x L hm hL;refine B7 ?_;apply wp_step
 ·simp_arith[h1];rfl
 simp_arith[];exact⟨_,rfl,rfl⟩
noncomputable def F3:=za6 DD
theorem Mv:FT "checked_order" 3 2 F3:=(za1 DD).1
theorem Mw:GV F3:=(za1 DD).2
def LJ (F:List D->M OT):Prop:=∀(m:Nat) (rs:List Road),m<=20->(∀r∈rs,JK m r/\r.a≠r.b)->F [Am m rs]=.ok (.BB true ((Ck rs).map pD) ((DU (Ck rs)).map .sh))
theorem Fx:∃F,FT "first_bows" 2 1 F/\LJ F:=by
 refine⟨_,λ T=>Ay (k:=1) T.SV Fp _ (λ f B5 A outer s H E hr=>(A5 (By 1 Fp.nd rfl (zaz rfl) (U6 true)) (A5 (BD Aa.toXCall.own rfl (AW (Ab (!hr) (!0) A6)) (Ax 2 Fp.nd rfl (zaz rfl)) (A7 (AX (IB (c:=true) (An (Ac Aa.toXCall (Et T) (-hr) rfl (A4 (!2) A9) rfl))) (A7 (Ny (!hr) (Bz 1 (pv 1)) (AK (A4 (Ab (!hr) (!2) A6) (A4 (Ab (!hr) (!2) A6) A9))) Cq)) Au))) (A7 (CC 1 (pv 1)))))),?_⟩;intro m rs hm Aw;rfl';refine B7 ?_;apply wp_step
 ·rfl
 have n1:AM (Am m rs) (.int 1)=.ok (.lst (rs.map C9)):=rfl;refine BI (I:=λ ρ=>∃s2,ρ=[‹Am m rs›,some (.ow (.tree none (.BB true ((Ck rs).map pD) ((DU (Ck rs)).map .sh)))),s2]) ?_ ?_
 ·simp_arith[n1];refine BE (λ i ρ=>∃s2,ρ=[‹Am m rs›,some (.ow (.tree none (.BB true ((Ck (rs.take i)).map pD) ((DU (Ck (rs.take i))).map .sh)))),s2]) ⟨none,rfl⟩ ?_ ?_
  ·rintro i d ρ hd ⟨s2,rfl⟩;rw[zam] at hd;cases hq:rs[i]? with
   |none=>rw[hq] at hd;cases hd
   |some r =>
    rw[hq] at hd;cases hd;have hr:=zao hq;have et:rs.take (i+1)=rs.take i++[r]:=by rw[zc4,hq];rfl
    have eb:Ck (rs.take (i+1))=(match r.l with|none=>Ck (rs.take i)|some _=>Mc (Ck (rs.take i)) (r.a,r.b)):=by
     unfold Ck;rw[et,List.foldl_append];rfl
    have sx:=Um (m:=m) (rs:=rs.take i) λ r' h'=>Aw r' (zcd h');have hlen:=sx.len hm;have h1:=Eu r;refine⟨_,rfl,?_⟩;cases hl:r.l with
    |none =>
     have e1:BY r=none:=by unfold BY;rw[hl]
     rw[hl] at eb;rw[e1] at h1;simp_arith[h1,cst,B0];exact⟨_,by rw[eb]⟩
    |some l =>
     have e1:BY r=some (l,1):=by unfold BY;rw[hl]
     rw[hl] at eb;rw[e1] at h1;have i0:AM (C9 r) (.int 0)=.ok (.int r.a):=rfl;have i1:AM (C9 r) (.int 1)=.ok (.int r.b):=rfl;have kk:keyOk true (D.tup [.int r.a,.int r.b])=true/\((Ck (rs.take i)).map pD).length<1000:=⟨rfl,by rw[za2];exact hlen⟩;have pp:putD ((Ck (rs.take i)).map pD) (DU (Ck (rs.take i))) (D.tup [.int r.a,.int r.b]) (.bl true)=_:=XO (Ck (rs.take i)) (r.a,r.b);simp_arith[h1,cst,B0,zcv,if_true,i0,i1,if_pos kk,pp];exact⟨_,by rw[eb]⟩
  ·rintro ρ ⟨s2,rfl⟩;rw[za2,zbx];exact⟨s2,rfl⟩
 ·rintro ρ ⟨s2,rfl⟩;exact⟨_,rfl,rfl⟩
noncomputable def MY:=za6 Fx
theorem QG:FT "first_bows" 2 1 MY:=(za1 Fx).1
theorem QH:LJ MY:=(za1 Fx).2
def Ik (F:List D->M OT):Prop:=∀(B:List (Int×Int)) (vs:List D) (L:List Int) (v:Int),L.length<=30->F [.BB true (B.map pD) vs,.lst (L.map .int),.int v]=.ok (.lst (((Bg B L v).map pD).map .sh))
theorem Eg:∃F,FT "missing_bows" 1 3 F/\Ik F:=by
 refine⟨_,λ T=>Ay (k:=0) T.Pw C3 _ (λ f B5 A outer s H E hr=>(A5 (Gg (NB:=["u","bows","place"]) 3 [none,some 0,some 2] C3.nd rfl (zaz rfl) rfl (AW (!1)) rfl rfl (Bt 0 (by decide) rfl rfl rfl) (λ _ _ _ _=>En (JI (c:=true) (!hr) (AK (A4 (!0) (A4 (!2) A9))) (!1))) (λ _ _ _ _=>(!0))) (A5 (Gg (NB:=["w","bows","place"]) 4 [none,some 0,some 2] C3.nd rfl (zaz rfl) rfl (AW (!1)) rfl rfl (Bt 0 (by decide) rfl rfl rfl) (λ _ _ _ _=>En (JI (c:=true) (!hr) (AK (A4 (!2) (A4 (!0) A9))) (!1))) (λ _ _ _ _=>(!0))) (A5 (By 5 C3.nd rfl (zaz rfl) (EI BX)) (A5 (BD Aa.toXCall.own rfl (AW (!3)) (Ax 6 C3.nd rfl (Or.inr rfl)) (A7 (W4 (Bz 5 (pv 5)) (by exact (DK (NB:=["w","u","bows"]) [none,some 6,some 0] rfl (AW (!4)) rfl rfl (Bt 0 (by decide) rfl rfl rfl) (λ _ _ _ _=>En (DW.dt (Hn (Eh (c:=true) (!hr) (!1) (!0)) (Gd (Kl (c:=true) (!hr) (AK (A4 (!1) (A4 (!0) A9))) (!2)))))) (λ _ _ _ _=>(AK (A4 (!1) (A4 (!0) A9))))))))) (A7 (CC 5 (pv 5)))))))),?_⟩;intro B vs L v hl;rfl';refine B7 ?_;have hL:(L.map D.int).length<=1000:=by rw[za2];omega
 apply wp_step
 ·simp_arith[if_pos hL];rw[BJ (λ u=>decide ((u,v)∈B)) D.int (λ u hu=>⟨_,rfl,by simp[wZ,xA,NP,zah,zae,M.Ad,IF,IE,Kj,KD,KG,KH,NE,JJ,M9,Rc,Kt,Ku,II,Xo,NA,NC,Kv,kZ,IJ,IK,Gi,Sn,Ds,So,Kw,Kx,IL,Xr,Ks,DR,toCl_list,toCl_listP,toCl_dct,NF,KI,KJ,KL,KN,NG,KO,KQ,KR,tW,tV,Ky,Xs,Kz,Xu,KA,KC,ND,Xv,yL,yM,lC,lD,lE,lF,lG,lH,toCl_nil,Kd,GJ,Qn,Sq,IM,NH,NI,KS,KU,NJ,NK,NL,NM,NO,KW,KY,KZ,L0,IQ,IR,IS,IT,IU,L4,IV,IW,Xw,Xx,Xy,Xz,XA,IX,ite_tt,ite_ff,Bool.not_true,zcv,zbb,zau,FQ,HM,Lb,lB,lZ,lA,mD,mE,mF,NT,SG,SH,SI,EA,J1,NW,Sv,mQ,XY,SM,Sx],λ _=>by simp_arith[]⟩)];simp_arith[];rfl
 apply wp_step
 ·simp_arith[if_pos hL];rw[BJ (λ w=>decide ((v,w)∈B)) D.int (λ u hu=>⟨_,rfl,by simp[wZ,xA,NP,zah,zae,M.Ad,IF,IE,Kj,KD,KG,KH,NE,JJ,M9,Rc,Kt,Ku,II,Xo,NA,NC,Kv,kZ,IJ,IK,Gi,Sn,Ds,So,Kw,Kx,IL,Xr,Ks,DR,toCl_list,toCl_listP,toCl_dct,NF,KI,KJ,KL,KN,NG,KO,KQ,KR,tW,tV,Ky,Xs,Kz,Xu,KA,KC,ND,Xv,yL,yM,lC,lD,lE,lF,lG,lH,toCl_nil,Kd,GJ,Qn,Sq,IM,NH,NI,KS,KU,NJ,NK,NL,NM,NO,KW,KY,KZ,L0,IQ,IR,IS,IT,IU,L4,IV,IW,Xw,Xx,Xy,Xz,XA,IX,ite_tt,ite_ff,Bool.not_true,zcv,zbb,zau,FQ,HM,Lb,lB,lZ,lA,mD,mE,mF,NT,SG,SH,SI,EA,J1,NW,Sv,mQ,XY,SM,Sx],λ _=>by simp_arith[]⟩)];simp_arith[];rfl
 apply wp_step
 ·rfl
 try simp only[zah,zae]
 have vj:((L.filter λ w=>decide ((v,w)∈B)).map D.int).length<=1000:=by rw[za2];exact zbq (zcz _ _) (by omega)
 have hlen:=Za B L v;have j2:L.length*L.length<=30*30:=Nat.mul_le_mul hl hl;generalize hA:L.filter (λ u=>decide ((u,v)∈B))=A;generalize hW:L.filter (λ w=>decide ((v,w)∈B))=W at vj ⊢;obtain⟨G,hG⟩:∃G:Int->List (Int×Int),G=λ u=>((W.filter λ w=>decide (u≠w) && !decide ((u,w)∈B)).map λ w=>(u,w)):=⟨_,rfl⟩;have fj:Bg B L v=A.flatMap G:=by unfold Bg;rw[hA,hW,hG]
 refine BI (I:=λ ρ=>∃s6,ρ=[‹.BB true (B.map pD) vs›,‹.lst (L.map .int)›,‹.int v›,‹.lst (A.map .int)›,‹.lst (W.map .int)›,some (.own ((A.flatMap G).map pD)),s6]) ?_ ?_
 ·simp_arith[];refine BE (λ i ρ=>∃s6,ρ=[‹.BB true (B.map pD) vs›,‹.lst (L.map .int)›,‹.int v›,‹.lst (A.map .int)›,‹.lst (W.map .int)›,some (.own (((A.take i).flatMap G).map pD)),s6]) ⟨none,rfl⟩ ?_ ?_
  ·rintro i d ρ hd ⟨s6,rfl⟩;obtain⟨u,hu,rfl⟩:=Bm hd;have et:A.take (i+1)=A.take i++[u]:=by rw[zc4,hu];rfl
   refine⟨_,rfl,?_⟩;have hb:(((A.take i).flatMap G).map pD).length+((G u).map pD).length<=1000:=by
    have h1:((A.take (i+1)).flatMap G).length<=(A.flatMap G).length:=by
     conv=>rhs;rw[<-zc9 (i+1) A,List.flatMap_append,zaj]
     omega
    rw[et,List.flatMap_append,zaj] at h1;rw[fj] at hlen;simp only[List.flatMap_cons,List.flatMap_nil,zb8] at h1;rw[za2,za2];omega
   have lr:(((W.filter λ w=>decide (u≠w) && !decide ((u,w)∈B)).map λ w=>(u,w)).map pD)=(W.filter λ w=>decide (u≠w) && !decide ((u,w)∈B)).map λ w=>D.tup [.int u,.int w]:=by rw[zbv];rfl
   refine Bb (ρ':=[‹.BB true (B.map pD) vs›,‹.lst (L.map .int)›,‹.int v›,‹.lst (A.map .int)›,‹.lst (W.map .int)›,some (.own (((A.take (i+1)).flatMap G).map pD)),‹.int u›]) ?_ ⟨_,rfl⟩;simp_arith[if_pos vj];rw[BJ (λ w=>decide (u≠w) && !decide ((u,w)∈B)) (λ w=>D.tup [.int u,.int w]) (λ w hw=>⟨_,rfl,by
    simp[wZ,xA,NP,zah,zae,M.Ad,IF,IE,Kj,KD,KG,KH,NE,JJ,M9,Rc,Kt,Ku,II,Xo,NA,NC,Kv,kZ,IJ,IK,Gi,Sn,Ds,So,Kw,Kx,IL,Xr,Ks,DR,toCl_list,toCl_listP,toCl_dct,NF,KI,KJ,KL,KN,NG,KO,KQ,KR,tW,tV,Ky,Xs,Kz,Xu,KA,KC,ND,Xv,yL,yM,lC,lD,lE,lF,lG,lH,toCl_nil,Kd,GJ,Qn,Sq,IM,NH,NI,KS,KU,NJ,NK,NL,NM,NO,KW,KY,KZ,L0,IQ,IR,IS,IT,IU,L4,IV,IW,Xw,Xx,Xy,Xz,XA,IX,ite_tt,ite_ff,Bool.not_true,zcv,zbb,zau,FQ,HM,Lb,lB,lZ,lA,mD,mE,mF,NT,SG,SH,SI,EA,J1,NW,Sv,mQ,XY,SM,Sx,VO,S7,Cc,Br];by_cases h:u=w<;>simp[h],λ _=>by simp_arith[]⟩)]
   rw[<-lr];have ym:((W.filter λ w=>decide (u≠w) && !decide ((u,w)∈B)).map λ w=>(u,w))=G u:=by rw[hG]
   rw[ym];simp_arith[if_pos hb];rw[et,List.flatMap_append,List.flatMap_cons,List.flatMap_nil,zb8,<-zay]
  ·rintro ρ ⟨s6,rfl⟩;rw[za2,zbx];exact⟨s6,rfl⟩
 ·rintro ρ ⟨s6,rfl⟩;rw[fj];exact⟨_,rfl,rfl⟩
noncomputable def Jq:=za6 Eg
theorem GW:FT "missing_bows" 1 3 Jq:=(za1 Eg).1
theorem GX:Ik Jq:=(za1 Eg).2
def PQ (F:List D->M OT):Prop:=∀(B:List (Int×Int)) (vs:List D) (L:List Int),L≠[]->L.length<=30->F [.BB true (B.map pD) vs,.lst (L.map .int)]=.ok (.sh (.int (BH B L)))
theorem Il:∃F,FT "lightest" 2 2 F/\PQ F:=by
 refine⟨_,λ T=>Ay (k:=1) T.Wz UL _ (λ f B5 A outer s H E hr=>(A7 (Ag (AE (Ab (!hr) (kQ rfl (!hr) rfl T.gW (An (DK (NB:=["place","bows","left"]) [none,some 0,some 1] rfl (AW (!1)) rfl rfl (Bt 0 (by decide) rfl rfl rfl) (λ _ _ _ _=>DJ) (λ _ _ _ _=>(AK (A4 (Dp rfl T.FZ (An (C8 (Ac (Bn rfl).toXCall (GW T) (-hr) rfl (A4 (!1) (A4 (!2) (A4 (!0) A9))) rfl)))) (A4 (!0) A9))))))) A6))))),?_⟩;intro B vs L ad hl;rfl';refine B7 ?_;have hL:(L.map D.int).length<=1000:=by rw[za2];omega
 simp_arith[if_pos hL];rw[BK (λ p=>D.tup ([((Bg B L p).length:Int),p].map D.int)) (λ p hp=>⟨_,rfl,rfl,by
  have h1:=GX B vs L p hl;simp_arith[h1,VP,za2,za5,zcy]⟩)]
 simp_arith[Xm];rw[Rm];have hb:=Zb (λ p=>D.tup ([((Bg B L p).length:Int),p].map D.int)) (L.map λ p=>(p,[((Bg B L p).length:Int),p]));rw[zbv] at hb;have e2:((λ b:Int×List Int=>(D.tup ([((Bg B L b.1).length:Int),b.1].map D.int),b.2)) ∘ λ p=>(p,[((Bg B L p).length:Int),p]))=λ p=>(D.tup ([((Bg B L p).length:Int),p].map D.int),[((Bg B L p).length:Int),p]):=rfl;rw[e2] at hb;dsimp only;rw[hb];unfold BH;cases q:Bj (L.map λ p=>(p,[((Bg B L p).length:Int),p])) with
 |none=>exact (Od (λ z=>ad (List.map_eq_nil_iff.mp z)) q).elim
 |some k =>
  simp only[zbo,M.Ad];rfl
noncomputable def RM:=za6 Il
theorem V6:FT "lightest" 2 2 RM:=(za1 Il).1
theorem V7:PQ RM:=(za1 Il).2
def V8 (F:List D->M OT):Prop:=∀(m:Nat) (rs:List Road),m<=20->(∀r∈rs,JK m r/\r.a≠r.b)->F [Am m rs]=.ok (.lst (((Zd m (Ck rs) (Bp m)).map D.int).map .sh))
theorem Mx:∃F,FT "ranked" 3 1 F/\V8 F:=by
 refine⟨_,λ T=>Ay (k:=2) T.gR EB _ (λ f B5 A outer s H E hr=>(A5 (By 1 EB.nd rfl (zaz rfl) (Ac Aa.toXCall (QG T) (-hr) rfl (A4 (!0) A9) rfl)) (A5 (By 2 EB.nd rfl (zaz rfl) (Ko rfl rfl T.ES rfl T.Es (Ab (!hr) (!0) A6))) (A5 (By 3 EB.nd rfl (zaz rfl) (EI BX)) (A5 (Ke Aa.toXCall.own (Hx (Be (c:=true) (!2))) (A5 (AL 4 EB.nd rfl (zaz rfl) (An (EJ (Ac Aa.toXCall (V6 T) (-hr) rfl (A4 (!1) (A4 (!2) A9)) rfl)))) (A5 (BD Aa.toXCall.own rfl (AW (An (EJ (Ac Aa.toXCall (GW T) (-hr) rfl (A4 (!1) (A4 (!2) (A4 (!4) A9))) rfl)))) (Ax 5 EB.nd rfl (zaz rfl)) (A7 (Ny (!hr) (Bz 1 (pv 1)) (!5) Cq))) (A5 (YX (Bz 2 (pv 2)) (!4)) (A7 (FF 3 (pv 3) (!4))))))) (A7 (CC 3 (pv 3)))))))),?_⟩;intro m rs hm Aw;rfl';refine B7 ?_;have h1:=QH m rs hm Aw;have n0:AM (Am m rs) (.int 0)=.ok (.int m):=rfl;have h2:=Sl (n:=m) (by omega);rw[OO] at h2;apply wp_step
 ·simp_arith[h1];rfl
 apply wp_step
 ·simp_arith[n0,h2];rfl
 apply wp_step
 ·rfl
 try simp only[zah,zae]
 refine BI (I:=λ ρ=>∃s1 s2 s4 s5,ρ=[‹Am m rs›,s1,s2,some (.own ((Zd m (Ck rs) (Bp m)).map D.int)),s4,s5]) ?_ ?_
 ·refine Kr (lt:=λ a b:Nat=>a<b) (λ n ρ=>∃(B:List (Int×Int)) (L O:List Int) (s4 s5:Option Cl),ρ=[‹Am m rs›,some (.ow (.tree none (.BB true (B.map pD) ((DU B).map .sh)))),some (.own (L.map D.int)),some (.own (O.map D.int)),s4,s5]/\L.length=n/\n+O.length=m/\Cv m B/\(∀p∈L,0<=p/\p<(m:Int))/\O++Zd n B L=Zd m (Ck rs) (Bp m)) (Nat.lt_wfRel.wf.apply m) ⟨Ck rs,Bp m,[],none,none,rfl,DV m,by simp,Um Aw,λ p hp=>FO.mp hp,rfl⟩ ?_;rintro n ρ ⟨B,L,O,s4,s5,rfl,hn,hO,hB,hL,dw⟩;by_cases ke:L=[]
  ·subst ke;left;have:n=0:=by simpa using hn.symm
   subst this;rw[Zd,zb8] at dw;exact⟨rfl,⟨_,_,_,_,by rw[dw]⟩⟩
  ·right;have kg:L.length<=30:=by omega
   have q1:=V7 B (DU B) L ke kg;have q2:=GX B (DU B) L (BH B L) kg;obtain⟨aK,_⟩:=Rp (B:=B) ke;have kh:0<L.length:=List.length_pos_of_mem aK;obtain⟨n',rfl⟩:∃n',n=n'+1:=⟨n-1,by omega⟩;rw[Zd,if_neg ke] at dw;constructor
   ·simp_arith[Ua];cases L with
    |nil=>exact (ke rfl).elim
    |cons x r=>rfl
   apply wp_step
   ·simp_arith[q1,rS lJ];rfl
   try simp only[zah,zae]
   have e9:Kg ((Bg B L (BH B L)).map pD)=true:=U8 fF _;refine BI (I:=λ ρ=>∃s5,ρ=[‹Am m rs›,some (.ow (.tree none (.BB true ((Cu B (Bg B L (BH B L))).map pD) ((DU (Cu B (Bg B L (BH B L)))).map .sh)))),some (.own (L.map D.int)),some (.own (O.map D.int)),‹.int (BH B L)›,s5]) ?_ ?_
   ·simp_arith[q2,lI e9];refine BE (λ i ρ=>∃s5,ρ=[‹Am m rs›,some (.ow (.tree none (.BB true ((Cu B ((Bg B L (BH B L)).take i)).map pD) ((DU (Cu B ((Bg B L (BH B L)).take i))).map .sh)))),some (.own (L.map D.int)),some (.own (O.map D.int)),‹.int (BH B L)›,s5]) ⟨s5,rfl⟩ ?_ ?_
    ·rintro i d ρ hd ⟨s5,rfl⟩;obtain⟨p,hp,rfl⟩:=Bm hd;refine⟨_,rfl,?_⟩;have yn:Cv m (Cu B ((Bg B L (BH B L)).take i)):=hB.Cu λ q hq=>by
      have:=Ro (zcd hq);exact⟨this.2.2,hL _ this.1,hL _ this.2.1⟩
     have kk:keyOk true (pD p)=true/\((Cu B ((Bg B L (BH B L)).take i)).map pD).length<1000:=⟨rfl,by rw[za2];exact yn.len hm⟩;have et:(Bg B L (BH B L)).take (i+1)=(Bg B L (BH B L)).take i++[p]:=by rw[zc4,hp];rfl
     have ea:Cu B ((Bg B L (BH B L)).take (i+1))=Mc (Cu B ((Bg B L (BH B L)).take i)) p:=by
      unfold Cu;rw[et,List.foldl_append];rfl
     simp_arith[if_pos kk,XO];exact⟨_,by rw[ea]⟩
    ·rintro ρ ⟨s5,rfl⟩;rw[za2,zbx];exact⟨s5,rfl⟩
   ·rintro ρ ⟨s5,rfl⟩;have yo:(O.map D.int).length<1000:=by rw[za2];omega
    apply wp_step
    ·simp_arith[FH,if_pos aK];rfl
    refine Bb (ρ':=[‹Am m rs›,some (.ow (.tree none (.BB true ((Cu B (Bg B L (BH B L))).map pD) ((DU (Cu B (Bg B L (BH B L)))).map .sh)))),some (.own ((L.erase (BH B L)).map D.int)),some (.own ((O++[BH B L]).map D.int)),‹.int (BH B L)›,s5]) ?_ ?_
    ·simp_arith[if_pos yo,zay,za5,zcy]
    ·have hlen:=List.length_erase_of_mem aK;refine⟨n',by omega,_,_,_,_,_,rfl,by omega,by rw[zaj];simp;omega,hB.Cu λ q hq=>?_,λ p hp=>hL p (List.mem_of_mem_erase hp),?_⟩
     ·have:=Ro hq;exact⟨this.2.2,hL _ this.1,hL _ this.2.1⟩
     ·rw[zbk];exact dw
 ·rintro ρ ⟨s1,s2,s4,s5,rfl⟩;exact⟨_,rfl,rfl⟩
noncomputable def Yh:=za6 Mx
theorem ZJ:FT "ranked" 3 1 Yh:=(za1 Mx).1
theorem ZK:V8 Yh:=(za1 Mx).2
def Fj (F:List D->M OT):Prop:=∀(m:Nat) (rs:List Road),m<=20->(∀r∈rs,JK m r/\r.a≠r.b)->(∀L:List Int,L.Perm (Bp m)->F [Am m rs,.lst (L.map .int)]=.ok (.lst ((L.map D.int).map .sh)))/\F [Am m rs,.AJ]=.ok (.lst (((Zd m (Ck rs) (Bp m)).map D.int).map .sh))
theorem CK:∃F,FT "order_or_ranked" 4 2 F/\Fj F:=by
 refine⟨_,λ T=>Ay (k:=3) T.Lq JM _ (λ f B5 A outer s H E hr=>(A5 (AX (Dn (c:=true) (!1)) (A7 (Ag (Ac Aa.toXCall (ZJ T) (-hr) rfl (A4 (!0) A9) rfl))) Au) (A7 (Ag (Ac Aa.toXCall (Mv T) (-hr) rfl (A4 (!0) (A4 (!1) A9)) rfl))))),?_⟩;intro m rs hm Aw;have h1:=ZK m rs hm Aw;refine⟨λ L hL=>?_,?_⟩
 ·have h2:F3 [Am m rs,.lst (L.map .int)]=.ok (.lst ((L.map D.int).map .sh)):=Mw m (.lst (rs.map C9)) L (by omega) hL;rfl';refine B7 ?_;apply wp_step
  ·rfl
  simp_arith[h2];exact⟨_,rfl,rfl⟩
 ·rfl';refine B7 ?_;simp_arith[B0,h1];exact⟨_,rfl,rfl⟩
noncomputable def DF:=za6 CK
theorem JV:FT "order_or_ranked" 4 2 DF:=(za1 CK).1
theorem F4:Fj DF:=(za1 CK).2
def MZ (F:List D->M OT):Prop:=∀(m:Nat) (rs:List Road) (A:LA),m<=20->(∀r∈rs,JK m r)->Hb m A->∃K:List (Int×Int),F [Am m rs,Qq A]=.ok (.lst ((K.map pD).map .sh))/\K.Nodup/\∀p,p∈K↔KP rs A p
theorem Gx:∃F,FT "kept_arcs" 3 2 F/\MZ F:=by
 refine⟨_,λ T=>Ay (k:=2) T.UR Er _ (λ f B5 A outer s H E hr=>(A5 (By 2 Er.nd rfl (zaz rfl) (EI BX)) (A5 (BD Aa.toXCall.own rfl (Dr (c:=true) rfl T.Es (Ab (!hr) (!0) A6)) (Ax 3 Er.nd rfl (Or.inr rfl)) (A5 (AL 4 Er.nd rfl (Or.inr rfl) (An (Ac Aa.toXCall (QD T) (-hr) rfl (A4 (!0) (A4 (!3) A9)) rfl))) (A7 (W4 (Bz 2 (pv 2)) (by exact (DK (NB:=["w","u","laid","costs"]) [none,some 3,some 1,some 4] rfl (Dr (c:=true) rfl T.Es (Ab (!hr) (!0) A6)) rfl rfl (Bt 0 (by decide) rfl rfl rfl) (λ _ _ _ _=>En (DW.dt (Hn (JI (c:=true) (!hr) (AK (A4 (!1) (A4 (!0) A9))) (!2)) (Gd (Kb (c:=true) (!hr) (Ab (!hr) (Ab (!hr) (!2) (AK (A4 (!1) (A4 (!0) A9)))) A6) (Ab (!hr) (!3) (!0))))))) (λ _ _ _ _=>(AK (A4 (!1) (A4 (!0) A9)))))))))) (A7 (CC 2 (pv 2)))))),?_⟩;intro m rs A hm Aw hA;rfl';refine (λ h:∃t,_/\∃K:List (Int×Int),t=.lst ((K.map pD).map .sh)/\K.Nodup/\∀p,p∈K↔KP rs A p=>by
  obtain⟨t,h1,K,rfl,h2⟩:=h;exact⟨K,h1,h2⟩) (HG ?_)
 have n0:AM (Am m rs) (.int 0)=.ok (.int m):=rfl;have hr:TU (.int (m:Int))=.ok ((Bp m).map D.int):=by rw[Ho (by omega),Wn]
 have hl:((Bp m).map D.int).length<=1000:=by rw[za2,DV];omega
 apply wp_step
 ·rfl
 try simp only[zah,zae]
 refine BI (I:=λ ρ=>∃(K:List (Int×Int)) (s3 s4:Option Cl),ρ=[‹Am m rs›,‹Qq A›,some (.own (K.map pD)),s3,s4]/\K.Nodup/\∀p,p∈K↔KP rs A p) ?_ ?_
 ·simp_arith[n0,hr];refine BE (λ i ρ=>i<=m/\∃(K:List (Int×Int)) (s3 s4:Option Cl),ρ=[‹Am m rs›,‹Qq A›,some (.own (K.map pD)),s3,s4]/\K.Nodup/\∀p,p∈K↔(p.1<i/\KP rs A p)) ⟨zbc _,[],none,none,rfl,zbz,λ p=>⟨(λ h=>by cases h),λ h=>by
   obtain⟨c,hc,_⟩:=h.2;have:=(hA.rg p (EQ hc)).2.1;omega⟩⟩ ?_ ?_
  ·rintro i d ρ hd ⟨hi,K,s3,s4,rfl,hn,hK⟩;obtain⟨u,hu,rfl⟩:=Bm hd;have af:i<m:=by have:=(zai.mp hu).1;rw[DV] at this;exact this
   have eu:u=(i:Int):=by
    unfold Bp at hu;rw[zam,zc6 af] at hu;exact (zas hu).symm
   subst eu;obtain⟨cs,hR,hF⟩:=Jo m i rs af (by omega) Aw;refine⟨_,rfl,?_⟩;apply wp_step
   ·simp_arith[hF];rfl
   try simp only[zah,zae]
   obtain⟨W,hW⟩:∃W,W=(Bp m).filter λ w=>xK A cs i w:=⟨_,rfl⟩;have vk:∀w,w∈W↔KP rs A ((i:Int),w):=λ w=>by
    rw[hW,zb2,FO];constructor
    ·rintro ⟨hw,h⟩;exact (fT hR Aw hw.1 hw.2).mp h
    ·intro h;obtain⟨c,hc,_⟩:=id h;have:=(hA.rg _ (EQ hc)).2.2;exact⟨this,(fT hR Aw this.1 this.2).mpr h⟩
   have yp:W.Nodup:=by rw[hW];exact (OP m).filter _
   have aw:(K++W.map λ w=>((i:Int),w)).Nodup:=by
    rw[zax];refine⟨hn,List.pairwise_map.mpr (yp.imp fun {a b} j0 e=>j0 (by cases e;rfl)),λ x hx y hy e=>?_⟩;subst e;obtain⟨w,_,rfl⟩:=zaq.mp hy;have:=(hK _).mp hx;simp at this
   have vm:∀p,p∈K++W.map (λ w=>((i:Int),w))↔(p.1<((i+1:Nat):Int)/\KP rs A p):=λ p=>by
    rw[zan,hK];constructor
    ·rintro (h|h)
     ·exact⟨by have:=h.1;omega,h.2⟩
     ·obtain⟨w,hw,rfl⟩:=zaq.mp h;exact⟨by dsimp only;omega,(vk w).mp hw⟩
    ·rintro ⟨h1,h2⟩;by_cases e:p.1<(i:Int)
     ·exact .inl ⟨e,h2⟩
     ·have e2:p.1=(i:Int):=by omega
      obtain⟨p1,p2⟩:=p;dsimp only at e2;subst e2;exact .inr (zaq.mpr ⟨p2,(vk p2).mpr h2,rfl⟩)
   have hlen:=sR hA hm aw λ p hp=>((vm p).mp hp).2;have hb:(K.map pD).length+((W.map λ w=>((i:Int),w)).map pD).length<=1000:=by
    rw[zaj] at hlen;rw[za2,za2];omega
   refine Bb (ρ':=[‹Am m rs›,‹Qq A›,some (.own ((K++W.map λ w=>((i:Int),w)).map pD)),‹.int i›,‹.lst (cs.map cst)›]) ?_ ⟨af,_,_,_,rfl,aw,vm⟩;have t1:∀a b:Int,D.tup [.int a,.int b]=pD (a,b):=λ a b=>rfl;simp_arith[n0,hr,if_pos hl];rw[BJ (λ w=>xK A cs i w) (λ w=>pD ((i:Int),w)) (λ w hw=>⟨_,rfl,by
    have vn:=FO.mp hw;have x1:AM (.lst (cs.map cst)) (.int w)=.ok (cst (atC cs w)):=Cj vn.1 (by rw[hR.1];exact vn.2);have dr:=SJ A ((i:Int),w) false;unfold xK Ae;cases q:As A ((i:Int),w) with
    |none =>
     rw[q] at dr;simp_arith[t1,dr];rfl
    |some v =>
     rw[q] at dr;have hit:=OU q;have h0:AM (Wf v) (.int 0)=.ok (cst (some v.1)):=rfl;have he:=La (some v.1) (atC cs w);simp_arith[t1,dr,hit,h0,x1,he];rfl,λ _=>by simp_arith[t1]⟩)]
   rw[<-hW];have ew:W.map (λ w=>pD ((i:Int),w))=(W.map λ w=>((i:Int),w)).map pD:=by rw[zbv];rfl
   rw[ew];simp_arith[if_pos hb];rw[<-zay]
  ·rintro ρ ⟨_,K,s3,s4,rfl,hn,hK⟩;refine⟨K,s3,s4,rfl,hn,λ p=>(hK p).trans ⟨λ h=>h.2,λ h=>⟨?_,h⟩⟩⟩;obtain⟨c,hc,_⟩:=h;have:=(hA.rg p (EQ hc)).2.1;rw[za2,DV];omega
 ·rintro ρ ⟨K,s3,s4,rfl,hn,hK⟩;exact⟨_,rfl,K,rfl,hn,hK⟩
noncomputable def PR:=za6 Gx
theorem T6:FT "kept_arcs" 3 2 PR:=(za1 Gx).1
theorem T7:MZ PR:=(za1 Gx).2
def Fl (F:OT->List D->M (OT×OT)):Prop:=∀(m:Nat) (rs:List Road) (o:D) (L:List Int),1<=m->m<=16->rs.length<=60->(∀r∈rs,Md m r)->L.Perm (Bp m)->(o=.lst (L.map D.int)\/(o=.AJ/\L=Zd m (Ck rs) (Bp m)))->∃(A:LA) (K:List (Int×Int)),Bc m rs L A K/\∃t,F (.ins "Ladder" [] []) [Am m rs,o]=.ok (t,.sh .AJ)/\er t=B9 m rs L A K
theorem CL:∃F:OT->List D->M (OT×OT),(∀ {P w K mg base},Txt K mg->Rk P w K mg base "Ladder" 6 3 F)/\Fl F:=by
 refine⟨_,λ T=>fA (k:=5) T.Lu JN _ (λ f B5 A outer s H E hr=>(A5 (NQ ["Ladder"] (Bf T.Bs BG) (Bz 0 (pv 0)) (An (Ac Aa.toXCall (WM T) (-hr) rfl (A4 (!1) A9) rfl))) (A5 (NQ ["Ladder"] (Bf T.CI BG) (Bz 0 (pv 0)) (An (EJ (Ac Aa.toXCall (JV T) (-hr) rfl (A4 (Dt ["Ladder"] (Bf T.Bs BG) (!0)) (A4 (!2) A9)) rfl)))) (A5 (NQ ["Ladder"] (Bf T.C4 BG) (Bz 0 (pv 0)) (An (EJ (Ac Aa.toXCall (T4 T) (-hr) rfl (A4 (Dt ["Ladder"] (Bf T.Bs BG) (!0)) (A4 (Dt ["Ladder"] (Bf T.CI BG) (!0)) A9)) rfl)))) (A7 (NQ ["Ladder"] (Bf T.ET BG) (Bz 0 (pv 0)) (An (EJ (Ac Aa.toXCall (T6 T) (-hr) rfl (A4 (Dt ["Ladder"] (Bf T.Bs BG) (!0)) (A4 (Dt ["Ladder"] (Bf T.C4 BG) (!0)) A9)) rfl))))))))),?_⟩;intro m rs o L bH c3 sy gn hL ho;dsimp only;have Aw:∀r∈rs,JK m r/\r.a≠r.b:=λ r hr=>(gn r hr).okR;have h1:=WN m rs bH c3 sy gn;have h2:DF [Am m rs,o]=.ok (.lst ((L.map D.int).map .sh)):=by
  rcases ho with rfl|⟨rfl,rfl⟩
  ·exact (F4 m rs (by omega) Aw).1 L hL
  ·exact (F4 m rs (by omega) Aw).2
 have h3:=T5 m rs L (by omega) hL Aw;have hA:=(Lg hL Aw).1;obtain⟨K,h4,hn,hK⟩:=T7 m rs (Bu rs L) (by omega) (λ r hr=>(Aw r hr).1) hA;refine⟨Bu rs L,K,⟨bH,c3,sy,Aw,hL,rfl,hn,hK⟩,.ins "Ladder" ["own_map","own_order","laid","kept_ones"] [.sh (Am m rs),.sh (.lst (L.map D.int)),.sh (Qq (Bu rs L)),.sh (.lst (K.map pD))],?_,rfl⟩;have e0:Dh ["self","net","order"] (.ins "Ladder" [] []) [Am m rs,o]=[some (.ow (.tree (some 0) (.ins "Ladder" [] []))),‹Am m rs›,‹o›]:=rfl;rw[e0];refine Wm ?_;have e1:er (.tup [.sh (.int m),.lst ((rs.map C9).map .sh)])=Am m rs:=by rw[mC,Rc,M9];rfl
 have T:∀(ns:List Str) (ds:List D),er (.ins "Ladder" ns (ds.map .sh))=.ins "Ladder" ns ds:=λ ns ds=>by rw[er,Hz]
 have T1:=T ["own_map"] [Am m rs];have T2:=T ["own_map","own_order"] [Am m rs,.lst (L.map D.int)];have T3:=T ["own_map","own_order","laid"] [Am m rs,.lst (L.map D.int),Qq (Bu rs L)];simp only[za5,zcy] at T1 T2 T3;have d1:=fU L;have d2:=mM (Bu rs L);have d3:=mL K;have f1:Na ["Ladder"] "own_map" (.ins "Ladder" ["own_map"] [Am m rs])=.ok (Am m rs):=rfl;have f2:Na ["Ladder"] "own_map" (.ins "Ladder" ["own_map","own_order"] [Am m rs,.lst (L.map D.int)])=.ok (Am m rs):=rfl;have f3:Na ["Ladder"] "own_order" (.ins "Ladder" ["own_map","own_order"] [Am m rs,.lst (L.map D.int)])=.ok (.lst (L.map D.int)):=rfl;have f4:Na ["Ladder"] "own_map" (.ins "Ladder" ["own_map","own_order","laid"] [Am m rs,.lst (L.map D.int),Qq (Bu rs L)])=.ok (Am m rs):=rfl;have f5:Na ["Ladder"] "laid" (.ins "Ladder" ["own_map","own_order","laid"] [Am m rs,.lst (L.map D.int),Qq (Bu rs L)])=.ok (Qq (Bu rs L)):=rfl;refine wp_step (ρ':=[some (.ow (.tree (some 0) (.ins "Ladder" ["own_map"] [.sh (Am m rs)]))),‹Am m rs›,‹o›]) (by simp_arith[h1,e1];rfl) ?_;refine wp_step (ρ':=[some (.ow (.tree (some 0) (.ins "Ladder" ["own_map","own_order"] [.sh (Am m rs),.sh (.lst (L.map D.int))]))),‹Am m rs›,‹o›]) (by simp_arith[T1,f1,h2,d1];rfl) ?_;refine wp_step (ρ':=[some (.ow (.tree (some 0) (.ins "Ladder" ["own_map","own_order","laid"] [.sh (Am m rs),.sh (.lst (L.map D.int)),.sh (Qq (Bu rs L))]))),‹Am m rs›,‹o›]) (by simp_arith[T2,f2,f3,h3,d2];rfl) ?_;refine Bb (ρ':=[some (.ow (.tree (some 0) (.ins "Ladder" ["own_map","own_order","laid","kept_ones"] [.sh (Am m rs),.sh (.lst (L.map D.int)),.sh (Qq (Bu rs L)),.sh (.lst (K.map pD))]))),‹Am m rs›,‹o›]) (by simp_arith[T3,f4,f5,h4,d3];rfl) ⟨rfl,rfl⟩
noncomputable def BS:=za6 CL
theorem CM:Txt K mg->Rk P w K mg base "Ladder" 6 3 BS:=(za1 CL).1
theorem CN:Fl BS:=(za1 CL).2
def Jr (F:List D->M OT):Prop:=∀(ns:List Int) (k:Nat),(∀n∈ns,Sm n)->∃v:Int,Sm v/\F [.lst (ns.map D.int),.int k]=.ok (.sh (.int v))
theorem F5:∃F,FT "_law_cell_at" 1 2 F/\Jr F:=by
 refine⟨_,λ T=>Ay (k:=0) T.Qz Pj _ (λ f B5 A outer s H E hr=>(A5 (AX (vZ (c:=true) (!1) (Dp rfl T.FZ (!0))) (A7 (Ag (AE (Ab (!hr) (!0) (!1))))) Au) (A7 (Ag (AE A6))))),?_⟩;intro ns k bz;rfl';by_cases hk:(k:Int)<((ns.map D.int).length:Int)
 ·have yq:=hk;rw[za2] at yq;have i1:AM (.lst (ns.map D.int)) (.int k)=.ok (.int (ns[k]'(by omega))):=Gm (by omega) (by rw[zbl];exact za8 _);refine⟨ns[k]'(by omega),bz _ (List.getElem_mem _),B7 ?_⟩;simp_arith[decide_eq_true hk,i1];rfl
 ·refine⟨0,by unfold Sm;decide,B7 ?_⟩;simp_arith[decide_eq_false hk];rfl
noncomputable def Ew:=za6 F5
theorem Im:FT "_law_cell_at" 1 2 Ew:=(za1 F5).1
theorem Io:Jr Ew:=(za1 F5).2
def N0 (F:List D->M OT):Prop:=∀c k:Int,0<=k->k<=1000->∃v:Int,0<=v/\F [.int c,.int k]=.ok (.sh (.int v))
theorem Gy:∃F,FT "_law_mixed" 1 2 F/\N0 F:=by
 refine⟨_,λ T=>Ay (k:=0) T.US Gr _ (λ f B5 A outer s H E hr=>(A5 (AL 2 Gr.nd rfl (zaz rfl) (C6 (BW (C6 (!0) A6) (Nt A6 (BW (!1) A6))) A6)) (A5 (AL 2 Gr.nd rfl (zaz rfl) (C6 (BW (BW (Nt (!2) (!2)) (Nt A6 (!1))) A6) A6)) (A7 (Ag (AE (C6 (Nt (!2) (!2)) A6))))))),?_⟩;intro c k h0 h1;rfl';have m1:Oz (.int 48271) (.int (k+1))=.ok (.int (48271*(k+1))):=Kf (.inr (.inr (.inr ⟨by omega,by omega⟩)));obtain⟨x,hx⟩:∃x,x=(c%2147483629+48271*(k+1))%2147483647:=⟨_,rfl⟩;have x0:0<=x:=by omega
 have x1:x<2147483647:=by omega
 have m2:Oz (.int x) (.int x)=.ok (.int (x*x)):=Kf (.inr (.inr (.inr ⟨by omega,by omega⟩)));have m3:Oz (.int 69621) (.int k)=.ok (.int (69621*k)):=Kf (.inr (.inr (.inr ⟨by omega,by omega⟩)));obtain⟨y,hy⟩:∃y,y=(x*x+69621*k+7)%2147483587:=⟨_,rfl⟩;have y0:0<=y:=by rw[hy];exact zca _ (by decide)
 have y1:y<2147483587:=by rw[hy];exact zcb _ (by decide)
 have m4:Oz (.int y) (.int y)=.ok (.int (y*y)):=Kf (.inr (.inr (.inr ⟨by omega,by omega⟩)));refine⟨y*y%2147483579,zca _ (by decide),?_⟩;simp[wZ,xA,m1,rA,Hk,Bk,<-hx,m2,m3,<-hy,m4,YR,dG,tV,YS]
noncomputable def PV:=za6 Gy
theorem Gz:FT "_law_mixed" 1 2 PV:=(za1 Gy).1
theorem GA:N0 PV:=(za1 Gy).2
def PX (F:List D->M OT):Prop:=∀(c k:Int) (m:Nat),2<=m->m<=16->0<=k->k<=100->∃r:Road,Md m r/\F [.int c,.int m,.int k]=.ok (.sh (C9 r))
theorem Ip:∃F,FT "_law_road" 2 3 F/\PX F:=by
 refine⟨_,λ T=>Ay (k:=1) T.WA CY _ (λ f B5 A outer s H E hr=>(A5 (AL 0 CY.nd rfl (zaz rfl) (C6 (!0) (cW A6 A6))) (A5 (AL 3 CY.nd rfl (zaz rfl) (An (Ac Aa.toXCall (Gz T) (-hr) rfl (A4 (!0) (A4 (!2) A9)) rfl))) (A5 (AL 4 CY.nd rfl (zaz rfl) (C6 (!3) (!1))) (A5 (AL 5 CY.nd rfl (zaz rfl) (C6 (BW (BW (!4) A6) (C6 (D6 (!3) A6) (rB (!1) A6))) (!1))) (A5 (AL 6 CY.nd rfl (zaz rfl) (Ab (!hr) (Hm (A4 C5 (A4 A6 (A4 A6 (A4 A6 (A4 (C6 (D6 (!3) A6) A6) (A4 (C6 (D6 (!3) A6) A6) (A4 (C6 (D6 (!3) A6) A6) (A4 (!0) A9))))))))) (C6 (D6 (!3) A6) A6))) (A7 (Ag (AE (AK (A4 (!4) (A4 (!5) (A4 (!6) (A4 (Ab (!hr) (Hm (A4 (C6 (D6 (!3) A6) A6) (A4 (D6 (!0) A6) A9))) (C6 (D6 (!3) A6) A6)) A9)))))))))))))),?_⟩;intro c k m bH c3 h0 h1;have ht:=We;rfl';obtain⟨g,hg⟩:∃g,g=c%Rr:=⟨_,rfl⟩;have g0:0<=g:=by rw[hg];exact zca _ (by omega)
 have g1:g<Rr:=by rw[hg];exact zcb _ (by omega)
 obtain⟨v,v0,hv⟩:=GA g k h0 (by omega);have m8:(0:Int)<(m:Int):=by omega
 have ko:(0:Int)<(m:Int)-1:=by omega
 obtain⟨o,ho⟩:∃o,o=v%(m:Int):=⟨_,rfl⟩;obtain⟨o',aH⟩:∃o',o'=(o+1+v / 16%((m:Int)-1))%(m:Int):=⟨_,rfl⟩;have o0:0<=o:=by rw[ho];exact zca _ (by omega)
 have o1:o<m:=by rw[ho];exact zcb _ m8
 have p0:0<=o':=by rw[aH];exact zca _ (by omega)
 have p1:o'<m:=by rw[aH];exact zcb _ m8
 have s0:0<=v / 16%((m:Int)-1):=zca _ (by omega);have s1:v / 16%((m:Int)-1)<(m:Int)-1:=zcb _ ko;have j0:o≠o':=by
  have:=rT (a:=o) (s:=1+v / 16%((m:Int)-1)) (m:=m) o0 o1 (by omega) (by omega);rw[aH,zd7];exact λ z=>this z.symm
 have kr:GG (.int v) (.int 16)=.ok (.int (v / 16)):=Cp ⟨by decide,by decide⟩;have kt:GG (.int v) (.int 2048)=.ok (.int (v / 2048)):=Cp ⟨by decide,by decide⟩;have sB:GG (.int v) (.int 256)=.ok (.int (v / 256)):=Cp ⟨by decide,by decide⟩;have ku:GG (.int v) (.int 4096)=.ok (.int (v / 4096)):=Cp ⟨by decide,by decide⟩;have yr:GG (.int v) (.int 32)=.ok (.int (v / 32)):=Cp ⟨by decide,by decide⟩;have d7:GG (.int g) (.int 7)=.ok (.int (g / 7)):=Cp ⟨by decide,by decide⟩;have q1:Hk (.int v) (.int (m:Int))=.ok (.int o):=by rw[ho];exact BP m8
 have q2:Hk (.int (v / 16)) (.int ((m:Int)-1))=.ok (.int (v / 16%((m:Int)-1))):=BP ko;have q3:Hk (.int (o+1+v / 16%((m:Int)-1))) (.int (m:Int))=.ok (.int o'):=by rw[aH];exact BP m8
 have q4:Hk (.int (v / 2048)) (.int 4)=.ok (.int (v / 2048%4)):=BP (by decide);have q5:Hk (.int (v / 2048)) (.int 100)=.ok (.int (v / 2048%100)):=BP (by decide);have q6:Hk (.int (v / 256)) (.int 8)=.ok (.int (v / 256%8)):=BP (by decide);have q8:Hk (.int (v / 4096)) (.int 5)=.ok (.int (v / 4096%5)):=BP (by decide);have q9:Hk (.int (v / 32)) (.int 2)=.ok (.int (v / 32%2)):=BP (by decide);obtain⟨l,hpl,l0⟩:=tE (a:=v / 2048%4) (b:=v / 2048%100) (g:=g) (i:=v / 256%8) (by omega) (by omega) ⟨g0,g1⟩ (by omega) (by omega);obtain⟨w,rn,w0⟩:=sU (a:=v / 4096%5) (b:=g / 7) (i:=v / 32%2) (by omega) (by omega) (by omega) (by omega);have yt:D.tup [.int o,.int o',D2 l,.int w]=C9 ⟨o,o',l,w⟩:=rfl;refine⟨⟨o,o',l,w⟩,⟨o0,o1,p0,p1,j0,l0,w0.1,w0.2⟩,B7 ?_⟩;apply wp_step
 ·simp_arith[oF,mB];rw[<-hg]
 try simp only[zah,zae]
 apply wp_step
 ·simp_arith[hv];rfl
 try simp only[zah,zae]
 apply wp_step
 ·simp_arith[q1];rfl
 try simp only[zah,zae]
 apply wp_step
 ·simp_arith[kr,q2,q3];rfl
 try simp only[zah,zae]
 apply wp_step
 ·simp_arith[kt,q4,q5,sB,q6,hpl];rfl
 try simp only[zah,zae]
 simp_arith[ku,q8,d7,yr,q9,rn,yt];rfl
noncomputable def J3:=za6 Ip
theorem V9:FT "_law_road" 2 3 J3:=(za1 Ip).1
theorem Va:PX J3:=(za1 Ip).2
def RN (F:List D->M OT):Prop:=∀ns:List Int,ns.length<=63->(∀n∈ns,Sm n)->∃(m:Nat) (rs:List Road),1<=m/\m<=5/\rs.length<=59/\(∀r∈rs,Md m r)/\∃t,F [.lst (ns.map D.int),.int 5,.int 58]=.ok t/\er t=Am m rs
theorem JW:∃F,FT "_law_map" 3 3 F/\RN F:=by
 refine⟨_,λ T=>Ay (k:=2) T.ZG DB _ (λ f B5 A outer s H E hr=>(A5 (AL 3 DB.nd rfl (zaz rfl) (An (OE (!0) (Nq A6) (Nq (BW A6 (!2)))))) (A5 (AL 4 DB.nd rfl (zaz rfl) (An (Ac Aa.toXCall (Gz T) (-hr) rfl (A4 (An (Ac Aa.toXCall (Im T) (-hr) rfl (A4 (!0) (A4 A6 A9)) rfl)) (A4 A6 A9)) rfl))) (A5 (AL 5 DB.nd rfl (Or.inr rfl) (BW A6 (C6 (!4) (kY rfl rfl T.gW (!1) (BW A6 (D6 (Dp rfl T.FZ (!3)) A6)))))) (A5 (AX (Kb (c:=true) (!hr) (!5) A6) (A7 (Ag (Sg (BN (AE A6) (BN (EI BX) BX))))) Au) (A5 (Gg (NB:=["_law_k","_law_cell","_law_many"]) 6 [none,none,some 5] DB.nd rfl (zaz rfl) rfl (Nr rfl T.Fh (!3)) rfl rfl (Nz (n:=2) rfl (CV 0 (by decide) rfl rfl rfl (CV 1 (by decide) rfl rfl rfl Kq))) (λ _ _ _ _=>DJ) (λ _ _ _ _=>(An (C8 (Ac (Bn rfl).toXCall (V9 T) (-hr) rfl (A4 (!1) (A4 (!2) (A4 (!0) A9))) rfl))))) (A5 (AX (DW.dt (Hn (Kb (c:=true) (!hr) (C6 (D6 (!4) A6) A6) A6) (Gd (Eh (c:=true) (!hr) (!6) (Hm A9))))) (A7 (AL 6 DB.nd rfl (zaz rfl) (An (Xn (!6) (Hm (A4 (Ab (!hr) (!6) (C6 (D6 (!4) A6) (Dp rfl T.FZ (!6)))) A9)))))) Au) (A7 (Ag (AE (AK (A4 (!5) (A4 (!6) A9))))))))))))),?_⟩;intro ns i7 bz;rfl';refine (λ h:∃t,_/\∃(m:Nat) (rs:List Road),1<=m/\m<=5/\rs.length<=59/\(∀r∈rs,Md m r)/\er t=Am m rs=>by
  obtain⟨t,h1,m,rs,h2,h3,h4,h5,h6⟩:=h;exact⟨m,rs,h2,h3,h4,h5,t,h1,h6⟩) (HG ?_)
 obtain⟨cs,ig⟩:∃cs,cs=(ns.drop 2).take 58:=⟨_,rfl⟩;have ja:cs.length<=58:=by rw[ig,zby];omega
 have sl:kS (some 2) (some (2+58)) (.lst (ns.map D.int))=.ok (.lst ((cs.map D.int).map .sh)):=by rw[ig,List.map_take,List.map_drop];exact lK _ 2 60
 obtain⟨z0,sq,yu⟩:=Io ns 0 bz;have sK:Ew [.lst (ns.map D.int),.int 0]=.ok (.sh (.int z0)):=yu;obtain⟨v,v0,hv⟩:=GA z0 40 (by decide) (by decide);apply wp_step
 ·simp_arith[sl];rfl
 try simp only[zah,zae]
 apply wp_step
 ·simp_arith[sK,hv];rfl
 try simp only[zah,zae]
 have d2:GG (.int ((cs.map D.int).length:Int)) (.int 2)=.ok (.int ((cs.map D.int).length / 2)):=Cp ⟨by decide,by decide⟩;obtain⟨n,hn⟩:∃n:Int,n=(if 2+((cs.map D.int).length:Int) / 2<5 then 2+((cs.map D.int).length:Int) / 2 else 5):=⟨_,rfl⟩;have aw:2<=n/\n<=5:=by rw[hn];split<;>omega
 have q1:Hk (.int v) (.int n)=.ok (.int (v%n)):=BP (by omega);obtain⟨m,hm⟩:∃m:Nat,(m:Int)=1+v%n:=⟨(1+v%n).toNat,by have:=zca v (b:=n) (by omega);omega⟩;have m9:1<=m/\m<=5:=by
  have:=zca v (b:=n) (by omega);have:=zcb v (b:=n) (by omega);omega
 refine wp_step (ρ':=[‹.lst (ns.map D.int)›,‹.int 5›,‹.int 58›,‹.lst (cs.map D.int)›,‹.int v›,‹.int m›,none]) (by
  simp_arith[d2];rw[<-hn,q1];simp_arith[];rw[<-hm]) ?_
 by_cases bH:(m:Int)=1
 ·simp_arith[decide_eq_true bH];refine⟨_,rfl,m,[],m9.1,m9.2,by simp,(λ r hr=>by cases hr),?_⟩;have:m=1:=by omega
  subst this;rfl
 apply wp_step
 ·simp_arith[decide_eq_false bH];rfl
 have fm:∀i:Nat,i<cs.length->∃r:Road,Md m r/\J3 [.int (cs.getD i 0),.int m,.int i]=.ok (.sh (C9 r)):=λ i hi=>Va (cs.getD i 0) i m (by omega) (by omega) (by omega) (by omega);obtain⟨f,hf⟩:∃f:Nat->Road,∀i:Nat,i<cs.length->Md m (f i)/\J3 [.int (cs.getD i 0),.int m,.int i]=.ok (.sh (C9 (f i))):=⟨λ i=>if h:i<cs.length then za6 (fm i h) else ⟨0,0,none,0⟩,λ i hi=>by
  dsimp only;rw[dif_pos hi];exact za1 (fm i hi)⟩
 have aq:((zb6 cs.length).map λ i:Nat=>D.tup [.int (i:Int),.int (cs.getD i 0)]).length<=1000:=by rw[za2,zci];omega
 simp_arith[Ws,if_pos aq];rw[BK (λ i:Nat=>C9 (f i)) (λ i hi=>⟨_,rfl,rfl,by
  have h1:=(hf i (zc0.mp hi)).2;simp_arith[h1]⟩)]
 simp_arith[];have HD:∀S:List D,S=S:=λ _=>rfl;refine wp_step (ρ':=[‹.lst (ns.map D.int)›,‹.int 5›,‹.int 58›,‹.lst (cs.map D.int)›,‹.int v›,‹.int m›,‹.lst (((zb6 cs.length).map f).map C9)›]) (by rw[zbv];rfl) ?_;obtain⟨bD,ia⟩:∃bD,bD=(zb6 cs.length).map f:=⟨_,rfl⟩;have dz:∀r∈bD,Md m r:=λ r hr=>by
  rw[ia] at hr;obtain⟨i,hi,rfl⟩:=zaq.mp hr;exact (hf i (zc0.mp hi)).1
 have m7:bD.length<=58:=by rw[ia,za2,zci];exact ja
 rw[<-ia];refine BI (I:=λ ρ=>∃rs:List Road,ρ=[‹.lst (ns.map D.int)›,‹.int 5›,‹.int 58›,‹.lst (cs.map D.int)›,‹.int v›,‹.int m›,‹.lst (rs.map C9)›]/\rs.length<=59/\∀r∈rs,Md m r) ?_ ?_
 ·have kr:GG (.int v) (.int 16)=.ok (.int (v / 16)):=Cp ⟨by decide,by decide⟩;have q3:Hk (.int (v / 16)) (.int 3)=.ok (.int (v / 16%3)):=BP (by decide);have yv:GG (.int v) (.int 64)=.ok (.int (v / 64)):=Cp ⟨by decide,by decide⟩;have ad:=UB bD;by_cases c1:v / 16%3=1
  ·by_cases c2:bD=[]
   ·rw[decide_eq_false (by simp[c2])] at ad;refine Bb (ρ':=_) (by simp_arith[kr,q3,decide_eq_true c1,ad];rfl) ⟨bD,rfl,by omega,dz⟩
   ·rw[decide_eq_true c2] at ad;have kh:0<(bD.map C9).length:=by rw[za2];exact List.length_pos_iff.mpr c2
    obtain⟨p1,y,hy,p2⟩:=fK kh (show 0<=v / 64 by omega);obtain⟨r,hr,rfl⟩:=zaq.mp hy;have hpl:R8 (.lst (bD.map C9)) (.lst [C9 r])=.ok (.lst (((bD++[r]).map C9).map .sh)):=by rw[zay];exact XQ (by rw[za2];simp;omega)
    refine Bb (ρ':=[‹.lst (ns.map D.int)›,‹.int 5›,‹.int 58›,‹.lst (cs.map D.int)›,‹.int v›,‹.int m›,‹.lst ((bD++[r]).map C9)›]) (by
     simp_arith[kr,q3,decide_eq_true c1,ad,yv,p1,p2,hpl];rfl) ⟨bD++[r],rfl,by rw[zaj];simp;omega,λ r2 h2=>by
     rcases zan.mp h2 with h|h
     ·exact dz r2 h
     ·rw[za7.mp h];exact dz r hr⟩
  ·refine Bb (ρ':=_) (by simp_arith[kr,q3,decide_eq_false c1];try rfl) ⟨bD,rfl,by omega,dz⟩
 ·rintro ρ ⟨rs,rfl,hl,Aw⟩;simp_arith[];exact⟨m,rs,m9.1,m9.2,hl,Aw,rfl⟩
noncomputable def Vb:=za6 JW
theorem WR:FT "_law_map" 3 3 Vb:=(za1 JW).1
theorem WS:RN Vb:=(za1 JW).2
def N1 (F:List D->M OT):Prop:=∀(c:Int) (m:Nat) (k:Int),m<=60->0<=k->k<=100->∃L:List Int,L.Perm (Bp m)/\F [.int c,.int m,.int k]=.ok (.lst ((L.map D.int).map .sh))
theorem GB:∃F,FT "_law_order" 2 3 F/\N1 F:=by
 refine⟨_,λ T=>Ay (k:=1) T.UT Gs _ (λ f B5 A outer s H E hr=>(A5 (By 3 Gs.nd rfl (zaz rfl) (EI BX)) (A5 (BD Aa.toXCall.own rfl (Dr (c:=true) rfl T.Es (!1)) (Ax 4 Gs.nd rfl (zaz rfl)) (A7 (YN 3 (pv 3) (C6 (An (Ac Aa.toXCall (Gz T) (-hr) rfl (A4 (!0) (A4 (BW (!2) (!4)) A9)) rfl)) (BW (!4) A6)) (!4)))) (A7 (CC 3 (pv 3)))))),?_⟩;intro c m k hm hk0 hk1;rfl';refine (λ h:∃t,_/\∃L:List Int,t=OT.lst ((L.map D.int).map .sh)/\L.Perm (Bp m)=>by
  obtain⟨t,h1,L,rfl,h2⟩:=h;exact⟨L,h2,h1⟩) (HG ?_)
 have hr:=Ho (n:=m) (by omega);apply wp_step
 ·rfl
 try simp only[zah,zae]
 refine BI (I:=λ ρ=>∃(L:List Int) (s3:Option Cl),ρ=[‹.int c›,‹.int m›,‹.int k›,some (.own (L.map D.int)),s3]/\L.Perm (Bp m)) ?_ ?_
 ·simp_arith[hr];refine BE (λ i ρ=>i<=m/\∃(L:List Int) (s3:Option Cl),ρ=[‹.int c›,‹.int m›,‹.int k›,some (.own (L.map D.int)),s3]/\L.Perm (Bp i)) ⟨zbc _,[],none,rfl,.refl _⟩ ?_ ?_
  ·rintro i d ρ hd ⟨_,L,s3,rfl,hL⟩;obtain⟨aM,hi⟩:=CF hd;rw[Int.zero_add] at aM;subst aM;have hlen:=FR hL;refine⟨_,rfl,?_⟩;obtain⟨v,v0,hv⟩:=GA c (k+i) (by omega) (by omega);have bH:Hk (.int v) (.int ((i:Int)+1))=.ok (.int (v%((i:Int)+1))):=BP (by omega);have b0:0<=v%((i:Int)+1):=zca _ (by omega);have b1:v%((i:Int)+1)<(i:Int)+1:=zcb _ (by omega);refine Bb (ρ':=[‹.int c›,‹.int m›,‹.int k›,some (.own ((L.take (v%((i:Int)+1)).toNat++(i:Int)::L.drop (v%((i:Int)+1)).toNat).map D.int)),‹.int i›]) ?_ ⟨by omega,_,_,rfl,Zf hL _⟩;simp_arith[hv,bH];rw[if_pos ⟨b0,by rw[za2];omega,by rw[za2];omega⟩];simp only[zay,za5,List.map_take,List.map_drop];rfl
  ·rintro ρ ⟨_,L,s3,rfl,hL⟩;exact⟨L,s3,rfl,by rw[Dq] at hL;exact hL⟩
 ·rintro ρ ⟨L,s3,rfl,hL⟩;exact⟨_,rfl,L,rfl,hL⟩
noncomputable def PY:=za6 GB
theorem LK:FT "_law_order" 2 3 PY:=(za1 GB).1
theorem LL:N1 PY:=(za1 GB).2
def PZ (F:List D->M OT):Prop:=∀a b:Co,F [cst a,cst b]=.ok (.sh (cst (Av a b)))
theorem Iq:∃F,FT "_law_plus" 1 2 F/\PZ F:=by
 refine⟨_,λ T=>Ay (k:=0) T.WB UN _ (λ f B5 A outer s H E hr=>(A5 (AX (DW.dt (Ce (Dn (c:=true) (!0)) (C7 (Dn (c:=true) (!1))))) (A7 (Ag (AE C5))) Au) (A7 (Ag (AE (AK (A4 (BW (Ab (!hr) (!0) A6) (Ab (!hr) (!1) A6)) (A4 (BW (Ab (!hr) (!0) A6) (Ab (!hr) (!1) A6)) A9)))))))),?_⟩;intro a b;dsimp only;rcases a with _|⟨a1,a2⟩<;>rcases b with _|⟨b1,b2⟩<;>rfl
noncomputable def My:=za6 Iq
theorem Vc:FT "_law_plus" 1 2 My:=(za1 Iq).1
theorem Vd:PZ My:=(za1 Iq).2
def N2 (F:List D->M OT):Prop:=∀a b:Co,F [cst a,cst b]=.ok (.sh (cst (EO a b)))
theorem GC:∃F,FT "_law_least" 1 2 F/\N2 F:=by
 refine⟨_,λ T=>Ay (k:=0) T.UU SR _ (λ f B5 A outer s H E hr=>(A5 (AX (DW.dt (Ce (Dn (c:=true) (!0)) (C7 (DW.dt (Hn (IB (c:=true) (!1)) (Gd (eW (c:=true) (!hr) (!1) (!0)))))))) (A7 (Ag (AE (!1)))) Au) (A7 (Ag (AE (!0)))))),?_⟩;intro a b;rfl';refine B7 ?_;cases a with
 |none =>
  have hn:B0 (cst none)=true:=rfl;have el:EO none b=b:=by cases b<;>rfl
  rw[el];simp_arith[hn];rfl
 |some p =>
  have hn:B0 (cst (some p))=false:=rfl;cases b with
  |none =>
   have aw:B0 (cst none)=true:=rfl;have el:EO (some p) none=some p:=rfl;rw[el];simp_arith[hn,aw];rfl
  |some q =>
   have aw:B0 (cst (some q))=false:=rfl;have hx:=xJ q p;have hl:EO (some p) (some q)=some (lU p q):=rfl;rw[hl];unfold lU;by_cases hc:q.1<p.1\/(q.1=p.1/\q.2<p.2)
   ·rw[decide_eq_true hc] at hx;rw[if_neg (by omega)];simp_arith[hn,aw,hx];rfl
   ·rw[decide_eq_false hc] at hx;rw[if_pos (by omega)];apply wp_step
    ·simp_arith[hn,aw,hx];rfl
    simp_arith[];rfl
noncomputable def Q1:=za6 GC
theorem T8:FT "_law_least" 1 2 Q1:=(za1 GC).1
theorem T9:N2 Q1:=(za1 GC).2
def Q2 (F:List D->M OT):Prop:=∀c:Co,F [cst c,cst c]=.ok (.sh (.bl true))
theorem Ir:∃F,FT "_law_cost" 1 2 F/\Q2 F:=by
 refine⟨_,λ T=>Ay (k:=0) T.WC MR _ (λ f B5 A outer s H E hr=>(A5 (AX (Dn (c:=true) (!1)) (A7 (Ag (AE (cZ (!0))))) Au) (A5 (AX (DW.dt (Ce (BC (Be (c:=true) (D7 (Ge _) rfl T.AQ rfl T.Lx (by decide +kernel) (!0)))) (C7 (Eh (c:=true) (!hr) (Dp rfl T.FZ (!0)) A6)))) (A7 (Ag (AE Cq))) Au) (A5 (BD Aa.toXCall.own rfl (sY (!0)) (Ax 2 MR.nd rfl (zaz rfl)) (A7 (AX (DW.dt (Ce (BC (Be (c:=true) (D7 (Oi _) rfl T.AQ rfl T.gU (by decide +kernel) (!2)))) (C7 (Be (c:=true) (D7 (M2 _) rfl T.AQ rfl T.WH (by decide +kernel) (!2)))))) (A7 (Ag (AE Cq))) Au))) (A7 (Ag (AE (TR (!hr) (!0) (!1))))))))),?_⟩;intro c;rfl';refine B7 ?_;cases c with
 |none=>rfl
 |some p =>
  have hn:B0 (cst (some p))=false:=rfl;have ht:cst (some p)=.tup [.int p.1,.int p.2]:=rfl;have bG:=La (some p) (some p);apply wp_step
  ·simp_arith[hn];rfl
  apply wp_step
  ·simp_arith[ht];rfl
  refine BI (I:=λ ρ=>∃s,ρ=[‹cst (some p)›,‹cst (some p)›,s]) ?_ ?_
  ·simp_arith[ht];refine BE (λ i ρ=>∃s,ρ=[‹cst (some p)›,‹cst (some p)›,s]) ⟨none,rfl⟩ ?_ ?_
   ·rintro i d ρ hd ⟨s,rfl⟩;obtain⟨x,rfl⟩:∃x,d=D.int x:=by
     rcases i with _|_|i
     ·cases hd;exact⟨_,rfl⟩
     ·cases hd;exact⟨_,rfl⟩
     ·cases hd
    refine⟨_,rfl,?_⟩;refine Bb (ρ':=_) (by simp_arith[];rfl) ⟨_,rfl⟩
   ·rintro ρ ⟨s,rfl⟩;exact⟨s,rfl⟩
  ·rintro ρ ⟨s,rfl⟩;simp_arith[bG,decide_true];rfl
noncomputable def RO:=za6 Ir
theorem N3:FT "_law_cost" 1 2 RO:=(za1 Ir).1
theorem N4:Q2 RO:=(za1 Ir).2
def Q3 (F:List D->M OT):Prop:=∀(m:Nat) (rs:List Road) (s g:Int) (c:Int×Int) (N:List Nat),Qe rs s N g c.1->(N.length:Int)=c.2->F [Am m rs,.int s,.int g,Ej N]=.ok (.sh (cst (some c)))
theorem Iv:∃F,FT "_law_walk" 1 4 F/\Q3 F:=by
 refine⟨_,λ T=>Ay (k:=0) T.WD Bq _ (λ f B5 A outer s H E hr=>(A5 (AL 4 Bq.nd rfl (zaz rfl) (!1)) (A5 (AL 5 Bq.nd rfl (zaz rfl) (AK (A4 A6 (A4 A6 A9)))) (A5 (AX (BC (Be (c:=true) (D7 (IC _) rfl T.AQ rfl T.ES (by decide +kernel) (!3)))) (A7 (Ag (AE C5))) Au) (A5 (BD Aa.toXCall.own rfl (AW (!3)) (Ax 6 Bq.nd rfl (zaz rfl)) (A5 (AX (DW.dt (Ce (BC (Be (c:=true) (D7 (Oi _) rfl T.AQ rfl T.gU (by decide +kernel) (!6)))) (Ce (Be (c:=true) (D7 (M2 _) rfl T.AQ rfl T.WH (by decide +kernel) (!6))) (C7 (BC (Zt (c:=true) nK bP A6 (!6) (Dp rfl T.FZ (Ab (!hr) (!0) A6)))))))) (A7 (Ag (AE C5))) Au) (A5 (dI (Ab (!hr) (Ab (!hr) (!0) A6) (!6)) (JC (n:=4) rfl (AZ (Ax 7 Bq.nd rfl (zaz rfl)) (AZ (Ax 8 Bq.nd rfl (zaz rfl)) (AZ (Ax 9 Bq.nd rfl (zaz rfl)) (AZ (Ax 10 Bq.nd rfl (zaz rfl)) Gf)))))) (A5 (AX (DW.dt (Ce (Eh (c:=true) (!hr) (!7) (!4)) (C7 (Dn (c:=true) (!9))))) (A7 (Ag (AE C5))) Au) (A5 (AL 5 Bq.nd rfl (zaz rfl) (AK (A4 (BW (Ab (!hr) (!5) A6) (!9)) (A4 (BW (Ab (!hr) (!5) A6) A6) A9)))) (A7 (AL 4 Bq.nd rfl (zaz rfl) (!8)))))))) (A5 (AX (Eh (c:=true) (!hr) (!4) (!2)) (A7 (Ag (AE C5))) Au) (A7 (Ag (AE (!5)))))))))),?_⟩;intro m rs s g c N aV dm;rfl';refine B7 ?_;have n1:AM (Am m rs) (.int 1)=.ok (.lst (rs.map C9)):=rfl;have eN:Ej N=.lst (N.map λ n:Nat=>D.int (n:Int)):=rfl;refine wp_step (ρ':=[‹Am m rs›,‹.int s›,‹.int g›,‹Ej N›,‹.int s›,none,none,none,none,none,none]) (by simp_arith[];try rfl) ?_;refine wp_step (ρ':=[‹Am m rs›,‹.int s›,‹.int g›,‹Ej N›,‹.int s›,‹.tup [.int 0,.int 0]›,none,none,none,none,none]) (by simp_arith[];try rfl) ?_;refine wp_step (ρ':=[‹Am m rs›,‹.int s›,‹.int g›,‹Ej N›,‹.int s›,‹.tup [.int 0,.int 0]›,none,none,none,none,none]) (by simp_arith[eN];try rfl) ?_;refine BI (I:=λ ρ=>∃s6 s7 s8 s9 fv:Option Cl,ρ=[‹Am m rs›,‹.int s›,‹.int g›,‹Ej N›,‹.int g›,‹.tup [.int c.1,.int (N.length:Nat)]›,s6,s7,s8,s9,fv]) ?_ ?_
 ·simp_arith[eN];refine BE (λ i ρ=>∃(x t a:Int) (s6 s7 s8 s9 fv:Option Cl),ρ=[‹Am m rs›,‹.int s›,‹.int g›,‹Ej N›,‹.int x›,‹.tup [.int a,.int (i:Nat)]›,s6,s7,s8,s9,fv]/\Qe rs x (N.drop i) g t/\a+t=c.1) ⟨s,c.1,0,none,none,none,none,none,rfl,by rw[List.drop_zero];exact aV,by omega⟩ ?_ ?_
  ·rintro i d ρ hd ⟨x,t,a,s6,s7,s8,s9,fv,rfl,hc,hs⟩;obtain⟨n,hn,rfl⟩:=Bm hd;refine⟨_,rfl,?_⟩;have yw:N.drop i=n::N.drop (i+1):=by rw[List.drop_eq_getElem?_toList_append,hn];rfl
   rw[yw] at hc;obtain⟨r,l,t',g1,g2,g3,g4,g5⟩:=hc.inv;have hnl:=(zai.mp g1).1;have q1:decide ((0:Int)<=(n:Int))=true:=decide_eq_true (by omega);have q2:decide ((n:Int)<((rs.map C9).length:Int))=true:=decide_eq_true (by rw[za2];omega);have vo:AM (.lst (rs.map C9)) (.int (n:Int))=.ok (C9 r):=Gm (by omega) (by rw[zbl];exact g1);have er:C9 r=.tup [.int r.a,.int r.b,.int l,.int r.w]:=by unfold C9;rw[g3];rfl
   have yx:VO 16 (.int r.a) (.int x)=.ok (.bl false):=by rw[g2];exact Hv (Ct (n:=16) x)
   have a5:B0 (.int l)=false:=rfl;have t0:AM (.tup [.int a,.int (i:Nat)]) (.int 0)=.ok (.int a):=rfl;have t1:AM (.tup [.int a,.int (i:Nat)]) (.int 1)=.ok (.int (i:Nat)):=rfl;refine wp_step (ρ':=[‹Am m rs›,‹.int s›,‹.int g›,‹Ej N›,‹.int x›,‹.tup [.int a,.int (i:Nat)]›,‹.int n›,s7,s8,s9,fv]) (by simp_arith[n1,q1,q2,Eo,if_true];try rfl) ?_;refine wp_step (ρ':=[‹Am m rs›,‹.int s›,‹.int g›,‹Ej N›,‹.int x›,‹.tup [.int a,.int (i:Nat)]›,‹.int n›,‹.int r.a›,‹.int r.b›,‹.int l›,‹.int r.w›]) (by
    rw[er] at vo;simp_arith[n1,vo];try rfl) ?_
   refine wp_step (ρ':=[‹Am m rs›,‹.int s›,‹.int g›,‹Ej N›,‹.int x›,‹.tup [.int a,.int (i:Nat)]›,‹.int n›,‹.int r.a›,‹.int r.b›,‹.int l›,‹.int r.w›]) (by simp_arith[yx,a5];try rfl) ?_;refine wp_step (ρ':=[‹Am m rs›,‹.int s›,‹.int g›,‹Ej N›,‹.int x›,‹.tup [.int (a+l),.int ((i:Nat)+1)]›,‹.int n›,‹.int r.a›,‹.int r.b›,‹.int l›,‹.int r.w›]) (by simp_arith[t0,t1];try rfl) ?_;refine Bb (ρ':=[‹Am m rs›,‹.int s›,‹.int g›,‹Ej N›,‹.int r.b›,‹.tup [.int (a+l),.int ((i:Nat)+1)]›,‹.int n›,‹.int r.a›,‹.int r.b›,‹.int l›,‹.int r.w›]) (by simp_arith[];try rfl) ⟨r.b,t',a+l,_,_,_,_,_,rfl,g4,by omega⟩
  ·rintro ρ ⟨x,t,a,s6,s7,s8,s9,fv,rfl,hc,hs⟩;rw[za2,zct] at hc;rw[za2];cases hc;have:a=c.1:=by omega
   subst this;exact⟨s6,s7,s8,s9,fv,rfl⟩
 ·rintro ρ ⟨s6,s7,s8,s9,fv,rfl⟩;have tf:VO 16 (.int g) (.int g)=.ok (.bl false):=Hv (Ct (n:=16) g);apply wp_step
  ·simp_arith[tf];rfl
  simp_arith[dm];rfl
noncomputable def Mz:=za6 Iv
theorem Ve:FT "_law_walk" 1 4 Mz:=(za1 Iv).1
theorem Vf:Q3 Mz:=(za1 Iv).2
def LM (F:List D->M OT):Prop:=∀(m:Nat) (rs:List Road) (g:Nat) (T:List Co),m<=900->(∀r∈rs,JK m r)->g<m->T.length=m->(∀w:Int,0<=w->w<m->BA rs w g (atC T w))->F [Am m rs,.int g,.lst (T.map cst)]=.ok (.sh (.bl true))
theorem Fy:∃F,FT "_law_prices" 2 3 F/\LM F:=by
 refine⟨_,λ T=>Ay (k:=1) T.SY Bd _ (λ f B5 A outer s H E hr=>(A5 (dI (!0) (JC (n:=2) rfl (AZ (Ax 3 Bd.nd rfl (zaz rfl)) (AZ (Ax 4 Bd.nd rfl (zaz rfl)) Gf)))) (A5 (AX (DW.dt (Ce (BC (Be (c:=true) (D7 (IC _) rfl T.AQ rfl T.ES (by decide +kernel) (!2)))) (C7 (Eh (c:=true) (!hr) (Dp rfl T.FZ (!2)) (!3))))) (A7 (Ag (AE Cq))) Au) (A5 (By 5 Bd.nd rfl (zaz rfl) (W7 C5 (!3))) (A5 (BD Aa.toXCall.own rfl (AW (!4)) (JC (n:=4) rfl (AZ (Ax 6 Bd.nd rfl (zaz rfl)) (AZ (Ax 7 Bd.nd rfl (zaz rfl)) (AZ (Ax 8 Bd.nd rfl (zaz rfl)) (AZ (Ax 9 Bd.nd rfl (zaz rfl)) Gf))))) (A7 (AX (IB (c:=true) (!8)) (A7 (Oq 5 (pv 5) (An (EJ (Ac Aa.toXCall (T8 T) (-hr) rfl (A4 (Ab (!hr) (!5) (!6)) (A4 (An (Ac Aa.toXCall (Vc T) (-hr) rfl (A4 (AK (A4 (!8) (A4 A6 A9))) (A4 (Ab (!hr) (!2) (!7)) A9)) rfl)) A9)) rfl))) (!6))) Au))) (A5 (Oq 5 (pv 5) (AK (A4 A6 (A4 A6 A9))) (!1)) (A5 (BD Aa.toXCall.own rfl (Dr (c:=true) rfl T.Es (!3)) (Ax 10 Bd.nd rfl (zaz rfl)) (A7 (AX (Hx (BC (Be (c:=true) (An (Ac Aa.toXCall (N3 T) (-hr) rfl (A4 (Ab (!hr) (!2) (!10)) (A4 (Ab (!hr) (!5) (!10)) A9)) rfl))))) (A7 (Ag (AE Cq))) Au))) (A7 (Ag (AE Cq)))))))))),?_⟩;intro m rs g T hm Aw hg c8 hT;rfl';refine B7 ?_;have hlen:((T.map cst).length:Int)=(m:Int):=by rw[za2,c8]
 have bd:=OH (d:=.AJ) (n:=m) (by omega);have cu:zak m D.AJ=(Cw m rs T 0).map cst:=by rw[Zw,List.map_replicate];rfl
 rw[cu] at bd;have tj:VO 16 (.int (m:Int)) (.int (m:Int))=.ok (.bl false):=Hv (Ct (n:=16) _);refine wp_step (ρ':=[‹Am m rs›,‹.int g›,‹.lst (T.map cst)›,‹.int m›,‹.lst (rs.map C9)›,none,none,none,none,none,none]) (by rfl) ?_;refine wp_step (ρ':=[‹Am m rs›,‹.int g›,‹.lst (T.map cst)›,‹.int m›,‹.lst (rs.map C9)›,none,none,none,none,none,none]) (by simp_arith[hlen,tj,decide_true,Bool.not_true];try rfl) ?_;refine wp_step (ρ':=[‹Am m rs›,‹.int g›,‹.lst (T.map cst)›,‹.int m›,‹.lst (rs.map C9)›,some (.own ((Cw m rs T 0).map cst)),none,none,none,none,none]) (by simp_arith[bd];try rfl) ?_;refine BI (I:=λ ρ=>∃o6 o7 o8 o9:Option D,ρ=[‹Am m rs›,‹.int g›,‹.lst (T.map cst)›,‹.int m›,‹.lst (rs.map C9)›,some (.own ((Cw m rs T rs.length).map cst)),vO o6,vO o7,vO o8,vO o9,none]) ?_ ?_
 ·simp_arith[];refine BE (λ i ρ=>∃o6 o7 o8 o9:Option D,ρ=[‹Am m rs›,‹.int g›,‹.lst (T.map cst)›,‹.int m›,‹.lst (rs.map C9)›,some (.own ((Cw m rs T i).map cst)),vO o6,vO o7,vO o8,vO o9,none]) ⟨none,none,none,none,rfl⟩ ?_ ?_
  ·rintro i d ρ hd ⟨o6,o7,o8,o9,rfl⟩;obtain⟨r,hq,rfl⟩:=Bm hd;have hr:=Aw r (zao hq);refine⟨[‹Am m rs›,‹.int g›,‹.lst (T.map cst)›,‹.int m›,‹.lst (rs.map C9)›,some (.own ((Cw m rs T i).map cst)),‹.int r.a›,‹.int r.b›,‹D2 r.l›,‹.int r.w›,none],rfl,?_⟩;cases hl:r.l with
   |none =>
    have a5:B0 (D2 none)=true:=rfl;refine Bb (ρ':=[‹Am m rs›,‹.int g›,‹.lst (T.map cst)›,‹.int m›,‹.lst (rs.map C9)›,some (.own ((Cw m rs T i).map cst)),‹.int r.a›,‹.int r.b›,‹D2 none›,‹.int r.w›,none]) (by simp_arith[a5];try rfl) ⟨some (.int r.a),some (.int r.b),some (D2 none),some (.int r.w),by rw[Zy hq hr hl];rfl⟩
   |some l =>
    have lv:D2 (some l)=.int l:=rfl;have a5:B0 (.int l)=false:=rfl;have ec:BY r=some (l,1):=by unfold BY;rw[hl]
    have x1:AM (.lst ((Cw m rs T i).map cst)) (.int r.a)=.ok (cst (atC (Cw m rs T i) r.a)):=Cj hr.a0 (by rw[D9];exact hr.a1);have x2:AM (.lst (T.map cst)) (.int r.b)=.ok (cst (atC T r.b)):=Cj hr.b0 (by rw[c8];exact hr.b1);have h1:My [.tup [.int l,.int 1],cst (atC T r.b)]=.ok (.sh (cst (Av (some (l,1)) (atC T r.b)))):=Vd (some (l,1)) (atC T r.b);have h2:=T9 (atC (Cw m rs T i) r.a) (Av (some (l,1)) (atC T r.b));have az:=Lc (i:=5) (ρ:=[‹Am m rs›,‹.int g›,‹.lst (T.map cst)›,‹.int m›,‹.lst (rs.map C9)›,some (.own ((Cw m rs T i).map cst)),‹.int r.a›,‹.int r.b›,‹.int l›,‹.int r.w›,none]) (d:=cst (EO (atC (Cw m rs T i) r.a) (Av (some (l,1)) (atC T r.b)))) (p:=r.a) rfl hr.a0 (by rw[za2,D9];exact hr.a1);have aR:((Cw m rs T i).map cst).set r.a.toNat (cst (EO (atC (Cw m rs T i) r.a) (Av (some (l,1)) (atC T r.b))))=(Cw m rs T (i+1)).map cst:=by rw[Ry hq hr,ec,List.map_set]
    rw[aR] at az;refine Bb (ρ':=[‹Am m rs›,‹.int g›,‹.lst (T.map cst)›,‹.int m›,‹.lst (rs.map C9)›,some (.own ((Cw m rs T (i+1)).map cst)),‹.int r.a›,‹.int r.b›,‹.int l›,‹.int r.w›,none]) (by
     simp_arith[lv,a5,x1,x2,h1,h2,az];try rfl) ⟨some (.int r.a),some (.int r.b),some (.int l),some (.int r.w),rfl⟩
  ·rintro ρ ⟨o6,o7,o8,o9,rfl⟩;rw[za2];exact⟨o6,o7,o8,o9,rfl⟩
 rintro ρ ⟨o6,o7,o8,o9,rfl⟩;obtain⟨U,hU⟩:∃U,U=(Cw m rs T rs.length).set g (some (0,0)):=⟨_,rfl⟩;have hUl:U.length=m:=by rw[hU,zbw,D9]
 have az:=Lc (i:=5) (ρ:=[‹Am m rs›,‹.int g›,‹.lst (T.map cst)›,‹.int m›,‹.lst (rs.map C9)›,some (.own ((Cw m rs T rs.length).map cst)),vO o6,vO o7,vO o8,vO o9,none]) (d:=.tup [.int 0,.int 0]) (p:=(g:Int)) rfl (by omega) (by rw[za2,D9];omega);have aR:((Cw m rs T rs.length).map cst).set (g:Int).toNat (.tup [.int 0,.int 0])=U.map cst:=by rw[hU,zbl,List.map_set];rfl
 rw[aR] at az;refine wp_step (ρ':=[‹Am m rs›,‹.int g›,‹.lst (T.map cst)›,‹.int m›,‹.lst (rs.map C9)›,some (.own (U.map cst)),vO o6,vO o7,vO o8,vO o9,none]) (by simp_arith[az];try rfl) ?_;have aU:TU (.int (m:Int))=.ok (Cg 0 m):=Ho (by omega);refine BI (I:=λ ρ=>∃(o:Option D),ρ=[‹Am m rs›,‹.int g›,‹.lst (T.map cst)›,‹.int m›,‹.lst (rs.map C9)›,some (.own (U.map cst)),vO o6,vO o7,vO o8,vO o9,vO o]) ?_ ?_
 ·simp_arith[aU];refine BE (λ i ρ=>∃(o:Option D),ρ=[‹Am m rs›,‹.int g›,‹.lst (T.map cst)›,‹.int m›,‹.lst (rs.map C9)›,some (.own (U.map cst)),vO o6,vO o7,vO o8,vO o9,vO o]) ⟨none,rfl⟩ ?_ ?_
  ·rintro i d ρ hd ⟨o,rfl⟩;obtain⟨aM,hi⟩:=CF hd;rw[Int.zero_add] at aM;subst aM;refine⟨_,rfl,?_⟩;have x1:AM (.lst (U.map cst)) (.int (i:Int))=.ok (cst (atC U i)):=Cj (by omega) (by omega);have x2:AM (.lst (T.map cst)) (.int (i:Int))=.ok (cst (atC T i)):=Cj (by omega) (by omega);have eU:atC U (i:Int)=atC T (i:Int):=by rw[hU];exact Zz hg Aw hT hi
   rw[eU] at x1;have dn:=N4 (atC T (i:Int));refine Bb (ρ':=[‹Am m rs›,‹.int g›,‹.lst (T.map cst)›,‹.int m›,‹.lst (rs.map C9)›,some (.own (U.map cst)),vO o6,vO o7,vO o8,vO o9,‹.int i›]) (by simp_arith[x1,x2,dn,Eo];try rfl) ⟨some (.int i),rfl⟩
  ·rintro ρ ⟨o,rfl⟩;exact⟨o,rfl⟩
 ·rintro ρ ⟨o,rfl⟩;rfl
noncomputable def N5:=za6 Fy
theorem QI:FT "_law_prices" 2 3 N5:=(za1 Fy).1
theorem QJ:LM N5:=(za1 Fy).2
def Q4 (F:List D->M OT):Prop:=∀(m:Nat) (rs:List Road),F [Am m rs]=.ok (.tup [.sh (.int m),.lst ((rs.map C9).map .sh)])
theorem Iw:∃F,FT "_law_copy" 1 1 F/\Q4 F:=by
 refine⟨_,λ T=>Ay (k:=0) T.WE UO _ (λ f B5 A outer s H E hr=>(A7 (Ag (Sg (BN (AE (Ab (!hr) (!0) A6)) (BN (Nv rfl T.ES (Ab (!hr) (!0) A6)) BX)))))),?_⟩;intro m rs;rfl';refine B7 ?_;have i0:AM (Am m rs) (.int 0)=.ok (.int m):=rfl;have i1:AM (Am m rs) (.int 1)=.ok (.lst (rs.map C9)):=rfl;simp_arith[i0,i1];exact⟨_,rfl,rfl⟩
noncomputable def RP:=za6 Iw
theorem Iy:FT "_law_copy" 1 1 RP:=(za1 Iw).1
theorem Vg:Q4 RP:=(za1 Iw).2
def Js (F:List D->M OT):Prop:=∀(m:Nat) (rs:List Road) (s:Nat),m<=900->(∀r∈rs,JK m r)->s<m->∃R:List Int,F [Am m rs,.int s]=.ok (.lst ((R.map D.int).map .sh))/\∀y∈R,∃c,Wk rs s y c
theorem F6:∃F,FT "_law_reached" 1 2 F/\Js F:=by
 refine⟨_,λ T=>Ay (k:=0) T.QA Bw _ (λ f B5 A outer s H E hr=>(A5 (By 2 Bw.nd rfl (zaz rfl) (EI (BN (AE (!1)) BX))) (A5 (BD Aa.toXCall.own rfl (Dr (c:=true) rfl T.Es (Ab (!hr) (!0) A6)) (Ax 3 Bw.nd rfl (zaz rfl)) (A7 (BD Aa.toXCall.own rfl (AW (Ab (!hr) (!0) A6)) (JC (n:=4) rfl (AZ (Ax 4 Bw.nd rfl (zaz rfl)) (AZ (Ax 5 Bw.nd rfl (zaz rfl)) (AZ (Ax 6 Bw.nd rfl (zaz rfl)) (AZ (Ax 7 Bw.nd rfl (zaz rfl)) Gf))))) (A7 (AX (Hx (DW.dt (Hn (IB (c:=true) (!6)) (Hn (JI (c:=true) (!hr) (!4) (!2)) (Gd (Kl (c:=true) (!hr) (!5) (!2))))))) (A7 (FF 2 (pv 2) (!5))) Au))))) (A7 (CC 2 (pv 2)))))),?_⟩;intro m rs s hm Aw hs;rfl';refine (λ h:∃t,_/\∃R:List Int,t=.lst ((R.map D.int).map .sh)/\∀y∈R,∃c,Wk rs s y c=>by
  obtain⟨t,h1,R,rfl,h2⟩:=h;exact⟨R,h1,h2⟩) (HG ?_)
 have n0:AM (Am m rs) (.int 0)=.ok (.int m):=rfl;have n1:AM (Am m rs) (.int 1)=.ok (.lst (rs.map C9)):=rfl;have aU:TU (.int (m:Int))=.ok (Cg 0 m):=Ho (by omega);refine wp_step (ρ':=[‹Am m rs›,‹.int s›,some (.own ([(s:Int)].map D.int)),none,none,none,none,none]) (by rfl) ?_;refine BI (I:=λ ρ=>∃(R:List Int) (s3 s4 s5 s6 s7:Option Cl),ρ=[‹Am m rs›,‹.int s›,some (.own (R.map D.int)),s3,s4,s5,s6,s7]/\∀y∈R,∃c,Wk rs s y c) ?_ ?_
 ·simp_arith[n0,aU];refine BE (λ i ρ=>∃(R:List Int) (s3 s4 s5 s6 s7:Option Cl),ρ=[‹Am m rs›,‹.int s›,some (.own (R.map D.int)),s3,s4,s5,s6,s7]/\R.Nodup/\∀y∈R,(0<=y/\y<m)/\∃c,Wk rs s y c) ⟨[(s:Int)],none,none,none,none,none,rfl,by simp,λ y hy=>by rw[za7.mp hy];exact⟨⟨by omega,by omega⟩,_,.nil _⟩⟩ ?_ ?_
  ·rintro i d ρ hd ⟨R,s3,s4,s5,s6,s7,rfl,hn,hR⟩;obtain⟨aM,hi⟩:=CF hd;rw[Int.zero_add] at aM;subst aM;refine⟨_,rfl,?_⟩;simp_arith[n1];refine BE (λ j ρ=>∃(R:List Int) (s4 s5 s6 s7:Option Cl),ρ=[‹Am m rs›,‹.int s›,some (.own (R.map D.int)),‹.int i›,s4,s5,s6,s7]/\R.Nodup/\∀y∈R,(0<=y/\y<m)/\∃c,Wk rs s y c) ⟨R,s4,s5,s6,s7,rfl,hn,hR⟩ ?_ ?_
   ·rintro j d ρ hd ⟨R,s4,s5,s6,s7,rfl,hn,hR⟩;obtain⟨r,hq,rfl⟩:=Bm hd;have aU:=zao hq;have hr:=Aw r aU;refine⟨[‹Am m rs›,‹.int s›,some (.own (R.map D.int)),‹.int i›,‹.int r.a›,‹.int r.b›,‹D2 r.l›,‹.int r.w›],rfl,?_⟩;cases hl:r.l with
    |none =>
     have a5:B0 (D2 none)=true:=rfl;refine Bb (ρ':=[‹Am m rs›,‹.int s›,some (.own (R.map D.int)),‹.int i›,‹.int r.a›,‹.int r.b›,‹D2 none›,‹.int r.w›]) (by simp_arith[a5];try rfl) ⟨R,_,_,_,_,rfl,hn,hR⟩
    |some l =>
     have lv:D2 (some l)=.int l:=rfl;have a5:B0 (.int l)=false:=rfl;by_cases c1:r.a∈R
     ·by_cases c2:r.b∈R
      ·refine Bb (ρ':=[‹Am m rs›,‹.int s›,some (.own (R.map D.int)),‹.int i›,‹.int r.a›,‹.int r.b›,‹.int l›,‹.int r.w›]) (by simp_arith[lv,a5,zck.mpr c1,zck.mpr c2,Eo,if_true,if_false,zat,Bool.not_true];try rfl) ⟨R,_,_,_,_,rfl,hn,hR⟩
      ·have jz:R.contains r.b=false:=by rw[Bool.eq_false_iff];exact λ h=>c2 (zck.mp h)
       have aq:=Ez hn (u:=Bp m) λ v hv=>FO.mpr (hR v hv).1;rw[DV] at aq;have be:(R.map D.int).length<1000:=by rw[za2];omega
       refine Bb (ρ':=[‹Am m rs›,‹.int s›,some (.own ((R++[r.b]).map D.int)),‹.int i›,‹.int r.a›,‹.int r.b›,‹.int l›,‹.int r.w›]) (by
        rw[zay];simp_arith[lv,a5,zck.mpr c1,jz,Eo,if_true,if_false,zat,zcv,if_pos be];try rfl) ⟨R++[r.b],_,_,_,_,rfl,?_,λ y hy=>?_⟩
       ·rw[zax];exact⟨hn,by simp,λ a ha b hb=>by rw[za7.mp hb];exact λ e=>c2 (e▸ha)⟩
       ·rcases zan.mp hy with h|h
        ·exact hR y h
        ·rw[za7.mp h];obtain⟨_,c,hc⟩:=hR _ c1;exact⟨⟨hr.b0,hr.b1⟩,_,hc.trans (Wk.one aU hl)⟩
     ·have jy:R.contains r.a=false:=by rw[Bool.eq_false_iff];exact λ h=>c1 (zck.mp h)
      refine Bb (ρ':=[‹Am m rs›,‹.int s›,some (.own (R.map D.int)),‹.int i›,‹.int r.a›,‹.int r.b›,‹.int l›,‹.int r.w›]) (by simp_arith[lv,a5,jy,Eo,if_true,if_false,zat,zcv];try rfl) ⟨R,_,_,_,_,rfl,hn,hR⟩
   ·rintro ρ ⟨R,s4,s5,s6,s7,rfl,hn,hR⟩;exact⟨R,_,s4,s5,s6,s7,rfl,hn,hR⟩
  ·rintro ρ ⟨R,s3,s4,s5,s6,s7,rfl,hn,hR⟩;exact⟨R,s3,s4,s5,s6,s7,rfl,λ y hy=>(hR y hy).2⟩
 ·rintro ρ ⟨R,s3,s4,s5,s6,s7,rfl,hR⟩;exact⟨_,rfl,R,rfl,hR⟩
noncomputable def LN:=za6 F6
theorem Q5:FT "_law_reached" 1 2 LN:=(za1 F6).1
theorem Q6:Js LN:=(za1 F6).2
def Q7 (F:List D->M OT):Prop:=∀(m:Nat) (rs:List Road) (Ls:List LQ) (s g:Nat),(∀q∈Ls,Bc m rs q.1 q.2.1 q.2.2)->Ls.length=3->m<=8->s<m->g<m->F [Am m rs,.lst (Ls.map (Y7 m rs)),.int s,.int g]=.ok (.sh (.bl true))
theorem Iz:∃F,FT "_law_pair" 9 4 F/\Q7 F:=by
 refine⟨_,λ T=>Ay (k:=8) T.WG CZ _ (λ f B5 A outer s H E hr=>(A5 (Gg (NB:=["_law_ladder","_law_start","_law_goal"]) 4 [none,some 2,some 3] CZ.nd rfl (zaz rfl) rfl (AW (!1)) rfl rfl (Bt 0 (by decide) rfl rfl rfl) (λ _ _ _ _=>DJ) (λ _ _ _ _=>(An (C8 (Ac (Bn rfl).toXCall (tJ T) (-hr) rfl (A4 (!0) (A4 (!1) (A4 (!2) A9))) rfl))))) (A5 (Gg (NB:=["_law_ladder","_law_start","_law_goal"]) 5 [none,some 2,some 3] CZ.nd rfl (zaz rfl) rfl (AW (!1)) rfl rfl (Bt 0 (by decide) rfl rfl rfl) (λ _ _ _ _=>DJ) (λ _ _ _ _=>(An (C8 (Ac (Bn rfl).toXCall (GQ T) (-hr) rfl (A4 (!0) (A4 (!1) (A4 (!2) A9))) rfl))))) (A5 (AX (Dn (c:=true) (Ab (!hr) (!4) A6)) (A7 (Ag (AE (LZ (TR (!hr) (!4) (Hm (A4 C5 (A4 C5 (A4 C5 A9))))) (LZ (TR (!hr) (!5) (!4)) (Oh (kK (!hr) (!3) (An (Ac Aa.toXCall (Q5 T) (-hr) rfl (A4 (!0) (A4 (!2) A9)) rfl))))))))) Au) (A5 (BD Aa.toXCall.own rfl (sW rfl T.xW (!4) (!5)) (JC (n:=2) rfl (AZ (Ax 6 CZ.nd rfl (zaz rfl)) (AZ (Ax 7 CZ.nd rfl (zaz rfl)) Gf))) (A5 (AX (DW.dt (Ce (BC (Be (c:=true) (D7 (Ge _) rfl T.AQ rfl T.Lx (by decide +kernel) (!6)))) (Ce (Eh (c:=true) (!hr) (Dp rfl T.FZ (!6)) A6) (Ce (Eh (c:=true) (!hr) (Ab (!hr) (!6) A6) (Ab (!hr) (Ab (!hr) (!4) A6) A6)) (C7 (Eh (c:=true) (!hr) (!7) (Ab (!hr) (!6) A6))))))) (A7 (Ag (AE Cq))) Au) (A5 (AL 8 CZ.nd rfl (zaz rfl) (An (Ac Aa.toXCall (Ve T) (-hr) rfl (A4 (!0) (A4 (!2) (A4 (!3) (A4 (Ab (!hr) (!6) A6) A9)))) rfl))) (A7 (AX (DW.dt (Ce (Dn (c:=true) (!8)) (Ce (BC (Be (c:=true) (An (Ac Aa.toXCall (N3 T) (-hr) rfl (A4 (Ab (!hr) (!6) A6) (A4 (!8) A9)) rfl)))) (C7 (Eh (c:=true) (!hr) (Ab (!hr) (!6) A6) (Ab (!hr) (Ab (!hr) (!4) A6) A6)))))) (A7 (Ag (AE Cq))) Au))))) (A7 (Ag (AE (LZ (An (Ac Aa.toXCall (QI T) (-hr) rfl (A4 (!0) (A4 (!3) (A4 (Ab (!hr) (Ab (!hr) (!4) A6) A6) A9))) rfl)) (Oh (TR (!hr) (Ab (!hr) (Ab (!hr) (Ab (!hr) (!4) A6) A6) (!2)) (Ab (!hr) (Ab (!hr) (!4) A6) A6)))))))))))),?_⟩;intro m rs Ls s g ok k0 hm hs hg;rfl';refine B7 ?_;obtain⟨q0,Lr,vp⟩:∃q0 Lr,Ls=q0::Lr:=by
  cases Ls with
  |nil=>cases k0
  |cons a b=>exact⟨a,b,rfl⟩
 have tu:q0∈Ls:=by rw[vp];exact za3
 have vq:=ok q0 tu;have cv:∀r∈rs,JK m r:=λ r hr=>(vq.ok r hr).1;obtain⟨T,_,c8,hT,_⟩:=iA m rs q0.1 q0.2.1 q0.2.2 s g vq hm hs hg;have lb:∀q∈Ls,∃N:List Nat,(∀c,atC T s=some c->Qe rs s N g c.1/\(N.length:Int)=c.2)/\∃t,nJ [Y7 m rs q,.int s,.int g]=.ok t/\er t=Df (atC T s) N T:=λ q hq=>by
  obtain⟨T',N,h1,h2,h3,t,h4,h5⟩:=iA m rs q.1 q.2.1 q.2.2 s g (ok q hq) hm hs hg;have e:T'=T:=UH h1 c8 h2 hT;subst e;exact⟨N,h3,t,h4,h5⟩
 obtain⟨Nf,hN⟩:∃Nf:LQ->List Nat,∀q∈Ls,(∀c,atC T s=some c->Qe rs s (Nf q) g c.1/\((Nf q).length:Int)=c.2)/\∃t,nJ [Y7 m rs q,.int s,.int g]=.ok t/\er t=Df (atC T s) (Nf q) T:=⟨λ q=>if h:q∈Ls then za6 (lb q h) else [],λ q hq=>by
  dsimp only;rw[dif_pos hq];exact za1 (lb q hq)⟩
 have im:∀q∈Ls,Fv [Y7 m rs q,.int s,.int g]=.ok (.sh (cst (atC T s))):=λ q hq=>GR m rs q.1 q.2.1 q.2.2 s g (atC T s) (ok q hq) hs hg (hT s (by omega) (by omega));have bg:(Ls.map (Y7 m rs)).length<=1000:=by rw[za2];omega
 refine wp_step (ρ':=[‹Am m rs›,‹.lst (Ls.map (Y7 m rs))›,‹.int s›,‹.int g›,‹.lst (Ls.map λ q=>Df (atC T s) (Nf q) T)›,none,none,none,none]) (by
  simp_arith[if_pos bg];rw[BK (λ q=>Df (atC T s) (Nf q) T) (λ q hq=>⟨_,rfl,rfl,by
   obtain⟨_,t,h1,h2⟩:=hN q hq;simp_arith[h1,h2]⟩)]
  try rfl) ?_
 refine wp_step (ρ':=[‹Am m rs›,‹.lst (Ls.map (Y7 m rs))›,‹.int s›,‹.int g›,‹.lst (Ls.map λ q=>Df (atC T s) (Nf q) T)›,‹.lst (Ls.map λ _=>cst (atC T s))›,none,none,none]) (by
  simp_arith[if_pos bg];rw[BK (λ _=>cst (atC T s)) (λ q hq=>⟨_,rfl,rfl,by
   have h1:=im q hq;simp_arith[h1]⟩)]
  try rfl) ?_
 have x0:AM (.lst (Ls.map λ q=>Df (atC T s) (Nf q) T)) (.int 0)=.ok (Df (atC T s) (Nf q0) T):=Gm (by decide) (by rw[vp];rfl);cases hc:atC T s with
 |none =>
  rw[hc] at x0;have a5:B0 (Df none (Nf q0) T)=true:=rfl;obtain⟨R,yy,hR⟩:=Q6 m rs s (by omega) cv hs;have yz:R.contains (g:Int)=false:=by
   rw[Bool.eq_false_iff];intro h;obtain⟨c,hw⟩:=hR _ (zck.mp h);have:=(hT s (by omega) (by omega)).1 c hw;rw[hc] at this;exact this
  have e1:(Ls.map λ q=>Df none (Nf q) T)=[.AJ,.AJ,.AJ]:=by
   match Ls,k0 with
   |[a,b,c],_=>rfl
  have e2:(Ls.map λ _=>cst none)=[.AJ,.AJ,.AJ]:=by
   match Ls,k0 with
   |[a,b,c],_=>rfl
  rw[e1] at x0 ⊢;rw[e2];have bG:cX 16 (.lst [.AJ,.AJ,.AJ]) (.lst [.AJ,.AJ,.AJ])=.ok (.bl true):=by
   rw[Oo (n:=16) ((M4 (n:=1) (Cb Hu (Cb Hu (Cb Hu Om)))).le (by decide)) ((M4 (n:=1) (Cb Hu (Cb Hu (Cb Hu Om)))).le (by decide)),Of]
  simp_arith[x0,a5,bG,yy,yz,Eo,if_true,zcv];rfl
 |some c =>
  rw[hc] at x0;have a5:B0 (Df (some c) (Nf q0) T)=false:=rfl;have hw:∀q∈Ls,Mz [Am m rs,.int s,.int g,Ej (Nf q)]=.ok (.sh (cst (some c))):=λ q hq=>Vf m rs s g c (Nf q) ((hN q hq).1 c hc).1 ((hN q hq).1 c hc).2;have a0:∀q,AM (Df (some c) (Nf q) T) (.int 0)=.ok (cst (some c)):=λ _=>rfl;have a1:∀q,AM (Df (some c) (Nf q) T) (.int 1)=.ok (Ej (Nf q)):=λ _=>rfl;have a2:∀q,AM (Df (some c) (Nf q) T) (.int 2)=.ok (.lst (T.map cst)):=λ _=>rfl;have ty:∀q,J8 "tuple" (Df (some c) (Nf q) T)=.ok (.bl true):=λ _=>rfl;have dl:∀q,VP [Df (some c) (Nf q) T]=.ok (.int 3):=λ _=>rfl;have ad:VO 16 (cst (some c)) (cst (some c))=.ok (.bl false):=Hv (Mb (n:=15) (some c));have tw:VO 16 (.lst (T.map cst)) (.lst (T.map cst))=.ok (.bl false):=Hv (mR T);have dn:=N4 (some c);have y3:B0 (cst (some c))=false:=rfl;refine wp_step (ρ':=[‹Am m rs›,‹.lst (Ls.map (Y7 m rs))›,‹.int s›,‹.int g›,‹.lst (Ls.map λ q=>Df (some c) (Nf q) T)›,‹.lst (Ls.map λ _=>cst (some c))›,none,none,none]) (by simp_arith[x0,a5];try rfl) ?_;refine BI (I:=λ ρ=>∃s6 s7 s8:Option Cl,ρ=[‹Am m rs›,‹.lst (Ls.map (Y7 m rs))›,‹.int s›,‹.int g›,‹.lst (Ls.map λ q=>Df (some c) (Nf q) T)›,‹.lst (Ls.map λ _=>cst (some c))›,s6,s7,s8]) ?_ ?_
  ·simp_arith[Ux];refine BE (λ i ρ=>∃s6 s7 s8:Option Cl,ρ=[‹Am m rs›,‹.lst (Ls.map (Y7 m rs))›,‹.int s›,‹.int g›,‹.lst (Ls.map λ q=>Df (some c) (Nf q) T)›,‹.lst (Ls.map λ _=>cst (some c))›,s6,s7,s8]) ⟨none,none,none,rfl⟩ ?_ ?_
   ·rintro i d ρ hd ⟨s6,s7,s8,rfl⟩;obtain⟨q,hq,rfl⟩:=Bm hd;have y4:=zao hq;have y6:=hw q y4;refine⟨_,rfl,?_⟩;refine wp_step (ρ':=[‹Am m rs›,‹.lst (Ls.map (Y7 m rs))›,‹.int s›,‹.int g›,‹.lst (Ls.map λ q=>Df (some c) (Nf q) T)›,‹.lst (Ls.map λ _=>cst (some c))›,‹Df (some c) (Nf q) T›,‹cst (some c)›,s8]) (by simp_arith[ty,dl,a0,x0,ad,Eo];try rfl) ?_;refine wp_step (ρ':=[‹Am m rs›,‹.lst (Ls.map (Y7 m rs))›,‹.int s›,‹.int g›,‹.lst (Ls.map λ q=>Df (some c) (Nf q) T)›,‹.lst (Ls.map λ _=>cst (some c))›,‹Df (some c) (Nf q) T›,‹cst (some c)›,‹cst (some c)›]) (by simp_arith[a1,y6];try rfl) ?_;refine Bb (ρ':=[‹Am m rs›,‹.lst (Ls.map (Y7 m rs))›,‹.int s›,‹.int g›,‹.lst (Ls.map λ q=>Df (some c) (Nf q) T)›,‹.lst (Ls.map λ _=>cst (some c))›,‹Df (some c) (Nf q) T›,‹cst (some c)›,‹cst (some c)›]) (by simp_arith[y3,a0,a2,x0,dn,tw,Eo];try rfl) ⟨_,_,_,rfl⟩
   ·rintro ρ ⟨s6,s7,s8,rfl⟩;exact⟨s6,s7,s8,rfl⟩
  ·rintro ρ ⟨s6,s7,s8,rfl⟩;have y7:=QJ m rs g T (by omega) cv hg c8 hT;have x1:AM (.lst (T.map cst)) (.int (s:Int))=.ok (cst (atC T s)):=Cj (by omega) (by omega);rw[hc] at x1;have bG:=La (some c) (some c);simp_arith[a0,a2,x0,x1,y7,bG,Eo,decide_true,if_true];rfl
noncomputable def RQ:=za6 Iz
theorem Vh:FT "_law_pair" 9 4 RQ:=(za1 Iz).1
theorem Vi:Q7 RQ:=(za1 Iz).2
theorem WT:∃F:List D->M D,(∀ {P w K mg base f fd},Txt K mg->ZO K "law" "law" RF f fd->E7 P w K mg base jI 10 f fd ["_law_script"] (VU K 1 F))/\(∀ns:List Int,ns.length<=63->(∀n∈ns,Sm n)->F [.lst (ns.map D.int)]=.ok (.bl true)):=by
 refine⟨_,fun {P w K mg base f fd} T F=>wF (k:=9) F Mp _ (λ B5 A outer s H E hr=>(A5 (AL 1 Mp.nd rfl (zaz rfl) (An (C8 (Ac (Bn rfl).toXCall (WR T) (-hr) rfl (A4 (!0) (A4 A6 (A4 A6 A9))) rfl)))) (A5 (AL 2 Mp.nd rfl (zaz rfl) (An (C8 (Ac (Bn rfl).toXCall (Im T) (-hr) rfl (A4 (!0) (A4 A6 A9)) rfl)))) (A5 (By 3 Mp.nd rfl (zaz rfl) (EI (BN (C8 (XD (Bn rfl).toXCall (CM T).ini (-hr) rfl (A4 (An (Ac (Bn rfl).toXCall (Iy T) (-hr) rfl (A4 (!1) A9) rfl)) (A4 (An (Ac (Bn rfl).toXCall (LK T) (-hr) rfl (A4 (!2) (A4 (Ab (!hr) (!1) A6) (A4 A6 A9))) rfl)) A9)) rfl)) (BN (C8 (fB (Bn rfl).toXCall (CM T) (-hr) rfl (A4 (An (Ac (Bn rfl).toXCall (Iy T) (-hr) rfl (A4 (!1) A9) rfl)) A9) rfl)) BX)))) (A5 (dZ (Bz 3 (pv 3)) (by exact (C8 (XD (Bn rfl).toXCall (CM T).ini (-hr) rfl (A4 (An (Ac (Bn rfl).toXCall (Iy T) (-hr) rfl (A4 (!1) A9) rfl)) (A4 (An (Ac (Bn rfl).toXCall (LK T) (-hr) rfl (A4 (!2) (A4 (Ab (!hr) (!1) A6) (A4 A6 A9))) rfl)) A9)) rfl)))) (A5 (BD PassesOwn.never rfl (Dr (c:=true) rfl T.Es (Ab (!hr) (!1) A6)) (Ax 4 Mp.nd rfl (zaz rfl)) (A7 (BD PassesOwn.never rfl (Dr (c:=true) rfl T.Es (Ab (!hr) (!1) A6)) (Ax 5 Mp.nd rfl (zaz rfl)) (A7 (AX (Hx (BC (Be (c:=true) (An (C8 (Ac (Bn rfl).toXCall (Vh T) (-hr) rfl (A4 (!1) (A4 (!3) (A4 (!4) (A4 (!5) A9)))) rfl)))))) (A7 (dH (VM Cq))) Au))))) (A7 (dH (VM Cq))))))))),?_⟩;intro ns i7 bz;rfl';refine wY ?_;obtain⟨z1,bA,j7⟩:=Io ns 1 bz;have tz:Ew [.lst (ns.map D.int),.int 1]=.ok (.sh (.int z1)):=j7;obtain⟨m,rs,bH,c3,sy,gn,tm,y8,y9⟩:=WS ns i7 bz;have i0:AM (Am m rs) (.int 0)=.ok (.int m):=rfl;refine wp_step (ρ':=[‹.lst (ns.map D.int)›,‹Am m rs›,none,none,none,none]) (by simp_arith[y8,y9];try rfl) ?_;refine wp_step (ρ':=[‹.lst (ns.map D.int)›,‹Am m rs›,‹.int z1›,none,none,none]) (by simp_arith[tz];try rfl) ?_;have il:=Vg m rs;have vt:=nB m rs;obtain⟨L1,za,t5⟩:=LL z1 m 0 (by omega) (by decide) (by decide);obtain⟨L3,zb,t6⟩:=LL z1 m 20 (by omega) (by decide) (by decide);obtain⟨A1,K1,sx,t1,zc,zd⟩:=CN m rs (.lst (L1.map D.int)) L1 bH (by omega) (by omega) gn za (.inl rfl);obtain⟨A3,K3,ze,t3,zf,zg⟩:=CN m rs (.lst (L3.map D.int)) L3 bH (by omega) (by omega) gn zb (.inl rfl);obtain⟨A2,K2,zh,t2,zi,zj⟩:=CN m rs .AJ (Zd m (Ck rs) (Bp m)) bH (by omega) (by omega) gn (Uv m _ _ (DV m)) (.inr ⟨rfl,rfl⟩);have g1:OK (BS (.ins "Ladder" [] []) [Am m rs,.lst (L1.map D.int)])=.ok t1:=by rw[zc];rfl
 have g3:OK (BS (.ins "Ladder" [] []) [Am m rs,.lst (L3.map D.int)])=.ok t3:=by rw[zf];rfl
 have g2:OK (BS (.ins "Ladder" [] []) ([Am m rs]++[.AJ]))=.ok t2:=by
  rw[show [Am m rs]++[D.AJ]=[Am m rs,.AJ] from rfl,zi];rfl
 refine wp_step (ρ':=[‹.lst (ns.map D.int)›,‹Am m rs›,‹.int z1›,some (ZA [t1,t2]),none,none]) (by simp_arith[il,vt,i0,t5,g1,g2];try rfl) ?_;refine wp_step (ρ':=[‹.lst (ns.map D.int)›,‹Am m rs›,‹.int z1›,some (ZA [t1,t2,t3]),none,none]) (by
  simp_arith[gL,ZC,il,vt,i0,t6,g3,gM,za9,List.length_nil];try rfl) ?_
 obtain⟨Ls,t7⟩:∃Ls:List LQ,Ls=[(L1,A1,K1),(Zd m (Ck rs) (Bp m),A2,K2),(L3,A3,K3)]:=⟨_,rfl⟩;have zk:er (.lst [t1,t2,t3])=.lst (Ls.map (Y7 m rs)):=by
  rw[t7,er,Qa,Qa,Qa,Qa,zd,zj,zg];rfl
 have Aw:∀q∈Ls,Bc m rs q.1 q.2.1 q.2.2:=λ q hq=>by
  rw[t7] at hq;rcases zaa.mp hq with rfl|hq
  ·exact sx
  ·rcases zaa.mp hq with rfl|hq
   ·exact zh
   ·rw[za7.mp hq];exact ze
 have k0:Ls.length=3:=by rw[t7];rfl
 have aU:TU (.int (m:Int))=.ok (Cg 0 m):=Ho (by omega);refine BI (I:=λ ρ=>∃o4 o5:Option D,ρ=[‹.lst (ns.map D.int)›,‹Am m rs›,‹.int z1›,some (ZA [t1,t2,t3]),vO o4,vO o5]) ?_ ?_
 ·simp_arith[i0,aU];refine BE (λ i ρ=>∃o4 o5:Option D,ρ=[‹.lst (ns.map D.int)›,‹Am m rs›,‹.int z1›,some (ZA [t1,t2,t3]),vO o4,vO o5]) ⟨none,none,rfl⟩ ?_ ?_
  ·rintro s d ρ hd ⟨o4,o5,rfl⟩;obtain⟨aM,hs⟩:=CF hd;rw[Int.zero_add] at aM;subst aM;refine⟨_,rfl,?_⟩;simp_arith[i0,aU];refine BE (λ j ρ=>∃o5:Option D,ρ=[‹.lst (ns.map D.int)›,‹Am m rs›,‹.int z1›,some (ZA [t1,t2,t3]),‹.int s›,vO o5]) ⟨o5,rfl⟩ ?_ ?_
   ·rintro g d ρ hd ⟨o5,rfl⟩;obtain⟨aM,hg⟩:=CF hd;rw[Int.zero_add] at aM;subst aM;refine⟨_,rfl,?_⟩;have hp:=Vi m rs Ls s g Aw k0 (by omega) hs hg;refine Bb (ρ':=[‹.lst (ns.map D.int)›,‹Am m rs›,‹.int z1›,some (ZA [t1,t2,t3]),‹.int s›,‹.int g›]) (by simp_arith[gK,zk,hp,Eo];try rfl) ⟨some (.int g),rfl⟩
   ·rintro ρ ⟨o5,rfl⟩;exact⟨some (.int s),o5,rfl⟩
  ·rintro ρ ⟨o4,o5,rfl⟩;exact⟨o4,o5,rfl⟩
 ·rintro ρ ⟨o4,o5,rfl⟩;rfl
noncomputable def iD:List D->M D:=za6 WT
theorem tK {P w K mg base f fd}:Txt K mg->ZO K "law" "law" RF f fd->E7 P w K mg base jI 10 f fd ["_law_script"] (VU K 1 iD):=(za1 WT).1
theorem tL:∀ns:List Int,ns.length<=63->(∀n∈ns,Sm n)->iD [.lst (ns.map D.int)]=.ok (.bl true):=(za1 WT).2
set_option maxHeartbeats 0 in
set_option maxHeartbeats 0 in
set_option maxHeartbeats 0 in
set_option maxHeartbeats 0 in
theorem left (w:World):(PySem.W.openEnds treeTable PySem.Challenge.pw_nodeladder_k44_whole_any_order w 6100).map (λ s=>PySem.W.openSeen (Dg PySem.Challenge.pw_nodeladder_k44_whole_any_order) [] (importedModules PySem.Challenge.pw_nodeladder_k44_whole_any_order.main.body) (λ s=>PySem.W.xlAt (Dg PySem.Challenge.pw_nodeladder_k44_whole_any_order) [] s&&PySem.W.recOk [] s) true s)=some (PySem.W.openGood (Dg PySem.Challenge.pw_nodeladder_k44_whole_any_order) []):=by
 rw[XI,sA,PySem.W.Fast.te4187177175401517315,PySem.W.Fast.te5923862056798008813,PySem.W.Fast.te15000780509937772461];exact Ss (uB w) (Ss (uC w) (Ss (uD w) (uE w)))
set_option maxHeartbeats 0 in
theorem tM (w:World):RS (Kp R0 PySem.Challenge.pw_nodeladder_k44_whole_any_order w) PySem.Challenge.pw_nodeladder_k44_whole_any_order:=by
 rw[sA,PySem.W.Fast.te15000780509937772461];exact iH w
set_option maxHeartbeats 0 in
theorem tN (w:World):RT (Kp R0 PySem.Challenge.pw_nodeladder_k44_whole_any_order w) PySem.Challenge.pw_nodeladder_k44_whole_any_order:=by
 rw[sA,PySem.W.Fast.te15000780509937772461];exact iI w
theorem all_mk {l:PySem.W.OpenLaw}{w:World}{K:za0}{h:Heap}{mg:Str->Option Value}{fa:Addr}(X:K.In h)(G:h.Ns mainGlobals mg)(zl:mg "law" = some (.ref fa))(u0:RS K PySem.Challenge.pw_nodeladder_k44_whole_any_order)(u1:RT K PySem.Challenge.pw_nodeladder_k44_whole_any_order):
 ∃fd:FuncData,(∀(s:Shared) (v:Value),BindsTo s fd ⟨[v],[]⟩ [("_law_script",v)])/\∀base:Heap,K.In base->base.Ns mainGlobals mg->E7 l.prog w K mg base jI 10 fa fd ["_law_script"] (VU K 1 iD):=by
 have ah:Yr K _:=⟨u0.1.1.1.1.1.2,u0.1.1.1.1.2,u0.1.1.1.2.1,u0.1.1.1.2.2⟩;obtain⟨f35,lc,zm,to35,zn,lf,zo,zp,zq,zr,lg,lh,li,lm,lp,zt,zu,zv,zw,zx,lq⟩:=u1.2.2.2.2.1.ex;have zy:=lS (st:=AF) zv zw zx;have z6:Binds K (zbh "__init__" "Ladder.__init__" (Bx AF) (AU AF) (A8 AF) (.ref lc) lg lh li lf lm lp) ["self","net","order"] []:=λ s us hK hl=>by
  have aq:us.length=3:=by simpa using hl
  rcases us with _|⟨_,_|⟨_,_|⟨_,_|⟨_,us⟩⟩⟩⟩<;>first|exact PySem.W.binds_K hK rfl lq rfl rfl rfl|(simp at aq)
 have z7:Binds K (zbh "__init__" "Ladder.__init__" (Bx AF) (AU AF) (A8 AF) (.ref lc) lg lh li lf lm lp) ["self","net","order"] [.none]:=λ s us hK hl=>by
  have aq:us.length=2:=by simpa using hl
  rcases us with _|⟨_,_|⟨_,_|⟨_,_|⟨_,us⟩⟩⟩⟩<;>first|exact PySem.W.binds_K hK rfl lq rfl rfl rfl|(simp at aq)
 have z8:W9 K mg "Ladder" "Ladder.__init__" AF ["self","net","order"]:=⟨_,_,_,⟨u0.1.1.1.1.1.1,PySem.W.mg_of X G u0.1.1.1.1.1.1⟩,⟨u0.1.1.2.1.1.1,zt,zu,u0.1.1.2.1.1.2⟩,zy,z6,z7⟩;obtain⟨f54,z9,aa1,aa2,aa3,aa4,aa5,aa6,aa7,aa8,vw,l54,c54,k54⟩:=u1.2.2.2.2.2.ex;cases zl.symm.trans (PySem.W.mg_of X G vw);have t8:=VG (st:=RF) l54 c54 k54;have T54:AI K mg "law" RF ["_law_script"]:=⟨_,_,t8,PySem.W.mg_of X G vw,t8.binds (λ _ _ _ _ _ _=>yP λ _=>rfl)⟩;have T:Txt K mg:=⟨AS X G u0.1.1.2.1.2,AS X G u0.1.1.2.2.1,AS X G u0.1.1.2.2.2,AS X G u0.1.2.1.1.1.1,AS X G u0.1.2.1.1.1.2,AS X G u0.1.2.1.1.2,AS X G u0.1.2.1.2.1,AS X G u0.1.2.1.2.2,AS X G u0.1.2.2.1.1.1,AS X G u0.1.2.2.1.1.2,AS X G u0.1.2.2.1.2,AS X G u0.1.2.2.2.1,AS X G u0.1.2.2.2.2,AS X G u0.2.1.1.1.1.1,AS X G u0.2.1.1.1.1.2,AS X G u0.2.1.1.1.2,AS X G u0.2.1.1.2.1,AS X G u0.2.1.1.2.2,AS X G u0.2.1.2.1.1.1,AS X G u0.2.1.2.1.1.2,AS X G u0.2.1.2.1.2,AS X G u0.2.1.2.2.1,AS X G u0.2.1.2.2.2,AS X G u0.2.2.1.1.1.1,AS X G u0.2.2.1.1.1.2,AS X G u0.2.2.1.1.2,AS X G u0.2.2.1.2.1,AS X G u0.2.2.1.2.2,AS X G u0.2.2.2.1.1.1,AS X G u0.2.2.2.1.1.2,AS X G u0.2.2.2.1.2,AS X G u0.2.2.2.2.1,AS X G u0.2.2.2.2.2,AS X G u1.1.1.1.1.1.1,z8,Uj u0.1.1.1.1.1.1 ah u1.1.1.1.1.1.2,Uj u0.1.1.1.1.1.1 ah u1.1.1.1.1.2,Uj u0.1.1.1.1.1.1 ah u1.1.1.1.2.1,Uj u0.1.1.1.1.1.1 ah u1.1.1.1.2.2,Uj u0.1.1.1.1.1.1 ah u1.1.1.2.1.1.1,AS X G u1.1.1.2.1.1.2,AS X G u1.1.1.2.1.2,AS X G u1.1.1.2.2.1,AS X G u1.1.1.2.2.2,AS X G u1.1.2.1.1.1.1,AS X G u1.1.2.1.1.1.2,AS X G u1.1.2.1.1.2,AS X G u1.1.2.1.2.1,AS X G u1.1.2.1.2.2,AS X G u1.1.2.2.1.1.1,AS X G u1.1.2.2.1.1.2,AS X G u1.1.2.2.1.2,AS X G u1.1.2.2.2.1,T54,zbd X G u1.1.2.2.2.2,zbd X G u1.2.1.1.1.1.1,zbd X G u1.2.1.1.1.1.2,zbd X G u1.2.1.1.1.2,zbd X G u1.2.1.1.2.1,zbd X G u1.2.1.1.2.2,zbd X G u1.2.1.2.1.1.1,zbd X G u1.2.1.2.1.1.2,zbd X G u1.2.1.2.1.2,zbd X G u1.2.1.2.2.1,zbd X G u1.2.1.2.2.2,zbd X G u1.2.2.1.1.1.1,zbd X G u1.2.2.1.1.1.2,zbd X G u1.2.2.1.1.2,⟨_,u0.1.1.1.1.1.1,ah,u1.2.2.1.2.1⟩,⟨_,u0.1.1.1.1.1.1,ah,u1.2.2.1.2.2⟩,⟨_,u0.1.1.1.1.1.1,ah,u1.2.2.2.1.1⟩,⟨_,u0.1.1.1.1.1.1,ah,u1.2.2.2.1.2⟩⟩;refine⟨_,?_,λ base _ _=>tK T t8⟩;exact λ s v=>.of_eq rfl
theorem walk {l:PySem.W.OpenLaw}{q:Program}{loose:List Str}{XP:(Str->Option Value)->Heap->Prop}{YP:World->Heap->Prop}{d:DefRec}{K:World->za0}(hn:l.most=some 63)(gl:d.params.defaults=[])
 (hY:∀(w:World) (h:Heap),YP w h->(K w).In h)
 (F:∀(w:World) (mg:Str->Option Value) (fa:Addr) (h:Heap),(K w).In h->h.Ns mainGlobals mg->mg d.name=some (.ref fa)->
  ∃fd:FuncData,(∀(s:Shared) (u:Value),BindsTo s fd ⟨[u],[]⟩ [("_law_script",u)])/\∀base:Heap,(K w).In base->base.Ns mainGlobals mg->E7 l.prog w (K w) mg base jI 10 fa fd ["_law_script"] (VU (K w) 1 iD)):
 PySem.W.WalkO q loose XP YP l.row.toRowW d [] (λ f vs=>PySem.call f vs):=
 L2.xD (n:=63) (k:=10) (x := "_law_script") (CX:=λ _=>jI) (sp:=λ w=>VU (K w) 1 iD) hn (by decide) gl ⟨rfl,by decide,by decide⟩ hY F (λ w H a ns bz hl _ hS=>kB tL (K w) H a ns bz hl hS) λ _ _ _ _ _ z=>z
end c9
open PySem PySem.W PyProof.Rows L2
set_option maxRecDepth 100000 in
set_option maxHeartbeats 0 in
theorem PySem.Challenge.cw_nodeladder_k44_whole_any_order_holds : PySem.Challenge.rw_nodeladder_k44_whole_any_order.Holds := by
 w_on;o_law
 refine holds_open (q:=Dg PySem.Challenge.pw_nodeladder_k44_whole_any_order) (loose:=[]) (Xt:=λ s=>xlAt (Dg PySem.Challenge.pw_nodeladder_k44_whole_any_order) [] s&&recOk [] s) (XP:=XL (Dg PySem.Challenge.pw_nodeladder_k44_whole_any_order) []) (Yf:=λ s=>s.heap) (Ya:=λ w=>ZR R0 PySem.Challenge.pw_nodeladder_k44_whole_any_order w 6100) (YP:=λ w h=>xC (ZR R0 PySem.Challenge.pw_nodeladder_k44_whole_any_order w 6100) h) (N:=6100) (lT c9.left) (λ w s e b o q=>by rw[<-e] at q;exact q) (λ w h h' a b c o q=>b c o (a c o q)) (λ s e=>xl_of s (Bool.and_eq_true_iff.mp e).1) XL.keeps (by rfl) (by rfl) (by rfl) (λ s e=>recFacts_of (Bool.and_eq_true_iff.mp e).2) (by rfl) (by first|assumption|decide +kernel) (by decide +kernel) ⟨rfl,rfl,rfl,rfl,rfl,by decide +kernel⟩ ?hw ?hc;case hw=>w_witness2
 case hc =>
  refine c9.walk (l:=PySem.Challenge.rw_nodeladder_k44_whole_any_order) (K:=c9.Kp R0 PySem.Challenge.pw_nodeladder_k44_whole_any_order) rfl rfl (λ w h Y=>sC Y) ?F;intro w mg fa h KX G gm;exact c9.all_mk KX G gm (c9.tM w) (c9.tN w)
