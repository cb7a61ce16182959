import PyProof.Rows.All
import Wide.All
import OpenK.AllK
import Wide.FinOn
import Lean
import PyProof.EqAt
import PyProof.EqKinds
import PyProof.TupleCall
import PyProof.NeKinds
import KE.KRevSl
import KE.KIsAll
import PyProof.FitsBits
import KE.LcSums
import KE.KRevIter
import PyProof.ListRange
import PyProof.Rows.SumAny
import PyProof.Rows.SortWalk
import PyProof.AttrMissHeap
import KE.KDictOf
import PyProof.ZipIter
import PyProof.DictWalks
import KE.KDictList
import PySem.Challenge.RW_nodeladder_k52_tables
set_option Elab.async false
set_option linter.all false
set_option maxRecDepth 1000000
open PySem.W renaming Frag→za,nsIn→zF,findIn→zS,mg_none_of→zU,fnOf→zZ,keepIn→yB,emptyDict→yS,codeIn→yU,kia_one→za7,instObj→za8
open Classical renaming choose_spec→zb,choose→zg,byContradiction→zar,propDecidable→zb3
open List renaming length_map→zc,mem_cons_self→zd,mem_cons_of_mem→ze,map_cons→zf,mem_singleton→zh,getElem?_eq_getElem→zi,size_toArray→zj,mem_of_getElem?→zk,length_cons→zl,mem_append_right→zm,set_cons_succ→zo,mem_cons→zp,set_cons_zero→zt,replicate→zu,mem_append→zv,getElem?_eq_some_iff→zw,getD_eq_getElem?_getD→zy,mem_map→z6,getElem?_map→z7,nodup_append→zA,length_append→zC,map_append→zG,map_map→zH,getElem?_cons_succ→zI,getElem?_set_self→zK,mem_append_left→zL,foldl_cons→zM,append_nil→zR,nodup_cons→zV,getElem?_cons_zero→zW,mem_of_mem_take→y8,length_take→yA,length_set→yC,range→yD,getElem?_set_ne→yE,mem_filter→yI,length_singleton→yJ,take_length→yK,take_add_one→yL,nodup_nil→yM,getElem?_append_left→yN,length_reverse→yO,append_assoc→yP,lookup_cons→yR,replicate_succ→yV,mem_or_eq_of_mem_set→yX,take_append_drop→yY,getElem?_replicate→za1,map_congr_left→za2,take_of_length_le→za3,getElem?_append_right→za4,length_drop→za5,map_nil→zaf,mem_range→zaj,map_set→zan,length_replicate→zao,find?_cons→zap,any_cons→zau,drop_eq_getElem_cons→zaw,drop_length→zb0,cons_append→zb1
open PySem.Heap renaming get?_push_of_some→zq,lt_size→zr,get?_push_size→zE,SameBut→zag,get?_update_other→zak,get?_update_self→zaq,size_push→zax
open Nat renaming le_refl→zx,lt_of_lt_of_le→zz,ne_of_lt→zB,zero_le→zJ,le_trans→yG,le_of_lt→yH,ne_of_gt→zah
open Bool renaming false_eq_true→z8,false_ne_true→z9,and_eq_true→zP,eq_iff_iff→zac
open Option.some renaming inj→zD
open PySem.Builtin.Int renaming intBits→zN
open PySem.F renaming plain_min_loop→zO,plainAttrs_list→yQ
open Prod renaming fst→zQ,snd→yT
open Or renaming inl→zT
open Ne renaming symm→zX
open PyProof.Rows renaming callWith_type1→zY
open PySem.Value renaming ref→y9
open Int renaming toNat_natCast→yF,emod_lt_of_pos→za6,emod_nonneg→zae,add_assoc→zav
open Option renaming map_some→yW,isSome_iff_exists→zaz
open PySem.W.Fast renaming tw5923862056798008813→yZ,tw4187177175401517315→za0
open PySem.Around renaming under_plainId→za9
open False renaming elim→zaa
open PySem.Builtin.Builtins renaming bindParams→zab
open PySem.Obj renaming mapSeq→zad
open True renaming intro→zai
open PySem.Calls renaming spliced_cons→zal,spliced_nil→zas
open PySem.NameKind renaming free→zam
open PySem.Builtin.List renaming listTooLong→zat
open PySem renaming mem_of_lookup→zay
open ForInStep renaming yield→zb2
section
set_option maxHeartbeats 0
namespace L2
open PySem PySem.Spec PyProof.Rows PySem.W PySem.Calls
noncomputable def inClass (s:Stmt)(j:Nat):Stmt:=match s with
 | .ClassDef _ _ _ body _ _ _ _ _ _ _=>body.getD j (.Pass ⟨0,0,0,0⟩)
 |_=>.Pass ⟨0,0,0,0⟩
noncomputable def Bk (s:Stmt):Arguments:=match s with
 | .FunctionDef _ a _ _ _ _ _ _ _ _=>a
 |_=>{posonlyargs:=[],args:=[],vararg:=none,kwonlyargs:=[],kw_defaults:=[],kwarg:=none,defaults:=[]}
noncomputable def AM (s:Stmt):List Stmt:=match s with
 | .FunctionDef _ _ b _ _ _ _ _ _ _=>b
 |_=>[]
noncomputable def A4 (s:Stmt):Scope:=match s with
 | .FunctionDef _ _ _ _ _ _ sc _ _ _=>sc
 |_=>{kind:=.function,names:=[],isGenerator:=false,isCoroutine:=false}
structure FP (K:za)(x:Str)(st:Stmt):Prop where
 ex:∃(f:Addr) (oc:Value) (od an:Option Addr) (sl:Array (Option Value)) (kV dc pm cd ct:Value),zF K mainGlobals x=some (some (.ref f))/\K.lookup f=some ⟨oc,od,.func (zZ x x (Bk st) (AM st) (A4 st) .none kV dc pm an cd ct),sl⟩/\yU K cd x=true/\yB K (.ref f)=true
structure MP (K:za)(C:Addr)(m qual:Str)(st:Stmt):Prop where
 ex:∃(f:Addr) (oc:Value) (od an:Option Addr) (sl:Array (Option Value)) (kV dc pm cd ct:Value),zS K (.ref C) m=some (some (.ref f))/\PySem.W.isFn K (.ref f)=true/\K.lookup f=some ⟨oc,od,.func (zZ m qual (Bk st) (AM st) (A4 st) .none kV dc pm an cd ct),sl⟩/\yU K cd qual=true/\yB K (.ref f)=true
noncomputable def CW (p:Program):Program:={p with main:={p.main with body:=p.main.body.filter λ s=>match s with | .FunctionDef .. =>true | .ClassDef .. =>true | _=>false} }
structure Rn where
 run:(String->Option Builtin)->Program->World->Nat->Option Value->Nat->Shared->Thread->Option Shared
 ns:Heap->Addr->Str->Option Value
 imp:(String->Option Builtin)->Program->World->Nat->Shared->Thread->Option Shared
 vJ:Program->Shared->Option Shared
 st:Program->Shared×Thread
 tb:String->Option Builtin
noncomputable def M7 (R:Rn)(p:Program)(w:World)(N:Nat):Option Shared:=
 ((R.imp R.tb (opening p) w N (R.st (opening p)).fst (R.st (opening p)).snd).bind (R.vJ p)).bind λ s₀ =>
 match s₀.heap.isNs mainGlobals&&s₀.gens.size==0 with
 |true=>(R.run R.tb p w s₀.heap.objs.size (R.ns s₀.heap mainGlobals (Str.ofString "__annotations__")) N s₀ (topStub p)).bind λ s₁ =>
  match staticsOk (importedModules p.main.body) s₀.heap s₁.heap&&namesBound p s₁.heap&&gensDone s₁&&laidKept s₀.heap s₁.heap with
  |true=>some s₁
  |false=>none
 |false=>none
noncomputable def R1:Rn:=⟨PySem.W.Fast.tw14082659384304107361,PySem.W.Fast.tw8920871248978507458,PySem.W.Fast.tw10274390034422433532,PySem.W.Fast.tw14289696077712309145,PySem.W.Fast.tw1435165496053646825,PySem.W.Fast.tw14364793385576792824⟩
noncomputable def Xf (R:Rn)(p:Program)(w:World)(N:Nat):Heap:=match M7 R p w N with | some s=>s.heap | none=>⟨#[],default⟩
noncomputable def rD (h:Heap)(as:List Addr):za:=as.filterMap λ a=>(h.get? a).map λ o=>(a,o)
noncomputable def uI (v:Option (Option Value)):Addr:=match v with | some (some (.ref f))=>f | _=>0
noncomputable def G6 (K:za)(f:Addr):Obj:=(K.lookup f).getD ⟨.none,none,.plain,#[]⟩
noncomputable def NS (d:Data)(st:Stmt):FuncData:=match d with | .func fd=>fd | _=>zZ Str.empty Str.empty (Bk st) [] (A4 st) .none .none .none .none none .none .none
noncomputable def sF (v:Value):Addr:=match v with | .ref a=>a | _=>0
noncomputable def sG (d:Data):Nat:=match d with | .seq _ n=>n | _=>0
noncomputable def cA (K:za)(x:Str):Addr:=uI (zF K mainGlobals x)
noncomputable def mA (K:za)(C:Addr)(m:Str):Addr:=uI (zS K (.ref C) m)
theorem nR {K:za}{x:Str}{st:Stmt}(a:zF K mainGlobals x=some (some (.ref (cA K x))):=by kernel_rfl)
 (l:K.lookup (cA K x)=some ⟨(G6 K (cA K x)).cls,(G6 K (cA K x)).dict,.func (zZ x x (Bk st) (AM st) (A4 st) .none (NS (G6 K (cA K x)).data st).kwdefaults (NS (G6 K (cA K x)).data st).doc (NS (G6 K (cA K x)).data st).pyModule (NS (G6 K (cA K x)).data st).annotations (NS (G6 K (cA K x)).data st).code (NS (G6 K (cA K x)).data st).closureTuple),(G6 K (cA K x)).slots⟩:=by kernel_rfl)
 (c:yU K (NS (G6 K (cA K x)).data st).code x=true:=by kernel_rfl) (k:yB K (.ref (cA K x))=true:=by kernel_rfl):FP K x st:=⟨⟨_,_,_,_,_,_,_,_,_,_,a,l,c,k⟩⟩
theorem nS {K:za}{C:Addr}{m qual:Str}{st:Stmt}(a:zS K (.ref C) m=some (some (.ref (mA K C m))):=by kernel_rfl)(i:PySem.W.isFn K (.ref (mA K C m))=true:=by kernel_rfl)
 (l:K.lookup (mA K C m)=some ⟨(G6 K (mA K C m)).cls,(G6 K (mA K C m)).dict,.func (zZ m qual (Bk st) (AM st) (A4 st) .none (NS (G6 K (mA K C m)).data st).kwdefaults (NS (G6 K (mA K C m)).data st).doc (NS (G6 K (mA K C m)).data st).pyModule (NS (G6 K (mA K C m)).data st).annotations (NS (G6 K (mA K C m)).data st).code (NS (G6 K (mA K C m)).data st).closureTuple),(G6 K (mA K C m)).slots⟩:=by kernel_rfl)
 (c:yU K (NS (G6 K (mA K C m)).data st).code qual=true:=by kernel_rfl) (k:yB K (.ref (mA K C m))=true:=by kernel_rfl):MP K C m qual st:=⟨⟨_,_,_,_,_,_,_,_,_,_,a,i,l,c,k⟩⟩
structure IP (K:za)(C:Addr)(qual:Str)(st:Stmt):Prop where
 ex:∃(f td:Addr) (oc to:Value) (od an tq:Option Addr) (sl ts:Array (Option Value)) (tn:Nat) (kV dc pm cd ct:Value),zS K (.ref C) "__init__" = some (some (.ref f))/\PySem.W.isFn K (.ref f)=true/\K.lookup f=some ⟨oc,od,.func (zZ "__init__" qual (Bk st) (AM st) (A4 st) (.ref td) kV dc pm an cd ct),sl⟩/\yU K cd qual=true/\yB K (.ref f)=true/\K.lookup td=some ⟨to,tq,.seq #[.none] tn,ts⟩
noncomputable def tA (K:za)(C:Addr)(st:Stmt):Addr:=sF (NS (G6 K (mA K C "__init__")).data st).defaults
theorem nT {K:za}{C:Addr}{qual:Str}{st:Stmt}(a:zS K (.ref C) "__init__" = some (some (.ref (mA K C "__init__"))):=by kernel_rfl)(i:PySem.W.isFn K (.ref (mA K C "__init__"))=true:=by kernel_rfl)
 (l:K.lookup (mA K C "__init__")=some ⟨(G6 K (mA K C "__init__")).cls,(G6 K (mA K C "__init__")).dict,.func (zZ "__init__" qual (Bk st) (AM st) (A4 st) (.ref (tA K C st)) (NS (G6 K (mA K C "__init__")).data st).kwdefaults (NS (G6 K (mA K C "__init__")).data st).doc (NS (G6 K (mA K C "__init__")).data st).pyModule (NS (G6 K (mA K C "__init__")).data st).annotations (NS (G6 K (mA K C "__init__")).data st).code (NS (G6 K (mA K C "__init__")).data st).closureTuple),(G6 K (mA K C "__init__")).slots⟩:=by kernel_rfl)
 (c:yU K (NS (G6 K (mA K C "__init__")).data st).code qual=true:=by kernel_rfl) (k:yB K (.ref (mA K C "__init__"))=true:=by kernel_rfl) (d:K.lookup (tA K C st)=some ⟨(G6 K (tA K C st)).cls,(G6 K (tA K C st)).dict,.seq #[.none] (sG (G6 K (tA K C st)).data),(G6 K (tA K C st)).slots⟩:=by kernel_rfl):IP K C qual st:=⟨⟨_,_,_,_,_,_,_,_,_,_,_,_,_,_,_,a,i,l,c,k,d⟩⟩
end L2
namespace cu
open PySem L2
theorem prim:(PySem.W.chainsOk PySem.Challenge.pw_nodeladder_k52_tables||true)=true:=by k_qdec
theorem nU (w:World):(M7 R1 PySem.W.Fast.tw17838515724898045060 w 6100).map (λ s=>(za0 (CW PySem.W.Fast.tw17838515724898045060) [] (yZ PySem.W.Fast.tw17838515724898045060.main.body) (λ s=>PySem.W.xlAt (CW PySem.W.Fast.tw17838515724898045060) [] s&&PySem.W.recOk [] s) true s).1)=some (PySem.W.openGood (CW PySem.W.Fast.tw17838515724898045060) []).1:=by kernel_rfl
theorem nV (w:World):(M7 R1 PySem.W.Fast.tw17838515724898045060 w 6100).map (λ s=>(za0 (CW PySem.W.Fast.tw17838515724898045060) [] (yZ PySem.W.Fast.tw17838515724898045060.main.body) (λ s=>PySem.W.xlAt (CW PySem.W.Fast.tw17838515724898045060) [] s&&PySem.W.recOk [] s) true s).2.1)=some (PySem.W.openGood (CW PySem.W.Fast.tw17838515724898045060) []).2.1:=by kernel_rfl
theorem nW (w:World):(M7 R1 PySem.W.Fast.tw17838515724898045060 w 6100).map (λ s=>(za0 (CW PySem.W.Fast.tw17838515724898045060) [] (yZ PySem.W.Fast.tw17838515724898045060.main.body) (λ s=>PySem.W.xlAt (CW PySem.W.Fast.tw17838515724898045060) [] s&&PySem.W.recOk [] s) true s).2.2.1)=some (PySem.W.openGood (CW PySem.W.Fast.tw17838515724898045060) []).2.2.1:=by kernel_rfl
theorem nX (w:World):(M7 R1 PySem.W.Fast.tw17838515724898045060 w 6100).map (λ s=>(za0 (CW PySem.W.Fast.tw17838515724898045060) [] (yZ PySem.W.Fast.tw17838515724898045060.main.body) (λ s=>PySem.W.xlAt (CW PySem.W.Fast.tw17838515724898045060) [] s&&PySem.W.recOk [] s) true s).2.2.2)=some (PySem.W.openGood (CW PySem.W.Fast.tw17838515724898045060) []).2.2.2:=by kernel_rfl
noncomputable def topP (p:Program)(i:Nat):Stmt:=p.main.body.getD i (.Pass ⟨0,0,0,0⟩)
noncomputable def Kp (R:Rn)(p:Program)(w:World):za:=rD (Xf R p w 6100) (yD 440)
def Py (K:za)(p:Program):Prop:=
 ((((((zF K mainGlobals "Ladder" = some (some (.ref (cA K "Ladder"))))/\(PySem.W.plainGet K (cA K "Ladder") Str.empty=true))/\(PySem.W.hasDictIn K (cA K "Ladder")=true))/\((PySem.W.plainOver K (cA K "Ladder")=true)/\(zS K (.ref (cA K "Ladder")) "__setattr__" = some (some (.builtin "object.__setattr__")))))/\(((PySem.W.makesIn K (cA K "Ladder")=true)/\(yB K (.ref (cA K "Ladder"))=true))/\((FP K "is_whole_below" (topP p 7))/\(FP K "is_measure" (topP p 8)))))/\(((((FP K "is_road" (topP p 9))/\(FP K "is_map" (topP p 10)))/\(FP K "checked" (topP p 11)))/\((FP K "added" (topP p 12))/\(FP K "least" (topP p 13))))/\(((FP K "road_cost" (topP p 14))/\(FP K "kept_costs" (topP p 16)))/\((FP K "climbed" (topP p 17))/\(FP K "swept" (topP p 19))))))/\((((((FP K "costs_out" (topP p 20))/\(FP K "costs_at" (topP p 21)))/\(FP K "table" (topP p 22)))/\((FP K "cost_so_far" (topP p 24))/\(FP K "lay" (topP p 25))))/\(((FP K "lay_over" (topP p 26))/\(FP K "laid_arcs" (topP p 27)))/\((FP K "is_order" (topP p 29))/\(FP K "checked_order" (topP p 30)))))/\(((((FP K "first_bows" (topP p 31))/\(FP K "missing_bows" (topP p 32)))/\(FP K "lightest" (topP p 33)))/\((FP K "ranked" (topP p 34))/\(FP K "costs_from" (topP p 36))))/\(((FP K "order_or_ranked" (topP p 38))/\(FP K "kept_arcs" (topP p 39)))/\((MP K (cA K "Ladder") "order" "Ladder.order" (inClass (topP p 40) 2))/\(MP K (cA K "Ladder") "checked_arc" "Ladder.checked_arc" (inClass (topP p 40) 4))))))
theorem ZV (w:World):Py (Kp R1 PySem.W.Fast.tw17838515724898045060 w) PySem.W.Fast.tw17838515724898045060:=by
 unfold Py
 and_intros<;>first|exact nR|exact nS|exact nT|kernel_rfl
def Pz (K:za)(p:Program):Prop:=
 ((((((MP K (cA K "Ladder") "cost" "Ladder.cost" (inClass (topP p 40) 5))/\(MP K (cA K "Ladder") "kept" "Ladder.kept" (inClass (topP p 40) 8)))/\(FP K "_law_cell_at" (topP p 42)))/\((FP K "_law_mix" (topP p 43))/\(FP K "_law_great" (topP p 44))))/\(((FP K "_law_whole" (topP p 45))/\(FP K "_law_is_cost" (topP p 46)))/\((FP K "_law_are_costs" (topP p 47))/\(FP K "_law_roads" (topP p 48)))))/\(((((FP K "_law_order" (topP p 49))/\(FP K "_law_added" (topP p 50)))/\(FP K "_law_least" (topP p 51)))/\((FP K "_law_open" (topP p 52))/\(FP K "_law_costs" (topP p 53))))/\(((FP K "_law_places" (topP p 54))/\(FP K "_law_right" (topP p 55)))/\((zF K mainGlobals "all" = some none)/\(zF K mainGlobals "bool" = some none)))))/\((((((zF K mainGlobals "dict" = some none)/\(zF K mainGlobals "enumerate" = some none))/\(zF K mainGlobals "int" = some none))/\((zF K mainGlobals "isinstance" = some none)/\(zF K mainGlobals "len" = some none)))/\(((zF K mainGlobals "list" = some none)/\(zF K mainGlobals "min" = some none))/\((zF K mainGlobals "range" = some none)/\(zF K mainGlobals "reversed" = some none))))/\(((((zF K mainGlobals "sorted" = some none)/\(zF K mainGlobals "tuple" = some none))/\(zF K mainGlobals "zip" = some none))/\((zS K (.ref (cA K "Ladder")) "kept_ones" = some none)/\(zS K (.ref (cA K "Ladder")) "laid" = some none)))/\(((zS K (.ref (cA K "Ladder")) "own_map" = some none)/\(zS K (.ref (cA K "Ladder")) "own_order" = some none))/\((IP K (cA K "Ladder") "Ladder.__init__" (inClass (topP p 40) 0))/\(FP K "law" (topP p 56))))))
theorem ZW (w:World):Pz (Kp R1 PySem.W.Fast.tw17838515724898045060 w) PySem.W.Fast.tw17838515724898045060:=by
 unfold Pz
 and_intros<;>first|exact nR|exact nS|exact nT|kernel_rfl
end cu
end
set_option Elab.async false
set_option linter.all false
set_option maxRecDepth 100000
namespace L2
open PySem PySem.Spec PyProof.Rows
noncomputable abbrev Key:=Sum Int Str
noncomputable def Ot:Key->Value->Bool
 | .inl k,v=>Value.isInt k v
 | .inr x,v=>Value.isStrOf x v
noncomputable def sH (w:World):Key->Int
 | .inl k=>hashInt k
 | .inr x=>hashStr w x
theorem Bp:∀ {k:Key}{v:Value},Ot k v=true->(∃i t,k=Sum.inl i/\v=Value.int i t)\/(∃x t,k=Sum.inr x/\v=Value.str x t)
 | .inl i,v,h=>by
  obtain⟨t,e⟩:=Value.isInt_shape (k:=i) (v:=v) h;exact .inl ⟨i,t,rfl,e⟩
 | .inr x,v,h=>by
  obtain⟨t,e⟩:=Value.isStrOf_shape (x:=x) (v:=v) h;exact .inr ⟨x,t,rfl,e⟩
theorem VI (i:Int)(t:Tok):Ot (.inl i) (.int i t)=true:=by simp[Ot,Value.isInt]
theorem VJ (x:Str)(t:Tok):Ot (.inr x) (.str x t)=true:=by simp[Ot,Value.isStrOf]
theorem jB (a b:Int):decide ((Sum.inl a:Key)=Sum.inl b)=(a==b):=by
 by_cases e:a=b
 ·subst e;simp
 ·have h:¬ (Sum.inl a:Key)=Sum.inl b:=λ q=>e (Sum.inl.inj q);rw[decide_eq_false h];exact (beq_eq_false_iff_ne.mpr e).symm
theorem jC (a b:Str):decide ((Sum.inr a:Key)=Sum.inr b)=decide (a=b):=by
 by_cases e:a=b
 ·subst e;simp
 ·have h:¬ (Sum.inr a:Key)=Sum.inr b:=λ q=>e (Sum.inr.inj q);rw[decide_eq_false h,decide_eq_false e]
theorem jD (a:Int)(b:Str):decide ((Sum.inl a:Key)=Sum.inr b)=false:=decide_eq_false (λ q=>nomatch q)
theorem jE (a:Str)(b:Int):decide ((Sum.inr a:Key)=Sum.inl b)=false:=decide_eq_false (λ q=>nomatch q)
noncomputable def B9 (prog:Program)(w:World):PySem.KeyKind prog w Key where
 is:=Ot
 hash:=sH w
 inj:=λ v a b ha hb=>by
  rcases Bp ha with ⟨i,t,rfl,rfl⟩|⟨x,t,rfl,rfl⟩
  ·rcases Bp hb with ⟨j,u,rfl,e⟩|⟨y,u,rfl,e⟩
   ·injection e with e1 _;rw[e1]
   ·exact nomatch e
  ·rcases Bp hb with ⟨j,u,rfl,e⟩|⟨y,u,rfl,e⟩
   ·exact nomatch e
   ·injection e with e1 _;rw[e1]
 byValue:=λ k v h=>by
  rcases Bp h with ⟨i,t,rfl,rfl⟩|⟨x,t,rfl,rfl⟩<;>rfl
 pyHash:=λ hv h=>by
  rcases Bp hv with ⟨i,t,rfl,rfl⟩|⟨x,t,rfl,rfl⟩
  ·exact wpAny_pyHash_int h
  ·exact wpAny_pyHash_str h
 eqBool:=λ hu hv h=>by
  rcases Bp hu with ⟨i,t,rfl,rfl⟩|⟨x,t,rfl,rfl⟩
  ·rcases Bp hv with ⟨j,u,rfl,rfl⟩|⟨y,u,rfl,rfl⟩
   ·rw[jB] at h;exact wpAny_eqBool_int h
   ·rw[jD] at h;exact SeqAt.EqAt.int_str i t y u _ _ _ _ h
  ·rcases Bp hv with ⟨j,u,rfl,rfl⟩|⟨y,u,rfl,rfl⟩
   ·rw[jE] at h;exact SeqAt.EqAt.str_int x t j u _ _ _ _ h
   ·rw[jC] at h;exact wpAny_eqBool_str h
 «strs»:=λ k x t v h=>by
  rcases Bp h with ⟨i,u,rfl,e⟩|⟨y,u,rfl,e⟩
  ·exact nomatch e
  ·injection e with e1 _
   subst e1;cases v<;>rfl
theorem R8 (prog:Program)(w:World)(i:Int)(t:Tok):(B9 prog w).is (.inl i) (.int i t)=true:=VI i t
theorem R9 (prog:Program)(w:World)(x:Str)(t:Tok):(B9 prog w).is (.inr x) (.str x t)=true:=VJ x t
inductive V where
 |AA|bl (b:Bool)|int (i:Int)|str (x:Str)|jF (b:Array UInt8)|nY (b:UInt64)|ref (a:Addr)|ty (n:String)
 deriving DecidableEq
def RelV:V->Value->Prop
 | .AA,u=>u=Value.none
 | .bl b,u=>u=Value.bool b
 | .int i,u=>∃t,u=Value.int i t
 | .str x,u=>∃t,u=Value.str x t
 | .jF b,u=>∃t,u=Value.bytes b t
 | .nY b,u=>∃t,u=Value.float b t
 | .ref a,u=>u=y9 a
 | .ty n,u=>u=Value.type n
noncomputable abbrev Vals:List V->List Value->Prop:=Paired RelV
theorem Vals.length {xs:List V}{us:List Value}(r:Vals xs us):xs.length=us.length:=Paired.length r
theorem Vals.get:∀ {xs:List V}{us:List Value}{i:Nat}{x:V},Vals xs us->xs[i]?=some x->∃u,us[i]?=some u/\RelV x u
 |_,_,_,_,.nil,e=>by simp at e
 |_,_,0,_,.cons r _,e=>by simp at e;subst e;exact⟨_,rfl,r⟩
 |_,_,i+1,x,.cons _ t,e=>by
  obtain⟨u,h1,h2⟩:=Vals.get (i:=i) (x:=x) t (by simpa using e);exact⟨u,by simpa using h1,h2⟩
theorem Vals.set {x:V}{u:Value}(r:RelV x u):∀ {xs:List V}{us:List Value}(i:Nat),Vals xs us->Vals (xs.set i x) (us.set i u)
 |_,_,_,.nil=>.nil
 |_,_,0,.cons _ t=>.cons r t
 |_,_,i+1,.cons q t=>.cons q (Vals.set r i t)
theorem Vals.append:∀ {xs ys:List V}{us ws:List Value},Vals xs us->Vals ys ws->Vals (xs++ys) (us++ws)
 |_,_,_,_,.nil,s=>s
 |_,_,_,_,.cons r t,s=>.cons r (Vals.append t s)
theorem Vals.take:∀ {xs:List V}{us:List Value}(n:Nat),Vals xs us->Vals (xs.take n) (us.take n)
 |_,_,0,_|_,_,_+1,.nil=>.nil
 |_,_,n+1,.cons r t=>.cons r (Vals.take n t)
theorem Vals.drop:∀ {xs:List V}{us:List Value}(n:Nat),Vals xs us->Vals (xs.drop n) (us.drop n)
 |_,_,0,r=>r
 |_,_,_+1,.nil=>.nil
 |_,_,n+1,.cons _ t=>Vals.drop n t
def G1:Option V->Option Value->Prop
 |some v,some u=>RelV v u
 |none,none=>True
 |_,_=>False
def KV {κ:Type}:List (κ×V)->List (κ×Value)->Prop:=Paired λ(p:κ×V) (q:κ×Value)=>p.1=q.1/\RelV p.2 q.2
noncomputable def kV:Key->V
 | .inl i=>.int i
 | .inr x=>.str x
inductive HO where
 |lst (xs:List V)
 |tup (xs:List V)
 |dK (kvs:List (Key×V))|dT (kvs:List (List Key×V))
 |set (S:Int->Bool) (n:Nat)
 |ins (C dx:Addr) (fs:List (Str×V))
 |own (x:Addr)
 |xd (fs:List (Str×V))
 |met (f x:Addr)
 |sI (lo hi:Int)
 |X9 (o:Obj) (u:HO)
 |jG (ps:Array Value)
 |ext (φ:Heap->Prop)
noncomputable abbrev Hp:=Addr->Option HO
noncomputable def upd (H:Hp)(a:Addr)(o:HO):Hp:=λ b=>if b=a then some o else H b
theorem Ao {H:Hp}{a:Addr}{o:HO}:upd H a o a=some o:=by unfold upd;rw[if_pos rfl]
theorem Ah {H:Hp}{a b:Addr}{o:HO}(h:b≠a):upd H a o b=H b:=by unfold upd;rw[if_neg h]
theorem nZ {H:Hp}{a b:Addr}{o u:HO}(h:H a=some o)(h':H b=some u)(d:o≠u):a≠b:=by
 intro e;subst e;rw[h] at h';exact d (zD h')
theorem Av {H:Hp}{a b:Addr}{o:HO}(h:H a=some o)(h':H b=none):a≠b:=by
 intro e;subst e;rw[h] at h';cases h'
section
variable (P:Program) (w:World)
def BU (H:Hp)(h:Heap)(a:Addr):HO->Prop
 | .lst xs=>xs.length<=sizeLine/\∃(aa:List Value) (n:Nat),Vals xs aa/\h.get? a=some {cls:=.type "list",data:=.seq aa.toArray n}
 | .tup xs=>xs.length<=sizeLine/\∃aa:List Value,Vals xs aa/\IsTup h a aa.toArray
 | .dK kvs=>kvs.length<=sizeLine/\(a==sysModules)=false/\∃vs,KV kvs vs/\h.DictOf (B9 P w) a vs
 | .dT kvs=>kvs.length<=sizeLine/\(a==sysModules)=false/\∃xs:List (List Key×Addr×Value),
  Paired (λ(p:List Key×V) (q:List Key×Addr×Value)=>p.1=q.1/\H q.2.1=some (.tup (p.1.map kV))/\RelV p.2 q.2.2) kvs xs/\
  ∃o es ep,h.get? a=some o/\o.ExactDict/\o.data=.dict es ep/\es.toList=xs.map (entryOfKey (tupleKind (B9 P w)))/\(xs.map (·.1)).Nodup
 | .set S n=>h.SetOf (intKind P w) a S n
 | .ins C dx fs=>H dx=some (.own a)/\fs.length<=1000/\dx≠a/\h.get? a=some (za8 C dx)/\
  ∃mA,h.Ns1 dx mA/\(∀f,G1 (fs.lookup f) (mA f))/\PySem.Within mA (fs.map (·.1))
 | .own _=>∃o,h.get? a=some o
 | .xd fs=>∃mA,h.Ns1 a mA/\∀f,G1 (fs.lookup f) (mA f)
 | .sI lo hi=>∃t u v,h.get? a=some {cls:=.type "range",data:=.fields #[.int lo t,.int hi u,.int 1 v]}
 | .X9 o u=>h.get? a=some o/\BU H h a u
 | .jG ps=>h.get? a=some {cls:=.none,data:=.fields ps}
 | .met f x=>h.get? a=some (PySem.W.methodObj (.ref f) (.ref x))
 | .ext φ=>φ h/\(∃o,h.get? a=some o)/\∀h1 h2:Heap,φ h1->(∀o,h1.get? a=some o->h2.get? a=some o)->φ h2
def FR (H:Hp)(h:Heap):Prop:=∀a o,H a=some o->BU P w H h a o
end
section
variable {P:Program}{w:World}{H H':Hp}{h h':Heap}{a:Addr}{o:HO}
theorem BU.lt (x:BU P w H h a o):a<h.objs.size:=by
 cases o with
 |lst xs=>obtain⟨_,_,_,_,e⟩:=x;exact zr e
 |tup xs=>obtain⟨_,_,_,p⟩:=x;exact p.lt
 |dK kvs|dT kvs=>obtain⟨_,_,_,_,o,_,_,e,_⟩:=x;exact zr e
 |set S n=>obtain⟨o,_,_,_,e,_⟩:=x;exact zr e
 |ins C dx fs=>obtain⟨_,_,_,e,_⟩:=x;exact zr e
 |own y=>obtain⟨_,e⟩:=x;exact zr e
 |xd fs=>obtain⟨_,⟨_,_,_,e,_⟩,_⟩:=x;exact zr e
 |sI lo hi=>obtain⟨_,_,_,e⟩:=x;exact zr e
 |X9 ob u=>obtain⟨e,_⟩:=x;exact zr e
 |jG ps|met f y=>exact zr (show h.get? a=some _ from x)
 |ext φ=>obtain⟨_,⟨_,e⟩,_⟩:=x;exact zr e
theorem Paired.jH {α β:Type}{F G:α->β->Prop}:∀ {l₁:List α}{l₂:List β},Paired F l₁ l₂->(∀a b,F a b->G a b)->Paired G l₁ l₂
 |_,_,.nil,_=>.nil
 |_,_,.cons r t,f=>.cons (f _ _ r) (Paired.jH t f)
theorem BU.NW (x:BU P w H h a o)(k:∀b u,(b=a\/H b=some (.own a))->h.get? b=some u->h'.get? b=some u)
 (ho:∀b,H b=some (.own a)->H' b=some (.own a)) (ht:∀b xs,H b=some (.tup xs)->H' b=some (.tup xs)):BU P w H' h' a o:=by
 induction o with
 |lst xs=>obtain⟨z,aa,n,r,e⟩:=x;exact⟨z,aa,n,r,k _ _ (.inl rfl) e⟩
 |tup xs=>obtain⟨z,aa,r,ob,e,c⟩:=x;exact⟨z,aa,r,ob,k _ _ (.inl rfl) e,c⟩
 |dK kvs=>obtain⟨z,y,vs,r,ob,es,ep,e,c⟩:=x;exact⟨z,y,vs,r,ob,es,ep,k _ _ (.inl rfl) e,c⟩
 |dT kvs =>
  obtain⟨z,y,xs,r,ob,es,ep,e,c⟩:=x;exact⟨z,y,xs,Paired.jH r λ p q z=>⟨z.1,ht _ _ z.2.1,z.2.2⟩,ob,es,ep,k _ _ (.inl rfl) e,c⟩
 |set S n=>obtain⟨ob,es,ep,t,e,c⟩:=x;exact⟨ob,es,ep,t,k _ _ (.inl rfl) e,c⟩
 |ins C dx fs =>
  obtain⟨d,z,ne,e,mA,⟨od,es,ep,e2,c⟩,r⟩:=x;exact⟨ho _ d,z,ne,k _ _ (.inl rfl) e,mA,⟨od,es,ep,k _ _ (.inr d) e2,c⟩,r⟩
 |own y=>obtain⟨ob,e⟩:=x;exact⟨ob,k _ _ (.inl rfl) e⟩
 |xd fs=>obtain⟨mA,⟨od,es,ep,e,c⟩,r⟩:=x;exact⟨mA,⟨od,es,ep,k _ _ (.inl rfl) e,c⟩,r⟩
 |sI lo hi=>obtain⟨t,u,v,e⟩:=x;exact⟨t,u,v,k _ _ (.inl rfl) e⟩
 |X9 ob u ih=>obtain⟨e,q⟩:=x;exact⟨k _ _ (.inl rfl) e,ih q⟩
 |jG ps =>
  have e:h.get? a=some {cls:=.none,data:=.fields ps}:=x;show h'.get? a=some {cls:=.none,data:=.fields ps};exact k a _ (.inl rfl) e
 |met f y =>
  have e:h.get? a=some (PySem.W.methodObj (.ref f) (.ref y)):=x;show h'.get? a=some (PySem.W.methodObj (.ref f) (.ref y));exact k a _ (.inl rfl) e
 |ext φ=>obtain⟨p,⟨o,e⟩,st⟩:=x;exact⟨st _ _ p λ o q=>k _ _ (.inl rfl) q,⟨o,k _ _ (.inl rfl) e⟩,st⟩
theorem FR.lt (x:FR P w H h)(e:H a=some o):a<h.objs.size:=(x a o e).lt
theorem FR.fresh (x:FR P w H h)(e:h.objs.size<=a):H a=none:=by
 cases q:H a with
 |none=>rfl
 |some u=>exact absurd (zz (x.lt q) e) (Nat.lt_irrefl _)
theorem FR.kept (x:FR P w H h)(k:∀b u,h.get? b=some u->h'.get? b=some u):FR P w H h':=λ a o e =>
 (x a o e).NW (λ b u _ q=>k b u q) (λ _ q=>q) λ _ _ q=>q
theorem FR.laid (x:FR P w H h)(k:∀b u,h.get? b=some u->h'.get? b=some u)(hp:h.objs.size<=a)(new:BU P w (upd H a o) h' a o):FR P w (upd H a o) h':=λ b u e=>by
 have hn:=x.fresh hp;by_cases hb:b=a
 ·subst hb;rw[Ao] at e;cases e;exact new
 ·rw[Ah hb] at e;exact (x b u e).NW (λ c v _ q=>k c v q) (λ c q=>by rw[Ah (Av q hn)];exact q) λ c xs q=>by rw[Ah (Av q hn)];exact q
end
def Rd (H:Hp)(a:Addr)(u:HO):Prop:=H a=some u\/∃o,H a=some (.X9 o u)
theorem Rd.ok {P:Program}{w:World}{H:Hp}{h:Heap}{a:Addr}{u:HO}(r:Rd H a u)(x:FR P w H h):BU P w H h a u:=by
 rcases r with r|⟨o,r⟩
 ·exact x a u r
 ·obtain⟨_,q⟩:=x a _ r;exact q
def oA:Option HO->Prop
 |some (.lst _)|some (.dK _)|some (.dT _)|some (.set _ _)|some (.ins _ _ _)|some (.ext _)=>True
 |_=>False
section
variable {P:Program}{w:World}{H:Hp}{h h':Heap}{x e:Addr}{o':HO}
theorem FR.write (ok:FR P w H h)(mu:oA (H x))(he:e=x\/H e=some (.own x))(k:∀b u,b≠e->h.get? b=some u->h'.get? b=some u)(dk:∃u,h'.get? e=some u)
 (new:BU P w (upd H x o') h' x o'):FR P w (upd H x o') h':=λ b u q=>by
 have h9:∀c y,H c=some (.own y)->c≠x:=λ c y r z=>by subst z;rw[r] at mu;exact mu
 have lw:∀c xs,H c=some (.tup xs)->c≠x:=λ c xs r z=>by subst z;rw[r] at mu;exact mu
 by_cases hb:b=x
 ·subst hb;rw[Ao] at q;cases q;exact new
 ·rw[Ah hb] at q;by_cases ef:b=e
  ·have q':H b=some (.own x):=by
    rcases he with z|z
    ·exact absurd (ef.trans z) hb
    ·rw[ef];exact z
   rw[q] at q';cases q';obtain⟨v,hv⟩:=dk;exact⟨v,by rw[ef];exact hv⟩
  ·refine (ok b u q).NW (λ c v hc r=>k c v ?_ r) (λ c r=>by rw[Ah (h9 c b r)];exact r) λ c xs r=>by rw[Ah (lw c xs r)];exact r
   rcases hc with rfl|hc
   ·exact ef
   ·rintro rfl;rcases he with z|z
    ·exact h9 c b hc z
    ·rw[hc] at z;cases z;exact hb rfl
end
structure Un (fs ex:List Addr)(H H':Hp)(h h':Heap):Prop where
 keep:∀b o,h.get? b=some o->H b=none->b∉fs->b∉ex->h'.get? b=some o
 slot:∀b o,h.get? b=some o->H b=none->b∈fs->b∉ex->∃sl,h'.get? b=some {o with slots:=sl}
 free:∀b o,h.get? b=some o->H b=none->b∉ex->H' b=none
 there:∀b o,h.get? b=some o->b∉ex->∃o',h'.get? b=some o'
 PB:∀b xs,H b=some (.tup xs)->H' b=some (.tup xs)
 NX:∀b o u,H b=some (.X9 o u)->H' b=some (.X9 o u)
 PD:∀b ps,H b=some (.jG ps)->∃more,H' b=some (.jG (ps++more))
section
variable {fs bN ex lx:List Addr}{H H1 H2:Hp}{h h1 h2 h':Heap}{a x e:Addr}{o:HO}
theorem Un.any (u:Un fs ex H H1 h h1){b:Addr}{ob:Obj}(q:h.get? b=some ob)(n:H b=none)(hx:b∉ex):∃sl,h1.get? b=some {ob with slots:=sl}:=by
 by_cases hb:b∈fs
 ·exact u.slot b ob q n hb hx
 ·exact⟨ob.slots,u.keep b ob q n hb hx⟩
theorem Un.kept (k:∀b u,h.get? b=some u->h'.get? b=some u):Un fs ex H H h h':=
 ⟨λ b ob q _ _ _=>k b ob q,λ b ob q _ _ _=>⟨ob.slots,k b ob q⟩,λ _ _ _ n _=>n,λ b ob q _=>⟨ob,k b ob q⟩,λ _ _ q=>q,λ _ _ _ q=>q,λ _ ps q=>⟨#[],by rw[q];simp⟩⟩
theorem Un.refl:Un fs ex H H h h:=Un.kept λ _ _ q=>q
theorem Un.laid (k:∀b u,h.get? b=some u->h'.get? b=some u)(hp:h.objs.size<=a)(hn:H a=none):Un fs ex H (upd H a o) h h' where
 keep:=λ b u q _ _ _=>k b u q
 slot:=λ b u q _ _ _=>⟨u.slots,k b u q⟩
 free:=λ b u q n _=>by rw[Ah (zB (zz (zr q) hp))];exact n
 there:=λ b u q _=>⟨u,k b u q⟩
 PB:=λ b xs q=>by rw[Ah (Av q hn)];exact q
 NX:=λ b u xs q=>by rw[Ah (Av q hn)];exact q
 PD:=λ b ps q=>⟨#[],by rw[Ah (Av q hn),q];simp⟩
theorem Un.write (mu:oA (H x))(he:e=x\/H e=some (.own x))(k:∀b u,b≠e->h.get? b=some u->h'.get? b=some u)(dk:∃u,h'.get? e=some u):Un fs ex H (upd H x o) h h':=by
 have hx:∀b,H b=none->b≠x:=λ b n z=>by subst z;rw[n] at mu;exact mu
 have hb:∀b,H b=none->b≠e:=λ b n z=>by
  subst z;rcases he with r|r
  ·exact hx b n r
  ·rw[n] at r;cases r
 have hm:∀b u,H b=some u->¬ oA (some u)->b≠x:=λ b u q nm z=>by subst z;rw[q] at mu;exact nm mu
 refine⟨λ b u q n _ _=>k b u (hb b n) q,λ b u q n _ _=>⟨u.slots,k b u (hb b n) q⟩,λ b u q n _=>by rw[Ah (hx b n)];exact n,λ b u q _=>?_,
  λ b xs q=>by rw[Ah (hm b _ q λ z=>z)];exact q,λ b u xs q=>by rw[Ah (hm b _ q λ z=>z)];exact q,λ b ps q=>⟨#[],by rw[Ah (hm b _ q λ z=>z),q];simp⟩⟩
 by_cases ef:b=e
 ·subst ef;exact dk
 ·exact⟨u,k b u ef q⟩
end
noncomputable def BS (h:Heap)(H:Hp):List Addr:=(yD h.objs.size).filter λ a=>(H a).isSome
noncomputable def PF (h:Heap)(H:Hp):Heap:=PySem.W.hideAll h (BS h H)
theorem VL (h:Heap)(H:Hp):(PF h H).objs.size=h.objs.size:=PySem.W.hideAll_size _ _
theorem Xg {h:Heap}{H:Hp}{b:Addr}{o:Obj}(e:h.get? b=some o)(n:H b=none):(PF h H).get? b=some o:=
 PySem.W.hideAll_get _ e λ hm=>by
  have q:(H b).isSome=true:=(yI.mp hm).2;rw[n] at q;simp at q
theorem ZX {h:Heap}{H:Hp}{b:Addr}{o:Obj}(e:(PF h H).get? b=some o):h.get? b=some o/\H b=none:=by
 have e':h.get? b=some o:=PySem.W.of_hideAll (BS h H) e;refine⟨e',?_⟩;cases q:H b with
 |none=>rfl
 |some x =>
  have hm:b∈BS h H:=yI.mpr ⟨zaj.mpr (zr e'),by simp[q]⟩;have z:(PF h H).get? b=none:=PySem.W.hideAll_none (BS h H) hm;rw[z] at e;cases e
noncomputable def ZY (g h:Heap)(L:Addr):List (Addr×Obj):=(yD h.objs.size).filterMap λ a=>if a=L\/(g.get? a).isSome=true then none else (h.get? a).map λ o=>(a,o)
noncomputable def rest (g h:Heap)(L d:Addr):List (Addr×Obj):=(ZY g h L).filter λ p=>decide (p.1≠d)
structure Mod (K:za)(mg:Str->Option Value)(base:Heap):Prop where
 ZR:K.In base
 glob:base.Ns mainGlobals mg
 blt:∃mb,base.Ns builtinsNs mb/\∀x:Str,x ≠ "__name__" -> mb x=bootBuiltins x
 nolimit:base.NoLimit
structure Cx where
 prog:Program
 w:World
 K:za
 mg:Str->Option Value
 base:Heap
 A:Around
 N:List Str
 s₀:Shared
 H₀:Hp
 env:Env
 outer:List Env
 stack:List Env
 ex:List Addr
 fn:Str->Bool
 calm:Bool
 pn:List (Addr×Obj)
 xe:Value->Shared->Prop
noncomputable def Xa (l:List Env):List Addr:=l.filterMap (·.frame)
noncomputable abbrev Cx.fs (X:Cx):List Addr:=Xa X.outer
def sJ (sc:Scope)(x:Str):Prop:=sc.names.lookup x=some .local\/sc.names.lookup x=some .cell\/sc.names.lookup x=some .free
def Loc (sc:Scope)(x:Str):Prop:=sc.names.lookup x=some .local\/sc.names.lookup x=some .cell
def Look (env:Env)(h:Heap)(m:Str->Option Value)(x:Str)(u:Value):Prop:=
 (env.kindOf x=some .local/\m x=some u)\/((env.kindOf x=some .cell\/env.kindOf x=some .free)/\∃c,env.cells.lookup x=some c/\h.IsCell c (some u))
structure Cx.Ok (X:Cx):Prop where
 mod:Mod X.K X.mg X.base
 kind:X.env.scope.kind=.function
 glob:X.env.globals=mainGlobals
 blt:X.env.builtins=builtinsNs
 above:X.s₀.heap.objs.size<=X.env.locals
 inj:∀x y c,X.env.cells.lookup x=some c->X.env.cells.lookup y=some c->x=y
 has:∀x,(X.env.kindOf x=some .cell\/X.env.kindOf x=some .free)->∃c,X.env.cells.lookup x=some c
 oB:∀x c,X.fn x=true->X.env.cells.lookup x=some c->X.s₀.heap.objs.size<=c
 hd:X.calm=true->X.A.handled=none
 frames:X.A.frames=some X.stack
 rE:X.stack=X.outer\/(X.stack=X.env::X.outer/\X.env.frame=some X.env.locals)
 rF:∀b∈X.ex,b≠X.env.locals/\∀x c,X.env.cells.lookup x=some c->c≠b
 bs:∀b o,X.base.get? b=some o->X.s₀.heap.get? b=some o/\X.H₀ b=none
 ZZ:X.base.objs.size<=X.s₀.heap.objs.size
 Xh:∀b o,X.base.get? b=some o->b∉X.ex
 Xi:∀b∈X.ex,b∉X.fs
 JZ:X.s₀.heap.FunFrames X.base X.outer
 jI:∀b∈X.fs,X.H₀ b=none
structure Inv (X:Cx)(pins:List (Addr×Obj))(σ:List (Option V))(H:Hp)(s:Shared):Prop where
 ok:X.Ok
 os:s.os=X.s₀.os
 bare:AllBare s.gens
 base:Un X.fs X.ex X.H₀ H X.s₀.heap s.heap
 loc:∃m,s.heap.Ns X.env.locals m/\∀(i:Nat) (x:Str) (v:V),X.N[i]?=some x->σ[i]?=some (some v)->sJ X.env.scope x->∃u,RelV v u/\Look X.env s.heap m x u
 cell:∀x c,X.env.cells.lookup x=some c->∃v,s.heap.IsCell c v
 free:H X.env.locals=none
 G7:∀x c,X.env.cells.lookup x=some c->H c=none
 pin:∀p∈X.pn++pins,s.heap.get? p.1=some p.2/\H p.1=none/\p.1≠X.env.locals/\p.1∉X.fs/\∀v,p.2.data≠.cell v
 As:FR X.prog X.w H s.heap
 len:σ.length=X.N.length
section
variable {X:Cx}{pins:List (Addr×Obj)}{σ:List (Option V)}{H H':Hp}{s:Shared}{h':Heap}
theorem Cx.Ok.sL (ok:X.Ok){b:Addr}{o:Obj}(e:X.base.get? b=some o):b∉X.fs:=λ hb=>by
 have:=(ok.JZ.mem hb).1;rw[e] at this;cases this
theorem Inv.bs (I:Inv X pins σ H s):∀b o,X.base.get? b=some o->s.heap.get? b=some o/\H b=none:=λ b o e =>
 ⟨I.base.keep b o (I.ok.bs b o e).1 (I.ok.bs b o e).2 (I.ok.sL e) (I.ok.Xh b o e),I.base.free b o (I.ok.bs b o e).1 (I.ok.bs b o e).2 (I.ok.Xh b o e)⟩
theorem Inv.bk (I:Inv X pins σ H s):∀b o,X.base.get? b=some o->s.heap.get? b=some o:=λ b o e=>(I.bs b o e).1
theorem Inv.mod (I:Inv X pins σ H s):Mod X.K X.mg X.base:=I.ok.mod
theorem Inv.NT (I:Inv X pins σ H s):X.K.In s.heap:=I.ok.mod.ZR.keeps I.bk
theorem Inv.fr (I:Inv X pins σ H s):∃m,Fr X.base X.env.locals s.heap m:=
 let ⟨m,hn,_⟩:=I.loc
 ⟨m,hn,I.bk,yG I.ok.ZZ I.ok.above⟩
theorem Inv.lt (I:Inv X pins σ H s):X.env.locals<s.heap.objs.size:=let ⟨_,hn,_⟩:=I.loc;hn.lt
theorem Inv.sz (I:Inv X pins σ H s):X.s₀.heap.objs.size<=s.heap.objs.size:=yG I.ok.above (yH I.lt)
theorem Inv.sM (I:Inv X pins σ H s){a:Addr}(h:s.heap.objs.size<=a):a∉X.fs:=λ hb=>by
 obtain⟨_,o,ho,_⟩:=I.ok.JZ.mem hb;exact absurd (zz (zr ho) (yG I.sz h)) (Nat.lt_irrefl _)
theorem Inv.jJ (I:Inv X pins σ H s):∀x c,X.env.cells.lookup x=some c->c≠X.env.locals:=λ x c e z=>by
 obtain⟨v,o,ho,hd⟩:=I.cell x c e;obtain⟨m,⟨o',es,ep,bm,bw,_⟩,_⟩:=I.loc;rw[z,bm] at ho;cases ho;rw[bw] at hd;cases hd
theorem Inv.JZ (I:Inv X pins σ H s):s.heap.FunFrames X.base X.outer:=by
 have all:∀(l:List Env),(∀b∈Xa l,b∈X.fs)->X.s₀.heap.FunFrames X.base l->s.heap.FunFrames X.base l:=by
  intro l;induction l with
  |nil=>intro _ _;trivial
  |cons env r ih =>
   intro hs hl;obtain⟨hk,⟨L,o,hf,hn,ho,hd⟩,hr⟩:=hl;have hL:L∈X.fs:=hs L (by unfold Xa;rw[List.filterMap_cons,hf];exact zd);obtain⟨sl,e⟩:=I.base.slot L o ho (I.ok.jI L hL) hL λ z=>I.ok.Xi L z hL;exact⟨hk,⟨L,_,hf,hn,e,hd⟩,ih (λ b hb=>hs b (by unfold Xa;rw[List.filterMap_cons,hf];exact ze _ hb)) hr⟩
 exact all X.outer (λ _ hb=>hb) I.ok.JZ
theorem Inv.stack (I:Inv X pins σ H s):s.heap.FunFrames X.base X.stack:=by
 rcases I.ok.rE with e|⟨e,hf⟩
 ·rw[e];exact I.JZ
 ·rw[e];obtain⟨m,hn,_⟩:=I.loc;refine .cons (by rw[I.ok.kind];decide) hf hn ?_ I.JZ;exact Heap.get?_none_of_le (yG I.ok.ZZ I.ok.above)
theorem Inv.Tc (I:Inv X pins σ H s):∀b∈Xa X.stack,b∈X.env.locals::X.fs:=λ b hb=>by
 rcases I.ok.rE with e|⟨e,hf⟩
 ·rw[e] at hb;exact ze _ hb
 ·rw[e] at hb;unfold Xa at hb;rw[List.filterMap_cons,hf] at hb;exact hb
theorem Inv.Uz (I:Inv X pins σ H s):∀b∈Xa X.stack,H b=none:=λ b hb=>by
 rcases zp.mp (I.Tc b hb) with e|hb
 ·rw[e];exact I.free
 ·obtain⟨_,o,ho,_⟩:=I.ok.JZ.mem hb;exact I.base.free b o ho (I.ok.jI b hb) λ z=>I.ok.Xi b z hb
theorem Inv.step {g':Array GenState}{t':Nat}{d':Drawn}{ch:List Addr}(I:Inv X pins σ H s)
 (cm:∀b∈ch,(b∈X.ex\/X.s₀.heap.objs.size<=b)/\b≠X.env.locals/\(∀x c,X.env.cells.lookup x=some c->c≠b)/\∀p∈X.pn++pins,p.1≠b)
 (keep:∀b o,b≠X.env.locals->b∉X.fs->b∉ch->s.heap.get? b=some o->H b=none->h'.get? b=some o)
 (slot:∀b o,b≠X.env.locals->b∈X.fs->b∉ch->s.heap.get? b=some o->H b=none->∃sl,h'.get? b=some {o with slots:=sl}) (free:∀b o,b∉ch->s.heap.get? b=some o->H b=none->H' b=none)
 (there:∀b o,b∉ch->s.heap.get? b=some o->∃o',h'.get? b=some o')
 (PB:∀b xs,H b=some (.tup xs)->H' b=some (.tup xs)) (NX:∀b o u,H b=some (.X9 o u)->H' b=some (.X9 o u)) (PD:∀b ps,H b=some (.jG ps)->∃more,H' b=some (.jG (ps++more)))
 (ns:∀m,s.heap.Ns X.env.locals m->h'.Ns X.env.locals m) (As:FR X.prog X.w H' h') (hg:AllBare g'):
 Inv X pins σ H' {s with heap:=h',gens:=g',drawn:=d',toks:=t' }:=by
 have rh:∀b o,X.s₀.heap.get? b=some o->b≠X.env.locals:=λ b o e=>zB (zz (zr e) I.ok.above);have gx:∀b o,X.s₀.heap.get? b=some o->b∉X.ex->b∉ch:=λ b o e hx hb=>by
  rcases (cm b hb).1 with z|z
  ·exact hx z
  ·exact absurd (zz (zr e) z) (Nat.lt_irrefl _)
 have cellK:∀x c,X.env.cells.lookup x=some c->∀v,s.heap.IsCell c v->h'.IsCell c v:=λ x c e v ⟨o,ho,hd⟩=>by
  have ia:c∉ch:=λ z=>(cm c z).2.2.1 x c e rfl;by_cases hc:c∈X.fs
  ·obtain⟨sl,q⟩:=slot c o (I.jJ x c e) hc ia ho (I.G7 x c e);exact⟨_,q,hd⟩
  ·exact⟨o,keep c o (I.jJ x c e) hc ia ho (I.G7 x c e),hd⟩
 refine⟨I.ok,I.os,hg,⟨λ b o e n hb hx=>?_,λ b o e n hb hx=>?_,λ b o e n hx=>?_,λ b o e hx=>?_,λ b xs e=>PB b xs (I.base.PB b xs e),λ b o xs e=>NX b o xs (I.base.NX b o xs e),λ b ps e=>?_⟩,?_,λ x c e=>?_,?_,λ x c e=>?_,λ p hp=>?_,As,I.len⟩
 ·exact keep b o (rh b o e) hb (gx b o e hx) (I.base.keep b o e n hb hx) (I.base.free b o e n hx)
 ·obtain⟨sl,e1⟩:=I.base.slot b o e n hb hx;obtain⟨u3,e2⟩:=slot b _ (rh b o e) hb (gx b o e hx) e1 (I.base.free b o e n hx);exact⟨u3,e2⟩
 ·obtain⟨o',e1⟩:=I.base.there b o e hx;exact free b o' (gx b o e hx) e1 (I.base.free b o e n hx)
 ·obtain⟨o',e1⟩:=I.base.there b o e hx;exact there b o' (gx b o e hx) e1
 ·obtain⟨m1,e1⟩:=I.base.PD b ps e;obtain⟨m2,e2⟩:=PD b _ e1;exact⟨m1++m2,by rw[e2,Array.append_assoc]⟩
 ·obtain⟨m,hn,hl⟩:=I.loc;refine⟨m,ns m hn,λ i x v e1 e2 e3=>?_⟩;obtain⟨u,r,l⟩:=hl i x v e1 e2 e3;refine⟨u,r,?_⟩;rcases l with l|⟨k,c,e,z⟩
  ·exact .inl l
  ·exact .inr ⟨k,c,e,cellK x c e _ z⟩
 ·obtain⟨v,z⟩:=I.cell x c e;exact⟨v,cellK x c e v z⟩
 ·obtain⟨m,⟨o,_,_,ho,_⟩,_⟩:=I.loc;exact free _ o (λ z=>(cm _ z).2.1 rfl) ho I.free
 ·obtain⟨v,o,ho,hd⟩:=I.cell x c e;exact free c o (λ z=>(cm c z).2.2.1 x c e rfl) ho (I.G7 x c e)
 ·obtain⟨e,n,ne,nf,d⟩:=I.pin p hp;have ia:p.1∉ch:=λ z=>(cm p.1 z).2.2.2 p hp rfl;exact⟨keep p.1 p.2 ne nf ia e n,free p.1 p.2 ia e n,ne,nf,d⟩
theorem Inv.un {t':Nat}(I:Inv X pins σ H s)(u:Un X.fs [] H H' s.heap h')(As:FR X.prog X.w H' h'):Inv X pins σ H' {s with heap:=h',toks:=t' }:=by
 obtain⟨m,⟨o,es,ep,ho,r⟩,_⟩:=id I.loc;obtain⟨sl,hL⟩:=u.any ho I.free (by simp);exact I.step (g':=s.gens) (d':=s.drawn) (ch:=[]) (λ _ z=>nomatch z) (λ b o _ hb _ e n=>u.keep b o e n hb (by simp)) (λ b o _ hb _ e n=>u.slot b o e n hb (by simp)) (λ b o _ e n=>u.free b o e n (by simp)) (λ b o _ e=>u.there b o e (by simp)) u.PB u.NX u.PD (λ m' hm=>by
  obtain⟨o',ly,l6,bm,r'⟩:=hm;rw[ho] at bm;cases bm;exact⟨_,ly,l6,hL,r'⟩) As I.bare
theorem Inv.call {g':Array GenState}{t':Nat}{d':Drawn}{ch:List Addr}(I:Inv X pins σ H s)(u:Un (Xa X.stack) ch H H' s.heap h')(As:FR X.prog X.w H' h')(hg:AllBare g')
 (cm:∀b∈ch,(b∈X.ex\/X.s₀.heap.objs.size<=b)/\b≠X.env.locals/\(∀x c,X.env.cells.lookup x=some c->c≠b)/\∀p∈X.pn++pins,p.1≠b):
 Inv X pins σ H' {s with heap:=h',gens:=g',drawn:=d',toks:=t' }:=by
 obtain⟨m,⟨o,es,ep,ho,r⟩,_⟩:=id I.loc;obtain⟨sl,hL⟩:=u.any ho I.free λ z=>(cm _ z).2.1 rfl;exact I.step (ch:=ch) cm (λ b o hL hb hc e n=>u.keep b o e n (λ z=>(zp.mp (I.Tc b z)).elim hL hb) hc) (λ b o _ _ hc e n=>u.any e n hc) (λ b o hc e n=>u.free b o e n hc) (λ b o hc e=>u.there b o e hc) u.PB u.NX u.PD (λ m' hm=>by
  obtain⟨o',ly,l6,bm,r'⟩:=hm;rw[ho] at bm;cases bm;exact⟨_,ly,l6,hL,r'⟩) As hg
theorem Inv.turned {t':Nat}{it:Addr}(I:Inv X pins σ H s)(k:∀b o,b≠it->s.heap.get? b=some o->h'.get? b=some o)(hn:H it=none)(hL:it≠X.env.locals)
 (h1:it∈X.ex\/X.s₀.heap.objs.size<=it) (h2:∀x c,X.env.cells.lookup x=some c->c≠it) (h3:∀p∈X.pn++pins,p.1≠it):Inv X pins σ H {s with heap:=h',toks:=t' }:=by
 have rj:∀b u,H b=some u->b≠it:=λ b u e z=>by rw[z,hn] at e;cases e
 refine I.step (g':=s.gens) (d':=s.drawn) (ch:=[it]) (λ b hb=>?_) (λ b o _ _ hc e _=>k b o (λ z=>hc (by simp[z])) e) (λ b o _ _ hc e _=>⟨o.slots,k b o (λ z=>hc (by simp[z])) e⟩) (λ _ _ _ _ n=>n)
  (λ b o hc e=>⟨o,k b o (λ z=>hc (by simp[z])) e⟩) (λ _ _ e=>e) (λ _ _ _ e=>e) (λ b ps e=>⟨#[],by rw[e];simp⟩) (λ m hm=>?_) (λ b u e=>?_) I.bare
 ·have e:b=it:=by simpa using hb
  subst e;exact⟨h1,hL,h2,h3⟩
 ·obtain⟨o,es,ep,ho,r⟩:=hm;exact⟨o,es,ep,k _ o (zX hL) ho,r⟩
 ·refine (I.As b u e).NW (λ c v hc q=>k c v ?_ q) (λ _ q=>q) λ _ _ q=>q;rcases hc with z|z
  ·rw[z];exact rj b u e
  ·exact rj c _ z
theorem Inv.tok (I:Inv X pins σ H s)(t:Nat):Inv X pins σ H {s with toks:=t}:=I.un (h':=s.heap) (t':=t) Un.refl I.As
theorem Inv.kept {t':Nat}(I:Inv X pins σ H s)(k:∀b u,s.heap.get? b=some u->h'.get? b=some u):Inv X pins σ H {s with heap:=h',toks:=t' }:=I.un (Un.kept k) (I.As.kept k)
theorem Inv.laid {a:Addr}{o:HO}{t':Nat}(I:Inv X pins σ H s)(k:∀b u,s.heap.get? b=some u->h'.get? b=some u)(hp:s.heap.objs.size<=a)(new:BU X.prog X.w (upd H a o) h' a o):
 Inv X pins σ (upd H a o) {s with heap:=h',toks:=t' }:=I.un (Un.laid k hp (I.As.fresh hp)) (I.As.laid k hp new)
theorem Inv.write {x e:Addr}{o:HO}{t':Nat}(I:Inv X pins σ H s)(mu:oA (H x))(he:e=x\/H e=some (.own x))(k:∀b u,b≠e->s.heap.get? b=some u->h'.get? b=some u)(dk:∃u,h'.get? e=some u)
 (new:BU X.prog X.w (upd H x o) h' x o):Inv X pins σ (upd H x o) {s with heap:=h',toks:=t' }:=I.un (Un.write mu he k dk) (I.As.write mu he k dk new)
theorem Inv.weak {σ':List (Option V)}(I:Inv X pins σ H s)(hl:σ'.length=σ.length)(w:∀(i:Nat) v,σ'[i]?=some (some v)->σ[i]?=some (some v)):Inv X pins σ' H s:=
 ⟨I.ok,I.os,I.bare,I.base,let ⟨m,hn,bz⟩:=I.loc;⟨m,hn,λ i x v e1 e2 e3=>bz i x v e1 (w i v e2) e3⟩,I.cell,I.free,I.G7,I.pin,I.As,hl.trans I.len⟩
theorem Inv.ID {dl:List (Addr×Obj)}(I:Inv X pins σ H s)(h:∀p∈dl,s.heap.get? p.1=some p.2/\H p.1=none/\p.1≠X.env.locals/\p.1∉X.fs/\∀v,p.2.data≠.cell v):Inv X dl σ H s:=
 ⟨I.ok,I.os,I.bare,I.base,I.loc,I.cell,I.free,I.G7,λ p hp=>(zv.mp hp).elim (λ z=>I.pin p (zL _ z)) (h p),I.As,I.len⟩
theorem Ra {N:List Str}(hN:N.Nodup){i j:Nat}{x:Str}(a:N[i]?=some x)(b:N[j]?=some x):i=j:=by
 obtain⟨h1,e1⟩:=zw.mp a;obtain⟨h2,e2⟩:=zw.mp b;exact (List.getElem_inj hN).mp (e1.trans e2.symm)
theorem Ou {M:Model}{A:Around}{E:Value->Shared->Prop}{i:Nat}{x:Str}{v:V}{u:Value}{Q:Unit->Shared->Prop}(I:Inv X pins σ H s)(hN:X.N.Nodup)(hi:X.N[i]?=some x)(hx:Loc X.env.scope x)(r:RelV v u)
 (h:∀s',Inv X pins (σ.set i (some v)) H s'->(∃a,zag a s.heap s'.heap/\(a=X.env.locals\/X.env.cells.lookup x=some a))->Q () s') (hf:X.fn x=true\/X.env.scope.names.lookup x=some .local:=by first|exact .inl rfl|exact .inr rfl|assumption):wpAny M A (storeName X.env x u) Q E s:=by
 obtain⟨m,hn,hl⟩:=id I.loc;have l7:(X.env.scope.kind==.class||(X.env.scope.kind==.module&&X.env.locals != X.env.globals))=false:=by rw[I.ok.kind];rfl
 have hiσ:i<σ.length:=by rw[I.len];exact (zw.mp hi).1
 have jJ:=I.jJ;have tracked:∀ {a:Addr} {h':Heap},(∃o,s.heap.get? a=some o/\H a=none)->zag a s.heap h'->FR X.prog X.w H h':=fun {a h'} ha hs b ob e=>by
  obtain⟨_,_,dm⟩:=ha;refine (I.As b ob e).NW (λ c w' hc q=>(hs.2 c ?_).trans q) (λ _ q=>q) λ _ _ q=>q;rintro rfl;rcases hc with rfl|hc
  ·rw[dm] at e;cases e
  ·rw[dm] at hc;cases hc
 rcases hx with hk|hk
 ·refine wpAny_storeName_local hk hn (λ h' b9 hs=>?_) l7;obtain⟨oL,_,_,u4,_⟩:=id hn;refine h _ ⟨I.ok,I.os,I.bare,⟨λ b o e n hb hx=>?_,λ b o e n hb hx=>?_,I.base.free,λ b o e hx=>?_,I.base.PB,I.base.NX,I.base.PD⟩,⟨_,b9,λ j y v' e1 e2 e3=>?_⟩,λ y c e=>?_,I.free,I.G7,λ p hp=>?_,tracked ⟨oL,u4,I.free⟩ hs,by simpa using I.len⟩ ⟨_,hs,.inl rfl⟩
  ·exact (hs.2 b (zB (zz (zr e) I.ok.above))).trans (I.base.keep b o e n hb hx)
  ·obtain⟨sl,e1⟩:=I.base.slot b o e n hb hx;exact⟨sl,(hs.2 b (zB (zz (zr e) I.ok.above))).trans e1⟩
  ·obtain⟨o',e1⟩:=I.base.there b o e hx;exact⟨o',(hs.2 b (zB (zz (zr e) I.ok.above))).trans e1⟩
  ·by_cases hj:j=i
   ·subst hj;rw[hi] at e1;cases e1;rw[zK hiσ] at e2;cases e2;exact⟨u,r,.inl ⟨hk,by simp⟩⟩
   ·rw[yE (zX hj)] at e2;obtain⟨u',r',q⟩:=hl j y v' e1 e2 e3;refine⟨u',r',?_⟩;rcases q with ⟨k,e⟩|⟨k,c,e,z⟩
    ·refine .inl ⟨k,?_⟩;have:y≠x:=λ e=>hj (Ra hN e1 (e▸hi));simp[this,e]
    ·exact .inr ⟨k,c,e,z.sameBut hs (jJ y c e)⟩
  ·obtain⟨w',z⟩:=I.cell y c e;exact⟨w',z.sameBut hs (jJ y c e)⟩
  ·obtain⟨e,n,ne,nf,d⟩:=I.pin p hp;exact⟨(hs.2 p.1 ne).trans e,n,ne,nf,d⟩
 ·have l8:X.fn x=true:=by
   rcases hf with z|z
   ·exact z
   ·rw[z] at hk;cases hk
  obtain⟨c,hc⟩:=I.ok.has x (.inl hk);obtain⟨w',z⟩:=I.cell x c hc;refine wpAny_storeName_cell I.ok.kind hk hc z (λ h' b5 hs=>?_);obtain⟨oc,rn,l9⟩:=id z;refine h {s with heap:=h' } ⟨I.ok,I.os,I.bare,⟨λ b o e n hb hx=>?_,λ b o e n hb hx=>?_,I.base.free,λ b o e hx=>?_,I.base.PB,I.base.NX,I.base.PD⟩,⟨m,hn.sameBut hs (zX (jJ x c hc)),λ j y v' e1 e2 e3=>?_⟩,λ y c' e=>?_,I.free,I.G7,λ p hp=>?_,tracked ⟨oc,rn,I.G7 x c hc⟩ hs,by simpa using I.len⟩ ⟨c,hs,.inr hc⟩
  ·exact (hs.2 b (zB (zz (zr e) (I.ok.oB x c l8 hc)))).trans (I.base.keep b o e n hb hx)
  ·obtain⟨sl,e1⟩:=I.base.slot b o e n hb hx;exact⟨sl,(hs.2 b (zB (zz (zr e) (I.ok.oB x c l8 hc)))).trans e1⟩
  ·obtain⟨o',e1⟩:=I.base.there b o e hx;exact⟨o',(hs.2 b (zB (zz (zr e) (I.ok.oB x c l8 hc)))).trans e1⟩
  ·by_cases hj:j=i
   ·subst hj;rw[hi] at e1;cases e1;rw[zK hiσ] at e2;cases e2;exact⟨u,r,.inr ⟨.inl hk,c,hc,b5⟩⟩
   ·rw[yE (zX hj)] at e2;obtain⟨u',r',q⟩:=hl j y v' e1 e2 e3;refine⟨u',r',?_⟩;rcases q with q|⟨k,c',e,z'⟩
    ·exact .inl q
    ·refine .inr ⟨k,c',e,z'.sameBut hs ?_⟩;rintro rfl;exact hj (Ra hN e1 (I.ok.inj _ _ _ e hc▸hi))
  ·by_cases j8:c'=c
   ·subst j8;exact⟨_,b5⟩
   ·obtain⟨w2,z2⟩:=I.cell y c' e;exact⟨w2,z2.sameBut hs j8⟩
  ·obtain⟨e,n,ne,nf,d⟩:=I.pin p hp;refine⟨(hs.2 p.1 ?_).trans e,n,ne,nf,d⟩;intro q;rw[q,rn] at e;have q':oc=p.2:=zD e;exact d w' (by rw[<-q'];exact l9)
theorem Rb {M:Model}{A:Around}{E:Value->Shared->Prop}{i:Nat}{x:Str}{v:V}{u:Value}{Q:Unit->Shared->Prop}(I:Inv X pins σ H s)(hN:X.N.Nodup)(hi:X.N[i]?=some x)(hx:Loc X.env.scope x)(r:RelV v u)
 (h:∀s',Inv X pins (σ.set i (some v)) H s'->Q () s') (hf:X.fn x=true\/X.env.scope.names.lookup x=some .local:=by first|exact .inl rfl|exact .inr rfl|assumption):wpAny M A (storeName X.env x u) Q E s:=
 Ou I hN hi hx r (λ s' I' _=>h s' I') hf
theorem Inv.oC {s':Shared}{ch:List Addr}(I:Inv X pins σ H s)(ho:s'.os=s.os)(u:Un (Xa X.stack) ch H H' s.heap s'.heap)(As:FR X.prog X.w H' s'.heap)(hg:AllBare s'.gens)
 (cm:∀b∈ch,(b∈X.ex\/X.s₀.heap.objs.size<=b)/\b≠X.env.locals/\(∀x c,X.env.cells.lookup x=some c->c≠b)/\∀p∈X.pn++pins,p.1≠b):Inv X pins σ H' s':=by
 obtain⟨h',g',d',t',o'⟩:=s';have e:o'=s.os:=ho;subst e;exact I.call (g':=g') (t':=t') (d':=d') u As hg cm
end
noncomputable abbrev XK:=Value->Option Addr->Hp->Prop
noncomputable abbrev St:=List (Option V)
noncomputable abbrev VK:=V->Hp->Prop
noncomputable abbrev TE:=St->Hp->VK->Prop
noncomputable abbrev TT:=St->Hp->(Bool->Hp->Prop)->Prop
noncomputable abbrev TA:=St->Hp->(List V->Hp->Prop)->Prop
structure Ends where
 nx:St->Hp->Prop
 rt:VK
 bk:St->Hp->Prop:=λ _ _=>False
 ct:St->Hp->Prop:=λ _ _=>False
noncomputable abbrev TS:=Ends->St->Hp->Prop
def EP (X:Cx)(pins:List (Addr×Obj))(σ:St)(Q:VK)(u:Value)(s':Shared):Prop:=∃v H',Inv X pins σ H' s'/\RelV v u/\Q v H'
def TP (X:Cx)(pins:List (Addr×Obj))(σ:St)(Q:Bool->Hp->Prop)(b:Bool)(s':Shared):Prop:=∃H',Inv X pins σ H' s'/\Q b H'
def AP (X:Cx)(pins:List (Addr×Obj))(σ:St)(Q:List V->Hp->Prop)(us:List Value)(s':Shared):Prop:=∃vs H',Inv X pins σ H' s'/\Vals vs us/\Q vs H'
def SP (X:Cx)(pins:List (Addr×Obj))(D:Ends)(f:Flow)(s':Shared):Prop:=
 match f with
 | .next=>∃σ' H',Inv X pins σ' H' s'/\D.nx σ' H'
 | .brk=>∃σ' H',Inv X pins σ' H' s'/\D.bk σ' H'
 | .cont=>∃σ' H',Inv X pins σ' H' s'/\D.ct σ' H'
 | .ret u=>∃v σ' H',Inv X pins σ' H' s'/\RelV v u/\D.rt v H'
def PE (X:Cx)(e:Expr)(t:TE):Prop:=
 ∀(pins:List (Addr×Obj)) (s:Shared) (σ:St) (H:Hp) (Q:VK),Inv X pins σ H s->t σ H Q->wpAny (model X.prog X.w) X.A (eval e X.env) (EP X pins σ Q) X.xe s
def PT (X:Cx)(e:Expr)(t:TT):Prop:=
 ∀(pins:List (Addr×Obj)) (s:Shared) (σ:St) (H:Hp) (Q:Bool->Hp->Prop),Inv X pins σ H s->t σ H Q->wpAny (model X.prog X.w) X.A (isTrue e X.env (eval e X.env)) (TP X pins σ Q) X.xe s
def PW (X:Cx)(e:Expr)(t:TT):Prop:=
 ∀(whole:Sem Value) (pins:List (Addr×Obj)) (s:Shared) (σ:St) (H:Hp) (Q:Bool->Hp->Prop),Inv X pins σ H s->t σ H Q->wpAny (model X.prog X.w) X.A (isTrue e X.env whole) (TP X pins σ Q) X.xe s
theorem PW.pt {X:Cx}{e:Expr}{t:TT}(h:PW X e t):PT X e t:=h _
def PA (X:Cx)(es:List Expr)(t:TA):Prop:=
 ∀(pos:Pos) (pins:List (Addr×Obj)) (s:Shared) (σ:St) (H:Hp) (Q:List V->Hp->Prop),Inv X pins σ H s->t σ H Q->wpAny (model X.prog X.w) X.A (spliced (backTo pos (starEach es X.env))) (AP X pins σ Q) X.xe s
def PS (X:Cx)(st:Stmt)(t:TS):Prop:=
 ∀(pins:List (Addr×Obj)) (s:Shared) (σ:St) (H:Hp) (D:Ends),Inv X pins σ H s->t D σ H->wpAny (model X.prog X.w) X.A (exec st X.env) (SP X pins D) X.xe s
def UA (X:Cx)(st:List Stmt)(t:TS):Prop:=
 ∀(pins:List (Addr×Obj)) (s:Shared) (σ:St) (H:Hp) (D:Ends),Inv X pins σ H s->t D σ H->wpAny (model X.prog X.w) X.A (execs st X.env) (SP X pins D) X.xe s
theorem Bg {α:Type}{t:Sem α}{Q Q':α->Shared->Prop}{M:Model}{A:Around}{E:Value->Shared->Prop}{s:Shared}(h:wpAny M A t Q E s)(hQ:∀a s,Q a s->Q' a s):wpAny M A t Q' E s:=wpAny_mono h hQ λ _ _ x=>x
section
variable {X:Cx}
theorem bin {a b:Expr}{ta tb:TE}(ha:PE X a ta)(hb:PE X b tb){pins:List (Addr×Obj)}{s:Shared}{σ:St}{H:Hp}{R:V->V->Hp->Prop}(I:Inv X pins σ H s)(h:ta σ H λ x H1=>tb σ H1 λ y H2=>R x y H2)
 {α:Type} {Q:α->Shared->Prop} {f:Value->Value->Sem α}
 (hf:∀v u s2 x y H2,Inv X pins σ H2 s2->RelV x v->RelV y u->R x y H2->wpAny (model X.prog X.w) X.A (f v u) Q X.xe s2):
 wpAny (model X.prog X.w) X.A (eval a X.env) (λ v s₁=>wpAny (model X.prog X.w) X.A (eval b X.env) (λ u s₂=>wpAny (model X.prog X.w) X.A (f v u) Q X.xe s₂) X.xe s₁) X.xe s:=by
 refine Bg (ha pins s σ H _ I h) λ v s1 ⟨x,H1,I1,r1,q1⟩=>?_;refine Bg (hb pins s1 σ H1 _ I1 q1) λ u s2 ⟨y,H2,I2,r2,q2⟩=>?_;exact hf v u s2 x y H2 I2 r1 r2 q2
noncomputable def Lb (i:Nat):TE:=λ σ H Q=>∃v,σ[i]?=some (some v)/\Q v H
noncomputable def tC (v:V):TE:=λ _ H Q=>Q v H
theorem jK {i:Nat}{x:Str}{pos:Pos}(hN:X.N[i]?=some x)(hv:sJ X.env.scope x)(hd:(x==("__debug__" : Str))=false:=by decide)(be:(x==("__classdict__" : Str))=false:=by decide):PE X (.Name x pos) (Lb i):=by
 intro pins s σ H Q I h;obtain⟨v,e,h⟩:=h;obtain⟨m,hn,hl⟩:=I.loc;obtain⟨u,r,l⟩:=hl i x v hN e hv;have fin:EP X pins σ Q u s:=⟨v,H,I,r,h⟩;rcases l with ⟨hk,hm⟩|⟨hk,c,hc,dn⟩
 ·exact wpAny_Name (wpAny_loadName_local I.ok.kind hk hn hm fin) hd
 ·rcases hk with hk|hk
  ·exact wpAny_Name (wpAny_loadName_cell I.ok.kind hk hc dn fin) hd
  ·exact wpAny_Name (wpAny_loadName_free I.ok.kind hk hc dn fin be) hd
theorem jL {i j pos}:PE X (.Constant (.int i) j pos) (tC (.int i)):=λ _ _ _ H _ I h=>wpAny_Constant_int ⟨.int i,H,I.tok _,⟨_,rfl⟩,h⟩
theorem oE {b j pos}:PE X (.Constant (.bool b) j pos) (tC (.bl b)):=λ _ _ _ H _ I h=>Constant_bool ⟨.bl b,H,I,rfl,h⟩
theorem jM {j pos}:PE X (.Constant .none j pos) (tC .AA):=λ _ _ _ H _ I h=>Constant_none ⟨.AA,H,I,rfl,h⟩
def Gl (X:Cx)(x:Str):Prop:=X.env.kindOf x=some .globalImplicit
theorem UB {E:Value->Shared->Prop}{pins:List (Addr×Obj)}{s:Shared}{σ:St}{H:Hp}{x:Str}{u:Value}{pos:Pos}{Q:Value->Shared->Prop}(I:Inv X pins σ H s)(hg:Gl X x)(hm:X.mg x=some u)(h:Q u s)
 (hd:(x==("__debug__" : Str))=false:=by decide):wpAny (model X.prog X.w) X.A (eval (.Name x pos) X.env) Q E s:=
 Calls.Name_function_global I.ok.kind hg (Calls.loadGlobal_global (by rw[I.ok.glob];exact I.mod.glob.keeps I.bk) hm h) hd
theorem Dr {E:Value->Shared->Prop}{pins:List (Addr×Obj)}{s:Shared}{σ:St}{H:Hp}{x:Str}{u:Value}{pos:Pos}{Q:Value->Shared->Prop}(I:Inv X pins σ H s)(hg:Gl X x)(hm:X.mg x=none)(hv:bootBuiltins x=some u)(h:Q u s)
 (hn:x ≠ "__name__" := by decide) (hd:(x==("__debug__" : Str))=false:=by decide):wpAny (model X.prog X.w) X.A (eval (.Name x pos) X.env) Q E s:=by
 obtain⟨mb,h1,h2⟩:=I.mod.blt;exact Calls.Name_function_global I.ok.kind hg (Calls.loadGlobal_builtin (by rw[I.ok.glob];exact I.mod.glob.keeps I.bk) hm (by rw[I.ok.blt];exact h1.keeps I.bk) ((h2 x hn).trans hv) h) hd
theorem cB {x:Str}{v:V}{u:Value}{pos:Pos}(hg:Gl X x)(hm:X.mg x=none)(hv:bootBuiltins x=some u)(r:RelV v u)(hn:x ≠ "__name__" := by decide)(hd:(x==("__debug__" : Str))=false:=by decide):PE X (.Name x pos) (tC v):=
 λ _ _ _ H _ I h=>Dr I hg hm hv ⟨v,H,I,r,h⟩ hn hd
variable {a b:Expr}{ta tb:TE}{pos:Pos}
def PC (X:Cx)(op:CmpOp)(a b:Expr)(t:TE):Prop:=
 ∀(pins:List (Addr×Obj)) (s:Shared) (σ:St) (H:Hp) (Q:VK),Inv X pins σ H s->t σ H Q->
  wpAny (model X.prog X.w) X.A (eval a X.env) (λ v s₁=>wpAny (model X.prog X.w) X.A (eval b X.env) (λ u s₂=>wpAny (model X.prog X.w) X.A (compareOp op v u) (EP X pins σ Q) X.xe s₂) X.xe s₁) X.xe s
theorem Rc (b:Expr){op:CmpOp}(h:op≠.In)(h2:op≠.NotIn):behindInMarks op b=false:=by
 have e1:(op==CmpOp.In)=false:=by cases op<;>first|rfl|exact absurd rfl h
 have e2:(op==CmpOp.NotIn)=false:=by cases op<;>first|rfl|exact absurd rfl h2
 cases b<;>simp[behindInMarks,e1,e2]
noncomputable def sN (ta:TE):TE:=λ σ H Q=>ta σ H λ x H1=>Q (.bl (decide (x=.AA))) H1
noncomputable def oF (ta:TE):TE:=λ σ H Q=>ta σ H λ x H1=>Q (.bl (!decide (x=.AA))) H1
theorem RelV.Rf {x:V}{v:Value}(r:RelV x v):(v==Value.none)=decide (x=.AA):=by
 cases x with
 |AA|bl _=>cases r;rfl
 |int _|str _|jF _|nY _=>obtain⟨t,rfl⟩:=r;rfl
 |ref _|ty _=>cases r;rfl
theorem Xj {j pos'}(ha:PE X a ta):PC X .Is a (.Constant .none j pos') (sN ta):=by
 intro pins s σ H Q I h;refine Bg (ha pins s σ H _ I h) λ v s1 ⟨x,H1,I1,r1,q1⟩=>?_;exact Constant_none (is_none_gen ⟨.bl _,H1,I1,by rw[r1.Rf];rfl,q1⟩)
theorem cC {j pos'}(ha:PE X a ta):PC X .IsNot a (.Constant .none j pos') (oF ta):=by
 intro pins s σ H Q I h;refine Bg (ha pins s σ H _ I h) λ v s1 ⟨x,H1,I1,r1,q1⟩=>?_;exact Constant_none (isnot_none_gen ⟨.bl _,H1,I1,by rw[r1.Rf];rfl,q1⟩)
noncomputable def tB (t:TE):TT:=λ σ H Q=>t σ H λ x H1=>∃c,x=.bl c/\Q c H1
theorem jN {op:CmpOp}{t:TE}(h:PC X op a b t)(h1:behindInMarks op b=false:=by first | exact Rc _ (by decide) (by decide) | rfl):PE X (.Compare a [op] [b] pos) t:=λ pins s σ H Q I hw=>wpAny_Compare1 (h pins s σ H Q I hw) h1
theorem Xk {op:CmpOp}{t:TE}(h:PC X op a b t)(h1:behindInMarks op b=false:=by first | exact Rc _ (by decide) (by decide) | rfl):PT X (.Compare a [op] [b] pos) (tB t):=by
 intro pins s σ H Q I hw;refine wpAny_isTrue_Compare1 (Bg (h pins s σ H _ I hw) λ v s1 h1=>Bg h1 λ u s2 h2=>Bg h2 λ c s3 ⟨x,H1,I1,r1,q1⟩=>?_) h1;obtain⟨d,rfl,q⟩:=q1;cases r1;exact wpAny_truthy_bool ⟨H1,I1,q⟩
variable {tA j9:TT}{rest:List Expr}
noncomputable def sO (t u:TT):TT:=λ σ H Q=>t σ H λ c H1=>if c=true then u σ H1 Q else Q false H1
noncomputable def vK (t u:TT):TT:=λ σ H Q=>t σ H λ c H1=>if c=true then Q true H1 else u σ H1 Q
noncomputable def sP (t:TT):TT:=λ σ H Q=>t σ H λ c H1=>Q (!c) H1
theorem pw_and1 (ha:PT X a tA):PW X (.BoolOp .And [a] pos) tA:=by
 intro wh pins s σ H Q I h;refine isTrue_and (Bg (ha pins s σ H Q I h) λ c s1 e=>?_);cases c with
 |true=>exact isTrue_and_nil e
 |false=>exact e
theorem pw_or1 (ha:PT X a tA):PW X (.BoolOp .Or [a] pos) tA:=by
 intro wh pins s σ H Q I h;refine isTrue_or (Bg (ha pins s σ H Q I h) λ c s1 e=>?_);cases c with
 |false=>exact isTrue_or_nil e
 |true=>exact e
theorem pw_and (ha:PT X a tA)(hb:PW X (.BoolOp .And (b::rest) pos) j9):PW X (.BoolOp .And (a::b::rest) pos) (sO tA j9):=by
 intro wh pins s σ H Q I h;refine isTrue_and (Bg (ha pins s σ H _ I h) λ c s1 ⟨H1,I1,q1⟩=>?_);cases c with
 |true=>exact hb wh pins s1 σ H1 Q I1 q1
 |false=>exact⟨H1,I1,q1⟩
theorem pw_or (ha:PT X a tA)(hb:PW X (.BoolOp .Or (b::rest) pos) j9):PW X (.BoolOp .Or (a::b::rest) pos) (vK tA j9):=by
 intro wh pins s σ H Q I h;refine isTrue_or (Bg (ha pins s σ H _ I h) λ c s1 ⟨H1,I1,q1⟩=>?_);cases c with
 |true=>exact⟨H1,I1,q1⟩
 |false=>exact hb wh pins s1 σ H1 Q I1 q1
theorem jO (ha:PT X a tA):PT X (.UnaryOp .Not a pos) (sP tA):=by
 intro pins s σ H Q I h;exact isTrue_not (ha pins s σ H (λ c H1=>Q (!c) H1) I h)
noncomputable def oG (ta tb:TE):TE:=λ σ H Q=>ta σ H λ x H1=>∃c,x=.bl c/\if c=true then tb σ H1 Q else Q (.bl false) H1
noncomputable def sQ (ta tb:TE):TE:=λ σ H Q=>ta σ H λ x H1=>∃c,x=.bl c/\if c=true then Q (.bl true) H1 else tb σ H1 Q
noncomputable def oH (ta:TE):TE:=λ σ H Q=>ta σ H λ x H1=>∃c,x=.bl c/\Q (.bl (!c)) H1
theorem jP {op}{t:TE}(h:PE X a t):PE X (.BoolOp op [a] pos) t:=λ pins s σ H Q I hw=>BoolOp_one (h pins s σ H Q I hw)
theorem jQ (ha:PE X a ta)(hb:PE X (.BoolOp .And (b::rest) pos) tb):PE X (.BoolOp .And (a::b::rest) pos) (oG ta tb):=by
 intro pins s σ H Q I h;refine BoolOp_and (Bg (ha pins s σ H _ I h) λ v s1 ⟨x,H1,I1,r1,q1⟩=>?_);obtain⟨c,rfl,q1⟩:=q1;cases r1;refine wpAny_truthy_bool ?_;cases c with
 |true=>exact hb pins s1 σ H1 Q I1 q1
 |false=>exact⟨.bl false,H1,I1,rfl,q1⟩
theorem oI (ha:PE X a ta)(hb:PE X (.BoolOp .Or (b::rest) pos) tb):PE X (.BoolOp .Or (a::b::rest) pos) (sQ ta tb):=by
 intro pins s σ H Q I h;refine BoolOp_or (Bg (ha pins s σ H _ I h) λ v s1 ⟨x,H1,I1,r1,q1⟩=>?_);obtain⟨c,rfl,q1⟩:=q1;cases r1;refine wpAny_truthy_bool ?_;cases c with
 |false=>exact hb pins s1 σ H1 Q I1 q1
 |true=>exact⟨.bl true,H1,I1,rfl,q1⟩
theorem jR (ha:PE X a ta):PE X (.UnaryOp .Not a pos) (oH ta):=by
 intro pins s σ H Q I h;refine UnaryOp_ (Bg (ha pins s σ H _ I h) λ v s1 ⟨x,H1,I1,r1,q1⟩=>?_);obtain⟨c,rfl,q1⟩:=q1;cases r1;exact not_of (wpAny_truthy_bool ⟨.bl (!c),H1,I1,rfl,q1⟩)
end
def CJ (K:za)(H:Hp)(a:Addr)(xs:List V):Prop:=
 Rd H a (.lst xs) \/
  ∃(o:Obj) (aa:Array Value) (n:Nat),K.lookup a=some o/\o.cls=.type "list" /\ o.dict=none/\o.data=.seq aa n/\aa.size<=sizeLine/\Vals xs aa.toList
def Fb (K:za)(H:Hp)(a:Addr)(xs:List V):Prop:=
 Rd H a (.tup xs) \/
  ∃(o:Obj) (aa:Array Value) (n:Nat),K.lookup a=some o/\o.cls=.type "tuple" /\ o.data=.seq aa n/\aa.size<=sizeLine/\Vals xs aa.toList
noncomputable def sR:Value->Option V
 | .none=>some .AA
 | .bool b=>some (.bl b)
 | .int i _=>some (.int i)
 | .str x _=>some (.str x)
 | .bytes b _=>some (.jF b)
 | .float b _=>some (.nY b)
 | .ref a=>some (.ref a)
 | .type n=>some (.ty n)
 |_=>none
theorem RelV.abs {x:V}{u:Value}(r:RelV x u):sR u=some x:=by
 cases x with
 |AA|bl _=>cases r;rfl
 |int _|str _|jF _|nY _=>obtain⟨t,rfl⟩:=r;rfl
 |ref _|ty _=>cases r;rfl
theorem RelV.inj {x y:V}{u:Value}(r:RelV x u)(q:RelV y u):x=y:=zD (r.abs.symm.trans q.abs)
theorem Vals.inj:∀ {xs ys:List V}{us:List Value},Vals xs us->Vals ys us->xs=ys
 |_,_,_,.nil,.nil=>rfl
 |_,_,_,.cons r t,.cons r' t'=>by rw[r.inj r',Vals.inj t t']
section
variable {X:Cx}{pins:List (Addr×Obj)}{σ:St}{H:Hp}{s:Shared}{a:Addr}{xs ys:List V}
theorem CJ.of {K:za}(h:H a=some (.lst xs)):CJ K H a xs:=.inl (.inl h)
theorem Fb.of {K:za}(h:H a=some (.tup xs)):Fb K H a xs:=.inl (.inl h)
theorem Inv.list (I:Inv X pins σ H s)(h:CJ X.K H a xs):∃aa:List Value,Vals xs aa/\PlainL s.heap a aa.toArray/\xs.length<=sizeLine:=by
 rcases h with h|⟨o,aa,n,hk,hc,hd,hs,hz,r⟩
 ·obtain⟨z,aa,n,r,e⟩:=h.ok I.As;exact⟨aa,r,⟨_,n,e,rfl,rfl,rfl⟩,z⟩
 ·refine⟨aa.toList,r,⟨o,n,I.NT a o hk,hc,hd,by simpa using hs⟩,?_⟩;have e:=r.length;simp only[Array.length_toList] at e;omega
theorem Inv.tuple (I:Inv X pins σ H s)(h:Fb X.K H a xs):∃aa:List Value,Vals xs aa/\IsTup s.heap a aa.toArray/\xs.length<=sizeLine:=by
 rcases h with h|⟨o,aa,n,hk,hc,hs,hz,r⟩
 ·obtain⟨z,aa,r,p⟩:=h.ok I.As;exact⟨aa,r,p,z⟩
 ·refine⟨aa.toList,r,⟨o,I.NT a o hk,hc,n,by simpa using hs⟩,?_⟩;have e:=r.length;simp only[Array.length_toList] at e;omega
theorem Inv.DU (I:Inv X pins σ H s)(h:CJ X.K H a xs)(h':CJ X.K H a ys):xs=ys:=by
 obtain⟨aa,r,⟨o,n,e,_,_,d⟩,_⟩:=I.list h;obtain⟨its',r',⟨o',n',e',_,_,d'⟩,_⟩:=I.list h';rw[e] at e';cases e';rw[d] at d';injection d' with d1 _
 have:aa=its':=by simpa using congrArg Array.toList d1
 subst this;exact r.inj r'
theorem Inv.GP (I:Inv X pins σ H s)(h:Fb X.K H a xs)(h':Fb X.K H a ys):xs=ys:=by
 obtain⟨aa,r,⟨o,e,_,n,d⟩,_⟩:=I.tuple h;obtain⟨its',r',⟨o',e',_,n',d'⟩,_⟩:=I.tuple h';rw[e] at e';cases e';rw[d] at d';injection d' with d1 _
 have:aa=its':=by simpa using congrArg Array.toList d1
 subst this;exact r.inj r'
end
noncomputable abbrev Cx.NY (X:Cx)(E:Value->Shared->Prop):Cx:={X with xe:=E}
noncomputable abbrev Cx.oJ (X:Cx):Cx:=X.NY λ _ _=>False
theorem Cx.Ok.NY {X:Cx}(ok:X.Ok)(E:Value->Shared->Prop):(X.NY E).Ok:=
 ⟨ok.mod,ok.kind,ok.glob,ok.blt,ok.above,ok.inj,ok.has,ok.oB,ok.hd,ok.frames,ok.rE,ok.rF,ok.bs,ok.ZZ,ok.Xh,ok.Xi,ok.JZ,ok.jI⟩
theorem Cx.Ok.G8 {X:Cx}{E:Value->Shared->Prop}(ok:(X.NY E).Ok):X.Ok:=
 ⟨ok.mod,ok.kind,ok.glob,ok.blt,ok.above,ok.inj,ok.has,ok.oB,ok.hd,ok.frames,ok.rE,ok.rF,ok.bs,ok.ZZ,ok.Xh,ok.Xi,ok.JZ,ok.jI⟩
section
variable {X:Cx}{pins:List (Addr×Obj)}{σ:St}{H:Hp}{s:Shared}{E:Value->Shared->Prop}
theorem Inv.NY (I:Inv X pins σ H s)(E:Value->Shared->Prop):Inv (X.NY E) pins σ H s:=⟨I.ok.NY E,I.os,I.bare,I.base,I.loc,I.cell,I.free,I.G7,I.pin,I.As,I.len⟩
theorem Inv.G8 (I:Inv (X.NY E) pins σ H s):Inv X pins σ H s:=⟨I.ok.G8,I.os,I.bare,I.base,I.loc,I.cell,I.free,I.G7,I.pin,I.As,I.len⟩
theorem SP.G8 {D:Ends}{f:Flow}{s':Shared}(h:SP (X.NY E) pins D f s'):SP X pins D f s':=by
 cases f with
 |next|brk|cont=>obtain⟨σ',H',I,q⟩:=h;exact⟨σ',H',I.G8,q⟩
 |ret u=>obtain⟨v,σ',H',I,r,q⟩:=h;exact⟨v,σ',H',I.G8,r,q⟩
theorem UA.oJ {st:List Stmt}{t:TS}(h:UA X.oJ st t):UA X st t:=λ pins s σ H D I hw =>
 wpAny_mono (h pins s σ H D (I.NY _) hw) (λ _ _ q=>q.G8) λ _ _ z=>zaa z
end
section
variable {X:Cx}{st:Stmt}{rest:List Stmt}{t u:TS}{e:Expr}{te:TE}{pos:Pos}
noncomputable def oK:TS:=λ D σ H=>D.nx σ H
noncomputable def sS (t u:TS):TS:=λ D σ H=>t {D with nx:=u D} σ H
theorem cD:UA X [] oK:=λ _ _ σ H _ I h=>wpAny_execs_nil ⟨σ,H,I,h⟩
theorem Xl (h1:PS X st t)(h2:UA X rest u):UA X (st::rest) (sS t u):=by
 intro pins s σ H D I h;refine wpAny_execs_cons (Bg (h1 pins s σ H {D with nx:=u D} I h) λ f s1 q=>?_);cases f with
 |next =>
  obtain⟨σ',H',I',q⟩:=q;exact h2 pins s1 σ' H' D I' q
 |ret v|brk|cont=>exact q
theorem cE (h1:PS X st t):UA X [st] t:=by
 intro pins s σ H D I h;refine wpAny_execs_cons (Bg (h1 pins s σ H D I h) λ f s1 q=>?_);cases f with
 |next=>exact wpAny_execs_nil q
 |ret v|brk|cont=>exact q
theorem Inv.quiet {pins:List (Addr×Obj)}{σ:St}{H:Hp}{s:Shared}(I:Inv X pins σ H s):interactive X.env=false:=by simp[interactive,I.ok.kind]
noncomputable def oM (te:TE):TS:=λ D σ H=>te σ H λ _ H1=>D.nx σ H1
theorem Ex (he:PE X e te)(hs:swapsWith e none pos.line X.env=pure false:=by rfl):PS X (.Expr e pos) (oM te):=by
 intro pins s σ H D I h;exact wpAny_Expr_any (Bg (he pins s σ H _ I h) λ v s1 ⟨x,H1,I1,r1,q1⟩=>⟨σ,H1,I1,q1⟩) I.quiet hs
noncomputable def sT (te:TE):TS:=λ D σ H=>te σ H D.rt
theorem Td (he:PE X e te):PS X (.Return (some e) pos) (sT te):=by
 intro pins s σ H D I h;exact wpAny_Return_some (Bg (he pins s σ H _ I h) λ v s1 ⟨x,H1,I1,r1,q1⟩=>⟨x,σ,H1,I1,r1,q1⟩)
noncomputable def sU (c:TT)(t u:TS):TS:=λ D σ H=>c σ H λ b H1=>if b=true then t D σ H1 else u D σ H1
theorem oN {c:Expr}{a b:List Stmt}{tc:TT}(hc:PT X c tc)(ha:UA X a t)(hb:UA X b u):PS X (.If c a b pos) (sU tc t u):=by
 intro pins s σ H D I h;refine wpAny_If (Bg (hc pins s σ H _ I h) λ d s1 ⟨H1,I1,q1⟩=>?_);cases d with
 |true=>exact ha pins s1 σ H1 D I1 q1
 |false=>exact hb pins s1 σ H1 D I1 q1
end
noncomputable abbrev TG:=V->St->Hp->(St->Hp->Prop)->Prop
noncomputable abbrev Xb:=List V->St->Hp->(St->Hp->Prop)->Prop
def PG (X:Cx)(target:Expr)(t:TG):Prop:=
 ∀(pins:List (Addr×Obj)) (s:Shared) (σ:St) (H:Hp) (v:V) (u:Value) (Q:St->Hp->Prop),Inv X pins σ H s->RelV v u->t v σ H Q->
  wpAny (model X.prog X.w) X.A (assign target X.env u) (λ _ s'=>∃σ' H',Inv X pins σ' H' s'/\Q σ' H') X.xe s
def nK (X:Cx)(ts:List Expr)(t:Xb):Prop:=
 ∀(pins:List (Addr×Obj)) (s:Shared) (σ:St) (H:Hp) (vs:List V) (us:List Value) (Q:St->Hp->Prop),Inv X pins σ H s->Vals vs us->t vs σ H Q->
  wpAny (model X.prog X.w) X.A (assignInOrder ((assignEach ts X.env).map (·.2)) us) (λ _ s'=>∃σ' H',Inv X pins σ' H' s'/\Q σ' H') X.xe s
noncomputable abbrev jS:=V->V->V->Hp->(Hp->Prop)->Prop
def oO (X:Cx)(t:jS):Prop:=
 ∀(pins:List (Addr×Obj)) (s:Shared) (σ:St) (H:Hp) (o i v:V) (ov iv u:Value) (Q:Hp->Prop),Inv X pins σ H s->RelV o ov->RelV i iv->RelV v u->t o i v H Q->
  wpAny (model X.prog X.w) X.A (setItem ov iv u) (λ _ s'=>∃H',Inv X pins σ H' s'/\Q H') X.xe s
section
variable {X:Cx}{pos:Pos}
noncomputable def M8 (i:Nat):TG:=λ v σ H Q=>Q (σ.set i (some v)) H
theorem Lp {i:Nat}{x:Str}(hN:X.N.Nodup)(hi:X.N[i]?=some x)(hx:Loc X.env.scope x)(hf:X.fn x=true\/X.env.scope.names.lookup x=some .local:=by first | exact .inl rfl | exact .inr rfl | assumption):PG X (.Name x pos) (M8 i):=by
 intro pins s σ H v u Q I r h;exact wpAny_assign_Name (Rb I hN hi hx r (λ s' I'=>⟨_,H,I',h⟩) hf)
noncomputable def jT:Xb:=λ vs σ H Q=>vs=[]/\Q σ H
noncomputable def Xm (t:TG)(u:Xb):Xb:=λ vs σ H Q=>∃v r,vs=v::r/\t v σ H λ σ' H'=>u r σ' H' Q
theorem UC:nK X [] jT:=by
 intro pins s σ H vs us Q I r h;obtain⟨e,h⟩:=h;subst e;cases r;exact assignInOrder_nil ⟨σ,H,I,h⟩
theorem Rg {e:Expr}{es:List Expr}{t:TG}{u:Xb}(h1:PG X e t)(h2:nK X es u)
 (hs:(assignEach (e::es) X.env).map (·.2)=assign e X.env::(assignEach es X.env).map (·.2):=by rfl):nK X (e::es) (Xm t u):=by
 intro pins s σ H vs us Q I r h;obtain⟨v,vr,e1,h⟩:=h;subst e1;cases r with
 |cons r rr =>
  rw[hs];refine assignInOrder_cons (Bg (h1 pins s σ H _ _ _ I r h) λ _ s1 ⟨σ1,H1,I1,q1⟩=>?_);exact h2 pins s1 σ1 H1 _ _ Q I1 rr q1
noncomputable def jU (K:za)(n:Nat)(t:Xb):TG:=λ v σ H Q=>∃a xs,v=.ref a/\Fb K H a xs/\xs.length=n/\t xs σ H Q
theorem Xn {es:List Expr}{k:Nat}{t:Xb}{n:Nat}(hc:X.calm=true)(h:nK X es t)
 (hn:(assignEach es X.env).length=n:=by rfl) (aP:(assignEach es X.env).findIdx? (·.1)=none:=by rfl):PG X (.Tuple es k pos) (jU X.K n t):=by
 intro pins s σ H v u Q I r hw;obtain⟨a,xs,e1,hq,hl,hw⟩:=hw;subst e1;cases r;obtain⟨aa,rv,ht,hz⟩:=I.tuple hq;refine assign_Tuple_tuple (I.ok.hd hc) ht (by simp[hn,<-hl,rv.length]) aP λ h' hx=>?_;have I1:Inv X pins σ H {s with heap:=h' }:=I.kept (t':=s.toks) λ b o e=>hx b o (zB (zr e)) e;exact h pins _ σ H xs _ Q I1 (by simpa using rv) hw
noncomputable def sV (to ti:TE)(t:jS):TG:=λ v σ H Q=>to σ H λ o H1=>ti σ H1 λ i H2=>t o i v H2 λ H3=>Q σ H3
theorem Xo {o i:Expr}{to ti:TE}{t:jS}(ho:PE X o to)(hi:PE X i ti)(hs:oO X t)
 (ha:∀v,assign (.Subscript o i pos) X.env v=(do
  let ov <-holding [v] (eval o X.env);let iv <-holding [v,ov] (eval i X.env)
  standAt pos
  holding [v,ov,iv] (setItem ov iv v)
  release [v,ov,iv] []):=by intro _;rfl):PG X (.Subscript o i pos) (sV to ti t):=by
 intro pins s σ H v u Q I r h;rw[ha];refine wpAny_bind (wpAny_holding (Bg (ho pins s σ H _ I h) λ ov s1 ⟨x,H1,I1,r1,q1⟩=>?_));refine wpAny_bind (wpAny_holding (Bg (hi pins s1 σ H1 _ I1 q1) λ iv s2 ⟨y,H2,I2,r2,q2⟩=>?_));refine wpAny_bind (wpAny_standAt (wpAny_bind (wpAny_holding (Bg (hs pins s2 σ H2 x y v ov iv u _ I2 r1 r2 r q2) λ _ s3 ⟨H3,I3,q3⟩=>?_))));exact wpAny_release ⟨σ,H3,I3,q3⟩
noncomputable def oP (te:TE)(g:TG):TS:=λ D σ H=>te σ H λ x H1=>g x σ H1 D.nx
theorem Xp {tg e:Expr}{te:TE}{g:TG}(he:PE X e te)(hg:PG X tg g)(hs:swapsWithSole [tg] e pos.line X.env=pure false:=by rfl)(hw:swappedStores [tg] e X.env=pure none:=by rfl)
 (h1:(assignEach [tg] X.env).map (·.2)=[assign tg X.env]:=by rfl):PS X (.Assign [tg] e pos) (oP te g):=by
 intro pins s σ H D I h;refine wpAny_Assign_stores (Bg (he pins s σ H _ I h) λ v s1 ⟨x,H1,I1,r1,q1⟩=>?_) hs hw;rw[h1];exact Bg (hg pins s1 σ H1 x v _ I1 r1 q1) λ _ s2 q=>q
theorem Te {i:Nat}{x:Str}{e:Expr}{te:TE}{pos':Pos}(hN:X.N.Nodup)(hi:X.N[i]?=some x)(hx:Loc X.env.scope x)(he:PE X e te)(hs:swapsWith e (some (.Name x pos')) pos.line X.env=pure false:=by rfl)(hf:X.fn x=true\/X.env.scope.names.lookup x=some .local:=by first | exact .inl rfl | exact .inr rfl | assumption):
 PS X (.Assign [.Name x pos'] e pos) (oP te (M8 i)):=by
 intro pins s σ H D I h;refine wpAny_Assign_Name (Bg (he pins s σ H _ I h) λ v s1 ⟨y,H1,I1,r1,q1⟩=>?_) hs;exact Rb I1 hN hi hx r1 (λ s2 I2=>⟨_,H1,I2,q1⟩) hf
end
section
variable {X:Cx}{pos:Pos}
noncomputable def jV (c:TT)(tb:TS):TS:=λ D σ H=>∃W:Nat->St->Hp->Prop,(∃m,W m σ H)/\∀m σ H,W m σ H->
 c σ H λ b H1=>if b=true then ∃N:St->Hp->Prop,(∀σ' H',N σ' H'->∃m',m'<m/\W m' σ' H')/\tb {D with nx:=N,ct:=N,bk:=D.nx} σ H1 else D.nx σ H1
theorem Xq {c:Expr}{body:List Stmt}{tc:TT}{tb:TS}(hp:PassesOwn (model X.prog X.w) X.A X.env X.xe)(hc:PT X c tc)(hb:UA X body tb):PS X (.While c body [] pos) (jV tc tb):=by
 intro pins s σ H D I h;obtain⟨W,⟨m0,w0⟩,turn⟩:=h;refine wpAny_While (codeAny_whileLoop (λ n s'=>∃σ' H',Inv X pins σ' H' s'/\W n σ' H') ?_ m0 ⟨σ,H,I,w0⟩);rintro n s1 ⟨σ1,H1,I1,w1⟩;refine wpAny_passesOwn hp (Bg (hc pins s1 σ1 H1 _ I1 (turn n σ1 H1 w1)) λ b s2 ⟨H2,I2,q2⟩=>?_);cases b with
 |true =>
  obtain⟨N,hN,q2⟩:=q2;rw[if_pos rfl];refine wpAny_passesOwn hp (Bg (hb pins s2 σ1 H2 _ I2 q2) λ f s3 q3=>?_);cases f with
  |next =>
   obtain⟨σ3,H3,I3,n3⟩:=q3;obtain⟨m',hm,w3⟩:=hN σ3 H3 n3;exact⟨m',hm,σ3,H3,I3,w3⟩
  |cont =>
   obtain⟨σ3,H3,I3,n3⟩:=q3;obtain⟨m',hm,w3⟩:=hN σ3 H3 n3;exact⟨m',hm,σ3,H3,I3,w3⟩
  |brk|ret v=>exact q3
 |false =>
  rw[if_neg z9];exact wpAny_execs_nil ⟨σ1,H2,I2,q2⟩
end
structure It where
 go:Nat->Hp->Prop
 cF:Nat->Hp->V->Hp->Prop
 stop:Nat->Hp->Prop
def K1 (X:Cx)(pins:List (Addr×Obj))(H:Hp)(b:Addr):Prop:=
 H b=none/\b≠X.env.locals/\b∉X.fs/\(b∈X.ex\/X.s₀.heap.objs.size<=b)/\(∀x c,X.env.cells.lookup x=some c->c≠b)/\∀p∈X.pn++pins,p.1≠b
theorem Inv.VM {X:Cx}{pins:List (Addr×Obj)}{σ:St}{H H':Hp}{s:Shared}{b:Addr}(I:Inv X pins σ H s)(hb:s.heap.objs.size<=b)(hn:H' b=none):K1 X pins H' b:=by
 refine⟨hn,zah (zz I.lt hb),I.sM hb,.inr (yG I.sz hb),λ x c e z=>?_,λ p hp z=>?_⟩
 ·obtain⟨v,q⟩:=I.cell x c e;exact absurd (zz q.lt (by rw[z];exact hb)) (Nat.lt_irrefl _)
 ·exact absurd (zz (zr (I.pin p hp).1) (by rw[z];exact hb)) (Nat.lt_irrefl _)
structure Turn (P:Program)(w:World)(K:za)(tg:Expr)(J:It)(fp:List Addr)(it:Addr)(tn:Nat->Heap->Prop):Prop where
 mem:it∈fp
 obj:∀i h,tn i h->∀b∈fp,∃o,h.get? b=some o/\∀v,o.data≠.cell v
 keep:∀i h h',tn i h->(∀b∈fp,∀o,h.get? b=some o->h'.get? b=some o)->tn i h'
 item:∀(X:Cx),X.prog=P->X.w=w->X.K=K->X.calm=true->∀(i:Nat) (pins:List (Addr×Obj)) (s:Shared) (σ:St) (H:Hp) (E:Value->Shared->Prop),Inv X pins σ H s->(∀b∈fp,K1 X pins H b)->tn i s.heap->J.go i H->
  wpAny (model P w) X.A (pyNext (.ref it)) (λ r s1=>∃u,r=some u/\
   wpAny (model P w) X.A (letOwnedTupleGo tg (.ref it) u) (λ _ s2=>∃x H',Inv X pins σ H' s2/\RelV x u/\J.cF i H x H'/\tn (i+1) s2.heap/\∀b∈fp,H' b=none) E s1) E s
 done:∀(X:Cx),X.prog=P->X.w=w->X.K=K->X.calm=true->∀(i:Nat) (pins:List (Addr×Obj)) (s:Shared) (σ:St) (H:Hp) (E:Value->Shared->Prop),Inv X pins σ H s->(∀b∈fp,K1 X pins H b)->tn i s.heap->J.stop i H->
  wpAny (model P w) X.A (pyNext (.ref it)) (λ r s1=>r=none/\Inv X pins σ H s1) E s
 self:∀(A:Around) (i:Nat) (s:Shared) (Q:Value->Shared->Prop) (E:Value->Shared->Prop),tn i s.heap->Q (.ref it) s->wpAny (model P w) A (pyIter (.ref it)) Q E s
noncomputable abbrev TI:=St->Hp->(It->Hp->Prop)->Prop
def uJ (X:Cx)(pins:List (Addr×Obj))(σ:St)(tg:Expr)(R:It->Hp->Prop)(kc:Value)(s2:Shared):Prop:=
 ∃(it:Addr) (fp:List Addr) (tn:Nat->Heap->Prop) (J:It) (H':Hp),kc=.ref it/\Inv X pins σ H' s2/\Turn X.prog X.w X.K tg J fp it tn/\tn 0 s2.heap/\(∀b∈fp,K1 X pins H' b)/\R J H'
def PI (X:Cx)(tg iter:Expr)(wi:TI):Prop:=
 ∀(pins:List (Addr×Obj)) (s:Shared) (σ:St) (H:Hp) (R:It->Hp->Prop),Inv X pins σ H s->wi σ H R->
  wpAny (model X.prog X.w) X.A (eval iter X.env) (λ v s1=>wpAny (model X.prog X.w) X.A (pyIter v) (uJ X pins σ tg R) X.xe s1) X.xe s
theorem Xr {M:Model}{A:Around}{E:Value->Shared->Prop}{s:Shared}{tg:Expr}{it:Addr}{u:Value}{o:Obj}{n:String}{vs:Array Value}{Q:Unit->Shared->Prop}(ho:s.heap.get? it=some o)(hc:o.cls=.type n)(hd:o.data=.fields vs)
 (hn:["enumerate","zip","dict_itemiterator","dict_reverseitemiterator","odict_iterator","itertools.zip_longest","itertools.pairwise"].contains n=false) (hQ:Q () s):wpAny M A (letOwnedTupleGo tg (.ref it) u) Q E s:=by
 unfold letOwnedTupleGo;cases tg<;>first
  |exact wpAny_pure hQ
  |(cases u<;>first
   |exact wpAny_pure hQ
   |(
    refine wpAny_bind (wpAny_load ho ?_);rw[hc,hd];show wpAny M A (if (["enumerate","zip","dict_itemiterator","dict_reverseitemiterator","odict_iterator","itertools.zip_longest","itertools.pairwise"].contains n&&vs[0]?== some (rawInt _))=true then _ else _) Q E s;rw[if_neg (by intro h;rw[hn,Bool.false_and] at h;cases h)];exact wpAny_pure hQ))
noncomputable def uK (K:za)(a:Addr):It:=
 ⟨λ i H=>∃xs x,CJ K H a xs/\xs[i]?=some x,λ i H x H'=>H'=H/\∀xs,CJ K H a xs->xs[i]?=some x,λ i H=>∃xs,CJ K H a xs/\xs.length<=i⟩
noncomputable def rG (lo:Int)(n:Nat):It:=⟨λ i _=>i<n,λ i H x H'=>H'=H/\x=.int (lo+i),λ i _=>n<=i⟩
theorem VN {P:Program}{w:World}{K:za}{tg:Expr}(a it:Addr):Turn P w K tg (uK K a) [it] it (λ i h=>h.IsListIter it a i) where
 mem:=by simp
 obj:=λ i h st b hb=>by
  have e:b=it:=by simpa using hb
  subst e;obtain⟨o,e,c,d⟩:=st;exact⟨o,e,λ v z=>by rw[d] at z;cases z⟩
 keep:=λ i h h' st k=>st.at λ o e=>k it (by simp) o e
 item:=by
  intro X hP hw hK hc i pins s σ H E I hf st hg;subst hP hw hK;obtain⟨xs,x,hq,hx⟩:=hg;obtain⟨aa,rv,p,hz⟩:=I.list hq;obtain⟨u,hu,ru⟩:=rv.get hx;obtain⟨f0,f1,f2,f3,f4,f5⟩:=hf it (by simp);refine wpAny_pyNext_list_item st p.isList (x:=u) (by simpa using hu) λ h' bO sb=>?_;have I1:Inv X pins σ H {s with heap:=h' }:=I.turned (t':=s.toks) (λ b o hb e=>(sb.2 b hb).trans e) f0 f1 f3 f4 f5;obtain⟨o,e,c,d⟩:=id bO;exact⟨u,rfl,Xr (s:={s with heap:=h' }) e c d (by decide) ⟨x,H,I1,ru,⟨rfl,λ ys hy=>by rw[I.DU hy hq];exact hx⟩,bO,λ b hb=>(hf b hb).1⟩⟩
 done:=by
  intro X hP hw hK hc i pins s σ H E I hf st hg;subst hP hw hK;obtain⟨xs,hq,hx⟩:=hg;obtain⟨aa,rv,p,hz⟩:=I.list hq;obtain⟨f0,f1,f2,f3,f4,f5⟩:=hf it (by simp);have hl:=rv.length;exact wpAny_pyNext_list_end (I.ok.hd hc) st p.isList (by simp;omega) λ h' eb=>⟨rfl,I.turned (t':=s.toks) (λ b o hb e=>eb b o hb e) f0 f1 f3 f4 f5⟩
 self:=λ _ _ _ _ _ st h=>wpAny_pyIter_listiter st h
theorem Tf {P:Program}{w:World}{K:za}{tg:Expr}(it:Addr)(lo:Int)(n:Nat):Turn P w K tg (rG lo n) [it] it (λ i h=>IsRangeIter h it (lo+(i:Nat)*1) ((n:Int)-(i:Nat)) 1) where
 mem:=by simp
 obj:=λ i h st b hb=>by
  have e:b=it:=by simpa using hb
  subst e;exact⟨_,st,λ v z=>by
   have z':Data.fields _=Data.cell v:=z;cases z'⟩
 keep:=λ i h h' st k=>k it (by simp) _ st
 item:=by
  intro X hP hw hK hc i pins s σ H E I hf st hg;subst hP hw hK;obtain⟨f0,f1,f2,f3,f4,f5⟩:=hf it (by simp);have W:=Walks.range (prog:=X.prog) (w:=X.w) (I.ok.hd hc) it lo 1 n;refine W.item i s _ _ hg st λ v h' tk hv bO kk=>?_;obtain⟨t,rfl⟩:=hv;have I1:Inv X pins σ H {s with heap:=h',toks:=tk}:=I.turned (λ b o hb e=>kk b o (by simpa using hb) e) f0 f1 f3 f4 f5;refine⟨_,rfl,Xr (s:={s with heap:=h',toks:=tk}) (n := "range_iterator") bO rfl rfl (by decide) ⟨.int (lo+i),H,I1,⟨t,?_⟩,⟨rfl,rfl⟩,bO,λ b hb=>(hf b hb).1⟩⟩;rw[Int.mul_one]
 done:=by
  intro X hP hw hK hc i pins s σ H E I hf st hg;subst hP hw hK;obtain⟨f0,f1,f2,f3,f4,f5⟩:=hf it (by simp);exact wpAny_pyNext_range_end (I.ok.hd hc) st (by have:n<=i:=hg;omega) λ h' eb=>⟨rfl,I.turned (t':=s.toks) (λ b o hb e=>eb b o hb e) f0 f1 f3 f4 f5⟩
 self:=λ _ _ _ _ _ st h=>wpAny_pyIter_rangeiter st h
section
variable {X:Cx}{tg:Expr}
noncomputable def oQ (K:za)(tl:TE):TI:=λ σ H R=>tl σ H λ x H1=>∃a,x=.ref a/\(∃xs,CJ K H1 a xs)/\R (uK K a) H1
theorem cG {l:Expr}{tl:TE}(hl:PE X l tl):PI X tg l (oQ X.K tl):=by
 intro pins s σ H R I h;refine Bg (hl pins s σ H _ I h) λ v s1 ⟨x,H1,I1,r1,q1⟩=>?_;obtain⟨a,e,⟨xs,hq⟩,q⟩:=q1;subst e;cases r1;obtain⟨aa,rv,p,hz⟩:=I1.list hq;refine wpAny_pyIter_list p.isList ?_;refine⟨s1.heap.objs.size,[s1.heap.objs.size],_,_,H1,rfl,I1.kept (t':=s1.toks) λ b o e=>zq _ e,VN a _,⟨_,zE _ rfl,rfl,rfl⟩,λ b hb=>?_,q⟩;have e:b=s1.heap.objs.size:=by simpa using hb
 subst e;exact I1.VM (zx _) (I1.As.fresh (zx _))
theorem Xs {pins:List (Addr×Obj)}{σ:St}{H:Hp}{s:Shared}{R:It->Hp->Prop}{E:Value->Shared->Prop}{lo hi:Int}{t u v:Tok}{tk:Nat}(I:Inv X pins σ H s)(h1 : -(2^62)<=lo)(h2:lo<2^62)(h3 : -(2^62)<=hi)(h4:hi<2^62)
 (q:R (rG lo (hi-lo).toNat) H):wpAny (model X.prog X.w) X.A (pyIter (.ref s.heap.objs.size)) (uJ X pins σ tg R) E {s with heap:=s.heap.push {cls:=.type "range",data:=.fields #[.int lo t,.int hi u,.int 1 v]},toks:=tk}:=by
 refine wpAny_pyIter_range (IsRange.new ..) (small_one h1 h2 h3 h4) ?_;have I1:Inv X pins σ H {s with heap:=s.heap.push {cls:=.type "range",data:=.fields #[.int lo t,.int hi u,.int 1 v]},toks:=tk}:=I.kept λ b o e=>zq _ e;refine⟨(s.heap.push {cls:=.type "range",data:=.fields #[.int lo t,.int hi u,.int 1 v]}).objs.size,[(s.heap.push {cls:=.type "range",data:=.fields #[.int lo t,.int hi u,.int 1 v]}).objs.size],_,_,H,rfl,
  I1.kept (t':=tk) λ b o e=>zq _ e,Tf _ lo (hi-lo).toNat,?_,λ b hb=>?_,q⟩
 ·have e1:lo+((0:Nat):Int)*1=lo:=by simp
  have e2:(((hi-lo).toNat:Nat):Int)-((0:Nat):Int)=Builtin.Range.rangeSize lo hi 1:=by rw[rangeSize_one];split<;>omega
  show IsRangeIter _ _ (lo+((0:Nat):Int)*1) ((((hi-lo).toNat:Nat):Int)-((0:Nat):Int)) 1;rw[e1,e2];exact zE _ rfl
 ·have e:b=(s.heap.push {cls:=.type "range",data:=.fields #[.int lo t,.int hi u,.int 1 v]}).objs.size:=by simpa using hb
  subst e;exact I1.VM (zx _) (I1.As.fresh (zx _))
noncomputable def oR (ta:TA):TI:=λ σ H R=>ta σ H λ vs H1=>∃j:Int,vs=[.int j]/\-(2^62)<=j/\j<2^62/\R (rG 0 j.toNat) H1
theorem VO {a:Expr}{ta:TA}{p pos:Pos}(hg:Gl X "range")(hm:X.mg "range" = none)(ha:PA X [a] ta)(hs:starEach [a] X.env=[(false,eval a X.env)]:=by rfl):PI X tg (.Call (.Name "range" p) [a] [] pos) (oR ta):=by
 intro pins s σ H R I h;refine Call_ (Dr I hg hm boot_range (zY (Bg (ha pos pins s σ H _ I h) λ us s1 ⟨vs,H1,I1,r1,q1⟩=>?_) hs rfl));obtain⟨j,e,q1,q2,q⟩:=q1;subst e;cases r1 with
 |cons r rr =>
  cases rr;obtain⟨t,rfl⟩:=r;exact call_range_1 (Xs I1 (by omega) (by omega) q1 q2 (by simpa using q))
noncomputable def sW (wi:TI)(g:TG)(tb:TS):TS:=λ D σ H=>wi σ H λ J H1=>∃W:Nat->Nat->St->Hp->Prop,(∃m,W 0 m σ H1)/\∀i m σ H,W i m σ H->
 (J.stop i H/\D.nx σ H)\/(J.go i H/\∃N:St->Hp->Prop,(∀σ' H',N σ' H'->∃m',m'<m/\W (i+1) m' σ' H')/\∀x H',J.cF i H x H'->g x σ H' λ σ2 H2=>tb {D with nx:=N,ct:=N,bk:=D.nx} σ2 H2)
noncomputable def HQ (fp:List Addr)(h:Heap):List (Addr×Obj):=fp.filterMap λ b=>(h.get? b).map λ o=>(b,o)
theorem Fc {fp:List Addr}{h:Heap}{b:Addr}{o:Obj}(hb:b∈fp)(e:h.get? b=some o):(b,o)∈HQ fp h:=List.mem_filterMap.mpr ⟨b,hb,by rw[e];rfl⟩
theorem Ov {fp:List Addr}{h:Heap}{p:Addr×Obj}(hp:p∈HQ fp h):p.1∈fp/\h.get? p.1=some p.2:=by
 obtain⟨b,hb,e⟩:=List.mem_filterMap.mp hp;cases q:h.get? b with
 |none=>rw[q] at e;cases e
 |some o =>
  rw[q] at e;have e':(b,o)=p:=zD e;subst e';exact⟨hb,q⟩
theorem Inv.pinned {pins:List (Addr×Obj)}{σ:St}{H:Hp}{s:Shared}{fp:List Addr}(I:Inv X pins σ H s)(hf:∀b∈fp,K1 X pins H b)(ho:∀b∈fp,∃o,s.heap.get? b=some o/\∀v,o.data≠.cell v):Inv X (pins++HQ fp s.heap) σ H s:=
 I.ID λ p hp=>(zv.mp hp).elim (λ z=>I.pin p (zm _ z)) λ z=>by
  obtain⟨hb,e⟩:=Ov z;obtain⟨f0,f1,f2,_⟩:=hf p.1 hb;obtain⟨o,e',d⟩:=ho p.1 hb;rw[e] at e';cases e';exact⟨e,f0,f1,f2,d⟩
theorem Inv.IE {pins pl:List (Addr×Obj)}{σ:St}{H:Hp}{s:Shared}(I:Inv X (pins++pl) σ H s):Inv X pins σ H s:=I.ID λ p hp=>I.pin p (zm _ (zL _ hp))
theorem jW {iter:Expr}{body:List Stmt}{wi:TI}{g:TG}{tb:TS}{pos:Pos}(hp:PassesOwn (model X.prog X.w) X.A X.env X.xe)(hc:X.calm=true)(hi:PI X tg iter wi)(hg:PG X tg g)(hb:UA X body tb)
 (hs:∀x,foldedSetIterable iter X.env x=pure x:=by intro _;rfl):PS X (.For tg iter body [] pos) (sW wi g tb):=by
 intro pins s σ H D I h;refine wpAny_For (Bg (hi pins s σ H _ I h) λ v s1 h1=>Bg h1 λ kc s2 h2=>?_) hs;obtain⟨it,fp,tn,J,H2,e,I2,T,cv,f2,W,⟨m0,w0⟩,turn⟩:=h2;subst e;have bn:∀ {H':Hp},(∀b∈fp,H' b=none)->∀b∈fp,K1 X pins H' b:=λ hn b hb=>⟨hn b hb,(f2 b hb).2⟩;refine codeAny_forLoop_any (λ n s'=>∃i σ' H',Inv X pins σ' H' s'/\tn i s'.heap/\(∀b∈fp,H' b=none)/\W i n σ' H') ?_ m0 ⟨0,σ,H2,I2,cv,λ b hb=>(f2 b hb).1,w0⟩;rintro n s3 ⟨i,σ3,H3,I3,ib,ic,w3⟩;rcases turn i n σ3 H3 w3 with ⟨stop,qn⟩|⟨go,N,hN,step⟩
 ·refine wpAny_passesOwn hp (Bg (T.done X rfl rfl rfl hc i pins s3 σ3 H3 X.xe I3 (bn ic) ib stop) λ r s4 ⟨hr,I4⟩=>?_);subst hr;exact wpAny_execs_nil ⟨σ3,H3,I4,qn⟩
 ·refine wpAny_passesOwn hp (Bg (T.item X rfl rfl rfl hc i pins s3 σ3 H3 X.xe I3 (bn ic) ib go) λ r s4 ⟨u,hr,h4⟩=>?_);subst hr;refine wpAny_passesOwn hp (Bg h4 λ _ s5 ⟨x,H5,I5,r5,y5,eh,me⟩=>?_);have mf:=I5.pinned (bn me) (T.obj _ _ eh);refine wpAny_passesOwn hp (Bg (hg _ s5 σ3 H5 x u _ mf r5 (step x H5 y5)) λ _ s6 ⟨σ6,H6,I6,q6⟩=>?_);refine wpAny_passesOwn hp (Bg (hb _ s6 σ6 H6 _ I6 q6) λ f s7 q7=>?_);have again:∀ {σ7:St} {H7:Hp},Inv X (pins++HQ fp s5.heap) σ7 H7 s7->N σ7 H7->∃m,m<n/\∃i σ' H',Inv X pins σ' H' s7/\tn i s7.heap/\(∀b∈fp,H' b=none)/\W i m σ' H':=fun {σ7 H7} I7 n7=>by
   obtain⟨m',hm,w7⟩:=hN σ7 H7 n7;refine⟨m',hm,i+1,σ7,H7,I7.IE,T.keep _ _ _ eh λ b hb o e=>(I7.pin (b,o) (zm _ (zm _ (Fc hb e)))).1,λ b hb=>?_,w7⟩;obtain⟨o,e,d⟩:=T.obj _ _ eh b hb;exact (I7.pin (b,o) (zm _ (zm _ (Fc hb e)))).2.1
  cases f with
  |next|cont=>obtain⟨σ7,H7,I7,n7⟩:=q7;exact again I7 n7
  |brk=>obtain⟨σ7,H7,I7,q7⟩:=q7;exact⟨σ7,H7,I7.IE,q7⟩
  |ret v=>obtain⟨x7,σ7,H7,I7,r7,q7⟩:=q7;exact⟨x7,σ7,H7,I7.IE,r7,q7⟩
end
noncomputable abbrev R2:=V->V->Hp->VK->Prop
def G9 (X:Cx)(f:Value->Value->Sem Value)(r:R2):Prop:=
 ∀(pins:List (Addr×Obj)) (s:Shared) (σ:St) (H:Hp) (x y:V) (v u:Value) (Q:VK),Inv X pins σ H s->RelV x v->RelV y u->r x y H Q->
  wpAny (model X.prog X.w) X.A (f v u) (EP X pins σ Q) X.xe s
def sX (X:Cx)(f:Value->Sem Value)(r:V->Hp->VK->Prop):Prop:=
 ∀(pins:List (Addr×Obj)) (s:Shared) (σ:St) (H:Hp) (x:V) (v:Value) (Q:VK),Inv X pins σ H s->RelV x v->r x H Q->
  wpAny (model X.prog X.w) X.A (f v) (EP X pins σ Q) X.xe s
def Ga (X:Cx)(f:Value)(r:List V->Hp->VK->Prop):Prop:=
 ∀(pins:List (Addr×Obj)) (s:Shared) (σ:St) (H:Hp) (xs:List V) (us:List Value) (Q:VK),Inv X pins σ H s->Vals xs us->r xs H Q->
  wpAny (model X.prog X.w) X.A (call f us) (EP X pins σ Q) X.xe s
def sY (X:Cx)(r:V->Hp->(Bool->Hp->Prop)->Prop):Prop:=
 ∀(pins:List (Addr×Obj)) (s:Shared) (σ:St) (H:Hp) (x:V) (v:Value) (Q:Bool->Hp->Prop),Inv X pins σ H s->RelV x v->r x H Q->
  wpAny (model X.prog X.w) X.A (truthy v) (TP X pins σ Q) X.xe s
noncomputable def nL (r:R2)(ta tb:TE):TE:=λ σ H Q=>ta σ H λ x H1=>tb σ H1 λ y H2=>r x y H2 Q
noncomputable def vL (r:V->Hp->VK->Prop)(ta:TE):TE:=λ σ H Q=>ta σ H λ x H1=>r x H1 Q
noncomputable def rI (C:Int->Int->Prop)(g:Int->Int->V):R2:=λ x y H Q=>∃i j,x=.int i/\y=.int j/\C i j/\Q (g i j) H
noncomputable def ZS (g:Int->Int->V):R2:=λ x y H Q=>∃i j,x=.int i/\y=.int j/\Q (g i j) H
def rU (g:Int->V):V->Hp->VK->Prop:=λ x H Q=>∃i,x=.int i/\Q (g i) H
section
variable {X:Cx}{a b c:Expr}{ta tb tc:TE}{pos:Pos}
theorem jX (ha:PE X a ta)(hb:PE X b tb){pins:List (Addr×Obj)}{s:Shared}{σ:St}{H:Hp}{R:V->V->Hp->Prop}(I:Inv X pins σ H s)
 (h:ta σ H λ x H1=>tb σ H1 λ y H2=>R x y H2) {Q:Value->Shared->Prop} {f:Value->Value->Sem Value}
 (hf:∀v u s2 x y H2,Inv X pins σ H2 s2->RelV x v->RelV y u->R x y H2->wpAny (model X.prog X.w) X.A (f v u) Q X.xe s2):
 wpAny (model X.prog X.w) X.A (eval a X.env) (λ v s₁=>wpAny (model X.prog X.w) X.A (eval b X.env) (λ u s₂=>wpAny (model X.prog X.w) X.A (f v u) Q X.xe s₂) X.xe s₁) X.xe s:=by
 refine Bg (ha pins s σ H _ I h) λ v s1 ⟨x,H1,I1,r1,q1⟩=>?_;refine Bg (hb pins s1 σ H1 _ I1 q1) λ u s2 ⟨y,H2,I2,r2,q2⟩=>?_;exact hf v u s2 x y H2 I2 r1 r2 q2
theorem Xu {op:Operator}{r:R2}(ho:G9 X (binaryOp op) r)(ha:PE X a ta)(hb:PE X b tb):PE X (.BinOp a op b pos) (nL r ta tb):=by
 intro pins s σ H Q I h;exact wpAny_BinOp (jX ha hb I h λ v u s2 x y H2 I2 rx ry q=>ho pins s2 σ H2 x y v u Q I2 rx ry q)
theorem oS {op:UnaryOp}{r:V->Hp->VK->Prop}(ho:sX X (unaryOp op) r)(ha:PE X a ta):PE X (.UnaryOp op a pos) (vL r ta):=by
 intro pins s σ H Q I h;exact UnaryOp_ (Bg (ha pins s σ H _ I h) λ v s1 ⟨x,H1,I1,r1,q1⟩=>ho pins s1 σ H1 x v Q I1 r1 q1)
theorem rH {f:Value->Value->Sem Value}{C:Int->Int->Prop}{g:Int->Int->Int}
 (rule:∀(i j:Int) (t u:Tok) (s:Shared) (Q:Value->Shared->Prop) (E:Value->Shared->Prop),C i j->Q (.int (g i j) s.toks) {s with toks:=s.toks+1}->wpAny (model X.prog X.w) X.A (f (.int i t) (.int j u)) Q E s):
 G9 X f (rI C λ i j=>.int (g i j)):=by
 intro pins s σ H x y v u Q I rx ry h;obtain⟨i,j,rfl,rfl,hc,q⟩:=h;obtain⟨t,rfl⟩:=rx;obtain⟨t',rfl⟩:=ry;exact rule i j t t' s _ _ hc ⟨.int (g i j),H,I.tok _,⟨_,rfl⟩,q⟩
theorem oT {f:Value->Value->Sem Value}{g:Int->Int->Int}
 (rule:∀(i j:Int) (t u:Tok) (s:Shared) (Q:Value->Shared->Prop) (E:Value->Shared->Prop),Q (.int (g i j) s.toks) {s with toks:=s.toks+1}->wpAny (model X.prog X.w) X.A (f (.int i t) (.int j u)) Q E s):
 G9 X f (ZS λ i j=>.int (g i j)):=by
 intro pins s σ H x y v u Q I rx ry h;obtain⟨i,j,rfl,rfl,q⟩:=h;obtain⟨t,rfl⟩:=rx;obtain⟨t',rfl⟩:=ry;exact rule i j t t' s _ _ ⟨.int (g i j),H,I.tok _,⟨_,rfl⟩,q⟩
theorem jY {f:Value->Value->Sem Value}{g:Int->Int->Bool}
 (rule:∀(i j:Int) (t u:Tok) (s:Shared) (Q:Value->Shared->Prop) (E:Value->Shared->Prop),Q (.bool (g i j)) s->wpAny (model X.prog X.w) X.A (f (.int i t) (.int j u)) Q E s):
 G9 X f (ZS λ i j=>.bl (g i j)):=by
 intro pins s σ H x y v u Q I rx ry h;obtain⟨i,j,rfl,rfl,q⟩:=h;obtain⟨t,rfl⟩:=rx;obtain⟨t',rfl⟩:=ry;exact rule i j t t' s _ _ ⟨.bl (g i j),H,I,rfl,q⟩
def Xv (i j:Int):Prop:=0<j/\j<1073741824
def cH (i j:Int):Prop:=0<=j/\j<=1000000/\i.natAbs<2^64
def Xw (i j:Int):Prop:=(-(2^64)<i/\i<2^64)\/(-(2^64)<j/\j<2^64)
theorem Xw.ok {i j:Int}(h:Xw i j):IntMulOk i j:=by
 rcases h with ⟨h1,h2⟩|⟨h1,h2⟩
 ·exact .of_left (intBits_le_64 h1 h2)
 ·exact .of_right (intBits_le_64 h1 h2)
theorem jZ:G9 X (binaryOp .Add) (ZS λ i j=>.int (i+j)):=oT λ _ _ _ _ _ _ _ q=>add_int q
theorem kA:G9 X (binaryOp .Sub) (ZS λ i j=>.int (i-j)):=oT λ _ _ _ _ _ _ _ q=>sub_int q
theorem cI:G9 X (binaryOp .FloorDiv) (rI Xv λ i j=>.int (i / j)):=rH λ i j _ _ _ _ _ hc q=>by
 have h1:(0:Int)<j:=hc.1;have h2:j<1073741824:=hc.2;exact floordiv_int (by omega) (by rw[Int.fdiv_eq_ediv_of_nonneg i (by omega)];exact q) (.inl (PyProof.noPylong_small (by omega)))
theorem kB:G9 X (binaryOp .Mod) (rI (λ _ j=>0<j) λ i j=>.int (i%j)):=rH λ i j _ _ _ _ _ hc q=>by
 have h1:(0:Int)<j:=hc;exact mod_int' (by omega) (by rw[Int.fmod_eq_emod_of_nonneg i (by omega)];exact q)
theorem kC:G9 X (binaryOp .Pow) (rI cH λ i j=>.int (i^j.toNat)):=rH λ _ _ _ _ _ _ _ hc q=>pow_int_small hc.1 hc.2.1 hc.2.2 q
theorem vM {f:Value->Sem Value}{g:Int->Int}
 (rule:∀(i:Int) (t:Tok) (s:Shared) (Q:Value->Shared->Prop) (E:Value->Shared->Prop),Q (.int (g i) s.toks) {s with toks:=s.toks+1}->wpAny (model X.prog X.w) X.A (f (.int i t)) Q E s):
 sX X f (rU λ i=>.int (g i)):=by
 intro pins s σ H x v Q I rx h;obtain⟨i,rfl,q⟩:=h;obtain⟨t,rfl⟩:=rx;exact rule i t s _ _ ⟨.int (g i),H,I.tok _,⟨_,rfl⟩,q⟩
theorem kD:sX X (unaryOp .USub) (rU λ i=>.int (-i)):=vM λ _ _ _ _ _ q=>neg_int q
end
section
variable {X:Cx}{a b c:Expr}{ta tb tc:TE}{pos:Pos}
theorem iB:G9 X (compareOp .Lt) (ZS λ i j=>.bl (decide (i<j))):=jY λ _ _ _ _ _ _ _ q=>lt_int q
theorem oU:G9 X (compareOp .LtE) (ZS λ i j=>.bl (decide (i<=j))):=jY λ _ _ _ _ _ _ _ q=>le_int q
theorem oV:G9 X (compareOp .Gt) (ZS λ i j=>.bl (decide (j<i))):=jY λ _ _ _ _ _ _ _ q=>gt_int q
theorem G9.or {f:Value->Value->Sem Value}{r r':R2}(h:G9 X f r)(h':G9 X f r'):G9 X f (λ x y H Q=>r x y H Q\/r' x y H Q):=by
 intro pins s σ H x y v u Q I rx ry q;rcases q with q|q
 ·exact h pins s σ H x y v u Q I rx ry q
 ·exact h' pins s σ H x y v u Q I rx ry q
theorem HR (b:Expr){op:CmpOp}(h:op≠.In:=by decide)(h2:op≠.NotIn:=by decide):behindInMarks op b=false:=by
 have e1:(op==CmpOp.In)=false:=by cases op<;>first|rfl|exact absurd rfl h
 have e2:(op==CmpOp.NotIn)=false:=by cases op<;>first|rfl|exact absurd rfl h2
 cases b<;>simp[behindInMarks,e1,e2]
theorem cJ {op:CmpOp}{r:R2}(ho:G9 X (compareOp op) r)(ha:PE X a ta)(hb:PE X b tb)(hm:behindInMarks op b=false):PE X (.Compare a [op] [b] pos) (nL r ta tb):=by
 intro pins s σ H Q I h;exact wpAny_Compare1 (jX ha hb I h λ v u s2 x y H2 I2 rx ry q=>ho pins s2 σ H2 x y v u Q I2 rx ry q) hm
noncomputable def oW (t:TE):TT:=λ σ H Q=>t σ H λ x H'=>∃k,x=.bl k/\Q k H'
theorem cK {op:CmpOp}{r:R2}(ho:G9 X (compareOp op) r)(ha:PE X a ta)(hb:PE X b tb)(hm:behindInMarks op b=false):PT X (.Compare a [op] [b] pos) (oW (nL r ta tb)):=by
 intro pins s σ H Q I h;refine wpAny_isTrue_Compare1 (Bg (ha pins s σ H _ I h) λ v s1 ⟨x,H1,I1,r1,q1⟩=>Bg (hb pins s1 σ H1 _ I1 q1) λ u s2 ⟨y,H2,I2,r2,q2⟩ =>
  Bg (ho pins s2 σ H2 x y v u _ I2 r1 r2 q2) λ c s3 ⟨z,H3,I3,r3,k,e,q3⟩=>?_) hm
 subst e;cases r3;exact wpAny_truthy_bool ⟨H3,I3,q3⟩
noncomputable def kE (r r':R2)(ta tb tc:TE):TE:=λ σ H Q=>ta σ H λ x H1=>tb σ H1 λ y H2=>r x y H2 λ z H3=>∃k,z=.bl k/\
 (if k=true then tc σ H3 λ w' H4=>r' y w' H4 Q else Q (.bl false) H3)
theorem Xx {op eo:CmpOp}{r r':R2}(ho:G9 X (compareOp op) r)(bm:G9 X (compareOp eo) r')(ha:PE X a ta)(hb:PE X b tb)(hc:PE X c tc)
 (hm:lastMarks [op,eo] [b,c]=false:=by with_unfolding_all rfl):PE X (.Compare a [op,eo] [b,c] pos) (kE r r' ta tb tc):=by
 intro pins s σ H Q I h;refine Compare_chain (Bg (ha pins s σ H _ I h) λ v s1 ⟨x,H1,I1,r1,q1⟩=>chain_link (Bg (hb pins s1 σ H1 _ I1 q1) λ u s2 ⟨y,H2,I2,r2,q2⟩ =>
  Bg (ho pins s2 σ H2 x y v u _ I2 r1 r2 q2) λ d s3 ⟨z,H3,I3,r3,k,e,q3⟩=>?_)) hm
 subst e;cases r3;refine wpAny_truthy_bool ?_;cases k with
 |false=>exact ite_ff ⟨.bl false,H3,I3,rfl,q3⟩
 |true=>exact ite_tt (chain_last (Bg (hc pins s3 σ H3 _ I3 q3) λ w' s4 ⟨z',H4,I4,r4,q4⟩=>bm pins s4 σ H4 y z' u w' Q I4 r2 r4 q4))
def oX (K:za)(x:V)(H:Hp)(k:Bool):Prop:=
 match x with
 | .AA=>k=false
 | .bl b=>k=b
 | .int i=>k=(i != 0)
 | .str y=>y.length<=sizeLine/\k=((y.length:Int) != 0)
 | .jF y=>y.size<=sizeLine/\k=((y.size:Int) != 0)
 | .ref p=>(∃xs,CJ K H p xs/\k = !xs.isEmpty)\/(∃xs,Fb K H p xs/\k = !xs.isEmpty)\/∃kvs,H p=some (.dK kvs)/\k = !kvs.isEmpty
 |_=>False
theorem Tg {κ:Type}{kvs:List (κ×V)}{vs:List (κ×Value)}(r:KV kvs vs):(!vs.isEmpty) = !kvs.isEmpty:=by
 cases r<;>rfl
theorem M9 {xs:List V}{aa:List Value}(r:Vals xs aa):(!aa.toArray.isEmpty) = !xs.isEmpty:=by
 cases r<;>simp
theorem K2:(sizeLine:Nat)<2^63:=by rw[sizeLine_eq];decide
theorem kF:sY X (λ x H Q=>∃k,oX X.K x H k/\Q k H):=by
 intro pins s σ H x v Q I rx h;obtain⟨k,e,q⟩:=h;have hl:=K2;have hs:sizeLine=16777216:=sizeLine_eq;cases x with
 |AA =>
  cases rx;have e':k=false:=e;subst e';exact truthy_none ⟨H,I,q⟩
 |bl b =>
  cases rx;have e':k=b:=e;subst e';exact wpAny_truthy_bool ⟨H,I,q⟩
 |int i =>
  obtain⟨t,rfl⟩:=rx;have e':k=(i != 0):=e;subst e';exact PySem.P.truthy_int ⟨H,I,q⟩
 |str y =>
  obtain⟨t,rfl⟩:=rx;obtain⟨hy,e'⟩:y.length<=sizeLine/\k=((y.length:Int) != 0):=e;subst e';exact PySem.P.truthy_str (by omega) ⟨H,I.tok _,q⟩
 |jF y =>
  obtain⟨t,rfl⟩:=rx;obtain⟨hy,e'⟩:y.size<=sizeLine/\k=((y.size:Int) != 0):=e;subst e';exact PySem.W.truthy_bytes (by omega) ⟨H,I.tok _,q⟩
 |ref p =>
  cases rx;have e':(∃xs,CJ X.K H p xs/\k = !xs.isEmpty)\/(∃xs,Fb X.K H p xs/\k = !xs.isEmpty)\/∃kvs,H p=some (.dK kvs)/\k = !kvs.isEmpty:=e;rcases e' with ⟨xs,hx,e'⟩|⟨xs,hx,e'⟩|⟨kvs,hx,e'⟩
  ·subst e';obtain⟨aa,r,pl,hz⟩:=I.list hx;have hlen:=r.length;exact wpAny_truthy_list pl.isList (by simp only[zj];omega) ⟨H,I.tok _,by rw[M9 r];exact q⟩
  ·subst e';obtain⟨aa,r,pl,hz⟩:=I.tuple hx;have hlen:=r.length;exact truthy_tuple pl (by simp only[zj];omega) ⟨H,I.tok _,by rw[M9 r];exact q⟩
  ·subst e';obtain⟨hz,hS,vs,r,m⟩:kvs.length<=sizeLine/\(p==sysModules)=false/\∃vs,KV kvs vs/\s.heap.DictOf (B9 X.prog X.w) p vs:=I.As p _ hx;have hlen:kvs.length=vs.length:=Paired.length r;exact wpAny_truthy_dict hS m (by omega) ⟨H,I.tok _,by rw[Tg r];exact q⟩
 |_=>exact (show False from e).elim
theorem Xy (ha:PE X a ta)(he:∀whole,isTrue a X.env whole=(do let v <-whole;standAt a.pos;holding [v] (truthy v))):
 PT X a (λ σ H Q=>ta σ H λ x H'=>∃k,oX X.K x H' k/\Q k H'):=by
 intro pins s σ H Q I h;exact isTrue_plain (Bg (ha pins s σ H _ I h) λ v s1 ⟨x,H1,I1,r1,q1⟩=>kF pins s1 σ H1 x v Q I1 r1 q1) (he _)
theorem vals1 {x:V}{us:List Value}(r:Vals [x] us):∃u,us=[u]/\RelV x u:=by
 cases r with
 |cons r1 r2=>cases r2;exact⟨_,rfl,r1⟩
theorem VP:Ga X (.type "int") (λ xs H Q=>(∃i,xs=[.int i]/\Q (.int i) H)\/∃k,xs=[.bl k]/\Q (.int (if k then 1 else 0)) H):=by
 intro pins s σ H xs us Q I r h;rcases h with ⟨i,rfl,q⟩|⟨k,rfl,q⟩
 ·obtain⟨u,rfl,t,rfl⟩:=vals1 r;exact call_int_int ⟨.int i,H,I,⟨_,rfl⟩,q⟩
 ·obtain⟨u,rfl,r1⟩:=vals1 r;cases r1;exact call_int_bool ⟨.int (if k then 1 else 0),H,I.tok _,⟨_,rfl⟩,q⟩
end
structure Th (h:Heap)(x dx C:Addr)(mA:Str->Option Value):Prop where
 obj:h.get? x=some (za8 C dx)
 ns:h.Ns1 dx mA
 ne:dx≠x
theorem VQ {h:Heap}{dx:Addr}{mA:Str->Option Value}(n:h.Ns1 dx mA):∃od,h.get? dx=some od/\∀name,PySem.W.lookIn name od=some (mA name):=by
 obtain⟨o,es,ep,ho,hd,hk,_,hm⟩:=n;refine⟨o,ho,λ name=>?_⟩;have e:=hm name;unfold nsFind findBy at e;rw[<-Array.find?_toList] at e;unfold PySem.W.lookIn;rw[hd];dsimp only;split
 ·rename_i y q;rw[q] at e;exact congrArg some e
 ·rename_i q;rw[q] at e;have a:es.toList.any (·.refKey)=false:=by
   rw[List.any_eq_false];intro y hy;obtain⟨z,t,mh⟩:=hk y (Array.mem_toList_iff.mp hy);simp[DictEntry.refKey,mh]
  have a':¬ es.toList.any (·.refKey)=true:=by rw[a];exact z9
  rw[if_neg a'];exact congrArg some e
theorem Th.look {h:Heap}{x dx C:Addr}{mA:Str->Option Value}(I:Th h x dx C mA):∃od,PySem.W.InstAt h x (za8 C dx) C (some od)/\∀name,PySem.W.lookIn name od=some (mA name):=
 let ⟨od,ho,hl⟩:=VQ I.ns
 ⟨od,⟨I.obj,rfl,rfl,ho⟩,hl⟩
section
variable {prog:Program}{w:World}{A:Around}{E:Value->Shared->Prop}{s:Shared}{K:za}{x dx C f:Addr}{mA:Str->Option Value}{name:Str}{v:Value}
theorem get_map {expr:Bool}{Q:Value->Shared->Prop}(X:K.In s.heap)(I:Th s.heap x dx C mA)(hg:PySem.W.plainGet K C name=true)(hh:PySem.W.hasDictIn K C=true)
 (ha:zS K (.ref C) name=some none) (hv:mA name=some v) (mi:PySem.W.handedIn v=true) (h:Q v {s with toks:=s.toks+1}):
 wpAny (model prog w) A (getAttr (.ref x) name expr) Q E s:=by
 obtain⟨od,J,hl⟩:=I.look;exact PySem.W.get_value X J (PySem.W.plainGet_of hg).1 (PySem.W.findObj_own hh ha rfl (by rw[hl,hv])) mi h
theorem Xz {pl:Sem Bool}{Q:Value×List Value->Shared->Prop}(X:K.In s.heap)(I:Th s.heap x dx C mA)(hg:PySem.W.plainGet K C name=true)
 (hf:zS K (.ref C) name=some (some (.ref f))) (ht:PySem.W.isFn K (.ref f)=true) (hv:mA name=none) (h:Q (.ref f,[.ref x]) s):
 wpAny (model prog w) A (getMethod (.ref x) name pl) Q E s:=by
 obtain⟨od,J,hl⟩:=I.look;exact PySem.W.method_fn X J (PySem.W.plainGet_of hg).1 (PySem.W.plainGet_of hg).2 hf (beq_iff_eq.mp ht) (by show (PySem.W.lookIn name od).map (·.isSome)=some false;rw[hl,hv];rfl) h
theorem cL {ns:List Str}{Q:Unit->Shared->Prop}(X:K.In s.heap)(I:Th s.heap x dx C mA)
 (hs:zS K (.ref C) "__setattr__" = some (some (.builtin "object.__setattr__"))) (hp:PySem.W.plainOver K C=true) (ht:PySem.W.takerIn K C name=some none) (hh:PySem.W.hasDictIn K C=true)
 (hw:PySem.Within mA ns) (hsz:ns.length<=sizeLine)
 (h:∀h',Th h' x dx C (λ y=>if y=name then some v else mA y)->zag dx s.heap h'->Q () {s with heap:=h',toks:=s.toks+2}):
 wpAny (model prog w) A (setAttr (.ref x) name v) Q E s:=by
 obtain⟨od,J,hl⟩:=I.look;refine PySem.W.set_plain X J hs (PySem.W.osa_open (s:={s with toks:=s.toks+1}) (r:=none) X J hp ht λ b=>?_);obtain⟨cd,hc,bw⟩:=PySem.W.any_some hh;have hx:s.heap.get? x=some ⟨.ref C,some dx,.plain,#[]⟩:=I.obj;refine wpAny_bind (wpAny_pure (wpAny_bind (wpAny_bind (wpAny_loadPart hx (wpAny_bind (PySem.W.Looks.here (s:={s with toks:=s.toks+1}) (PySem.W.looks_clsIn X hc) ?_))))));rw[bw];refine wpAny_pure (a:=some dx) (wpAny_bind (wpAny_pure (wpAny_bind ?_)));refine wpAny_nsSet1 (s:={s with toks:=s.toks+1}) I.ns λ h' aE aK=>?_;obtain⟨oD,yf,yg,u5,u6,u7⟩:=aE.count (PySem.Within.cons name v hw);refine wpAny_bind (wpAny_lookBehind u5 (by rw[u6];exact pastItsLine_dict (yG u7 (by rw[zl];omega))) ?_);exact wpAny_pure (h _ ⟨(aK.2 _ (zX I.ne)).trans I.obj,aE,I.ne⟩ aK)
theorem XA {R:Result->Shared->Prop}{vs:List Value}{kw:List (Str×Value)}(X:K.In s.heap)(hm:PySem.W.makesIn K C=true)
 (hi:zS K (.ref C) "__init__" = some (some (.ref f))) (hf:PySem.W.typeIn K (.ref f)=some (.type "function"))
 (h:codeAny (model prog w) (A.under (.builtin "type.__call__" ⟨.ref C::vs,kw⟩)) (.call (.ref f) ⟨.ref (s.heap.objs.size+1)::vs,kw⟩) (PySem.W.InitBack (s.heap.objs.size+1) R)
  {s with heap:=(s.heap.push yS).push (za8 C s.heap.objs.size)}):
 codeAny (model prog w) A (.call (.ref C) ⟨vs,kw⟩) R s:=by
 obtain⟨hh,g,d,t,os⟩:=s;exact PySem.W.make_core (PySem.W.makes_of X hm) (PySem.W.looks_findIn X hi) (λ self=>PySem.W.bind_fn X self hf) (.inl rfl) h
end
noncomputable def DV (f:Str)(v:V):List (Str×V)->List (Str×V)
 |[]=>[(f,v)]
 |(g,x)::r=>if g=f then (g,v)::r else (g,x)::DV f v r
theorem KA (f g:Str)(v:V):∀fs:List (Str×V),(DV f v fs).lookup g=if g=f then some v else fs.lookup g
 |[]=>by
  show List.lookup g [(f,v)]=_;by_cases h:g=f
  ·have hb:(g==f)=true:=beq_iff_eq.mpr h;simp only[List.lookup,hb,if_pos h]
  ·have hb:(g==f)=false:=beq_eq_false_iff_ne.mpr h;simp only[List.lookup,hb,if_neg h]
 |(k,x)::r=>by
  have ih:=KA f g v r;rw[show DV f v ((k,x)::r)=(if k=f then (k,v)::r else (k,x)::DV f v r) from rfl];by_cases hk:k=f
  ·rw[if_pos hk];by_cases h:g=k
   ·have hb:(g==k)=true:=beq_iff_eq.mpr h;simp only[List.lookup,hb,if_pos (h.trans hk)]
   ·have hb:(g==k)=false:=beq_eq_false_iff_ne.mpr h;simp only[List.lookup,hb,if_neg (λ e:g=f=>h (e.trans hk.symm))]
  ·rw[if_neg hk];by_cases h:g=k
   ·have hb:(g==k)=true:=beq_iff_eq.mpr h;simp only[List.lookup,hb,if_neg (λ e:g=f=>hk (h.symm.trans e))]
   ·have hb:(g==k)=false:=beq_eq_false_iff_ne.mpr h;simp only[List.lookup,hb];exact ih
theorem K3 (f:Str)(v:V):∀fs:List (Str×V),f∈(DV f v fs).map (·.1)/\∀g,g∈fs.map (·.1)->g∈(DV f v fs).map (·.1)
 |[]=>⟨by simp[DV],λ g h=>by simp at h⟩
 |(k,x)::r=>by
  obtain⟨i1,i2⟩:=K3 f v r;rw[show DV f v ((k,x)::r)=(if k=f then (k,v)::r else (k,x)::DV f v r) from rfl];by_cases hk:k=f
  ·rw[if_pos hk];subst hk;exact⟨by simp,λ g h=>by simpa using h⟩
  ·rw[if_neg hk];refine⟨?_,λ g h=>?_⟩
   ·rw[zf];exact ze _ i1
   ·rw[zf] at h ⊢;rcases zp.mp h with e|e
    ·exact zp.mpr (.inl e)
    ·exact ze _ (i2 g e)
theorem KC (f:Str)(v:V):∀fs:List (Str×V),(DV f v fs).length<=fs.length+1
 |[]=>by simp[DV]
 |(k,x)::r=>by
  have ih:=KC f v r;rw[show DV f v ((k,x)::r)=(if k=f then (k,v)::r else (k,x)::DV f v r) from rfl];by_cases hk:k=f
  ·rw[if_pos hk,zl,zl];omega
  ·rw[if_neg hk,zl,zl];omega
theorem G1.some_of {v:V}{o:Option Value}(r:G1 (some v) o):∃u,o=some u/\RelV v u:=by
 cases o with
 |none=>exact (show False from r).elim
 |some u=>exact⟨u,rfl,r⟩
theorem G1.none_of {o:Option Value}(r:G1 none o):o=none:=by
 cases o with
 |none=>rfl
 |some u=>exact (show False from r).elim
theorem VR {v:V}{u:Value}(r:RelV v u):PySem.W.handedIn u=true:=by
 cases v with
 |AA=>cases (show u=Value.none from r);rfl
 |bl b=>cases (show u=Value.bool b from r);rfl
 |int i=>obtain⟨t,e⟩:=(show ∃t,u=Value.int i t from r);cases e;rfl
 |str x=>obtain⟨t,e⟩:=(show ∃t,u=Value.str x t from r);cases e;rfl
 |jF b=>obtain⟨t,e⟩:=(show ∃t,u=Value.bytes b t from r);cases e;rfl
 |nY b=>obtain⟨t,e⟩:=(show ∃t,u=Value.float b t from r);cases e;rfl
 |ref a=>cases (show u=y9 a from r);rfl
 |ty n=>cases (show u=Value.type n from r);rfl
section
variable {P:Program}{w:World}{H H':Hp}{h h':Heap}{a C dx:Addr}{fs bN:List (Str×V)}
theorem PH (As:FR P w H h)(e:H a=some (.ins C dx fs)):∃mA,Th h a dx C mA/\(∀f,G1 (fs.lookup f) (mA f))/\PySem.Within mA (fs.map (·.1))/\fs.length<=1000/\H dx=some (.own a):=by
 obtain⟨d,z,ne,ob,mA,n,r,q⟩:=(show BU P w H h a (.ins C dx fs) from As a _ e);exact⟨mA,⟨ob,n,ne⟩,r,q,z,d⟩
end
structure VS (K:za)(C:Addr):Prop where
 pg:PySem.W.plainGet K C Str.empty=true
 hd:PySem.W.hasDictIn K C=true
 po:PySem.W.plainOver K C=true
 sa:zS K (.ref C) "__setattr__" = some (some (.builtin "object.__setattr__"))
theorem VS.get {K:za}{C:Addr}(c:VS K C)(f:Str):PySem.W.plainGet K C f=true:=c.pg
def HS (K:za)(C:Addr)(f:Str):Prop:=zS K (.ref C) f=some none
theorem HS.oY {K:za}{C:Addr}{f:Str}(n:HS K C f):PySem.W.takerIn K C f=some none:=by
 unfold PySem.W.takerIn;rw[show zS K (.ref C) f=some none from n];rfl
structure Meth (K:za)(C:Addr)(m:Str)(f:Addr):Prop where
 at_:zS K (.ref C) m=some (some (.ref f))
 fn:PySem.W.isFn K (.ref f)=true
 kp:yB K (.ref f)=true
section
variable {X:Cx}{pins:List (Addr×Obj)}{σ:St}{H:Hp}{s:Shared}{a C dx:Addr}{fs:List (Str×V)}{f:Str}{v:V}{A:Around}{E:Value->Shared->Prop}
theorem Ti {b:Bool}{Q:Value->Shared->Prop}(I:Inv X pins σ H s)(e:H a=some (.ins C dx fs))(c:VS X.K C)(n:HS X.K C f)(l:fs.lookup f=some v)
 (h:∀u s',Inv X pins σ H s'->RelV v u->Q u s'):wpAny (model X.prog X.w) A (getAttr (.ref a) f b) Q E s:=by
 obtain⟨mA,O,r,_,_,_⟩:=PH I.As e;obtain⟨u,hu,ru⟩:=G1.some_of (v:=v) (o:=mA f) (by rw[<-l];exact r f);exact get_map I.NT O (c.get f) c.hd n hu (VR ru) (h u _ (I.tok _) ru)
theorem Ma {m:Str}{g:Addr}{pl:Sem Bool}{Q:Value×List Value->Shared->Prop}(I:Inv X pins σ H s)(e:H a=some (.ins C dx fs))(c:VS X.K C)(k:Meth X.K C m g)(l:fs.lookup m=none)
 (h:Q (.ref g,[.ref a]) s):wpAny (model X.prog X.w) A (getMethod (.ref a) m pl) Q E s:=by
 obtain⟨mA,O,r,_,_,_⟩:=PH I.As e;have hn:mA m=none:=G1.none_of (by rw[<-l];exact r m);exact Xz I.NT O (c.get m) k.at_ k.fn hn h
theorem Tj {y:V}{u:Value}{Q:Unit->Shared->Prop}(I:Inv X pins σ H s)(e:H a=some (.ins C dx fs))(c:VS X.K C)(n:HS X.K C f)(hl:fs.length<1000)(ry:RelV y u)
 (h:∀s',Inv X pins σ (upd H a (.ins C dx (DV f y fs))) s'->Q () s'):wpAny (model X.prog X.w) A (setAttr (.ref a) f u) Q E s:=by
 obtain⟨mA,O,r,wi,_,ho⟩:=PH I.As e;have hz:(fs.map (·.1)).length<=sizeLine:=by rw[zc,sizeLine_eq];omega
 refine cL I.NT O c.sa c.po n.oY c.hd wi hz λ h' O' sb=>h _ ?_;have hd:∃o,h'.get? dx=some o:=let ⟨o,_,_,e',_⟩:=O'.ns;⟨o,e'⟩;refine I.write (x:=a) (e:=dx) (by rw[e];exact zai) (.inr ho) (λ b q hb z=>(sb.2 b hb).trans z) hd ?_;refine⟨by rw[Ah O.ne];exact ho,?_,O.ne,O'.obj,_,O'.ns,λ g=>?_,λ g hg=>?_⟩
 ·have:=KC f y fs;omega
 ·show G1 ((DV f y fs).lookup g) (if g=f then some u else mA g);rw[KA];by_cases q:g=f
  ·rw[if_pos q,if_pos q];exact ry
  ·rw[if_neg q,if_neg q];exact r g
 ·by_cases q:g=f
  ·rw[q];exact (K3 f y fs).1
  ·refine (K3 f y fs).2 g (wi g λ z=>hg ?_);show (if g=f then some u else mA g)=none;rw[if_neg q];exact z
theorem Inv.made (I:Inv X pins σ H s):Inv X pins σ (upd (upd H s.heap.objs.size (.own (s.heap.objs.size+1))) (s.heap.objs.size+1) (.ins C s.heap.objs.size []))
 {s with heap:=(s.heap.push yS).push (za8 C s.heap.objs.size)}:=by
 have e1:(s.heap.push yS).get? s.heap.objs.size=some yS:=zE s.heap rfl;have e2:((s.heap.push yS).push (za8 C s.heap.objs.size)).get? (s.heap.objs.size+1)=some (za8 C s.heap.objs.size):=by
  have:=zE (s.heap.push yS) (o:=za8 C s.heap.objs.size) rfl;rwa[zax] at this
 have e3:(s.heap.push yS).Ns s.heap.objs.size (λ _=>none):=⟨yS,#[],_,e1,rfl,(λ e he=>absurd he (by simp)),λ _=>rfl⟩;have I1:=I.laid (a:=s.heap.objs.size) (o:=.own (s.heap.objs.size+1)) (h':=s.heap.push yS) (t':=s.toks) (λ b u q=>zq _ q) (zx _) ⟨_,e1⟩;refine I1.laid (a:=s.heap.objs.size+1) (o:=.ins C s.heap.objs.size []) (t':=s.toks) (λ b u q=>zq _ q) (Nat.le_of_eq (zax _ _)) ?_;have ne:s.heap.objs.size≠s.heap.objs.size+1:=zB (Nat.lt_succ_self _);refine⟨by rw[Ah ne,Ao],zJ _,ne,e2,λ _=>none,(Heap.Ns1.of_empty e3).at λ o q=>zq _ q,λ _=>zai,λ y hy=>absurd rfl hy⟩
theorem cM {prog:Program}{w:World}{env:Env}{e:Expr}{f:Str}{pos:Pos}{s:Shared}{Q:Value->Shared->Prop}(hb:attributeBase e f env (eval e env)=eval e env)
 (h:wpAny (model prog w) A (eval e env) (λ o s₁=>wpAny (model prog w) A (getAttr o f true) Q E s₁) E s):wpAny (model prog w) A (eval (.Attribute e f pos) env) Q E s:=
 Attribute_any_ h (by rw[arm_eval_Attribute,hb])
end
noncomputable def sZ (K:za)(ta:TE)(f:Str):TE:=λ σ H Q=>ta σ H λ x H1=>∃a C dx fs v,x=.ref a/\H1 a=some (.ins C dx fs)/\VS K C/\HS K C f/\fs.lookup f=some v/\Q v H1
noncomputable def tD (K:za)(ta tv:TE)(f:Str):TS:=λ D σ H=>tv σ H λ y H1=>ta σ H1 λ x H2=>∃a C dx fs,x=.ref a/\H2 a=some (.ins C dx fs)/\VS K C/\HS K C f/\fs.length<1000/\
 D.nx σ (upd H2 a (.ins C dx (DV f y fs)))
section
variable {X:Cx}{o e value:Expr}{f:Str}{pos pos' aF:Pos}{ta tv:TE}
theorem kG (he:PE X e ta)(hb:attributeBase e f X.env (eval e X.env)=eval e X.env):PE X (.Attribute e f pos) (sZ X.K ta f):=by
 intro pins s σ H Q I h;refine cM hb (Bg (he pins s σ H _ I h) λ u s1 ⟨x,H1,I1,rx,a,C,dx,fs,v,ex,ea,c,n,l,q⟩=>?_);subst ex;obtain rfl:u=y9 a:=rx;exact Ti I1 ea c n l λ u' s2 I2 ru=>⟨v,H1,I2,ru,q⟩
theorem kH (ha:PE X o ta)(hv:PE X value tv)(hs:swapsWith value (some (.Attribute o f pos')) pos.line X.env=pure false):PS X (.Assign [.Attribute o f pos'] value pos) (tD X.K ta tv f):=by
 intro pins s σ H D I h;refine plainObj_wpAny_Assign_Attribute (Bg (hv pins s σ H _ I h) λ u s1 ⟨y,H1,I1,ry,q⟩=>Bg (ha pins s1 σ H1 _ I1 q) λ ov s2 ⟨x,H2,I2,rx,a,C,dx,fs,ex,ea,c,n,l,q2⟩=>?_) hs;subst ex;obtain rfl:ov=y9 a:=rx;exact Tj I2 ea c n l ry λ s3 I3=>⟨σ,_,I3,q2⟩
end
structure BJ (k:Nat)(A:Around):Prop where
 hd:A.handled=none
 dp:A.depth+3*k+5<recursionLimit
 un:A.units+16*k+200<cLine
theorem BJ.mono {j k:Nat}{A:Around}(r:BJ k A)(h:j<=k):BJ j A:=⟨r.hd,by have:=r.dp;omega,by have:=r.un;omega⟩
theorem BJ.deeper {k:Nat}{A:Around}(r:BJ (k+1) A)(env:Env):BJ k (A.deeper env):=
 ⟨r.hd,by have:=r.dp;show A.depth+1+3*k+5<_;omega,by have:=r.un;show A.units+3+16*k+200<_;omega⟩
theorem Tn {A:Around}{C:Addr}{us:List Value}{kw:List (Str×Value)}:(A.under (.builtin "type.__call__" ⟨.ref C::us,kw⟩)).depth=A.depth+1:=by
 first|rfl|simp[Around.under,Code.weight,Code.isCreation,Code.isGuard,Code.isCaller,Code.frames,Code.isFrame,guardIds]
theorem To {A:Around}{C:Addr}{us:List Value}{kw:List (Str×Value)}:(A.under (.builtin "type.__call__" ⟨.ref C::us,kw⟩)).units=A.units+1:=by
 first|rfl|simp[Around.under,Code.cUnits,Code.frames,Code.isFrame]
theorem BJ.make {k:Nat}{A:Around}(r:BJ (k+1) A)(C:Addr)(us:List Value)(kw:List (Str×Value)):BJ k (A.under (.builtin "type.__call__" ⟨.ref C::us,kw⟩)):=
 ⟨r.hd,by have:=r.dp;rw[Tn];omega,by have:=r.un;rw[To];omega⟩
theorem BJ.depth {k:Nat}{A:Around}(r:BJ k A):A.depth<recursionLimit:=by have:=r.dp;omega
theorem BJ.units {k:Nat}{A:Around}(r:BJ k A):A.units+64<cLine:=by have:=r.un;omega
noncomputable def kI:TA:=λ _ H Q=>Q [] H
noncomputable def iC (ta:TE)(tr:TA):TA:=λ σ H Q=>ta σ H λ x H1=>tr σ H1 λ xs H2=>Q (x::xs) H2
section
variable {X:Cx}{e:Expr}{es:List Expr}{te:TE}{t:TA}{pos:Pos}
theorem C5:PA X [] kI:=λ _ _ _ _ H Q I h=>zas ⟨[],H,I,.nil,h⟩
theorem Ba (ha:PE X e te)(hr:PA X es t)(hs:starEach (e::es) X.env=(false,eval e X.env)::starEach es X.env:=by rfl):PA X (e::es) (iC te t):=by
 intro pos pins s σ H Q I h;rw[hs];show wpAny _ _ (spliced ((false,eval e X.env)::backTo pos (starEach es X.env))) _ _ s;refine zal (Bg (ha pins s σ H _ I h) λ u s1 ⟨x,H1,I1,r1,q1⟩=>?_);exact Bg (hr pos pins s1 σ H1 _ I1 q1) λ us s2 ⟨xs,H2,I2,r2,q2⟩=>⟨x::xs,H2,I2,.cons r1 r2,q2⟩
noncomputable def tE (t:TA):TE:=λ σ H Q=>t σ H λ xs H1=>xs.length<=sizeLine/\∀p,H1 p=none->Q (.ref p) (upd H1 p (.tup xs))
noncomputable def tF (t:TA):TE:=λ σ H Q=>t σ H λ xs H1=>xs.length<=sizeLine/\∀p,H1 p=none->Q (.ref p) (upd H1 p (.lst xs))
theorem XB {x1}(h:PA X es t):PE X (.Tuple es x1 pos) (tE t):=by
 intro pins s σ H Q I hq;refine wpAny_Tuple_spliced (Bg (h pos pins s σ H _ I hq) λ us s1 ⟨xs,H1,I1,r,z,q⟩=>⟨by rw[<-r.length];exact z,?_⟩);have hf:H1 s1.heap.objs.size=none:=I1.As.fresh (zx _);refine⟨.ref s1.heap.objs.size,upd H1 s1.heap.objs.size (.tup xs),I1.laid (t':=s1.toks) (λ b u e=>zq _ e) (zx _) ?_,rfl,q _ hf⟩;exact⟨z,us,r,⟨_,zE _ rfl,rfl,_,rfl⟩⟩
theorem PJ (h:PA X es t):PE X (.List es pos) (tF t):=by
 intro pins s σ H Q I hq;refine wpAny_List_spliced (Bg (h pos pins s σ H _ I hq) λ us s1 ⟨xs,H1,I1,r,z,q⟩=>⟨by rw[<-r.length];exact z,?_⟩);have hf:H1 s1.heap.objs.size=none:=I1.As.fresh (zx _);refine⟨.ref s1.heap.objs.size,upd H1 s1.heap.objs.size (.lst xs),I1.laid (t':=s1.toks) (λ b u e=>zq _ e) (zx _) ?_,rfl,q _ hf⟩;exact⟨z,us,0,r,zE _ rfl⟩
end
noncomputable abbrev Sp:=List V->Hp->VK->XK->Prop
noncomputable abbrev UE:=List Env->Hp->Shared->XK->Value->Shared->Prop
structure Tp (P:Program)(w:World)(K:za)(mg:Str->Option Value)(base:Heap)(A:Around)(outer:List Env)(s:Shared)(H:Hp):Prop where
 frames:A.frames=some outer
 mod:Mod K mg base
 bs:∀b o,base.get? b=some o->s.heap.get? b=some o/\H b=none
 ZZ:base.objs.size<=s.heap.objs.size
 JZ:s.heap.FunFrames base outer
 jI:∀b∈Xa outer,H b=none
 As:FR P w H s.heap
 bare:AllBare s.gens
def CE (outer:List Env)(P:Program)(w:World)(H:Hp)(s:Shared)(Q:VK)(u:Value)(s':Shared):Prop:=
 ∃v H',s'.os=s.os/\AllBare s'.gens/\Un (Xa outer) [] H H' s.heap s'.heap/\FR P w H' s'.heap/\RelV v u/\Q v H'
def CR (CX:UE)(outer:List Env)(P:Program)(w:World)(H:Hp)(s:Shared)(Q:VK)(E:XK)(r:Result)(s':Shared):Prop:=
 match r with
 | .ok (.ret u)=>CE outer P w H s Q u s'
 | .ok _=>False
 | .error e=>CX outer H s E e s'
structure Ds (P:Program)(w:World)(K:za)(mg:Str->Option Value)(base:Heap)(CX:UE)(k:Nat)(f:Addr)(fd:FuncData)(ps:List Str)(sp:Sp):Prop where
 len:∀vs H Q E,sp vs H Q E->vs.length=ps.length
 run:∀(A:Around) (outer:List Env) (s:Shared) (H:Hp) (args:Args) (us:List Value) (vs:List V) (Q:VK) (E:XK),BJ k A->Tp P w K mg base A outer s H->BindsTo s fd args (ps.zip us)->Vals vs us->sp vs H Q E->
  codeAny (model P w) A (.call (.ref f) args) (CR CX outer P w H s Q E) s
theorem Tp.make {P:Program}{w:World}{K:za}{mg:Str->Option Value}{base:Heap}{A:Around}{outer:List Env}{s:Shared}{H:Hp}(e:Tp P w K mg base A outer s H)(C:Addr)(us:List Value)(kw:List (Str×Value)):
 Tp P w K mg base (A.under (.builtin "type.__call__" ⟨.ref C::us,kw⟩)) outer s H:=⟨by first|exact e.frames|(simpa [Around.under,Code.envs,Code.isFrame,pushEnvs] using e.frames),e.mod,e.bs,e.ZZ,e.JZ,e.jI,e.As,e.bare⟩
section
variable {X:Cx}{pins:List (Addr×Obj)}{σ:St}{H:Hp}{s s':Shared}
theorem Inv.oZ (I:Inv X pins σ H s):Tp X.prog X.w X.K X.mg X.base X.A X.stack s H:=
 ⟨I.ok.frames,I.ok.mod,I.bs,yG I.ok.ZZ I.sz,I.stack,I.Uz,I.As,I.bare⟩
theorem Inv.after {Q:VK}{u:Value}(I:Inv X pins σ H s)(h:CE X.stack X.prog X.w H s Q u s'):EP X pins σ Q u s':=by
 obtain⟨v,H',os,bare,un,As,r,q⟩:=h;obtain⟨hh,g,d,t,u8⟩:=s';obtain rfl:u8=s.os:=os;exact⟨v,H',I.call (h':=hh) (g':=g) (d':=d) (t':=t) (ch:=[]) un As bare (λ b z=>absurd z (by simp)),r,q⟩
end
noncomputable def pA (sp:Sp)(bo:List V)(E:XK)(t:TA):TE:=λ σ H Q=>t σ H λ vs H1=>sp (vs++bo) H1 Q E
noncomputable def pB (C:Addr)(sp:Sp)(bo:List V)(E:XK)(t:TA):TE:=λ σ H Q=>t σ H λ vs H1=>∀x dx,H1 x=none->H1 dx=none->dx≠x->
 sp (.ref x::(vs++bo)) (upd (upd H1 dx (.own x)) x (.ins C dx [])) (λ v H2=>v=.AA/\Q (.ref x) H2) E
def Binds (K:za)(fd:FuncData)(ps:List Str)(ds:List Value):Prop:=
 ∀(s:Shared) (us:List Value),K.In s.heap->(us++ds).length=ps.length->BindsTo s fd ⟨us,[]⟩ (ps.zip (us++ds))
theorem Binds.all {K:za}{fd:FuncData}{ps:List Str}(h:∀us:List Value,us.length=ps.length->bindArgs fd ⟨us,[]⟩=pure (ps.zip us)):Binds K fd ps []:=λ s us _ hl=>by
 rw[zR] at hl ⊢;exact .of_eq (h us hl)
def HU (CX:UE)(X:Cx)(E:XK):Prop:=∀(pins:List (Addr×Obj)) (σ:St) (H:Hp) (s:Shared) (e:Value) (s':Shared),Inv X pins σ H s->CX X.stack H s E e s'->X.xe e s'
section
variable {X:Cx}{CX:UE}{k:Nat}{f C:Addr}{fd:FuncData}{ps:List Str}{sp:Sp}{bo:List V}{ds:List Value}{E:XK}{x m:Str}{p pos apos:Pos}{e o:Expr}{es:List Expr}{ta:TE}{t:TA}
theorem Tq {pins:List (Addr×Obj)}{σ:St}{H:Hp}{s:Shared}{Q:VK}{us:List Value}{vs:List V}(F:Ds X.prog X.w X.K X.mg X.base CX k f fd ps sp)(hr:BJ k X.A)(hb:Binds X.K fd ps ds)(hd:Vals bo ds)(hx:HU CX X E)
 (I:Inv X pins σ H s) (r:Vals vs us) (h:sp (vs++bo) H Q E):wpAny (model X.prog X.w) X.A (call (.ref f) us) (EP X pins σ Q) X.xe s:=by
 have r2:Vals (vs++bo) (us++ds):=r.append hd;have hl:(us++ds).length=ps.length:=by rw[<-r2.length];exact F.len _ _ _ _ h
 refine wpAny_call (codeAny_mono (F.run X.A X.stack s H ⟨us,[]⟩ (us++ds) (vs++bo) Q E hr I.oZ (hb s us I.NT hl) r2 h) λ r s' hq=>?_);cases r with
 |error e=>exact hx pins σ H s e s' I hq
 |ok fl =>
  cases fl with
  |ret u=>exact I.after hq
  |next|brk|cont=>exact zaa hq
theorem UG (F:Ds X.prog X.w X.K X.mg X.base CX k f fd ps sp)(hr:BJ k X.A)(hg:Gl X x)(hm:X.mg x=some (.ref f))(hk:yB X.K (.ref f)=true)(hb:Binds X.K fd ps ds)(hd:Vals bo ds)(hx:HU CX X E)
 (ha:PA X (e::es) t) (aV:(x==("__debug__" : Str))=false:=by decide) (he:starEach (e::es) X.env=(false,eval e X.env)::starEach es X.env:=by rfl) (au:(backTo pos (starEach es X.env)).any (·.1)=false:=by rfl):
 PE X (.Call (.Name x p) (e::es) [] pos) (pA sp bo E t):=by
 intro pins s σ H Q I h;refine wpAny_Call_Name_kw (UB I hg hm ?_ aV);refine PySem.W.callWith_K (h₀:=X.base) I.ok.mod.ZR hk (Bg (ha pos pins s σ H _ I h) λ us s1 ⟨vs,H1,I1,r,q⟩=>⟨I1.NT,?_⟩) he au;exact Tq F hr hb hd hx I1 r q
structure Mk (K:za)(C f:Addr):Prop where
 makes:PySem.W.makesIn K C=true
 init:zS K (.ref C) "__init__" = some (some (.ref f))
 fn:PySem.W.isFn K (.ref f)=true
 kp:yB K (.ref C)=true
theorem XC {pins:List (Addr×Obj)}{σ:St}{H:Hp}{s:Shared}{Q:VK}{us:List Value}{vs:List V}(M:Mk X.K C f)(F:Ds X.prog X.w X.K X.mg X.base CX k f fd ps sp)(hr:BJ (k+1) X.A)(hb:Binds X.K fd ps ds)(hd:Vals bo ds)
 (hx:HU CX X E) (I:Inv X pins σ H s) (r:Vals vs us)
 (h:∀x dx,H x=none->H dx=none->dx≠x->sp (.ref x::(vs++bo)) (upd (upd H dx (.own x)) x (.ins C dx [])) (λ v H2=>v=.AA/\Q (.ref x) H2) E):
 wpAny (model X.prog X.w) X.A (call (.ref C) us) (EP X pins σ Q) X.xe s:=by
 have hq:=h (s.heap.objs.size+1) s.heap.objs.size (I.As.fresh (Nat.le_succ _)) (I.As.fresh (zx _)) (zB (Nat.lt_succ_self _));have I2:=Inv.made (C:=C) I;have r2:Vals (V.ref (s.heap.objs.size+1)::(vs++bo)) (y9 (s.heap.objs.size+1)::(us++ds)):=.cons rfl (r.append hd);have hl:(y9 (s.heap.objs.size+1)::us++ds).length=ps.length:=by
  have e:=r2.length;rw[F.len _ _ _ _ hq] at e;exact e.symm
 refine wpAny_call (XA (f:=f) I.NT M.makes M.init (beq_iff_eq.mp M.fn) (codeAny_mono (F.run _ X.stack _ _ ⟨y9 (s.heap.objs.size+1)::us,[]⟩ (y9 (s.heap.objs.size+1)::(us++ds)) _ _ E (hr.make C us [])
  (I2.oZ.make C us []) (hb _ (y9 (s.heap.objs.size+1)::us) I2.NT hl) r2 hq) λ r s' b6=>?_))
 cases r with
 |error e=>exact hx pins σ _ _ e s' I2 b6
 |ok fl =>
  cases fl with
  |ret u =>
   obtain⟨v,H',I3,rv,ev,q3⟩:=I2.after b6;subst ev;exact⟨rv,⟨V.ref (s.heap.objs.size+1),H',I3,rfl,q3⟩⟩
  |next|brk|cont=>exact zaa b6
theorem UH (M:Mk X.K C f)(F:Ds X.prog X.w X.K X.mg X.base CX k f fd ps sp)(hr:BJ (k+1) X.A)(hg:Gl X x)(hm:X.mg x=some (.ref C))(hb:Binds X.K fd ps ds)(hd:Vals bo ds)(hx:HU CX X E)
 (ha:PA X (e::es) t) (aV:(x==("__debug__" : Str))=false:=by decide) (he:starEach (e::es) X.env=(false,eval e X.env)::starEach es X.env:=by rfl) (au:(backTo pos (starEach es X.env)).any (·.1)=false:=by rfl):
 PE X (.Call (.Name x p) (e::es) [] pos) (pB C sp bo E t):=by
 intro pins s σ H Q I h;refine wpAny_Call_Name_kw (UB I hg hm ?_ aV);refine PySem.W.callWith_K (h₀:=X.base) I.ok.mod.ZR M.kp (Bg (ha pos pins s σ H _ I h) λ us s1 ⟨vs,H1,I1,r,q⟩=>⟨I1.NT,?_⟩) he au;exact XC M F hr hb hd hx I1 r q
end
def PK (X:Cx)(ie:List Keyword)(t:TA):Prop:=
 ∀(pos:Pos) (pins:List (Addr×Obj)) (s:Shared) (σ:St) (H:Hp) (Q:List V->Hp->Prop),Inv X pins σ H s->t σ H Q->wpAny (model X.prog X.w) X.A (evalAll ((backToKw pos (keywordEach ie X.env)).map (·.2))) (AP X pins σ Q) X.xe s
section
variable {X:Cx}{CX:UE}{k:Nat}{f C:Addr}{fd:FuncData}{ps ks:List Str}{sp:Sp}{E:XK}{x m:Str}{p pos apos ml:Pos}{e o:Expr}{es:List Expr}{ie:List Keyword}{te ta:TE}{t tk:TA}{nm:Option Str}
theorem kJ:PK X [] kI:=λ _ _ _ _ H Q I h=>wpAny_evalAll_nil ⟨[],H,I,.nil,h⟩
theorem cN (ha:PE X e te)(hr:PK X ie t):PK X (⟨nm,e,ml⟩::ie) (iC te t):=by
 intro pos pins s σ H Q I h;show wpAny _ _ (evalAll ((do let v <-eval e X.env;standAt pos;pure v)::(backToKw pos (keywordEach ie X.env)).map (·.2))) _ _ s;refine wpAny_evalAll_cons (wpAny_bind (Bg (ha pins s σ H _ I h) λ u s1 ⟨x,H1,I1,r1,q1⟩=>wpAny_bind (wpAny_standAt (wpAny_pure ?_))));exact Bg (hr pos pins s1 σ H1 _ I1 q1) λ us s2 ⟨xs,H2,I2,r2,q2⟩=>⟨x::xs,H2,I2,.cons r1 r2,q2⟩
variable {g:List Value->List Value->List Value}{gV:List V->List V->List V}
end
structure Ag (N P:List Str)(sc:Scope):Prop where
 kind:sc.kind=.function
 co:sc.isCoroutine=false
 gen:sc.isGenerator=false
 nd:N.Nodup
 pre:N.take P.length=P
 uL:∀x∈P,sc.names.lookup x=some .local\/sc.names.lookup x=some .cell
 kK:∀y∈sc.names,y.2≠.free
theorem Ox {kindOf:Str->Option NameKind}{x:Str}:∀ {binds:List (Str×Value)}{m:Str->Option Value},(∀v,(x,v)∉binds)->bindL kindOf binds m x=m x
 |[],_,_=>rfl
 |(n,v)::r,m,h=>by
  unfold bindL;rw[Ox λ w hw=>h w (ze _ hw)];split
  ·have:x≠n:=by rintro rfl;exact h v zd
   simp[this]
  ·rfl
theorem Oy {kindOf:Str->Option NameKind}{x:Str}:∀ {binds:List (Str×Value)}{m:Str->Option Value},(∀v,(x,v)∉binds)->bindC kindOf binds m x=m x
 |[],_,_=>rfl
 |(n,v)::r,m,h=>by
  unfold bindC;rw[Oy λ w hw=>h w (ze _ hw)];split
  ·rfl
  ·have:x≠n:=by rintro rfl;exact h v zd
   simp[this]
theorem Oz {kindOf:Str->Option NameKind}{x:Str}{v:Value}:∀ {P:List Str}{vs:List Value}{i:Nat}{m:Str->Option Value},P.Nodup->P[i]?=some x->vs[i]?=some v->kindOf x=some .local->
 bindL kindOf (P.zip vs) m x=some v
 |[],_,_,_,_,h,_,_|_::_,[],_,_,_,_,h,_=>by simp at h
 |p::P,w::vs,0,m,nd,h1,h2,hk=>by
  simp at h1 h2;subst h1;subst h2;show bindL kindOf ((p,w)::P.zip vs) m p=_;unfold bindL;rw[Ox λ v hv=>(zV.mp nd).1 (List.of_mem_zip hv).1,if_pos hk];simp
 |p::P,w::vs,i+1,m,nd,h1,h2,hk=>by
  show bindL kindOf ((p,w)::P.zip vs) m x=_;unfold bindL;exact Oz (i:=i) (zV.mp nd).2 (by simpa using h1) (by simpa using h2) hk
theorem OA {kindOf:Str->Option NameKind}{x:Str}{v:Value}:∀ {P:List Str}{vs:List Value}{i:Nat}{m:Str->Option Value},P.Nodup->P[i]?=some x->vs[i]?=some v->kindOf x≠some .local->
 bindC kindOf (P.zip vs) m x=some v
 |[],_,_,_,_,h,_,_|_::_,[],_,_,_,_,h,_=>by simp at h
 |p::P,w::vs,0,m,nd,h1,h2,hk=>by
  simp at h1 h2;subst h1;subst h2;show bindC kindOf ((p,w)::P.zip vs) m p=_;unfold bindC;rw[Oy λ v hv=>(zV.mp nd).1 (List.of_mem_zip hv).1,if_neg hk];simp
 |p::P,w::vs,i+1,m,nd,h1,h2,hk=>by
  show bindC kindOf ((p,w)::P.zip vs) m x=_;unfold bindC;exact OA (i:=i) (zV.mp nd).2 (by simpa using h1) (by simpa using h2) hk
noncomputable def start (N:List Str)(vs:List V):St:=vs.map some++zu (N.length-vs.length) none
noncomputable def Rh (CX:UE)(P:Program)(w:World)(K:za)(mg:Str->Option Value)(base:Heap)(N:List Str)(qual:Str)(scope:Scope)(f:Addr)(cd:Value)(A:Around)(outer:List Env)(s:Shared)(H:Hp)(E:XK):Cx where
 prog:=P
 w:=w
 K:=K
 mg:=mg
 base:=base
 A:=A.deeper (envOfC qual scope s.heap.objs.size f cd)
 N:=N
 s₀:=s
 H₀:=H
 env:=envOfC qual scope s.heap.objs.size f cd
 outer:=outer
 stack:=envOfC qual scope s.heap.objs.size f cd::outer
 ex:=[]
 calm:=true
 fn:=λ _=>true
 pn:=[]
 xe:=λ e s'=>wpAny (model P w) (A.deeper (envOfC qual scope s.heap.objs.size f cd)) (leaving (envOfC qual scope s.heap.objs.size f cd) e) (λ _ ig=>CX outer H s E e ig) (λ e' ig=>CX outer H s E e' ig) s'
theorem Ri {sc:Scope}{n:Nat}{x:Str}(h:sc.names.lookup x=some .cell):∃c,(cellsFrom n sc.names []).lookup x=some c:=by
 have q:=PySem.W.cellsFrom_some sc.names n [] (.inl h);exact zaz.mp q
theorem VT {CX:UE}{P:Program}{w:World}{K:za}{mg:Str->Option Value}{base:Heap}{N ps:List Str}{qual:Str}{scope:Scope}{f:Addr}{cd:Value}{A:Around}{outer:List Env}{s s1:Shared}{H:Hp}{E:XK}{us:List Value}{vs:List V}
 (S:Ag N ps scope) (hd:A.handled=none) (e0:Tp P w K mg base A outer s H) (hl:vs.length=ps.length) (r:Vals vs us)
 (x:InCallC s s.heap.objs.size (bindL (envOfC qual scope s.heap.objs.size f cd).kindOf (ps.zip us) λ _=>none) (cellsFrom (s.heap.objs.size+1) scope.names []) (bindC (envOfC qual scope s.heap.objs.size f cd).kindOf (ps.zip us) λ _=>none) s1):
 Inv (Rh CX P w K mg base N qual scope f cd A outer s H E) [] (start N vs) H s1:=by
 have au:ps.length<=N.length:=by have:=congrArg List.length S.pre;rw[yA] at this;omega
 obtain⟨h1,tk,rfl,hk⟩:=x.done;have ii:∀b:Addr,b∉(Rh CX P w K mg base N qual scope f cd A outer s H E).ex:=λ b z=>absurd (show b∈([]:List Addr) from z) (by simp);refine⟨⟨e0.mod,S.kind,rfl,rfl,zx _,λ y z c h1 h2=>?_,λ y hy=>?_,λ y c _ h=>?_,λ _=>hd,Around.frames_deeper e0.frames,.inr ⟨rfl,rfl⟩,λ b z=>absurd z (ii b),e0.bs,e0.ZZ,λ b _ _=>ii b,λ b z=>absurd z (ii b),e0.JZ,e0.jI⟩,
  rfl,e0.bare,Un.kept hk,⟨_,x.toInCall.ns,λ i y v h1 h2 h3=>?_⟩,λ y c h=>⟨_,x.cell y c h⟩,e0.As.fresh (zx _),λ y c h=>?_,λ p hp=>absurd (show p∈([]:List (Addr×Obj)) from hp) (by simp),e0.As.kept hk,?_⟩
 ·exact name_of_addr x.apart (zay h1) (zay h2)
 ·have hy:scope.names.lookup y=some .cell\/scope.names.lookup y=some .free:=hy;rcases hy with hy|hy
  ·exact Ri hy
  ·exact absurd rfl (S.kK _ (zay hy))
 ·exact yH (x.above y c (zay h))
 ·have hi:i<vs.length:=by
   unfold start at h2;by_cases hi:i<vs.length
   ·exact hi
   ·rw[za4 (by simpa using hi)] at h2;rw[za1] at h2;split at h2<;>cases h2
  have ha:vs[i]?=some v:=by
   unfold start at h2;rw[yN (by simpa using hi),z7] at h2;cases e:vs[i]? with
   |none=>rw[e] at h2;cases h2
   |some a=>rw[e] at h2;cases h2;rfl
  obtain⟨u,hu,rv⟩:=r.get ha;have hp:ps[i]?=some y:=by
   rw[<-S.pre,List.getElem?_take_of_lt (by omega)];exact h1
  have rq:ps.Nodup:=by rw[<-S.pre];exact S.nd.sublist (List.take_sublist _ _)
  refine⟨u,rv,?_⟩;rcases S.uL y (zk hp) with k|k
  ·exact .inl ⟨k,Oz rq hp hu k⟩
  ·obtain⟨c,e⟩:=Ri (n:=s.heap.objs.size+1) k;refine .inr ⟨.inl k,c,e,?_⟩;have q:=x.cell y c e;rw[OA rq hp hu (by show scope.names.lookup y≠_;rw[k];decide)] at q;exact q
 ·exact e0.As.fresh (yH (x.above y c (zay h)))
 ·unfold start;show _=N.length;rw[zC,zc,zao];omega
theorem UI {CX:UE}{P:Program}{w:World}{K:za}{mg:Str->Option Value}{base:Heap}{k:Nat}{f:Addr}{name qual:Str}{params:Arguments}{body:List Stmt}{scope:Scope}{dV kV doc pm B5 ct oc:Value}{an od:Option Addr}
 {T7:Array (Option Value)} {N ps:List Str} {sp:Sp} (lk:K.lookup f=some ⟨oc,od,.func (zZ name qual params body scope dV kV doc pm an B5 ct),T7⟩) (be:yU K B5 qual=true) (S:Ag N ps scope)
 (len:∀vs H Q E,sp vs H Q E->vs.length=ps.length)
 (bP:∀(A:Around) (outer:List Env) (s:Shared) (H:Hp) (vs:List V) (Q:VK) (E:XK),BJ k (A.deeper (envOfC qual scope s.heap.objs.size f B5))->sp vs H Q E->
  ∃t,UA (Rh CX P w K mg base N qual scope f B5 A outer s H E) body t/\t {nx:=λ _ H'=>Q .AA H',rt:=Q} (start N vs) H):
 Ds P w K mg base CX (k+1) f (zZ name qual params body scope dV kV doc pm an B5 ct) ps sp:=by
 refine⟨len,λ A outer s H args us vs Q E hr e0 hb r bA=>?_⟩;have hl:=len _ _ _ _ bA;have KX:K.In s.heap:=e0.mod.ZR.keeps λ b o e=>(e0.bs b o e).1;have lim:s.heap.NoLimit:=e0.mod.nolimit.keeps λ b o e=>(e0.bs b o e).1;have ij:∀y∈ps.zip us,scope.names.lookup y.1=some .local\/(scope.names.lookup y.1=some .cell/\((cellsFrom (s.heap.objs.size+1) scope.names []).lookup y.1).isSome=true):=λ⟨n,v⟩ hy=>by
  rcases S.uL n (List.of_mem_zip hy).1 with q|q
  ·exact .inl q
  ·exact .inr ⟨q,PySem.W.cellsFrom_some _ _ _ (.inl q)⟩
 refine codeAny_call_function hr.depth (KX _ _ lk) rfl S.co S.gen rfl (PySem.W.codeRec_of KX be) (hb _ _ _ _ ?_);refine wpAny_newFunctionEnv_cells S.kind ij λ env he s1 x=>?_;subst he;refine⟨lim.keeps x.toInCall.keep,codeAny_func ?_⟩;obtain⟨t,ht,hq⟩:=bP A outer s H vs Q E (hr.deeper _) bA;have I:Inv (Rh CX P w K mg base N qual scope f B5 A outer s H E) [] (start N vs) H s1:=VT S hr.hd e0 hl r x;refine wpAny_mono (ht [] s1 (start N vs) H _ I hq) (λ fl s' hs=>?_) λ e s' hs=>hs;have fin:∀ {σ':St} {H':Hp} {v:V} {u:Value},Inv (Rh CX P w K mg base N qual scope f B5 A outer s H E) [] σ' H' s'->RelV v u->Q v H'->CE outer P w H s Q u s':=
  fun {σ' H' v u} J rv q=>⟨v,H',J.os,J.bare,J.base,J.As,rv,q⟩
 cases fl with
 |ret u =>
  obtain⟨v,σ',H',J,rv,q⟩:=hs;exact fin J rv q
 |next =>
  obtain⟨σ',H',J,q⟩:=hs;exact fin (v:=V.AA) (u:=Value.none) J rfl q
 |brk =>
  obtain⟨_,_,_,q⟩:=hs;exact zaa q
 |cont =>
  obtain⟨_,_,_,q⟩:=hs;exact zaa q
section
variable {X:Cx}{x:Str}{p pos:Pos}{e:Expr}{es:List Expr}{t:TA}{id T:String}{r:List V->Hp->VK->Prop}
noncomputable def tG (r:List V->Hp->VK->Prop)(t:TA):TE:=λ σ H Q=>t σ H λ vs H1=>r vs H1 Q
theorem Rj (hc:Ga X (.builtin id) r)(hg:Gl X x)(hm:X.mg x=none)(hv:bootBuiltins x=some (.builtin id))(ha:PA X (e::es) t)(hn:x ≠ "__name__" := by decide)(aV:(x==("__debug__" : Str))=false:=by decide)
 (he:starEach (e::es) X.env=(false,eval e X.env)::starEach es X.env:=by rfl) (au:(backTo pos (starEach es X.env)).any (·.1)=false:=by rfl):PE X (.Call (.Name x p) (e::es) [] pos) (tG r t):=by
 intro pins s σ H Q I h;refine wpAny_Call_Name_kw (Dr I hg hm hv ?_ hn aV);exact PyProof.Rows.callWith_builtin1 (Bg (ha pos pins s σ H _ I h) λ us s1 ⟨vs,H1,I1,r1,q1⟩=>hc pins s1 σ H1 vs us Q I1 r1 q1) he au
theorem OB (hc:Ga X (.type T) r)(hg:Gl X x)(hm:X.mg x=none)(hv:bootBuiltins x=some (.type T))(ha:PA X (e::es) t)(hn:x ≠ "__name__" := by decide)(aV:(x==("__debug__" : Str))=false:=by decide)
 (he:starEach (e::es) X.env=(false,eval e X.env)::starEach es X.env:=by rfl) (au:(backTo pos (starEach es X.env)).any (·.1)=false:=by rfl):PE X (.Call (.Name x p) (e::es) [] pos) (tG r t):=by
 intro pins s σ H Q I h;refine wpAny_Call_Name_kw (Dr I hg hm hv ?_ hn aV);exact zY (Bg (ha pos pins s σ H _ I h) λ us s1 ⟨vs,H1,I1,r1,q1⟩=>hc pins s1 σ H1 vs us Q I1 r1 q1) he au
end
end L2
namespace HT
open PySem PyProof.Rows
noncomputable def lexLt:List Int->List Int->Bool
 |[],[]=>false
 |[],_::_=>true
 |_::_,[]=>false
 |x::xs,y::ys=>if x=y then lexLt xs ys else decide (x<y)
theorem Fd (x y:Int)(xs ys:List Int):lexLt (x::xs) (y::ys)=if x=y then lexLt xs ys else decide (x<y):=rfl
theorem EE:lexLt [] []=false:=rfl
theorem Mb (y:Int)(ys:List Int):lexLt [] (y::ys)=true:=rfl
theorem Mc (x:Int)(xs:List Int):lexLt (x::xs) []=false:=rfl
theorem XD (A:Around)(s:Shared)(a:Int)(t:Tok)(c:Int)(u:Tok):∃e,SeqAt.EqAt A s (.int a t) (.int c u) e/\(e=true↔a=c):=
 ⟨(a==c),SeqAt.EqAt.int_int a t c u,by simp⟩
theorem XE (A:Around)(s:Shared)(a:Int)(t:Tok)(c:Int)(u:Tok)(prog:Program)(w:World)(E:Value->Shared->Prop)(Q:Value->Shared->Prop)(h:Q (.bool (decide (a<c))) s):
 wpAny (model prog w) A (richCompare .Lt (.int a t) (.int c u)) Q E s:=
 (PyProof.Rows.lt_int h:wpAny (model prog w) A (compareOp .Lt (.int a t) (.int c u)) Q E s)
section
open PySem.SeqAt
open PySem.AutoSeq1 (wpAny_loadPart')
open PySem.MeetsSeq PySem.MeetsSeq2 PySem.MeetsSeq3
theorem NZ (l b:Addr)(items av:Array Value)(n n2:Nat)(dd mn:Option Addr)(sl ik:Array (Option Value))(ns ms:List Int)(hi:IntsAre items.toList ns)(hj:IntsAre av.toList ms):
 Meets (Builtin.«tuple.__lt__» ⟨[.ref l,.ref b],[]⟩)
  (λ _ R s=>s.heap.get? l=some {cls:=.type "tuple",dict:=dd,data:=.seq items n,slots:=sl}/\s.heap.get? b=some {cls:=.type "tuple",dict:=mn,data:=.seq av n2,slots:=ik}/\
   R (.ok (.ret (.bool (lexLt ns ms)))) s):=
 .of_wp λ prog w A R s h=>by
  obtain⟨hp,g,d,tk,os⟩:=s;obtain⟨hl,hb,h⟩:=h;have f2:=AutoSeq1.sub_tuple_tuple;have z1:items.size=ns.length:=by rw[<-hi.length];simp
  have z2:av.size=ms.length:=by rw[<-hj.length];simp
  wp_walk using wpAny_loadPart' hl,wpAny_loadPart' hb,wpAny_forIn_list _ (λ rest b s'=>b.1=none/\s'=⟨hp,g,d,tk,os⟩/\∃(vs ws:List Value) (cz gy:List Int),rest=vs.zip ws/\
   IntsAre vs cz/\IntsAre ws gy/\cz.length+av.size=gy.length+items.size/\R (.ok (.ret (.bool (lexLt cz gy)))) ⟨hp,g,d,tk,os⟩) _
  case turn =>
   rintro ⟨y,x⟩ rest b s' ⟨a8,rfl,vs,ws,cz,gy,hz,mo,ke,hlen,hR⟩;cases mo with
   |nil=>rw[List.zip_nil_left] at hz;cases hz
   |cons a t mq =>
    cases ke with
    |nil=>rw[List.zip_nil_right] at hz;cases hz
    |cons c u mr =>
     rw[List.zip_cons_cons] at hz;injection hz with u9 il
     injection u9 with hy hx
     subst hy hx;rw[Fd] at hR;simp only[zl] at hlen;obtain⟨e,he,im⟩:=XD A.in1 ⟨hp,g,d,tk,os⟩ a t c u;refine wpAny_bind (he prog w _ _ ?_);cases e with
     |true =>
      rw[if_pos (im.mp rfl)] at hR
      wp_walk
      exact⟨rfl,rfl,_,_,_,_,il,mq,mr,by omega,hR⟩
     |false =>
      rw[if_neg (λ q=>absurd (im.mpr q) z9)] at hR;have va:=XE A.in1 ⟨hp,g,d,tk,os⟩ a t c u prog w
      wp_walk using va
      exact⟨_,rfl,by simpa using hR⟩
  case fin =>
   rintro ⟨b1,b2⟩ s' ⟨a8,rfl,vs,ws,cz,gy,hz,mo,ke,hlen,hR⟩;simp only at a8;subst a8;have hv:lexLt cz gy=decide (items.size<av.size):=by
    cases mo with
    |nil =>
     cases ke with
     |nil =>
      simp only[List.length_nil] at hlen;rw[EE];exact (decide_eq_false (by omega)).symm
     |cons c u hw =>
      simp only[List.length_nil,zl] at hlen;rw[Mb];exact (decide_eq_true (by omega)).symm
    |cons a t hv =>
     cases ke with
     |nil =>
      simp only[List.length_nil,zl] at hlen;rw[Mc];exact (decide_eq_false (by omega)).symm
     |cons c u hw =>
      rw[List.zip_cons_cons] at hz;cases hz
   rw[hv] at hR
   wp_walk
   exact⟨_,rfl,by simpa [Builtin.Tuple.tupleCompareSizes] using hR⟩
  case h =>
   exact⟨rfl,rfl,items.toList,av.toList,ns,ms,rfl,hi,hj,by omega,h⟩
end
section
variable {prog:Program}{w:World}{A:Around}{E:Value->Shared->Prop}{s:Shared}
theorem HV {l b:Addr}{items av:Array Value}{ns ms:List Int}{Q:Value->Shared->Prop}(hl:IsTup s.heap l items)(hb:IsTup s.heap b av)(hi:IntsAre items.toList ns)(hj:IntsAre av.toList ms)
 (hu:A.units<cLine) (h:Q (.bool (lexLt ns ms)) s):wpAny (model prog w) A (compareOp .Lt (.ref l) (.ref b)) Q E s:=by
 obtain⟨⟨cls,dd,data,sl⟩,ho,hc,n,hd⟩:=id hl;obtain⟨⟨vb,mn,data2,ik⟩,rz,r6,n2,hd2⟩:=id hb;simp only at hc hd r6 hd2;subst hc hd r6 hd2;exact richCompare_meets_room (op:=.Lt) ⟨_,ho,rfl⟩ ⟨_,rz,rfl⟩ PySem.F.slot_tuple_lt PySem.F.entry_tuple_lt (PySem.F.args_tuple_lt_2 _ _) (NZ l b items av n n2 dd mn sl ik ns ms hi hj)
  ⟨ho,rz,show Value.bool (lexLt ns ms)≠Value.notImplemented/\Q (.bool (lexLt ns ms)) s from ⟨(λ x=>nomatch x),h⟩⟩ hu
noncomputable def Md (n d:Nat):Option Int->Nat
 |none=>d
 |some v=>if v<0 then (v+(n:Int)).toNat else min v.toNat n
theorem Rk (n d:Nat):Md n d none=d:=rfl
theorem Lq (n d k:Nat):Md n d (some (k:Int))=min k n:=by
 show (if (k:Int)<0 then ((k:Int)+(n:Int)).toNat else min (k:Int).toNat n)=min k n;rw[if_neg (by omega),yF]
end
end HT
namespace L2
open PySem PySem.Spec PyProof.Rows
noncomputable abbrev TO:=St->Hp->(Option Int->Hp->Prop)->Prop
def PO (X:Cx)(e:Option Expr)(t:TO):Prop:=
 ∀(pins:List (Addr×Obj)) (s:Shared) (σ:St) (H:Hp) (Q:Option Int->Hp->Prop),Inv X pins σ H s->t σ H Q->
  wpAny (model X.prog X.w) X.A (evalPart e X.env) (λ u s'=>∃o H',Inv X pins σ H' s'/\IsPart u o/\Q o H') X.xe s
noncomputable def cO:TO:=λ _ H Q=>Q none H
noncomputable def pC (t:TE):TO:=λ σ H Q=>t σ H λ x H1=>∃i,x=.int i/\Q (some i) H1
theorem intsAre_of {ns:List Int}:∀ {us:List Value},Vals (ns.map V.int) us->IntsAre us ns:=by
 induction ns with
 |nil=>intro us r;rw[zaf] at r;cases r;exact .nil
 |cons n ns ih =>
  intro us r;rw[zf] at r;cases r with
  |cons r1 r2 =>
   obtain⟨t,e⟩:=r1;subst e;exact .cons n t (ih r2)
section
variable {X:Cx}{e:Expr}{te:TE}{lo hi:Option Expr}{tl th:TO}{pos p2:Pos}
theorem cP:PO X none cO:=by
 intro pins s σ H Q I h;rw[evalPart_none];exact wpAny_pure ⟨none,H,I,.none,h⟩
theorem cQ (h:PE X e te):PO X (some e) (pC te):=by
 intro pins s σ H Q I hw;rw[evalPart_some];refine Bg (h pins s σ H _ I hw) λ u s1 ⟨x,H1,I1,r1,q1⟩=>?_;obtain⟨i,rfl,q⟩:=q1;obtain⟨t,rfl⟩:=r1;exact⟨some i,H1,I1,.int i t,q⟩
def uM (X:Cx)(r:V->Option Int->Option Int->Hp->VK->Prop):Prop:=
 ∀(pins:List (Addr×Obj)) (s:Shared) (σ:St) (H:Hp) (x:V) (v vl vu:Value) (lo hi:Option Int) (sl:Addr) (Q:VK),Inv X pins σ H s->RelV x v->s.heap.IsSliceOf sl vl vu .none->IsPart vl lo->IsPart vu hi->r x lo hi H Q->
  ∃T id,typeLookup (.type T) "__getitem__" = pure (some (.builtin id))/\s.TypeIs v T/\wpAny (model X.prog X.w) X.A (getItem v (.ref sl)) (EP X pins σ Q) X.xe s
noncomputable def vN (r:V->Option Int->Option Int->Hp->VK->Prop)(te:TE)(tl th:TO):TE:=λ σ H Q=>te σ H λ x H1=>tl σ H1 λ l H2=>th σ H2 λ u H3=>r x l u H3 Q
theorem XF {r:V->Option Int->Option Int->Hp->VK->Prop}(hr:uM X r)(he:PE X e te)(hl:PO X lo tl)(hu:PO X hi th):PE X (.Subscript e (.Slice lo hi none p2) pos) (vN r te tl th):=by
 intro pins s σ H Q I h;refine Subscript_ (Bg (he pins s σ H _ I h) λ v s1 ⟨x,H1,I1,r1,q1⟩=>?_);refine wpAny_Slice (Bg (hl pins s1 σ H1 _ I1 q1) λ vl s2 ⟨l,H2,I2,pl,q2⟩=>Bg (hu pins s2 σ H2 _ I2 q2) λ vu s3 ⟨u,H3,I3,pu,q3⟩=>?_);rw[evalPart_none];refine wpAny_pure ?_;have I4:Inv X pins σ H3 {s3 with heap:=s3.heap.push {cls:=.type "slice",data:=.fields #[vl,vu,.none]} }:=I3.kept (t':=s3.toks) λ b ob q=>zq _ q;obtain⟨T,id,hT,ht,hg⟩:=hr pins {s3 with heap:=s3.heap.push {cls:=.type "slice",data:=.fields #[vl,vu,.none]} } σ H3 x v vl vu l u s3.heap.objs.size Q I4 r1 (Heap.IsSliceOf.new ..) pl pu q3;show wpAny (model X.prog X.w) X.A (subscriptTail e (.Slice lo hi none p2) v (.ref s3.heap.objs.size)) (EP X pins σ Q) X.xe {s3 with heap:=s3.heap.push {cls:=.type "slice",data:=.fields #[vl,vu,.none]} };exact tail_any (ops:=[.ref s3.heap.objs.size,v]) ht hT hg (by with_unfolding_all rfl)
noncomputable def XG (xs:List V)(lo hi:Option Int):List V:=(xs.drop (HT.Md xs.length 0 lo)).take (HT.Md xs.length xs.length hi-HT.Md xs.length 0 lo)
theorem Rl (xs:List V)(lo hi:Option Int):(XG xs lo hi).length<=xs.length:=by
 unfold XG;rw[yA,za5];omega
noncomputable def pE (K:za):R2:=λ x y H Q=>∃a b ns ms,x=.ref a/\y=.ref b/\Fb K H a (ns.map V.int)/\Fb K H b (ms.map V.int)/\Q (.bl (HT.lexLt ns ms)) H
theorem XH (hu:X.A.units<cLine):G9 X (compareOp .Lt) (pE X.K):=by
 intro pins s σ H x y v u Q I rx ry h;obtain⟨a,b,ns,ms,rfl,rfl,ha,hb,q⟩:=h;cases rx;cases ry;obtain⟨aa,r1,p1,_⟩:=I.tuple ha;obtain⟨aQ,r2,p2,_⟩:=I.tuple hb;have i1:IntsAre aa.toArray.toList ns:=intsAre_of r1;have i2:IntsAre aQ.toArray.toList ms:=intsAre_of r2;exact HT.HV p1 p2 i1 i2 hu ⟨.bl (HT.lexLt ns ms),H,I,rfl,q⟩
end
noncomputable def Lc (n:Nat)(i:Int):Option Nat:=if 0<=i then (if i<n then some i.toNat else none) else if -(n:Int)<=i then some (i+n).toNat else none
noncomputable def PL {α:Type}(xs:List α)(i:Int):Option α:=(Lc xs.length i).bind λ j=>xs[j]?
theorem UJ {n:Nat}{i:Int}{j:Nat}(h:Lc n i=some j):seqIndex? i n=some j/\j<n/\-(n:Int)<=i/\i<n:=by
 unfold Lc at h;by_cases h0:0<=i
 ·rw[if_pos h0] at h;by_cases h1:i<n
  ·rw[if_pos h1] at h;have e:i.toNat=j:=zD h;exact⟨by rw[seqIndex_of h0 h1,e],by omega,by omega,h1⟩
  ·rw[if_neg h1] at h;cases h
 ·rw[if_neg h0] at h;by_cases h1 : -(n:Int)<=i
  ·rw[if_pos h1] at h;have e:(i+n).toNat=j:=zD h;exact⟨by rw[seqIndex_neg (by omega) h1,e],by omega,h1,by omega⟩
  ·rw[if_neg h1] at h;cases h
theorem UK {α:Type}{xs:List α}{i:Int}{v:α}(h:PL xs i=some v):∃j,seqIndex? i xs.length=some j/\xs[j]?=some v/\j<xs.length/\-(xs.length:Int)<=i/\i<xs.length:=by
 unfold PL at h;cases e:Lc xs.length i with
 |none=>rw[e] at h;cases h
 |some j =>
  rw[e] at h;obtain⟨h1,h2,h3,h4⟩:=UJ e;exact⟨j,h1,h,h2,h3,h4⟩
def Fe (b:Expr):Prop:=∀o i,subscripted b false o i=operate [o,i] (getItem o i)
def cR (X:Cx)(r:R2):Prop:=
 ∀(value slice:Expr) (pins:List (Addr×Obj)) (s:Shared) (σ:St) (H:Hp) (x y:V) (v u:Value) (Q:VK),Inv X pins σ H s->RelV x v->RelV y u->r x y H Q->
  subscripted slice false v u=operate [v,u] (getItem v u)->wpAny (model X.prog X.w) X.A (subscriptTail value slice v u) (EP X pins σ Q) X.xe s
def uN (X:Cx)(id:String)(r:V->List V->Hp->VK->Prop):Prop:=
 ∀(pins:List (Addr×Obj)) (s:Shared) (σ:St) (H:Hp) (x:V) (xs:List V) (v:Value) (us:List Value) (Q:VK),Inv X pins σ H s->RelV x v->Vals xs us->r x xs H Q->
  wpAny (model X.prog X.w) X.A (call (.builtin id) (v::us)) (EP X pins σ Q) X.xe s
section
variable {X:Cx}{a b:Expr}{ta tb:TE}{pos:Pos}
theorem cR.or {r r':R2}(h:cR X r)(h':cR X r'):cR X (λ x y H Q=>r x y H Q\/r' x y H Q):=by
 intro value slice pins s σ H x y v u Q I rx ry q hs;rcases q with q|q
 ·exact h value slice pins s σ H x y v u Q I rx ry q hs
 ·exact h' value slice pins s σ H x y v u Q I rx ry q hs
theorem Rm {r:R2}(hr:cR X r)(ha:PE X a ta)(hb:PE X b tb)(hs:Fe b):PE X (.Subscript a b pos) (nL r ta tb):=by
 intro pins s σ H Q I h;exact Subscript_ (jX ha hb I h λ v u s2 x y H2 I2 rx ry q=>hr a b pins s2 σ H2 x y v u Q I2 rx ry q (hs _ _))
noncomputable def kL (K:za):R2:=λ x y H Q=>∃p xs i v,x=.ref p/\y=.int i/\CJ K H p xs/\PL xs i=some v/\Q v H
noncomputable def kM (K:za):R2:=λ x y H Q=>∃p xs i v,x=.ref p/\y=.int i/\Fb K H p xs/\PL xs i=some v/\Q v H
theorem IF:cR X (kL X.K):=by
 intro value slice pins s σ H x y v u Q I rx ry h hs;obtain⟨p,xs,i,z,rfl,rfl,hq,he,q⟩:=h;cases rx;obtain⟨t,rfl⟩:=ry;obtain⟨aa,r,pl,hz⟩:=I.list hq;obtain⟨j,h1,h2,h3,h4,h5⟩:=UK he;obtain⟨w,ew,bg⟩:=r.get h2;have hl:=r.length;have hn:=K2;have fin:EP X pins σ Q w s:=⟨z,H,I,bg,q⟩;by_cases h0:0<=i
 ·have hj:i.toNat=j:=by
   rw[seqIndex_of h0 h5] at h1;exact zD h1
  exact item_listR pl.isList h0 (by omega) (by rw[hj];simpa using ew) fin hs
 ·have hj:(i+(aa.toArray.size:Int)).toNat=j:=by
   rw[seqIndex_neg (by omega) h4] at h1;rw[zj,<-hl];exact zD h1
  exact subscriptTail_builtinR (x:=w) pl.isList.typeIs slot_list_getitem.lookup
   (wpAny_getItem_list_neg (Q:=λ r s'=>r=w/\EP X pins σ Q r s') pl.isList (by omega) (by rw[zj]<;>omega) (by omega) (by rw[hj];simpa using ew) ⟨rfl,fin⟩) hs
theorem XI:cR X (kM X.K):=by
 intro value slice pins s σ H x y v u Q I rx ry h hs;obtain⟨p,xs,i,z,rfl,rfl,hq,he,q⟩:=h;cases rx;obtain⟨t,rfl⟩:=ry;obtain⟨aa,r,pl,hz⟩:=I.tuple hq;obtain⟨j,h1,h2,h3,h4,h5⟩:=UK he;obtain⟨w,ew,bg⟩:=r.get h2;have hl:=r.length;have hn:=K2;have fin:EP X pins σ Q w s:=⟨z,H,I,bg,q⟩;exact subscriptTail_builtinR (x:=w) pl.typeIs slot_tuple_getitem.lookup
  (getItem_tuple (j:=j) (Q:=λ r s'=>r=w/\EP X pins σ Q r s') pl (by omega) (by omega) (by rw[zj,<-hl];exact h1) (by simpa using ew) ⟨rfl,fin⟩) hs
theorem Ts (aa:List Value)(n j:Nat)(u:Value):zad (·.setIfInBounds j u) {cls:=.type "list",data:=.seq aa.toArray n}={cls:=.type "list",data:=.seq (aa.set j u).toArray n}:=by
 simp[zad]
theorem Inv.lst {pins:List (Addr×Obj)}{σ:St}{H:Hp}{s:Shared}{p:Addr}{xs:List V}(I:Inv X pins σ H s)(h:H p=some (.lst xs)):
 ∃(aa:List Value) (n:Nat),Vals xs aa/\s.heap.get? p=some {cls:=.type "list",data:=.seq aa.toArray n}/\xs.length<=sizeLine:=by
 obtain⟨z,aa,n,r,e⟩:=I.As p _ h;exact⟨aa,n,r,e,z⟩
theorem Inv.kN {pins:List (Addr×Obj)}{σ:St}{H:Hp}{s:Shared}{p:Addr}{xs ys:List V}{aa its':List Value}{n n':Nat}{f:Obj->Obj}(I:Inv X pins σ H s)(h:H p=some (.lst xs))
 (ho:s.heap.get? p=some {cls:=.type "list",data:=.seq aa.toArray n}) (hf:f {cls:=.type "list",data:=.seq aa.toArray n}={cls:=.type "list",data:=.seq its'.toArray n' }) (r:Vals ys its') (hz:ys.length<=sizeLine) (t:Nat):
 Inv X pins σ (upd H p (.lst ys)) {s with heap:=s.heap.update p f,toks:=t}:=by
 have e:(s.heap.update p f).get? p=some {cls:=.type "list",data:=.seq its'.toArray n' }:=by
  rw[zaq f ho (by rw[hf]<;>rfl),hf]
 refine I.write (x:=p) (e:=p) (by rw[h];trivial) (.inl rfl) (λ b u hb q=>(zak _ _ (zX hb)).trans q) ⟨_,e⟩ ?_;exact⟨hz,its',n',r,e⟩
def pF:V->V->V->Hp->(Hp->Prop)->Prop:=λ o i v H Q=>∃p xs k j,o=.ref p/\i=.int k/\H p=some (.lst xs)/\Lc xs.length k=some j/\Q (upd H p (.lst (xs.set j v)))
theorem set_list:oO X pF:=by
 intro pins s σ H o i v ov iv u Q I ro ri rv h;obtain⟨p,xs,k,j,rfl,rfl,hp,hj,q⟩:=h;cases ro;obtain⟨t,rfl⟩:=ri;obtain⟨aa,n,r,ho,hz⟩:=I.lst hp;obtain⟨h1,h2,h3,h4⟩:=UJ hj;have hl:=r.length;have hn:=K2;have I':Inv X pins σ (upd H p (.lst (xs.set j v))) {s with heap:=s.heap.update p (zad (·.setIfInBounds j u))}:=
  I.kN hp ho (Ts aa n j u) (r.set rv j) (by rw[yC];exact hz) s.toks
 by_cases h0:0<=k
 ·have hk:k.toNat=j:=by
   rw[seqIndex_of h0 h4] at h1;exact zD h1
  exact PySem.W.ki_setAt ho h0 (by omega) (by rw[zj,<-hl];exact h4) (by rw[hk];exact⟨_,I',q⟩)
 ·have hk:(k+(aa.toArray.size:Int)).toNat=j:=by
   rw[seqIndex_neg (by omega) h3] at h1;rw[zj,<-hl];exact zD h1
  exact PySem.W.ki_setBack ho (by omega) (by rw[zj,<-hl];exact h3) (by omega) (by rw[hk];exact⟨_,I',q⟩)
theorem PM (lo hi:Option Int)(n:Nat):(sliceBounds lo hi none n).1=((HT.Md n 0 lo:Nat):Int)/\(sliceBounds lo hi none n).2.1=((HT.Md n n hi:Nat):Int)/\(sliceBounds lo hi none n).2.2=1:=by
 refine⟨?_,?_,rfl⟩
 ·cases lo with
  |none=>simp[sliceBounds,HT.Md]
  |some i =>
   simp only[sliceBounds,HT.Md,Option.getD_none,show (1:Int) > 0 by decide,if_true];by_cases h:i<0
   ·simp only[h,if_true]<;>omega
   ·simp only[h,if_false]<;>omega
 ·cases hi with
  |none=>simp[sliceBounds,HT.Md]
  |some i =>
   simp only[sliceBounds,HT.Md,Option.getD_none,show (1:Int) > 0 by decide,if_true];by_cases h:i<0
   ·simp only[h,if_true]<;>omega
   ·simp only[h,if_false]<;>omega
theorem O0 (aa:List Value)(lo hi:Option Int):slicePick aa.toArray lo hi none=((aa.drop (HT.Md aa.length 0 lo)).take (HT.Md aa.length aa.length hi-HT.Md aa.length 0 lo)).toArray:=by
 obtain⟨h1,h2,h3⟩:=PM lo hi aa.toArray.size;unfold slicePick;rw[h1,h2,h3];simp only[sliceRange_one,pick_run,zj]<;>rfl
def tH (K:za):V->Option Int->Option Int->Hp->VK->Prop:=λ x lo hi H Q=>∃a xs,x=.ref a/\CJ K H a xs/\∀p,H p=none->Q (.ref p) (upd H p (.lst (XG xs lo hi)))
theorem cS:uM X (tH X.K):=by
 intro pins s σ H x v vl vu lo hi sl Q I rx hs pl pu h;obtain⟨a,xs,rfl,hx,q⟩:=h;cases rx;obtain⟨aa,r,ht,hz⟩:=I.list hx;have hlen:=r.length;refine⟨"list",_,slot_list_getitem.lookup,ht.isList.typeIs,?_⟩;refine wpAny_getItem_list_slice ht.isList hs pl pu .none (by simp) ?_ (by rw[zj]<;>omega);rw[O0,<-hlen];refine⟨.ref s.heap.objs.size,_,I.laid (t':=s.toks) (o:=.lst (XG xs lo hi)) (λ b ob q=>zq _ q) (zx _) ?_,rfl,q _ (I.As.fresh (zx _))⟩;exact⟨yG (Rl xs lo hi) hz,_,0,(r.drop (HT.Md xs.length 0 lo)).take (HT.Md xs.length xs.length hi-HT.Md xs.length 0 lo),zE _ rfl⟩
noncomputable def IG:V->Bool
 | .AA| .bl _| .int _| .str _=>true
 |_=>false
noncomputable def iD:V->V->Bool
 | .AA,.AA=>true
 | .bl a,.bl b=>a==b
 | .bl a,.int b=>(if a then 1 else 0)==b
 | .int a,.bl b=>a==(if b then 1 else 0)
 | .int a,.int b| .str a,.str b=>a==b
 |_,_=>false
theorem kO {A:Around}{s:Shared}{y x:V}{u v:Value}(ry:RelV y u)(rx:RelV x v)(fy:IG y=true)(fx:IG x=true):SeqAt.EqAt A s u v (iD y x):=by
 cases y with
 |AA =>
  cases ry;cases x with
  |AA=>cases rx;exact SeqAt.EqAt.same _
  |bl b=>cases rx;exact SeqAt.EqAt.none_bool b
  |int b=>obtain⟨t,rfl⟩:=rx;exact SeqAt.EqAt.none_int b t
  |str b=>obtain⟨t,rfl⟩:=rx;exact SeqAt.EqAt.none_str b t
  |_=>exact absurd (show false=true from fx) z9
 |bl a =>
  cases ry;cases x with
  |AA=>cases rx;exact SeqAt.EqAt.bool_none a
  |bl b=>cases rx;exact SeqAt.EqAt.bool_bool a b
  |int b=>obtain⟨t,rfl⟩:=rx;exact SeqAt.EqAt.bool_int a b t
  |str b=>obtain⟨t,rfl⟩:=rx;exact SeqAt.EqAt.bool_str a b t
  |_=>exact absurd (show false=true from fx) z9
 |int a =>
  obtain⟨t',rfl⟩:=ry;cases x with
  |AA=>cases rx;exact SeqAt.EqAt.int_none a t'
  |bl b=>cases rx;exact SeqAt.EqAt.int_bool a t' b
  |int b=>obtain⟨t,rfl⟩:=rx;exact SeqAt.EqAt.int_int a t' b t
  |str b=>obtain⟨t,rfl⟩:=rx;exact SeqAt.EqAt.int_str a t' b t
  |_=>exact absurd (show false=true from fx) z9
 |str a =>
  obtain⟨t',rfl⟩:=ry;cases x with
  |AA=>cases rx;exact SeqAt.EqAt.str_none a t'
  |bl b=>cases rx;exact SeqAt.EqAt.str_bool a t' b
  |int b=>obtain⟨t,rfl⟩:=rx;exact SeqAt.EqAt.str_int a t' b t
  |str b=>obtain⟨t,rfl⟩:=rx;exact SeqAt.EqAt.str_str a t' b t
  |_=>exact absurd (show false=true from fx) z9
 |_=>exact absurd (show false=true from fy) z9
noncomputable def Tt (x:V)(u:Value):Bool:=match u with
 | .none=>iD .AA x
 | .bool b=>iD (.bl b) x
 | .int i _=>iD (.int i) x
 | .str z _=>iD (.str z) x
 |_=>false
theorem XJ {x y:V}{u:Value}(r:RelV y u)(f:IG y=true):Tt x u=iD y x:=by
 cases y with
 |AA|bl b=>cases r;rfl
 |int i|str z=>obtain⟨t,rfl⟩:=r;rfl
 |_=>exact absurd (show false=true from f) z9
theorem IH {x:V}:∀ {xs:List V}{us:List Value},Vals xs us->xs.all IG=true->us.any (Tt x)=xs.any λ y=>iD y x
 |_,_,.nil,_=>rfl
 |y::xs,u::us,.cons r t,f=>by
  rw[List.all_cons,zP] at f;rw[zau,zau,XJ r f.1,IH t f.2]
theorem Gb {A:Around}{s:Shared}{x:V}{v:Value}(rx:RelV x v)(fx:IG x=true):∀ {xs:List V}{us:List Value},Vals xs us->xs.all IG=true->∀u∈us,SeqAt.EqAt A s u v (Tt x u)
 |_,_,.nil,_=>λ u hu=>by cases hu
 |y::xs,u::us,.cons r t,f=>λ u' hu=>by
  rw[List.all_cons,zP] at f;rcases zp.mp hu with rfl|hu
  ·rw[XJ r f.1];exact kO r rx f.1 fx
  ·exact Gb rx fx t f.2 u' hu
noncomputable def rJ (x:V)(xs:List V):Bool:=xs.any λ y=>iD y x
noncomputable def rK (K:za)(neg:Bool):R2:=λ x y H Q=>∃p xs,y=.ref p/\(CJ K H p xs\/Fb K H p xs)/\IG x=true/\xs.all IG=true/\Q (.bl (if neg then !rJ x xs else rJ x xs)) H
theorem VU:G9 X (compareOp .In) (rK X.K false):=by
 intro pins s σ H x y v u Q I rx ry h;obtain⟨p,xs,rfl,hq,fx,fs,q⟩:=h;cases ry;rcases hq with hq|hq
 ·obtain⟨aa,r,pl,hz⟩:=I.list hq;refine SeqAt.in_listAt (Tt x) pl.isList (λ w hw=>Gb rx fx r fs w (by simpa using hw)) ⟨.bl _,H,I,rfl,?_⟩;rw[show aa.toArray.any (Tt x)=aa.any (Tt x) by simp,IH r fs];exact q
 ·obtain⟨aa,r,pl,hz⟩:=I.tuple hq;refine SeqAt.in_tupleAt (Tt x) pl (λ w hw=>Gb rx fx r fs w (by simpa using hw)) ⟨.bl _,H,I,rfl,?_⟩;rw[show aa.toArray.any (Tt x)=aa.any (Tt x) by simp,IH r fs];exact q
theorem PN:G9 X (compareOp .NotIn) (rK X.K true):=by
 intro pins s σ H x y v u Q I rx ry h;obtain⟨p,xs,rfl,hq,fx,fs,q⟩:=h;cases ry;rcases hq with hq|hq
 ·obtain⟨aa,r,pl,hz⟩:=I.list hq;refine SeqAt.notIn_listAt (Tt x) pl.isList (λ w hw=>Gb rx fx r fs w (by simpa using hw)) ⟨.bl _,H,I,rfl,?_⟩;rw[show aa.toArray.any (Tt x)=aa.any (Tt x) by simp,IH r fs];exact q
 ·obtain⟨aa,r,pl,hz⟩:=I.tuple hq;refine SeqAt.notIn_tupleAt (Tt x) pl (λ w hw=>Gb rx fx r fs w (by simpa using hw)) ⟨.bl _,H,I,rfl,?_⟩;rw[show aa.toArray.any (Tt x)=aa.any (Tt x) by simp,IH r fs];exact q
theorem PP:Ga X (.builtin "len") (λ xs H Q=>∃p ys,xs=[.ref p]/\(CJ X.K H p ys\/Fb X.K H p ys)/\Q (.int ys.length) H):=by
 intro pins s σ H xs us Q I r h;obtain⟨p,ys,rfl,hq,q⟩:=h;obtain⟨u,rfl,rx⟩:=vals1 r;cases rx;have hn:=K2;rcases hq with hq|hq
 ·obtain⟨aa,r',pl,hz⟩:=I.list hq;have hlen:=r'.length;exact Calls.call_len_list pl.isList (by simp only[zj]<;>omega) ⟨.int ys.length,H,I.tok _,⟨s.toks+1,by rw[zj,hlen]⟩,q⟩
 ·obtain⟨aa,r',pl,hz⟩:=I.tuple hq;have hlen:=r'.length;exact len_tuple pl (by simp only[zj]<;>omega) ⟨.int ys.length,H,I.tok _,⟨s.toks+1,by rw[zj,hlen]⟩,q⟩
theorem PQ:Ga X (.type "list") (λ xs H Q=>∃p ys,xs=[.ref p]/\(CJ X.K H p ys\/Fb X.K H p ys)/\∀l,H l=none->Q (.ref l) (upd H l (.lst ys))):=by
 intro pins s σ H xs us Q I r h;obtain⟨p,ys,rfl,hq,q⟩:=h;obtain⟨u,rfl,rx⟩:=vals1 r;cases rx;have fin:∀(aa:List Value),Vals ys aa->ys.length<=sizeLine->∀(h':Heap) (c':Nat),(∀b o',s.heap.get? b=some o'->h'.get? b=some o')->
  h'.get? s.heap.objs.size=some {cls:=.type "list",dict:=none,data:=.seq aa.toArray c',slots:=#[]}->EP X pins σ Q (.ref s.heap.objs.size) {s with heap:=h' }:=λ aa r' hz h' c' kp e =>
  ⟨.ref s.heap.objs.size,_,I.laid (t':=s.toks) kp (zx _) (show BU X.prog X.w _ h' _ (.lst ys) from ⟨hz,aa,c',r',e⟩),rfl,q _ (I.As.fresh (zx _))⟩
 rcases hq with hq|hq
 ·obtain⟨aa,r',pl,hz⟩:=I.list hq;have hlen:=r'.length;obtain⟨o,ho,hc,n,hd⟩:=pl.isList;exact call_list_seq p (.inl rfl) ho hc hd (λ h' c' kp e=>fin aa r' hz h' c' kp e) (by simp only[zj]<;>omega)
 ·obtain⟨aa,r',pl,hz⟩:=I.tuple hq;have hlen:=r'.length;obtain⟨o,ho,hc,n,hd⟩:=pl;exact call_list_seq p (.inr rfl) ho hc hd (λ h' c' kp e=>fin aa r' hz h' c' kp e) (by simp only[zj]<;>omega)
theorem O1:Ga X (.type "tuple") (λ xs H Q=>∃p ys,xs=[.ref p]/\((CJ X.K H p ys/\∀l,H l=none->Q (.ref l) (upd H l (.tup ys)))\/(Fb X.K H p ys/\Q (.ref p) H))):=by
 intro pins s σ H xs us Q I r h;obtain⟨p,ys,rfl,h⟩:=h;obtain⟨u,rfl,rx⟩:=vals1 r;cases rx;rcases h with ⟨hq,q⟩|⟨hq,q⟩
 ·obtain⟨aa,r',pl,hz⟩:=I.list hq;have hlen:=r'.length;refine call_tuple_list pl.isList (λ h' kp=>?_) (by simp only[zj]<;>omega);have I1:Inv X pins σ H {s with heap:=h' }:=I.kept (t':=s.toks) kp;have I2:Inv X pins σ (upd H h'.objs.size (.tup ys)) {s with heap:=h'.push {cls:=.type "tuple",data:=.seq aa.toArray} }:=
   I1.laid (t':=s.toks) (λ b o e=>zq _ e) (zx _) (show BU X.prog X.w _ _ _ (.tup ys) from ⟨hz,aa,r',IsTup.new _ _⟩)
  exact⟨.ref h'.objs.size,_,I2,rfl,q _ (I1.As.fresh (zx _))⟩
 ·obtain⟨aa,r',pl,hz⟩:=I.tuple hq;exact call_tuple_same pl ⟨.ref p,H,I,rfl,q⟩
def tI (K:za)(T:String)(x:V)(H:Hp):Prop:=match x with
 | .str _=>T = "str"
 | .int _=>T = "int"
 | .ref p=>(T = "list" /\ ∃xs,CJ K H p xs)\/(T = "tuple" /\ ∃o,K.lookup p=some o/\o.cls=.type "tuple" /\ o.dict=none) \/
  (T = "dict" /\ ((∃kvs,H p=some (.dK kvs))\/∃kvs,H p=some (.dT kvs)))\/(T = "set" /\ ∃S n,H p=some (.set S n))
 |_=>False
theorem XM {pins:List (Addr×Obj)}{σ:St}{H:Hp}{s:Shared}{T:String}{x:V}{v:Value}(I:Inv X pins σ H s)(r:RelV x v)(ty:tI X.K T x H):
 s.TypeIs v T/\∀a,v=.ref a->∃ob,s.heap.get? a=some ob/\ob.dict=none:=by
 cases x with
 |str z =>
  obtain⟨t,rfl⟩:=r;cases (show T = "str" from ty);exact⟨typeIs_str s z t,λ _ e=>nomatch e⟩
 |int i =>
  obtain⟨t,rfl⟩:=r;cases (show T = "int" from ty);exact⟨typeIs_int s i t,λ _ e=>nomatch e⟩
 |ref p =>
  cases r;rcases ty with ⟨rfl,xs,hq⟩|⟨rfl,o,hk,hc,hd⟩|⟨rfl,hk⟩|⟨rfl,S,n,hk⟩
  ·obtain⟨aa,_,pl,_⟩:=I.list hq;refine⟨pl.isList.typeIs,λ a e=>?_⟩;cases e;obtain⟨o,n,e,c,hd,_⟩:=pl;exact⟨o,e,hd⟩
  ·refine⟨⟨o,I.NT p o hk,hc⟩,λ a e=>?_⟩;cases e;exact⟨o,I.NT _ o hk,hd⟩
  ·have z:∃o,s.heap.get? p=some o/\o.ExactDict:=by
    rcases hk with ⟨kvs,hk⟩|⟨kvs,hk⟩
    ·obtain⟨_,_,_,_,o,_,_,e,ex,_⟩:=I.As p _ hk;exact⟨o,e,ex⟩
    ·obtain⟨_,_,_,_,o,_,_,e,ex,_⟩:=I.As p _ hk;exact⟨o,e,ex⟩
   obtain⟨o,e,ex⟩:=z;refine⟨⟨o,e,ex.1⟩,λ a e2=>?_⟩;cases e2;exact⟨o,e,ex.2.1⟩
  ·obtain⟨o,_,_,_,e,ex,_⟩:=I.As p _ hk;refine⟨⟨o,e,ex.1⟩,λ a e2=>?_⟩;cases e2;exact⟨o,e,ex.2.1⟩
 |_=>exact zaa ty
noncomputable def tJ (K:za)(T:String)(r:V->List V->Hp->VK->Prop)(to:TE):TE:=λ σ H Q=>to σ H λ x H1=>tI K T x H1/\r x [] H1 Q
noncomputable def vP (K:za)(T:String)(r:V->List V->Hp->VK->Prop)(to:TE)(t:TA):TE:=λ σ H Q=>to σ H λ x H1=>tI K T x H1/\t σ H1 λ xs H2=>r x xs H2 Q
variable {o e:Expr}{es:List Expr}{to:TE}{t:TA}{name:Str}{apos ad:Pos}{T id:String}{r:V->List V->Hp->VK->Prop}
theorem kP (pa:PlainAttrs T)(slot:Slot T name id)(mt:typeOf (.builtin id)=pure (.type "method_descriptor"))(hm:uN X id r)(ho:PE X o to)
 (ao:attributeBase o name X.env (eval o X.env)=eval o X.env:=by rfl) (aq:(apos.endLine==ad.line)=true:=by rfl):PE X (.Call (.Attribute o name apos) [] [] ad) (tJ X.K T r to):=by
 intro pins s σ H Q I h;refine wpAny_Call_method0_late ao aq (Bg (ho pins s σ H _ I h) λ v s1 ⟨x,H1,I1,r1,ty,q1⟩=>?_);obtain⟨h1,h2⟩:=XM I1 r1 ty;exact⟨T,id,pa,slot,mt,h1,h2,Calls.callWith_builtin rfl (PySem.evalArgs_none (hm pins s1 σ H1 x [] v [] Q I1 r1 .nil q1))⟩
theorem OC (pa:PlainAttrs T)(slot:Slot T name id)(mt:typeOf (.builtin id)=pure (.type "method_descriptor"))(hm:uN X id r)(ho:PE X o to)(ha:PA X (e::es) t)
 (ao:attributeBase o name X.env (eval o X.env)=eval o X.env:=by rfl)
 (aG:((backTo ad (starEach (e::es) X.env)).all (λ x => !x.1)&&(backToKw ad (keywordEach [] X.env)).all (λ x=>x.1.isSome)
  && decide ((e::es).length+([]:List Keyword).length+(if ([]:List Keyword).isEmpty then 0 else 1)<30))=true:=by rfl)
 (aq:(apos.endLine==ad.line)=true:=by rfl) (hs:starEach (e::es) X.env=(false,eval e X.env)::starEach es X.env:=by rfl) (al:(backTo ad (starEach es X.env)).any (·.1)=false:=by rfl):
 PE X (.Call (.Attribute o name apos) (e::es) [] ad) (vP X.K T r to t):=by
 intro pins s σ H Q I h;refine wpAny_Call_method_late ao aG aq rfl (Bg (ho pins s σ H _ I h) λ v s1 ⟨x,H1,I1,r1,ty,q1⟩=>?_);obtain⟨h1,h2⟩:=XM I1 r1 ty;refine⟨T,id,pa,slot,mt,h1,h2,?_⟩;have hA:=ha ad pins s1 σ H1 _ I1 q1;rw[hs] at hA ⊢;refine Calls.callWith_builtin (by show (false||(backTo ad (starEach es X.env)).any (·.1))=false;rw[al]<;>rfl) (Calls.evalArgs_plain ?_);exact Bg hA λ us s2 ⟨vs,H2,I2,r2,q2⟩=>hm pins s2 σ H2 x vs v us Q I2 r1 r2 q2
end
def nM (X:Cx)(id:String)(r:V->List V->Hp->VK->Prop):Prop:=
 ∀(pins:List (Addr×Obj)) (s:Shared) (σ:St) (H:Hp) (x:V) (xs:List V) (v:Value) (us:List Value) (Q:VK),Inv X pins σ H s->RelV x v->Vals xs us->r x xs H Q->
  wpAny (model X.prog X.w) X.A (call (.builtin id) (v::us)) (EP X pins σ Q) X.xe s
theorem Vals.one:∀ {x:V}{us:List Value},Vals [x] us->∃u,us=[u]/\RelV x u
 |_,_,.cons r .nil=>⟨_,rfl,r⟩
theorem Vals.two:∀ {x y:V}{us:List Value},Vals [x,y] us->∃u v,us=[u,v]/\RelV x u/\RelV y v
 |_,_,_,.cons r (.cons q .nil)=>⟨_,_,rfl,r,q⟩
theorem Vals.zero:∀ {us:List Value},Vals [] us->us=[]
 |_,.nil=>rfl
theorem Vals.dropLast {xs:List V}{us:List Value}(h:Vals xs us):Vals xs.dropLast us.dropLast:=by
 induction h with
 |nil=>exact .nil
 |cons r t ih =>
  cases t with
  |nil=>exact .nil
  |cons q t'=>exact .cons r ih
theorem Vals.eraseIdx:∀ {xs:List V}{us:List Value}(i:Nat),Vals xs us->Vals (xs.eraseIdx i) (us.eraseIdx i)
 |_,_,_,.nil=>.nil
 |_,_,0,.cons _ t=>t
 |_,_,i+1,.cons r t=>.cons r (Vals.eraseIdx i t)
theorem Vals.rep {xs:List V}{us:List Value}(h:Vals xs us):∀k:Nat,Vals (zu k xs).flatten (zu k us).flatten
 |0=>.nil
 |k+1=>by
  rw[yV,yV,List.flatten_cons,List.flatten_cons];exact Vals.append h (Vals.rep h k)
theorem Tu {α:Type}(l:List α):l.eraseIdx (l.length-1)=l.dropLast:=by
 induction l with
 |nil=>rfl
 |cons a r ih =>
  cases r with
  |nil=>rfl
  |cons b r =>
   have e:(a::b::r).length-1=((b::r).length-1)+1:=by
    have h1:(a::b::r).length=r.length+2:=rfl;have h2:(b::r).length=r.length+1:=rfl;omega
   rw[e,List.eraseIdx_cons_succ,ih];all_goals rfl
theorem foldl_rep (aa:List Value):∀(k:Nat) (acc:List Value),
 List.foldl (λ x1 x2=>x1++x2) acc.toArray (zu k aa.toArray)=(acc++(zu k aa).flatten).toArray
 |0,acc=>by simp
 |k+1,acc=>by
  have e:acc.toArray++aa.toArray=(acc++aa).toArray:=by simp
  have e2:(acc++aa)++(zu k aa).flatten=acc++(zu (k+1) aa).flatten:=by
   rw[yV,List.flatten_cons,yP]
  rw[<-e2,<-foldl_rep aa k (acc++aa),<-e,yV,zM]
section
variable {X:Cx}{pins:List (Addr×Obj)}{σ:St}{H:Hp}{s:Shared}{l b:Addr}{xs ys zs:List V}
theorem Inv.VW {aa its':List Value}{n:Nat}{f:Array Value->Array Value}{t':Nat}(I:Inv X pins σ H s)(hH:H l=some (.lst xs))
 (e:s.heap.get? l=some {cls:=.type "list",data:=.seq aa.toArray n}) (hf:f aa.toArray=its'.toArray) (hv:Vals ys its') (hz:ys.length<=sizeLine):
 Inv X pins σ (upd H l (.lst ys)) {s with heap:=s.heap.update l (zad f),toks:=t' }:=by
 have q:=PySem.IsL.update e f;rw[hf] at q;refine I.write (x:=l) (e:=l) (by rw[hH];exact trivial) (.inl rfl) (λ b' u hb hu=>(zak s.heap (zad f) (zX hb)).trans hu) ⟨_,q⟩ ?_;exact⟨hz,its',_,hv,q⟩
theorem Inv.pG {aa:List Value}{t':Nat}(I:Inv X pins σ H s)(hv:Vals ys aa)(hz:ys.length<=sizeLine):
 Inv X pins σ (upd H s.heap.objs.size (.lst ys)) {s with heap:=s.heap.push {cls:=.type "list",data:=.seq aa.toArray},toks:=t' }:=
 I.laid (λ _ _ q=>zq _ q) (zx _) ⟨hz,aa,0,hv,zE _ rfl⟩
theorem Inv.fresh (I:Inv X pins σ H s):H s.heap.objs.size=none:=I.As.fresh (zx _)
theorem Inv.Ro (I:Inv X pins σ H s)(hH:H l=some (.lst xs)):xs.length<=sizeLine/\∃(aa:List Value) (n:Nat),Vals xs aa/\xs.length=aa.length/\s.heap.get? l=some {cls:=.type "list",data:=.seq aa.toArray n}:=by
 obtain⟨z,aa,n,r,e⟩:=I.As l _ hH;exact⟨z,aa,n,r,r.length,e⟩
theorem Rp {n:Nat}(h:n<=sizeLine):zat n=false:=by
 unfold zat;exact decide_eq_false (by omega)
end
section
variable {X:Cx}
def cT:V->List V->Hp->VK->Prop:=λ x vs H Q=>∃l xs y,x=.ref l/\vs=[y]/\H l=some (.lst xs)/\xs.length<sizeLine/\Q .AA (upd H l (.lst (xs++[y])))
theorem K4:nM X "list.append" cT:=by
 intro pins s σ H x vs v us Q I rx rv h;obtain⟨l,xs,y,rfl,rfl,hH,hz,q⟩:=h;cases rx;obtain⟨u,rfl,ru⟩:=rv.one;obtain⟨z,aa,n,r,hl,e⟩:=I.Ro hH;refine call_meets F.slot_list_append ⟨_,e,rfl⟩ F.entry_list_append (F.args_list_append_2 _ _) (PySem.list_append l aa.toArray n u (by rw[zj];omega)) ⟨e,?_⟩;refine⟨.AA,_,I.VW (its':=aa++[u]) hH e (by simp) (r.append (.cons ru .nil)) ?_,rfl,q⟩;rw[zC,yJ];omega
def cU:V->List V->Hp->VK->Prop:=λ x vs H Q=>∃l b xs zs,x=.ref l/\vs=[.ref b]/\H l=some (.lst xs)/\H b=some (.lst zs)/\xs.length+zs.length<=sizeLine/\Q .AA (upd H l (.lst (xs++zs)))
theorem VX:nM X "list.extend" cU:=by
 intro pins s σ H x vs v us Q I rx rv h;obtain⟨l,b,xs,zs,rfl,rfl,hH,hB,hz,q⟩:=h;cases rx;obtain⟨u,rfl,ru⟩:=rv.one;cases ru;obtain⟨z,aa,n,r,hl,e⟩:=I.Ro hH;obtain⟨z2,aQ,n2,r2,a6,e2⟩:=I.Ro hB;have hsz:aa.toArray.size+aQ.toArray.size<=sizeLine:=by rw[zj,zj];omega
 have bQ:¬ (!aa.toArray.isEmpty&&zat (aa.toArray.size+aQ.toArray.size))=true:=by
  rw[Rp hsz,Bool.and_false];exact z9
 refine call_meets F.slot_list_extend ⟨_,e,rfl⟩ F.entry_list_extend (F.args_list_extend_2 _ _)
  (AutoSeq1.list_extend_list_list_0 l aa.toArray n b aQ.toArray n2 bQ (by rw[zj];omega) (by omega)) ⟨e,e2,?_⟩
 refine⟨.AA,_,I.VW (its':=aa++aQ) hH e (by simp) (r.append r2) ?_,rfl,q⟩;rw[zC];omega
def tK:V->List V->Hp->VK->Prop:=λ x vs H Q=>∃l xs y,x=.ref l/\vs=[]/\H l=some (.lst xs)/\xs[xs.length-1]?=some y/\Q y (upd H l (.lst xs.dropLast))
theorem tL:nM X "list.pop" tK:=by
 intro pins s σ H x vs v us Q I rx rv h;obtain⟨l,xs,y,rfl,rfl,hH,hy,q⟩:=h;cases rx;have mw:=rv.zero;subst mw;obtain⟨z,aa,n,r,hl,e⟩:=I.Ro hH;obtain⟨u,hu,ru⟩:=r.get hy;have ip:aa.toArray[aa.toArray.size-1]?=some u:=by
  show aa.toArray[aa.length-1]?=some u;rw[<-Array.getElem?_toList,<-hl];exact hu
 refine call_meets F.slot_list_pop ⟨_,e,rfl⟩ F.entry_list_pop (F.args_list_pop_1 _) (MeetsSeq.list_pop_last l aa.toArray n u ip (by rw[zj];omega)) ⟨e,?_⟩;refine⟨y,_,I.VW (its':=aa.dropLast) hH e ?_ r.dropLast ?_,ru,q⟩
 ·show aa.toArray.eraseIdxIfInBounds (aa.toArray.size-1)=aa.dropLast.toArray;rw[zj,List.eraseIdxIfInBounds_toArray,Tu]
 ·rw[List.length_dropLast];omega
def kQ:V->List V->Hp->VK->Prop:=λ x vs H Q=>∃l xs,x=.ref l/\vs=[]/\H l=some (.lst xs)/\Q .AA (upd H l (.lst []))
theorem XN:nM X "list.clear" kQ:=by
 intro pins s σ H x vs v us Q I rx rv h;obtain⟨l,xs,rfl,rfl,hH,q⟩:=h;cases rx;have mw:=rv.zero;subst mw;obtain⟨z,aa,n,r,hl,e⟩:=I.Ro hH;refine call_meets F.slot_list_clear ⟨_,e,rfl⟩ F.entry_list_clear (F.args_list_clear_1 _) (AutoSeq1.list_clear_list_0 l aa.toArray n (by rw[zj];omega)) ⟨e,?_⟩;exact⟨.AA,_,I.VW (its':=[]) (ys:=[]) hH e rfl .nil (zJ _),rfl,q⟩
noncomputable def tM:R2:=λ x y H Q=>∃l k xs,x=.ref l/\y=.int k/\H l=some (.lst xs)/\-(2^63)<=k/\k<2^63/\xs.length*k.toNat<=sizeLine/\
 ∀p,H p=none->Q (.ref p) (upd H p (.lst (zu k.toNat xs).flatten))
theorem len_rep {α:Type}(xs:List α)(k:Nat):(zu k xs).flatten.length=k*xs.length:=by
 induction k with
 |zero=>simp
 |succ k ih=>rw[yV,List.flatten_cons,zC,ih,Nat.succ_mul,Nat.add_comm]
theorem kR:G9 X (binaryOp .Mult) tM:=by
 intro pins s σ H x y v u Q I rx ry h;obtain⟨l,k,xs,rfl,rfl,hH,h1,h2,hz,q⟩:=h;cases rx;obtain⟨t,rfl⟩:=ry;obtain⟨z,aa,n,r,hl,e⟩:=I.Ro hH;have hlen:aa.toArray.size*k.toNat<=sizeLine:=by rw[zj,<-hl];exact hz
 have mx:¬ aa.toArray.size*k.toNat > (2^63-1) / 8:=by
  have:(sizeLine:Nat)<=(2^63-1) / 8:=by decide
  omega
 have e7:¬ (!Builtin.List.listFitsIndex k)=true:=by
  rw[fitsIndex_both h1 h2];exact z9
 have bQ:¬ zat (aa.toArray.size*k.toNat)=true:=by
  rw[Rp hlen];exact z9
 have bp:List.foldl (λ x1 x2=>x1++x2) #[] (zu (if aa.toArray.isEmpty=true then 0 else k.toNat) aa.toArray)=(zu k.toNat aa).flatten.toArray:=by
  have f0:∀m:Nat,List.foldl (λ x1 x2=>x1++x2) #[] (zu m aa.toArray)=(zu m aa).flatten.toArray:=λ m=>by
   have:=foldl_rep aa m [];rw[List.nil_append] at this;exact this
  rw[f0];cases aa with
  |nil=>simp
  |cons a r'=>rw[if_neg (by simp)]
 refine wpAny_binaryOp_repeat_ref (T := "list") (U := "int") (by decide) ⟨_,e,rfl⟩ (λ s'=>typeIs_int s' k t) noFill_list_mul F.fills_int_mul F.slot_int_rmul repeat_list F.slot_int_index.lookup
  (call_meets F.slot_int_rmul (typeIs_int s k t) F.entry_int_rmul (F.args_int_rmul_2 _ _) (int___rmul___int_list k t l aa.toArray n)
   ⟨e,rfl,⟨_,e,rfl⟩,call_meets F.slot_list_mul ⟨_,e,rfl⟩ F.entry_list_mul (F.args_list_mul_2 _ _) (AutoListH.list___mul___list_int_3 l aa.toArray n k t e7 mx bQ) ⟨e,?_⟩⟩)
 rw[bp];exact⟨.ref _,_,I.pG (t':=s.toks) (r.rep k.toNat) (by rw[len_rep,Nat.mul_comm];exact hz),rfl,q _ I.fresh⟩
end
end L2
namespace r9
open PySem PySem.W PySem.Calls PyProof.Rows
theorem Ld {P:Params}{h:Heap}:∀(ns:List Int) (vs:List Value),WellAll P h vs (ns.map WData.int)->IntsAre vs ns:=by
 intro ns;induction ns with
 |nil =>
  intro vs w;rw[zaf] at w;cases w;exact .nil
 |cons n ns ih =>
  intro vs w;rw[zf] at w;cases w with
  |cons a b =>
   cases a;exact .cons _ _ (ih _ b)
theorem VY {l:OpenLaw}{n:Nat}(hn:l.most=some n){P:Params}{h:Heap}{args:List WData}{vals:List Value}
 (c6:l.row.toRowW.claim.pre args=true) (my:WellAll P h vals args):
 ∃a vs ns,vals=[y9 a]/\args=[WData.list (ns.map WData.int)]/\h.get? a=some {cls:=.type "list",data:=.seq vs.toArray}/\IntsAre vs ns/\ns.length<=n:=by
 have vc:WShape.hasAll [] args [.list .int]=true:=(pre_splitW c6).1;have hc:l.pre.holds [] {args:=args}=true:=(pre_splitW c6).2;obtain⟨d,r,rfl,h1,h2⟩:=hasAllW_cons vc;obtain rfl:=hasAllW_nil h2;obtain⟨xs,rfl,h3⟩:=hasW_list h1;obtain⟨ns,rfl⟩:=items_int h3;have hlen:ns.length<=n:=by
  unfold OpenLaw.pre at hc;have h4:(WTm.not (.lt (.lit (.int (n:Int))) (.len (.arg 0)))).holds [] {args:=[.list (ns.map .int)]}=true:=by
   have h4:=(holds_andW hc).1;rw[hn] at h4;exact h4
  have h5:=condW_of h4 (w_not (w_lt w_lit (w_len_list (w_arg rfl))));rw[zc] at h5;refine Nat.le_of_not_lt λ q=>?_;have q':(n:Int)<((ns.length:Nat):Int):=by omega
  first
   |(rw[decide_eq_true q'] at h5;exact absurd h5 (by decide))
   |(simp at h5;omega)
 cases my with
 |cons w1 w2 =>
  cases w2;cases w1 with
  |list ho aL=>exact⟨_,_,ns,rfl,rfl,ho,Ld ns _ aL,hlen⟩
theorem VZ (l:OpenLaw)(args:List WData):l.row.toRowW.claim.post args (.bool true) args=true:=
 postW_of (r:=l.row.toRowW) (X:=(true==true))
  (show WShape.has [] (.bool true) .bool=true by first|rfl|decide|simp[WShape.has,WShape.arms,WShape.armsAll])
  (show (WTm.eq .res (.lit (.bool true))).value [] {args:=args,res:=some (.bool true),after:=args}=some (.bool (true==true)) from w_eq_bool (w_res rfl) w_lit) rfl
end r9
namespace L2
open PySem PySem.Spec PyProof.Rows
theorem OD:∀ {vs:List Value}{ns:List Int},IntsAre vs ns->Vals (ns.map V.int) vs
 |_,_,.nil=>.nil
 |_,_,.cons n t h=>.cons ⟨t,rfl⟩ (OD h)
def cV (H:Hp):Prop:=∀b,H b=none\/∃o xs,H b=some (.X9 o (.lst xs))
theorem Rq {P:Program}{w:World}{K:za}{mg mb:Str->Option Value}{CX:UE}{k:Nat}{fa a:Addr}{fd:FuncData}{x:Str}{sp:Sp}{s₁:Shared}{vs:List Value}{ns:List Int}
 (KX:K.In s₁.heap) (mz:s₁.heap.Ns mainGlobals mg) (hb:s₁.heap.Ns builtinsNs mb) (vd:∀x:Str,x ≠ "__name__" -> mb x=bootBuiltins x) (m6:s₁.heap.NoLimit) (hg:s₁.gens=#[])
 (ha:s₁.heap.get? a=some {cls:=.type "list",data:=.seq vs.toArray}) (hi:IntsAre vs ns) (hl:ns.length<=sizeLine) (hr:BJ k callerA)
 (F:∀base:Heap,K.In base->base.Ns mainGlobals mg->Ds P w K mg base CX k fa fd [x] sp) (iq:∀(s:Shared) (u:Value),BindsTo s fd ⟨[u],[]⟩ [(x,u)])
 (bA:∀H:Hp,cV H->CJ K H a (ns.map V.int)->sp [.ref a] H (λ v _=>v=.bl true) λ _ _ _=>False)
 (ir:∀H e s',CX [] H s₁ (λ _ _ _=>False) e s'->False):
 codeAny (model P w) callerA (.call (.ref fa) ⟨[.ref a],[]⟩) (λ r s'=>r=.ok (.ret (.bool true))/\OldK s₁.heap s'.heap/\s'.os=s₁.os/\AllBare s'.gens) s₁:=by
 have rv:=OD hi;have m7:=hi.length;have core:∀H:Hp,cV H->CJ K H a (ns.map V.int)->FR P w H s₁.heap->(∀b,H b≠none->b=a)->(H a≠none->K.lookup a=none)->
  codeAny (model P w) callerA (.call (.ref fa) ⟨[.ref a],[]⟩) (λ r s'=>r=.ok (.ret (.bool true))/\OldK s₁.heap s'.heap/\s'.os=s₁.os/\AllBare s'.gens) s₁:=by
  intro H hO hS As hA hK;have b7:∀ {b:Addr} {o:Obj},s₁.heap.get? b=some o->H b=none->(PF s₁.heap H).get? b=some o:=λ e n=>Xg e n;have ii:∀ {b:Addr} {o:Obj} {es:Array DictEntry} {ep:Nat},s₁.heap.get? b=some o->o.data=.dict es ep->H b=none:=fun {b o es ep} e d=>by
   cases q:H b with
   |none=>rfl
   |some u =>
    have e':b=a:=hA b (by rw[q];simp);subst e';rw[ha] at e;cases e;have d':Data.seq vs.toArray _=Data.dict es ep:=d;cases d'
  have kg:∀ {b:Addr} {m:Str->Option Value},s₁.heap.Ns b m->(PF s₁.heap H).Ns b m:=fun {b m} ⟨o,es,ep,e,d,r⟩=>⟨o,es,ep,b7 e (ii e d),d,r⟩;have se:K.In (PF s₁.heap H):=λ b o e=>b7 (KX b o e) (by
   cases q:H b with
   |none=>rfl
   |some u =>
    have e':b=a:=hA b (by rw[q];simp);subst e';rw[hK (by rw[q];simp)] at e;cases e)
  have hM:Mod K mg (PF s₁.heap H):=⟨se,kg mz,⟨mb,kg hb,vd⟩,let ⟨mc,h1,h2⟩:=m6;⟨mc,kg h1,h2⟩⟩;have e0:Tp P w K mg (PF s₁.heap H) callerA [] s₁ H:=⟨rfl,hM,λ b o e=>ZX e,Nat.le_of_eq (VL _ _),trivial,λ b hb=>absurd (show b∈([]:List Addr) from hb) (by simp),As,.of_eq hg⟩;refine codeAny_mono ((F _ se (kg mz)).run callerA [] s₁ H ⟨[.ref a],[]⟩ [.ref a] [.ref a] _ _ hr e0 (iq s₁ (.ref a)) (.cons rfl .nil) (bA H hO hS)) λ r s' h=>?_;cases r with
  |error e=>exact (ir H e s' h).elim
  |ok fl =>
   cases fl with
   |next|brk|cont=>exact zaa h
   |ret u =>
    obtain⟨v,H',os,bare,un,e8,r',q⟩:=h;have q':v=.bl true:=q;subst q';obtain rfl:u=Value.bool true:=r';refine⟨rfl,OldK.of_keep λ b o e=>?_,os,bare⟩;cases q:H b with
    |none=>exact un.keep b o e q (by intro z;exact absurd (show b∈([]:List Addr) from z) (by simp)) (by simp)
    |some u =>
     rcases hO b with z|⟨ob,xs,z⟩
     ·rw[q] at z;cases z
     ·have z2:=un.NX b ob _ z;obtain⟨e1,_⟩:=As b _ z;obtain⟨e2,_⟩:=e8 b _ z2;rw[e] at e1;cases e1;exact e2
 cases hk:K.lookup a with
 |some o =>
  have e:=KX a o hk;rw[ha] at e;cases e;refine core (λ _=>none) (λ _=>.inl rfl) (.inr ⟨_,vs.toArray,_,hk,rfl,rfl,rfl,by rw[zj,m7];exact hl,by simpa using rv⟩) (λ b u z=>by have z':(none:Option HO)=some u:=z;cases z') (λ b z=>absurd rfl z) λ z=>absurd rfl z
 |none =>
  refine core (λ b=>if b=a then some (.X9 {cls:=.type "list",data:=.seq vs.toArray} (.lst (ns.map V.int))) else none) (λ b=>?_) (.inl (.inr ⟨{cls:=.type "list",data:=.seq vs.toArray},if_pos rfl⟩)) (λ b u z=>?_) (λ b z=>?_) λ _=>hk
  ·by_cases hb:b=a
   ·exact .inr ⟨_,_,if_pos hb⟩
   ·exact .inl (if_neg hb)
  ·by_cases hb:b=a
   ·have z':=(if_pos hb).symm.trans z;cases z';subst hb;exact⟨ha,by rw[zc];exact hl,vs,_,rv,ha⟩
   ·have z':=(if_neg hb).symm.trans z;cases z'
  ·by_cases hb:b=a
   ·exact hb
   ·exact absurd (if_neg hb) z
noncomputable abbrev cW:UE:=λ _ _ _ _ _ _=>False
noncomputable abbrev E0:XK:=λ _ _ _=>False
structure Xc (K:za)(x qual:Str)(st:Stmt)(f:Addr)(fd:FuncData):Prop where
 ex:∃(oc:Value) (od:Option Addr) (kV doc pm:Value) (an:Option Addr) (B5 ct:Value) (T7:Array (Option Value)),
  fd=zZ x qual (Bk st) (AM st) (A4 st) .none kV doc pm an B5 ct/\K.lookup f=some ⟨oc,od,.func fd,T7⟩/\yU K B5 qual=true
 kp:yB K (.ref f)=true
section
variable {P:Program}{w:World}{K:za}{mg:Str->Option Value}{base:Heap}
theorem Xc.ok {x qual:Str}{st:Stmt}{f:Addr}{fd:FuncData}{N ps:List Str}{k:Nat}{sp:Sp}(F:Xc K x qual st f fd)(S:Ag N ps (A4 st))(len:∀vs H Q E,sp vs H Q E->vs.length=ps.length)
 (bP:∀(B5:Value) (A:Around) (outer:List Env) (s:Shared) (H:Hp) (vs:List V) (Q:VK) (E:XK),BJ k (A.deeper (envOfC qual (A4 st) s.heap.objs.size f B5))->sp vs H Q E->
  ∃t,UA (Rh cW P w K mg base N qual (A4 st) f B5 A outer s H E).oJ (AM st) t/\t {nx:=λ _ H'=>Q .AA H',rt:=Q} (start N vs) H):Ds P w K mg base cW (k+1) f fd ps sp:=by
 obtain⟨oc,od,kV,doc,pm,an,B5,ct,T7,rfl,lk,be⟩:=F.ex;refine UI lk be S len λ A outer s H vs Q E hr bA=>?_;obtain⟨t,h,q⟩:=bP B5 A outer s H vs Q E hr bA;exact⟨t,h.oJ,q⟩
theorem Xc.binds {x qual:Str}{st:Stmt}{f:Addr}{fd:FuncData}{ps:List Str}(F:Xc K x qual st f fd)
 (h:∀(kV doc pm:Value) (an:Option Addr) (B5 ct:Value) (us:List Value),us.length=ps.length->bindArgs (zZ x qual (Bk st) (AM st) (A4 st) .none kV doc pm an B5 ct) ⟨us,[]⟩=pure (ps.zip us)):Binds K fd ps []:=by
 obtain⟨oc,od,kV,doc,pm,an,B5,ct,T7,rfl,lk,be⟩:=F.ex;exact .all (h kV doc pm an B5 ct)
theorem Tv {x qual:Str}{st:Stmt}{f:Addr}{oc:Value}{od an:Option Addr}{T7:Array (Option Value)}{kV doc pm B5 ct:Value}(l:K.lookup f=some ⟨oc,od,.func (zZ x qual (Bk st) (AM st) (A4 st) .none kV doc pm an B5 ct),T7⟩)
 (c:yU K B5 qual=true) (k:yB K (.ref f)=true):Xc K x qual st f (zZ x qual (Bk st) (AM st) (A4 st) .none kV doc pm an B5 ct):=⟨⟨oc,od,kV,doc,pm,an,B5,ct,T7,rfl,l,c⟩,k⟩
end
theorem AE {n:Nat}(h:n<=1000):n<sizeLine:=Nat.lt_of_le_of_lt h (by decide)
section
variable {X:Cx}
theorem pv (i:Nat){x:Str}{pos:Pos}(hN:X.N[i]?=some x:=by rfl)(hv:sJ X.env.scope x:=by first | exact zT rfl | exact Or.inr (zT rfl) | exact Or.inr (Or.inr rfl))(hd:(x==("__debug__" : Str))=false:=by decide)
 (be:(x==("__classdict__" : Str))=false:=by decide):PE X (.Name x pos) (Lb i):=jK hN hv hd be
end
def Ad (H H':Hp):Prop:=∀b o,H b=some o->H' b=some o
theorem Ad.refl (H:Hp):Ad H H:=λ _ _ h=>h
theorem Ad.trans {H H1 H2:Hp}(a:Ad H H1)(b:Ad H1 H2):Ad H H2:=λ c o h=>b c o (a c o h)
theorem Ad.seq {K:za}{H H':Hp}{a:Addr}{xs:List V}(e:Ad H H')(h:CJ K H a xs):CJ K H' a xs:=by
 rcases h with (h|⟨o,h⟩)|h
 ·exact .inl (.inl (e _ _ h))
 ·exact .inl (.inr ⟨o,e _ _ h⟩)
 ·exact .inr h
section
variable {κ:Type} [DecidableEq κ]
noncomputable def O2 (kvs:List (κ×V))(k:κ):Option V:=(kvs.find? λ kv=>decide (kv.1=k)).map (·.2)
noncomputable def putK (kvs:List (κ×V))(k:κ)(v:V):List (κ×V):=
 if (kvs.any λ kv=>decide (kv.1=k))=true then kvs.map (λ kv=>if kv.1=k then (kv.1,v) else kv) else kvs++[(k,v)]
theorem Me {p:κ×V}{r:List (κ×V)}{k:κ}(e:p.1=k):O2 (p::r) k=some p.2:=by simp[O2,zap,e]
theorem Mf {p:κ×V}{r:List (κ×V)}{k:κ}(e:¬ p.1=k):O2 (p::r) k=O2 r k:=by simp[O2,zap,e]
theorem Rr (k:κ):∀kvs:List (κ×V),(kvs.any λ kv=>decide (kv.1=k))=(O2 kvs k).isSome
 |[]=>rfl
 |p::r=>by
  rw[zau];by_cases e:p.1=k
  ·simp only[Me e,decide_eq_true e,Bool.true_or,Option.isSome_some]
  ·rw[Mf e,decide_eq_false e,Bool.false_or];exact Rr k r
theorem Ey (kvs:List (κ×V))(k:κ)(v:V):(putK kvs k v).length<=kvs.length+1:=by
 unfold putK;split
 ·rw[zc];omega
 ·rw[zC,zl,List.length_nil];omega
theorem G1.EU {o:Option V}{u:Option Value}(r:G1 o u):o.isSome=u.isSome:=by
 cases o with
 |none=>cases u with
  |none=>rfl
  |some _=>exact (show False from r).elim
 |some _=>cases u with
  |none=>exact (show False from r).elim
  |some _=>rfl
theorem G1.getD {o:Option V}{u:Option Value}{d:V}{d':Value}(r:G1 o u)(rd:RelV d d'):RelV (o.getD d) (u.getD d'):=by
 cases o with
 |none=>cases u with
  |none=>exact rd
  |some _=>exact (show False from r).elim
 |some _=>cases u with
  |none=>exact (show False from r).elim
  |some _=>exact r
theorem KV.val {kvs:List (κ×V)}{vs:List (κ×Value)}(r:KV kvs vs)(k:κ):G1 (O2 kvs k) (valueAt vs k):=by
 unfold KV at r;induction r with
 |nil=>exact zai
 | @cons p q ps qs h t ih =>
  obtain⟨h1,h2⟩:=h;by_cases e:p.1=k
  ·have e':q.1=k:=h1.symm.trans e;have b:valueAt (q::qs) k=some q.2:=by simp[valueAt,zap,e']
   rw[Me e,b];exact h2
  ·have e':¬ q.1=k:=λ z=>e (h1.trans z);have b:valueAt (q::qs) k=valueAt qs k:=by simp[valueAt,zap,e']
   rw[Mf e,b];exact ih
theorem KV.any {kvs:List (κ×V)}{vs:List (κ×Value)}(r:KV kvs vs)(k:κ):(kvs.any λ kv=>decide (kv.1=k))=vs.any λ kv=>decide (kv.1=k):=by
 unfold KV at r;induction r with
 |nil=>rfl
 |cons h t ih=>rw[zau,zau,ih,h.1]
theorem KV.kS {kvs:List (κ×V)}{vs:List (κ×Value)}(r:KV kvs vs)(k:κ){y:V}{u:Value}(ry:RelV y u):
 KV (kvs.map λ kv=>if kv.1=k then (kv.1,y) else kv) (vs.map λ kv=>if kv.1=k then (kv.1,u) else kv):=by
 unfold KV at r ⊢;induction r with
 |nil=>exact .nil
 | @cons p q ps qs h t ih =>
  rw[zf,zf];refine .cons ?_ ih;obtain⟨h1,h2⟩:=h;by_cases e:p.1=k
  ·rw[if_pos e,if_pos (h1.symm.trans e)];exact⟨h1,ry⟩
  ·rw[if_neg e,if_neg (λ z=>e (h1.trans z))];exact⟨h1,h2⟩
theorem KV.put {kvs:List (κ×V)}{vs:List (κ×Value)}(r:KV kvs vs)(k:κ){y:V}{u:Value}(ry:RelV y u):KV (putK kvs k y) (stored vs k u):=by
 unfold putK stored;rw[r.any k];by_cases e:(vs.any λ kv=>decide (kv.1=k))=true
 ·rw[if_pos e,if_pos e];exact r.kS k ry
 ·rw[if_neg e,if_neg e];exact Paired.snoc r ⟨rfl,ry⟩
theorem KV.length {kvs:List (κ×V)}{vs:List (κ×Value)}(r:KV kvs vs):kvs.length=vs.length:=Paired.length r
end
theorem Mg {P:Program}{w:World}{k:Key}{u:Value}(r:RelV (kV k) u):(B9 P w).is k u=true:=by
 cases k with
 |inl i=>obtain⟨t,e⟩:=(show ∃t,u=Value.int i t from r);subst e;exact R8 P w i t
 |inr x=>obtain⟨t,e⟩:=(show ∃t,u=Value.str x t from r);subst e;exact R9 P w x t
theorem OE {P:Program}{w:World}:∀ {ks:List Key}{us:List Value},Vals (ks.map kV) us->ItemsAre (B9 P w) ks us
 |[],_,r=>by rw[zaf] at r;cases r;exact .nil
 |k::ks,_,r=>by
  rw[zf] at r;cases r with
  |cons h t=>exact .cons (Mg h) (OE t)
noncomputable abbrev KT (H:Hp):List (List Key×V)->List (List Key×Addr×Value)->Prop:=Paired λ p q=>p.1=q.1/\H q.2.1=some (.tup (p.1.map kV))/\RelV p.2 q.2.2
theorem KT.val {H:Hp}{kvs:List (List Key×V)}{xs:List (List Key×Addr×Value)}(r:KT H kvs xs)(k:List Key):G1 (O2 kvs k) ((atKey xs k).map (·.2)):=by
 induction r with
 |nil=>exact zai
 | @cons p q ps qs h t ih =>
  obtain⟨h1,_,h2⟩:=h;by_cases e:p.1=k
  ·have e':q.1=k:=h1.symm.trans e;have b:atKey (q::qs) k=some q.2:=by simp[atKey,zap,e']
   rw[Me e,b];exact h2
  ·have e':¬ q.1=k:=λ z=>e (h1.trans z);have b:atKey (q::qs) k=atKey qs k:=by simp[atKey,zap,e']
   rw[Mf e,b];exact ih
theorem KT.kS {H:Hp}{kvs:List (List Key×V)}{xs:List (List Key×Addr×Value)}(r:KT H kvs xs)(k:List Key){y:V}{u:Value}(ry:RelV y u):
 KT H (kvs.map λ kv=>if kv.1=k then (kv.1,y) else kv) (xs.map (putAt k u)):=by
 induction r with
 |nil=>exact .nil
 | @cons p q ps qs h t ih =>
  rw[zf,zf];refine .cons ?_ ih;obtain⟨h1,h2,h3⟩:=h;unfold putAt;by_cases e:p.1=k
  ·rw[if_pos e,if_pos (h1.symm.trans e)];exact⟨h1,h2,ry⟩
  ·rw[if_neg e,if_neg (λ z=>e (h1.trans z))];exact⟨h1,h2,h3⟩
theorem KT.put {H:Hp}{kvs:List (List Key×V)}{xs:List (List Key×Addr×Value)}(r:KT H kvs xs)(k:List Key){b:Addr}{y:V}{u:Value}(hb:H b=some (.tup (k.map kV)))(ry:RelV y u):
 KT H (putK kvs k y) (storedH xs k b u):=by
 have e:(kvs.any λ kv=>decide (kv.1=k))=(atKey xs k).isSome:=by
  rw[Rr,(r.val k).EU,Option.isSome_map]
 unfold putK storedH;rw[e];by_cases q:(atKey xs k).isSome=true
 ·rw[if_pos q,if_pos q];exact r.kS k ry
 ·rw[if_neg q,if_neg q];exact Paired.snoc r ⟨rfl,hb,ry⟩
theorem KT.keeps {H H':Hp}{kvs:List (List Key×V)}{xs:List (List Key×Addr×Value)}(r:KT H kvs xs)(ht:∀b ys,H b=some (.tup ys)->H' b=some (.tup ys)):KT H' kvs xs:=
 Paired.jH r λ _ _ z=>⟨z.1,ht _ _ z.2.1,z.2.2⟩
section
variable {P:Program}{w:World}{H:Hp}{h:Heap}{a:Addr}
theorem iE {u:HO}(ok:FR P w H h)(e:Rd H a u):BU P w H h a u:=e.ok ok
theorem Mh {kvs:List (Key×V)}(ok:FR P w H h)(e:Rd H a (.dK kvs)):kvs.length<=sizeLine/\(a==sysModules)=false/\∃vs,KV kvs vs/\h.DictOf (B9 P w) a vs:=
 show BU P w H h a (.dK kvs) from iE ok e
theorem iF {kvs:List (Key×V)}(ok:FR P w H h)(e:H a=some (.dK kvs)):kvs.length<=sizeLine/\(a==sysModules)=false/\∃vs,KV kvs vs/\h.DictOf (B9 P w) a vs:=Mh ok (.inl e)
theorem HW {ks:List Key}(ok:FR P w H h)(e:H a=some (.tup (ks.map kV))):(tupleKind (B9 P w)).is h ks a:=by
 obtain⟨_,aa,r,o,h1,h2,n,h3⟩:=(show BU P w H h a (.tup (ks.map kV)) from ok a _ e);exact⟨o,aa.toArray,n,h1,h2,h3,by simpa using OE r⟩
theorem Mi {kvs:List (List Key×V)}(ok:FR P w H h)(e:Rd H a (.dT kvs)):kvs.length<=sizeLine/\(a==sysModules)=false/\
 ∃xs,KT H kvs xs/\h.DictOfH (tupleKind (B9 P w)) a xs:=by
 obtain⟨z,y,xs,r,o,es,ep,h1,h2,h3,h4,h5⟩:=(show BU P w H h a (.dT kvs) from iE ok e);refine⟨z,y,xs,r,o,es,ep,h1,h2,h3,h4,λ x hx=>?_,h5⟩;have all:∀ {l:List (List Key×V)} {m:List (List Key×Addr×Value)},KT H l m->∀x∈m,(tupleKind (B9 P w)).is h x.1 x.2.1:=by
  intro l m q;induction q with
  |nil=>intro x hx;exact nomatch hx
  | @cons p q ps qs hq t ih =>
   intro x hx;rcases zp.mp hx with e|hx
   ·subst e;exact HW ok (by rw[<-hq.1];exact hq.2.1)
   ·exact ih x hx
 exact all r x hx
theorem pH {kvs:List (List Key×V)}(ok:FR P w H h)(e:H a=some (.dT kvs)):kvs.length<=sizeLine/\(a==sysModules)=false/\
 ∃xs,KT H kvs xs/\h.DictOfH (tupleKind (B9 P w)) a xs:=Mi ok (.inl e)
end
def PR (H:Hp)(a:Addr)(y:V)(r:Option V):Prop:=
 (∃kvs k,Rd H a (.dK kvs)/\y=kV k/\r=O2 kvs k)\/∃kvs k b,Rd H a (.dT kvs)/\y=.ref b/\H b=some (.tup (k.map kV))/\r=O2 kvs k
def pI (H:Hp)(a:Addr)(y v:V)(H':Hp):Prop:=
 (∃kvs k,H a=some (.dK kvs)/\y=kV k/\kvs.length<sizeLine/\H'=upd H a (.dK (putK kvs k v))) \/
 ∃kvs k b,H a=some (.dT kvs)/\y=.ref b/\H b=some (.tup (k.map kV))/\kvs.length<sizeLine/\H'=upd H a (.dT (putK kvs k v))
section
variable {X:Cx}{pins:List (Addr×Obj)}{σ:St}{H:Hp}{s:Shared}{a:Addr}{y v:V}{u r:Value}{o:Option V}{A:Around}{E:Value->Shared->Prop}
theorem Inv.big (I:Inv X pins σ H s):sysModules<s.heap.objs.size:=by
 have h:mainGlobals<s.heap.objs.size:=(I.mod.glob.keeps I.bk).lt;exact Nat.lt_trans (by decide) h
theorem W0 {Q:Value->Shared->Prop}(hu:A.units+1<cLine)(I:Inv X pins σ H s)(g:PR H a y (some v))(ry:RelV y u)(h:∀w' s',Inv X pins σ H s'->RelV v w'->Q w' s'):
 wpAny (model X.prog X.w) A (getItem (.ref a) u) Q E s:=by
 rcases g with ⟨kvs,k,e,ey,l⟩|⟨kvs,k,b,e,ey,eb,l⟩
 ·subst ey;obtain⟨z,hd,vs,rel,dd⟩:=Mh I.As e;obtain⟨w',hw,bg⟩:=G1.some_of (v:=v) (o:=valueAt vs k) (by rw[l];exact rel.val k);exact wpAny_getItem_of (Mg ry) dd.mapOf hw (h w' _ (I.tok _) bg)
 ·subst ey;cases (show u=y9 b from ry);obtain⟨z,hd,xs,rel,dd⟩:=Mi I.As e;obtain⟨w',hw,bg⟩:=G1.some_of (v:=v) (o:=(atKey xs k).map (·.2)) (by rw[l];exact rel.val k);obtain⟨p,hp,ve⟩:=Option.map_eq_some_iff.mp hw;refine wpAny_getItem_heap (tupleKind_room_in1 hu) (HW I.As eb) dd hp ?_;rw[ve];exact h w' _ (I.tok _) bg
theorem tN {Q:Value->Shared->Prop}(hu:A.units+1<cLine)(I:Inv X pins σ H s)(g:PR H a y o)(ry:RelV y u)(h:∀s',Inv X pins σ H s'->Q (.bool o.isSome) s'):
 wpAny (model X.prog X.w) A (compareOp .In u (.ref a)) Q E s:=by
 rcases g with ⟨kvs,k,e,ey,l⟩|⟨kvs,k,b,e,ey,eb,l⟩
 ·subst ey;obtain⟨z,hd,vs,rel,dd⟩:=Mh I.As e;refine wpAny_in_of (Mg ry) hd dd.mapOf ?_;rw[<-(rel.val k).EU,<-l];exact h _ (I.tok _)
 ·subst ey;cases (show u=y9 b from ry);obtain⟨z,hd,xs,rel,dd⟩:=Mi I.As e;refine wpAny_in_heap (tupleKind_room_in1 hu) (HW I.As eb) hd dd ?_;have q:=(rel.val k).EU;rw[Option.isSome_map] at q;rw[<-q,<-l];exact h _ (I.tok _)
theorem cX {Q:Value->Shared->Prop}(hu:A.units+1<cLine)(I:Inv X pins σ H s)(g:PR H a y o)(ry:RelV y u)(h:∀s',Inv X pins σ H s'->Q (.bool (!o.isSome)) s'):
 wpAny (model X.prog X.w) A (compareOp .NotIn u (.ref a)) Q E s:=by
 rcases g with ⟨kvs,k,e,ey,l⟩|⟨kvs,k,b,e,ey,eb,l⟩
 ·subst ey;obtain⟨z,hd,vs,rel,dd⟩:=Mh I.As e;refine wpAny_notIn_of (Mg ry) hd dd.mapOf ?_;rw[<-(rel.val k).EU,<-l];exact h _ (I.tok _)
 ·subst ey;cases (show u=y9 b from ry);obtain⟨z,hd,xs,rel,dd⟩:=Mi I.As e;refine wpAny_notIn_heap (tupleKind_room_in1 hu) (HW I.As eb) hd dd ?_;have q:=(rel.val k).EU;rw[Option.isSome_map] at q;rw[<-q,<-l];exact h _ (I.tok _)
theorem PV {h':Heap}{t':Nat}{ob:HO}(I:Inv X pins σ H s)(mu:oA (H a))(hs:zag a s.heap h')(he:∃q,h'.get? a=some q)(new:BU X.prog X.w (upd H a ob) h' a ob):
 Inv X pins σ (upd H a ob) {s with heap:=h',toks:=t' }:=
 I.write (x:=a) (e:=a) mu (.inl rfl) (λ b q hb z=>(hs.2 b hb).trans z) he new
theorem XO {P:Program}{w:World}{H':Hp}{h':Heap}{kvs:List (Key×V)}{vs:List (Key×Value)}(z:kvs.length<=sizeLine)(hd:(a==sysModules)=false)(rel:KV kvs vs)(dd:h'.DictOf (B9 P w) a vs):
 BU P w H' h' a (.dK kvs):=⟨z,hd,vs,rel,dd⟩
theorem W2 {H':Hp}{Q:Unit->Shared->Prop}(hu:A.units+1<cLine)(I:Inv X pins σ H s)(g:pI H a y v H')(ry:RelV y u)(rv:RelV v r)(h:∀s',Inv X pins σ H' s'->Q () s'):
 wpAny (model X.prog X.w) A (setItem (.ref a) u r) Q E s:=by
 rcases g with ⟨kvs,k,e,ey,l,eH⟩|⟨kvs,k,b,e,ey,eb,l,eH⟩
 ·subst ey eH;obtain⟨z,hd,vs,rel,dd⟩:=iF I.As e;have hz:vs.length<=sizeLine:=by rw[<-rel.length];exact z
  have hl:(putK kvs k v).length<=sizeLine:=by have:=Ey kvs k v;omega
  refine wpAny_setItem_pairs (hsz:=hz) (Mg ry) dd λ h' e9 hs=>h _ ?_;have he:∃q,h'.get? a=some q:=let ⟨q,_,_,hq,_⟩:=e9;⟨q,hq⟩;exact PV I (by rw[e];exact zai) hs he (XO hl hd (rel.put k rv) e9)
 ·subst ey eH;cases (show u=y9 b from ry);obtain⟨z,hd,xs,rel,dd⟩:=pH I.As e;have hz:xs.length<=sizeLine:=by rw[<-Paired.length rel];exact z
  have hl:(putK kvs k v).length<=sizeLine:=by have:=Ey kvs k v;omega
  refine wpAny_setItem_heap (hsz:=hz) (tupleKind_room_in1 hu) (HW I.As eb) dd λ h' e9 hs=>h _ ?_;obtain⟨q,es,ep,hq,h2,h3,h4,_,h5⟩:=e9;refine PV I (by rw[e];exact zai) hs ⟨q,hq⟩ ⟨hl,hd,_,(rel.put k eb rv).keeps λ c ys ec=>?_,q,es,ep,hq,h2,h3,h4,h5⟩;rw[Ah (nZ ec e (λ z=>nomatch z))];exact ec
end
theorem Rt {X:Cx}{pins:List (Addr×Obj)}{σ:St}{H:Hp}{s:Shared}{a:Addr}{y:V}{o:Option V}(I:Inv X pins σ H s)(g:PR H a y o):s.TypeIs (.ref a) "dict" := by
 rcases g with ⟨kvs,k,e,_,_⟩|⟨kvs,k,b,e,_,_,_⟩
 ·obtain⟨_,_,vs,_,dd⟩:=Mh I.As e;exact dd.typeIs
 ·obtain⟨_,_,xs,_,dd⟩:=Mi I.As e;exact dd.typeIs
noncomputable def pJ (td ty tv:TE):TS:=λ D σ H=>tv σ H λ v H1=>td σ H1 λ x H2=>ty σ H2 λ y H3=>∃a H4,x=.ref a/\pI H3 a y v H4/\D.nx σ H4
section
variable {X:Cx}{o i e value:Expr}{pos pos' aF:Pos}{td ty tv:TE}
theorem cY (hu:X.A.units+1<cLine)(ho:PE X o td)(hi:PE X i ty)(hv:PE X value tv)(hs:swapsWith value (some (.Subscript o i pos')) pos.line X.env=pure false):
 PS X (.Assign [.Subscript o i pos'] value pos) (pJ td ty tv):=by
 intro pins s σ H D I h;refine wpAny_Assign_Subscript (Bg (hv pins s σ H _ I h) λ r s1 ⟨v,H1,I1,rv,q1⟩=>Bg (ho pins s1 σ H1 _ I1 q1) λ u s2 ⟨x,H2,I2,rx,q2⟩=>Bg (hi pins s2 σ H2 _ I2 q2) λ iv s3 ⟨y,H3,I3,ry,a,H4,ex,g,q3⟩=>?_) hs;subst ex;obtain rfl:u=y9 a:=rx;exact W2 hu I3 g ry rv λ s4 I4=>⟨σ,H4,I4,q3⟩
end
theorem Ru {P:Program}{w:World}{H:Hp}(h:Heap)(hb:sysModules<h.objs.size):BU P w H (h.push {cls:=.type "dict",data:=.dict #[]}) h.objs.size (.dK []):=
 ⟨zJ _,beq_eq_false_iff_ne.mpr (zX (zB hb)),[],.nil,Heap.DictOf.new h⟩
theorem XQ {P:Program}{w:World}{H:Hp}(h:Heap)(hb:sysModules<h.objs.size):BU P w H (h.push {cls:=.type "dict",data:=.dict #[]}) h.objs.size (.dT []):=
 ⟨zJ _,beq_eq_false_iff_ne.mpr (zX (zB hb)),[],.nil,_,#[],0,zE _ rfl,⟨rfl,rfl,rfl⟩,rfl,rfl,yM⟩
noncomputable def kT:TE:=λ _ H Q=>∀p,H p=none->Q (.ref p) (upd H p (.dK []))
noncomputable def kU:TE:=λ _ H Q=>∀p,H p=none->Q (.ref p) (upd H p (.dT []))
section
variable {X:Cx}{pos:Pos}
theorem XR:PE X (.Dict [] [] pos) kT:=λ pins s σ H Q I h =>
 wpAny_Dict_empty ⟨.ref s.heap.objs.size,_,I.laid (a:=s.heap.objs.size) (o:=.dK []) (t':=s.toks) (λ _ _ q=>zq _ q) (zx _) (Ru s.heap I.big),rfl,h _ (I.As.fresh (zx _))⟩
theorem XS:PE X (.Dict [] [] pos) kU:=λ pins s σ H Q I h =>
 wpAny_Dict_empty ⟨.ref s.heap.objs.size,_,I.laid (a:=s.heap.objs.size) (o:=.dT []) (t':=s.toks) (λ _ _ q=>zq _ q) (zx _) (XQ s.heap I.big),rfl,h _ (I.As.fresh (zx _))⟩
end
def Tw:List (TE×TE)->St->Hp->(List (V×V)->Hp->Prop)->Prop
 |[],_,H,Q=>Q [] H
 |(tk,tv)::r,σ,H,Q=>tk σ H λ x H1=>tv σ H1 λ y H2=>Tw r σ H2 λ ps H3=>Q ((x,y)::ps) H3
noncomputable abbrev VV:List (V×V)->List (Value×Value)->Prop:=Paired λ p q=>RelV p.1 q.1/\RelV p.2 q.2
def rL (X:Cx)(pos:Pos)(keys:List (Option Expr))(values:List Expr)(c7:List (TE×TE)):Prop:=
 ∀(pins:List (Addr×Obj)) (s:Shared) (σ:St) (H:Hp) (Q:List (V×V)->Hp->Prop),Inv X pins σ H s->Tw c7 σ H Q->
  wpAny (model X.prog X.w) X.A (evalPairs (pairTrees keys values X.env pos)) (λ vs s'=>∃ps H',Inv X pins σ H' s'/\VV ps vs/\Q ps H') X.xe s
theorem cZ {X:Cx}{pos:Pos}:rL X pos [] [] []:=λ pins s σ H Q I h=>pairTrees_nil_walk ⟨[],H,I,.nil,h⟩
theorem XT {X:Cx}{pos:Pos}{k v:Expr}{ks:List (Option Expr)}{vs:List Expr}{tk tv:TE}{c7:List (TE×TE)}(hk:PE X k tk)(hv:PE X v tv)(hr:rL X pos ks vs c7):
 rL X pos (some k::ks) (v::vs) ((tk,tv)::c7):=λ pins s σ H Q I h =>
 pairTrees_cons_walk (Bg (hk pins s σ H _ I h) λ u s1 ⟨x,H1,I1,rx,q1⟩=>Bg (hv pins s1 σ H1 _ I1 q1) λ w2 s2 ⟨y,H2,I2,ry,q2⟩ =>
  Bg (hr pins s2 σ H2 _ I2 q2) λ ws s3 ⟨ps,H3,I3,rel,q3⟩=>⟨(x,y)::ps,H3,I3,.cons ⟨rx,ry⟩ rel,q3⟩)
noncomputable def Gd (kvs more:List (Key×V)):List (Key×V):=more.foldl (λ acc kv=>putK acc kv.1 kv.2) kvs
theorem KV.merge:∀ {more:List (Key×V)}{rs:List (Key×Value)}{kvs:List (Key×V)}{vs:List (Key×Value)},KV more rs->KV kvs vs->KV (Gd kvs more) (merged vs rs):=by
 intro more rs kvs vs r;unfold KV at r;induction r generalizing kvs vs with
 |nil=>intro q;exact q
 | @cons p q ps qs h t ih =>
  intro r0;have e:KV (putK kvs p.1 p.2) (stored vs q.1 q.2):=by
   have:=r0.put p.1 h.2;rw[<-h.1];exact this
  exact ih e
theorem Hz:∀(more kvs:List (Key×V)),(Gd kvs more).length<=kvs.length+more.length
 |[],kvs=>by show kvs.length<=kvs.length+0;omega
 |p::r,kvs=>by
  have h1:=Hz r (putK kvs p.1 p.2);have h2:=Ey kvs p.1 p.2;show (Gd (putK kvs p.1 p.2) r).length<=_;rw[zl];omega
theorem Mj {P:Program}{w:World}:∀ {kvs:List (Key×V)}{ws:List (Value×Value)},VV (kvs.map λ kv=>(kV kv.1,kv.2)) ws->∃rs,Carries (B9 P w) ws rs/\KV kvs rs
 |[],_,r=>by rw[zaf] at r;cases r;exact⟨[],zai,.nil⟩
 |p::kvs,_,r=>by
  rw[zf] at r;cases r with
  | @cons a b as bs h t =>
   obtain⟨rs,c,q⟩:=Mj (P:=P) (w:=w) t;obtain⟨b1,b2⟩:=b;exact⟨(p.1,b2)::rs,⟨Mg h.1,rfl,c⟩,.cons ⟨rfl,h.2⟩ q⟩
noncomputable def pK (c7:List (TE×TE)):TE:=λ σ H Q=>∀p,H p=none->Tw c7 σ (upd H p (.dK [])) λ ps H2=>H2 p=some (.dK [])/\∃kvs:List (Key×V),ps=kvs.map (λ kv=>(kV kv.1,kv.2))/\kvs.length<=15/\Q (.ref p) (upd H2 p (.dK (Gd [] kvs)))
theorem dA {X:Cx}{pos:Pos}{keys:List (Option Expr)}{values:List Expr}{c7:List (TE×TE)}(h:rL X pos keys values c7)(aL:keys.all (·.isSome)=true)(hl:keys.length=values.length)(h0:keys≠[])
 (vg:keys.length<=15):PE X (.Dict keys values pos) (pK c7):=by
 intro pins s σ H Q I q;have hn:=I.As.fresh (zx s.heap.objs.size);have I1:=I.laid (a:=s.heap.objs.size) (o:=.dK []) (h':=s.heap.push {cls:=.type "dict",data:=.dict #[]}) (t':=s.toks) (λ _ _ q=>zq _ q) (zx _) (Ru s.heap I.big);refine wpAny_Dict_walk (knd:=B9 X.prog X.w) aL hl h0 vg (Bg (h pins _ σ _ _ I1 (q _ hn)) λ ws s2 ⟨ps,H2,I2,rel,e,kvs,ep,lk,q2⟩=>?_);subst ep;obtain⟨rs,c,rk⟩:=Mj (P:=X.prog) (w:=X.w) rel;obtain⟨z,hd,sf,r0,dd⟩:=iF I2.As e;cases r0;refine⟨rs,c,dd,λ h' e9 hs=>⟨.ref s.heap.objs.size,_,?_,rfl,q2⟩⟩;have hz:(Gd [] kvs).length<=sizeLine:=by
  have h1:=Hz kvs [];rw[List.length_nil] at h1;rw[sizeLine_eq];omega
 have he:∃q,h'.get? s.heap.objs.size=some q:=let ⟨q,_,_,hq,_⟩:=e9;⟨q,hq⟩;exact PV I2 (by rw[e];exact zai) hs he (XO hz hd (rk.merge .nil) e9)
structure M1 (X:Cx)(o:Expr)(m:Str)(apos:Pos)(e:Expr)(ad:Pos):Prop where
 base:attributeBase o m X.env (eval o X.env)=eval o X.env
 vQ:((backTo ad (starEach [e] X.env)).all (λ x => !x.1)&&(backToKw ad (keywordEach [] X.env)).all (λ x=>x.1.isSome)
  && decide (([e]:List Expr).length+([]:List Keyword).length+(if ([]:List Keyword).isEmpty then 0 else 1)<30))=true
 line:(apos.endLine==ad.line)=true
 pL:backTo ad (starEach [e] X.env)=[(false,eval e X.env)]
def tO (H:Hp)(a:Addr):Prop:=(∃kvs,Rd H a (.dK kvs))\/∃kvs,Rd H a (.dT kvs)
theorem Tx {X:Cx}{pins:List (Addr×Obj)}{σ:St}{H:Hp}{s:Shared}{a:Addr}(I:Inv X pins σ H s)(d:tO H a):
 s.TypeIs (.ref a) "dict" /\ (∀b,y9 a=.ref b->∃ob,s.heap.get? b=some ob/\ob.dict=none)/\(a==sysModules)=false:=by
 rcases d with ⟨kvs,e⟩|⟨kvs,e⟩
 ·obtain⟨_,hd,vs,_,dd⟩:=Mh I.As e;refine⟨dd.typeIs,λ b q=>?_,hd⟩;cases q;obtain⟨ob,_,_,h1,h2,_⟩:=dd;exact⟨ob,h1,h2.2.1⟩
 ·obtain⟨_,hd,xs,_,dd⟩:=Mi I.As e;refine⟨dd.typeIs,λ b q=>?_,hd⟩;cases q;obtain⟨ob,_,_,h1,h2,_⟩:=dd;exact⟨ob,h1,h2.2.1⟩
section
variable {X:Cx}{pins:List (Addr×Obj)}{σ:St}{H:Hp}{s:Shared}{a:Addr}{y d:V}{u r:Value}{o:Option V}{A:Around}{E:Value->Shared->Prop}
theorem kW {Q:Value->Shared->Prop}(hu:A.units+1<cLine)(I:Inv X pins σ H s)(g:PR H a y o)(ry:RelV y u)(h:∀w' s',Inv X pins σ H s'->RelV (o.getD .AA) w'->Q w' s'):
 wpAny (model X.prog X.w) A (call (.builtin "dict.get") [.ref a,u]) Q E s:=by
 rcases g with ⟨kvs,k,e,ey,l⟩|⟨kvs,k,b,e,ey,eb,l⟩
 ·subst ey;obtain⟨z,hd,vs,rel,dd⟩:=Mh I.As e;refine call_meetsIn PySem.F.slot_dict_get dd.typeIs PySem.F.entry_dict_get (PySem.F.args_dict_get_2 _ _) (meets_dict_get (B9 X.prog X.w) a (Mg ry) hd) ⟨_,dd.mapOf,h _ _ (I.tok _) ?_⟩;rw[l];exact (rel.val k).getD rfl
 ·subst ey;cases (show u=y9 b from ry);obtain⟨z,hd,xs,rel,dd⟩:=Mi I.As e;refine call_meetsIn PySem.F.slot_dict_get dd.typeIs PySem.F.entry_dict_get (PySem.F.args_dict_get_2 _ _) (meetsH_dict_get (tupleKind (B9 X.prog X.w)) a b hd) ⟨tupleKind_room_in1 hu,k,xs,HW I.As eb,dd,h _ _ (I.tok _) ?_⟩;rw[l];exact (rel.val k).getD rfl
end
noncomputable def kX (td ty:TE):TE:=λ σ H Q=>td σ H λ x H1=>∃a,x=.ref a/\tO H1 a/\ty σ H1 λ y H2=>∃o,PR H2 a y o/\Q (o.getD .AA) H2
section
variable {X:Cx}{o e f:Expr}{apos ad:Pos}{td ty tx:TE}
theorem XU (hu:X.A.units+1<cLine)(ho:PE X o td)(he:PE X e ty)(m:M1 X o "get" apos e ad):PE X (.Call (.Attribute o "get" apos) [e] [] ad) (kX td ty):=by
 intro pins s σ H Q I h;refine wpAny_Call_method m.base m.vQ m.line PySem.F.plainAttrs_dict PySem.F.slot_dict_get PySem.F.type_dict_get (Bg (ho pins s σ H _ I h) λ u s1 ⟨x,H1,I1,rx,a,ex,d,q1⟩=>?_);subst ex;obtain rfl:u=y9 a:=rx;obtain⟨t1,t2,_⟩:=Tx I1 d;refine⟨t1,t2,?_⟩;rw[m.pL];refine Calls.callWith_builtin rfl (Calls.evalArgs_plain (zal (Bg (he pins s1 σ H1 _ I1 q1) λ iv s2 ⟨y,H2,I2,ry,ov,g,q2⟩=>zas ?_)));exact kW hu I2 g ry λ w' s3 I3 bg=>⟨_,H2,I3,bg,q2⟩
end
noncomputable def UL (y:Str×NameKind):Bool:=y.2==.cell
noncomputable def Ff (sc outer:Scope):Bool:=
 decide (sc.kind=.function)&&(decide ((sc.names.filter UL).length<=1)&&sc.names.all λ y=>(decide (y.2≠.cell)||decide (sc.names.lookup y.1=some .cell))&&(decide (y.2≠.free)||decide (outer.names.lookup y.1=some .cell)||decide (outer.names.lookup y.1=some .free))&&(decide (y.2≠.local)||decide (sc.names.lookup y.1=some .local)))
noncomputable def Fg (names:List (Str×NameKind)):Option Str:=(names.find? UL).map (·.1)
noncomputable def UM (C:Addr)(names:List (Str×NameKind))(cs:List (Str×Addr)):List (Str×Addr):=match Fg names with
 |some x=>(x,C+1)::cs
 |none=>cs
theorem Rv {names:List (Str×NameKind)}{x:Str}(h:Fg names=some x):(x,.cell)∈names:=by
 unfold Fg at h;obtain⟨y,h1,rfl⟩:=Option.map_eq_some_iff.mp h;have h2:=List.find?_some h1;have e:y.2=.cell:=by unfold UL at h2;simpa using h2
 have:=List.mem_of_find?_eq_some h1;rw[<-e];exact this
theorem kY {names:List (Str×NameKind)}(h:(names.filter UL).length<=1){x:Str}(hx:(x,.cell)∈names):Fg names=some x:=by
 induction names with
 |nil=>cases hx
 |cons y r ih =>
  unfold Fg;cases e:UL y with
  |true =>
   rw[List.filter_cons_of_pos e,zl] at h;rw[List.find?_cons_of_pos e];rcases zp.mp hx with rfl|hx
   ·rfl
   ·have:(x,NameKind.cell)∈r.filter UL:=yI.mpr ⟨hx,rfl⟩;rw[List.eq_nil_of_length_eq_zero (l:=r.filter UL) (by omega)] at this;cases this
  |false =>
   rw[List.filter_cons_of_neg (by rw[e];exact z9)] at h;rw[List.find?_cons_of_neg (by rw[e];exact z9)];rcases zp.mp hx with rfl|hx
   ·cases e
   ·exact ih h hx
theorem Tz:∀ {names:List (Str×NameKind)}{n:Nat}{acc:List (Str×Addr)},(names.filter UL).length<=1->cellsFrom n names acc=match Fg names with | some x=>(x,n)::acc | none=>acc
 |[],_,_,_=>rfl
 |(x,k)::r,n,acc,h=>by
  unfold cellsFrom Fg;cases e:UL (x,k) with
  |true =>
   rw[List.filter_cons_of_pos e,zl] at h;rw[List.find?_cons_of_pos e,if_pos (show (k==NameKind.cell)=true from e),Tz (by omega)];cases q:Fg r with
   |none=>rfl
   |some y =>
    have:(y,NameKind.cell)∈r.filter UL:=yI.mpr ⟨Rv q,rfl⟩;rw[List.eq_nil_of_length_eq_zero (l:=r.filter UL) (by omega)] at this;cases this
  |false =>
   have e':¬ UL (x,k)=true:=by rw[e];exact z9
   rw[List.filter_cons_of_neg e'] at h;rw[List.find?_cons_of_neg e',if_neg (show ¬ (k==NameKind.cell)=true from e'),Tz h];rfl
noncomputable def Ml (N NB:List Str)(sc:Scope)(μ:List (Option Nat)):Bool:=
 decide (NB.length=μ.length)&&(NB.zip μ).all λ p=>match p.2 with
  |none=>true
  |some i=>decide (N[i]?=some p.1)&&decide (sc.names.lookup p.1=some .free)
noncomputable def EF (μ:List (Option Nat))(σ:St):St:=μ.map λ o=>o.bind λ i=>(σ[i]?).join
noncomputable def Fh (cells:List (Str×Addr)):List (Str×NameKind)->List (Str×Addr)->List (Str×Addr)
 |[],cs=>cs
 |(n,k)::r,cs=>Fh cells r (if (k==.free)=true then (n,(cells.lookup n).getD 0)::cs else cs)
theorem HA {scope:Scope}{env:Env}(h:∀y∈scope.names,y.2=.free->∃c,env.cells.lookup y.1=some c):closureFor scope env=pure (Fh env.cells scope.names []):=by
 unfold closureFor;have key:∀(names:List (Str×NameKind)) (cs:List (Str×Addr)),(∀y∈names,y.2=.free->∃c,env.cells.lookup y.1=some c)->
  (forIn names cs λ(x:Str×NameKind) r=>match x with
   |(name,kind)=>if (kind==zam)=true then do
    let __do_lift <-cellOf env name
    pure (zb2 ((name,__do_lift)::r))
    else pure (zb2 r):Sem _)=pure (Fh env.cells names cs):=by
  intro names;induction names with
  |nil=>intro cs _;rfl
  |cons y r ih =>
   intro cs hy;obtain⟨n,k⟩:=y;rw[List.forIn_cons];by_cases hk:k=.free
   ·subst hk;obtain⟨c,hc⟩:=hy (n,.free) zd rfl;have e:cellOf env n=pure c:=by unfold cellOf;rw[show env.cells.lookup n=some c from hc]
    simp only[e,beq_self_eq_true,if_true,pure_bind];rw[ih _ λ z hz=>hy z (ze _ hz)];simp only[Fh,beq_self_eq_true,if_true];rw[show env.cells.lookup n=some c from hc];rfl
   ·have hb:(k==zam)=false:=by simpa using hk
    simp only[hb,z8,if_false,pure_bind];rw[ih _ λ z hz=>hy z (ze _ hz)];simp only[Fh,hb,z8,if_false]
 have q:=key scope.names [] h;simp only[bind_pure];exact q
theorem Rw {cells:List (Str×Addr)}:∀ {names:List (Str×NameKind)}{cs:List (Str×Addr)}{x:Str}{c:Addr},(x,c)∈Fh cells names cs->(x,c)∈cs\/((x,.free)∈names/\c=(cells.lookup x).getD 0)
 |[],cs,x,c,h=>.inl h
 |(n,k)::r,cs,x,c,h=>by
  rcases Rw (names:=r) h with q|⟨q,e⟩
  ·by_cases hk:k=.free
   ·subst hk;simp only[beq_self_eq_true,if_true] at q;rcases zp.mp q with z|z
    ·cases z;exact .inr ⟨zd,rfl⟩
    ·exact .inl z
   ·have hb:(k==zam)=false:=by simpa using hk
    simp only[hb,z8,if_false] at q;exact .inl q
  ·exact .inr ⟨ze _ q,e⟩
theorem Mm {cells:List (Str×Addr)}:∀ {names:List (Str×NameKind)}{cs:List (Str×Addr)}{p:Str×Addr},p∈cs->p∈Fh cells names cs
 |[],_,_,h=>h
 |(n,k)::r,cs,p,h=>by
  show p∈Fh cells r _;refine Mm ?_;by_cases hk:(k==zam)=true
  ·rw[if_pos hk];exact ze _ h
  ·rw[if_neg hk];exact h
theorem Mn {cells:List (Str×Addr)}:∀ {names:List (Str×NameKind)}{cs:List (Str×Addr)}{x:Str},(x,.free)∈names->∃c,(x,c)∈Fh cells names cs
 |(n,k)::r,cs,x,h=>by
  rcases zp.mp h with z|z
  ·cases z;refine⟨(cells.lookup n).getD 0,?_⟩;show _∈Fh cells r (if (zam==zam)=true then _ else _);exact Mm (by rw[if_pos (beq_self_eq_true _)];exact zd)
  ·exact Mn (names:=r) z
theorem Dh {x:Str}{c:Addr}:∀ {l:List (Str×Addr)},(x,c)∈l->∃c',l.lookup x=some c'
 |(y,d)::r,h=>by
  rw[yR];by_cases e:(x==y)=true
  ·rw[e];exact⟨d,rfl⟩
  ·rw[Bool.eq_false_iff.mpr e];rcases zp.mp h with z|z
   ·cases z;exact absurd (beq_self_eq_true x) e
   ·exact Dh z
theorem II {scope:Scope}{env:Env}{x:Str}{k:NameKind}(h:(relabel scope env).names.lookup x=some k):∃k',scope.names.lookup x=some k'/\(k=k'\/(k'=.free/\k=.cell)):=by
 unfold relabel at h;dsimp only at h;revert h;induction scope.names with
 |nil=>intro h;cases h
 |cons y r ih =>
  obtain⟨n,k'⟩:=y;intro h;rw[zf,yR] at h;rw[yR];by_cases hc:(k'==zam&&env.scope.kind==.function&&env.kindOf n==some .cell)=true
  ·dsimp only at h;rw[if_pos hc] at h;dsimp only at h;cases e:x==n with
   |true =>
    rw[e] at h;have hf:k'=.free:=by
     have:=hc;simp only[zP] at this;simpa using this.1.1
    exact⟨k',rfl,.inr ⟨hf,(zD h).symm⟩⟩
   |false=>rw[e] at h;exact ih h
  ·dsimp only at h;rw[if_neg hc] at h;dsimp only at h;cases e:x==n with
   |true=>rw[e] at h;exact⟨k',rfl,.inl (zD h).symm⟩
   |false=>rw[e] at h;exact ih h
theorem lookup_mem {α:Type}{x:Str}{k:α}:∀ {l:List (Str×α)},l.lookup x=some k->(x,k)∈l
 |(y,d)::r,h=>by
  rw[yR] at h;cases e:x==y with
  |true =>
   rw[e] at h;cases h;have:x=y:=by simpa using e
   subst this;exact zd
  |false=>rw[e] at h;exact ze _ (lookup_mem h)
noncomputable def blockOf (X:Cx)(s:Shared)(H:Hp)(scope:Scope)(C:Addr)(NB:List Str)(ex:List Addr):Cx:=
 {X with N:=NB,s₀:=s,H₀:=H,env:=compEnvC scope (UM C scope.names (Fh X.env.cells scope.names [])) C X.env,outer:=X.stack,stack:=X.stack,ex:=ex,fn:=λ y=>Fg scope.names==some y,pn:=[],xe:=λ _ _=>False}
section
variable {X:Cx}{pins:List (Addr×Obj)}{σ:St}{H:Hp}{s s4:Shared}{scope:Scope}{NB:List Str}{μ:List (Option Nat)}{fp:List Addr}{C:Addr}
theorem K5 (h:Ff scope X.env.scope=true):scope.kind=.function:=by
 unfold Ff at h;simp only[zP,decide_eq_true_eq] at h;exact h.1
theorem Rx {sc outer:Scope}(h:Ff sc outer=true):(sc.names.filter UL).length<=1:=by
 unfold Ff at h;rw[zP,zP,decide_eq_true_eq,decide_eq_true_eq] at h;exact h.2.1
theorem IJ {sc outer:Scope}(h:Ff sc outer=true){y:Str×NameKind}(hy:y∈sc.names):(y.2=.cell->sc.names.lookup y.1=some .cell)/\(y.2=.free->outer.names.lookup y.1=some .cell\/outer.names.lookup y.1=some .free)/\(y.2=.local->sc.names.lookup y.1=some .local):=by
 unfold Ff at h;simp only[zP,decide_eq_true_eq,List.all_eq_true,Bool.or_eq_true] at h;obtain⟨⟨h1,h2⟩,h3⟩:=h.2.2 y hy;exact⟨λ e=>h1.elim (λ q=>absurd e q) id,λ e=>by
  rcases h2 with (q|q)|q
  ·exact absurd e q
  ·exact .inl q
  ·exact .inr q,λ e=>h3.elim (λ q=>absurd e q) id⟩
theorem HX (I:Inv X pins σ H s)(h:Ff scope X.env.scope=true){x:Str}(hx:(x,.free)∈scope.names):∃c,X.env.cells.lookup x=some c:=I.ok.has x ((IJ h hx).2.1 rfl)
theorem Mo (I:Inv X pins σ H s)(h:Ff scope X.env.scope=true){x:Str}{c:Addr}(e:(Fh X.env.cells scope.names []).lookup x=some c):X.env.cells.lookup x=some c:=by
 rcases Rw (lookup_mem e) with q|⟨q,r⟩
 ·cases q
 ·obtain⟨c',e'⟩:=HX I h q;rw[e'] at r;rw[e',r];rfl
theorem D2 (I:Inv X pins σ H s)(h:Ff scope X.env.scope=true){x:Str}{c:Addr}(e:(UM C scope.names (Fh X.env.cells scope.names [])).lookup x=some c):(Fg scope.names=some x/\c=C+1)\/X.env.cells.lookup x=some c:=by
 unfold UM at e;cases q:Fg scope.names with
 |none=>rw[q] at e;exact .inr (Mo I h e)
 |some y =>
  rw[q] at e;dsimp only at e;rw[yR] at e;cases b:x==y with
  |true=>rw[b] at e;cases e;exact .inl ⟨by rw[eq_of_beq b],rfl⟩
  |false=>rw[b] at e;exact .inr (Mo I h e)
theorem Mp {env:Env}(h:Ff scope env.scope=true){x:Str}{k:NameKind}(hk:(relabel scope env).names.lookup x=some k)(hc:k=.cell\/k=.free):(x,.free)∈scope.names\/Fg scope.names=some x:=by
 obtain⟨k',e,q⟩:=II hk;have m:=lookup_mem e;rcases q with q|⟨q,_⟩
 ·subst q;rcases hc with z|z
  ·subst z;exact .inr (kY (Rx h) m)
  ·subst z;exact .inl m
 ·subst q;exact .inl m
theorem dB (h:Ml X.N NB scope μ=true):NB.length=μ.length/\∀(j i:Nat),μ[j]?=some (some i)->∃x,NB[j]?=some x/\X.N[i]?=some x/\scope.names.lookup x=some .free:=by
 unfold Ml at h;simp only[zP,decide_eq_true_eq,List.all_eq_true] at h;refine⟨h.1,λ j i e=>?_⟩;have hj:j<NB.length:=by rw[h.1];exact (zw.mp e).1
 have m:(NB[j],some i)∈NB.zip μ:=by
  refine List.mem_iff_getElem?.mpr ⟨j,?_⟩;rw[List.getElem?_zip_eq_some];exact⟨zi hj,e⟩
 have q:=h.2 _ m;dsimp only at q;simp only[zP,decide_eq_true_eq] at q;exact⟨NB[j],zi hj,q.1,q.2⟩
theorem Ry (I:Inv X pins σ H s)(a4:Ff scope X.env.scope=true)(aW:Ml X.N NB scope μ=true)(gz:∀b∈fp,K1 X pins H b)(kh:∀b∈fp,∃o,s.heap.get? b=some o)
 (hC:s.heap.objs.size<=C) {h4:Heap} {t4:Nat} (ns:h4.Ns C λ _=>none) (k:∀b o,s.heap.get? b=some o->h4.get? b=some o) (bB:∀x,Fg scope.names=some x->h4.IsCell (C+1) none):
 Inv (blockOf X s H scope C NB fp) [] (EF μ σ) H {s with heap:=h4,toks:=t4}:=by
 obtain⟨hlen,aW⟩:=dB aW;have sg:∀b o,s.heap.get? b=some o->b≠C:=λ b o e=>zB (zz (zr e) hC);have so:∀x c,X.env.cells.lookup x=some c->c≠C+1:=λ x c e z=>by
  obtain⟨v,o,ho,_⟩:=I.cell x c e;exact absurd (zz (zr ho) hC) (by rw[z];exact Nat.not_lt.mpr (Nat.le_succ C))
 have ko:∀x c,X.env.cells.lookup x=some c->c≠C:=λ x c e=>by
  obtain⟨v,o,ho,_⟩:=I.cell x c e;exact sg c o ho
 refine⟨⟨I.ok.mod,(show scope.kind=_ from K5 a4),I.ok.glob,I.ok.blt,hC,λ x y c h1 h2=>?_,λ x hx=>?_,λ x c hf e=>?_,I.ok.hd,I.ok.frames,.inl rfl,λ b hb=>?_,I.bs,yG I.ok.ZZ I.sz,λ b o e hb=>?_,λ b hb hz=>?_,I.stack,I.Uz⟩,
  rfl,I.bare,Un.kept k,⟨_,ns,λ j x v e1 e2 e3=>?_⟩,λ x c e=>?_,I.As.fresh hC,λ x c e=>?_,λ p hp=>(by cases hp),I.As.kept k,?_⟩
 ·rcases D2 I a4 h1 with ⟨a1,a2⟩|a<;>rcases D2 I a4 h2 with ⟨b1,b2⟩|b
  ·rw[a1] at b1;exact zD b1
  ·exact absurd a2 (so y c b)
  ·exact absurd b2 (so x c a)
  ·exact I.ok.inj x y c a b
 ·have q:(x,zam)∈scope.names\/Fg scope.names=some x:=by
   rcases hx with hx|hx
   ·exact Mp a4 hx (.inl rfl)
   ·exact Mp a4 hx (.inr rfl)
  rcases q with q|q
  ·obtain⟨c,m⟩:=Mn (cells:=X.env.cells) (cs:=[]) q;refine Dh (c:=c) ?_;show (x,c)∈UM C scope.names _;unfold UM;split
   ·exact ze _ m
   ·exact m
  ·refine Dh (c:=C+1) ?_;show (x,C+1)∈UM C scope.names _;unfold UM;rw[q];exact zd
 ·have hq:Fg scope.names=some x:=by simpa [blockOf] using hf
  have e':(UM C scope.names (Fh X.env.cells scope.names [])).lookup x=some c:=e;unfold UM at e';rw[hq] at e';dsimp only at e';rw[yR,beq_self_eq_true] at e';cases e';exact Nat.le_succ_of_le hC
 ·obtain⟨o,ho⟩:=kh b hb;refine⟨sg b o ho,λ x c e z=>?_⟩;rcases D2 I a4 e with ⟨_,a2⟩|e
  ·exact absurd (zz (zr ho) hC) (by rw[<-z,a2];exact Nat.not_lt.mpr (Nat.le_succ C))
  ·exact (gz b hb).2.2.2.2.1 x c e z
 ·rcases (gz b hb).2.2.2.1 with z|z
  ·exact I.ok.Xh b o e z
  ·exact absurd (zz (zr (I.ok.bs b o e).1) z) (Nat.lt_irrefl _)
 ·rcases zp.mp (I.Tc b hz) with e|e
  ·exact (gz b hb).2.1 e
  ·exact (gz b hb).2.2.1 e
 ·have iu:(μ[j]?).map (λ o=>o.bind λ i=>(σ[i]?).join)=some (some v):=by
   rw[<-z7];exact e2
  cases q:μ[j]? with
  |none=>rw[q] at iu;cases iu
  |some o =>
   rw[q] at iu;cases o with
   |none=>cases iu
   |some i =>
    have e4:(σ[i]?).join=some v:=by simpa using iu
    have e5:σ[i]?=some (some v):=by
     cases z:σ[i]? with
     |none=>rw[z] at e4;cases e4
     |some w=>rw[z] at e4;simp at e4;rw[e4]
    obtain⟨x',n1,n2,n3⟩:=aW j i q;have ex:x'=x:=zD (n1.symm.trans e1);subst ex;have m:=lookup_mem n3;have ov:=(IJ a4 m).2.1 rfl;obtain⟨mm,hn,hl⟩:=I.loc;obtain⟨u,r,l⟩:=hl i x' v n2 e5 (ov.elim (λ z=>.inr (.inl z)) λ z=>.inr (.inr z));refine⟨u,r,.inr ⟨?_,?_⟩⟩
    ·rcases e3 with z|z|z
     ·obtain⟨k',z1,z2⟩:=II (k:=.local) z;rw[n3] at z1;cases z1;rcases z2 with z2|⟨_,z2⟩<;>cases z2
     ·exact .inl z
     ·exact .inr z
    ·rcases l with ⟨l,_⟩|⟨_,c,l1,l2⟩
     ·rcases ov with z|z<;>(rw[show X.env.kindOf x'=_ from z] at l;cases l)
     ·obtain⟨c',m'⟩:=Mn (cells:=X.env.cells) (cs:=[]) m;obtain⟨yh,l3⟩:=Dh m';have l4:=Mo I a4 l3;rw[l1] at l4;cases l4;have l5:(UM C scope.names (Fh X.env.cells scope.names [])).lookup x'=some c:=by
       unfold UM;cases q9:Fg scope.names with
       |none=>exact l3
       |some y =>
        have ne:(x'==y)=false:=by
         cases b:x'==y with
         |false=>rfl
         |true =>
          have z:=(IJ a4 (Rv q9)).1 rfl;rw[<-eq_of_beq b] at z;rw[show scope.names.lookup x'=some .cell from z] at n3;cases n3
        dsimp only;rw[yR,ne];exact l3
      refine⟨c,l5,?_⟩;obtain⟨o,ho,hd⟩:=l2;exact⟨o,k _ _ ho,hd⟩
 ·rcases D2 I a4 e with ⟨a1,rfl⟩|e
  ·exact⟨_,bB x a1⟩
  ·obtain⟨v,o,ho,hd⟩:=I.cell x c e;exact⟨v,o,k _ _ ho,hd⟩
 ·rcases D2 I a4 e with ⟨a1,rfl⟩|e
  ·exact I.As.fresh (Nat.le_succ_of_le hC)
  ·exact I.G7 x c e
 ·show (EF μ σ).length=NB.length;unfold EF;rw[zc,hlen]
theorem FR.adopt {P:Program}{w:World}{H:Hp}{h:Heap}{a:Addr}{o:HO}(x:FR P w H h)(hn:H a=none)(new:BU P w (upd H a o) h a o):FR P w (upd H a o) h:=λ b u e=>by
 by_cases hb:b=a
 ·subst hb;rw[Ao] at e;cases e;exact new
 ·rw[Ah hb] at e;exact (x b u e).NW (λ c v _ q=>q) (λ c q=>by rw[Ah (Av q hn)];exact q) λ c xs q=>by rw[Ah (Av q hn)];exact q
theorem W3 {H':Hp}{s':Shared}{h':Heap}{D:Addr}{pl:List (Addr×Obj)}{σ':St}{aa:List Value}{ys:List V}{n:Nat}(I:Inv X pins σ H s)(gz:∀b∈fp,K1 X pins H b)(J:Inv (blockOf X s H scope C NB fp) pl σ' H' s')
 (hC:s.heap.objs.size<=C) (hD:s.heap.objs.size<=D) (c8:D≠C) (eD:s'.heap.get? D=some {cls:=.type "list",data:=.seq aa.toArray n}) (nD:H' D=none) (r:Vals ys aa) (hz:ys.length<=sizeLine)
 (sb:zag C s'.heap h'):Inv X pins σ (upd H' D (.lst ys)) {s' with heap:=h' }:=by
 have fc:∀b o,s.heap.get? b=some o->b≠C:=λ b o e=>zB (zz (zr e) hC);have m8:∀b o,s.heap.get? b=some o->b≠D:=λ b o e=>zB (zz (zr e) hD);have freshD:H D=none:=I.As.fresh hD;have nC:H' C=none:=J.free;have u:Un (Xa X.stack) fp H H' s.heap s'.heap:=J.base;have e8:FR X.prog X.w H' h':=λ b ob e=>(J.As b ob e).NW (λ c v hc q=>(sb.2 c (by
  intro z;subst z;rcases hc with rfl|hc
  ·rw[nC] at e;cases e
  ·rw[nC] at hc;cases hc)).trans q) (λ _ q=>q) λ _ _ q=>q
 refine I.oC (ch:=fp) J.os ⟨λ b o e n hb hx=>?_,λ b o e n hb hx=>?_,λ b o e n hx=>?_,λ b o e hx=>?_,λ b xs e=>?_,λ b o u' e=>?_,λ b ps e=>?_⟩ (e8.adopt nD ⟨hz,aa,n,r,(sb.2 D c8).trans eD⟩) J.bare λ b hb=>?_
 ·exact (sb.2 b (fc b o e)).trans (u.keep b o e n hb hx)
 ·obtain⟨sl,q⟩:=u.slot b o e n hb hx;exact⟨sl,(sb.2 b (fc b o e)).trans q⟩
 ·rw[Ah (m8 b o e)];exact u.free b o e n hx
 ·obtain⟨o',q⟩:=u.there b o e hx;exact⟨o',(sb.2 b (fc b o e)).trans q⟩
 ·rw[Ah (Av e freshD)];exact u.PB b xs e
 ·rw[Ah (Av e freshD)];exact u.NX b o u' e
 ·rw[Ah (Av e freshD)];exact u.PD b ps e
 ·obtain⟨_,f1,_,f3,f4,f5⟩:=gz b hb;exact⟨f3,f1,f4,f5⟩
end
theorem XW {M:Model}{A:Around}{E:Value->Shared->Prop}{s:Shared}{scope:Scope}{g:Addr}{cl:List (Str×Addr)}{qual:Str}{outer:Env}{Q:Env->Shared->Prop}(h1:(scope.names.filter UL).length<=1)
 (hQ:∀h',h'.Ns s.heap.objs.size (λ _=>none)->(∀b o,s.heap.get? b=some o->h'.get? b=some o)->(∀x,Fg scope.names=some x->h'.IsCell (s.heap.objs.size+1) none)->
  Q {scope:=scope,locals:=s.heap.objs.size,globals:=g,cells:=UM s.heap.objs.size scope.names cl,qual:=qual,func:=none,code:=outer.code,frame:=outer.frame,builtins:=outer.builtins} {s with heap:=h' }):
 wpAny M A (newFunctionEnv scope g cl [] qual none .none (some outer)) Q E s:=by
 unfold newFunctionEnv;simp only[Option.isSome_some,if_true];refine wpAny_bind (wpAny_alloc (wpAny_bind (wpAny_layCells _ (λ x k cs=>by cases e:k==NameKind.cell<;>simp[e]) _ _ _ _ ?_)));have ok:=cellsFrom_ok scope.names (s.heap.push {cls:=.type "dict",data:=.dict #[]}) 0 [] ⟨λ _ _ z=>(by cases z),.nil⟩ (zJ _);rw[Tz h1] at ok ⊢;rw[zax] at ok;rw[List.forIn_nil];refine wpAny_bind (wpAny_pure (wpAny_pure ?_));have key:=hQ (pushCells (s.heap.push {cls:=.type "dict",data:=.dict #[]}) scope.names) ((Heap.Ns.new s.heap (.type "dict")).keeps (pushCells_keeps _ _)) (λ b o e=>pushCells_keeps _ _ b o (zq _ e)) (λ x hx=>(ok.empty x (s.heap.objs.size+1) (by rw[hx];exact zd)).1);unfold UM at key;rw[<-zax s.heap {cls:=.type "dict",data:=.dict #[]}] at key;exact key
theorem PX {prog:Program}{w:World}{A:Around}{R:Result->Shared->Prop}{s:Shared}{elt target iter:Expr}{ifs:List Expr}{scope:Scope}{pos:Pos}{it acc:Value}{env:Env}(I:Nat->Shared->Prop)
 (turn:∀n s,I n s->wpAny (model prog w) A (pyNext it) (λ r s₁=>match r with
  |none=>R (.ok .next) s₁
  |some v=>wpAny (model prog w) A (letOwnedTupleGo target it v) (λ _ s₁'=>wpAny (model prog w) A (assign target env v) (λ _ s₂ =>
   wpAny (model prog w) A (forIn ifs true λ c r=>if r=true then do let ok <-isTrue c env (eval c env);pure (zb2 ok) else pure (zb2 r)) (λ ok s₃ =>
    if ok=true then wpAny (model prog w) A (eval elt env) (λ x s₄ =>
     wpAny (model prog w) A (call (.builtin "list.append") [acc,x]) (λ _ s₅=>∃m,m<n/\I m s₅) (λ _ _=>False) s₄) (λ _ _=>False) s₃
    else ∃m,m<n/\I m s₃) (λ _ _=>False) s₂) (λ _ _=>False) s₁') (λ _ _=>False) s₁) (λ _ _=>False) s)
 (n:Nat) (h:I n s):
 codeAny (model prog w) A (.compLoop (.ListComp elt [⟨target,iter,ifs,0⟩] scope pos) 0 it acc env) R s:=by
 refine codeAny_loop rfl I (λ n s hI=>?_) n h;show wpAny _ A ((compTurn (.ListComp elt [⟨target,iter,ifs,0⟩] scope pos) 0 it acc env).onRaise (λ x=>do noteFrame x env;theTreesLotGoes x)) _ _ s;refine wpAny_noted ?_;rw[compTurn_list];refine wpAny_bind (wpAny_standAt (wpAny_bind (wpAny_mono (turn n s hI) (λ r s₁ h₁=>?_) λ _ _ h'=>h'.elim)));cases r with
 |none=>exact wpAny_pure h₁
 |some v =>
  refine wpAny_bind (wpAny_mono h₁ (λ _ s₁' h₁'=>?_) λ _ _ h'=>h'.elim);refine wpAny_bind (wpAny_mono h₁' (λ _ s₂ h₂=>wpAny_bind (wpAny_mono h₂ (λ ok s₃ h₃=>?_) λ _ _ h'=>h'.elim)) λ _ _ h'=>h'.elim);cases ok with
  |false=>exact wpAny_pure ⟨rfl,h₃⟩
  |true =>
   exact wpAny_bind (wpAny_bind (wpAny_mono h₃ (λ x s₄ h₄=>wpAny_bind (wpAny_mono h₄ (λ _ s₅ h₅=>wpAny_pure (wpAny_pure ⟨rfl,h₅⟩)) λ _ _ h'=>h'.elim)) λ _ _ h'=>h'.elim))
def nN (X:Cx)(cs:List Expr)(t:TT):Prop:=
 ∀(pins:List (Addr×Obj)) (s:Shared) (σ:St) (H:Hp) (Q:Bool->Hp->Prop),Inv X pins σ H s->t σ H Q->
  wpAny (model X.prog X.w) X.A (forIn cs true λ c r=>if r=true then do let ok <-isTrue c X.env (eval c X.env);pure (zb2 ok) else pure (zb2 r)) (TP X pins σ Q) X.xe s
noncomputable def tP:TT:=λ _ H Q=>Q true H
theorem dC {X:Cx}:nN X [] tP:=λ _ _ _ H _ I h=>wpAny_tests_nil ⟨H,I,h⟩
theorem dD {X:Cx}{c:Expr}{t:TT}(h:PT X c t):nN X [c] t:=λ pins s σ H Q I q=>wpAny_tests_one (h pins s σ H Q I q)
def K6 (μ:List (Option Nat))(g:TG):Prop:=∀σ x H Q,g x (EF μ σ) H Q->g x (EF μ σ) H λ σ' H'=>Q σ' H'/\∀(j:Nat) v,(EF μ σ)[j]?=some (some v)->σ'[j]?=some (some v)
theorem UN {μ:List (Option Nat)}{i:Nat}(h:μ[i]?=some none):K6 μ (M8 i):=λ σ x H Q q=>by
 refine⟨q,λ j v e=>?_⟩;have ae:j≠i:=λ z=>by
  subst z;unfold EF at e;rw[z7,h] at e;cases e
 rw[yE (zX ae)];exact e
def uO (J:It)(H1:Hp)(Q:VK)(st:V->Hp->(St->Hp->Prop)->Prop)(tc:TT)(te:TE):Prop:=
 ∃W:Nat->Nat->List V->Hp->Prop,(∃m,W 0 m [] H1)/\∀i m ys H2,W i m ys H2->
  (J.stop i H2/\∀D,H2 D=none->Q (.ref D) (upd H2 D (.lst ys))) \/
  (J.go i H2/\ys.length<sizeLine/\∃N:List V->Hp->Prop,(∀aU H',N aU H'->∃m',m'<m/\W (i+1) m' aU H')/\∀x H3,J.cF i H2 x H3->st x H3 λ σ4 H4=>tc σ4 H4 λ b H5=>if b=true then te σ4 H5 λ y H6=>N (ys++[y]) H6 else N ys H5)
noncomputable def Rz (wi:TI)(μ:List (Option Nat))(g:TG)(tc:Shared->Hp->Addr->List Addr->TT)(te:Shared->Hp->Addr->List Addr->TE):TE:=λ σ H Q=>wi σ H λ J H1=>∀s C ex,uO J H1 Q (λ x H K=>g x (EF μ σ) H K) (tc s H1 C ex) (te s H1 C ex)
section
variable {X:Cx}{pins:List (Addr×Obj)}{σ:St}{H2:Hp}{s2:Shared}{tg elt iter:Expr}{ifs:List Expr}{scope:Scope}{pos:Pos}{NB:List Str}{μ:List (Option Nat)}{g:TG}{tc:Shared->Hp->Addr->List Addr->TT}{te:Shared->Hp->Addr->List Addr->TE}{fp:List Addr}{it:Addr}{tn:Nat->Heap->Prop}{J:It}{Q:VK}
theorem OF (hc:X.calm=true)(I2:Inv X pins σ H2 s2)(T:Turn X.prog X.w X.K tg J fp it tn)(cv:tn 0 s2.heap)(f2:∀b∈fp,K1 X pins H2 b)
 (a4:Ff scope X.env.scope=true) (aW:Ml X.N NB scope μ=true) (iw:K6 μ g)
 (hb:∀(s:Shared) (H:Hp) (C:Addr) (ex:List Addr),PG (blockOf X s H scope C NB ex) tg g/\nN (blockOf X s H scope C NB ex) ifs (tc s H C ex)/\PE (blockOf X s H scope C NB ex) elt (te s H C ex))
 (q:∀C,uO J H2 Q (λ x H K=>g x (EF μ σ) H K) (tc s2 H2 C fp) (te s2 H2 C fp)) {RR:Value->Addr->Result->Shared->Prop} {E:Value->Shared->Prop}
 (fin:∀(D C:Addr) (s':Shared) (H':Hp) (ys:List V) (m:Str->Option Value),s2.heap.objs.size<=D->s2.heap.objs.size<=C->D≠C->s'.heap.Ns C m->H' C=none->(∀h',zag C s'.heap h'->Inv X pins σ (upd H' D (.lst ys)) {s' with heap:=h' })->Q (.ref D) (upd H' D (.lst ys))->RR (.ref D) C (.ok .next) s'):
 wpAny (model X.prog X.w) X.A (newList []) (λ acc s₃=>wpAny (model X.prog X.w) X.A (newFunctionEnv scope X.env.globals (Fh X.env.cells scope.names []) [] X.env.qual none .none (some X.env)) (λ ix s₄ =>
  codeAny (model X.prog X.w) X.A (.compStart (.ListComp elt [⟨tg,iter,ifs,0⟩] scope pos) 0 (.ref it) acc {ix with scope:=relabel scope X.env}) (RR acc ix.locals) s₄) E s₃) E s2:=by
 refine wpAny_newObj_type (XW (Rx a4) λ h₁ hns₁ hk₁ hcl₁=>?_);dsimp only at hns₁ hk₁ hcl₁ ⊢;generalize m9:s2.heap.push {cls:=.type "list",dict:=none,data:=.seq ([]:List Value).toArray}=kr at hns₁ hk₁ hcl₁ ⊢;have hC:kr.objs.size=s2.heap.objs.size+1:=by rw[<-m9,zax]
 have c8:s2.heap.objs.size≠kr.objs.size:=by rw[hC];exact zB (Nat.lt_succ_self _)
 have ff:s2.heap.objs.size<=kr.objs.size:=by rw[hC];exact Nat.le_succ _
 have old:∀b o,s2.heap.get? b=some o->h₁.get? b=some o:=λ b o e=>hk₁ b o (m9▸zq _ e);have eD:h₁.get? s2.heap.objs.size=some {cls:=.type "list",data:=.seq ([]:List Value).toArray}:=hk₁ _ _ (m9▸zE _ rfl);have kh:∀b∈fp,∃o,s2.heap.get? b=some o:=λ b hb=>let ⟨o,e,_⟩:=T.obj _ _ cv b hb;⟨o,e⟩;have na:∀b∈fp,b≠s2.heap.objs.size:=λ b hb=>let ⟨o,e⟩:=kh b hb;zB (zr e);generalize sq:s2.heap.objs.size=D at ff c8 eD na ⊢;generalize yi:kr.objs.size=C at *;have bC:s2.heap.objs.size<=D:=by rw[sq];exact zx _
 have bR:s2.heap.objs.size<=C:=by rw[sq];exact ff
 have I4:Inv (blockOf X s2 H2 scope C NB fp) [] (EF μ σ) H2 {s2 with heap:=h₁}:=Ry (t4:=s2.toks) I2 a4 aW f2 kh bR hns₁ old hcl₁;have bn:∀ {H':Hp} {pl:List (Addr×Obj)},(∀b∈fp,H' b=none)->(∀p∈pl,p.1=D)->∀b∈fp,K1 (blockOf X s2 H2 scope C NB fp) pl H' b:=fun {H' pl} hn hp b hb=>by
  refine⟨hn b hb,(I4.ok.rF b hb).1,I4.ok.Xi b hb,.inl hb,λ x c e z=>(I4.ok.rF b hb).2 x c e z,λ p iy z=>?_⟩;have nc:p∈pl:=by simpa [blockOf] using iy
  exact na b hb (z▸hp p nc)
 have vh:D∉(blockOf X s2 H2 scope C NB fp).fs:=λ z=>by
  obtain⟨_,o,ho,_⟩:=I4.ok.JZ.mem z;exact absurd (zr ho) (Nat.not_lt.mpr bC)
 obtain⟨W,⟨m0,w0⟩,turn⟩:=q C;have loop:∀s₃:Shared,s₃={s2 with heap:=h₁} ->
  codeAny (model X.prog X.w) X.A (.compLoop (.ListComp elt [⟨tg,iter,ifs,0⟩] scope pos) 0 (.ref it) (.ref D) (compEnvC scope (UM C scope.names (Fh X.env.cells scope.names [])) C X.env)) (RR (.ref D) C) s₃:=by
  rintro s₃ rfl;refine PX (λ n s'=>∃i ys aa k H',Inv (blockOf X s2 H2 scope C NB fp) [(D,{cls:=.type "list",data:=.seq aa k})] (EF μ σ) H' s'/\tn i s'.heap/\(∀b∈fp,H' b=none)/\Vals ys aa.toList/\ys.length<=sizeLine/\W i n ys H') ?_ m0
   ⟨0,[],#[],0,H2,I4.ID λ p hp=>?_,T.keep _ _ _ cv λ b hb o e=>old b o e,λ b hb=>(f2 b hb).1,.nil,zJ _,w0⟩
  rotate_left
  ·have e:=zh.mp hp;subst e;exact⟨eD,I2.As.fresh bC,c8,vh,λ v=>by simp⟩
  rintro n s3 ⟨i,ys,aa,k,H3,I3,ib,ic,rv,hz,w3⟩;rcases turn i n ys H3 w3 with ⟨stop,qn⟩|⟨go,ah,N,hN,step⟩
  ·refine wpAny_mono (T.done (blockOf X s2 H2 scope C NB fp) rfl rfl rfl hc i _ s3 _ H3 (λ _ _=>False) I3 (bn ic (by simp)) ib stop) (λ r s4 ⟨hr,kt⟩=>?_) λ _ _ e=>e;subst hr;obtain⟨p1,p2,p3,p4,p5⟩:=kt.pin _ (zm _ zd);obtain⟨m,hn,_⟩:=id kt.loc;have e1:s4.heap.get? D=some {cls:=.type "list",data:=.seq aa.toList.toArray k}:=by simpa using p1
   exact fin D C s4 H3 ys m bC bR c8 hn kt.free (λ h' sb=>W3 I2 f2 kt bR bC c8 e1 p2 rv hz sb) (qn D p2)
  ·refine wpAny_mono (T.item (blockOf X s2 H2 scope C NB fp) rfl rfl rfl hc i _ s3 _ H3 (λ _ _=>False) I3 (bn ic (by simp)) ib go) (λ r s4 ⟨u,hr,h4⟩=>?_) λ _ _ e=>e;subst hr;refine Bg h4 λ _ s5 ⟨x,H5,I5,r5,y5,eh,me⟩=>?_;have mf:=I5.pinned (bn me (by simp)) (T.obj _ _ eh);have bO:=iw σ x H5 _ (step x H5 y5);obtain⟨hg,ht,he⟩:=hb s2 H2 C fp;refine Bg (hg _ s5 _ H5 x u _ mf r5 bO) λ _ s6 ⟨σ6,H6,I6,q6,k6⟩=>?_;refine Bg (ht _ s6 σ6 H6 _ I6 q6) λ ok s7 ⟨H7,I7,q7⟩=>?_;have again:∀ {H8:Hp} {s8:Shared} {its':Array Value} {k':Nat} {aU:List V},Inv (blockOf X s2 H2 scope C NB fp) ([(D,{cls:=.type "list",data:=.seq its' k' })]++HQ fp s5.heap) σ6 H8 s8->Vals aU its'.toList->aU.length<=sizeLine->(∃m,m<n/\W (i+1) m aU H8)->
    ∃m,m<n/\∃i ys aa k H',Inv (blockOf X s2 H2 scope C NB fp) [(D,{cls:=.type "list",data:=.seq aa k})] (EF μ σ) H' s8/\tn i s8.heap/\(∀b∈fp,H' b=none)/\Vals ys aa.toList/\ys.length<=sizeLine/\W i m ys H':=fun {H8 s8 its' k' aU} I8 aJ sr n8=>by
    obtain⟨m',hm,w8⟩:=n8;refine⟨m',hm,i+1,aU,its',k',H8,(I8.IE.weak ?_ k6),T.keep _ _ _ eh λ b hb o e=>(I8.pin (b,o) (zm _ (zm _ (Fc hb e)))).1,λ b hb=>?_,aJ,sr,w8⟩
    ·rw[I8.len];exact I4.len
    ·obtain⟨o,e,d⟩:=T.obj _ _ eh b hb;exact (I8.pin (b,o) (zm _ (zm _ (Fc hb e)))).2.1
   cases ok with
   |false =>
    simp only[z8,if_false] at q7 ⊢;exact again I7 rv hz (hN _ _ q7)
   |true =>
    simp only[if_true] at q7 ⊢;refine Bg (he _ s7 σ6 H7 _ I7 q7) λ uy s8 ⟨y,H8,I8,r8,q8⟩=>?_;obtain⟨p1,p2,p3,p4,p5⟩:=I8.pin (D,_) (zm _ (zL _ zd));have e1:s8.heap.get? D=some {cls:=.type "list",data:=.seq aa k}:=p1;have hsz:aa.size=ys.length:=by rw[<-Array.length_toList];exact rv.length.symm
    refine call_meets F.slot_list_append ⟨_,e1,rfl⟩ F.entry_list_append (F.args_list_append_2 _ _) (PySem.list_append D aa k uy (by rw[hsz];omega)) ⟨e1,?_⟩;have ng:=PySem.IsL.update e1 (·.push uy);have Iu:Inv (blockOf X s2 H2 scope C NB fp) (HQ fp s5.heap) σ6 H8 s8:=I8.ID λ p hp=>I8.pin p (zm _ (zm _ hp));have It:=Iu.turned (it:=D) (h':=s8.heap.update D (zad (·.push uy))) (t':=s8.toks) (λ b o hb e=>(zak _ _ (zX hb)).trans e) p2 p3 (.inr bC) (λ x c e z=>?_) (λ p hp z=>?_)
    ·refine again (its':=aa.push uy) (k':=if (aa.push uy).size==aa.size then k else k+1) (It.ID λ p hp=>?_) (by simpa using rv.append (.cons r8 .nil)) (by rw[zC,yJ];omega) (hN _ _ q8);rcases zv.mp hp with hp|hp
     ·have e:=zh.mp hp;subst e;exact⟨ng,p2,p3,p4,λ v=>by simp⟩
     ·exact It.pin p (zm _ hp)
    ·rcases D2 I2 a4 e with ⟨_,a2⟩|e'
     ·exact absurd (a2.symm.trans z) (zah (Nat.lt_succ_of_le ff))
     ·obtain⟨v,o,ho,_⟩:=I2.cell x c e';exact absurd (zr ho) (by rw[z];exact Nat.not_lt.mpr bC)
    ·have iy:p∈HQ fp s5.heap:=by simpa [blockOf] using hp
     exact na p.1 (Ov iy).1 z
 exact codeAny_compStart_list (loop _ rfl) (T.self _ 0 _ _ _ (T.keep _ _ _ cv λ b hb o e=>old b o e) (loop _ rfl))
theorem UO {wi:TI}(hc:X.calm=true)(hi:PI X tg iter wi)(a4:Ff scope X.env.scope=true)(aW:Ml X.N NB scope μ=true)(iw:K6 μ g)
 (hb:∀(s:Shared) (H:Hp) (C:Addr) (ex:List Addr),PG (blockOf X s H scope C NB ex) tg g/\nN (blockOf X s H scope C NB ex) ifs (tc s H C ex)/\PE (blockOf X s H scope C NB ex) elt (te s H C ex))
 (hs:∀x,foldedSetIterable iter X.env x=pure x:=by intro _;rfl):PE X (.ListComp elt [⟨tg,iter,ifs,0⟩] scope pos) (Rz wi μ g tc te):=by
 intro pins s σ H Q I h;have bq:∀y∈scope.names,y.2=.local->scope.names.lookup y.1=some .local:=λ y hy=>(IJ a4 hy).2.2;have bS:closureFor scope X.env=pure (Fh X.env.cells scope.names []):=HA λ y hy e=>HX I a4 (x:=y.1) (by rw[<-e];exact hy);rw[eval_ListComp];refine wpAny_comprehension_free (use:=none) rfl hs bS (K5 a4) bq (Bg (hi pins s σ H _ I h) λ v s1 h1=>Bg h1 λ kc s2 h2=>?_);obtain⟨it,fp,tn,J,H2,e,I2,T,cv,f2,q⟩:=h2;subst e;refine OF (RR:=λ acc C=>compPost (model X.prog X.w) X.A X.xe none (EP X pins σ Q) acc C) hc I2 T cv f2 a4 aW iw hb (λ C=>q s2 C fp) ?_;intro D C s' H' ys m hD hC c8 hn nC hI hq;exact⟨m,hn,λ h' sb=>⟨.ref D,_,hI h' sb,rfl,hq⟩⟩
noncomputable def pM (i:Nat)(te:TE):TS:=λ D σ H=>te σ H λ x H1=>D.nx (σ.set i (some x)) H1
theorem PY {wi:TI}{i:Nat}{y:Str}{py am:Pos}(hN:X.N.Nodup)(fg:X.N[i]?=some y)(hy:Loc X.env.scope y)(hc:X.calm=true)(hi:PI X tg iter wi)(a4:Ff scope X.env.scope=true)(aW:Ml X.N NB scope μ=true)(iw:K6 μ g)
 (hb:∀(s:Shared) (H:Hp) (C:Addr) (ex:List Addr),PG (blockOf X s H scope C NB ex) tg g/\nN (blockOf X s H scope C NB ex) ifs (tc s H C ex)/\PE (blockOf X s H scope C NB ex) elt (te s H C ex))
 (aR:swapsWith (.ListComp elt [⟨tg,iter,ifs,0⟩] scope pos) (some (.Name y py)) am.line X.env=pure true:=by rfl)
 (hs:∀x,foldedSetIterable iter X.env x=pure x:=by intro _;rfl) (hf:X.fn y=true\/X.env.scope.names.lookup y=some .local:=by first|exact .inl rfl|exact .inr rfl|assumption):
 PS X (.Assign [.Name y py] (.ListComp elt [⟨tg,iter,ifs,0⟩] scope pos) am) (pM i (Rz wi μ g tc te)):=by
 intro pins s σ H D' I h;have bq:∀y∈scope.names,y.2=.local->scope.names.lookup y.1=some .local:=λ y hy=>(IJ a4 hy).2.2;have bS:closureFor scope X.env=pure (Fh X.env.cells scope.names []):=HA λ y hy e=>HX I a4 (x:=y.1) (by rw[<-e];exact hy);rw[exec_Assign_Name_used _ _ _ _ aR];refine wpAny_bind (wpAny_standAt (wpAny_bind ?_));show wpAny _ X.A (do let _ <-comprehension (.ListComp elt [⟨tg,iter,ifs,0⟩] scope pos) scope X.env _ (newList []) false (eval iter X.env) (some (assign (.Name y py) X.env))) _ _ s;refine wpAny_bind (wpAny_mono (wpAny_comprehension_free (use:=some (assign (.Name y py) X.env)) (Q:=λ _ s'=>SP X pins D' .next s') rfl hs bS (K5 a4) bq (Bg (hi pins s σ H _ I h) λ v s1 h1=>Bg h1 λ kc s2 h2=>?_)) (λ _ s' hq=>wpAny_pure (wpAny_pure hq)) λ _ _ e=>e);obtain⟨it,fp,tn,J,H2,e,I2,T,cv,f2,q⟩:=h2;subst e;refine OF (RR:=λ acc C=>compPost (model X.prog X.w) X.A X.xe (some (assign (.Name y py) X.env)) (λ _ s'=>SP X pins D' .next s') acc C) hc I2 T cv f2 a4 aW iw hb (λ C=>q s2 C fp) ?_;intro D C s' H' ys m hD hC c8 hn nC hI hq;have I':=hI s'.heap (.refl ..);show wpAny _ X.A (assign (.Name y py) X.env (.ref D)) _ _ _;refine wpAny_assign_Name (Ou (i:=i) (v:=.ref D) I' hN fg hy rfl (λ ig vi nh=>?_) hf);obtain⟨a,sb,ha⟩:=nh;have gx:a≠C:=by
  rcases ha with z|z
  ·rw[z];exact zB (zz I2.lt hC)
  ·obtain⟨v,o,ho,_⟩:=I2.cell y a z;exact zB (zz (zr ho) hC)
 refine⟨m,hn.sameBut sb (zX gx),λ h' br=>?_⟩;refine⟨_,_,vi.turned (it:=C) (t':=ig.toks) (λ b o hb e=>(br.2 b hb).trans e) (by rw[Ah (zX c8)];exact nC) (zah (zz I2.lt hC)) (.inr (yG I2.sz hC)) (λ x c e z=>?_) (λ p hp z=>?_),hq⟩
 ·obtain⟨v,o,ho,_⟩:=I2.cell x c e;exact absurd (zr ho) (by rw[z];exact Nat.not_lt.mpr hC)
 ·exact absurd (zr (I2.pin p hp).1) (by rw[z];exact Nat.not_lt.mpr hC)
end
noncomputable def uP (K:za)(a:Addr):It:=
 ⟨λ i H=>∃xs x,CJ K H a xs/\xs[i]?=some x,λ i H v H'=>∃p x,H p=none/\v=.ref p/\(∀xs,CJ K H a xs->xs[i]?=some x)/\H'=upd H p (.tup [.int i,x]),λ i H=>∃xs,CJ K H a xs/\xs.length<=i⟩
theorem TB {X:Cx}{pins:List (Addr×Obj)}{σ:St}{H:Hp}{s:Shared}{h':Heap}{t':Nat}{e it:Addr}(I:Inv X pins σ H s)(he:K1 X pins H e)(hi:K1 X pins H it)(k:∀b o,b≠e->b≠it->s.heap.get? b=some o->h'.get? b=some o):Inv X pins σ H {s with heap:=h',toks:=t' }:=by
 obtain⟨e0,e1,e2,e3,e4,e5⟩:=he;obtain⟨f0,f1,f2,f3,f4,f5⟩:=hi;have ne:∀b u,H b=some u->b≠e/\b≠it:=λ b u q=>⟨λ z=>(by rw[z,e0] at q;cases q),λ z=>(by rw[z,f0] at q;cases q)⟩;refine I.step (g':=s.gens) (d':=s.drawn) (ch:=[e,it]) (λ b hb=>?_) (λ b o _ _ hc q _=>k b o (λ z=>hc (by simp[z])) (λ z=>hc (by simp[z])) q) (λ b o _ _ hc q _=>⟨o.slots,k b o (λ z=>hc (by simp[z])) (λ z=>hc (by simp[z])) q⟩) (λ _ _ _ _ n=>n)
  (λ b o hc q=>⟨o,k b o (λ z=>hc (by simp[z])) (λ z=>hc (by simp[z])) q⟩) (λ _ _ q=>q) (λ _ _ _ q=>q) (λ b ps q=>⟨#[],by rw[q];simp⟩) (λ m hm=>?_) (λ b u q=>?_) I.bare
 ·rcases zp.mp hb with z|z
  ·subst z;exact⟨e3,e1,e4,e5⟩
  ·have z:=zh.mp z;subst z;exact⟨f3,f1,f4,f5⟩
 ·obtain⟨o,es,ep,ho,r⟩:=hm;exact⟨o,es,ep,k _ o (zX e1) (zX f1) ho,r⟩
 ·refine (I.As b u q).NW (λ c v hc z=>k c v ?_ ?_ z) (λ _ z=>z) λ _ _ z=>z
  ·rcases hc with z|z
   ·rw[z];exact (ne b u q).1
   ·exact (ne c _ z).1
  ·rcases hc with z|z
   ·rw[z];exact (ne b u q).2
   ·exact (ne c _ z).2
theorem W4 {P:Program}{w:World}{K:za}{aM:List Expr}{x1}{aF:Pos}(a e it:Addr)(ae:e≠it):
 Turn P w K (.Tuple aM x1 aF) (uP K a) [e,it] e (λ i h=>(∃old,IsEnum h e it i old)/\h.IsListIter it a i) where
 mem:=by simp
 obj:=λ i h st b hb=>by
  obtain⟨⟨old,h1⟩,o,h2,c,d⟩:=st;rcases zp.mp hb with z|z
  ·subst z;exact⟨_,h1,λ v z=>by cases z⟩
  ·have z:=zh.mp z;subst z;exact⟨o,h2,λ v z=>by rw[d] at z;cases z⟩
 keep:=λ i h h' st k=>⟨let ⟨old,h1⟩:=st.1;⟨old,k e (by simp) _ h1⟩,st.2.at λ o e=>k it (by simp) o e⟩
 item:=by
  intro X hP hw hK hc i pins s σ H E I hf st hg;subst hP hw hK;obtain⟨xs,x,hq,hx⟩:=hg;obtain⟨⟨old,he⟩,hit⟩:=st;obtain⟨aa,rv,p,hz⟩:=I.list hq;obtain⟨u,hu,ru⟩:=rv.get hx;have fe:=hf e (by simp);have fi:=hf it (by simp);refine wpAny_pyNext_enum_item he hit p.isList (x:=u) (by simpa using hu) ae λ h1 dk ni ht hsz hk=>?_;refine⟨_,rfl,wpAny_letOwnedTupleGo_enum (s:={s with heap:=h1,toks:=s.toks+1}) dk λ h2 vj aK=>?_⟩;have aA:zag e h1 h2:=aK;have nt:s.heap.objs.size≠e:=zah (zr he);have vn:s.heap.objs.size≠it:=by
   obtain⟨o,ho,_⟩:=hit;exact zah (zr ho)
  have I1:Inv X pins σ H {s with heap:=h2,toks:=s.toks+1}:=TB I fe fi λ b o hb a8 q=>(aA.2 b hb).trans (hk b o hb a8 q);have tup:h2.get? s.heap.objs.size=some {cls:=.type "tuple",data:=.seq #[.int i s.toks,u]}:=(aA.2 _ nt).trans ht;have nH:H s.heap.objs.size=none:=I.As.fresh (zx _);have vv:Vals [.int i,x] [.int i s.toks,u]:=.cons ⟨_,rfl⟩ (.cons ru .nil);have fj:FR X.prog X.w (upd H s.heap.objs.size (.tup [.int i,x])) h2:=I1.As.adopt nH ⟨by show 2<=sizeLine;decide,_,vv,⟨_,tup,rfl,_,rfl⟩⟩;have I2:Inv X pins σ (upd H s.heap.objs.size (.tup [.int i,x])) {s with heap:=h2,toks:=s.toks+1}:=by
   refine I.step (g':=s.gens) (d':=s.drawn) (ch:=[e,it]) (λ b hb=>?_) (λ b o _ _ hc q _=>(aA.2 b (λ z=>hc (by simp[z]))).trans (hk b o (λ z=>hc (by simp[z])) (λ z=>hc (by simp[z])) q)) (λ b o _ _ hc q _=>⟨o.slots,(aA.2 b (λ z=>hc (by simp[z]))).trans (hk b o (λ z=>hc (by simp[z])) (λ z=>hc (by simp[z])) q)⟩)
    (λ b o hc q n=>by rw[Ah (zB (zr q))];exact n) (λ b o hc q=>⟨o,(aA.2 b (λ z=>hc (by simp[z]))).trans (hk b o (λ z=>hc (by simp[z])) (λ z=>hc (by simp[z])) q)⟩)
    (λ b xs q=>by rw[Ah (Av q nH)];exact q) (λ b o u q=>by rw[Ah (Av q nH)];exact q) (λ b ps q=>⟨#[],by rw[Ah (Av q nH),q];simp⟩) (λ m hm=>?_) fj I.bare
   ·rcases zp.mp hb with z|z
    ·subst z;exact⟨fe.2.2.2.1,fe.2.1,fe.2.2.2.2.1,fe.2.2.2.2.2⟩
    ·have z:=zh.mp z;subst z;exact⟨fi.2.2.2.1,fi.2.1,fi.2.2.2.2.1,fi.2.2.2.2.2⟩
   ·obtain⟨o,es,ep,ho,r⟩:=hm;exact⟨o,es,ep,(aA.2 _ (zX fe.2.1)).trans (hk _ o (zX fe.2.1) (zX fi.2.1) ho),r⟩
  refine⟨.ref s.heap.objs.size,_,I2,rfl,⟨_,x,nH,rfl,λ ys hy=>by rw[I.DU hy hq];exact hx,rfl⟩,⟨⟨u,vj⟩,ni.at λ o q=>(aA.2 it (zX ae)).trans q⟩,λ b hb=>?_⟩;have a8:b≠s.heap.objs.size:=by
   rcases zp.mp hb with z|z
   ·rw[z];exact zX nt
   ·rw[zh.mp z];exact zX vn
  rw[Ah a8];exact (hf b hb).1
 done:=by
  intro X hP hw hK hc i pins s σ H E I hf st hg;subst hP hw hK;obtain⟨xs,hq,hx⟩:=hg;obtain⟨⟨old,he⟩,hit⟩:=st;obtain⟨aa,rv,p,hz⟩:=I.list hq;have hl:=rv.length;obtain⟨f0,f1,f2,f3,f4,f5⟩:=hf it (by simp);exact wpAny_pyNext_enum_end (I.ok.hd hc) he hit p.isList (by simp;omega) λ h' eb=>⟨rfl,I.turned (t':=s.toks) (λ b o hb e=>eb b o hb e) f0 f1 f3 f4 f5⟩
 self:=λ _ _ _ _ _ st h=>let ⟨_,he⟩:=st.1;wpAny_pyIter_enum he h
section
variable {X:Cx}
noncomputable def pN (K:za)(ta:TA):TI:=λ σ H R=>ta σ H λ vs H1=>∃a,vs=[.ref a]/\(∃xs,CJ K H1 a xs)/\R (uP K a) H1
theorem dE {aM:List Expr}{x1}{aF:Pos}{a:Expr}{ta:TA}{p pos:Pos}(hg:Gl X "enumerate")(hm:X.mg "enumerate" = none)(ha:PA X [a] ta)(hb:bootBuiltins "enumerate" = some (.type "enumerate"):=by decide +kernel)(hs:starEach [a] X.env=[(false,eval a X.env)]:=by rfl):
 PI X (.Tuple aM x1 aF) (.Call (.Name "enumerate" p) [a] [] pos) (pN X.K ta):=by
 intro pins s σ H R I h;refine Call_ (Dr I hg hm hb (zY (Bg (ha pos pins s σ H _ I h) λ us s1 ⟨vs,H1,I1,r1,q1⟩=>?_) hs rfl));obtain⟨j,e,⟨xs,hq⟩,q⟩:=q1;subst e;cases r1 with
 |cons r rr =>
  cases rr;cases r;obtain⟨aa,rv,p,hz⟩:=I1.list hq;refine call_enumerate_list p.isList λ h' he hit hsz hk=>?_;refine wpAny_pyIter_enum (s:={s1 with heap:=h' }) he ?_;have I2:Inv X pins σ H1 {s1 with heap:=h' }:=I1.kept (t':=s1.toks) hk;refine⟨_,[s1.heap.objs.size+1,s1.heap.objs.size],_,_,H1,rfl,I2,W4 j _ _ (Nat.succ_ne_self _),⟨⟨_,he⟩,hit⟩,λ b hb=>?_,q⟩;rcases zp.mp hb with z|z
  ·rw[z];exact I1.VM (Nat.le_succ _) (I1.As.fresh (Nat.le_succ _))
  ·rw[zh.mp z];exact I1.VM (zx _) (I1.As.fresh (zx _))
end
noncomputable def BL {α:Type}(o:Option (α×List Int))(b:α×List Int):Option (α×List Int):=match o with | none=>some b | some c=>if HT.lexLt b.2 c.2=true then some b else some c
noncomputable def B3 {α:Type}(bs:List (α×List Int)):Option (α×List Int):=bs.foldl BL none
noncomputable def Dj (bs:List (Addr×List Int)):Array Value:=match B3 bs with | none=>#[] | some b=>#[.ref b.1,.ref b.1]
theorem D3 {α:Type}(bs:List (α×List Int))(b:α×List Int):B3 (bs++[b])=match B3 bs with | none=>some b | some c=>if HT.lexLt b.2 c.2=true then some b else some c:=by
 unfold B3;rw[List.foldl_append];rfl
theorem K7 {α:Type}:∀(bs:List (α×List Int)) (b:α×List Int),B3 bs=some b->b∈bs:=by
 intro bs
 suffices h:∀(bs:List (α×List Int)) (o:Option (α×List Int)) (b:α×List Int),bs.foldl BL o=some b->b∈bs\/o=some b by
  intro b hb;rcases h bs none b hb with q|q
  ·exact q
  ·cases q
 intro bs;induction bs with
 |nil=>intro o b h;exact .inr h
 |cons x r ih =>
  intro o b h;rw[zM] at h;rcases ih _ _ h with q|q
  ·exact .inl (ze _ q)
  ·cases o with
   |none=>cases q;exact .inl zd
   |some c =>
    unfold BL at q;dsimp only at q;split at q
    ·cases q;exact .inl zd
    ·exact .inr q
theorem O3 (a v:Value):argsOk "min" ⟨[a],[(Str.ofString "default",v)]⟩:=by unfold argsOk;kernel_rfl
section
variable {prog:Program}{w:World}{A:Around}{R:Result->Shared->Prop}
theorem XX (bs:List (Addr×List Int))(tv:Addr->Array Value)(l I S:Addr)(d:Value)(hh:A.handled=none)(hu:A.in1.units<cLine)(c9:S≠I)(g7:l≠I)(iz:l≠S)(fm:∀b∈bs,b.1≠I/\b.1≠S)
 (hk:∀b∈bs,IntsAre (tv b.1).toList b.2):∀(k j:Nat) (s:Shared) (c:Nat),bs.length-j=k->j<=bs.length->s.heap.IsListIter I l j->s.heap.IsList l (bs.map λ b=>y9 b.1).toArray->(∀b∈bs,IsTup s.heap b.1 (tv b.1))->
  s.heap.get? S=some {cls:=.type "list",dict:=none,data:=.seq (Dj (bs.take j)) c,slots:=#[]} ->
  (∀h' tk,(∀b o,b≠I->b≠S->s.heap.get? b=some o->h'.get? b=some o)->R (.ok (.ret (match B3 bs with|none=>d|some b=>.ref b.1))) {s with heap:=h',toks:=tk})->
  codeAny (model prog w) A (.builtin "min.loop" ⟨[.ref I,.none,.ref S],[(Str.ofString "default",d)]⟩) R s:=by
 have a5:(toString "min" ++ toString ".loop" : String) = "min.loop" := by decide
 intro k;induction k with
 |zero =>
  intro j s c hr hj hit hl ht hS hR;have bt:j=bs.length:=by omega
  subst bt;rw[yK] at hS;refine codeAny_builtin PySem.F.entry_min_loop ?_;rw[za9 zO _];show wpAny _ A.in1 (seqItems? (.ref S) >>= _) _ _ s;refine wpAny_bind (wpAny_seqItems hS rfl ?_);show wpAny _ A.in1 (tryCatch (pyNext (.ref I)) _ >>= _) _ _ s;refine wpAny_bind (wpAny_tryCatch (wpAny_pyNext_list_end (A:=A.in1) hh hit hl (by simp) λ h' eb=>?_));have a9:h'.get? S=_:=eb S _ c9 hS;unfold Dj at a9;cases hb:B3 bs with
  |none =>
   unfold Dj;rw[hb];show wpAny _ A.in1 (rule _ >>= _) _ _ _;refine wpAny_bind (wpAny_rule (wpAny_pure ?_));have q:=hR h' s.toks λ b o h1 h2 e=>eb b o h1 e;rw[hb] at q;exact q
  |some b =>
   rw[hb] at a9;unfold Dj;rw[hb];show wpAny _ A.in1 (updateSeq S (λ _=>#[]) >>= _) _ _ _;refine wpAny_bind ?_;refine wpAny_updateSeq a9 rfl (wpAny_bind (wpAny_letGo (wpAny_pure ?_)));have q:=hR (h'.update S (zad λ _=>#[])) s.toks λ b o h1 h2 e=>(zak _ _ (zX h2)).trans (eb b o h1 e);rw[hb] at q;exact q
 |succ k ih =>
  intro j s c hr hj hit hl ht hS hR;have ah:j<bs.length:=by omega
  have ej:bs.take (j+1)=bs.take j++[bs[j]]:=by rw[yL,zi ah];rfl
  have mj:bs[j]∈bs:=List.getElem_mem ah;refine codeAny_builtin PySem.F.entry_min_loop ?_;rw[za9 zO _];show wpAny _ A.in1 (seqItems? (.ref S) >>= _) _ _ s;refine wpAny_bind (wpAny_seqItems hS rfl ?_);show wpAny _ A.in1 (tryCatch (pyNext (.ref I)) _ >>= _) _ _ s;refine wpAny_bind (wpAny_tryCatch (wpAny_pyNext_list_item (A:=A.in1) hit hl (x:=.ref bs[j].1) (by simp[ah]) λ h' aX sb=>?_));have br:zag I s.heap h':=sb;have a9:h'.get? S=_:=(br.2 S c9).trans hS;have bz:h'.IsList l (bs.map λ b=>y9 b.1).toArray:=hl.at λ o e=>(br.2 l g7).trans e;have bT:∀b∈bs,IsTup h' b.1 (tv b.1):=λ b hb=>by
   obtain⟨o,ho,r⟩:=ht b hb;exact⟨o,(br.2 b.1 (fm b hb).1).trans ho,r⟩
  cases hb:B3 (bs.take j) with
  |none =>
   unfold Dj at a9 ⊢;rw[hb] at a9 ⊢;show wpAny _ A.in1 (updateSeq S (λ _=>#[.ref bs[j].1,.ref bs[j].1]) >>= _) _ _ _;refine wpAny_bind ?_;refine wpAny_updateSeq a9 rfl ?_;rw[a5];have s1:=Heap.SameBut.update h' S (zad λ _=>(#[.ref bs[j].1,.ref bs[j].1]:Array Value));refine wpAny_pure ⟨plainId_quiet zO _,ih (j+1) _ (c+1) (by omega) ah (aX.at λ o e=>(s1.2 I (zX c9)).trans e) (bz.at λ o e=>(s1.2 l iz).trans e) (λ b hb=>?_) ?_ λ bU tk aN=>?_⟩
   ·obtain⟨o,ho,r⟩:=bT b hb;exact⟨o,(s1.2 b.1 (fm b hb).2).trans ho,r⟩
   ·refine (zaq _ a9 rfl).trans ?_;unfold Dj;rw[ej,D3,hb];rfl
   ·exact hR bU tk λ b o h1 h2 e=>aN b o h1 h2 ((s1.2 b h2).trans ((br.2 b h1).trans e))
  |some m =>
   have mm:m∈bs:=y8 (K7 _ _ hb);unfold Dj at a9 ⊢;rw[hb] at a9 ⊢;show wpAny _ A.in1 (tryCatch (holding [.ref bs[j].1,.ref bs[j].1] (richCompare .Lt (.ref bs[j].1) (.ref m.1) >>= _)) _ >>= _) _ _ _;refine wpAny_bind (wpAny_tryCatch (wpAny_holding (wpAny_bind (HT.HV (bT _ mj) (bT _ mm) (hk _ mj) (hk _ mm) hu ?_))));refine wpAny_bind (wpAny_holding (wpAny_truthy_bool ?_));refine wpAny_bind (wpAny_letGo (wpAny_pure ?_));cases hc:HT.lexLt bs[j].2 m.2 with
   |true =>
    simp only[if_true];have s1:=Heap.SameBut.update h' S (zad λ _=>(#[.ref bs[j].1,.ref bs[j].1]:Array Value));refine wpAny_bind ?_;refine wpAny_updateSeq a9 rfl (wpAny_bind (wpAny_letGo ?_));rw[a5];refine wpAny_pure ⟨plainId_quiet zO _,ih (j+1) _ c (by omega) ah (aX.at λ o e=>(s1.2 I (zX c9)).trans e) (bz.at λ o e=>(s1.2 l iz).trans e) (λ b hb=>?_) ?_ λ bU tk aN=>?_⟩
    ·obtain⟨o,ho,r⟩:=bT b hb;exact⟨o,(s1.2 b.1 (fm b hb).2).trans ho,r⟩
    ·refine (zaq _ a9 rfl).trans ?_;unfold Dj;rw[ej,D3,hb];simp only[hc,if_true];rfl
    ·exact hR bU tk λ b o h1 h2 e=>aN b o h1 h2 ((s1.2 b h2).trans ((br.2 b h1).trans e))
   |false =>
    simp only[z8,if_false];refine wpAny_bind (wpAny_letGo ?_);rw[a5];refine wpAny_pure ⟨plainId_quiet zO _,ih (j+1) _ c (by omega) ah aX bz bT ?_ λ bU tk aN=>?_⟩
    ·refine a9.trans ?_;unfold Dj;rw[ej,D3,hb];simp only[hc,z8,if_false]
    ·exact hR bU tk λ b o h1 h2 e=>aN b o h1 h2 ((br.2 b h1).trans e)
theorem O4 {E:Value->Shared->Prop}{s:Shared}{Q:Value->Shared->Prop}(bs:List (Addr×List Int))(tv:Addr->Array Value)(l:Addr)(d:Value)(hh:A.handled=none)(hu:A.in1.units<cLine)
 (hl:s.heap.IsList l (bs.map λ b=>y9 b.1).toArray) (ht:∀b∈bs,IsTup s.heap b.1 (tv b.1)) (hk:∀b∈bs,IntsAre (tv b.1).toList b.2)
 (hQ:∀h' tk,(∀b o,s.heap.get? b=some o->h'.get? b=some o)->Q (match B3 bs with|none=>d|some b=>.ref b.1) {s with heap:=h',toks:=tk}):
 wpAny (model prog w) A (call (.builtin "min") [.ref l] [(Str.ofString "default",d)]) Q E s:=by
 have a5:(toString "min" ++ toString ".loop" : String) = "min.loop" := by decide
 obtain⟨ol,fv,_⟩:=id hl;have vo:l<s.heap.objs.size:=zr fv;refine kmk_tree PySem.F.kind_min PySem.F.plain_min PySem.F.entry_min (O3 _ _) ?_;show wpAny _ A.in1 (zab "min" ["key","default"] 0 ⟨[],[(Str.ofString "default",d)]⟩ >>= _) _ _ s;refine wpAny_bind (wpAny_of_eq (show zab "min" ["key","default"] 0 ⟨[],[(Str.ofString "default",d)]⟩=pure [none,some d] from rfl) ?_);refine wpAny_bind (wpAny_pure ?_);refine wpAny_bind (wpAny_pyIter_list hl ?_);refine wpAny_bind (wpAny_newList ?_ (zJ _));rw[a5];have hS:(s.heap.push {cls:=.type "list_iterator",data:=.fields #[.ref l,.int 0 0]}).objs.size=s.heap.objs.size+1:=zax ..;have old:∀b o,s.heap.get? b=some o->b≠s.heap.objs.size/\b≠(s.heap.push {cls:=.type "list_iterator",data:=.fields #[.ref l,.int 0 0]}).objs.size:=λ b o e=>⟨zB (zr e),by rw[hS];exact zB (Nat.lt_succ_of_lt (zr e))⟩;have grow:∀b o,s.heap.get? b=some o->((s.heap.push {cls:=.type "list_iterator",data:=.fields #[.ref l,.int 0 0]}).push {cls:=.type "list",data:=.seq #[]}).get? b=some o:=λ b o e=>zq _ (zq _ e);refine wpAny_pure ⟨plainId_quiet zO _,?_⟩;refine XX bs tv l s.heap.objs.size (s.heap.push {cls:=.type "list_iterator",data:=.fields #[.ref l,.int 0 0]}).objs.size d hh hu (by rw[hS];exact Nat.succ_ne_self _) (old l ol fv).1 (old l ol fv).2 (λ b hb=>?_) hk _ 0 _ 0 rfl (zJ _) ?_ ?_ (λ b hb=>?_) ?_ ?_
 ·obtain⟨o,ho,_⟩:=ht b hb;exact old b.1 o ho
 ·exact⟨_,zq _ (zE _ rfl),rfl,rfl⟩
 ·exact hl.at λ o e=>grow l o e
 ·obtain⟨o,ho,r⟩:=ht b hb;exact⟨o,grow b.1 o ho,r⟩
 ·exact zE _ rfl
 ·intro h' tk f6;exact hQ h' tk λ b o e=>f6 b o (old b o e).1 (old b o e).2 (grow b o e)
end
section
variable {X:Cx}{e e2:Expr}{te td:TE}{p pos kp:Pos}
noncomputable def pO (K:za)(te td:TE):TE:=λ σ H Q=>te σ H λ x H1=>td σ H1 λ d H2=>∃(a:Addr) (bs:List (Addr×List Int)),x=.ref a/\CJ K H2 a (bs.map λ b=>V.ref b.1)/\(∀b∈bs,Fb K H2 b.1 (b.2.map V.int))/\Q (match B3 bs with | none=>d | some b=>.ref b.1) H2
theorem K8:∀ {bs:List (Addr×List Int)}{us:List Value},Vals (bs.map λ b=>V.ref b.1) us->us=bs.map λ b=>y9 b.1
 |[],_,.nil=>rfl
 |b::r,_,.cons h t=>by cases h;rw[K8 t];rfl
theorem dG (hc:X.calm=true)(hu:X.A.units+1<cLine)(hg:Gl X "min")(hm:X.mg "min" = none)(he:PE X e te)(hd:PE X e2 td)
 (aP:starEach [e] X.env=[(false,eval e X.env)]:=by rfl) (aL:(backToKw pos (keywordEach [⟨some "default",e2,kp⟩] X.env)).all (·.1.isSome)=true:=by rfl) (nj:(backToKw pos (keywordEach [⟨some "default",e2,kp⟩] X.env)).filterMap (·.1)=([("default" : Str)]:List Str):=by rfl)
 (nk:(backToKw pos (keywordEach [⟨some "default",e2,kp⟩] X.env)).any (·.1.isNone)=false:=by rfl) (bD:backTo pos (starEach [e] X.env)=(false,eval e X.env)::backTo pos (starEach [] X.env):=by rfl) (au:(backTo pos (starEach [e] X.env)).any (·.1)=false:=by rfl):
 PE X (.Call (.Name "min" p) [e] [⟨some "default",e2,kp⟩] pos) (pO X.K te td):=by
 intro pins s σ H Q I h;refine wpAny_Call_Name_kw (Dr I hg hm boot_min ?_ (by decide) (by decide));refine callWith_kw (Bg ((Ba he C5 (hs:=aP)) pos pins s σ H (λ vs H1=>match vs with|[x]=>td σ H1 λ d H2=>∃(a:Addr) (bs:List (Addr×List Int)),x=.ref a/\CJ X.K H2 a (bs.map λ b=>V.ref b.1)/\(∀b∈bs,Fb X.K H2 b.1 (b.2.map V.int))/\Q (match B3 bs with|none=>d|some b=>.ref b.1) H2|_=>False) I h) λ us s1 ⟨vs,H1,I1,r1,q1⟩=>?_) bD au aL nk;obtain⟨x,rfl⟩:∃x,vs=[x]:=by
  match vs,q1 with
  |[x],_=>exact⟨x,rfl⟩
 refine Bg ((cN hd kJ) pos pins s1 σ H1 (λ zs H2=>match zs with|[d]=>∃(a:Addr) (bs:List (Addr×List Int)),x=.ref a/\CJ X.K H2 a (bs.map λ b=>V.ref b.1)/\(∀b∈bs,Fb X.K H2 b.1 (b.2.map V.int))/\Q (match B3 bs with|none=>d|some b=>.ref b.1) H2|_=>False) I1 q1) λ ws s2 ⟨zs,H2,I2,r2,q2⟩=>?_;obtain⟨d,rfl⟩:∃d,zs=[d]:=by
  match zs,q2 with
  |[d],_=>exact⟨d,rfl⟩
 obtain⟨a,bs,rfl,hl,hb,q⟩:=q2;obtain⟨ua,rfl,ra⟩:=r1.one;obtain⟨ud,rfl,rd⟩:=r2.one;cases ra;rw[nj];obtain⟨aa,rv,pl,hz⟩:=I2.list hl;have ei:=K8 rv;subst ei;have tv:∀a:Addr,∃t:Array Value,∀b∈bs,b.1=a->IsTup s2.heap a t/\IntsAre t.toList b.2:=λ a=>by
  by_cases bV:∃b∈bs,b.1=a
  ·obtain⟨b,bV,rfl⟩:=bV;obtain⟨ts,rt,pt,_⟩:=I2.tuple (hb b bV);refine⟨ts.toArray,λ b' a8 e=>⟨pt,?_⟩⟩;have q2:=hb b' a8;rw[e] at q2;have e2:=I2.GP q2 (hb b bV);rw[<-e2] at rt;simpa using intsAre_of rt
  ·exact⟨#[],λ b a8 e=>absurd ⟨b,a8,e⟩ bV⟩
 refine O4 bs (λ b=>zg (tv b)) a ud (I2.ok.hd hc) hu pl.isList (λ b a8=>(zb (tv b.1) b a8 rfl).1) (λ b a8=>(zb (tv b.1) b a8 rfl).2) λ h' tk hk=>?_;refine⟨match B3 bs with|none=>d|some b=>.ref b.1,H2,I2.kept (t':=tk) hk,?_,q⟩;cases B3 bs with
 |none=>exact rd
 |some b=>rfl
end
inductive D where
 |AA|bl (b:Bool)|int (i:Int)|str (x:Str)|tup (ds:List D)|lst (ds:List D)|EG (x:Str)|Bl (t:Bool) (ks vs:List D)|ins (x:Str) (ns:List Str) (ds:List D)
noncomputable def Dk:Key->D
 | .inl i=>.int i
 | .inr x=>.str x
def tQ (a c:Addr)(h:Heap):Prop:=∃o,h.get? a=some o/\o.cls=.ref c/\PySem.W.notCls o=true
theorem Rd.same {H H':Hp}{a:Addr}{u:HO}(r:Rd H a u)(e:Ad H H'):Rd H' a u:=r.elim (λ h=>.inl (e _ _ h)) λ⟨o,h⟩=>.inr ⟨o,e _ _ h⟩
mutual
inductive BK (K:za) (H:Hp):V->D->Prop
 |AA:BK K H .AA .AA
 |bl (b):BK K H (.bl b) (.bl b)
 |int (i):BK K H (.int i) (.int i)
 |str (x):BK K H (.str x) (.str x)
 |tup {a xs ds}:H a=some (.tup xs)->Ai K H xs ds->BK K H (.ref a) (.tup ds)
 |lst {a xs ds}:CJ K H a xs->Ai K H xs ds->BK K H (.ref a) (.lst ds)
 |HY {a kvs ds}:Rd H a (.dK kvs)->Ai K H (kvs.map yT) ds->BK K H (.ref a) (.Bl false (kvs.map λ kv=>Dk kv.1) ds)
 |HZ {a kvs ds}:Rd H a (.dT kvs)->Ai K H (kvs.map yT) ds->BK K H (.ref a) (.Bl true (kvs.map λ kv=>.tup (kv.1.map Dk)) ds)
 |ins {a C dx fs x ds}:zF K mainGlobals x=some (some (.ref C))->H a=some (.ins C dx fs)->Ai K H (fs.map yT) ds->BK K H (.ref a) (.ins x (fs.map zQ) ds)
 |EG {a c x}:zF K mainGlobals x=some (some (.ref c))->H a=some (.ext (tQ a c))->BK K H (.ref a) (.EG x)
inductive Ai (K:za) (H:Hp):List V->List D->Prop
 |nil:Ai K H [] []
 |cons {x d xs ds}:BK K H x d->Ai K H xs ds->Ai K H (x::xs) (d::ds)
end
theorem Ai.length {K:za}{H:Hp}:∀ {xs:List V}{ds:List D},Ai K H xs ds->xs.length=ds.length
 |_,_,.nil=>rfl
 |_,_,.cons _ t=>by rw[zl,zl,Ai.length t]
theorem Ai.get {K:za}{H:Hp}:∀ {xs:List V}{ds:List D}{i:Nat}{d:D},Ai K H xs ds->ds[i]?=some d->∃x,xs[i]?=some x/\BK K H x d
 |_,_,_,_,.nil,e=>by simp at e
 |_,_,0,_,.cons r _,e=>by simp at e;subst e;exact⟨_,rfl,r⟩
 |_,_,i+1,d,.cons _ t,e=>by
  obtain⟨u,h1,h2⟩:=Ai.get (i:=i) (d:=d) t (by simpa using e);exact⟨u,by simpa using h1,h2⟩
theorem Ai.K9 {K:za}{H:Hp}:∀ {xs:List V}{ds:List D}{i:Nat}{x:V},Ai K H xs ds->xs[i]?=some x->∃d,ds[i]?=some d/\BK K H x d
 |_,_,_,_,.nil,e=>by simp at e
 |_,_,0,_,.cons r _,e=>by simp at e;subst e;exact⟨_,rfl,r⟩
 |_,_,i+1,d,.cons _ t,e=>by
  obtain⟨u,h1,h2⟩:=Ai.K9 (i:=i) (x:=d) t (by simpa using e);exact⟨u,by simpa using h1,h2⟩
theorem Ai.append {K:za}{H:Hp}:∀ {xs ys:List V}{ds es:List D},Ai K H xs ds->Ai K H ys es->Ai K H (xs++ys) (ds++es)
 |_,_,_,_,.nil,h=>h
 |_,_,_,_,.cons r t,h=>.cons r (Ai.append t h)
theorem Ai.snoc {K:za}{H:Hp}{xs:List V}{ds:List D}{x:V}{d:D}(h:Ai K H xs ds)(r:BK K H x d):Ai K H (xs++[x]) (ds++[d]):=h.append (.cons r .nil)
theorem Ai.take {K:za}{H:Hp}:∀ {xs:List V}{ds:List D}(n:Nat),Ai K H xs ds->Ai K H (xs.take n) (ds.take n)
 |_,_,0,_|_,_,_+1,.nil=>.nil
 |_,_,n+1,.cons r t=>.cons r (Ai.take n t)
theorem Ai.drop {K:za}{H:Hp}:∀ {xs:List V}{ds:List D}(n:Nat),Ai K H xs ds->Ai K H (xs.drop n) (ds.drop n)
 |_,_,0,r=>r
 |_,_,_+1,.nil=>.nil
 |_,_,n+1,.cons _ t=>Ai.drop n t
theorem Ai.ints {K:za}{H:Hp}:∀(ns:List Int),Ai K H (ns.map V.int) (ns.map D.int)
 |[]=>.nil
 |n::r=>.cons (.int n) (Ai.ints r)
theorem Ad.tR {K:za}{H H':Hp}{a:Addr}{xs:List V}(e:Ad H H')(h:Fb K H a xs):Fb K H' a xs:=by
 rcases h with (h|⟨o,h⟩)|h
 ·exact .inl (.inl (e _ _ h))
 ·exact .inl (.inr ⟨o,e _ _ h⟩)
 ·exact .inr h
mutual
theorem BK.mono {K:za}{H H':Hp}(e:Ad H H'):∀ {v:V}{d:D},BK K H v d->BK K H' v d
 |_,_,.AA=>.AA
 |_,_,.bl b=>.bl b
 |_,_,.int i=>.int i
 |_,_,.str x=>.str x
 |_,_,.tup h r=>.tup (e _ _ h) (Ai.mono e r)
 |_,_,.lst h r=>.lst (e.seq h) (Ai.mono e r)
 |_,_,.HY h r=>.HY (h.same e) (Ai.mono e r)
 |_,_,.HZ h r=>.HZ (h.same e) (Ai.mono e r)
 |_,_,.ins n h r=>.ins n (e _ _ h) (Ai.mono e r)
 |_,_,.EG h r=>.EG h (e _ _ r)
theorem Ai.mono {K:za}{H H':Hp}(e:Ad H H'):∀ {vs:List V}{ds:List D},Ai K H vs ds->Ai K H' vs ds
 |_,_,.nil=>.nil
 |_,_,.cons h t=>.cons (BK.mono e h) (Ai.mono e t)
end
theorem AJ {H:Hp}{p:Addr}(h:H p=none)(o:HO):Ad H (upd H p o):=λ b u q=>by rw[Ah (Av q h)];exact q
mutual
noncomputable def Ay:D->D->Bool
 | .AA,.AA=>true
 | .bl a,.bl b| .int a,.int b| .str a,.str b=>a==b
 | .bl a,.int b=>(if a then 1 else 0)==b
 | .int a,.bl b=>a==(if b then 1 else 0)
 | .tup a,.tup b| .lst a,.lst b=>Cq a b
 | .EG a,.EG b=>a==b
 | .Bl s a b,.Bl t c d=>(s==t)&&(Cq a c&&Cq b d)
 | .ins x n a,.ins y m b=>(x==y)&&((n==m)&&Cq a b)
 |_,_=>false
noncomputable def Cq:List D->List D->Bool
 |[],[]=>true
 |a::r,b::t=>Ay a b&&Cq r t
 |_,_=>false
end
mutual
theorem IK:∀d:D,Ay d d=true
 | .AA=>by simp[Ay]
 | .bl b| .int b| .str b=>by simp[Ay]
 | .tup b| .lst b=>by simp only[Ay];exact DK b
 | .EG b=>by simp[Ay]
 | .Bl s a b=>by simp only[Ay];rw[DK a,DK b];simp
 | .ins x n a=>by simp only[Ay];rw[DK a];simp
theorem DK:∀d:List D,Cq d d=true
 |[]=>by simp[Cq]
 |a::r=>by simp only[Cq,IK a,DK r,Bool.and_true]
end
mutual
noncomputable def AG:D->Bool
 | .tup a| .lst a=>Mq a
 | .EG _| .Bl _ _ _| .ins _ _ _=>false
 |_=>true
noncomputable def Mq:List D->Bool
 |[]=>true
 |a::r=>AG a&&Mq r
end
theorem C9:∀ {ds:List D}{d:D},d∈ds->Mq ds=true->AG d=true
 |a::r,d,h,q=>by
  rw[Mq,zP] at q;rcases zp.mp h with z|z
  ·subst z;exact q.1
  ·exact C9 z q.2
mutual
noncomputable def IB:D->Nat
 | .tup a| .lst a=>Le a+1
 |_=>0
noncomputable def Le:List D->Nat
 |[]=>0
 |a::r=>max (IB a) (Le r)
end
theorem Fi:∀ {ds:List D}{d:D},d∈ds->IB d<=Le ds
 |a::r,d,h=>by
  rw[Le];rcases zp.mp h with z|z
  ·subst z;exact Nat.le_max_left _ _
  ·exact yG (Fi z) (Nat.le_max_right _ _)
theorem RB:∀ {a b:List D},Cq a b=true->a.length=b.length
 |[],[],_=>rfl
 |[],_::_,h|_::_,[],h=>by simp[Cq] at h
 |a::r,b::t,h=>by
  simp only[Cq,zP] at h;rw[zl,zl,RB h.2]
theorem DY:∀(a b:List D),a.length=b.length->(yD a.length).all (λ j=>Ay (a.getD j .AA) (b.getD j .AA))=Cq a b
 |[],[],_=>by simp[Cq]
 |a::r,b::t,h=>by
  have ih:=DY r t (by simpa using h);rw[zl,List.range_succ_eq_map,List.all_cons,List.all_map,Cq,<-ih];simp[Function.comp_def]
 |[],_::_,h|_::_,[],h=>by cases h
theorem Lr {a b:List D}(h:a.length≠b.length):Cq a b=false:=by
 cases e:Cq a b with
 |false=>rfl
 |true=>exact absurd (RB e) h
theorem Mr (a b:List D):((yD (min a.length b.length)).all (λ j=>Ay (a.getD j .AA) (b.getD j .AA))&&(a.length==b.length))=Cq a b:=by
 by_cases h:a.length=b.length
 ·rw[<-DY a b h,h];simp
 ·rw[Lr h,beq_false_of_ne h,Bool.and_false]
section
variable {X:Cx}{pins:List (Addr×Obj)}{σ:St}{H:Hp}{s:Shared}
theorem UP (I:Inv X pins σ H s){a:Addr}{xs ys:List V}(h:CJ X.K H a xs)(h':Fb X.K H a ys):False:=by
 obtain⟨aa,_,⟨o,n,e,c,_,_⟩,_⟩:=I.list h;obtain⟨its',_,⟨o',e',c',_⟩,_⟩:=I.tuple h';rw[e] at e';cases e';rw[c] at c';revert c';decide
mutual
theorem dH (I:Inv X pins σ H s):∀ {v:V}{d d':D},AG d=true->AG d'=true->BK X.K H v d->BK X.K H v d'->d=d'
 |_,_,_,_,_,.AA,.AA|_,_,_,_,_,.bl _,.bl _|_,_,_,_,_,.int _,.int _|_,_,_,_,_,.str _,.str _=>rfl
 |_,_,_,n1,n2,.tup h r,.tup h' r'=>by
  have e:=I.GP (.of h) (.of h');subst e;rw[Ge I (by rw[AG] at n1;exact n1) (by rw[AG] at n2;exact n2) r r']
 |_,_,_,n1,n2,.lst h r,.lst h' r'=>by
  have e:=I.DU h h';subst e;rw[Ge I (by rw[AG] at n1;exact n1) (by rw[AG] at n2;exact n2) r r']
 |_,_,_,_,_,.tup h _,.lst h' _=>(UP I h' (.of h)).elim
 |_,_,_,_,_,.lst h _,.tup h' _=>(UP I h (.of h')).elim
 |_,_,_,n1,_,.EG _ _,_|_,_,_,n1,_,.HY _ _,_|_,_,_,n1,_,.HZ _ _,_|_,_,_,n1,_,.ins _ _ _,_=>by rw[AG] at n1;cases n1
 |_,_,_,_,n2,_,.EG _ _|_,_,_,_,n2,_,.HY _ _|_,_,_,_,n2,_,.HZ _ _|_,_,_,_,n2,_,.ins _ _ _=>by rw[AG] at n2;cases n2
theorem Ge (I:Inv X pins σ H s):∀ {v:List V}{d d':List D},Mq d=true->Mq d'=true->Ai X.K H v d->Ai X.K H v d'->d=d'
 |_,_,_,_,_,.nil,.nil=>rfl
 |_,_,_,n1,n2,.cons h r,.cons h' r'=>by
  rw[Mq,zP] at n1 n2;rw[dH I n1.1 n2.1 h h',Ge I n1.2 n2.2 r r']
end
theorem Xd {xs:List V}{aa:List Value}(r:Vals xs aa)(j:Nat)(h:j<aa.toArray.size):∃x,xs[j]?=some x/\RelV x aa.toArray[j]:=by
 have h':j<aa.length:=by simpa using h
 have hx:j<xs.length:=by rw[r.length];exact h'
 obtain⟨u,hu,ru⟩:=r.get (zi hx);rw[zi h'] at hu;refine⟨xs[j],zi hx,?_⟩;have e:aa.toArray[j]=u:=by simpa using hu
 rw[e];exact ru
theorem Cp {ds:List D}{j:Nat}{d:D}(h:ds[j]?=some d):ds.getD j .AA=d:=by rw[zy,h];rfl
theorem PZ (I:Inv X pins σ H s):∀(n:Nat) (A:Around) (d e:D) (v w:V) (u1 u2:Value),IB d<=n->AG d=true->AG e=true->A.units+n<cLine->BK X.K H v d->BK X.K H w e->RelV v u1->RelV w u2->SeqAt.EqAt A s u1 u2 (Ay d e):=by
 intro n;induction n with
 |zero =>
  intro A d e v w u1 u2 hd ar af hu h1 h2 r1 r2;have aj:A.units<cLine:=by omega
  cases h1 with
  |EG _ _|HY _ _|HZ _ _|ins _ _ _=>simp[AG] at ar
  |AA =>
   cases r1;cases h2 with
   |EG _ _|HY _ _|HZ _ _|ins _ _ _=>simp[AG] at af
   |AA=>cases r2;simp only[Ay];exact .same _
   |bl b=>cases r2;simp only[Ay];exact .none_bool _
   |int b=>obtain⟨t,rfl⟩:=r2;simp only[Ay];exact .none_int _ _
   |str b=>obtain⟨t,rfl⟩:=r2;simp only[Ay];exact .none_str _ _
   |tup h r=>cases r2;simp only[Ay];obtain⟨_,_,p,_⟩:=I.tuple (.of h);exact .none_tuple p aj
   |lst h r=>cases r2;simp only[Ay];obtain⟨_,_,p,_⟩:=I.list h;exact .none_list p.isList aj
  |bl a =>
   cases r1;cases h2 with
   |EG _ _|HY _ _|HZ _ _|ins _ _ _=>simp[AG] at af
   |AA=>cases r2;simp only[Ay];exact .bool_none _
   |bl b=>cases r2;simp only[Ay];exact .bool_bool _ _
   |int b=>obtain⟨t,rfl⟩:=r2;simp only[Ay];exact .bool_int _ _ _
   |str b=>obtain⟨t,rfl⟩:=r2;simp only[Ay];exact .bool_str _ _ _
   |tup h r=>cases r2;simp only[Ay];obtain⟨_,_,p,_⟩:=I.tuple (.of h);exact .bool_tuple _ p aj
   |lst h r=>cases r2;simp only[Ay];obtain⟨_,_,p,_⟩:=I.list h;exact .bool_list _ p.isList aj
  |int a =>
   obtain⟨t',rfl⟩:=r1;cases h2 with
   |EG _ _|HY _ _|HZ _ _|ins _ _ _=>simp[AG] at af
   |AA=>cases r2;simp only[Ay];exact .int_none _ _
   |bl b=>cases r2;simp only[Ay];exact .int_bool _ _ _
   |int b=>obtain⟨t,rfl⟩:=r2;simp only[Ay];exact .int_int _ _ _ _
   |str b=>obtain⟨t,rfl⟩:=r2;simp only[Ay];exact .int_str _ _ _ _
   |tup h r=>cases r2;simp only[Ay];obtain⟨_,_,p,_⟩:=I.tuple (.of h);exact .int_tuple _ _ p aj
   |lst h r=>cases r2;simp only[Ay];obtain⟨_,_,p,_⟩:=I.list h;exact .int_list _ _ p.isList aj
  |str a =>
   obtain⟨t',rfl⟩:=r1;cases h2 with
   |EG _ _|HY _ _|HZ _ _|ins _ _ _=>simp[AG] at af
   |AA=>cases r2;simp only[Ay];exact .str_none _ _
   |bl b=>cases r2;simp only[Ay];exact .str_bool _ _ _
   |int b=>obtain⟨t,rfl⟩:=r2;simp only[Ay];exact .str_int _ _ _ _
   |str b=>obtain⟨t,rfl⟩:=r2;simp only[Ay];exact .str_str _ _ _ _
   |tup h r=>cases r2;simp only[Ay];obtain⟨_,_,p,_⟩:=I.tuple (.of h);exact .str_tuple _ _ p aj
   |lst h r=>cases r2;simp only[Ay];obtain⟨_,_,p,_⟩:=I.list h;exact .str_list _ _ p.isList aj
  |tup h r|lst h r=>rw[IB] at hd;omega
 |succ n ih =>
  intro A d e v w u1 u2 hd ar af hu h1 h2 r1 r2;have aj:A.units<cLine:=by omega
  have su:A.in1.units+n<cLine:=by show A.units+1+n<cLine;omega
  by_cases i4:IB d<=n
  ·exact ih A d e v w u1 u2 i4 ar af (by omega) h1 h2 r1 r2
  cases h1 with
  |EG _ _|HY _ _|HZ _ _|ins _ _ _=>simp[AG] at ar
  |AA|bl _|int _|str _=>exact absurd (by simp[IB]) i4
  | @tup a xs ds h r =>
   cases r1;obtain⟨aa,rv,p,_⟩:=I.tuple (.of h);cases h2 with
   |EG _ _|HY _ _|HZ _ _|ins _ _ _=>simp[AG] at af
   |AA=>cases r2;simp only[Ay];exact .tuple_none p aj
   |bl b=>cases r2;simp only[Ay];exact .tuple_bool _ p aj
   |int b=>obtain⟨t,rfl⟩:=r2;simp only[Ay];exact .tuple_int _ _ p aj
   |str b=>obtain⟨t,rfl⟩:=r2;simp only[Ay];exact .tuple_str _ _ p aj
   | @lst a2 bW es h' r'=>cases r2;simp only[Ay];obtain⟨_,_,p',_⟩:=I.list h';exact .tuple_list p p'.isList aj
   | @tup a2 bW es h' r' =>
    cases r2;by_cases ha:a=a2
    ·subst ha;have e':=I.GP (.of h) (.of h');subst e';have e2:=Ge I (by rw[AG] at ar;exact ar) (by rw[AG] at af;exact af) r r';subst e2;rw[IK];exact .same _
    ·obtain⟨its',aJ,p',_⟩:=I.tuple (.of h');refine .of_refs ha ?_;have q:=SeqAt.RcAt.tuples (A:=A) (e:=λ j=>Ay (ds.getD j .AA) (es.getD j .AA)) p p' aj λ j h1 h2=>?_
     ·have z1:aa.toArray.size=ds.length:=by rw[zj,<-rv.length,r.length]
      have z2:its'.toArray.size=es.length:=by rw[zj,<-aJ.length,r'.length]
      rw[z1,z2,Mr] at q;simp only[Ay];exact q
     ·obtain⟨x,hx,rx⟩:=Xd rv j h1;obtain⟨y,hy,ry⟩:=Xd aJ j h2;obtain⟨dx,ex,bX⟩:=r.K9 hx;obtain⟨dy,ey,bY⟩:=r'.K9 hy;rw[Cp ex,Cp ey];refine ih A.in1 dx dy x y _ _ ?_ (C9 (zk ex) (by rw[AG] at ar;exact ar)) (C9 (zk ey) (by rw[AG] at af;exact af)) su bX bY rx ry;rw[IB] at hd;have:=Fi (zk ex);omega
  | @lst a xs ds h r =>
   cases r1;obtain⟨aa,rv,p,_⟩:=I.list h;cases h2 with
   |EG _ _|HY _ _|HZ _ _|ins _ _ _=>simp[AG] at af
   |AA=>cases r2;simp only[Ay];exact .list_none p.isList aj
   |bl b=>cases r2;simp only[Ay];exact .list_bool _ p.isList aj
   |int b=>obtain⟨t,rfl⟩:=r2;simp only[Ay];exact .list_int _ _ p.isList aj
   |str b=>obtain⟨t,rfl⟩:=r2;simp only[Ay];exact .list_str _ _ p.isList aj
   | @tup a2 bW es h' r'=>cases r2;simp only[Ay];obtain⟨_,_,p',_⟩:=I.tuple (.of h');exact .list_tuple p.isList p' aj
   | @lst a2 bW es h' r' =>
    cases r2;by_cases ha:a=a2
    ·subst ha;have e':=I.DU h h';subst e';have e2:=Ge I (by rw[AG] at ar;exact ar) (by rw[AG] at af;exact af) r r';subst e2;rw[IK];exact .same _
    ·obtain⟨its',aJ,p',_⟩:=I.list h';refine .of_refs ha ?_;have z1:aa.toArray.size=ds.length:=by rw[zj,<-rv.length,r.length]
     have z2:its'.toArray.size=es.length:=by rw[zj,<-aJ.length,r'.length]
     by_cases hz:aa.toArray.size=its'.toArray.size
     ·have q:=SeqAt.RcAt.lists (A:=A) (e:=λ j=>Ay (ds.getD j .AA) (es.getD j .AA)) p.isList p'.isList hz aj λ j h1 h2=>?_
      ·rw[z1,DY ds es (by rw[<-z1,<-z2,hz])] at q;simp only[Ay];exact q
      ·obtain⟨x,hx,rx⟩:=Xd rv j h1;obtain⟨y,hy,ry⟩:=Xd aJ j h2;obtain⟨dx,ex,bX⟩:=r.K9 hx;obtain⟨dy,ey,bY⟩:=r'.K9 hy;rw[Cp ex,Cp ey];refine ih A.in1 dx dy x y _ _ ?_ (C9 (zk ex) (by rw[AG] at ar;exact ar)) (C9 (zk ey) (by rw[AG] at af;exact af)) su bX bY rx ry;rw[IB] at hd;have:=Fi (zk ex);omega
     ·have q:=SeqAt.RcAt.lists_lengths (A:=A) p.isList p'.isList (by simpa using hz) aj;simp only[Ay];rw[Lr (by rw[<-z1,<-z2];exact hz)];exact q
theorem tS (I:Inv X pins σ H s)(A:Around)(d e:D)(v w:V)(u1 u2:Value)(hd:A.units+IB d<cLine)(ar:AG d=true)(af:AG e=true)(h1:BK X.K H v d)(h2:BK X.K H w e)(r1:RelV v u1)(r2:RelV w u2):SeqAt.RcAt A s u1 u2 (Ay d e):=by
 have aj:A.units<cLine:=by omega
 cases h1 with
 |EG _ _|HY _ _|HZ _ _|ins _ _ _=>simp[AG] at ar
 |AA =>
  cases r1;cases h2 with
  |EG _ _|HY _ _|HZ _ _|ins _ _ _=>simp[AG] at af
  |AA=>cases r2;simp only[Ay];exact .none_none
  |bl b=>cases r2;simp only[Ay];exact .none_bool _
  |int b=>obtain⟨t,rfl⟩:=r2;simp only[Ay];exact .none_int _ _
  |str b=>obtain⟨t,rfl⟩:=r2;simp only[Ay];exact .none_str _ _
  |tup h r=>cases r2;simp only[Ay];obtain⟨_,_,p,_⟩:=I.tuple (.of h);exact .none_tuple  p aj
  |lst h r=>cases r2;simp only[Ay];obtain⟨_,_,p,_⟩:=I.list h;exact .none_list  p.isList aj
 |bl a =>
  cases r1;cases h2 with
  |EG _ _|HY _ _|HZ _ _|ins _ _ _=>simp[AG] at af
  |AA=>cases r2;simp only[Ay];exact .bool_none _
  |bl b=>cases r2;simp only[Ay];exact .bool_bool _ _
  |int b=>obtain⟨t,rfl⟩:=r2;simp only[Ay];exact .bool_int _ _ _
  |str b=>obtain⟨t,rfl⟩:=r2;simp only[Ay];exact .bool_str _ _ _
  |tup h r=>cases r2;simp only[Ay];obtain⟨_,_,p,_⟩:=I.tuple (.of h);exact .bool_tuple _ p aj
  |lst h r=>cases r2;simp only[Ay];obtain⟨_,_,p,_⟩:=I.list h;exact .bool_list _ p.isList aj
 |int a =>
  obtain⟨t',rfl⟩:=r1;cases h2 with
  |EG _ _|HY _ _|HZ _ _|ins _ _ _=>simp[AG] at af
  |AA=>cases r2;simp only[Ay];exact .int_none _ _
  |bl b=>cases r2;simp only[Ay];exact .int_bool _ _ _
  |int b=>obtain⟨t,rfl⟩:=r2;simp only[Ay];exact .int_int _ _ _ _
  |str b=>obtain⟨t,rfl⟩:=r2;simp only[Ay];exact .int_str _ _ _ _
  |tup h r=>cases r2;simp only[Ay];obtain⟨_,_,p,_⟩:=I.tuple (.of h);exact .int_tuple _ _ p aj
  |lst h r=>cases r2;simp only[Ay];obtain⟨_,_,p,_⟩:=I.list h;exact .int_list _ _ p.isList aj
 |str a =>
  obtain⟨t',rfl⟩:=r1;cases h2 with
  |EG _ _|HY _ _|HZ _ _|ins _ _ _=>simp[AG] at af
  |AA=>cases r2;simp only[Ay];exact .str_none _ _
  |bl b=>cases r2;simp only[Ay];exact .str_bool _ _ _
  |int b=>obtain⟨t,rfl⟩:=r2;simp only[Ay];exact .str_int _ _ _ _
  |str b=>obtain⟨t,rfl⟩:=r2;simp only[Ay];exact .str_str _ _ _ _
  |tup h r=>cases r2;simp only[Ay];obtain⟨_,_,p,_⟩:=I.tuple (.of h);exact .str_tuple _ _ p aj
  |lst h r=>cases r2;simp only[Ay];obtain⟨_,_,p,_⟩:=I.list h;exact .str_list _ _ p.isList aj
 | @tup a xs ds h r =>
  cases r1;obtain⟨aa,rv,p,_⟩:=I.tuple (.of h);cases h2 with
  |EG _ _|HY _ _|HZ _ _|ins _ _ _=>simp[AG] at af
  |AA=>cases r2;simp only[Ay];exact .tuple_none  p aj
  |bl b=>cases r2;simp only[Ay];exact .tuple_bool _ p aj
  |int b=>obtain⟨t,rfl⟩:=r2;simp only[Ay];exact .tuple_int _ _ p aj
  |str b=>obtain⟨t,rfl⟩:=r2;simp only[Ay];exact .tuple_str _ _ p aj
  | @lst a2 bW es h' r'=>cases r2;simp only[Ay];obtain⟨_,_,p',_⟩:=I.list h';exact .tuple_list p p'.isList aj
  | @tup a2 bW es h' r' =>
   cases r2;obtain⟨its',aJ,p',_⟩:=I.tuple (.of h');have z1:aa.toArray.size=ds.length:=by rw[zj,<-rv.length,r.length]
   have z2:its'.toArray.size=es.length:=by rw[zj,<-aJ.length,r'.length]
   have q:=SeqAt.RcAt.tuples (A:=A) (e:=λ j=>Ay (ds.getD j .AA) (es.getD j .AA)) p p' aj λ j h1 h2=>?_
   ·rw[z1,z2,Mr] at q;simp only[Ay];exact q
   ·obtain⟨x,hx,rx⟩:=Xd rv j h1;obtain⟨y,hy,ry⟩:=Xd aJ j h2;obtain⟨dx,ex,bX⟩:=r.K9 hx;obtain⟨dy,ey,bY⟩:=r'.K9 hy;rw[Cp ex,Cp ey];rw[IB] at hd;have:=Fi (zk ex);exact PZ I (Le ds) A.in1 dx dy x y _ _ this (C9 (zk ex) (by rw[AG] at ar;exact ar)) (C9 (zk ey) (by rw[AG] at af;exact af)) (by show A.units+1+_<cLine;omega) bX bY rx ry
 | @lst a xs ds h r =>
  cases r1;obtain⟨aa,rv,p,_⟩:=I.list h;cases h2 with
  |EG _ _|HY _ _|HZ _ _|ins _ _ _=>simp[AG] at af
  |AA=>cases r2;simp only[Ay];exact .list_none  p.isList aj
  |bl b=>cases r2;simp only[Ay];exact .list_bool _ p.isList aj
  |int b=>obtain⟨t,rfl⟩:=r2;simp only[Ay];exact .list_int _ _ p.isList aj
  |str b=>obtain⟨t,rfl⟩:=r2;simp only[Ay];exact .list_str _ _ p.isList aj
  | @tup a2 bW es h' r'=>cases r2;simp only[Ay];obtain⟨_,_,p',_⟩:=I.tuple (.of h');exact .list_tuple p.isList p' aj
  | @lst a2 bW es h' r' =>
   cases r2;obtain⟨its',aJ,p',_⟩:=I.list h';have z1:aa.toArray.size=ds.length:=by rw[zj,<-rv.length,r.length]
   have z2:its'.toArray.size=es.length:=by rw[zj,<-aJ.length,r'.length]
   by_cases hz:aa.toArray.size=its'.toArray.size
   ·have q:=SeqAt.RcAt.lists (A:=A) (e:=λ j=>Ay (ds.getD j .AA) (es.getD j .AA)) p.isList p'.isList hz aj λ j h1 h2=>?_
    ·rw[z1,DY ds es (by rw[<-z1,<-z2,hz])] at q;simp only[Ay];exact q
    ·obtain⟨x,hx,rx⟩:=Xd rv j h1;obtain⟨y,hy,ry⟩:=Xd aJ j h2;obtain⟨dx,ex,bX⟩:=r.K9 hx;obtain⟨dy,ey,bY⟩:=r'.K9 hy;rw[Cp ex,Cp ey];rw[IB] at hd;have:=Fi (zk ex);exact PZ I (Le ds) A.in1 dx dy x y _ _ this (C9 (zk ex) (by rw[AG] at ar;exact ar)) (C9 (zk ey) (by rw[AG] at af;exact af)) (by show A.units+1+_<cLine;omega) bX bY rx ry
   ·have q:=SeqAt.RcAt.lists_lengths (A:=A) p.isList p'.isList (by simpa using hz) aj;simp only[Ay];rw[Lr (by rw[<-z1,<-z2];exact hz)];exact q
theorem pQ (I:Inv X pins σ H s)(A:Around)(d e:D)(v w:V)(u1 u2:Value)(hd:A.units+IB d<cLine)(ar:AG d=true)(af:AG e=true)(h1:BK X.K H v d)(h2:BK X.K H w e)(r1:RelV v u1)(r2:RelV w u2):SeqAt.RcNeAt A s u1 u2 (!Ay d e):=by
 have aj:A.units<cLine:=by omega
 cases h1 with
 |EG _ _|HY _ _|HZ _ _|ins _ _ _=>simp[AG] at ar
 |AA =>
  cases r1;cases h2 with
  |EG _ _|HY _ _|HZ _ _|ins _ _ _=>simp[AG] at af
  |AA=>cases r2;simp only[Ay];exact .none_none
  |bl b=>cases r2;simp only[Ay];exact .none_bool _
  |int b=>obtain⟨t,rfl⟩:=r2;simp only[Ay];exact .none_int _ _
  |str b=>obtain⟨t,rfl⟩:=r2;simp only[Ay];exact .none_str _ _
  |tup h r=>cases r2;simp only[Ay];obtain⟨_,_,p,_⟩:=I.tuple (.of h);exact .none_tuple  p aj
  |lst h r=>cases r2;simp only[Ay];obtain⟨_,_,p,_⟩:=I.list h;exact .none_list  p.isList aj
 |bl a =>
  cases r1;cases h2 with
  |EG _ _|HY _ _|HZ _ _|ins _ _ _=>simp[AG] at af
  |AA=>cases r2;simp only[Ay];exact .bool_none _
  |bl b=>cases r2;simp only[Ay];exact .bool_bool _ _
  |int b=>obtain⟨t,rfl⟩:=r2;simp only[Ay];exact .bool_int _ _ _
  |str b=>obtain⟨t,rfl⟩:=r2;simp only[Ay];exact .bool_str _ _ _
  |tup h r=>cases r2;simp only[Ay];obtain⟨_,_,p,_⟩:=I.tuple (.of h);exact .bool_tuple _ p aj
  |lst h r=>cases r2;simp only[Ay];obtain⟨_,_,p,_⟩:=I.list h;exact .bool_list _ p.isList aj
 |int a =>
  obtain⟨t',rfl⟩:=r1;cases h2 with
  |EG _ _|HY _ _|HZ _ _|ins _ _ _=>simp[AG] at af
  |AA=>cases r2;simp only[Ay];exact .int_none _ _
  |bl b=>cases r2;simp only[Ay];exact .int_bool _ _ _
  |int b=>obtain⟨t,rfl⟩:=r2;simp only[Ay];exact .int_int _ _ _ _
  |str b=>obtain⟨t,rfl⟩:=r2;simp only[Ay];exact .int_str _ _ _ _
  |tup h r=>cases r2;simp only[Ay];obtain⟨_,_,p,_⟩:=I.tuple (.of h);exact .int_tuple _ _ p aj
  |lst h r=>cases r2;simp only[Ay];obtain⟨_,_,p,_⟩:=I.list h;exact .int_list _ _ p.isList aj
 |str a =>
  obtain⟨t',rfl⟩:=r1;cases h2 with
  |EG _ _|HY _ _|HZ _ _|ins _ _ _=>simp[AG] at af
  |AA=>cases r2;simp only[Ay];exact .str_none _ _
  |bl b=>cases r2;simp only[Ay];exact .str_bool _ _ _
  |int b=>obtain⟨t,rfl⟩:=r2;simp only[Ay];exact .str_int _ _ _ _
  |str b=>obtain⟨t,rfl⟩:=r2;simp only[Ay];exact .str_str _ _ _ _
  |tup h r=>cases r2;simp only[Ay];obtain⟨_,_,p,_⟩:=I.tuple (.of h);exact .str_tuple _ _ p aj
  |lst h r=>cases r2;simp only[Ay];obtain⟨_,_,p,_⟩:=I.list h;exact .str_list _ _ p.isList aj
 | @tup a xs ds h r =>
  cases r1;obtain⟨aa,rv,p,_⟩:=I.tuple (.of h);cases h2 with
  |EG _ _|HY _ _|HZ _ _|ins _ _ _=>simp[AG] at af
  |AA=>cases r2;simp only[Ay];exact .tuple_none  p aj
  |bl b=>cases r2;simp only[Ay];exact .tuple_bool _ p aj
  |int b=>obtain⟨t,rfl⟩:=r2;simp only[Ay];exact .tuple_int _ _ p aj
  |str b=>obtain⟨t,rfl⟩:=r2;simp only[Ay];exact .tuple_str _ _ p aj
  | @lst a2 bW es h' r'=>cases r2;simp only[Ay];obtain⟨_,_,p',_⟩:=I.list h';exact .tuple_list p p'.isList aj
  | @tup a2 bW es h' r' =>
   cases r2;obtain⟨its',aJ,p',_⟩:=I.tuple (.of h');have z1:aa.toArray.size=ds.length:=by rw[zj,<-rv.length,r.length]
   have z2:its'.toArray.size=es.length:=by rw[zj,<-aJ.length,r'.length]
   have q:=SeqAt.RcNeAt.tuples (A:=A) (e:=λ j=>Ay (ds.getD j .AA) (es.getD j .AA)) p p' aj λ j h1 h2=>?_
   ·rw[z1,z2,Mr] at q;simp only[Ay];exact q
   ·obtain⟨x,hx,rx⟩:=Xd rv j h1;obtain⟨y,hy,ry⟩:=Xd aJ j h2;obtain⟨dx,ex,bX⟩:=r.K9 hx;obtain⟨dy,ey,bY⟩:=r'.K9 hy;rw[Cp ex,Cp ey];rw[IB] at hd;have:=Fi (zk ex);exact PZ I (Le ds) A.in1 dx dy x y _ _ this (C9 (zk ex) (by rw[AG] at ar;exact ar)) (C9 (zk ey) (by rw[AG] at af;exact af)) (by show A.units+1+_<cLine;omega) bX bY rx ry
 | @lst a xs ds h r =>
  cases r1;obtain⟨aa,rv,p,_⟩:=I.list h;cases h2 with
  |EG _ _|HY _ _|HZ _ _|ins _ _ _=>simp[AG] at af
  |AA=>cases r2;simp only[Ay];exact .list_none  p.isList aj
  |bl b=>cases r2;simp only[Ay];exact .list_bool _ p.isList aj
  |int b=>obtain⟨t,rfl⟩:=r2;simp only[Ay];exact .list_int _ _ p.isList aj
  |str b=>obtain⟨t,rfl⟩:=r2;simp only[Ay];exact .list_str _ _ p.isList aj
  | @tup a2 bW es h' r'=>cases r2;simp only[Ay];obtain⟨_,_,p',_⟩:=I.tuple (.of h');exact .list_tuple p.isList p' aj
  | @lst a2 bW es h' r' =>
   cases r2;obtain⟨its',aJ,p',_⟩:=I.list h';have z1:aa.toArray.size=ds.length:=by rw[zj,<-rv.length,r.length]
   have z2:its'.toArray.size=es.length:=by rw[zj,<-aJ.length,r'.length]
   by_cases hz:aa.toArray.size=its'.toArray.size
   ·have q:=SeqAt.RcNeAt.lists (A:=A) (e:=λ j=>Ay (ds.getD j .AA) (es.getD j .AA)) p.isList p'.isList hz aj λ j h1 h2=>?_
    ·rw[z1,DY ds es (by rw[<-z1,<-z2,hz])] at q;simp only[Ay];exact q
    ·obtain⟨x,hx,rx⟩:=Xd rv j h1;obtain⟨y,hy,ry⟩:=Xd aJ j h2;obtain⟨dx,ex,bX⟩:=r.K9 hx;obtain⟨dy,ey,bY⟩:=r'.K9 hy;rw[Cp ex,Cp ey];rw[IB] at hd;have:=Fi (zk ex);exact PZ I (Le ds) A.in1 dx dy x y _ _ this (C9 (zk ex) (by rw[AG] at ar;exact ar)) (C9 (zk ey) (by rw[AG] at af;exact af)) (by show A.units+1+_<cLine;omega) bX bY rx ry
   ·have q:=SeqAt.RcNeAt.lists_lengths (A:=A) p.isList p'.isList (by simpa using hz) aj;simp only[Ay];rw[Lr (by rw[<-z1,<-z2];exact hz)];exact q
noncomputable def dI (K:za)(A:Around)(neg:Bool):R2:=λ x y H Q=>∃d e,BK K H x d/\BK K H y e/\A.units+IB d<cLine/\AG d=true/\AG e=true/\Q (.bl (if neg=true then !Ay d e else Ay d e)) H
theorem XY:G9 X (compareOp .Eq) (dI X.K X.A false):=by
 intro pins s σ H x y v u Q I rx ry h;obtain⟨d,e,hd,he,hu,n1,n2,q⟩:=h;exact tS I X.A d e x y v u hu n1 n2 hd he rx ry X.prog X.w X.xe _ ⟨.bl _,H,I,rfl,q⟩
theorem kZ:G9 X (compareOp .NotEq) (dI X.K X.A true):=by
 intro pins s σ H x y v u Q I rx ry h;obtain⟨d,e,hd,he,hu,n1,n2,q⟩:=h;exact pQ I X.A d e x y v u hu n1 n2 hd he rx ry X.prog X.w X.xe _ ⟨.bl _,H,I,rfl,q⟩
end
inductive OT where
 |sh (d:D)|lst (ts:List OT)|tup (ts:List OT)|Bl (t:Bool) (ks:List D) (ts:List OT)|ins (x:Str) (ns:List Str) (ts:List OT)
inductive Ow where
 |rows (C2:List (List D))
 |Lf (p:Nat) (ds:List D)
 |tree (p:Option Nat) (t:OT)
inductive Cl where
 |val (d:D)|own (ds:List D)|ow (o:Ow)
noncomputable abbrev Ac:=List (Option Cl)
inductive M (α:Type) where
 |ok (a:α)|ex (c:Str)|bad
noncomputable def M.bind {α β:Type}(m:M α)(k:α->M β):M β:=match m with
 | .ok a=>k a
 | .ex c=>.ex c
 | .bad=>.bad
@[simp] theorem M.A7 {α β:Type}(a:α) (k:α->M β):(M.ok a).bind k=k a:=rfl
noncomputable def del (H:Hp)(P:Addr->Prop):Hp:=λ a=>open Classical in if P a then none else H a
theorem Aw {H:Hp}{P:Addr->Prop}{a:Addr}(h:¬ P a):del H P a=H a:=by unfold del;rw[if_neg h]
theorem D4 {H:Hp}{P:Addr->Prop}{a:Addr}(h:P a):del H P a=none:=by unfold del;rw[if_pos h]
theorem Am {H:Hp}{P:Addr->Prop}{a:Addr}{o:HO}(h:del H P a=some o):¬ P a/\H a=some o:=by
 by_cases hp:P a
 ·rw[D4 hp] at h;cases h
 ·rw[Aw hp] at h;exact⟨hp,h⟩
theorem Rd.AN {H:Hp}{P:Addr->Prop}{a:Addr}{u:HO}(r:Rd (del H P) a u):Rd H a u:=r.elim (λ h=>.inl (Am h).2) λ⟨o,h⟩=>.inr ⟨o,(Am h).2⟩
theorem Ad.del {H H':Hp}{P:Addr->Prop}(e:Ad H H'):Ad (del H P) (del H' P):=λ b o h=>by
 obtain⟨h1,h2⟩:=Am h;rw[Aw h1];exact e b o h2
theorem CK {H:Hp}{P P':Addr->Prop}(h:∀a,P' a->P a):Ad (L2.del H P) (L2.del H P'):=λ b o e=>by
 obtain⟨h1,h2⟩:=Am e;rw[Aw λ z=>h1 (h b z)];exact h2
theorem DZ {H:Hp}{P:Addr->Prop}:Ad (L2.del H P) H:=λ b o e=>(Am e).2
def Dq (H:Hp)(a:Addr):Prop:=∃o,H a=some o/\∀xs,o≠.tup xs/\∀z,o≠.X9 z (.tup xs)
theorem Dq.same {H H':Hp}{a:Addr}(h:Dq H a)(e:Ad H H'):Dq H' a:=let ⟨o,q,r⟩:=h;⟨o,e a o q,r⟩
theorem Dq.no {H:Hp}{a:Addr}(h:Dq H a)(e:H a=none):False:=by
 obtain⟨o,q,r⟩:=h;rw[e] at q;cases q
theorem Dq.lst {H:Hp}{a:Addr}{xs:List V}(h:H a=some (.lst xs)):Dq H a:=⟨_,h,λ _=>⟨λ z=>(by cases z),λ _ z=>by cases z⟩⟩
mutual
inductive C4 (K:za) (H:Hp) (P:Addr->Prop):V->OT->List Addr->Prop
 |sh {v d}:BK K (del H P) v d->C4 K H P v (.sh d) []
 |lst {p xs ts fp}:H p=some (.lst xs)->Au K H P xs ts fp->C4 K H P (.ref p) (.lst ts) (p::fp)
 |tup {p xs ts fp}:del H P p=some (.tup xs)->Au K H P xs ts fp->C4 K H P (.ref p) (.tup ts) fp
 |dK {p kvs ts fp}:H p=some (.dK kvs)->Au K H P (kvs.map yT) ts fp->C4 K H P (.ref p) (.Bl false (kvs.map λ kv=>Dk kv.1) ts) (p::fp)
 |dT {p kvs ts fp}:H p=some (.dT kvs)->Au K H P (kvs.map yT) ts fp->C4 K H P (.ref p) (.Bl true (kvs.map λ kv=>.tup (kv.1.map Dk)) ts) (p::fp)
 |ins {p C dx fs ts fp x}:zF K mainGlobals x=some (some (.ref C))->H p=some (.ins C dx fs)->Au K H P (fs.map yT) ts fp->C4 K H P (.ref p) (.ins x (fs.map zQ) ts) (p::fp)
inductive Au (K:za) (H:Hp) (P:Addr->Prop):List V->List OT->List Addr->Prop
 |nil:Au K H P [] [] []
 |cons {v t fp vs ts fq}:C4 K H P v t fp->Au K H P vs ts fq->Au K H P (v::vs) (t::ts) (fp++fq)
end
mutual
noncomputable def er:OT->D
 | .sh d=>d
 | .lst ts=>.lst (RC ts)
 | .tup ts=>.tup (RC ts)
 | .Bl t ks ts=>.Bl t ks (RC ts)
 | .ins x ns ts=>.ins x ns (RC ts)
noncomputable def RC:List OT->List D
 |[]=>[]
 |t::r=>er t::RC r
end
theorem Q0:∀ts:List OT,RC ts=ts.map er
 |[]=>rfl
 |t::r=>by rw[RC,Q0 r,zf]
mutual
theorem C4.move {K:za}{H H':Hp}{P P':Addr->Prop}(sm:Ad (del H P) (del H' P')):∀ {v:V}{t:OT}{fp:List Addr},(∀a∈fp,H' a=H a)->C4 K H P v t fp->C4 K H' P' v t fp
 |_,_,_,_,.sh h=>.sh (h.mono sm)
 |_,_,_,k,.lst h r=>.lst ((k _ zd).trans h) (Au.move sm (λ a ha=>k a (ze _ ha)) r)
 |_,_,_,k,.tup h r=>.tup (sm _ _ h) (Au.move sm k r)
 |_,_,_,k,.dK h r=>.dK ((k _ zd).trans h) (Au.move sm (λ a ha=>k a (ze _ ha)) r)
 |_,_,_,k,.dT h r=>.dT ((k _ zd).trans h) (Au.move sm (λ a ha=>k a (ze _ ha)) r)
 |_,_,_,k,.ins n h r=>.ins n ((k _ zd).trans h) (Au.move sm (λ a ha=>k a (ze _ ha)) r)
theorem Au.move {K:za}{H H':Hp}{P P':Addr->Prop}(sm:Ad (del H P) (del H' P')):∀ {v:List V}{t:List OT}{fp:List Addr},(∀a∈fp,H' a=H a)->Au K H P v t fp->Au K H' P' v t fp
 |_,_,_,_,.nil=>.nil
 |_,_,_,k,.cons h r=>.cons (C4.move sm (λ a ha=>k a (zL _ ha)) h) (Au.move sm (λ a ha=>k a (zm _ ha)) r)
end
mutual
theorem C4.BS {K:za}{H:Hp}{P:Addr->Prop}:∀ {v:V}{t:OT}{fp:List Addr},C4 K H P v t fp->∀a∈fp,Dq H a
 |_,_,_,.sh h,a,ha=>by cases ha
 |_,_,_,.lst h r,a,ha=>by
  rcases zp.mp ha with rfl|ha
  ·exact .lst h
  ·exact Au.BS r a ha
 |_,_,_,.tup h r,a,ha=>Au.BS r a ha
 |_,_,_,.dK h r,a,ha=>by
  rcases zp.mp ha with rfl|ha
  ·exact⟨_,h,λ _=>⟨λ z=>(by cases z),λ _ z=>by cases z⟩⟩
  ·exact Au.BS r a ha
 |_,_,_,.dT h r,a,ha=>by
  rcases zp.mp ha with rfl|ha
  ·exact⟨_,h,λ _=>⟨λ z=>(by cases z),λ _ z=>by cases z⟩⟩
  ·exact Au.BS r a ha
 |_,_,_,.ins n h r,a,ha=>by
  rcases zp.mp ha with rfl|ha
  ·exact⟨_,h,λ _=>⟨λ z=>(by cases z),λ _ z=>by cases z⟩⟩
  ·exact Au.BS r a ha
theorem Au.BS {K:za}{H:Hp}{P:Addr->Prop}:∀ {v:List V}{t:List OT}{fp:List Addr},Au K H P v t fp->∀a∈fp,Dq H a
 |_,_,_,.nil,a,ha=>by cases ha
 |_,_,_,.cons h r,a,ha=>by
  rcases zv.mp ha with ha|ha
  ·exact C4.BS h a ha
  ·exact Au.BS r a ha
end
mutual
theorem C4.Ci {K:za}{H:Hp}{P P':Addr->Prop}:∀ {v:V}{t:OT}{fp ai:List Addr},C4 K H P v t fp->C4 K H P' v t ai->fp=ai
 |_,_,_,_,.sh _,.sh _=>rfl
 |_,_,_,_,.lst h r,.lst h' r'=>by
  rw[h] at h';cases h';rw[Au.Ci r r']
 |_,_,_,_,.tup h r,.tup h' r'=>by
  have e:=(Am h).2.symm.trans (Am h').2;cases e;exact Au.Ci r r'
 |_,_,_,_,.dK (kvs:=kvs) (ts:=ts) h r,x=>by
  generalize ht:OT.Bl false (kvs.map λ kv=>Dk kv.1) ts=t at x;cases x with
  |dK h' r' =>
   rw[h] at h';cases h';injection ht with _ _ e
   subst e;rw[Au.Ci r r']
  |dT h' r'=>rw[h] at h';cases h'
  |_=>cases ht
 |_,_,_,_,.dT (kvs:=kvs) (ts:=ts) h r,x=>by
  generalize ht:OT.Bl true (kvs.map λ kv=>D.tup (kv.1.map Dk)) ts=t at x;cases x with
  |dT h' r' =>
   rw[h] at h';cases h';injection ht with _ _ e
   subst e;rw[Au.Ci r r']
  |dK h' r'=>rw[h] at h';cases h'
  |_=>cases ht
 |_,_,_,_,.ins (fs:=fs) (ts:=ts) (x:=y) n h r,x=>by
  generalize ht:OT.ins y (fs.map zQ) ts=t at x;cases x with
  |ins n' h' r' =>
   rw[h] at h';cases h';injection ht with _ _ e
   subst e;rw[Au.Ci r r']
  |_=>cases ht
theorem Au.Ci {K:za}{H:Hp}{P P':Addr->Prop}:∀ {v:List V}{t:List OT}{fp ai:List Addr},Au K H P v t fp->Au K H P' v t ai->fp=ai
 |_,_,_,_,.nil,.nil=>rfl
 |_,_,_,_,.cons h r,.cons h' r'=>by rw[C4.Ci h h',Au.Ci r r']
end
mutual
theorem C4.has {K:za}{H:Hp}{P P0:Addr->Prop}(hs:∀a,P0 a->P a):∀ {v:V}{t:OT}{fp:List Addr},(∀a∈fp,¬ P0 a)->C4 K H P v t fp->BK K (del H P0) v (er t)
 |_,_,_,_,.sh h=>by rw[er];exact h.mono (CK hs)
 |_,_,_,k,.lst h r=>by rw[er];exact .lst (.of (show del H P0 _=_ by rw[Aw (k _ zd)];exact h)) (Au.has hs (λ a ha=>k a (ze _ ha)) r)
 |_,_,_,k,.tup h r=>by rw[er];exact .tup (CK hs _ _ h) (Au.has hs k r)
 |_,_,_,k,.dK h r=>by rw[er];exact .HY (.inl (show del H P0 _=_ by rw[Aw (k _ zd)];exact h)) (Au.has hs (λ a ha=>k a (ze _ ha)) r)
 |_,_,_,k,.dT h r=>by rw[er];exact .HZ (.inl (show del H P0 _=_ by rw[Aw (k _ zd)];exact h)) (Au.has hs (λ a ha=>k a (ze _ ha)) r)
 |_,_,_,k,.ins n h r=>by rw[er];exact .ins n (show del H P0 _=_ by rw[Aw (k _ zd)];exact h) (Au.has hs (λ a ha=>k a (ze _ ha)) r)
theorem Au.has {K:za}{H:Hp}{P P0:Addr->Prop}(hs:∀a,P0 a->P a):∀ {v:List V}{t:List OT}{fp:List Addr},(∀a∈fp,¬ P0 a)->Au K H P v t fp->Ai K (del H P0) v (RC t)
 |_,_,_,_,.nil=>by rw[RC];exact .nil
 |_,_,_,k,.cons h r=>by rw[RC];exact .cons (C4.has hs (λ a ha=>k a (zL _ ha)) h) (Au.has hs (λ a ha=>k a (zm _ ha)) r)
end
inductive Bx (K:za) (H:Hp) (P:Addr->Prop):List Addr->List (List D)->Prop
 |nil:Bx K H P [] []
 |cons {q:Addr} {xs:List V} {ds:List D} {ps:List Addr} {C2:List (List D)}:H q=some (.lst xs)->Ai K (del H P) xs ds->Bx K H P ps C2->Bx K H P (q::ps) (ds::C2)
def Dl (K:za)(H:Hp)(P:Addr->Prop):Cl->V->List Addr->Prop
 | .own ds,v,fp=>∃p xs,v=.ref p/\fp=[p]/\H p=some (.lst xs)/\Ai K (del H P) xs ds
 | .ow (.rows C2),v,fp=>∃p ps,v=.ref p/\fp=p::ps/\H p=some (.lst (ps.map V.ref))/\Bx K H P ps C2
 | .ow (.Lf _ ds),v,fp=>∃p xs,v=.ref p/\fp=[p]/\H p=some (.lst xs)/\Ai K (del H P) xs ds
 | .ow (.tree _ t),v,fp=>C4 K H P v t fp
 | .val _,_,_=>False
noncomputable def Hy:Cl->Bool
 | .val _=>false
 |_=>true
theorem Bx.move {K:za}{H H':Hp}{P P':Addr->Prop}(sm:Ad (del H P) (del H' P')):∀ {ps:List Addr}{C2:List (List D)},(∀a∈ps,H' a=H a)->Bx K H P ps C2->Bx K H' P' ps C2
 |_,_,_,.nil=>.nil
 |_,_,k,.cons h r t=>.cons ((k _ zd).trans h) (r.mono sm) (Bx.move sm (λ a ha=>k a (ze _ ha)) t)
theorem Bx.at {K:za}{H:Hp}{P:Addr->Prop}:∀ {ps:List Addr}{C2:List (List D)},Bx K H P ps C2->∀a∈ps,∃xs,H a=some (.lst xs)
 |_,_,.nil,a,h=>by cases h
 |_,_,.cons h r t,a,ha=>by
  rcases zp.mp ha with rfl|ha
  ·exact⟨_,h⟩
  ·exact t.at a ha
theorem Bx.length {K:za}{H:Hp}{P:Addr->Prop}:∀ {ps:List Addr}{C2:List (List D)},Bx K H P ps C2->ps.length=C2.length
 |_,_,.nil=>rfl
 |_,_,.cons h r t=>by rw[zl,zl,t.length]
theorem Bx.get {K:za}{H:Hp}{P:Addr->Prop}:∀ {ps:List Addr}{C2:List (List D)}{i:Nat}{ds:List D},Bx K H P ps C2->C2[i]?=some ds->∃q xs,ps[i]?=some q/\H q=some (.lst xs)/\Ai K (del H P) xs ds
 |_,_,_,_,.nil,e=>by simp at e
 |_,_,0,_,.cons h r _,e=>by simp at e;subst e;exact⟨_,_,rfl,h,r⟩
 |_,_,i+1,ds,.cons _ _ t,e=>by
  obtain⟨q,xs,h1,h2⟩:=Bx.get (i:=i) (ds:=ds) t (by simpa using e);exact⟨q,xs,by simpa using h1,h2⟩
theorem RD:∀ {ps qs:List Addr},ps.map V.ref=qs.map V.ref->ps=qs
 |[],[],_=>rfl
 |[],_::_,h|_::_,[],h=>by cases h
 |p::ps,q::qs,h=>by
  rw[zf,zf] at h;injection h with h1 h2
  injection h1 with h1
  rw[h1,RD h2]
theorem Dl.move {K:za}{H H':Hp}{P P':Addr->Prop}(sm:Ad (del H P) (del H' P')){c:Cl}{v:V}{fp:List Addr}(k:∀a∈fp,H' a=H a)(h:Dl K H P c v fp):Dl K H' P' c v fp:=by
 cases c with
 |val d=>exact h
 |own ds =>
  obtain⟨p,xs,rfl,rfl,h1,h2⟩:=h;exact⟨p,xs,rfl,rfl,(k p zd).trans h1,h2.mono sm⟩
 |ow o =>
  cases o with
  |rows C2 =>
   obtain⟨p,ps,rfl,rfl,h1,h2⟩:=h;exact⟨p,ps,rfl,rfl,(k p zd).trans h1,h2.move sm λ a ha=>k a (ze _ ha)⟩
  |Lf p ds =>
   obtain⟨p,xs,rfl,rfl,h1,h2⟩:=h;exact⟨p,xs,rfl,rfl,(k p zd).trans h1,h2.mono sm⟩
  |tree p t=>exact C4.move sm k h
theorem Dl.at {K:za}{H:Hp}{P:Addr->Prop}{c:Cl}{v:V}{fp:List Addr}(h:Dl K H P c v fp):∀a∈fp,∃o,H a=some o:=by
 cases c with
 |val d=>exact h.elim
 |own ds =>
  obtain⟨p,xs,rfl,rfl,h1,h2⟩:=h;exact λ a ha=>⟨.lst xs,by rw[zh.mp ha];exact h1⟩
 |ow o =>
  cases o with
  |rows C2 =>
   obtain⟨p,ps,rfl,rfl,h1,h2⟩:=h;intro a ha;rcases zp.mp ha with rfl|ha
   ·exact⟨_,h1⟩
   ·obtain⟨xs,q⟩:=h2.at a ha;exact⟨_,q⟩
  |Lf p ds =>
   obtain⟨p,xs,rfl,rfl,h1,h2⟩:=h;exact λ a ha=>⟨.lst xs,by rw[zh.mp ha];exact h1⟩
  |tree p t =>
   intro a ha;obtain⟨o,q,_⟩:=C4.BS h a ha;exact⟨o,q⟩
theorem Dl.same {K:za}{H H':Hp}{P:Addr->Prop}(e:Ad H H'){c:Cl}{v:V}{fp:List Addr}(h:Dl K H P c v fp):Dl K H' P c v fp:=
 h.move e.del λ a ha=>by obtain⟨xs,q⟩:=h.at a ha;rw[q];exact e _ _ q
theorem Dl.Ci {K:za}{H:Hp}{P P':Addr->Prop}{c:Cl}{v:V}{fp ai:List Addr}(h:Dl K H P c v fp)(h':Dl K H P' c v ai):fp=ai:=by
 cases c with
 |val d=>exact h.elim
 |own ds =>
  obtain⟨p,xs,rfl,rfl,h1,h2⟩:=h;obtain⟨p',dq,e,rfl,ku,g8⟩:=h';cases e;rfl
 |ow o =>
  cases o with
  |rows C2 =>
   obtain⟨p,ps,rfl,rfl,h1,h2⟩:=h;obtain⟨p',yj,e,rfl,ku,g8⟩:=h';cases e;rw[h1] at ku;injection ku with e
   injection e with e
   rw[RD e]
  |Lf p ds =>
   obtain⟨p,xs,rfl,rfl,h1,h2⟩:=h;obtain⟨p',dq,e,rfl,ku,g8⟩:=h';cases e;rfl
  |tree p t=>exact C4.Ci h h'
structure Et where
 pr:Addr->Prop
 g:Nat->Addr
instance:CoeFun Et (λ _=>Addr->Prop):=⟨Et.pr⟩
instance:Coe Et (Addr->Prop):=⟨Et.pr⟩
noncomputable def OG:Cl->Option Nat
 | .ow (.Lf n _)=>some n
 | .ow (.tree (some n) _)=>some n
 |_=>none
structure Ak (K:za)(P0:Et)(P:Addr->Prop)(H:Hp)(σ:St)(ρ:Ac):Prop where
 sub:∀a,P0 a->P a
 BS:∀a,P a->Dq H a
 val:∀(i:Nat) d,ρ[i]?=some (some (.val d))->∃v,σ[i]?=some (some v)/\BK K (del H P) v d
 ows:∀(i:Nat) c,ρ[i]?=some (some c)->Hy c=true->∃v fp,σ[i]?=some (some v)/\Dl K H P c v fp/\(∀a∈fp,P a/\¬ P0 a)/\fp.Nodup
 apart:∀(i j:Nat) c c' v v' fp ai,ρ[i]?=some (some c)->ρ[j]?=some (some c')->σ[i]?=some (some v)->σ[j]?=some (some v')->Dl K H P c v fp->Dl K H P c' v' ai->i≠j->∀a∈fp,a∉ai
 len:σ.length=ρ.length
 pin:∀(i:Nat) c n,ρ[i]?=some (some c)->OG c=some n->σ[i]?=some (some (.ref (P0.g n)))
theorem Ak.own {K:za}{P0:Et}{P:Addr->Prop}{H:Hp}{σ:St}{ρ:Ac}(E:Ak K P0 P H σ ρ)(i:Nat)(ds:List D)(h:ρ[i]?=some (some (.own ds))):
 ∃p xs,σ[i]?=some (some (.ref p))/\H p=some (.lst xs)/\P p/\¬ P0 p/\Ai K (del H P) xs ds:=by
 obtain⟨v,fp,h1,⟨p,xs,rfl,rfl,h2,h3⟩,h4,_⟩:=E.ows i _ h rfl;exact⟨p,xs,h1,h2,(h4 p zd).1,(h4 p zd).2,h3⟩
theorem Ak.XZ {K:za}{P0:Et}{P P':Addr->Prop}{H H':Hp}{σ:St}{ρ:Ac}(E:Ak K P0 P H σ ρ)(sm:Ad (del H P) (del H' P')){i j:Nat}{c c':Cl}{v v':V}{fp ai:List Addr}
 (ki:∀v fp,σ[i]?=some (some v)->Dl K H P c v fp->∀a∈fp,H' a=H a) (kj:∀v fp,σ[j]?=some (some v)->Dl K H P c' v fp->∀a∈fp,H' a=H a)
 (hi:ρ[i]?=some (some c)) (hj:ρ[j]?=some (some c')) (si:σ[i]?=some (some v)) (sj:σ[j]?=some (some v')) (h:Dl K H' P' c v fp) (h':Dl K H' P' c' v' ai) (ae:i≠j):∀a∈fp,a∉ai:=by
 have key:∀(k:Nat) (d:Cl) (w:V) (fq:List Addr),ρ[k]?=some (some d)->σ[k]?=some (some w)->(∀v fp,σ[k]?=some (some v)->Dl K H P d v fp->∀a∈fp,H' a=H a)->Dl K H' P' d w fq->Dl K H P d w fq:=λ k d w fq hk sk kk ho=>by
  have io:Hy d=true:=by cases d<;>first|rfl|exact ho.elim
  obtain⟨w',bJ,s2,o2,_⟩:=E.ows k d hk io;rw[sk] at s2;cases s2;have o3:=o2.move sm (kk _ _ sk o2);rw[ho.Ci o3];exact o2
 exact E.apart i j c c' v v' fp ai hi hj si sj (key i c v fp hi si ki h) (key j c' v' ai hj sj kj h') ae
theorem Ak.same {K:za}{P0:Et}{P:Addr->Prop}{H H':Hp}{σ:St}{ρ:Ac}(E:Ak K P0 P H σ ρ)(e:Ad H H'):Ak K P0 P H' σ ρ:=
 ⟨E.sub,λ a h=>(E.BS a h).same e,λ i d h=>let ⟨v,h1,h2⟩:=E.val i d h;⟨v,h1,h2.mono e.del⟩,
  λ i c h io=>let ⟨v,fp,h1,h2,h3,h4⟩:=E.ows i c h io;⟨v,fp,h1,h2.same e,h3,h4⟩,
  λ i j c c' v v' fp ai hi hj si sj h h' ae=>E.XZ e.del (λ v fp _ o a ha=>by obtain⟨xs,q⟩:=o.at a ha;rw[q];exact e _ _ q) (λ v fp _ o a ha=>by obtain⟨xs,q⟩:=o.at a ha;rw[q];exact e _ _ q) hi hj si sj h h' ae,E.len,E.pin⟩
def gV (K:za)(WX:Str->Hp->Prop)(P:Addr->Prop)(H:Hp)(Q:VK):M D->Prop
 | .ok d=>∀v H',Ad H H'->BK K (del H' P) v d->Q v H'
 | .ex x=>∀H',Ad H H'->WX x H'
 | .bad=>False
def gA (K:za)(WX:Str->Hp->Prop)(P:Addr->Prop)(H:Hp)(Q:List V->Hp->Prop):M (List D)->Prop
 | .ok d=>∀v H',Ad H H'->Ai K (del H' P) v d->Q v H'
 | .ex x=>∀H',Ad H H'->WX x H'
 | .bad=>False
def gT (WX:Str->Hp->Prop)(H:Hp)(Q:Bool->Hp->Prop):M Bool->Prop
 | .ok b=>∀H',Ad H H'->Q b H'
 | .ex x=>∀H',Ad H H'->WX x H'
 | .bad=>False
section
variable {K:za}{WX:Str->Hp->Prop}{P:Addr->Prop}{H H':Hp}
theorem gV.same {Q:VK}{m:M D}(h:gV K WX P H Q m)(e:Ad H H'):gV K WX P H' Q m:=by
 cases m with
 |ok d=>exact λ v H2 q hv=>h v H2 (e.trans q) hv
 |ex x=>exact λ H2 q=>h H2 (e.trans q)
 |bad=>exact h
theorem gA.same {Q:List V->Hp->Prop}{m:M (List D)}(h:gA K WX P H Q m)(e:Ad H H'):gA K WX P H' Q m:=by
 cases m with
 |ok d=>exact λ v H2 q hv=>h v H2 (e.trans q) hv
 |ex x=>exact λ H2 q=>h H2 (e.trans q)
 |bad=>exact h
theorem gT.same {Q:Bool->Hp->Prop}{m:M Bool}(h:gT WX H Q m)(e:Ad H H'):gT WX H' Q m:=by
 cases m with
 |ok d|ex x=>exact λ H2 q=>h H2 (e.trans q)
 |bad=>exact h
end
def Lv (c:Bool)(P0:Et)(P:Addr->Prop):Addr->Prop:=if c=true then P else P0.pr
def DE (X:Cx)(WX:Str->Hp->Prop)(c:Bool)(e:Expr)(f:Ac->M D):Prop:=
 ∃t,PE X e t/\∀P0 P σ H Q ρ,Ak X.K P0 P H σ ρ->gV X.K WX (Lv c P0 P) H Q (f ρ)->t σ H Q
def DA (X:Cx)(WX:Str->Hp->Prop)(c:Bool)(es:List Expr)(f:Ac->M (List D)):Prop:=
 ∃t,PA X es t/\(∀P0 P σ H Q ρ,Ak X.K P0 P H σ ρ->gA X.K WX (Lv c P0 P) H Q (f ρ)->t σ H Q)/\∀ρ ds,f ρ=.ok ds->ds.length=es.length
def DT (X:Cx)(WX:Str->Hp->Prop)(e:Expr)(f:Ac->M Bool):Prop:=
 ∃t,PT X e t/\∀P0 P σ H Q ρ,Ak X.K P0 P H σ ρ->gT WX H Q (f ρ)->t σ H Q
def DW (X:Cx)(WX:Str->Hp->Prop)(e:Expr)(f:Ac->M Bool):Prop:=
 ∃t,PW X e t/\∀P0 P σ H Q ρ,Ak X.K P0 P H σ ρ->gT WX H Q (f ρ)->t σ H Q
theorem DW.dt {X:Cx}{WX:Str->Hp->Prop}{e:Expr}{f:Ac->M Bool}(h:DW X WX e f):DT X WX e f:=let ⟨t,h1,h2⟩:=h;⟨t,h1.pt,h2⟩
section
variable {X:Cx}{WX:Str->Hp->Prop}{c:Bool}{P0:Et}{P:Addr->Prop}{H:Hp}{σ:St}{ρ:Ac}
theorem Ak.lv (E:Ak X.K P0 P H σ ρ)(c:Bool):∀a,Lv c P0 P a->P a:=λ a h=>by
 cases c with
 |true=>exact h
 |false=>exact E.sub a h
theorem Ak.pR (E:Ak X.K P0 P H σ ρ)(c:Bool):∀a,Lv c P0 P a->Dq H a:=λ a h=>E.BS a (E.lv c a h)
theorem Ms {e:Expr}{f:Ac->M D}(h:DE X WX true e f):DE X WX false e f:=by
 obtain⟨t,h1,h2⟩:=h;refine⟨t,h1,λ P0 P σ H Q ρ E g=>h2 P0 P σ H Q ρ E ?_⟩;cases e:f ρ with
 |ok d=>rw[e] at g;exact λ v H' s hv=>g v H' s (hv.mono (CK E.sub))
 |ex x|bad=>rw[e] at g;exact g
noncomputable def pS:D->Bool
 | .tup _ | .lst _ | .EG _ | .Bl _ _ _ | .ins _ _ _=>false
 |_=>true
noncomputable def fl (m:M D):M D:=m.bind λ d=>if pS d=true then .ok d else .bad
noncomputable def rv (i:Nat)(ρ:Ac):M D:=match ρ[i]? with | some (some (.val d))=>.ok d | _=>.bad
noncomputable def ra (i:Nat)(ρ:Ac):M D:=match ρ[i]? with | some (some (.val d))=>.ok d | some (some (.own ds))=>.ok (.lst ds) | some (some (.ow (.rows C2)))=>.ok (.lst (C2.map D.lst)) | some (some (.ow (.Lf _ ds)))=>.ok (.lst ds) | some (some (.ow (.tree _ t)))=>.ok (er t) | _=>.bad
theorem A1 (i:Nat){x:Str}{pos:Pos}(h:PE X (.Name x pos) (Lb i)):DE X WX true (.Name x pos) (rv i):=by
 refine⟨_,h,λ P0 P σ H Q ρ E g=>?_⟩;unfold rv at g;split at g
 ·rename_i d e;obtain⟨v,h1,h2⟩:=E.val i d e;exact⟨v,h1,g v H (Ad.refl H) h2⟩
 ·exact g.elim
theorem A5 {i j pos}:DE X WX c (.Constant (.int i) j pos) (λ _=>.ok (.int i)):=⟨_,jL,λ P0 P σ H Q ρ E g=>g _ H (Ad.refl H) (.int i)⟩
theorem Cj {b j pos}:DE X WX c (.Constant (.bool b) j pos) (λ _=>.ok (.bl b)):=⟨_,oE,λ P0 P σ H Q ρ E g=>g _ H (Ad.refl H) (.bl b)⟩
theorem D5 {j pos}:DE X WX c (.Constant .none j pos) (λ _=>.ok .AA):=⟨_,jM,λ P0 P σ H Q ρ E g=>g _ H (Ad.refl H) .AA⟩
def UQ (K:za)(WX:Str->Hp->Prop)(r:R2)(aS:D->D->M D):Prop:=
 ∀(P:Addr->Prop) (H:Hp) (x y:D) (v w:V) (Q:VK),(∀a,P a->Dq H a)->BK K (del H P) v x->BK K (del H P) w y->gV K WX P H Q (aS x y)->r v w H Q
variable {a b:Expr}{f g:Ac->M D}{pos:Pos}
theorem RE {ta tb:TE}{r:R2}{aS:D->D->M D}(ha:∀P0 P σ H Q ρ,Ak X.K P0 P H σ ρ->gV X.K WX (Lv c P0 P) H Q (f ρ)->ta σ H Q)(hb:∀P0 P σ H Q ρ,Ak X.K P0 P H σ ρ->gV X.K WX (Lv c P0 P) H Q (g ρ)->tb σ H Q)
 (hr:UQ X.K WX r aS) {Q:VK} (E:Ak X.K P0 P H σ ρ) (h:gV X.K WX (Lv c P0 P) H Q ((f ρ).bind λ x=>(g ρ).bind λ y=>aS x y)):nL r ta tb σ H Q:=by
 refine ha P0 P σ H _ ρ E ?_;cases e:f ρ with
 |bad|ex x=>rw[e] at h;exact h
 |ok x =>
  rw[e] at h;intro v H1 s1 hv;refine hb P0 P σ H1 _ ρ (E.same s1) ?_;cases e2:g ρ with
  |bad=>rw[e2] at h;exact h
  |ex y=>rw[e2] at h;exact gV.same (m:=.ex y) h s1
  |ok y =>
   rw[e2] at h;intro w H2 s2 hw;exact hr _ H2 x y v w Q (λ a q=>((E.same s1).same s2).pR c a q) (hv.mono s2.del) hw ((gV.same h s1).same s2)
theorem OH {op:Operator}{r:R2}{aS:D->D->M D}(ho:G9 X (binaryOp op) r)(hr:UQ X.K WX r aS)(ha:DE X WX c a f)(hb:DE X WX c b g):DE X WX c (.BinOp a op b pos) (λ ρ=>(f ρ).bind λ x=>(g ρ).bind λ y=>aS x y):=by
 obtain⟨ta,a1,a2⟩:=ha;obtain⟨tb,b1,b2⟩:=hb;exact⟨_,Xu ho a1 b1,λ P0 P σ H Q ρ E h=>RE a2 b2 hr E h⟩
theorem Y0 {op:CmpOp}{r:R2}{aS:D->D->M D}(ho:G9 X (compareOp op) r)(hr:UQ X.K WX r aS)(ha:DE X WX c a f)(hb:DE X WX c b g)(hm:behindInMarks op b=false):DE X WX c (.Compare a [op] [b] pos) (λ ρ=>(f ρ).bind λ x=>(g ρ).bind λ y=>aS x y):=by
 obtain⟨ta,a1,a2⟩:=ha;obtain⟨tb,b1,b2⟩:=hb;exact⟨_,cJ ho a1 b1 hm,λ P0 P σ H Q ρ E h=>RE a2 b2 hr E h⟩
theorem pT {r:R2}{aS:D->D->M D}(ho:cR X r)(hr:UQ X.K WX r aS)(ha:DE X WX c a f)(hb:DE X WX c b g)(hs:Fe b):DE X WX c (.Subscript a b pos) (λ ρ=>(f ρ).bind λ x=>(g ρ).bind λ y=>aS x y):=by
 obtain⟨ta,a1,a2⟩:=ha;obtain⟨tb,b1,b2⟩:=hb;exact⟨_,Rm ho a1 b1 hs,λ P0 P σ H Q ρ E h=>RE a2 b2 hr E h⟩
noncomputable def Bt (k:Int->Int->M D)(x y:D):M D:=match x,y with | .int i,.int j=>k i j | _,_=>.bad
theorem BK.int_inv {K:za}{H:Hp}{v:V}{i:Int}(h:BK K H v (.int i)):v=.int i:=by cases h;rfl
theorem BK.Mt {K:za}{H:Hp}{v:V}{i:Bool}(h:BK K H v (.bl i)):v=.bl i:=by cases h;rfl
theorem Q1 {C:Int->Int->Prop}{gv:Int->Int->V}{gd:Int->Int->D}[∀i j,Decidable (C i j)](hg:∀i j K H,BK K H (gv i j) (gd i j)):UQ X.K WX (rI C gv) (Bt λ i j=>if C i j then .ok (gd i j) else .bad):=by
 intro P H x y v w Q ht hx hy h;unfold Bt at h;split at h
 ·rename_i i j;rw[hx.int_inv,hy.int_inv];dsimp only at h;by_cases hc:C i j
  ·rw[if_pos hc] at h;exact⟨i,j,rfl,rfl,hc,h _ H (Ad.refl H) (hg i j _ _)⟩
  ·rw[if_neg hc] at h;exact h.elim
 ·exact h.elim
theorem Ls {gv:Int->Int->V}{gd:Int->Int->D}(hg:∀i j K H,BK K H (gv i j) (gd i j)):UQ X.K WX (ZS gv) (Bt λ i j=>.ok (gd i j)):=by
 intro P H x y v w Q ht hx hy h;unfold Bt at h;split at h
 ·rename_i i j;rw[hx.int_inv,hy.int_inv];exact⟨i,j,rfl,rfl,h _ H (Ad.refl H) (hg i j _ _)⟩
 ·exact h.elim
instance (i j:Int):Decidable (Xv i j):=by unfold Xv;infer_instance
instance (i j:Int):Decidable (cH i j):=by unfold cH;infer_instance
instance (i j:Int):Decidable (Xw i j):=by unfold Xw;infer_instance
noncomputable def pU:=Bt λ i j=>.ok (.int (i+j))
noncomputable def pV:=Bt λ i j=>.ok (.int (i-j))
noncomputable def DB:=Bt λ i j=>if 0<j then .ok (.int (i%j)) else .bad
noncomputable def IL:=Bt λ i j=>if Xv i j then .ok (.int (i / j)) else .bad
noncomputable def W5:=Bt λ i j=>if cH i j then .ok (.int (i^j.toNat)) else .bad
noncomputable def uQ:=Bt λ i j=>.ok (.bl (decide (i<j)))
noncomputable def vR:=Bt λ i j=>.ok (.bl (decide (i<=j)))
noncomputable def uR:=Bt λ i j=>.ok (.bl (decide (j<i)))
noncomputable def vS:=Bt λ i j=>.ok (.bl (decide (j<=i)))
theorem BC (ha:DE X WX c a f)(hb:DE X WX c b g):DE X WX c (.BinOp a .Add b pos) (λ ρ=>(f ρ).bind λ x=>(g ρ).bind λ y=>pU x y):=OH jZ (Ls λ _ _ _ _=>.int _) ha hb
theorem lA (ha:DE X WX c a f)(hb:DE X WX c b g):DE X WX c (.BinOp a .Sub b pos) (λ ρ=>(f ρ).bind λ x=>(g ρ).bind λ y=>pV x y):=OH kA (Ls λ _ _ _ _=>.int _) ha hb
theorem BD (ha:DE X WX c a f)(hb:DE X WX c b g):DE X WX c (.BinOp a .Mod b pos) (λ ρ=>(f ρ).bind λ x=>(g ρ).bind λ y=>DB x y):=OH kB (Q1 λ _ _ _ _=>.int _) ha hb
theorem Fj (ha:DE X WX c a f)(hb:DE X WX c b g):DE X WX c (.BinOp a .FloorDiv b pos) (λ ρ=>(f ρ).bind λ x=>(g ρ).bind λ y=>IL x y):=OH cI (Q1 λ _ _ _ _=>.int _) ha hb
theorem Y1 (ha:DE X WX c a f)(hb:DE X WX c b g):DE X WX c (.BinOp a .Pow b pos) (λ ρ=>(f ρ).bind λ x=>(g ρ).bind λ y=>W5 x y):=OH kC (Q1 λ _ _ _ _=>.int _) ha hb
noncomputable def dJ (n:Nat)(x y:D):M D:=if IB x<=n/\AG x=true/\AG y=true then .ok (.bl (Ay x y)) else .bad
noncomputable def Xe (n:Nat)(x y:D):M D:=if IB x<=n/\AG x=true/\AG y=true then .ok (.bl (!Ay x y)) else .bad
theorem Y2 {n:Nat}(hu:X.A.units+n<cLine):UQ X.K WX (dI X.K X.A false) (dJ n):=by
 intro P H x y v w Q ht hx hy h;unfold dJ at h;by_cases hd:IB x<=n/\AG x=true/\AG y=true
 ·rw[if_pos hd] at h;exact⟨x,y,hx.mono DZ,hy.mono DZ,by omega,hd.2.1,hd.2.2,h _ H (Ad.refl H) (.bl _)⟩
 ·rw[if_neg hd] at h;exact h.elim
theorem lB {n:Nat}(hu:X.A.units+n<cLine):UQ X.K WX (dI X.K X.A true) (Xe n):=by
 intro P H x y v w Q ht hx hy h;unfold Xe at h;by_cases hd:IB x<=n/\AG x=true/\AG y=true
 ·rw[if_pos hd] at h;exact⟨x,y,hx.mono DZ,hy.mono DZ,by omega,hd.2.1,hd.2.2,h _ H (Ad.refl H) (.bl _)⟩
 ·rw[if_neg hd] at h;exact h.elim
theorem iG {n:Nat}(hu:X.A.units+n<cLine)(ha:DE X WX c a f)(hb:DE X WX c b g):DE X WX c (.Compare a [.Eq] [b] pos) (λ ρ=>(f ρ).bind λ x=>(g ρ).bind λ y=>dJ n x y):=Y0 XY (Y2 hu) ha hb (HR _)
noncomputable def D6:D->Bool
 | .AA=>true
 |_=>false
theorem BK.tT {K:za}{H:Hp}{v:V}{d:D}(h:BK K H v d):decide (v=.AA)=D6 d:=by
 cases h<;>simp[D6]
theorem Y3 {j pos'}(ha:DE X WX c a f):DE X WX c (.Compare a [.Is] [.Constant .none j pos'] pos) (λ ρ=>(f ρ).bind λ x=>.ok (.bl (D6 x))):=by
 obtain⟨ta,a1,a2⟩:=ha;refine⟨_,jN (Xj a1),λ P0 P σ H Q ρ E h=>?_⟩;dsimp only at h;refine a2 P0 P σ H _ ρ E ?_;cases e:f ρ with
 |bad|ex x=>rw[e] at h;exact h
 |ok x=>rw[e] at h;exact λ v H1 s1 hv=>h _ H1 s1 (by rw[hv.tT];exact .bl _)
noncomputable def dM (x y:D):M D:=match x,y with
 | .tup ds,.int i| .lst ds,.int i=>(match PL ds i with|some d=>.ok d|none=>.bad)
 |_,_=>.bad
theorem Ai.PL {K:za}{H:Hp}{xs:List V}{ds:List D}{i:Int}{d:D}(h:Ai K H xs ds)(e:L2.PL ds i=some d):∃v,L2.PL xs i=some v/\BK K H v d:=by
 unfold L2.PL at e ⊢;rw[<-h.length] at e;cases q:Lc xs.length i with
 |none=>rw[q] at e;cases e
 |some j =>
  rw[q] at e;exact h.get e
theorem CJ.AN {K:za}{H:Hp}{P:Addr->Prop}{a:Addr}{xs:List V}(h:CJ K (del H P) a xs):CJ K H a xs:=DZ.seq h
theorem Fb.AN {K:za}{H:Hp}{P:Addr->Prop}{a:Addr}{xs:List V}(h:Fb K (del H P) a xs):Fb K H a xs:=DZ.tR h
theorem Gf:UQ X.K WX (λ x y H Q=>kL X.K x y H Q\/kM X.K x y H Q) dM:=by
 intro P H x y v w Q ht hx hy h;unfold dM at h;split at h
 ·rename_i ds i;split at h
  ·rename_i d e;cases hy;cases hx with
   |tup hs hl =>
    obtain⟨u,h1,h2⟩:=hl.PL e;exact .inr ⟨_,_,i,u,rfl,rfl,Fb.of (Am hs).2,h1,h _ H (Ad.refl H) h2⟩
  ·exact h.elim
 ·rename_i ds i;split at h
  ·rename_i d e;cases hy;cases hx with
   |lst hs hl =>
    obtain⟨u,h1,h2⟩:=hl.PL e;exact .inl ⟨_,_,i,u,rfl,rfl,hs.AN,h1,h _ H (Ad.refl H) h2⟩
  ·exact h.elim
 ·exact h.elim
theorem A8:DA X WX c [] (λ _=>.ok []):=⟨_,C5,λ P0 P σ H Q ρ E h=>h [] H (Ad.refl H) .nil,λ ρ ds h=>by cases h;rfl⟩
theorem A2 {e:Expr}{es:List Expr}{f:Ac->M D}{fs:Ac->M (List D)}(he:DE X WX c e f)(hr:DA X WX c es fs)(hs:starEach (e::es) X.env=(false,eval e X.env)::starEach es X.env:=by rfl):
 DA X WX c (e::es) (λ ρ=>(f ρ).bind λ d=>(fs ρ).bind λ ds=>.ok (d::ds)):=by
 obtain⟨te,e1,e2⟩:=he;obtain⟨tr,r1,r2,r3⟩:=hr;refine⟨_,Ba e1 r1 hs,λ P0 P σ H Q ρ E h=>?_,λ ρ ds h=>?_⟩
 rotate_left
 ·dsimp only at h;cases q:f ρ with
  |bad|ex x=>rw[q] at h;cases h
  |ok x =>
   rw[q] at h;cases q2:fs ρ with
   |bad|ex x=>rw[q2] at h;cases h
   |ok xs =>
    rw[q2] at h;cases h;rw[zl,zl,r3 ρ xs q2]
 dsimp only at h;refine e2 P0 P σ H _ ρ E ?_;cases q:f ρ with
 |bad|ex x=>rw[q] at h;exact h
 |ok x =>
  rw[q] at h;intro v H1 s1 hv;refine r2 P0 P σ H1 _ ρ (E.same s1) ?_;cases q2:fs ρ with
  |bad=>rw[q2] at h;exact h
  |ex y=>rw[q2] at h;exact gA.same (m:=.ex y) h s1
  |ok ds =>
   rw[q2] at h;exact λ vs H2 s2 aB=>h _ H2 (s1.trans s2) (.cons (hv.mono s2.del) aB)
theorem IM {H:Hp}{P:Addr->Prop}{p:Addr}{o:HO}(hn:H p=none)(ht:∀a,P a->Dq H a):del (upd H p o) P p=some o:=by
 rw[Aw λ z=>(ht p z).no hn];exact Ao
theorem AL {es:List Expr}{fs:Ac->M (List D)}{x1}(ha:DA X WX c es fs)(hz:es.length<=1000:=by decide):DE X WX c (.Tuple es x1 pos) (λ ρ=>(fs ρ).bind λ ds=>if ds.length<=1000 then .ok (.tup ds) else .bad):=by
 obtain⟨ta,a1,a2,a3⟩:=ha;refine⟨_,XB a1,λ P0 P σ H Q ρ E h=>?_⟩;dsimp only at h;refine a2 P0 P σ H _ ρ E ?_;cases q:fs ρ with
 |bad|ex y=>rw[q] at h;exact h
 |ok ds =>
  rw[q] at h;simp only[M.A7] at h;by_cases hd:ds.length<=1000
  ·rw[if_pos hd] at h;intro vs H1 s1 aB;refine⟨yH (AE (by rw[aB.length];exact hd)),λ p hp=>h _ _ (s1.trans (AJ hp _)) (.tup (IM hp λ a q=>(E.same s1).pR c a q) (aB.mono (AJ hp _).del))⟩
  ·rw[if_neg hd] at h;exact h.elim
theorem EH {es:List Expr}{fs:Ac->M (List D)}(ha:DA X WX c es fs):DE X WX c (.List es pos) (λ ρ=>(fs ρ).bind λ ds=>if ds.length<=1000 then .ok (.lst ds) else .bad):=by
 obtain⟨ta,a1,a2,a3⟩:=ha;refine⟨_,PJ a1,λ P0 P σ H Q ρ E h=>?_⟩;dsimp only at h;refine a2 P0 P σ H _ ρ E ?_;cases q:fs ρ with
 |bad|ex y=>rw[q] at h;exact h
 |ok ds =>
  rw[q] at h;simp only[M.A7] at h;by_cases hd:ds.length<=1000
  ·rw[if_pos hd] at h;intro vs H1 s1 aB;refine⟨yH (AE (by rw[aB.length];exact hd)),λ p hp=>h _ _ (s1.trans (AJ hp _)) (.lst (.of (IM hp λ a q=>(E.same s1).pR c a q)) (aB.mono (AJ hp _).del))⟩
  ·rw[if_neg hd] at h;exact h.elim
end
noncomputable def OI (d:D):M Bool:=match d with | .bl b=>.ok b | _=>.bad
section
variable {X:Cx}{WX:Str->Hp->Prop}{c:Bool}{P0:Et}{P:Addr->Prop}{H:Hp}{σ:St}{ρ:Ac}{a b e:Expr}{f g:Ac->M D}{ft gt:Ac->M Bool}{pos:Pos}
theorem pW {WX:Str->Hp->Prop}{P:Addr->Prop}{K:za}{H:Hp}{Q:Bool->Hp->Prop}{m:M D}(h:gT WX H Q (m.bind OI)):gV K WX P H (λ x H'=>∃k,x=.bl k/\Q k H') m:=by
 cases m with
 |bad|ex x=>exact h
 |ok d =>
  intro v H' s hv;simp only[M.A7] at h;unfold OI at h;split at h
  ·rename_i b;exact⟨b,hv.Mt,h H' s⟩
  ·exact h.elim
theorem Fl {op:CmpOp}{r:R2}{aS:D->D->M D}(ho:G9 X (compareOp op) r)(hr:UQ X.K WX r aS)(ha:DE X WX c a f)(hb:DE X WX c b g)(hm:behindInMarks op b=false):DT X WX (.Compare a [op] [b] pos) (λ ρ=>((f ρ).bind λ x=>(g ρ).bind λ y=>aS x y).bind OI):=by
 obtain⟨ta,a1,a2⟩:=ha;obtain⟨tb,b1,b2⟩:=hb;exact⟨_,cK ho a1 b1 hm,λ P0 P σ H Q ρ E h=>RE a2 b2 hr E (pW h)⟩
theorem pX (ha:DE X WX c a f)(hb:DE X WX c b g):DT X WX (.Compare a [.Lt] [b] pos) (λ ρ=>((f ρ).bind λ x=>(g ρ).bind λ y=>uQ x y).bind OI):=Fl iB (Ls λ _ _ _ _=>.bl _) ha hb (HR _)
theorem UR (ha:DE X WX c a f)(hb:DE X WX c b g):DT X WX (.Compare a [.Gt] [b] pos) (λ ρ=>((f ρ).bind λ x=>(g ρ).bind λ y=>uR x y).bind OI):=Fl oV (Ls λ _ _ _ _=>.bl _) ha hb (HR _)
theorem OJ {n:Nat}(hu:X.A.units+n<cLine)(ha:DE X WX c a f)(hb:DE X WX c b g):DT X WX (.Compare a [.Eq] [b] pos) (λ ρ=>((f ρ).bind λ x=>(g ρ).bind λ y=>dJ n x y).bind OI):=Fl XY (Y2 hu) ha hb (HR _)
theorem FT {n:Nat}(hu:X.A.units+n<cLine)(ha:DE X WX c a f)(hb:DE X WX c b g):DT X WX (.Compare a [.NotEq] [b] pos) (λ ρ=>((f ρ).bind λ x=>(g ρ).bind λ y=>Xe n x y).bind OI):=Fl kZ (lB hu) ha hb (HR _)
theorem I0 {j pos'}(ha:DE X WX c a f):DT X WX (.Compare a [.Is] [.Constant .none j pos'] pos) (λ ρ=>(f ρ).bind λ x=>.ok (D6 x)):=by
 obtain⟨ta,a1,a2⟩:=ha;refine⟨_,Xk (Xj a1),λ P0 P σ H Q ρ E h=>?_⟩;dsimp only at h;refine a2 P0 P σ H _ ρ E ?_;cases e:f ρ with
 |bad|ex x=>rw[e] at h;exact h
 |ok x=>rw[e] at h;exact λ v H1 s1 hv=>⟨_,rfl,by rw[hv.tT];exact h H1 s1⟩
theorem Lu {j pos'}(ha:DE X WX c a f):DT X WX (.Compare a [.IsNot] [.Constant .none j pos'] pos) (λ ρ=>(f ρ).bind λ x=>.ok (!D6 x)):=by
 obtain⟨ta,a1,a2⟩:=ha;refine⟨_,Xk (cC a1),λ P0 P σ H Q ρ E h=>?_⟩;dsimp only at h;refine a2 P0 P σ H _ ρ E ?_;cases e:f ρ with
 |bad|ex x=>rw[e] at h;exact h
 |ok x=>rw[e] at h;exact λ v H1 s1 hv=>⟨_,rfl,by rw[hv.tT];exact h H1 s1⟩
theorem BY (ha:DT X WX a ft):DT X WX (.UnaryOp .Not a pos) (λ ρ=>(ft ρ).bind λ b=>.ok (!b)):=by
 obtain⟨ta,a1,a2⟩:=ha;refine⟨_,jO a1,λ P0 P σ H Q ρ E h=>?_⟩;dsimp only at h;refine a2 P0 P σ H _ ρ E ?_;cases e:ft ρ with
 |bad|ex x=>rw[e] at h;exact h
 |ok x=>rw[e] at h;exact λ H1 s1=>h H1 s1
theorem Lw (ha:DT X WX a ft):DW X WX (.BoolOp .And [a] pos) ft:=let ⟨ta,a1,a2⟩:=ha;⟨_,pw_and1 a1,a2⟩
theorem Cr (ha:DT X WX a ft):DW X WX (.BoolOp .Or [a] pos) ft:=let ⟨ta,a1,a2⟩:=ha;⟨_,pw_or1 a1,a2⟩
theorem Mu {rest:List Expr}(ha:DT X WX a ft)(hb:DW X WX (.BoolOp .And (b::rest) pos) gt):DW X WX (.BoolOp .And (a::b::rest) pos) (λ ρ=>(ft ρ).bind λ k=>if k=true then gt ρ else .ok false):=by
 obtain⟨ta,a1,a2⟩:=ha;obtain⟨tb,b1,b2⟩:=hb;refine⟨_,pw_and a1 b1,λ P0 P σ H Q ρ E h=>?_⟩;dsimp only at h;refine a2 P0 P σ H _ ρ E ?_;cases e:ft ρ with
 |bad|ex x=>rw[e] at h;exact h
 |ok k =>
  rw[e] at h;intro H1 s1;cases k with
  |true =>
   simp only[M.A7,if_true] at h ⊢;exact b2 P0 P σ H1 _ ρ (E.same s1) (h.same s1)
  |false =>
   simp only[M.A7,z8,if_false] at h ⊢;exact h H1 s1
theorem Dw {rest:List Expr}(ha:DT X WX a ft)(hb:DW X WX (.BoolOp .Or (b::rest) pos) gt):DW X WX (.BoolOp .Or (a::b::rest) pos) (λ ρ=>(ft ρ).bind λ k=>if k=true then .ok true else gt ρ):=by
 obtain⟨ta,a1,a2⟩:=ha;obtain⟨tb,b1,b2⟩:=hb;refine⟨_,pw_or a1 b1,λ P0 P σ H Q ρ E h=>?_⟩;dsimp only at h;refine a2 P0 P σ H _ ρ E ?_;cases e:ft ρ with
 |bad|ex x=>rw[e] at h;exact h
 |ok k =>
  rw[e] at h;intro H1 s1;cases k with
  |true =>
   simp only[M.A7,if_true] at h ⊢;exact h H1 s1
  |false =>
   simp only[M.A7,z8,if_false] at h ⊢;exact b2 P0 P σ H1 _ ρ (E.same s1) (h.same s1)
theorem Ka {op}(ha:DE X WX c a f):DE X WX c (.BoolOp op [a] pos) f:=let ⟨ta,a1,a2⟩:=ha;⟨_,jP a1,a2⟩
theorem Mv {rest:List Expr}(ha:DE X WX c a f)(hb:DE X WX c (.BoolOp .And (b::rest) pos) g):DE X WX c (.BoolOp .And (a::b::rest) pos) (λ ρ=>((f ρ).bind OI).bind λ k=>if k=true then g ρ else .ok (.bl false)):=by
 obtain⟨ta,a1,a2⟩:=ha;obtain⟨tb,b1,b2⟩:=hb;refine⟨_,jQ a1 b1,λ P0 P σ H Q ρ E h=>?_⟩;dsimp only at h;refine a2 P0 P σ H _ ρ E ?_;cases e:f ρ with
 |bad|ex x=>rw[e] at h;exact h
 |ok d =>
  rw[e] at h;simp only[M.A7] at h;unfold OI at h;split at h
  ·rename_i k;intro v H1 s1 hv;refine⟨k,hv.Mt,?_⟩;cases k with
   |true =>
    simp only[M.A7,if_true] at h ⊢;exact b2 P0 P σ H1 _ ρ (E.same s1) (h.same s1)
   |false =>
    simp only[M.A7,z8,if_false] at h ⊢;exact h _ H1 s1 (.bl _)
  ·exact h.elim
theorem iH {rest:List Expr}(ha:DE X WX c a f)(hb:DE X WX c (.BoolOp .Or (b::rest) pos) g):DE X WX c (.BoolOp .Or (a::b::rest) pos) (λ ρ=>((f ρ).bind OI).bind λ k=>if k=true then .ok (.bl true) else g ρ):=by
 obtain⟨ta,a1,a2⟩:=ha;obtain⟨tb,b1,b2⟩:=hb;refine⟨_,oI a1 b1,λ P0 P σ H Q ρ E h=>?_⟩;dsimp only at h;refine a2 P0 P σ H _ ρ E ?_;cases e:f ρ with
 |bad|ex x=>rw[e] at h;exact h
 |ok d =>
  rw[e] at h;simp only[M.A7] at h;unfold OI at h;split at h
  ·rename_i k;intro v H1 s1 hv;refine⟨k,hv.Mt,?_⟩;cases k with
   |true =>
    simp only[M.A7,if_true] at h ⊢;exact h _ H1 s1 (.bl _)
   |false =>
    simp only[M.A7,z8,if_false] at h ⊢;exact b2 P0 P σ H1 _ ρ (E.same s1) (h.same s1)
  ·exact h.elim
theorem Y4 (ha:DE X WX c a f):DE X WX c (.UnaryOp .Not a pos) (λ ρ=>((f ρ).bind OI).bind λ k=>.ok (.bl (!k))):=by
 obtain⟨ta,a1,a2⟩:=ha;refine⟨_,jR a1,λ P0 P σ H Q ρ E h=>?_⟩;dsimp only at h;refine a2 P0 P σ H _ ρ E ?_;cases e:f ρ with
 |bad|ex x=>rw[e] at h;exact h
 |ok d =>
  rw[e] at h;simp only[M.A7] at h;unfold OI at h;split at h
  ·rename_i k;exact λ v H1 s1 hv=>⟨k,hv.Mt,h _ H1 s1 (.bl _)⟩
  ·exact h.elim
theorem tU (ha:DE X WX c a f):DE X WX c (.UnaryOp .USub a pos) (λ ρ=>(f ρ).bind λ d=>match d with | .int i=>.ok (.int (-i)) | _=>.bad):=by
 obtain⟨ta,a1,a2⟩:=ha;refine⟨_,oS kD a1,λ P0 P σ H Q ρ E h=>?_⟩;dsimp only at h;refine a2 P0 P σ H _ ρ E ?_;cases e:f ρ with
 |bad|ex x=>rw[e] at h;exact h
 |ok d =>
  rw[e] at h;simp only[M.A7] at h;split at h
  ·rename_i i;exact λ v H1 s1 hv=>⟨i,hv.int_inv,h _ H1 s1 (.int _)⟩
  ·exact h.elim
theorem W6 {d:Expr}{h:Ac->M D}{op eo:CmpOp}{p q:Int->Int->Bool}(ho:G9 X (compareOp op) (ZS λ i j=>.bl (p i j)))(bm:G9 X (compareOp eo) (ZS λ i j=>.bl (q i j)))(ha:DE X WX c a f)(hb:DE X WX c b g)(hd:DE X WX c d h)
 (hm:lastMarks [op,eo] [b,d]=false:=by with_unfolding_all rfl):DE X WX c (.Compare a [op,eo] [b,d] pos) (λ ρ=>(f ρ).bind λ x=>(g ρ).bind λ y=>Bt (λ i j=>if p i j=true then (h ρ).bind λ z=>Bt (λ _ k=>.ok (.bl (q j k))) (.int 0) z else .ok (.bl false)) x y):=by
 obtain⟨ta,a1,a2⟩:=ha;obtain⟨tb,b1,b2⟩:=hb;obtain⟨td,d1,d2⟩:=hd;refine⟨_,Xx ho bm a1 b1 d1 hm,λ P0 P σ H Q ρ E hh=>?_⟩;dsimp only at hh;refine a2 P0 P σ H _ ρ E ?_;cases e:f ρ with
 |bad|ex x=>rw[e] at hh;exact hh
 |ok x =>
  rw[e] at hh;intro v H1 s1 hv;refine b2 P0 P σ H1 _ ρ (E.same s1) ?_;cases e2:g ρ with
  |bad=>rw[e2] at hh;exact hh
  |ex y=>rw[e2] at hh;exact gV.same (m:=.ex y) hh s1
  |ok y =>
   rw[e2] at hh;simp only[M.A7] at hh;unfold Bt at hh;split at hh
   ·rename_i i j;intro w H2 s2 hw;refine⟨i,j,hv.int_inv,hw.int_inv,p i j,rfl,?_⟩;dsimp only at hh;by_cases hp:p i j=true
    ·rw[if_pos hp] at hh ⊢;refine d2 P0 P σ H2 _ ρ ((E.same s1).same s2) ?_;cases e3:h ρ with
     |bad=>rw[e3] at hh;exact hh
     |ex z=>rw[e3] at hh;exact gV.same (gV.same (m:=.ex z) hh s1) s2
     |ok z =>
      rw[e3] at hh;simp only[M.A7] at hh;cases z with
      |int k=>exact λ u H3 s3 hu=>⟨j,k,hw.int_inv,hu.int_inv,hh _ H3 ((s1.trans s2).trans s3) (.bl _)⟩
      |_=>exact hh.elim
    ·rw[if_neg hp] at hh ⊢;exact hh _ H2 (s1.trans s2) (.bl _)
   ·exact hh.elim
def KD (K:za)(WX:Str->Hp->Prop)(r:List V->Hp->VK->Prop)(dF:List D->M D):Prop:=
 ∀(P:Addr->Prop) (H:Hp) (ds:List D) (vs:List V) (Q:VK),(∀a,P a->Dq H a)->Ai K (del H P) vs ds->gV K WX P H Q (dF ds)->r vs H Q
variable {x:Str}{p:Pos}{es:List Expr}{fs:Ac->M (List D)}{id T:String}{r:List V->Hp->VK->Prop}{dF:List D->M D}
theorem Y5 {ta:TA}(ha:∀P0 P σ H Q ρ,Ak X.K P0 P H σ ρ->gA X.K WX (Lv c P0 P) H Q (fs ρ)->ta σ H Q)(hr:KD X.K WX r dF){Q:VK}(E:Ak X.K P0 P H σ ρ)(h:gV X.K WX (Lv c P0 P) H Q ((fs ρ).bind dF)):tG r ta σ H Q:=by
 refine ha P0 P σ H _ ρ E ?_;cases e:fs ρ with
 |bad|ex x=>rw[e] at h;exact h
 |ok ds =>
  rw[e] at h;exact λ vs H1 s1 aB=>hr _ H1 ds vs Q (λ a q=>(E.same s1).pR c a q) aB (h.same s1)
theorem Mw (hc:Ga X (.builtin id) r)(hr:KD X.K WX r dF)(hg:Gl X x)(hm:X.mg x=none)(hv:bootBuiltins x=some (.builtin id))(ha:DA X WX c (e::es) fs)(hn:x ≠ "__name__" := by decide)(aV:(x==("__debug__" : Str))=false:=by decide)
 (he:starEach (e::es) X.env=(false,eval e X.env)::starEach es X.env:=by rfl) (au:(backTo pos (starEach es X.env)).any (·.1)=false:=by rfl):DE X WX c (.Call (.Name x p) (e::es) [] pos) (λ ρ=>(fs ρ).bind dF):=by
 obtain⟨ta,a1,a2,a3⟩:=ha;exact⟨_,Rj hc hg hm hv a1 hn aV he au,λ P0 P σ H Q ρ E h=>Y5 a2 hr E h⟩
theorem OK (hc:Ga X (.type T) r)(hr:KD X.K WX r dF)(hg:Gl X x)(hm:X.mg x=none)(hv:bootBuiltins x=some (.type T))(ha:DA X WX c (e::es) fs)(hn:x ≠ "__name__" := by decide)(aV:(x==("__debug__" : Str))=false:=by decide)
 (he:starEach (e::es) X.env=(false,eval e X.env)::starEach es X.env:=by rfl) (au:(backTo pos (starEach es X.env)).any (·.1)=false:=by rfl):DE X WX c (.Call (.Name x p) (e::es) [] pos) (λ ρ=>(fs ρ).bind dF):=by
 obtain⟨ta,a1,a2,a3⟩:=ha;exact⟨_,OB hc hg hm hv a1 hn aV he au,λ P0 P σ H Q ρ E h=>Y5 a2 hr E h⟩
noncomputable def W7 (ds:List D):M D:=match ds with
 |[.lst xs]|[.tup xs]=>.ok (.int xs.length)
 |_=>.bad
theorem Ai.one {K:za}{H:Hp}{vs:List V}{d:D}(h:Ai K H vs [d]):∃v,vs=[v]/\BK K H v d:=by
 cases h with
 |cons h t=>cases t;exact⟨_,rfl,h⟩
theorem Ai.two {K:za}{H:Hp}{vs:List V}{d e:D}(h:Ai K H vs [d,e]):∃v w,vs=[v,w]/\BK K H v d/\BK K H w e:=by
 cases h with
 |cons h t =>
  obtain⟨w,rfl,hw⟩:=t.one;exact⟨_,w,rfl,h,hw⟩
theorem lC:KD X.K WX (λ xs H Q=>∃p ys,xs=[.ref p]/\(CJ X.K H p ys\/Fb X.K H p ys)/\Q (.int ys.length) H) W7:=by
 intro P H ds vs Q ht hl h;unfold W7 at h;split at h
 ·obtain⟨v,rfl,hv⟩:=hl.one;cases hv with
  |lst hs hh=>exact⟨_,_,rfl,.inl hs.AN,by rw[hh.length];exact h _ H (Ad.refl H) (.int _)⟩
 ·obtain⟨v,rfl,hv⟩:=hl.one;cases hv with
  |tup hs hh=>exact⟨_,_,rfl,.inr (Fb.of (Am hs).2),by rw[hh.length];exact h _ H (Ad.refl H) (.int _)⟩
 ·exact h.elim
theorem Cd (hg:Gl X "len")(hm:X.mg "len" = none)(ha:DE X WX c e f)(hs:starEach [e] X.env=[(false,eval e X.env)]:=by rfl):DE X WX c (.Call (.Name "len" p) [e] [] pos) (λ ρ=>((f ρ).bind λ d=>(M.ok []).bind λ ds=>.ok (d::ds)).bind W7):=
 Mw PP lC hg hm PySem.boot_len (A2 ha A8 hs) (he:=hs)
noncomputable def TC (ds:List D):M D:=match ds with
 |[.lst xs]|[.tup xs]=>.ok (.tup xs)
 |_=>.bad
theorem Y6:KD X.K WX (λ xs H Q=>∃p ys,xs=[.ref p]/\((CJ X.K H p ys/\∀l,H l=none->Q (.ref l) (upd H l (.tup ys)))\/(Fb X.K H p ys/\Q (.ref p) H))) TC:=by
 intro P H ds vs Q ht hl h;unfold TC at h;split at h
 ·obtain⟨v,rfl,hv⟩:=hl.one;cases hv with
  |lst hs hh=>exact⟨_,_,rfl,.inl ⟨hs.AN,λ l hn=>h _ _ (AJ hn _) (.tup (IM hn ht) (hh.mono (AJ hn _).del))⟩⟩
 ·obtain⟨v,rfl,hv⟩:=hl.one;cases hv with
  |tup hs hh=>exact⟨_,_,rfl,.inr ⟨Fb.of (Am hs).2,h _ H (Ad.refl H) (.tup hs hh)⟩⟩
 ·exact h.elim
theorem Y7 (hg:Gl X "tuple")(hm:X.mg "tuple" = none)(ha:DE X WX c e f)(hb:bootBuiltins "tuple" = some (.type "tuple"):=by decide +kernel)(hs:starEach [e] X.env=[(false,eval e X.env)]:=by rfl):DE X WX c (.Call (.Name "tuple" p) [e] [] pos) (λ ρ=>((f ρ).bind λ d=>(M.ok []).bind λ ds=>.ok (d::ds)).bind TC):=
 OK O1 Y6 hg hm hb (A2 ha A8 hs) (he:=hs)
noncomputable def iI:D->String
 | .AA => "NoneType"
 | .bl _ => "bool"
 | .int _ => "int"
 | .str _ => "str"
 | .tup _ => "tuple"
 | .lst _ => "list"
 | .EG _ => "NoneType"
 | .Bl _ _ _ => "dict"
 | .ins _ _ _ => "NoneType"
noncomputable def Eu (T:String)(d:D):Bool:=(iI d==T)||(iI d == "bool" && T == "int")
noncomputable def IQ (T:String)(d:D):M D:=match d with
 | .EG _| .ins _ _ _=>.bad
 |d=>.ok (.bl (Eu T d))
noncomputable def pY:D->Bool
 | .EG _| .ins _ _ _=>true
 |_=>false
theorem Y8 {T:String}{d:D}(h:pY d=false):IQ T d=.ok (.bl (Eu T d)):=by cases d<;>first | rfl | cases h
def tV (K:za)(T:String):List V->Hp->VK->Prop:=λ xs H Q=>∃x d,xs=[x,.ty T]/\BK K H x d/\pY d=false/\Q (.bl (Eu T d)) H
theorem Y9 {T:String}(hk:∀d:D,PySem.W.kitOne X.K (.type (iI d)) (.type T)=some (Eu T d)):Ga X (.builtin "isinstance") (tV X.K T):=by
 intro pins s σ H xs us Q I r h;obtain⟨x,d,rfl,hd,hx,q⟩:=h;obtain⟨u,w,rfl,rx,bg⟩:=r.two;cases bg;have fin:∀tk,EP X pins σ Q (.bool (Eu T d)) {s with toks:=tk}:=λ tk=>⟨.bl _,H,I.tok tk,rfl,q⟩;have e:=hk d;cases hd with
 |EG _ _|ins _ _ _=>cases hx
 |HY hs hl =>
  cases rx;obtain⟨⟨o,h1,h2⟩,_,_⟩:=Tx I (.inl ⟨_,hs⟩);exact za7 PySem.W.kitx_dict I.NT ⟨o,h1,h2⟩ e (λ z=>nomatch z) fin
 |HZ hs hl =>
  cases rx;obtain⟨⟨o,h1,h2⟩,_,_⟩:=Tx I (.inr ⟨_,hs⟩);exact za7 PySem.W.kitx_dict I.NT ⟨o,h1,h2⟩ e (λ z=>nomatch z) fin
 |AA=>cases rx;exact za7 PySem.W.kitx_none I.NT zai e (λ z=>nomatch z) fin
 |bl b=>cases rx;exact za7 PySem.W.kitx_bool I.NT zai e (λ z=>nomatch z) fin
 |int b=>obtain⟨t,rfl⟩:=rx;exact za7 PySem.W.kitx_int I.NT zai e (λ z=>nomatch z) fin
 |str b=>obtain⟨t,rfl⟩:=rx;exact za7 PySem.W.kitx_str I.NT zai e (λ z=>nomatch z) fin
 |tup hs hl =>
  cases rx;obtain⟨_,_,⟨o,h1,h2,_⟩,_⟩:=I.tuple (.of hs);exact za7 PySem.W.kitx_tuple I.NT ⟨o,h1,h2⟩ e (λ z=>nomatch z) fin
 |lst hs hl =>
  cases rx;obtain⟨_,_,⟨o,n,h1,h2,_⟩,_⟩:=I.list hs;exact za7 PySem.W.kitx_list I.NT ⟨o,h1,h2⟩ e (λ z=>nomatch z) fin
theorem E5 {T:String}{x2:Str}{p2:Pos}(hk:∀d:D,PySem.W.kitOne X.K (.type (iI d)) (.type T)=some (Eu T d))(hg:Gl X "isinstance")(hm:X.mg "isinstance" = none)(i5:Gl X x2)(b8:X.mg x2=none)(nq:bootBuiltins x2=some (.type T))(ha:DE X WX c e f)
 (hb:bootBuiltins "isinstance" = some (.builtin "isinstance"):=by decide +kernel) (aE:x2 ≠ "__name__" := by decide) (nr:(x2==("__debug__" : Str))=false:=by decide) (hs:starEach [e,.Name x2 p2] X.env=(false,eval e X.env)::starEach [.Name x2 p2] X.env:=by rfl) (aK:starEach [.Name x2 p2] X.env=[(false,eval (.Name x2 p2) X.env)]:=by rfl)
 (au:(backTo pos (starEach [.Name x2 p2] X.env)).any (·.1)=false:=by rfl):
 DE X WX c (.Call (.Name "isinstance" p) [e,.Name x2 p2] [] pos) (λ ρ=>(f ρ).bind λ d=>IQ T d):=by
 obtain⟨ta,a1,a2⟩:=ha;refine⟨_,Rj (Y9 hk) hg hm hb (Ba a1 (Ba (cB (v:=.ty T) i5 b8 nq rfl aE nr) C5 aK) hs) (by decide) (by decide) hs au,λ P0 P σ H Q ρ E h=>?_⟩;dsimp only at h;refine a2 P0 P σ H _ ρ E ?_;cases q:f ρ with
 |bad|ex x=>rw[q] at h;exact h
 |ok d =>
  rw[q] at h;simp only[M.A7] at h;cases hx:pY d with
  |true=>cases d<;>first|exact h.elim|cases hx
  |false =>
   rw[Y8 hx] at h;exact λ v H1 s1 hv=>⟨v,d,rfl,hv.mono DZ,hx,h _ H1 s1 (.bl _)⟩
theorem I9 (K:za)(d:D):PySem.W.kitOne K (.type (iI d)) (.type "tuple")=some (Eu "tuple" d):=by cases d<;>rfl
theorem GQ (K:za)(d:D):PySem.W.kitOne K (.type (iI d)) (.type "list")=some (Eu "list" d):=by cases d<;>rfl
theorem OL (K:za)(d:D):PySem.W.kitOne K (.type (iI d)) (.type "bool")=some (Eu "bool" d):=by cases d<;>rfl
theorem RF (K:za)(d:D):PySem.W.kitOne K (.type (iI d)) (.type "int")=some (Eu "int" d):=by cases d<;>rfl
noncomputable def iJ (lo hi:Option Int)(d:D):M D:=match d with
 | .lst ds=>.ok (.lst ((ds.drop (HT.Md ds.length 0 lo)).take (HT.Md ds.length ds.length hi-HT.Md ds.length 0 lo)))
 |_=>.bad
def DO (X:Cx)(WX:Str->Hp->Prop)(c:Bool)(e:Option Expr)(f:Ac->M (Option Int)):Prop:=
 ∃t,PO X e t/\∀P0 P σ H Q ρ,Ak X.K P0 P H σ ρ->(match f ρ with | .ok o=>∀H',Ad H H'->Q o H' | .ex x=>∀H',Ad H H'->WX x H' | .bad=>False)->t σ H Q
theorem GR:DO X WX c none (λ _=>.ok none):=⟨_,cP,λ P0 P σ H Q ρ E h=>h H (Ad.refl H)⟩
noncomputable def uS (d:D):M (Option Int):=match d with | .int i=>.ok (some i) | _=>.bad
theorem Ez (ha:DE X WX c e f):DO X WX c (some e) (λ ρ=>(f ρ).bind uS):=by
 obtain⟨ta,a1,a2⟩:=ha;refine⟨_,cQ a1,λ P0 P σ H Q ρ E h=>?_⟩;dsimp only at h;refine a2 P0 P σ H _ ρ E ?_;cases q:f ρ with
 |bad|ex x=>rw[q] at h;exact h
 |ok d =>
  rw[q] at h;cases d with
  |int i=>exact λ v H1 s1 hv=>⟨i,hv.int_inv,h H1 s1⟩
  |_=>exact h.elim
end
inductive Out where
 |ret (d:D)|next (ρ:Ac)|brk (ρ:Ac)|cont (ρ:Ac)|CI (c:Cl)|EV (t:OT) (ρ:Ac)
def Tr (P0 P:Addr->Prop)(H:Hp)(P':Addr->Prop)(H':Hp):Prop:=Ad (del H P) (del H' P')/\∀a,P0 a->H' a=H a
theorem Tr.refl {P0 P:Addr->Prop}{H:Hp}:Tr P0 P H P H:=⟨Ad.refl _,λ _ _=>rfl⟩
theorem Tr.trans {P0 P P1 P2:Addr->Prop}{H H1 H2:Hp}(a:Tr P0 P H P1 H1)(b:Tr P0 P1 H1 P2 H2):Tr P0 P H P2 H2:=⟨a.1.trans b.1,λ x h=>(b.2 x h).trans (a.2 x h)⟩
theorem Ak.tr {K:za}{P0:Et}{P:Addr->Prop}{H H':Hp}{σ:St}{ρ:Ac}(E:Ak K P0 P H σ ρ)(e:Ad H H'):Tr P0 P H P H':=
 ⟨e.del,λ a h=>by obtain⟨o,q,_⟩:=E.BS a (E.sub a h);rw[e a o q,q]⟩
def gS (K:za)(WX:Str->Hp->Prop)(P0:Et)(P:Addr->Prop)(H:Hp)(Z:Ends):M Out->Prop
 | .ok (.ret d)=>∀v H' P',Tr P0 P H P' H'->BK K (del H' P0) v d->Z.rt v H'
 | .ok (.next ρ)=>∀σ' H' P',Tr P0 P H P' H'->Ak K P0 P' H' σ' ρ->Z.nx σ' H'
 | .ok (.brk ρ)=>∀σ' H' P',Tr P0 P H P' H'->Ak K P0 P' H' σ' ρ->Z.bk σ' H'
 | .ok (.cont ρ)=>∀σ' H' P',Tr P0 P H P' H'->Ak K P0 P' H' σ' ρ->Z.ct σ' H'
 | .ok (.CI c)=>∀v fp H' P',Tr P0 P H P' H'->(∀a,P0 a->P' a)->(∀a,P' a->Dq H' a)->Dl K H' P' c v fp->(∀a∈fp,P' a/\¬ P0 a)->fp.Nodup->Z.rt v H'
 | .ok (.EV t ρ)=>∀v fp σ' H' P',Tr P0 P H P' H'->Ak K P0 P' H' σ' ρ->C4 K H' P' v t fp->fp.Nodup->(∀a∈fp,P' a/\¬ P0 a/\∀(j:Nat) c v' fq,ρ[j]?=some (some c)->σ'[j]?=some (some v')->Dl K H' P' c v' fq->a∉fq)->Z.rt v H'
 | .ex x=>∀H' P',Tr P0 P H P' H'->WX x H'
 | .bad=>False
theorem gS.tr {K:za}{WX:Str->Hp->Prop}{P0:Et}{P P':Addr->Prop}{H H':Hp}{Z:Ends}{m:M Out}(h:gS K WX P0 P H Z m)(t:Tr P0 P H P' H'):gS K WX P0 P' H' Z m:=by
 cases m with
 |bad=>exact h
 |ex x=>exact λ H2 P2 t2=>h H2 P2 (t.trans t2)
 |ok o =>
  cases o with
  |ret d=>exact λ v H2 P2 t2 hv=>h v H2 P2 (t.trans t2) hv
  |next ρ|brk ρ|cont ρ=>exact λ σ2 H2 P2 t2 hv=>h σ2 H2 P2 (t.trans t2) hv
  |CI c=>exact λ v fp H2 P2 t2=>h v fp H2 P2 (t.trans t2)
  |EV c ρ=>exact λ v fp σ2 H2 P2 t2=>h v fp σ2 H2 P2 (t.trans t2)
def DS (X:Cx)(WX:Str->Hp->Prop)(st:Stmt)(g:Ac->M Out):Prop:=
 ∃t,PS X st t/\∀P0 P σ H Z ρ,Ak X.K P0 P H σ ρ->gS X.K WX P0 P H Z (g ρ)->t Z σ H
def T8 (X:Cx)(WX:Str->Hp->Prop)(st:List Stmt)(g:Ac->M Out):Prop:=
 ∃t,UA X st t/\∀P0 P σ H Z ρ,Ak X.K P0 P H σ ρ->gS X.K WX P0 P H Z (g ρ)->t Z σ H
noncomputable def dN (m:M Out)(k:Ac->M Out):M Out:=match m with
 | .ok (.next ρ)=>k ρ
 |m=>m
section
variable {X:Cx}{WX:Str->Hp->Prop}{c:Bool}{P0:Et}{P:Addr->Prop}{H:Hp}{σ:St}{ρ:Ac}{a b e:Expr}{f g:Ac->M D}{ft gt:Ac->M Bool}{pos:Pos}{st:Stmt}{rest:List Stmt}{g1 g2:Ac->M Out}
theorem Ax:T8 X WX [] (λ ρ=>.ok (.next ρ)):=⟨_,cD,λ P0 P σ H Z ρ E h=>h σ H P Tr.refl E⟩
theorem A6 (h:DS X WX st g1):T8 X WX [st] g1:=let ⟨t,h1,h2⟩:=h;⟨_,cE h1,h2⟩
theorem A3 (h:DS X WX st g1)(hr:T8 X WX rest g2):T8 X WX (st::rest) (λ ρ=>dN (g1 ρ) g2):=by
 obtain⟨t,h1,h2⟩:=h;obtain⟨u,r1,r2⟩:=hr;refine⟨_,Xl h1 r1,λ P0 P σ H Z ρ E h=>?_⟩;dsimp only at h;refine h2 P0 P σ H {Z with nx:=u Z} ρ E ?_;cases q:g1 ρ with
 |bad|ex x=>rw[q] at h;exact h
 |ok o =>
  rw[q] at h;cases o with
  |ret d|brk d|cont d|CI d|EV d ρ2=>exact h
  |next ρ'=>exact λ σ' H' P' t E'=>r2 P0 P' σ' H' Z ρ' E' (gS.tr h t)
theorem Q2 (ha:DE X WX false e f):DS X WX (.Return (some e) pos) (λ ρ=>(f ρ).bind λ d=>.ok (.ret d)):=by
 obtain⟨ta,a1,a2⟩:=ha;refine⟨_,Td a1,λ P0 P σ H Z ρ E h=>?_⟩;dsimp only at h;refine a2 P0 P σ H _ ρ E ?_;cases q:f ρ with
 |bad=>rw[q] at h;exact h
 |ex x=>rw[q] at h;exact λ H' s=>h H' P (E.tr s)
 |ok d=>rw[q] at h;exact λ v H' s hv=>h v H' P (E.tr s) hv
theorem B8 {c:Expr}{sa sb:List Stmt}(hc:DT X WX c ft)(ha:T8 X WX sa g1)(hb:T8 X WX sb g2):DS X WX (.If c sa sb pos) (λ ρ=>(ft ρ).bind λ k=>if k=true then g1 ρ else g2 ρ):=by
 obtain⟨tc,c1,c2⟩:=hc;obtain⟨ta,a1,a2⟩:=ha;obtain⟨tb,b1,b2⟩:=hb;refine⟨_,oN c1 a1 b1,λ P0 P σ H Z ρ E h=>?_⟩;dsimp only at h;refine c2 P0 P σ H _ ρ E ?_;cases q:ft ρ with
 |bad=>rw[q] at h;exact h
 |ex x=>rw[q] at h;exact λ H' s=>h H' P (E.tr s)
 |ok k =>
  rw[q] at h;intro H1 s1;cases k with
  |true =>
   simp only[M.A7,if_true] at h ⊢;exact a2 P0 P σ H1 Z ρ (E.same s1) (h.tr (E.tr s1))
  |false =>
   simp only[M.A7,z8,if_false] at h ⊢;exact b2 P0 P σ H1 Z ρ (E.same s1) (h.tr (E.tr s1))
theorem get_set {α:Type}{l:List α}{i j:Nat}{x y:α}(h:(l.set i x)[j]?=some y):(i=j/\i<l.length/\x=y)\/(i≠j/\l[j]?=some y):=by
 by_cases e:i=j
 ·subst e;rw[List.getElem?_set_self'] at h;cases q:l[i]? with
  |none=>rw[q] at h;cases h
  |some z =>
   rw[q] at h;exact .inl ⟨rfl,(zw.mp q).1,by simpa using h⟩
 ·rw[yE e] at h;exact .inr ⟨e,h⟩
theorem Ak.TF {K:za}(E:Ak K P0 P H σ ρ){i:Nat}{v:V}{d:D}(hv:BK K (del H P) v d):Ak K P0 P H (σ.set i (some v)) (ρ.set i (some (.val d))):=by
 have gs:∀ {j:Nat},i≠j->(σ.set i (some v))[j]?=σ[j]? :=λ h=>yE h;refine⟨E.sub,E.BS,λ j e h=>?_,λ j c h io=>?_,λ j k c c' u u' fp ai h1 h2 h3 h4 h5 h6 ae=>?_,by rw[yC,yC];exact E.len,λ j c n h hp=>?_⟩
 rotate_left 3
 ·rcases get_set h with ⟨rfl,hl,e1⟩|⟨ae,h⟩
  ·cases e1;cases hp
  ·rw[gs ae];exact E.pin j c n h hp
 ·rcases get_set h with ⟨rfl,hl,e1⟩|⟨ae,h⟩
  ·cases e1;exact⟨v,zK (by rw[E.len];exact hl),hv⟩
  ·obtain⟨w,h1,h2⟩:=E.val j e h;exact⟨w,by rw[gs ae];exact h1,h2⟩
 ·rcases get_set h with ⟨rfl,hl,e1⟩|⟨ae,h⟩
  ·cases e1;cases io
  ·obtain⟨w,fp,h1,h2⟩:=E.ows j c h io;exact⟨w,fp,by rw[gs ae];exact h1,h2⟩
 ·rcases get_set h1 with ⟨rfl,hl,e1⟩|⟨bE,h1⟩
  ·cases e1;exact h5.elim
  ·rcases get_set h2 with ⟨rfl,hl,e1⟩|⟨aE,h2⟩
   ·cases e1;exact h6.elim
   ·rw[gs bE] at h3;rw[gs aE] at h4;exact E.apart j k c c' u u' fp ai h1 h2 h3 h4 h5 h6 ae
theorem Ak.W8 {K:za}(E:Ak K P0 P H σ ρ){P':Addr->Prop}{H':Hp}{i:Nat}{v:V}{c:Cl}{fp:List Addr}(hs:∀a,P a->P' a)(ht:∀a,P' a->Dq H' a)(sm:Ad (del H P) (del H' P'))
 (keep:∀(j:Nat) c' v' ai,i≠j->ρ[j]?=some (some c')->σ[j]?=some (some v')->Dl K H P c' v' ai->∀a∈ai,H' a=H a/\a∉fp)
 (new:Dl K H' P' c v fp) (hp:∀a∈fp,P' a/\¬ P0 a) (nd:fp.Nodup) (f7:∀n,OG c=some n->v=.ref (P0.g n):=by intro n z;cases z):Ak K P0 P' H' (σ.set i (some v)) (ρ.set i (some c)):=by
 have gs:∀ {j:Nat},i≠j->(σ.set i (some v))[j]?=σ[j]? :=λ h=>yE h;refine⟨λ a h=>hs a (E.sub a h),ht,λ j e h=>?_,λ j c' h io=>?_,λ j k c1 c2 u u' ay bJ h1 h2 h3 h4 h5 h6 ae=>?_,by rw[yC,yC];exact E.len,λ j c' n h hp=>?_⟩
 rotate_left 3
 ·rcases get_set h with ⟨rfl,hl,e1⟩|⟨ae,h⟩
  ·cases e1;rw[zK (by rw[E.len];exact hl),f7 n hp]
  ·rw[gs ae];exact E.pin j c' n h hp
 ·rcases get_set h with ⟨rfl,hl,e1⟩|⟨ae,h⟩
  ·cases e1;exact new.elim
  ·obtain⟨w,h1,h2⟩:=E.val j e h;exact⟨w,by rw[gs ae];exact h1,h2.mono sm⟩
 ·rcases get_set h with ⟨rfl,hl,e1⟩|⟨ae,h⟩
  ·cases e1;exact⟨v,fp,zK (by rw[E.len];exact hl),new,hp,nd⟩
  ·obtain⟨w,fq,h1,h2,h3,h4⟩:=E.ows j c' h io;exact⟨w,fq,by rw[gs ae];exact h1,h2.move sm λ a ha=>(keep j c' w fq ae h h1 h2 a ha).1,λ a ha=>⟨hs a (h3 a ha).1,(h3 a ha).2⟩,h4⟩
 ·have back:∀(l:Nat) (d:Cl) (w:V) (fq:List Addr),i≠l->ρ[l]?=some (some d)->σ[l]?=some (some w)->Dl K H' P' d w fq->∃fr,Dl K H P d w fr/\fr=fq:=λ l d w fq hn hk sk ho=>by
   have io:Hy d=true:=by cases d<;>first|rfl|exact ho.elim
   obtain⟨w',bJ,s2,o2,_⟩:=E.ows l d hk io;rw[sk] at s2;cases s2;exact⟨bJ,o2,(o2.move sm λ a ha=>(keep l d w bJ hn hk sk o2 a ha).1).Ci ho⟩
  rcases get_set h1 with ⟨rfl,hl,e1⟩|⟨bE,h1⟩
  ·cases e1;rw[zK (by rw[E.len];exact hl)] at h3;cases h3;rcases get_set h2 with ⟨e,_⟩|⟨aE,h2⟩
   ·exact (ae e).elim
   ·rw[gs aE] at h4;obtain⟨fr,o,rfl⟩:=back k c2 u' bJ aE h2 h4 h6;intro a ha hb;rw[new.Ci h5] at keep;exact (keep k c2 u' fr aE h2 h4 o a hb).2 ha
  ·rw[gs bE] at h3;obtain⟨fr,o,rfl⟩:=back j c1 u ay bE h1 h3 h5;rcases get_set h2 with ⟨rfl,hl,e1⟩|⟨aE,h2⟩
   ·cases e1;rw[zK (by rw[E.len];exact hl)] at h4;cases h4;intro a ha;rw[new.Ci h6] at keep;exact (keep j c1 u fr bE h1 h3 o a ha).2
   ·rw[gs aE] at h4;obtain⟨nu,o2,rfl⟩:=back k c2 u' bJ aE h2 h4 h6;exact E.apart j k c1 c2 u u' fr nu h1 h2 h3 h4 o o2 ae
theorem Ak.pZ {K:za}(E:Ak K P0 P H σ ρ){P':Addr->Prop}{H':Hp}{i:Nat}{v:V}{c:Cl}{fp:List Addr}(hs:∀a,P0 a->P' a)(ht:∀a,P' a->Dq H' a)(sm:Ad (del H P) (del H' P'))
 (keep:∀(j:Nat) c' v' ai,i≠j->ρ[j]?=some (some c')->σ[j]?=some (some v')->Dl K H P c' v' ai->∀a∈ai,H' a=H a/\a∉fp/\P' a)
 (new:Dl K H' P' c v fp) (hp:∀a∈fp,P' a/\¬ P0 a) (nd:fp.Nodup) (f7:∀n,OG c=some n->v=.ref (P0.g n):=by intro n z;cases z):Ak K P0 P' H' (σ.set i (some v)) (ρ.set i (some c)):=by
 have gs:∀ {j:Nat},i≠j->(σ.set i (some v))[j]?=σ[j]? :=λ h=>yE h;refine⟨hs,ht,λ j e h=>?_,λ j c' h io=>?_,λ j k c1 c2 u u' ay bJ h1 h2 h3 h4 h5 h6 ae=>?_,by rw[yC,yC];exact E.len,λ j c' n h hp=>?_⟩
 rotate_left 3
 ·rcases get_set h with ⟨rfl,hl,e1⟩|⟨ae,h⟩
  ·cases e1;rw[zK (by rw[E.len];exact hl),f7 n hp]
  ·rw[gs ae];exact E.pin j c' n h hp
 ·rcases get_set h with ⟨rfl,hl,e1⟩|⟨ae,h⟩
  ·cases e1;exact new.elim
  ·obtain⟨w,h1,h2⟩:=E.val j e h;exact⟨w,by rw[gs ae];exact h1,h2.mono sm⟩
 ·rcases get_set h with ⟨rfl,hl,e1⟩|⟨ae,h⟩
  ·cases e1;exact⟨v,fp,zK (by rw[E.len];exact hl),new,hp,nd⟩
  ·obtain⟨w,fq,h1,h2,h3,h4⟩:=E.ows j c' h io;exact⟨w,fq,by rw[gs ae];exact h1,h2.move sm λ a ha=>(keep j c' w fq ae h h1 h2 a ha).1,λ a ha=>⟨(keep j c' w fq ae h h1 h2 a ha).2.2,(h3 a ha).2⟩,h4⟩
 ·have back:∀(l:Nat) (d:Cl) (w:V) (fq:List Addr),i≠l->ρ[l]?=some (some d)->σ[l]?=some (some w)->Dl K H' P' d w fq->∃fr,Dl K H P d w fr/\fr=fq:=λ l d w fq hn hk sk ho=>by
   have io:Hy d=true:=by cases d<;>first|rfl|exact ho.elim
   obtain⟨w',bJ,s2,o2,_⟩:=E.ows l d hk io;rw[sk] at s2;cases s2;exact⟨bJ,o2,(o2.move sm λ a ha=>(keep l d w bJ hn hk sk o2 a ha).1).Ci ho⟩
  rcases get_set h1 with ⟨rfl,hl,e1⟩|⟨bE,h1⟩
  ·cases e1;rw[zK (by rw[E.len];exact hl)] at h3;cases h3;rcases get_set h2 with ⟨e,_⟩|⟨aE,h2⟩
   ·exact (ae e).elim
   ·rw[gs aE] at h4;obtain⟨fr,o,rfl⟩:=back k c2 u' bJ aE h2 h4 h6;intro a ha hb;rw[new.Ci h5] at keep;exact (keep k c2 u' fr aE h2 h4 o a hb).2.1 ha
  ·rw[gs bE] at h3;obtain⟨fr,o,rfl⟩:=back j c1 u ay bE h1 h3 h5;rcases get_set h2 with ⟨rfl,hl,e1⟩|⟨aE,h2⟩
   ·cases e1;rw[zK (by rw[E.len];exact hl)] at h4;cases h4;intro a ha;rw[new.Ci h6] at keep;exact (keep j c1 u fr bE h1 h3 o a ha).2.1
   ·rw[gs aE] at h4;obtain⟨nu,o2,rfl⟩:=back k c2 u' bJ aE h2 h4 h6;exact E.apart j k c1 c2 u u' fr nu h1 h2 h3 h4 o o2 ae
theorem Kb {α:Type}:∀ {l:List α}{i:Nat}{x:α},l[i]?=some x->l.set i x=l
 |[],_,_,h=>by cases h
 |y::r,0,x,h=>by cases h;rfl
 |y::r,i+1,x,h=>by rw[zo,Kb (by simpa using h)]
theorem Ak.mut {K:za}(E:Ak K P0 P H σ ρ){i p:Nat}{xs:List V}{ds i6:List D}(ho:ρ[i]?=some (some (.own ds)))(hs:σ[i]?=some (some (.ref p)))(pP:P p)(lb:¬ P0 p)(hx:Ai K (del H P) xs i6):
 Ak K P0 P (upd H p (.lst xs)) σ (ρ.set i (some (.own i6)))/\Tr P0 P H P (upd H p (.lst xs)):=by
 have sd:del (upd H p (.lst xs)) P=del H P:=by
  funext b;by_cases hb:P b
  ·rw[D4 hb,D4 hb]
  ·rw[Aw hb,Aw hb,Ah (λ z=>hb (by rw[z];exact pP))]
 have sm:Ad (del H P) (del (upd H p (.lst xs)) P):=by rw[sd];exact Ad.refl _
 obtain⟨v,fp,s1,o1,_⟩:=E.ows i _ ho rfl;rw[hs] at s1;cases s1;have key:=E.W8 (P':=P) (H':=upd H p (.lst xs)) (i:=i) (v:=.ref p) (c:=.own i6) (fp:=[p]) (λ a h=>h) (λ a h=>?_) sm (λ j c' v' ai ae h1 h2 h3 a ha=>?_) ⟨p,xs,rfl,rfl,Ao,by rw[sd];exact hx⟩ (λ a ha=>by rw[zh.mp ha];exact⟨pP,lb⟩) (by simp)
 ·rw[Kb hs] at key;exact⟨key,sm,λ a h=>by rw[Ah (λ z=>lb (by rw[<-z];exact h))]⟩
 ·by_cases ha:a=p
  ·subst ha;exact Dq.lst Ao
  ·unfold Dq;rw[Ah ha];exact E.BS a h
 ·obtain⟨p',dq,e,rfl,_⟩:=o1;cases e;have hn:a≠p:=λ z=>E.apart j i c' _ v' _ ai [p] h1 ho h2 hs h3 ⟨p,dq,rfl,rfl,by assumption⟩ (zX ae) a ha (by rw[z];exact zh.mpr rfl);exact⟨Ah hn,λ z=>hn (zh.mp z)⟩
theorem Ak.grow {K:za}(E:Ak K P0 P H σ ρ){i p:Nat}{xs:List V}{ds:List D}{v:V}{d:D}(ho:ρ[i]?=some (some (.own ds)))(hs:σ[i]?=some (some (.ref p)))(hp:H p=some (.lst xs))(pP:P p)(lb:¬ P0 p)(hx:Ai K (del H P) xs ds)(hv:BK K (del H P) v d):
 Ak K P0 P (upd H p (.lst (xs++[v]))) σ (ρ.set i (some (.own (ds++[d]))))/\Tr P0 P H P (upd H p (.lst (xs++[v]))):=E.mut ho hs pP lb (hx.snoc hv)
theorem AV (i:Nat){x:Str}{pos':Pos}(hN:X.N.Nodup)(hi:X.N[i]?=some x)(hx:Loc X.env.scope x)(ha:DE X WX true e f)(hs:swapsWith e (some (.Name x pos')) pos.line X.env=pure false:=by rfl)(hf:X.fn x=true\/X.env.scope.names.lookup x=some .local:=by first | exact .inl rfl | exact .inr rfl | assumption):
 DS X WX (.Assign [.Name x pos'] e pos) (λ ρ=>(f ρ).bind λ d=>.ok (.next (ρ.set i (some (.val d))))):=by
 obtain⟨ta,a1,a2⟩:=ha;refine⟨_,Te hN hi hx a1 hs hf,λ P0 P σ H Z ρ E h=>?_⟩;dsimp only at h;refine a2 P0 P σ H _ ρ E ?_;cases q:f ρ with
 |bad=>rw[q] at h;exact h
 |ex x=>rw[q] at h;exact λ H' s=>h H' P (E.tr s)
 |ok d=>rw[q] at h;exact λ v H' s hv=>h _ H' P (E.tr s) ((E.same s).TF hv)
noncomputable def W9 (i:Nat)(ρ:Ac)(m:M D):M Out:=match ρ[i]? with
 |some (some (.own ds))=>m.bind λ d=>if ds.length<1000 then .ok (.next (ρ.set i (some (.own (ds++[d]))))) else .bad
 |_=>.bad
theorem GS (i:Nat){x:Str}{p1 apos ad:Pos}(hv:PE X (.Name x p1) (Lb i))(ha:DE X WX true e f)(hs:starEach [e] X.env=[(false,eval e X.env)]:=by rfl)
 (aR:swapsWith (.Call (.Attribute (.Name x p1) "append" apos) [e] [] ad) none pos.line X.env=pure false:=by rfl)
 (ao:attributeBase (.Name x p1) "append" X.env (eval (.Name x p1) X.env)=eval (.Name x p1) X.env:=by rfl)
 (aG:((backTo ad (starEach [e] X.env)).all (λ x => !x.1)&&(backToKw ad (keywordEach [] X.env)).all (λ x=>x.1.isSome)&&decide (([e]:List Expr).length+([]:List Keyword).length+(if ([]:List Keyword).isEmpty then 0 else 1)<30))=true:=by rfl)
 (aq:(apos.endLine==ad.line)=true:=by rfl) (al:(backTo ad (starEach [] X.env)).any (·.1)=false:=by rfl):
 DS X WX (.Expr (.Call (.Attribute (.Name x p1) "append" apos) [e] [] ad) pos) (λ ρ=>W9 i ρ (f ρ)):=by
 obtain⟨ta,a1,a2⟩:=ha;refine⟨_,Ex (OC yQ PySem.F.slot_list_append PySem.F.type_list_append K4 hv (Ba a1 C5 hs) ao aG aq hs al) aR,λ P0 P σ H Z ρ E h=>?_⟩;dsimp only at h;unfold W9 at h;split at h
 ·rename_i ds e1;obtain⟨p,xs,h1,h2,h3,h4,h5⟩:=E.own i ds e1;refine⟨_,h1,.inl ⟨rfl,xs,.of h2⟩,?_⟩;refine a2 P0 P σ H _ ρ E ?_;cases q:f ρ with
  |bad=>rw[q] at h;exact h
  |ex y=>rw[q] at h;exact λ H' s=>h H' P (E.tr s)
  |ok d =>
   rw[q] at h;simp only[M.A7] at h;by_cases hl:ds.length<1000
   ·rw[if_pos hl] at h;intro v H1 s1 hv;have E1:=E.same s1;have g8:H1 p=some (.lst xs):=s1 _ _ h2;refine⟨p,xs,v,rfl,rfl,g8,AE (by rw[h5.length];omega),?_⟩;obtain⟨E2,t2⟩:=E1.grow e1 h1 g8 h3 h4 (h5.mono s1.del) hv;exact h _ _ _ ((E.tr s1).trans t2) E2
   ·rw[if_neg hl] at h;exact h.elim
 ·exact h.elim
end
def gG (K:za)(P0:Et)(P:Addr->Prop)(H:Hp)(Q:St->Hp->Prop):M Ac->Prop
 | .ok ρ=>∀σ',Ak K P0 P H σ' ρ->Q σ' H
 |_=>False
def DG (X:Cx)(tg:Expr)(gt:D->Ac->M Ac):Prop:=
 ∃g:TG,PG X tg g/\∀P0 P σ H Q ρ v d,Ak X.K P0 P H σ ρ->BK X.K (del H P) v d->gG X.K P0 P H Q (gt d ρ)->g v σ H Q
def rM (X:Cx)(vp:List Expr)(gt:List D->Ac->M Ac):Prop:=
 ∃g:Xb,nK X vp g/\∀P0 P σ H Q ρ v d,Ak X.K P0 P H σ ρ->Ai X.K (del H P) v d->gG X.K P0 P H Q (gt d ρ)->g v σ H Q
structure Yb (K:za)(J:It)(P:Addr->Prop)(H:Hp)(ds:List D):Prop where
 go:∀(i:Nat) P' H',Ad (del H P) (del H' P')->i<ds.length->J.go i H'
 stop:∀(i:Nat) P' H',Ad (del H P) (del H' P')->ds.length<=i->J.stop i H'
 cF:∀(i:Nat) P' H' v dr d,Ad (del H P) (del H' P')->(∀a,P' a->Dq H' a)->ds[i]?=some d->J.cF i H' v dr->Ad H' dr/\BK K (del dr P') v d
def DI (X:Cx)(WX:Str->Hp->Prop)(tg iter:Expr)(f:Ac->M (List D)):Prop:=
 ∃wi,PI X tg iter wi/\∀P0 P σ H R ρ,Ak X.K P0 P H σ ρ->(match f ρ with | .ok ds=>∀J H',Ad H H'->Yb X.K J P H' ds->R J H' | .ex x=>∀H',Ad H H'->WX x H' | .bad=>False)->wi σ H R
noncomputable def forM (gt:D->Ac->M Ac)(body:Ac->M Out):List D->Ac->M Out
 |[],ρ=>.ok (.next ρ)
 |d::r,ρ=>match gt d ρ with
  | .ok ρ1=>(match body ρ1 with
   | .ok (.next ρ2)| .ok (.cont ρ2)=>forM gt body r ρ2
   | .ok (.brk ρ2)=>.ok (.next ρ2)
   |m=>m)
  |_=>.bad
section
variable {X:Cx}{WX:Str->Hp->Prop}{c:Bool}{P0:Et}{P:Addr->Prop}{H:Hp}{σ:St}{ρ:Ac}{a b e tg iter:Expr}{f g:Ac->M D}{ft:Ac->M Bool}{pos:Pos}{gt:D->Ac->M Ac}{da:List D->Ac->M Ac}{gb:Ac->M Out}{fi:Ac->M (List D)}
theorem AS (i:Nat){x:Str}(hN:X.N.Nodup)(hi:X.N[i]?=some x)(hx:Loc X.env.scope x)(hf:X.fn x=true\/X.env.scope.names.lookup x=some .local:=by first | exact .inl rfl | exact .inr rfl | assumption):DG X (.Name x pos) (λ d ρ=>.ok (ρ.set i (some (.val d)))):=
 ⟨_,Lp hN hi hx hf,λ P0 P σ H Q ρ v d E hv h=>h _ (E.TF hv)⟩
theorem Q3:rM X [] (λ ds ρ=>match ds with | []=>.ok ρ | _=>.bad):=⟨_,UC,λ P0 P σ H Q ρ v d E hv h=>by
 cases hv with
 |nil=>exact⟨rfl,h σ E⟩
 |cons _ _=>exact h.elim⟩
theorem EW {es:List Expr}(h1:DG X e gt)(h2:rM X es da)(hs:(assignEach (e::es) X.env).map (·.2)=assign e X.env::(assignEach es X.env).map (·.2):=by rfl):
 rM X (e::es) (λ ds ρ=>match ds with|d::r=>(gt d ρ).bind (da r)|[]=>.bad):=by
 obtain⟨t,a1,a2⟩:=h1;obtain⟨u,b1,b2⟩:=h2;refine⟨_,Rg a1 b1 hs,λ P0 P σ H Q ρ v d E hv h=>?_⟩;cases hv with
 |nil=>exact h.elim
 | @cons x d xs ds hx cn =>
  refine⟨x,xs,rfl,a2 P0 P σ H _ ρ x d E hx ?_⟩;dsimp only at h;cases q:gt d ρ with
  |bad|ex y=>rw[q] at h;exact h
  |ok ρ1=>rw[q] at h;exact λ σ' E'=>b2 P0 P σ' H Q ρ1 xs ds E' cn h
theorem TH {es:List Expr}{k n:Nat}(hc:X.calm=true)(h:rM X es da)(hn:(assignEach es X.env).length=n:=by rfl)(aP:(assignEach es X.env).findIdx? (·.1)=none:=by rfl):
 DG X (.Tuple es k pos) (λ d ρ=>match d with | .tup ds=>if ds.length=n then da ds ρ else .bad|_=>.bad):=by
 obtain⟨t,a1,a2⟩:=h;refine⟨_,Xn hc a1 hn aP,λ P0 P σ H Q ρ v d E hv h=>?_⟩;cases hv with
 | @tup a xs ds hs hl =>
  dsimp only at h;by_cases hd:ds.length=n
  ·rw[if_pos hd] at h;exact⟨a,xs,rfl,Fb.of (Am hs).2,by rw[hl.length];exact hd,a2 P0 P σ H Q ρ xs ds E hl h⟩
  ·rw[if_neg hd] at h;exact h.elim
 |_=>exact h.elim
theorem AI (ha:DE X WX true e f):DI X WX tg e (λ ρ=>(f ρ).bind λ d=>match d with | .lst ds=>.ok ds | _=>.bad):=by
 obtain⟨ta,a1,a2⟩:=ha;refine⟨_,cG a1,λ P0 P σ H R ρ E h=>?_⟩;dsimp only at h;refine a2 P0 P σ H _ ρ E ?_;cases q:f ρ with
 |bad|ex x=>rw[q] at h;exact h
 |ok d =>
  rw[q] at h;cases d with
  |lst ds =>
   intro v H1 s1 hv;cases hv with
   | @lst a xs _ hs hl =>
    refine⟨a,rfl,⟨xs,hs.AN⟩,h _ H1 s1 ⟨λ i P' H' s hi=>?_,λ i P' H' s hi=>?_,λ i P' H' v dr d s ht hd y=>?_⟩⟩
    ·obtain⟨x,hx,_⟩:=hl.get (zi hi);exact⟨xs,x,(s.seq hs).AN,hx⟩
    ·exact⟨xs,(s.seq hs).AN,by rw[hl.length];exact hi⟩
    ·obtain⟨rfl,y⟩:=y;obtain⟨x,hx,bw⟩:=hl.get hd;have e:=y xs (s.seq hs).AN;rw[hx] at e;cases e;exact⟨Ad.refl _,bw.mono s⟩
  |_=>exact h.elim
noncomputable def BN (lo:Int):Nat->List D
 |0=>[]
 |n+1=>.int lo::BN (lo+1) n
theorem Bh (lo:Int):∀n:Nat,(BN lo n).length=n:=by
 intro n;induction n generalizing lo with
 |zero=>rfl
 |succ n ih=>rw[BN,zl,ih]
theorem BO {lo:Int}{n i:Nat}{d:D}(h:(BN lo n)[i]?=some d):d=.int (lo+i)/\i<n:=by
 have hi:i<n:=by
  have:=(zw.mp h).1;rw[Bh] at this;exact this
 refine⟨?_,hi⟩;induction n generalizing lo i with
 |zero=>omega
 |succ n ih =>
  cases i with
  |zero=>rw[BN] at h;simp at h;rw[<-h];simp
  |succ i =>
   rw[BN,zI] at h;rw[ih h (by omega)];congr 1;omega
theorem TJ {K:za}{P:Addr->Prop}{H:Hp}(lo:Int)(n:Nat):Yb K (rG lo n) P H (BN lo n):=
 ⟨λ i P' H' _ hi=>by rw[Bh] at hi;exact hi,λ i P' H' _ hi=>by rw[Bh] at hi;exact hi,λ i P' H' v dr d _ _ hd y=>by
  obtain⟨rfl,rfl⟩:=y;obtain⟨rfl,_⟩:=BO hd;exact⟨Ad.refl _,.int _⟩⟩
noncomputable def Q4:D->M (List D)
 | .int j=>@ite _ (-(2^62)<=j/\j<2^62) (zb3 _) (.ok (BN 0 j.toNat)) .bad
 |_=>.bad
theorem RG {j:Int}(h1 : -(2^62)<=j)(h2:j<2^62):Q4 (.int j)=.ok (BN 0 j.toNat):=if_pos ⟨h1,h2⟩
theorem E6 {n:Nat}(h:n<=1000):Q4 (.int (n:Int))=.ok (BN 0 n):=by
 rw[RG (by omega) (by omega),yF]
theorem BE {p:Pos}(hg:Gl X "range")(hm:X.mg "range" = none)(ha:DE X WX c a f)(hs:starEach [a] X.env=[(false,eval a X.env)]:=by rfl):
 DI X WX tg (.Call (.Name "range" p) [a] [] pos) (λ ρ=>(f ρ).bind Q4):=by
 obtain⟨ta,a1,a2⟩:=ha;refine⟨_,VO hg hm (Ba a1 C5 hs) hs,λ P0 P σ H R ρ E h=>?_⟩;dsimp only at h;refine a2 P0 P σ H _ ρ E ?_;cases q:f ρ with
 |bad|ex x=>rw[q] at h;exact h
 |ok d =>
  rw[q] at h;cases d with
  |int j =>
   simp only[M.A7] at h;by_cases hj : -(2^62)<=j/\j<2^62
   ·rw[RG hj.1 hj.2] at h;exact λ v H1 s1 hv=>⟨j,by rw[hv.int_inv],hj.1,hj.2,h _ H1 s1 (TJ 0 _)⟩
   ·have e:Q4 (.int j)=.bad:=if_neg hj;rw[e] at h;exact h.elim
  |_=>exact h.elim
noncomputable def KG (k:Nat):List D->List D
 |[]=>[]
 |d::r=>.tup [.int k,d]::KG (k+1) r
theorem GU (k:Nat)(ds:List D):(KG k ds).length=ds.length:=by
 induction ds generalizing k with
 |nil=>rfl
 |cons d r ih=>rw[KG,zl,zl,ih]
theorem Kc {k i:Nat}{ds:List D}{e:D}(h:(KG k ds)[i]?=some e):∃d,ds[i]?=some d/\e=.tup [.int ((k+i:Nat):Int),d]:=by
 induction ds generalizing k i with
 |nil=>rw[KG] at h;simp at h
 |cons d r ih =>
  cases i with
  |zero=>rw[KG] at h;simp at h;exact⟨d,rfl,by rw[<-h];rfl⟩
  |succ i =>
   rw[KG,zI] at h;obtain⟨d',h1,h2⟩:=ih h;refine⟨d',by simpa using h1,?_⟩;rw[h2];congr 3;omega
theorem US {aM:List Expr}{x1}{aF p:Pos}(hg:Gl X "enumerate")(hm:X.mg "enumerate" = none)(ha:DE X WX true a f)(hb:bootBuiltins "enumerate" = some (.type "enumerate"):=by decide +kernel)(hs:starEach [a] X.env=[(false,eval a X.env)]:=by rfl):
 DI X WX (.Tuple aM x1 aF) (.Call (.Name "enumerate" p) [a] [] pos) (λ ρ=>(f ρ).bind λ d=>match d with | .lst ds=>.ok (KG 0 ds)|_=>.bad):=by
 obtain⟨ta,a1,a2⟩:=ha;refine⟨_,dE hg hm (Ba a1 C5 hs) hb hs,λ P0 P σ H R ρ E h=>?_⟩;dsimp only at h;refine a2 P0 P σ H _ ρ E ?_;cases q:f ρ with
 |bad|ex x=>rw[q] at h;exact h
 |ok d =>
  rw[q] at h;cases d with
  |lst ds =>
   intro v H1 s1 hv;cases hv with
   | @lst a xs _ hs hl =>
    refine⟨a,rfl,⟨xs,hs.AN⟩,h _ H1 s1 ⟨λ i P' H' s hi=>?_,λ i P' H' s hi=>?_,λ i P' H' v dr d s ht hd y=>?_⟩⟩
    ·rw[GU] at hi;obtain⟨x,hx,_⟩:=hl.get (zi hi);exact⟨xs,x,(s.seq hs).AN,hx⟩
    ·rw[GU] at hi;exact⟨xs,(s.seq hs).AN,by rw[hl.length];exact hi⟩
    ·obtain⟨p,x,hn,rfl,y,rfl⟩:=y;obtain⟨d',aH,rfl⟩:=Kc hd;obtain⟨x',hx,bw⟩:=hl.get aH;have e:=y xs (s.seq hs).AN;rw[hx] at e;cases e;refine⟨AJ hn _,.tup (IM hn ht) (.cons ?_ (.cons ((bw.mono s).mono (AJ hn _).del) .nil))⟩;rw[Nat.zero_add];exact .int _
  |_=>exact h.elim
theorem Gg {α:Type}{l:List α}{i:Nat}(h:i<l.length):l.drop i=l[i]::l.drop (i+1):=zaw h
theorem Bu {body:List Stmt}(hp:PassesOwn (model X.prog X.w) X.A X.env X.xe)(hc:X.calm=true)(hi:DI X WX tg iter fi)(hg:DG X tg gt)(hb:T8 X WX body gb)(hs:∀x,foldedSetIterable iter X.env x=pure x:=by intro _;rfl):
 DS X WX (.For tg iter body [] pos) (λ ρ=>(fi ρ).bind λ ds=>forM gt gb ds ρ):=by
 obtain⟨wi,i1,i2⟩:=hi;obtain⟨t,a1,a2⟩:=hg;obtain⟨tb,b1,b2⟩:=hb;refine⟨_,jW hp hc i1 a1 b1 hs,λ P0 P σ H Z ρ E h=>?_⟩;dsimp only at h;refine i2 P0 P σ H _ ρ E ?_;cases q:fi ρ with
 |bad=>rw[q] at h;exact h
 |ex x=>rw[q] at h;exact λ H' s=>h H' P (E.tr s)
 |ok ds =>
  rw[q] at h;simp only[M.A7] at h;intro J H1 s1 ok;refine⟨λ i m σ' H'=>m=ds.length-i/\i<=ds.length/\∃P' ρ',Tr P0 P H1 P' H'/\Ak X.K P0 P' H' σ' ρ'/\gS X.K WX P0 P' H' Z (forM gt gb (ds.drop i) ρ'),
   ⟨ds.length,by simp,zJ _,P,ρ,Tr.refl,E.same s1,by rw[List.drop_zero];exact h.tr (E.tr s1)⟩,?_⟩
  rintro i m σ' H' ⟨rfl,hi,P',ρ',t',E',g'⟩;by_cases ah:i<ds.length
  ·refine .inr ⟨ok.go i P' H' t'.1 ah,λ σ2 H2=>i+1<=ds.length/\∃P2 ρ2,Tr P0 P H1 P2 H2/\Ak X.K P0 P2 H2 σ2 ρ2/\gS X.K WX P0 P2 H2 Z (forM gt gb (ds.drop (i+1)) ρ2),λ σ2 H2 hq=>⟨ds.length-(i+1),by omega,rfl,hq.1,hq.2⟩,λ v H2 y=>?_⟩;obtain⟨s2,hv⟩:=ok.cF i P' H' v H2 ds[i] t'.1 E'.BS (zi ah) y;rw[Gg ah,forM] at g';have E2:=E'.same s2;refine a2 P0 P' σ' H2 _ ρ' v ds[i] E2 hv ?_;cases q1:gt ds[i] ρ' with
   |bad=>rw[q1] at g';exact g'
   |ex x=>rw[q1] at g';exact g'.elim
   |ok ρ1 =>
    rw[q1] at g';dsimp only at g';intro σ3 E3;refine b2 P0 P' σ3 H2 _ ρ1 E3 ?_;have tt:Tr P0 P H1 P' H2:=t'.trans (E'.tr s2);cases q2:gb ρ1 with
    |bad=>rw[q2] at g';exact g'
    |ex x=>rw[q2] at g';exact gS.tr (m:=.ex x) g' (E'.tr s2)
    |ok o =>
     rw[q2] at g';cases o with
     |ret d=>exact gS.tr (m:=.ok (.ret d)) g' (E'.tr s2)
     |CI d=>exact gS.tr (m:=.ok (.CI d)) g' (E'.tr s2)
     |EV d ρ2=>exact gS.tr (m:=.ok (.EV d ρ2)) g' (E'.tr s2)
     |next ρ2|cont ρ2=>exact λ σ4 H4 P4 t4 E4=>⟨ah,P4,ρ2,tt.trans t4,E4,gS.tr g' ((E'.tr s2).trans t4)⟩
     |brk ρ2=>exact λ σ4 H4 P4 t4 E4=>g' σ4 H4 P4 ((E'.tr s2).trans t4) E4
  ·have e:i=ds.length:=by omega
   subst e;refine .inl ⟨ok.stop _ P' H' t'.1 (zx _),?_⟩;rw[zb0,forM] at g';exact g' σ' H' P' Tr.refl E'
end
noncomputable def TK (K:za)(n:Nat)(F:List D->M D):Sp:=λ vs H Q _=>vs.length=n/\∃P ds,(∀a,P a->Dq H a)/\Ai K (del H P) vs ds/\gV K (λ _ _=>False) P H Q (F ds)
noncomputable def AF (N:List Str)(ds:List D):Ac:=ds.map (λ d=>some (.val d))++zu (N.length-ds.length) none
noncomputable def tW:Cl->M D
 | .val d=>.ok d
 | .own ds=>.ok (.lst ds)
 | .ow (.rows C2)=>.ok (.lst (C2.map D.lst))
 | .ow (.Lf _ _)=>.bad
 | .ow (.tree _ t)=>.ok (er t)
noncomputable def fin (m:M Out):M D:=match m with
 | .ok (.ret d)=>.ok d
 | .ok (.CI c)=>tW c
 | .ok (.next _)=>.ok .AA
 |_=>.bad
theorem OM {K:za}{P:Addr->Prop}{H:Hp}{N:List Str}{vs:List V}{ds:List D}(ht:∀a,P a->Dq H a)(h:Ai K (del H P) vs ds):Ak K ⟨P,λ _=>0⟩ P H (start N vs) (AF N ds):=by
 have hl:=h.length;have key:∀(i:Nat) (c:Cl),(AF N ds)[i]?=some (some c)->∃d,ds[i]?=some d/\c=.val d:=λ i c e=>by
  unfold AF at e;by_cases hi:i<ds.length
  ·rw[yN (by simpa using hi),z7] at e;cases q:ds[i]? with
   |none=>rw[q] at e;cases e
   |some d=>rw[q] at e;cases e;exact⟨d,rfl,rfl⟩
  ·rw[za4 (by simpa using hi),za1] at e;split at e<;>cases e
 refine⟨λ _ h=>h,ht,λ i d e=>?_,λ i es e io=>?_,λ i j c c' v v' fp ai e _ _ _ ho _ _=>?_,?_,λ i c n e hp=>?_⟩
 rotate_left 4
 ·obtain⟨d',q,z⟩:=key i _ e;cases z;cases hp
 ·obtain⟨d',q,z⟩:=key i _ e;cases z;obtain⟨v,hv,hd⟩:=h.get q;refine⟨v,?_,hd⟩;unfold start;rw[yN (by rw[zc];exact (zw.mp hv).1),z7,hv];rfl
 ·obtain⟨d',q,z⟩:=key i _ e;cases z;cases io
 ·obtain⟨d',q,z⟩:=key i _ e;cases z;exact ho.elim
 ·unfold start AF;simp[hl]
theorem DC {P:Addr->Prop}{H H':Hp}{P':Addr->Prop}(t:Tr P P H P' H'):Ad H H':=λ b o e=>by
 by_cases hb:P b
 ·rw[t.2 b hb];exact e
 ·exact (Am (t.1 b o (by rw[Aw hb];exact e))).2
theorem Bx.lD {K:za}{H:Hp}{P P0:Addr->Prop}(hs:∀a,P0 a->P a):∀ {ps:List Addr}{C2:List (List D)},(∀a∈ps,¬ P0 a)->Bx K H P ps C2->Ai K (del H P0) (ps.map V.ref) (C2.map D.lst)
 |_,_,_,.nil=>.nil
 |_,_,k,.cons h r t=>.cons (.lst (.of (show del H P0 _=_ by rw[Aw (k _ zd)];exact h)) (r.mono (CK hs))) (Bx.lD hs (λ a ha=>k a (ze _ ha)) t)
theorem dO {K:za}{WX:Str->Hp->Prop}{P P2:Addr->Prop}{H H':Hp}{Q:VK}{c:Cl}{v:V}{fp:List Addr}(h:gV K WX P H Q (tW c))(t':Tr P P H P2 H')(hs:∀a,P a->P2 a)(ht:∀a,P2 a->Dq H' a)(ho:Dl K H' P2 c v fp)(hp:∀a∈fp,P2 a/\¬ P a):Q v H':=by
 cases c with
 |val d=>exact ho.elim
 |own ds =>
  obtain⟨p,xs,rfl,rfl,h1,h2⟩:=ho;exact h _ H' (DC t') (.lst (.of (show del H' P p=_ by rw[Aw (hp p zd).2];exact h1)) (h2.mono (CK hs)))
 |ow o =>
  cases o with
  |rows C2 =>
   obtain⟨p,ps,rfl,rfl,h1,h2⟩:=ho;exact h _ H' (DC t') (.lst (.of (show del H' P p=_ by rw[Aw (hp p zd).2];exact h1)) (h2.lD hs λ a ha=>(hp a (ze _ ha)).2))
  |Lf p ds=>exact h.elim
  |tree p t=>exact h _ H' (DC t') (C4.has hs (λ a ha=>(hp a ha).2) ho)
section
variable {P:Program}{w:World}{K:za}{mg:Str->Option Value}{base:Heap}
theorem qA {x qual:Str}{st:Stmt}{f:Addr}{fd:FuncData}{N ps:List Str}{k:Nat}(F:Xc K x qual st f fd)(S:Ag N ps (A4 st))(g:Ac->M Out)
 (hb:∀(B5:Value) (A:Around) (outer:List Env) (s:Shared) (H:Hp) (E:XK),BJ k (A.deeper (envOfC qual (A4 st) s.heap.objs.size f B5))->T8 (Rh cW P w K mg base N qual (A4 st) f B5 A outer s H E).oJ (λ _ _=>False) (AM st) g):
 Ds P w K mg base cW (k+1) f fd ps (TK K ps.length λ ds=>fin (g (AF N ds))):=by
 refine F.ok S (λ vs H Q E h=>h.1) λ B5 A outer s H vs Q E hr h=>?_;obtain⟨hl,P',ds,ht,hv,hq⟩:=h;obtain⟨t,h1,h2⟩:=hb B5 A outer s H E hr;refine⟨t,h1,h2 ⟨P',λ _=>0⟩ P' _ H _ _ (OM ht hv) ?_⟩;dsimp only at hq;revert hq;cases g (AF N ds) with
 |bad|ex x=>exact λ h=>h.elim
 |ok o =>
  cases o with
  |ret d=>exact λ h v H' P2 t hv=>h v H' (DC t) hv
  |next ρ=>exact λ h σ' H' P2 t E=>h .AA H' (DC t) .AA
  |brk ρ|cont ρ=>exact λ h=>h.elim
  |CI c=>exact λ h v fp H' P2 t hs ht ho hp nd=>dO h t hs ht ho hp
  |EV d ρ=>exact λ h=>h.elim
end
section
variable {X:Cx}{WX:Str->Hp->Prop}{c:Bool}{P0:Et}{P:Addr->Prop}{H:Hp}{σ:St}{ρ:Ac}{a b e tg iter:Expr}{f g:Ac->M D}{ft:Ac->M Bool}{pos:Pos}{gt:D->Ac->M Ac}{fi:Ac->M (List D)}{es:List Expr}{fs:Ac->M (List D)}
noncomputable def B4 (μ:List (Option Nat))(ρ:Ac):Ac:=μ.map λ o=>o.bind λ i=>match ρ[i]? with | some (some (.val d))=>some (.val d) | _=>none
theorem GV {μ:List (Option Nat)}{ρ:Ac}{j:Nat}{cl:Cl}(h:(B4 μ ρ)[j]?=some (some cl)):∃i d,μ[j]?=some (some i)/\ρ[i]?=some (some (.val d))/\cl=.val d:=by
 unfold B4 at h;rw[z7] at h;cases q:μ[j]? with
 |none=>rw[q] at h;cases h
 |some o =>
  rw[q] at h;cases o with
  |none=>cases h
  |some i =>
   simp only[yW,Option.bind_some,Option.some.injEq] at h;split at h
   ·rename_i d e;cases h;exact⟨i,d,rfl,e,rfl⟩
   ·cases h
theorem Ak.block {K:za}(E:Ak K P0 P H σ ρ)(μ:List (Option Nat)):Ak K P0 P H (EF μ σ) (B4 μ ρ):=by
 refine⟨E.sub,E.BS,λ j d h=>?_,λ j ds h io=>?_,λ j k c c' v v' fp ai h _ _ _ ho _ _=>?_,by unfold EF B4;simp,λ j c n h hp=>by obtain⟨i,d',h1,h2,h3⟩:=GV h;subst h3;cases hp⟩
 ·obtain⟨i,d',h1,h2,h3⟩:=GV h;cases h3;obtain⟨v,h4,h5⟩:=E.val i d h2;refine⟨v,?_,h5⟩;unfold EF;rw[z7,h1];simp[h4]
 ·obtain⟨i,d',h1,h2,h3⟩:=GV h;cases h3;cases io
 ·obtain⟨i,d',h1,h2,h3⟩:=GV h;cases h3;exact ho.elim
noncomputable def Bq (gt:D->Ac->M Ac)(ft:Ac->M Bool)(fe:Ac->M D):List D->Ac->M (List D)
 |[],_=>.ok []
 |d::r,ρ=>match gt d ρ with
  | .ok ρ1=>(match ft ρ1 with
   | .ok k=>if k=true then (match fe ρ1 with
    | .ok y=>(match Bq gt ft fe r ρ with | .ok ys=>.ok (y::ys)|_=>.bad)
    |_=>.bad) else Bq gt ft fe r ρ
   |_=>.bad)
  |_=>.bad
def iK (X:Cx)(scope:Scope)(NB:List Str)(μ:List (Option Nat))(tg:Expr)(gt:D->Ac->M Ac):Prop:=
 ∃g:TG,(∀s H C ex,PG (blockOf X s H scope C NB ex) tg g)/\K6 μ g/\∀P0 P σ H Q ρ v d,Ak X.K P0 P H σ ρ->BK X.K (del H P) v d->gG X.K P0 P H Q (gt d ρ)->g v σ H Q
theorem AY {scope:Scope}{NB:List Str}{μ:List (Option Nat)}(i:Nat){x:Str}(hN:NB.Nodup)(hi:NB[i]?=some x)(hx:(relabel scope X.env).names.lookup x=some .local)(hm:μ[i]?=some none):iK X scope NB μ (.Name x pos) (λ d ρ=>.ok (ρ.set i (some (.val d)))):=
 ⟨M8 i,λ s H C ex=>Lp (X:=blockOf X s H scope C NB ex) hN hi (.inl hx) (.inr hx),UN hm,λ P0 P σ H Q ρ v d E hv h=>h _ (E.TF hv)⟩
theorem Yc {scope:Scope}{NB:List Str}{μ:List (Option Nat)}(i:Nat){x:Str}(hN:NB.Nodup)(hi:NB[i]?=some x)(hx:(relabel scope X.env).names.lookup x=some .cell)(ho:Fg scope.names=some x)(hm:μ[i]?=some none):iK X scope NB μ (.Name x pos) (λ d ρ=>.ok (ρ.set i (some (.val d)))):=
 ⟨M8 i,λ s H C ex=>Lp (X:=blockOf X s H scope C NB ex) hN hi (.inr hx) (.inl (by show (Fg scope.names==some x)=true;rw[ho];exact beq_self_eq_true _)),UN hm,λ P0 P σ H Q ρ v d E hv h=>h _ (E.TF hv)⟩
def lE (X:Cx)(cs:List Expr)(f:Ac->M Bool):Prop:=
 ∃t,nN X cs t/\∀P0 P σ H Q ρ,Ak X.K P0 P H σ ρ->gT (λ _ _=>False) H Q (f ρ)->t σ H Q
theorem BP:lE X [] (λ _=>.ok true):=⟨_,dC,λ P0 P σ H Q ρ E h=>h H (Ad.refl H)⟩
theorem GW (h:DT X (λ _ _=>False) a ft):lE X [a] ft:=let ⟨t,h1,h2⟩:=h;⟨_,dD h1,h2⟩
noncomputable def IR (m:M (List D)):M D:=match m with | .ok ys=>.ok (.lst ys) | _=>.bad
theorem lF {μ:List (Option Nat)}{wi:TI}{gg:TG}{tc:Shared->Hp->Addr->List Addr->TT}{te:Shared->Hp->Addr->List Addr->TE}{fe:Ac->M D}
 (i2:∀P0 P σ H R ρ,Ak X.K P0 P H σ ρ->(match fi ρ with | .ok ds=>∀J H',Ad H H'->Yb X.K J P H' ds->R J H' | .ex x=>∀H',Ad H H'->WX x H' | .bad=>False)->wi σ H R)
 (g2:∀P0 P σ H Q ρ v d,Ak X.K P0 P H σ ρ->BK X.K (del H P) v d->gG X.K P0 P H Q (gt d ρ)->gg v σ H Q)
 (t2:∀s H' C ex P0 P σ H Q ρ,Ak X.K P0 P H σ ρ->gT (λ _ _=>False) H Q (ft ρ)->tc s H' C ex σ H Q)
 (e2:∀s H' C ex P0 P σ H Q ρ,Ak X.K P0 P H σ ρ->gV X.K (λ _ _=>False) (Lv c P0 P) H Q (fe ρ)->te s H' C ex σ H Q) {Q:VK}
 (E:Ak X.K P0 P H σ ρ) (h:gV X.K WX (Lv c P0 P) H Q ((fi ρ).bind λ ds=>if ds.length<=1000 then IR (Bq gt ft fe ds (B4 μ ρ)) else .bad)):Rz wi μ gg tc te σ H Q:=by
 refine i2 P0 P σ H _ ρ E ?_;cases q:fi ρ with
 |bad|ex x=>rw[q] at h;exact h
 |ok ds =>
  rw[q] at h;simp only[M.A7] at h;by_cases hd:¬ ds.length<=1000
  ·rw[if_neg hd] at h;exact h.elim
  have hd:ds.length<=1000:=by omega
  rw[if_pos hd] at h;intro J H1 s1 ok s C ex;cases qc:Bq gt ft fe ds (B4 μ ρ) with
  |bad|ex x=>rw[qc] at h;exact h.elim
  |ok total =>
   rw[qc] at h;unfold IR at h;dsimp only at h;have E1:=E.same s1;refine⟨λ i m ys H2=>m=ds.length-i/\i<=ds.length/\ys.length<=i/\Ad H1 H2/\∃es rest,Ai X.K (del H2 (Lv c P0 P)) ys es/\Bq gt ft fe (ds.drop i) (B4 μ ρ)=.ok rest/\es++rest=total,
    ⟨ds.length,by simp,zJ _,zx _,Ad.refl _,[],total,.nil,by rw[List.drop_zero];exact qc,rfl⟩,?_⟩
   rintro i m ys H2 ⟨rfl,hi,hy,s2,es,rest,bK,ag,aD⟩;by_cases ah:i<ds.length
   ·refine .inr ⟨ok.go i P H2 s2.del ah,Nat.lt_of_le_of_lt hy (AE (by omega)),λ aU H'=>i+1<=ds.length/\aU.length<=i+1/\Ad H1 H'/\∃es rest,Ai X.K (del H' (Lv c P0 P)) aU es/\Bq gt ft fe (ds.drop (i+1)) (B4 μ ρ)=.ok rest/\es++rest=total,λ aU H' hq=>⟨ds.length-(i+1),by omega,rfl,hq.1,hq.2.1,hq.2.2.1,hq.2.2.2⟩,λ v H3 y=>?_⟩;have E2:=E1.same s2;obtain⟨s3,hv⟩:=ok.cF i P H2 v H3 ds[i] s2.del E2.BS (zi ah) y;rw[Gg ah,Bq] at ag;have E3:=(E2.same s3).block μ;refine g2 P0 P _ H3 _ (B4 μ ρ) v ds[i] E3 hv ?_;cases q1:gt ds[i] (B4 μ ρ) with
    |bad|ex x=>rw[q1] at ag;cases ag
    |ok ρ1 =>
     rw[q1] at ag;dsimp only at ag;intro σ4 E4;refine t2 s H1 C ex P0 P σ4 H3 _ ρ1 E4 ?_;cases q2:ft ρ1 with
     |bad|ex x=>rw[q2] at ag;cases ag
     |ok k =>
      rw[q2] at ag;dsimp only at ag;intro H5 s5;cases k with
      |false =>
       simp only[z8,if_false] at ag ⊢;exact⟨ah,by omega,(s2.trans s3).trans s5,es,rest,(bK.mono s3.del).mono s5.del,ag,aD⟩
      |true =>
       simp only[if_true] at ag ⊢;refine e2 s H1 C ex P0 P σ4 H5 _ ρ1 (E4.same s5) ?_;cases q3:fe ρ1 with
       |bad|ex x=>rw[q3] at ag;cases ag
       |ok y' =>
        rw[q3] at ag;dsimp only at ag;cases q4:Bq gt ft fe (ds.drop (i+1)) (B4 μ ρ) with
        |bad|ex x=>rw[q4] at ag;cases ag
        |ok i7 =>
         rw[q4] at ag;cases ag;intro w H6 s6 hw;refine⟨ah,by rw[zC,yJ];omega,((s2.trans s3).trans s5).trans s6,es++[y'],i7,(((bK.mono s3.del).mono s5.del).mono s6.del).snoc hw,rfl,?_⟩;rw[yP];exact aD
   ·have e:i=ds.length:=by omega
    subst e;rw[zb0,Bq] at ag;cases ag;rw[zR] at aD;subst aD;refine .inl ⟨ok.stop _ P H2 s2.del (zx _),λ D0 hn=>h _ _ ((s1.trans s2).trans (AJ hn _)) (.lst (.of (IM hn λ a q=>(E1.same s2).pR c a q)) (bK.mono (AJ hn _).del))⟩
theorem UT {scope:Scope}{NB:List Str}{ifs:List Expr}{elt:Expr}{fe:Ac->M D}(i:Nat){x:Str}{px am:Pos}(μ:List (Option Nat))(hN:X.N.Nodup)(fg:X.N[i]?=some x)(hx:Loc X.env.scope x)(hc:X.calm=true)(hi:DI X WX tg iter fi)(a4:Ff scope X.env.scope=true)(aW:Ml X.N NB scope μ=true)(hg:iK X scope NB μ tg gt)
 (ht:∀s H C ex,lE (blockOf X s H scope C NB ex) ifs ft) (he:∀s H C ex,DE (blockOf X s H scope C NB ex) (λ _ _=>False) true elt fe)
 (aR:swapsWith (.ListComp elt [⟨tg,iter,ifs,0⟩] scope pos) (some (.Name x px)) am.line X.env=pure true:=by rfl) (hs:∀x,foldedSetIterable iter X.env x=pure x:=by intro _;rfl) (hf:X.fn x=true\/X.env.scope.names.lookup x=some .local:=by first|exact .inl rfl|exact .inr rfl|assumption):
 DS X WX (.Assign [.Name x px] (.ListComp elt [⟨tg,iter,ifs,0⟩] scope pos) am) (λ ρ=>((fi ρ).bind λ ds=>if ds.length<=1000 then IR (Bq gt ft fe ds (B4 μ ρ)) else .bad).bind λ d=>.ok (.next (ρ.set i (some (.val d))))):=by
 obtain⟨wi,i1,i2⟩:=hi;obtain⟨gg,g1,gk,g2⟩:=hg;refine⟨_,PY hN fg hx hc i1 a4 aW gk (λ s H C ex=>⟨g1 s H C ex,(zb (ht s H C ex)).1,(zb (he s H C ex)).1⟩) aR hs hf,λ P0 P σ H Z ρ E h=>?_⟩;refine lF (c:=true) i2 g2 (λ s H' C ex P0 P σ H Q ρ E h=>(zb (ht s H' C ex)).2 P0 P σ H Q ρ E h) (λ s H' C ex P0 P σ H Q ρ E h=>(zb (he s H' C ex)).2 P0 P σ H Q ρ E h) E ?_;dsimp only at h;revert h;cases ((fi ρ).bind λ ds=>if ds.length<=1000 then IR (Bq gt ft fe ds (B4 μ ρ)) else .bad) with
 |bad=>exact λ h=>h
 |ex y=>exact λ h H' s=>h H' P (E.tr s)
 |ok d=>exact λ h v H' s hv=>h _ H' P (E.tr s) ((E.same s).TF hv)
end
section
variable {X:Cx}{WX:Str->Hp->Prop}{c:Bool}{P0:Et}{P:Addr->Prop}{H:Hp}{σ:St}{ρ:Ac}{a b e k:Expr}{f g:Ac->M D}{te tk:TE}{pos p2:Pos}
noncomputable def vT (x y:D):M D:=match x,y with | .lst ds,.int i=>if i = -1 then .ok (.lst ds.reverse) else .bad | _,_=>.bad
noncomputable def CL:List D->Option (List Int)
 |[]=>some []
 | .int i::r=>(CL r).map (i::·)
 |_=>none
noncomputable def Yd:D->Option (List Int)
 | .tup ds=>CL ds
 |_=>none
noncomputable def Gh:List D->Option (List (D×List Int))
 |[]=>some []
 |d::r=>(Yd d).bind λ k=>(Gh r).map ((d,k)::·)
noncomputable def UU (l d:D):M D:=match l with
 | .lst ds=>(match Gh ds with|some ks=>.ok (match B3 ks with|none=>d|some b=>b.1)|none=>.bad)
 |_=>.bad
theorem Kd {K:za}{H:Hp}:∀ {xs:List V}{ds:List D}{ns:List Int},Ai K H xs ds->CL ds=some ns->xs=ns.map V.int
 |_,_,_,.nil,e=>by simp only[CL] at e;cases e;rfl
 |_,_,_,.cons (d:=d) h t,e=>by
  cases d with
  |int i =>
   simp only[CL] at e;cases q:CL _ with
   |none=>rw[q] at e;cases e
   |some ns =>
    rw[q] at e;cases e;rw[h.int_inv,Kd t q];rfl
  |_=>simp[CL] at e
noncomputable abbrev Alike (K:za)(H:Hp):List (Addr×List Int)->List (D×List Int)->Prop:=Paired λ p q=>p.2=q.2/\BK K H (.ref p.1) q.1
theorem Ia {K:za}{H:Hp}:∀ {xs:List V}{ds:List D}{ks:List (D×List Int)},Ai K H xs ds->Gh ds=some ks->∃bs:List (Addr×List Int),xs=bs.map (λ b=>V.ref b.1)/\(∀b∈bs,Fb K H b.1 (b.2.map V.int))/\Alike K H bs ks
 |_,_,_,.nil,e=>by simp only[Gh] at e;cases e;exact⟨[],rfl,by simp,.nil⟩
 |_,_,_,.cons (d:=d) h t,e=>by
  simp only[Gh] at e;cases q:Yd d with
  |none=>rw[q] at e;cases e
  |some k =>
   rw[q] at e;simp only[Option.bind_some] at e;cases q2:Gh _ with
   |none=>rw[q2] at e;cases e
   |some ks =>
    rw[q2] at e;cases e;obtain⟨bs,h1,h2,h3⟩:=Ia t q2;cases d with
    |tup es =>
     have h':=h;cases h with
     | @tup a xs _ hs hl =>
      simp only[Yd] at q;have e1:=Kd hl q;subst e1;refine⟨(a,k)::bs,by rw[h1];rfl,λ b hb=>?_,.cons ⟨rfl,h'⟩ h3⟩;rcases zp.mp hb with z|z
      ·subst z;exact Fb.of hs
      ·exact h2 b z
    |_=>simp[Yd] at q
theorem Mx {K:za}{H:Hp}{bs:List (Addr×List Int)}{ks:List (D×List Int)}(h:Alike K H bs ks):(B3 bs=none/\B3 ks=none)\/∃b k,B3 bs=some b/\B3 ks=some k/\b.2=k.2/\BK K H (.ref b.1) k.1:=by
 unfold B3
 suffices z:∀(o:Option (Addr×List Int)) (o':Option (D×List Int)),((o=none/\o'=none)\/∃b k,o=some b/\o'=some k/\b.2=k.2/\BK K H (.ref b.1) k.1)->
  ((bs.foldl BL o=none/\ks.foldl BL o'=none) \/
   ∃b k,bs.foldl BL o=some b/\ks.foldl BL o'=some k/\b.2=k.2/\BK K H (.ref b.1) k.1) from z none none (.inl ⟨rfl,rfl⟩)
 induction h with
 |nil=>intro o o' h;exact h
 | @cons b k bs ks hh t ih =>
  intro o o' h;rw[zM,zM];refine ih _ _ ?_;rcases h with ⟨rfl,rfl⟩|⟨b',k',rfl,rfl,e1,e2⟩
  ·exact .inr ⟨b,k,rfl,rfl,hh⟩
  ·unfold BL;dsimp only;rw[hh.1,e1];by_cases hl:HT.lexLt k.2 k'.2=true
   ·rw[if_pos hl,if_pos hl];exact .inr ⟨b,k,rfl,rfl,hh⟩
   ·rw[if_neg hl,if_neg hl];exact .inr ⟨b',k',rfl,rfl,e1,e2⟩
theorem UW {p kp:Pos}{e2:Expr}(hc:X.calm=true)(hu:X.A.units+1<cLine)(hg:Gl X "min")(hm:X.mg "min" = none)(ha:DE X WX c e f)(hb:DE X WX c e2 g)
 (aP:starEach [e] X.env=[(false,eval e X.env)]:=by rfl) (aL:(backToKw pos (keywordEach [⟨some "default",e2,kp⟩] X.env)).all (·.1.isSome)=true:=by rfl) (nj:(backToKw pos (keywordEach [⟨some "default",e2,kp⟩] X.env)).filterMap (·.1)=([("default" : Str)]:List Str):=by rfl)
 (nk:(backToKw pos (keywordEach [⟨some "default",e2,kp⟩] X.env)).any (·.1.isNone)=false:=by rfl) (bD:backTo pos (starEach [e] X.env)=(false,eval e X.env)::backTo pos (starEach [] X.env):=by rfl) (au:(backTo pos (starEach [e] X.env)).any (·.1)=false:=by rfl):
 DE X WX c (.Call (.Name "min" p) [e] [⟨some "default",e2,kp⟩] pos) (λ ρ=>(f ρ).bind λ x=>(g ρ).bind λ y=>UU x y):=by
 obtain⟨ta,a1,a2⟩:=ha;obtain⟨tb,b1,b2⟩:=hb;refine⟨_,dG hc hu hg hm a1 b1 aP aL nj nk bD au,λ P0 P σ H Q ρ E h=>RE (r:=λ x d H2 Q=>∃(a:Addr) (bs:List (Addr×List Int)),x=.ref a/\CJ X.K H2 a (bs.map λ b=>V.ref b.1)/\(∀b∈bs,Fb X.K H2 b.1 (b.2.map V.int))/\Q (match B3 bs with|none=>d|some b=>.ref b.1) H2) a2 b2 ?_ E h⟩;intro P H x y v w Q ht hx hy h;unfold UU at h;split at h
 ·rename_i ds;split at h
  ·rename_i ks e1;cases hx with
   | @lst a xs _ hs hl =>
    obtain⟨bs,rfl,h2,h3⟩:=Ia hl e1;refine⟨a,bs,rfl,hs.AN,λ b hb=>(h2 b hb).AN,?_⟩;rcases Mx h3 with ⟨q1,q2⟩|⟨b,k,q1,q2,_,q3⟩
    ·rw[q1];rw[q2] at h;exact h _ H (Ad.refl H) hy
    ·rw[q1];rw[q2] at h;exact h _ H (Ad.refl H) q3
  ·exact h.elim
 ·exact h.elim
end
theorem AU {A:Around}{k:Nat}(hr:BJ k A)(n:Nat)(hn:n<=64):A.units+n<cLine:=by have:=hr.units;omega
structure AH (K:za)(mg:Str->Option Value)(x:Str)(st:Stmt)(ps:List Str):Prop where
 ex:∃f fd,Xc K x x st f fd/\mg x=some (.ref f)/\Binds K fd ps []
theorem Ye (ds:List D)(n:Nat):iJ none (some (n:Int)) (.lst ds)=.ok (.lst (ds.take n)):=by
 unfold iJ;dsimp only;rw[HT.Rk,HT.Lq,List.drop_zero,Nat.sub_zero];congr 2;rw[Nat.min_def];split
 ·rfl
 ·rw[za3 (zx _),za3 (by omega)]
noncomputable def Wa (P:Program)(w:World)(base:Heap):UE:=λ _ _ _ _ _ _=>False
noncomputable abbrev iL (P:Program)(w:World)(K:za)(mg:Str->Option Value)(base:Heap)(N:List Str)(qual:Str)(scope:Scope)(f:Addr)(cd:Value)(A:Around)(outer:List Env)(s:Shared)(H:Hp)(E:XK):Cx:=
 Rh (Wa P w base) P w K mg base N qual scope f cd A outer s H E
structure Gi (X:Cx)(E:XK):Prop where
 call:HU (Wa X.prog X.w X.base) X E
 own:PassesOwn (model X.prog X.w) X.A X.env X.xe
theorem A9 {P:Program}{w:World}{K:za}{mg:Str->Option Value}{base:Heap}{N:List Str}{qual:Str}{scope:Scope}{f:Addr}{cd:Value}{A:Around}{outer:List Env}{s:Shared}{H:Hp}{E:XK}:
 Gi (iL P w K mg base N qual scope f cd A outer s H E) E:=⟨λ _ _ _ _ _ _ _ h=>h.elim,PassesOwn.leaving⟩
theorem AW {X:Cx}(h:X.xe=λ _ _=>False):Gi X E0:=⟨λ _ _ _ _ _ _ _ h=>h.elim,by rw[h];exact PassesOwn.never⟩
theorem Gi.toXCall {X:Cx}{E:XK}(h:Gi X E):Gi X E:=h
def E7 (K:za)(E:XK):Str->Hp->Prop:=λ x H=>∃c,zF K mainGlobals x=some (some (.ref c))/\E (.ref c) none H
section
variable {X:Cx}{WX:Str->Hp->Prop}{c:Bool}{a b e:Expr}{f g:Ac->M D}{pos p:Pos}
noncomputable def iM (K:za):R2:=λ x y H Q=>∃l b xs zs,x=.ref l/\y=.ref b/\CJ K H l xs/\CJ K H b zs/\xs.length+zs.length<=sizeLine/\∀p,H p=none->Q (.ref p) (upd H p (.lst (xs++zs)))
theorem dP:G9 X (binaryOp .Add) (iM X.K):=by
 intro pins s σ H x y v u Q I rx ry h;obtain⟨l,b,xs,zs,rfl,rfl,h1,h2,hz,q⟩:=h;cases rx;cases ry;obtain⟨aa,r,⟨⟨c1,d1,t1,vq⟩,n,e1,q1,q2,q3⟩,bf⟩:=I.list h1;obtain⟨aQ,r2,⟨⟨c2,d2,t2,ik⟩,n2,e2,q4,q5,q6⟩,i8⟩:=I.list h2;dsimp only at q1 q2 q3 q4 q5 q6;subst q1 q2 q3 q4 q5 q6;have l1:=r.length;have l2:=r2.length;refine concat_meets ⟨_,e1,rfl⟩ ⟨_,e2,rfl⟩ noFill_list_add seq_list_add PySem.F.slot_list_add PySem.F.entry_list_add (PySem.F.args_list_add_2 _ _) (list_addW l b aa.toArray aQ.toArray n n2 none none vq ik (by rw[zj,zj];omega)) ⟨e1,e2,?_⟩;rw[show aa.toArray++aQ.toArray=(aa++aQ).toArray by simp];exact⟨.ref _,_,I.pG (t':=s.toks) (r.append r2) (by rw[zC];omega),rfl,q _ I.fresh⟩
noncomputable def uT (x y:D):M D:=match x,y with
 | .int i,.int j=>.ok (.int (i+j))
 | .lst ds,.lst es=>if ds.length+es.length<=1000 then .ok (.lst (ds++es)) else .bad
 |_,_=>.bad
theorem Ai.uU {K:za}{H:Hp}:∀ {xs ys:List V}{ds es:List D},Ai K H xs ds->Ai K H ys es->Ai K H (xs++ys) (ds++es)
 |_,_,_,_,.nil,h=>h
 |_,_,_,_,.cons a t,h=>.cons a (t.uU h)
noncomputable def rN (neg:Bool)(x y:D):M D:=match x,y with
 | .int i,.lst ds=>(match CL ds with|some ns=>.ok (.bl (if neg then !ns.contains i else ns.contains i))|none=>.bad)
 |_,_=>.bad
theorem Yg (i:Int)(ns:List Int):rJ (.int i) (ns.map V.int)=ns.contains i:=by
 unfold rJ;induction ns with
 |nil=>rfl
 |cons n r ih =>
  rw[zf,zau,ih,List.contains_cons];congr 1;show (n==i)=(i==n);rw[zac,beq_iff_eq,beq_iff_eq];exact eq_comm
theorem Wb (ns:List Int):(ns.map V.int).all IG=true:=by
 induction ns with
 |nil=>rfl
 |cons n r ih=>rw[zf,List.all_cons,ih];rfl
theorem Gj {neg:Bool}:UQ X.K WX (rK X.K neg) (rN neg):=by
 intro P H x y v w Q ht hx hy h;unfold rN at h;split at h
 ·rename_i i ds;split at h
  ·rename_i ns hn;cases hx;cases hy with
   |lst h1 h2 =>
    have e:=Kd h2 hn;subst e;refine⟨_,_,rfl,.inl h1.AN,rfl,Wb ns,?_⟩;rw[Yg];exact h _ H (Ad.refl H) (.bl _)
  ·exact h.elim
 ·exact h.elim
end
section
variable {X:Cx}{WX:Str->Hp->Prop}
theorem TM {st:Stmt}:DS X WX st (λ _=>.bad):=⟨λ _ _ _=>False,λ _ _ _ _ _ _ h=>h.elim,λ _ _ _ _ _ _ _ h=>h.elim⟩
end
def RH (i j:Int):Prop:=(i.natAbs<2^1000/\j.natAbs<2^1000)\/Xw i j
instance (i j:Int):Decidable (RH i j):=by unfold RH;infer_instance
theorem ON {i:Int}(h:i.natAbs<2^1000):zN i<=2^20:=by
 unfold zN;split
 ·exact zJ _
 ·rename_i z;have h0:i.natAbs≠0:=λ q=>z (by rw[Int.natAbs_eq_zero.mp q];rfl);have:=(Nat.log2_lt h0).mpr h;have h3:(1000:Nat)<=2^20:=by decide
  exact yG this h3
theorem RH.ok {i j:Int}(h:RH i j):IntMulOk i j:=by
 rcases h with ⟨h1,h2⟩|h
 ·exact IntMulOk.of_bits (ON h1) (ON h2)
 ·exact h.ok
theorem Fm (n:Nat):BN 0 n=(yD n).map λ i:Nat=>D.int (i:Int):=by
 apply List.ext_getElem?;intro i;rw[z7];by_cases h:i<n
 ·have hi:i<(BN 0 n).length:=by rw[Bh];exact h
  have e:=zi hi;obtain⟨h1,_⟩:=BO e;rw[e,h1,List.getElem?_range h,Int.zero_add];rfl
 ·rw[List.getElem?_eq_none (by rw[Bh];omega),List.getElem?_eq_none (by simp;omega)];rfl
theorem EX (ns:List Int):CL (ns.map D.int)=some ns:=by
 induction ns with
 |nil=>rfl
 |cons n r ih=>rw[zf,CL,ih];rfl
theorem Yh (ds:List D)(n:Nat):iJ (some (n:Int)) none (.lst ds)=.ok (.lst (ds.drop n)):=by
 unfold iJ;dsimp only;rw[HT.Rk,HT.Lq];congr 2;by_cases h:n<=ds.length
 ·rw[Nat.min_eq_left h,za3 (by rw[za5];exact zx _)]
 ·rw[Nat.min_eq_right (by omega),List.drop_of_length_le (zx _),List.drop_of_length_le (by omega),List.take_nil]
def Pl (n:Nat)(d:D):Prop:=IB d<=n/\AG d=true
theorem Q5 {n:Nat}:∀ {ds:List D},(∀d∈ds,IB d<=n)->Le ds<=n
 |[],_=>by rw[Le];exact zJ _
 |d::r,h=>by
  rw[Le];exact Nat.max_le.mpr ⟨h d zd,Q5 λ d hd=>h d (ze _ hd)⟩
theorem Q6:∀ {ds:List D},(∀d∈ds,AG d=true)->Mq ds=true
 |[],_=>by rw[Mq]
 |d::r,h=>by
  rw[Mq,h d zd,Q6 λ d hd=>h d (ze _ hd)];rfl
theorem Ib {n:Nat}(i:Int):Pl n (.int i):=⟨by rw[IB];exact zJ _;all_goals simp,by rw[AG];all_goals simp⟩
theorem Yi {n:Nat}:Pl n .AA:=⟨by rw[IB];exact zJ _;all_goals simp,by rw[AG];all_goals simp⟩
theorem lG {n:Nat}{ds:List D}(h:∀d∈ds,Pl n d):Pl (n+1) (.tup ds):=
 ⟨by rw[IB];exact Nat.succ_le_succ (Q5 λ d hd=>(h d hd).1),by rw[AG];exact Q6 λ d hd=>(h d hd).2⟩
theorem My {n:Nat}{ds:List D}(h:∀d∈ds,Pl n d):Pl (n+1) (.lst ds):=
 ⟨by rw[IB];exact Nat.succ_le_succ (Q5 λ d hd=>(h d hd).1),by rw[AG];exact Q6 λ d hd=>(h d hd).2⟩
theorem Lx {n:Nat}(ns:List Int):Pl (n+1) (.lst (ns.map D.int)):=My λ d hd=>by
 obtain⟨i,_,rfl⟩:=z6.mp hd;exact Ib i
theorem Pl.le {n m:Nat}{d:D}(h:Pl n d)(k:n<=m):Pl m d:=⟨yG h.1 k,h.2⟩
theorem Yj {n:Nat}:∀d∈([]:List D),Pl n d:=λ d h=>by cases h
theorem Ly {n:Nat}{d:D}{ds:List D}(h:Pl n d)(t:∀d∈ds,Pl n d):∀e∈d::ds,Pl n e:=λ e he=>by
 rcases zp.mp he with rfl|he
 ·exact h
 ·exact t e he
theorem TN {n:Nat}{x y:D}(h:Pl n x)(k:Pl n y):dJ n x y=.ok (.bl (Ay x y)):=by
 unfold dJ;rw[if_pos ⟨h.1,h.2,k.2⟩]
theorem TQ {n:Nat}{x y:D}(h:Pl n x)(k:Pl n y):Xe n x y=.ok (.bl (!Ay x y)):=by
 unfold Xe;rw[if_pos ⟨h.1,h.2,k.2⟩]
theorem Mz {n:Nat}{x:D}(h:Pl n x):Xe n x x=.ok (.bl false):=by rw[TQ h h,IK];rfl
theorem dQ (ds:List D)(a b:Nat):iJ (some (a:Int)) (some (b:Int)) (.lst ds)=.ok (.lst ((ds.drop a).take (b-a))):=by
 unfold iJ;dsimp only;rw[HT.Lq,HT.Lq];congr 2;by_cases h:a<=ds.length
 ·rw[Nat.min_eq_left h];by_cases h2:b<=ds.length
  ·rw[Nat.min_eq_left h2]
  ·rw[Nat.min_eq_right (by omega),za3 (by rw[za5];exact zx _),za3 (by rw[za5];omega)]
 ·rw[Nat.min_eq_right (show ds.length<=a by omega),List.drop_of_length_le (zx _),List.drop_of_length_le (show ds.length<=a by omega),List.take_nil,List.take_nil]
section
variable {X:Cx}{WX:Str->Hp->Prop}{c:Bool}{P0:Et}{P:Addr->Prop}{H:Hp}{σ:St}{ρ:Ac}{a b e:Expr}{f g:Ac->M D}{ft gt:Ac->M Bool}{pos:Pos}{st:Stmt}{rest:List Stmt}{g1 g2:Ac->M Out}
theorem RI {K:za}{H:Hp}{v:V}{d:D}(h:BK K H v d):∀n:Nat,Ai K H (zu n v) (zu n d)
 |0=>.nil
 |n+1=>by rw[yV,yV];exact .cons h (RI h n)
theorem MA {K:za}{H:Hp}{v:V}{d:D}(h:BK K H v d):∀ {vs:List V}{ds:List D}(n:Nat),Ai K H vs ds->Ai K H (vs.set n v) (ds.set n d)
 |_,_,_,.nil=>.nil
 |_,_,0,.cons _ t=>.cons h t
 |_,_,n+1,.cons a t=>.cons a (MA h n t)
noncomputable def vU (i:Nat)(ρ:Ac)(d k:D):M Out:=match k with
 | .int j=>if 0<=j/\j.toNat<=1000 then .ok (.next (ρ.set i (some (.own (zu j.toNat d))))) else .bad
 |_=>.bad
theorem OO {α:Type}(v:α):∀n:Nat,(zu n [v]).flatten=zu n v
 |0=>rfl
 |n+1=>by rw[yV,List.flatten_cons,OO v n];rfl
noncomputable def lH (i:Nat)(ρ:Ac)(ds:List D)(d k:D):M Out:=match k with
 | .int j=>(match Lc ds.length j with|some n=>.ok (.next (ρ.set i (some (.own (ds.set n d)))))|none=>.bad)
 |_=>.bad
noncomputable def dR (i:Nat)(ρ:Ac)(m:M D)(d:D):M Out:=match ρ[i]? with
 |some (some (.own ds))=>m.bind (lH i ρ ds d)
 |_=>.bad
theorem MB (i:Nat){x:Str}{p1 am:Pos}(hv:PE X (.Name x p1) (Lb i))(ha:DE X WX true a f)(hk:DE X WX true b g)
 (hs:swapsWithSole [.Subscript (.Name x p1) b am] a pos.line X.env=pure false:=by rfl) (hw:swappedStores [.Subscript (.Name x p1) b am] a X.env=pure none:=by rfl) (h1:(assignEach [.Subscript (.Name x p1) b am] X.env).map (·.2)=[assign (.Subscript (.Name x p1) b am) X.env]:=by rfl)
 (f8:∀v,assign (.Subscript (.Name x p1) b am) X.env v=(do
  let ov <-holding [v] (eval (.Name x p1) X.env);let iv <-holding [v,ov] (eval b X.env)
  standAt am
  holding [v,ov,iv] (setItem ov iv v)
  release [v,ov,iv] []):=by intro _;rfl):
 DS X WX (.Assign [.Subscript (.Name x p1) b am] a pos) (λ ρ=>(f ρ).bind (dR i ρ (g ρ))):=by
 obtain⟨ta,a1,a2⟩:=ha;obtain⟨tb,b1,b2⟩:=hk;refine⟨_,Xp a1 (Xo hv b1 set_list f8) hs hw h1,λ P0 P σ H Z ρ E h=>?_⟩;dsimp only at h;refine a2 P0 P σ H _ ρ E ?_;cases q:f ρ with
 |bad=>rw[q] at h;exact h
 |ex x=>rw[q] at h;exact λ H' s=>h H' P (E.tr s)
 |ok d =>
  rw[q] at h;simp only[M.A7] at h;intro v H1 s1 hv;have E1:=E.same s1;unfold dR at h;split at h
  ·rename_i ds e1;obtain⟨p,xs,h1,h2,h3,h4,h5⟩:=E1.own i ds e1;refine⟨_,h1,b2 P0 P σ H1 _ ρ E1 ?_⟩;cases q2:g ρ with
   |bad=>rw[q2] at h;exact h.elim
   |ex x=>rw[q2] at h;exact λ H' s2=>h H' P ((E.tr s1).trans (E1.tr s2))
   |ok k =>
    rw[q2] at h;simp only[M.A7] at h;unfold lH at h;intro w H2 s2 hw;split at h
    ·rename_i j;cases hw;split at h
     ·rename_i n en;have E2:=E1.same s2;refine⟨p,xs,j,n,rfl,rfl,s2 _ _ h2,by rw[h5.length];exact en,?_⟩;obtain⟨E3,t3⟩:=E2.mut e1 h1 h3 h4 (MA (hv.mono s2.del) n (h5.mono s2.del));exact h _ _ _ ((E.tr s1).trans ((E1.tr s2).trans t3)) E3
     ·exact h.elim
    ·exact h.elim
  ·exact h.elim
noncomputable def Az (c:Ac->M Bool)(b:Ac->M Out):Nat->Ac->M Out
 |0,_=>.bad
 |n+1,ρ=>match c ρ with
  | .ok true=>(match b ρ with
   | .ok (.next ρ')| .ok (.cont ρ')=>Az c b n ρ'
   | .ok (.brk ρ')=>.ok (.next ρ')
   |r=>r)
  | .ok false=>.ok (.next ρ)
  | .ex x=>.ex x
  | .bad=>.bad
noncomputable def KH (c:Ac->M Bool)(b:Ac->M Out)(ρ:Ac):M Out:=
 @dite _ (∃n,Az c b n ρ≠.bad) (zb3 _) (λ h=>Az c b (zg h) ρ) (λ _=>.bad)
theorem CC {c:Ac->M Bool}{b:Ac->M Out}:∀ {n:Nat}{ρ:Ac},Az c b n ρ≠.bad->∀m,Az c b (n+m) ρ=Az c b n ρ
 |0,ρ,h,m=>(h rfl).elim
 |n+1,ρ,h,m=>by
  rw[show n+1+m=(n+m)+1 by omega];rw[Az] at h;rw[Az,Az];cases q:c ρ with
  |bad|ex x=>rfl
  |ok k =>
   rw[q] at h;cases k with
   |false=>rfl
   |true =>
    dsimp only at h ⊢;cases q2:b ρ with
    |bad|ex x=>rfl
    |ok o =>
     rw[q2] at h;cases o with
     |next ρ'=>dsimp only at h ⊢;exact CC h m
     |cont ρ'=>dsimp only at h ⊢;exact CC h m
     |brk ρ'=>rfl
     |ret d|CI d|EV d ρ2=>rfl
theorem Yk {c:Ac->M Bool}{b:Ac->M Out}{n:Nat}{ρ:Ac}(h:Az c b n ρ≠.bad):KH c b ρ=Az c b n ρ:=by
 unfold KH;have hx:∃n,Az c b n ρ≠.bad:=⟨n,h⟩;rw[dif_pos hx];have hc:=zb hx;have e1:=CC h (zg hx);have e2:=CC hc n;rw[Nat.add_comm] at e2;rw[<-e1,e2]
theorem Wc {c:Ac->M Bool}{b:Ac->M Out}{ρ:Ac}(h:KH c b ρ≠.bad):∃n,Az c b n ρ≠.bad/\KH c b ρ=Az c b n ρ:=by
 by_cases hx:∃n,Az c b n ρ≠.bad
 ·obtain⟨n,hn⟩:=hx;exact⟨n,hn,Yk hn⟩
 ·exact (h (by unfold KH;rw[dif_neg hx])).elim
theorem iN {K:za}{Z:Ends}{m:M Out}(h:gS K WX P0 P H Z m):m≠.bad:=λ e=>by rw[e] at h;exact h
theorem RJ {body:List Stmt}(hp:PassesOwn (model X.prog X.w) X.A X.env X.xe)(hc:DT X WX a ft)(hb:T8 X WX body g1):DS X WX (.While a body [] pos) (KH ft g1):=by
 obtain⟨tc,c1,c2⟩:=hc;obtain⟨tb,b1,b2⟩:=hb;refine⟨_,Xq hp c1 b1,λ P0 P σ H Z ρ E h=>?_⟩;obtain⟨n,hn,en⟩:=Wc (iN h);rw[en] at h;refine⟨λ m σ' H'=>∃ρ' P',Ak X.K P0 P' H' σ' ρ'/\Tr P0 P H P' H'/\gS X.K WX P0 P' H' Z (Az ft g1 m ρ'),⟨n,ρ,P,E,Tr.refl,h⟩,?_⟩;rintro m σ1 H1 ⟨ρ1,P1,E1,t1,h1⟩;cases m with
 |zero=>exact h1.elim
 |succ m =>
  rw[Az] at h1;refine c2 P0 P1 σ1 H1 _ ρ1 E1 ?_;cases q:ft ρ1 with
  |bad=>rw[q] at h1;exact h1
  |ex x=>rw[q] at h1;exact λ H2 s2=>h1 H2 P1 (E1.tr s2)
  |ok k =>
   rw[q] at h1;intro H2 s2;have E2:=E1.same s2;cases k with
   |false =>
    rw[if_neg (by simp)];exact h1 σ1 H2 P1 (E1.tr s2) E2
   |true =>
    rw[if_pos rfl];dsimp only at h1;refine⟨λ σ' H'=>∃ρ' P',Ak X.K P0 P' H' σ' ρ'/\Tr P0 P H P' H'/\gS X.K WX P0 P' H' Z (Az ft g1 m ρ'),λ σ' H' z=>⟨m,Nat.lt_succ_self m,z⟩,?_⟩;refine b2 P0 P1 σ1 H2 _ ρ1 E2 ?_;cases q2:g1 ρ1 with
    |bad=>rw[q2] at h1;exact h1
    |ex x=>rw[q2] at h1;exact λ H3 P3 t3=>h1 H3 P3 ((E1.tr s2).trans t3)
    |ok o =>
     rw[q2] at h1;have t2:=t1.trans (E1.tr s2);cases o with
     |next ρ'=>exact λ σ3 H3 P3 t3 E3=>⟨ρ',P3,E3,t2.trans t3,h1.tr ((E1.tr s2).trans t3)⟩
     |cont ρ'=>exact λ σ3 H3 P3 t3 E3=>⟨ρ',P3,E3,t2.trans t3,h1.tr ((E1.tr s2).trans t3)⟩
     |brk ρ'=>exact λ σ3 H3 P3 t3 E3=>h1 σ3 H3 P3 ((E1.tr s2).trans t3) E3
     |ret d=>exact λ v H3 P3 t3 hv=>h1 v H3 P3 ((E1.tr s2).trans t3) hv
     |CI d=>exact λ v fp H3 P3 t3=>h1 v fp H3 P3 ((E1.tr s2).trans t3)
     |EV d ρ2=>exact λ v fp σ3 H3 P3 t3=>h1 v fp σ3 H3 P3 ((E1.tr s2).trans t3)
noncomputable def UX (ds:List D):M D:=match ds with
 |[.int i]=>.ok (.int i)
 |[.bl b]=>.ok (.int (if b then 1 else 0))
 |_=>.bad
theorem dS:KD X.K WX (λ xs H Q=>(∃i,xs=[.int i]/\Q (.int i) H)\/∃k,xs=[.bl k]/\Q (.int (if k then 1 else 0)) H) UX:=by
 intro P H ds vs Q ht hl h;unfold UX at h;split at h
 ·obtain⟨v,rfl,hv⟩:=hl.one;cases hv;exact .inl ⟨_,rfl,h _ H (Ad.refl H) (.int _)⟩
 ·obtain⟨v,rfl,hv⟩:=hl.one;cases hv;exact .inr ⟨_,rfl,h _ H (Ad.refl H) (.int _)⟩
 ·exact h.elim
theorem dU {p:Pos}(hg:Gl X "int")(hm:X.mg "int" = none)(ha:DE X WX c e f)(hb:bootBuiltins "int" = some (.type "int"):=by decide +kernel)(hs:starEach [e] X.env=[(false,eval e X.env)]:=by rfl):DE X WX c (.Call (.Name "int" p) [e] [] pos) (λ ρ=>((f ρ).bind λ d=>(M.ok []).bind λ ds=>.ok (d::ds)).bind UX):=
 OK VP dS hg hm hb (A2 ha A8 hs) (he:=hs)
noncomputable def Gk:List D->Option (List Bool)
 |[]=>some []
 | .bl b::r=>(Gk r).map (b::·)
 |_=>none
theorem MC (bs:List Bool):Gk (bs.map D.bl)=some bs:=by
 induction bs with
 |nil=>rfl
 |cons b r ih=>rw[zf,Gk,ih];rfl
theorem MD:∀ {ds:List D}{bs:List Bool},Gk ds=some bs->ds=bs.map D.bl
 |[],bs,h=>by cases h;rfl
 | .bl b::r,bs,h=>by
  rw[Gk] at h;cases q:Gk r with
  |none=>rw[q] at h;cases h
  |some vt=>rw[q] at h;cases h;rw[MD q];rfl
 | .AA::r,bs,h| .int _::r,bs,h| .str _::r,bs,h| .tup _::r,bs,h| .lst _::r,bs,h| .EG _::r,bs,h| .Bl _ _ _::r,bs,h| .ins _ _ _::r,bs,h=>by cases h
theorem ME {K:za}{H:Hp}:∀ {vs:List V}{bs:List Bool},Ai K H vs (bs.map D.bl)->vs=bs.map V.bl
 |_,[],.nil=>rfl
 |_,b::r,.cons h t=>by cases h;rw[ME t];rfl
theorem MF:∀ {bs:List Bool}{us:List Value},Vals (bs.map V.bl) us->LSm.BoolsAre us bs
 |[],_,.nil=>.nil
 |b::r,_,.cons h t=>by cases h;exact .cons b (MF t)
theorem MG (hc:X.calm=true):Ga X (.builtin "all") (λ xs H Q=>∃p bs,xs=[.ref p]/\CJ X.K H p (List.map V.bl bs)/\Q (.bl (bs.all id)) H):=by
 intro pins s σ H xs us Q I r h;obtain⟨p,bs,rfl,hq,q⟩:=h;obtain⟨u,rfl,rx⟩:=vals1 r;cases rx;obtain⟨aa,r',pl,hz⟩:=I.list hq;have hl:=pl.isList;have hb:=MF r';have ah:p<s.heap.objs.size:=by obtain⟨_,e,_⟩:=hl;exact zr e
 refine call_all_walk (wpAny_pyIter_list hl ?_);refine⟨s.heap.objs.size,[s.heap.objs.size,p],[s.heap.objs.size],aa.toArray.size,_,_,λ i=>(bs[i]?).getD true,rfl,Walks.list (A:=X.A.in1) (I.ok.hd hc) _ p (zB ah) aa.toArray,
  ⟨⟨_,zE _ rfl,rfl,rfl⟩,hl.push _⟩,λ i v s' Q' E' hP hQ=>?_,λ h' tk hk=>?_⟩
 ·obtain⟨b,e,rfl⟩:=hb.get i v (by simpa using hP);simp only[e,Option.getD_some] at hQ;exact wpAny_truthy_bool hQ
 ·have e:((yD aa.toArray.size).all λ i=>(bs[i]?).getD true)=bs.all id:=by
   rw[zj,hb.length];exact LSm.range_all bs
  rw[e];exact⟨.bl _,H,I.kept (t':=tk) (LSm.kept_iter hk),rfl,q⟩
noncomputable def Wd (ds:List D):M D:=match ds with
 |[.lst xs]=>(match Gk xs with|some bs=>.ok (.bl (bs.all id))|none=>.bad)
 |_=>.bad
theorem lI:KD X.K WX (λ xs H Q=>∃p bs,xs=[.ref p]/\CJ X.K H p (List.map V.bl bs)/\Q (.bl (bs.all id)) H) Wd:=by
 intro P H ds vs Q ht hl h;unfold Wd at h;split at h
 ·rename_i xs;obtain⟨v,rfl,hv⟩:=hl.one;split at h
  ·rename_i bs eb;have:=MD eb;subst this;cases hv with
   |lst hs hh =>
    have:=ME hh;subst this;exact⟨_,bs,rfl,hs.AN,h _ H (Ad.refl H) (.bl _)⟩
  ·exact h.elim
 ·exact h.elim
theorem TR {p:Pos}(hc:X.calm=true)(hg:Gl X "all")(hm:X.mg "all" = none)(ha:DE X WX c e f)(hb:bootBuiltins "all" = some (.builtin "all"):=by decide +kernel)(hs:starEach [e] X.env=[(false,eval e X.env)]:=by rfl):DE X WX c (.Call (.Name "all" p) [e] [] pos) (λ ρ=>((f ρ).bind λ d=>(M.ok []).bind λ ds=>.ok (d::ds)).bind Wd):=
 Mw (MG hc) lI hg hm hb (A2 ha A8 hs) (he:=hs)
end
def Sm (n:Int):Prop:=zN n<=2^20
theorem Yl:∀ {ns:List Int},W.WData.weightAll (ns.map W.WData.int)<=2^20->∀n∈ns,Sm n
 |m::r,h,n,hn=>by
  rw[zf,W.WData.weightAll,W.WData.weight] at h;rcases zp.mp hn with rfl|hn
  ·unfold Sm zN;omega
  ·exact Yl (by omega) n hn
theorem qB {ns:List Int}(h:W.WData.layableAll [W.WData.list (ns.map W.WData.int)]=true):∀n∈ns,Sm n:=by
 unfold W.WData.layableAll at h;rw[List.all_cons,zP] at h;have h1:=h.1;unfold W.WData.layable at h1;rw[zP,decide_eq_true_eq,W.WData.weight] at h1;exact Yl h1.2
end L2
namespace HT
open PySem PySem.W PyProof.Rows Spec Calls r9
theorem OP {l:OpenLaw}{n:Nat}{q:Program}{loose:List Str}{XP:(Str->Option Value)->Heap->Prop}{YP:World->Heap->Prop}{d:DefRec}
 (hn:l.most=some n) (f9:d.params.defaults=[])
 (run:∀(w:World) (s₀ s₁:Shared) (mg mb:Str->Option Value) (fa:Addr) (o:Obj) (pm cd doc:Value) (a:Addr) (vs:List Value) (ns:List Int),(∀n∈ns,L2.Sm n)->
  Ground q loose [] XP w s₀ mg mb s₁.heap->YP w s₁.heap->s₁.heap.get? fa=some o->o.data=.func (docDef d.name d.params d.body d.scope pm cd doc)->s₁.heap.CodeRec cd d.name->mg d.name=some (.ref fa)->
  s₁.heap.get? a=some {cls:=.type "list",data:=.seq vs.toArray}->IntsAre vs ns->ns.length<=n->s₁.gens=#[]->
  codeAny (model l.prog w) callerA (.call (.ref fa) ⟨[.ref a],[]⟩) (λ r s'=>r=.ok (.ret (.bool true))/\OldK s₁.heap s'.heap/\s'.os=s₁.os/\AllBare s'.gens) s₁):
 WalkO q loose XP YP l.row.toRowW d [] (λ f vs=>PySem.call f vs):=by
 intro w s₀ s₁ mg mb G Y fa o pm cd doc dV kV ho hd be hD ga hg args vals as c6 nv du my yk;obtain rfl:dV=.none:=Dflts.none hD f9;obtain rfl:kV=.none:=Dflts.noKw hD;obtain⟨a,vs,ns,rfl,rfl,bZ,bh,hlen⟩:=VY hn c6 my;refine enter_call (codeAny_mono (run w s₀ s₁ mg mb fa o pm cd doc a vs ns (L2.qB nv) G Y ho (fd_plain hd) be ga bZ bh hlen hg) λ r s' hq=>?_);obtain⟨rfl,h2,h3,h4⟩:=hq;exact⟨.inl ⟨.bool true,.bool true,[],rfl,λ _=>rfl,.bool true,VZ l _,λ _=>⟨List.Pairwise.nil,λ _ hm=>(nomatch hm)⟩⟩,h2,h3,h4⟩
end HT
namespace L2
open PySem PySem.Spec PyProof.Rows
theorem rO {l:PySem.W.OpenLaw}{n k:Nat}{q:Program}{loose:List Str}{XP:(Str->Option Value)->Heap->Prop}{YP:World->Heap->Prop}{d:DefRec}{K:Params->za}{CX:World->UE}{sp:World->Sp}{x:Str}
 (hn:l.most=some n) (aE:n<=sizeLine) (f9:d.params.defaults=[]) (hr:BJ k callerA) (hY:∀(w:World) (h:Heap),YP w h->(K w.params).In h)
 (F:∀(w:World) (mg:Str->Option Value) (fa:Addr) (h:Heap),(K w.params).In h->h.Ns mainGlobals mg->mg d.name=some (.ref fa)->∃fd:FuncData,(∀(s:Shared) (u:Value),BindsTo s fd ⟨[u],[]⟩ [(x,u)])/\
  ∀base:Heap,(K w.params).In base->base.Ns mainGlobals mg->Ds l.prog w (K w.params) mg base (CX w) k fa fd [x] (sp w))
 (bA:∀(w:World) (H:Hp) (a:Addr) (ns:List Int),(∀n∈ns,Sm n)->ns.length<=n->cV H->CJ (K w.params) H a (ns.map V.int)->sp w [.ref a] H (λ v _=>v=.bl true) λ _ _ _=>False)
 (ir:∀(w:World) (H:Hp) (s:Shared) (e:Value) (s':Shared),CX w [] H s (λ _ _ _=>False) e s'->False):PySem.W.WalkO q loose XP YP l.row.toRowW d [] (λ f vs=>PySem.call f vs):=by
 refine HT.OP hn f9 λ w s₀ s₁ mg mb fa o pm cd doc a vs ns aI G Y ho hd be ga bZ bh hlen hg=>?_;have KX:=hY w _ Y;obtain⟨fd,hb,hF⟩:=F w mg fa _ KX G.T.g ga;exact Rq KX G.T.g G.T.b G.T.builtins G.T.nolimit hg bZ bh (yG hlen aE) hr hF hb (λ H hO hS=>bA w H a ns aI hlen hO hS) λ H e s'=>ir w H s₁ e s'
theorem dW {F:List D->M D}(h:∀ns:List Int,ns.length<=63->(∀n∈ns,Sm n)->F [.lst (ns.map D.int)]=.ok (.bl true))(K:za)(H:Hp)(a:Addr)(ns:List Int)(aI:∀n∈ns,Sm n)(hl:ns.length<=63)(hS:CJ K H a (ns.map V.int)):TK K 1 F [.ref a] H (λ v _=>v=.bl true) λ _ _ _=>False:=by
 refine⟨rfl,λ _=>False,[.lst (ns.map D.int)],λ _ z=>z.elim,.cons (.lst ?_ (Ai.ints ns)) .nil,?_⟩
 ·have e:del H (λ _=>False)=H:=by funext b;exact Aw (λ z=>z)
  rw[e];exact hS
 ·rw[h ns hl aI];exact λ v H' s hv=>hv.Mt
def OQ (i j:Int):Prop:=(zN i<=2^20+1/\zN j<=2^10)\/RH i j
theorem We {a b:Int}(h:zN a+zN b<=2^21):IntMulOk a b:=by
 have e:(2:Nat)^21=2097152:=by decide
 have h2:Builtin.Int.intTooBig (zN a+zN b)=false:=by
  unfold Builtin.Int.intTooBig bitsLine;exact decide_eq_false (by omega)
 unfold IntMulOk;rw[h2];simp
theorem OQ.ok {i j:Int}(h:OQ i j):IntMulOk i j:=by
 rcases h with ⟨h1,h2⟩|h
 ·exact We (by omega)
 ·exact h.ok
theorem dX {X:Cx}:G9 X (binaryOp .Mult) (rI OQ λ i j=>.int (i*j)):=rH λ _ _ _ _ _ _ _ hc q=>mul_int q hc.ok
noncomputable instance (i j:Int):Decidable (OQ i j):=zb3 _
noncomputable def HB:=Bt λ i j=>if OQ i j then .ok (.int (i*j)) else .bad
theorem E8 {i j:Int}(h:OQ i j):HB (.int i) (.int j)=.ok (.int (i*j)):=by
 unfold HB Bt;dsimp only;rw[if_pos h]
theorem Fn {X:Cx}{WX:Str->Hp->Prop}{c:Bool}{a b:Expr}{f g:Ac->M D}{pos:Pos}(ha:DE X WX c a f)(hb:DE X WX c b g):DE X WX c (.BinOp a .Mult b pos) (λ ρ=>(f ρ).bind λ x=>(g ρ).bind λ y=>HB x y):=OH dX (Q1 λ _ _ _ _=>.int _) ha hb
theorem bits_le {n:Int}{k:Nat}(h:n.natAbs<2^k):zN n<=k:=by
 unfold zN;split
 ·exact zJ _
 ·rename_i hn;have hp:n.natAbs≠0:=by simpa using hn
  exact (Nat.log2_lt hp).mpr h
theorem Wf {c x:Int}(h:Sm c)(hx:x.natAbs<2^20):zN (c+x)<=2^20+1:=by
 refine bits_le ?_;have h1:=natAbs_lt_pow_bits c;have h2:(2:Nat)^zN c<=2^(2^20):=Nat.pow_le_pow_right (by omega) h;have h3:(2:Nat)^20<=2^(2^20):=Nat.pow_le_pow_right (by omega) (by omega);have h4:(c+x).natAbs<=c.natAbs+x.natAbs:=Int.natAbs_add_le c x;rw[Nat.pow_succ];omega
mutual
noncomputable def GX:D->Bool
 | .tup a=>IS a
 | .lst _| .EG _| .Bl _ _ _| .ins _ _ _=>false
 |_=>true
noncomputable def IS:List D->Bool
 |[]=>true
 |a::r=>GX a&&IS r
end
theorem UY {H:Hp}{P0 P:Addr->Prop}{a:Addr}{xs:List V}(ht:∀a,P a->Dq H a)(h:del H P0 a=some (.tup xs)):del H P a=some (.tup xs):=by
 obtain⟨h1,h2⟩:=Am h;rw[Aw λ z=>by
  obtain⟨o',q,r⟩:=ht a z;rw[h2] at q;cases q;exact (r xs).1 rfl]
 exact h2
mutual
theorem BK.GX {K:za}{H:Hp}{P0 P:Addr->Prop}(ht:∀a,P a->Dq H a):∀ {v:V}{d:D},GX d=true->BK K (del H P0) v d->BK K (del H P) v d
 |_,_,_,.AA=>.AA
 |_,_,_,.bl b=>.bl b
 |_,_,_,.int i=>.int i
 |_,_,_,.str x=>.str x
 |_,_,n,.tup h r=>.tup (UY ht h) (Ai.GX ht (by rw[L2.GX] at n;exact n) r)
 |_,_,n,.lst h r|_,_,n,.EG h r|_,_,n,.HY h r|_,_,n,.HZ h r|_,_,n,.ins _ h r=>by rw[L2.GX] at n;cases n
theorem Ai.GX {K:za}{H:Hp}{P0 P:Addr->Prop}(ht:∀a,P a->Dq H a):∀ {vs:List V}{ds:List D},IS ds=true->Ai K (del H P0) vs ds->Ai K (del H P) vs ds
 |_,_,_,.nil=>.nil
 |_,_,n,.cons h t=>by
  rw[IS,zP] at n;exact .cons (BK.GX ht n.1 h) (Ai.GX ht n.2 t)
end
noncomputable def dp (m:M D):M D:=m.bind λ d=>if GX d=true then .ok d else .bad
theorem UZ {X:Cx}{WX:Str->Hp->Prop}{e:Expr}{f:Ac->M D}(h:DE X WX false e f):DE X WX true e (λ ρ=>dp (f ρ)):=by
 obtain⟨t,h1,h2⟩:=h;refine⟨t,h1,λ P0 P σ H Q ρ E g=>h2 P0 P σ H Q ρ E ?_⟩;unfold dp at g;dsimp only at g;cases e:f ρ with
 |ok d =>
  rw[e] at g;simp only[M.A7] at g;by_cases hf:GX d=true
  ·rw[if_pos hf] at g;exact λ v H' s hv=>g v H' s (hv.GX (E.same s).BS hf)
  ·rw[if_neg hf] at g;exact g.elim
 |ex x|bad=>rw[e] at g;exact g
section
variable {α:Type}(lt:α->α->Prop)
def NU:List α->List α->Prop
 |y::ys,x::xs=>(lt y x/\ys.length=xs.length)\/(y=x/\NU ys xs)
 |_,_=>False
theorem NU.len:∀ {ys xs:List α},NU lt ys xs->ys.length=xs.length
 |y::ys,x::xs,h=>by
  rcases h with ⟨_,h⟩|⟨_,h⟩
  ·rw[zl,zl,h]
  ·rw[zl,zl,NU.len h]
 |[],[],h|[],_::_,h|_::_,[],h=>h.elim
theorem Ym (n:Nat)(ih:∀xs:List α,xs.length=n->Acc (NU lt) xs){x:α}(hx:Acc lt x):∀ {xs:List α},xs.length=n->Acc (NU lt) xs->Acc (NU lt) (x::xs):=by
 induction hx with
 |intro x _ vw =>
  intro xs hl cn;induction cn with
  |intro xs _ ny =>
   refine .intro _ λ zs h=>?_;cases zs with
   |nil=>exact h.elim
   |cons y ys =>
    rcases h with ⟨h1,h2⟩|⟨h1,h2⟩
    ·exact vw y h1 (h2.trans hl) (ih ys (h2.trans hl))
    ·subst h1;exact ny ys h2 ((NU.len lt h2).trans hl)
theorem MH (h:∀x,Acc lt x):∀(n:Nat) (xs:List α),xs.length=n->Acc (NU lt) xs
 |0,[],_=>.intro _ λ zs h=>by cases zs<;>exact h.elim
 |n+1,x::xs,e=>Ym lt n (MH h n) (h x) (by simpa using e) (MH h n xs (by simpa using e))
theorem V0:∀ {xs:List α}{i:Nat}{y:α}{x:α},xs[i]?=some x->lt y x->NU lt (xs.set i y) xs
 |[],_,_,_,h,_=>by cases h
 |z::zs,0,y,x,h,hl=>by
  cases h;exact .inl ⟨hl,rfl⟩
 |z::zs,i+1,y,x,h,hl=>.inr ⟨rfl,V0 (by simpa using h) hl⟩
theorem NU.trans (ht:∀a b c,lt a b->lt b c->lt a c):∀ {xs ys zs:List α},NU lt xs ys->NU lt ys zs->NU lt xs zs
 |x::xs,y::ys,z::zs,h1,h2=>by
  rcases h1 with ⟨a,b⟩|⟨rfl,b⟩
  ·rcases h2 with ⟨c,d⟩|⟨rfl,d⟩
   ·exact .inl ⟨ht _ _ _ a c,b.trans d⟩
   ·exact .inl ⟨a,b.trans (NU.len lt d)⟩
  ·rcases h2 with ⟨c,d⟩|⟨rfl,d⟩
   ·exact .inl ⟨c,(NU.len lt b).trans d⟩
   ·exact .inr ⟨rfl,NU.trans ht b d⟩
 |[],_,_,h,_|_::_,[],_,h,_|_::_,_::_,[],_,h=>by cases h
end
section
variable {X:Cx}{WX:Str->Hp->Prop}{c:Bool}{P0:Et}{P:Addr->Prop}{H:Hp}{σ:St}{ρ:Ac}{a b e:Expr}{f g g2:Ac->M D}{pos:Pos}
theorem Ak.forget {K:za}(E:Ak K P0 P H σ ρ)(k:Nat):Ak K P0 P H σ (ρ.set k none):=by
 have key:∀(j:Nat) (cl:Cl),(ρ.set k none)[j]?=some (some cl)->k≠j/\ρ[j]?=some (some cl):=λ j cl h=>by
  rcases get_set h with ⟨_,_,z⟩|z
  ·cases z
  ·exact z
 exact⟨E.sub,E.BS,λ j d h=>E.val j d (key j _ h).2,λ j d h io=>E.ows j d (key j _ h).2 io,λ i j c c' v v' fp ai h1 h2=>E.apart i j c c' v v' fp ai (key i _ h1).2 (key j _ h2).2,by rw[yC];exact E.len,λ j c n h hp=>E.pin j c n (key j _ h).2 hp⟩
theorem dY (i:Nat){x:Str}{pos' db:Pos}(hN:X.N.Nodup)(hi:X.N[i]?=some x)(hx:Loc X.env.scope x)(hs:swapsWith (.List [] db) (some (.Name x pos')) pos.line X.env=pure false:=by rfl)(hf:X.fn x=true\/X.env.scope.names.lookup x=some .local:=by first | exact .inl rfl | exact .inr rfl | assumption):
 DS X WX (.Assign [.Name x pos'] (.List [] db) pos) (λ ρ=>.ok (.next (ρ.set i (some (.ow (.rows [])))))):=by
 refine⟨_,Te hN hi hx (PJ C5) hs hf,λ P0 P σ H Z ρ E h=>?_⟩;refine⟨zJ _,λ p hp=>?_⟩;have nP:¬ P p:=λ z=>(E.BS p z).no hp;have sm:Ad (del H P) (del (upd H p (.lst [])) (λ a=>P a\/a=p)):=λ b o e=>by
  obtain⟨h1,h2⟩:=Am e;have hb:b≠p:=Av h2 hp;rw[Aw (λ z=>z.elim h1 hb),Ah hb];exact h2
 refine h _ _ (λ a=>P a\/a=p) ⟨sm,λ a ha=>by rw[Ah (λ z=>nP (by rw[<-z];exact E.sub a ha))]⟩ (E.W8 (fp:=[p]) (λ a h=>.inl h) (λ a h=>?_) sm (λ j c' v' ai ae h1 h2 h3 a ha=>?_) ⟨p,[],rfl,rfl,Ao,.nil⟩ (λ a ha=>?_) (by simp))
 ·by_cases ha:a=p
  ·subst ha;exact Dq.lst Ao
  ·rcases h with h|h
   ·unfold Dq;rw[Ah ha];exact E.BS a h
   ·exact absurd h ha
 ·obtain⟨ys,q⟩:=h3.at a ha;have hn:a≠p:=Av q hp;exact⟨Ah hn,λ z=>hn (zh.mp z)⟩
 ·rw[zh.mp ha];exact⟨.inr rfl,λ z=>nP (E.sub p z)⟩
theorem Bx.snoc {K:za}{H:Hp}{P:Addr->Prop}{q:Addr}{xs:List V}{ds:List D}(hq:H q=some (.lst xs))(hx:Ai K (del H P) xs ds):∀ {ps:List Addr}{C2:List (List D)},Bx K H P ps C2->Bx K H P (ps++[q]) (C2++[ds])
 |_,_,.nil=>.cons hq hx .nil
 |_,_,.cons h r t=>.cons h r (t.snoc hq hx)
noncomputable def Yn (i k:Nat)(ρ:Ac):M Out:=match ρ[i]?,ρ[k]? with
 |some (some (.ow (.rows C2))),some (some (.own ds))=>if C2.length<1000/\i≠k then .ok (.next ((ρ.set k none).set i (some (.ow (.rows (C2++[ds])))))) else .bad
 |_,_=>.bad
theorem dZ (i k:Nat){x y:Str}{p1 p2 apos ad:Pos}(hv:PE X (.Name x p1) (Lb i))(hw:PE X (.Name y p2) (Lb k))(hs:starEach [.Name y p2] X.env=[(false,eval (.Name y p2) X.env)]:=by rfl)
 (aR:swapsWith (.Call (.Attribute (.Name x p1) "append" apos) [.Name y p2] [] ad) none pos.line X.env=pure false:=by rfl)
 (ao:attributeBase (.Name x p1) "append" X.env (eval (.Name x p1) X.env)=eval (.Name x p1) X.env:=by rfl)
 (aG:((backTo ad (starEach [.Name y p2] X.env)).all (λ x => !x.1)&&(backToKw ad (keywordEach [] X.env)).all (λ x=>x.1.isSome)&&decide (([.Name y p2]:List Expr).length+([]:List Keyword).length+(if ([]:List Keyword).isEmpty then 0 else 1)<30))=true:=by rfl)
 (aq:(apos.endLine==ad.line)=true:=by rfl) (al:(backTo ad (starEach [] X.env)).any (·.1)=false:=by rfl):
 DS X WX (.Expr (.Call (.Attribute (.Name x p1) "append" apos) [.Name y p2] [] ad) pos) (Yn i k):=by
 refine⟨_,Ex (OC yQ PySem.F.slot_list_append PySem.F.type_list_append K4 hv (Ba hw C5 hs) ao aG aq hs al) aR,λ P0 P σ H Z ρ E h=>?_⟩;unfold Yn at h;split at h
 ·rename_i C2 ds e1 e2;by_cases hl:C2.length<1000/\i≠k
  ·rw[if_pos hl] at h;obtain⟨v,fp,h1,o1,h4,nd⟩:=E.ows i _ e1 rfl;obtain⟨w,fq,k1,o2,k4,_⟩:=E.ows k _ e2 rfl;have oa:=o1;have ob:=o2;obtain⟨p,ps,rfl,rfl,h2,h3⟩:=o1;obtain⟨q,xs,rfl,rfl,k2,k3⟩:=o2;refine⟨_,h1,.inl ⟨rfl,_,.of h2⟩,⟨_,k1,p,_,_,rfl,rfl,h2,AE (by rw[zc,h3.length];exact yH hl.1),?_⟩⟩;have pP:=h4 p zd;have sd:del (upd H p (.lst (ps.map V.ref++[V.ref q]))) P=del H P:=by
    funext b;by_cases hb:P b
    ·rw[D4 hb,D4 hb]
    ·rw[Aw hb,Aw hb,Ah (λ z=>hb (by rw[z];exact pP.1))]
   have sm:Ad (del H P) (del (upd H p (.lst (ps.map V.ref++[V.ref q]))) P):=by rw[sd];exact Ad.refl _
   have qn:q∉p::ps:=λ z=>E.apart i k _ _ _ _ _ _ e1 e2 h1 k1 oa ob hl.2 q z (zh.mpr rfl);have qp:q≠p:=λ z=>qn (by rw[z];exact zd);have key:=(E.forget k).W8 (P':=P) (H':=upd H p (.lst (ps.map V.ref++[V.ref q]))) (i:=i) (v:=.ref p) (c:=.ow (.rows (C2++[ds]))) (fp:=p::(ps++[q])) (λ a h=>h) (λ a h=>?_) sm (λ j c' v' ai ae g1 g2 g3 a ha=>?_)
    ⟨p,ps++[q],rfl,rfl,by rw[zG];exact Ao,?_⟩ (λ a ha=>?_) ?_
   ·rw[Kb h1] at key;exact h _ _ _ ⟨sm,λ a h=>by rw[Ah (λ z=>pP.2 (by rw[<-z];exact h))]⟩ key
   ·by_cases ha:a=p
    ·subst ha;exact Dq.lst Ao
    ·unfold Dq;rw[Ah ha];exact E.BS a h
   ·have hj:k≠j/\ρ[j]?=some (some c'):=by
     rcases get_set g1 with ⟨_,_,z⟩|z
     ·cases z
     ·exact z
    have n1:=E.apart j i _ _ _ _ _ _ hj.2 e1 g2 h1 g3 oa (zX ae) a ha;have n2:=E.apart j k _ _ _ _ _ _ hj.2 e2 g2 k1 g3 ob (zX hj.1) a ha;have ap:a≠p:=λ z=>n1 (by rw[z];exact zd);refine⟨Ah ap,λ z=>?_⟩;rcases zp.mp z with z|z
    ·exact ap z
    ·rcases zv.mp z with z|z
     ·exact n1 (ze _ z)
     ·exact n2 z
   ·refine Bx.snoc (xs:=xs) (by rw[Ah qp];exact k2) (by rw[sd];exact k3) (h3.move sm λ a ha=>Ah λ z=>?_);rw[zV] at nd;exact nd.1 (by rw[<-z];exact ha)
   ·rcases zp.mp ha with rfl|ha
    ·exact pP
    ·rcases zv.mp ha with ha|ha
     ·exact h4 a (ze _ ha)
     ·exact k4 a ha
   ·rw[zV] at nd ⊢;refine⟨λ z=>?_,?_⟩
    ·rcases zv.mp z with z|z
     ·exact nd.1 z
     ·exact qp (zh.mp z).symm
    ·rw[zA];refine⟨nd.2,by simp,λ x hx y hy z=>?_⟩;rw[zh.mp hy] at z;exact qn (ze _ (z▸hx))
  ·rw[if_neg hl] at h;exact h.elim
 ·exact h.elim
theorem Yo {α:Type}{l:List α}{k:Int}{n:Nat}(h:Lc l.length k=some n):PL l k=l[n]? :=by
 unfold PL;rw[h];rfl
theorem Yp {m:Nat}{k:Int}{n:Nat}(h:Lc m k=some n):n<m:=by
 unfold Lc at h;split at h
 ·split at h
  ·cases h;omega
  ·cases h
 ·split at h
  ·cases h;omega
  ·cases h
noncomputable def rowAt (C2:List (List D))(ka:D):M (List D):=match ka with
 | .int j=>(match Lc C2.length j with|some n=>(match C2[n]? with|some ds=>.ok ds|none=>.bad)|none=>.bad)
 |_=>.bad
theorem OR {C2:List (List D)}{ka:D}{m:M (List D)}(h:rowAt C2 ka=m)(hb:m≠.bad):∃j n ds,ka=.int j/\Lc C2.length j=some n/\C2[n]?=some ds/\m=.ok ds:=by
 subst h;unfold rowAt at hb ⊢;split at hb
 ·rename_i j;split at hb
  ·rename_i n en;split at hb
   ·rename_i ds ed;exact⟨j,n,ds,rfl,en,ed,by simp only[en,ed]⟩
   ·exact (hb rfl).elim
  ·exact (hb rfl).elim
 ·exact (hb rfl).elim
noncomputable def eA (i:Nat)(ρ:Ac)(ma mb:M D):M D:=match ρ[i]? with
 |some (some (.ow (.rows C2)))=>ma.bind λ ka=>(rowAt C2 ka).bind λ ds=>mb.bind λ kb=>dM (.lst ds) kb
 |_=>.bad
theorem qC {K:za}{P:Addr->Prop}{Q:VK}{m:M D}(h:gV K WX P H Q m):m≠.bad:=λ e=>by rw[e] at h;exact h
theorem V1 {α β:Type}{m:M α}{k:α->M β}(h:m.bind k≠.bad):m≠.bad:=λ e=>by rw[e] at h;exact h rfl
theorem TU (i:Nat){x:Str}{p1 p2:Pos}(hv:PE X (.Name x p1) (Lb i))(ha:DE X WX true a f)(hb:DE X WX true b g)(hs:Fe a:=by exact λ _ _=>rfl)(aK:Fe b:=by exact λ _ _=>rfl):
 DE X WX true (.Subscript (.Subscript (.Name x p1) a p2) b pos) (λ ρ=>eA i ρ (f ρ) (g ρ)):=by
 obtain⟨ta,a1,a2⟩:=ha;obtain⟨tb,b1,b2⟩:=hb;refine⟨_,Rm IF (Rm IF hv a1 hs) b1 aK,λ P0 P σ H Q ρ E h=>?_⟩;dsimp only at h;unfold eA at h;split at h
 ·rename_i C2 e1;obtain⟨v,fp,h1,⟨p,ps,rfl,rfl,h2,h3⟩,h4,nd⟩:=E.ows i _ e1 rfl;refine⟨_,h1,a2 P0 P σ H _ ρ E ?_⟩;cases q:f ρ with
  |bad|ex x=>rw[q] at h;exact h
  |ok ka =>
   rw[q] at h;simp only[M.A7] at h;intro w H1 s1 hw;obtain⟨j,n,ds,rfl,en,ed,em⟩:=OR rfl (V1 (qC h));rw[em] at h;simp only[M.A7] at h;cases hw;obtain⟨r,xs,r1,r2,r3⟩:=h3.get ed;have hl:Lc (ps.map V.ref).length j=some n:=by rw[zc,h3.length];exact en
   refine⟨p,_,j,.ref r,rfl,rfl,.of (s1 _ _ h2),by rw[Yo hl,z7,r1];rfl,?_⟩;refine b2 P0 P σ H1 _ ρ (E.same s1) ?_;cases q2:g ρ with
   |bad=>rw[q2] at h;exact h.elim
   |ex x=>rw[q2] at h;exact λ H' s'=>h H' (s1.trans s')
   |ok kb =>
    rw[q2] at h;simp only[M.A7] at h;intro u H2 s2 hu;unfold dM at h;split at h
    ·rename_i bD;cases bD
    ·rename_i i6 j' bD;cases bD;split at h
     ·rename_i d e;cases hu;obtain⟨z,k1,k2⟩:=(r3.mono (s1.trans s2).del).PL e;exact⟨r,xs,j',z,rfl,rfl,.of (s2 _ _ (s1 _ _ r2)),k1,h _ H2 (s1.trans s2) k2⟩
     ·exact h.elim
    ·exact h.elim
 ·exact h.elim
theorem Bx.set {K:za}{H H':Hp}{P:Addr->Prop}(sm:Ad (del H P) (del H' P)){r:Addr}{xs:List V}{ds:List D}(hr:H' r=some (.lst xs))(hx:Ai K (del H' P) xs ds)(k:∀a,a≠r->H' a=H a):∀ {ps:List Addr}{C2:List (List D)}{n:Nat},ps.Nodup->ps[n]?=some r->Bx K H P ps C2->Bx K H' P ps (C2.set n ds)
 |_,_,_,_,e,.nil=>by simp at e
 |_,_,0,nd,e,.cons h1 h2 t=>by
  simp at e;subst e;rw[zV] at nd;exact .cons hr hx (t.move sm λ a ha=>k a λ z=>nd.1 (by rw[<-z];exact ha))
 |q::ps,d::C2,n+1,nd,e,.cons h1 h2 t=>by
  rw[zV] at nd;have e':ps[n]?=some r:=by simpa using e
  refine .cons ((k q λ z=>nd.1 (by rw[z];exact zk e')).trans h1) (h2.mono sm) (t.set sm hr hx k nd.2 e')
noncomputable def eB (i:Nat)(ρ:Ac)(C2:List (List D))(d ka:D)(ds:List D)(kb:D):M Out:=match ka,kb with
 | .int j,.int l=>(match Lc C2.length j,Lc ds.length l with|some n,some m=>.ok (.next (ρ.set i (some (.ow (.rows (C2.set n (ds.set m d)))))))|_,_=>.bad)
 |_,_=>.bad
noncomputable def V2 (i:Nat)(ρ:Ac)(ma mb:M D)(d:D):M Out:=match ρ[i]? with
 |some (some (.ow (.rows C2)))=>ma.bind λ ka=>(rowAt C2 ka).bind λ ds=>mb.bind λ kb=>eB i ρ C2 d ka ds kb
 |_=>.bad
theorem eE (i:Nat){x:Str}{p1 p2 am:Pos}(hv:PE X (.Name x p1) (Lb i))(he:DE X WX true e g2)(ha:DE X WX true a f)(hb:DE X WX true b g)(vx:Fe a:=by exact λ _ _=>rfl)
 (hs:swapsWithSole [.Subscript (.Subscript (.Name x p1) a p2) b am] e pos.line X.env=pure false:=by rfl) (hw:swappedStores [.Subscript (.Subscript (.Name x p1) a p2) b am] e X.env=pure none:=by rfl) (h1:(assignEach [.Subscript (.Subscript (.Name x p1) a p2) b am] X.env).map (·.2)=[assign (.Subscript (.Subscript (.Name x p1) a p2) b am) X.env]:=by rfl)
 (f8:∀v,assign (.Subscript (.Subscript (.Name x p1) a p2) b am) X.env v=(do
  let ov <-holding [v] (eval (.Subscript (.Name x p1) a p2) X.env);let iv <-holding [v,ov] (eval b X.env)
  standAt am
  holding [v,ov,iv] (setItem ov iv v)
  release [v,ov,iv] []):=by intro _;rfl):
 DS X WX (.Assign [.Subscript (.Subscript (.Name x p1) a p2) b am] e pos) (λ ρ=>(g2 ρ).bind (V2 i ρ (f ρ) (g ρ))):=by
 obtain⟨te,e1,e2⟩:=he;obtain⟨ta,a1,a2⟩:=ha;obtain⟨tb,b1,b2⟩:=hb;refine⟨_,Xp e1 (Xo (Rm IF hv a1 vx) b1 set_list f8) hs hw h1,λ P0 P σ H Z ρ E h=>?_⟩;dsimp only at h;refine e2 P0 P σ H _ ρ E ?_;cases q0:g2 ρ with
 |bad=>rw[q0] at h;exact h
 |ex x=>rw[q0] at h;exact λ H' s=>h H' P (E.tr s)
 |ok d =>
  rw[q0] at h;simp only[M.A7] at h;intro v H0 s0 nz;have E0:=E.same s0;unfold V2 at h;split at h
  ·rename_i C2 sv;obtain⟨v',fp,h1,o1,h4,nd⟩:=E0.ows i _ sv rfl;have oa:=o1;obtain⟨p,ps,rfl,rfl,h2,h3⟩:=o1;refine⟨_,h1,a2 P0 P σ H0 _ ρ E0 ?_⟩;cases q:f ρ with
   |bad=>rw[q] at h;exact h.elim
   |ex x=>rw[q] at h;exact λ H' s=>h H' P ((E.tr s0).trans (E0.tr s))
   |ok ka =>
    rw[q] at h;simp only[M.A7] at h;intro w H1 s1 hw;obtain⟨j,n,ds,rfl,en,ed,em⟩:=OR rfl (V1 (iN h));rw[em] at h;simp only[M.A7] at h;cases hw;obtain⟨r,xs,r1,r2,r3⟩:=h3.get ed;have hl:Lc (ps.map V.ref).length j=some n:=by rw[zc,h3.length];exact en
    refine⟨p,_,j,.ref r,rfl,rfl,.of (s1 _ _ h2),by rw[Yo hl,z7,r1];rfl,?_⟩;have E1:=E0.same s1;refine b2 P0 P σ H1 _ ρ E1 ?_;cases q2:g ρ with
    |bad=>rw[q2] at h;exact h.elim
    |ex x=>rw[q2] at h;exact λ H' s'=>h H' P ((E.tr s0).trans ((E0.tr s1).trans (E1.tr s')))
    |ok kb =>
     rw[q2] at h;simp only[M.A7] at h;intro u H2 s2 hu;unfold eB at h;split at h
     ·rename_i j' l bD;cases bD;cases hu;split at h
      ·rename_i n' m em vy;rw[en] at em;cases em;have E2:=E1.same s2;have ca:=s1.trans s2;have rm:r∈ps:=zk r1;have rP:=h4 r (ze _ rm);have dw:=zV.mp nd;have rp:r≠p:=λ z=>dw.1 (by rw[<-z];exact rm);have sd:del (upd H2 r (.lst (xs.set m v))) P=del H2 P:=by
        funext b;by_cases hb:P b
        ·rw[D4 hb,D4 hb]
        ·rw[Aw hb,Aw hb,Ah (λ z=>hb (by rw[z];exact rP.1))]
       have sm:Ad (del H2 P) (del (upd H2 r (.lst (xs.set m v))) P):=by rw[sd];exact Ad.refl _
       have ob:=oa.same ca;refine⟨r,xs,l,m,rfl,rfl,ca _ _ r2,by rw[r3.length];exact vy,?_⟩;have key:=E2.W8 (P':=P) (H':=upd H2 r (.lst (xs.set m v))) (i:=i) (v:=.ref p) (c:=.ow (.rows (C2.set n (ds.set m d)))) (fp:=p::ps) (λ a h=>h) (λ a h=>?_) sm (λ j2 c' v' ai ae g1 g2 g3 a ha=>?_)
        ⟨p,ps,rfl,rfl,by rw[Ah (zX rp)];exact ca _ _ h2,?_⟩ h4 nd
       ·rw[Kb h1] at key;exact h _ _ _ ((E.tr s0).trans ((E0.tr ca).trans ⟨sm,λ a h=>by rw[Ah (λ z=>rP.2 (by rw[<-z];exact h))]⟩)) key
       ·by_cases ha:a=r
        ·subst ha;exact Dq.lst Ao
        ·unfold Dq;rw[Ah ha];exact E2.BS a h
       ·have n1:=E2.apart j2 i _ _ _ _ _ _ g1 sv g2 h1 g3 ob (zX ae) a ha;exact⟨Ah λ z=>n1 (by rw[z];exact ze _ rm),n1⟩
       ·have vz:Bx X.K H2 P ps C2:=h3.move ca.del λ a ha=>by obtain⟨ys,z⟩:=h3.at a ha;rw[z];exact ca _ _ z
        refine vz.set sm Ao ?_ (λ a ha=>Ah ha) dw.2 r1;rw[sd];exact MA ((nz.mono s1.del).mono s2.del) m (r3.mono ca.del)
      ·exact h.elim
     ·exact h.elim
  ·exact h.elim
end
section
variable {X:Cx}{WX:Str->Hp->Prop}{c:Bool}{P0:Et}{P:Addr->Prop}{H:Hp}{σ:St}{ρ:Ac}{a b e:Expr}{f g g2:Ac->M D}{pos:Pos}
theorem EY:∀ {ds:List D}{ns:List Int},CL ds=some ns->ds=ns.map D.int
 |[],ns,h=>by cases h;rfl
 | .int b::r,bs,h=>by
  rw[CL] at h;cases q:CL r with
  |none=>rw[q] at h;cases h
  |some vt=>rw[q] at h;cases h;rw[EY q];rfl
 | .AA::r,bs,h| .bl _::r,bs,h| .str _::r,bs,h| .tup _::r,bs,h| .lst _::r,bs,h| .EG _::r,bs,h| .Bl _ _ _::r,bs,h| .ins _ _ _::r,bs,h=>by cases h
theorem E9 {K:za}{H:Hp}:∀ {vs:List V}{bs:List Int},Ai K H vs (bs.map D.int)->vs=bs.map V.int
 |_,[],.nil=>rfl
 |_,b::r,.cons h t=>by cases h;rw[E9 t];rfl
end
theorem lJ {P P2:Addr->Prop}{H H':Hp}(t:Tr P P H P2 H'){a:Addr}(h:P2 a)(hn:¬ P a):H a=none:=by
 cases q:H a with
 |none=>rfl
 |some o =>
  have:=t.1 a o (by rw[Aw hn];exact q);exact ((Am this).1 h).elim
section
variable {X:Cx}{WX:Str->Hp->Prop}{c:Bool}{P0:Et}{P:Addr->Prop}{H:Hp}{σ:St}{ρ:Ac}{a b e:Expr}{f g:Ac->M D}{pos:Pos}
def eF:V->List V->Hp->VK->Prop:=λ x vs H Q=>∃(l:Addr) (xs:List V) (k:Nat) (y:V),x=.ref l/\vs=[.int (k:Int),y]/\H l=some (.lst xs)/\k<=xs.length/\xs.length<sizeLine/\Q .AA (upd H l (.lst (xs.take k++y::xs.drop k)))
theorem RK:∀ {xs:List V}{us:List Value}{y:V}{w:Value},Vals xs us->∀k:Nat,RelV y w->Vals (xs.take k++y::xs.drop k) (us.take k++w::us.drop k)
 |_,_,_,_,r,0,h=>.cons h r
 |_,_,_,_,.nil,k+1,h=>.cons h .nil
 |_,_,_,_,.cons a t,k+1,h=>.cons a (RK t k h)
theorem Yq {prog:Program}{wd:World}{A:Around}{E:Value->Shared->Prop}{s:Shared}{Q:Value->Shared->Prop}{l:Addr}{items:Array Value}{n:Nat}(x:Int)(u:Tok)(y:Value)(hc:¬(!Builtin.List.listFitsIndex x)=true)(hs:items.size<=sizeLine)
 (e:s.heap.get? l=some {cls:=.type "list",data:=.seq items n})
 (h:Q .none {s with heap:=s.heap.update l (zad λ xs=>(xs.extract 0 (if x<0 then (x+(xs.size:Int)).toNat else min x.toNat xs.size)).push y++xs.extract (if x<0 then (x+(xs.size:Int)).toNat else min x.toNat xs.size)),toks:=s.toks}):wpAny (model prog wd) A (call (.builtin "list.insert") [.ref l,.int x u,y]) Q E s:=by
 have hm:=PySem.AutoSeq1.list_insert_list_int_val_1 l items n x u y hc hs;have ha:=PySem.F.args_list_insert_3 (.ref l) (.int x u) y;exact call_meets PySem.F.slot_list_insert ⟨_,e,rfl⟩ PySem.F.entry_list_insert ha hm ⟨e,h⟩
theorem Wg:nM X "list.insert" eF:=by
 intro pins s σ H x vs v us Q I rx rv h;obtain⟨l,xs,k,y,rfl,rfl,hH,hk,hz,q⟩:=h;cases rx;obtain⟨u,w,rfl,ru,bg⟩:=rv.two;obtain⟨tk,rfl⟩:=ru;obtain⟨z,aa,n,r,hl,e⟩:=I.Ro hH;have hlen:=r.length;have yl:=K2;have e7:¬ (!Builtin.List.listFitsIndex (k:Int))=true:=by
  unfold Builtin.List.listFitsIndex;simp;omega
 have hsz:aa.toArray.size<=sizeLine:=by rw[zj,<-hl];exact yH hz
 refine Yq (k:Int) tk w e7 hsz e ?_;refine⟨.AA,_,I.VW (its':=aa.take k++w::aa.drop k) hH e ?_ ?_ ?_,rfl,q⟩
 ·have e1:¬ ((k:Int)<0):=by omega
  have e2:min (k:Int).toNat aa.toArray.size=k:=by rw[yF,zj];omega
  simp only[e1,if_false,e2];apply Array.toList_inj.mp;simp;rw[za3 (by rw[za5];exact zx _)]
 ·exact RK r k bg
 ·rw[zC,zl,yA,za5];omega
noncomputable def Wh (i:Nat)(ρ:Ac)(mk md:M D):M Out:=match ρ[i]? with
 |some (some (.own ds))=>mk.bind λ k=>md.bind λ d=>match k with
  | .int j=>if 0<=j/\j.toNat<=ds.length/\ds.length<1000 then .ok (.next (ρ.set i (some (.own (ds.take j.toNat++d::ds.drop j.toNat))))) else .bad
  |_=>.bad
 |_=>.bad
theorem OS {K:za}{H:Hp}:∀ {vs:List V}{ds:List D}(n:Nat),Ai K H vs ds->Ai K H (vs.take n) (ds.take n)
 |_,_,0,_=>by rw[List.take_zero,List.take_zero];exact .nil
 |_,_,_+1,.nil=>.nil
 |_,_,n+1,.cons h t=>by rw[List.take_succ_cons,List.take_succ_cons];exact .cons h (OS n t)
theorem OU {K:za}{H:Hp}:∀ {vs:List V}{ds:List D}(n:Nat),Ai K H vs ds->Ai K H (vs.drop n) (ds.drop n)
 |_,_,0,h=>h
 |_,_,_+1,.nil=>.nil
 |_,_,n+1,.cons h t=>by rw[List.drop_succ_cons,List.drop_succ_cons];exact OU n t
theorem RL {K:za}{H:Hp}:∀ {vs ws:List V}{ds es:List D},Ai K H vs ds->Ai K H ws es->Ai K H (vs++ws) (ds++es)
 |_,_,_,_,.nil,k=>k
 |_,_,_,_,.cons h t,k=>.cons h (RL t k)
theorem Wi (i:Nat){x:Str}{p1 apos ad:Pos}(hv:PE X (.Name x p1) (Lb i))(hk:DE X WX true a f)(hd:DE X WX true b g)(hs:starEach [a,b] X.env=(false,eval a X.env)::starEach [b] X.env:=by rfl)(aK:starEach [b] X.env=[(false,eval b X.env)]:=by rfl)
 (aR:swapsWith (.Call (.Attribute (.Name x p1) "insert" apos) [a,b] [] ad) none pos.line X.env=pure false:=by rfl)
 (ao:attributeBase (.Name x p1) "insert" X.env (eval (.Name x p1) X.env)=eval (.Name x p1) X.env:=by rfl)
 (aG:((backTo ad (starEach [a,b] X.env)).all (λ x => !x.1)&&(backToKw ad (keywordEach [] X.env)).all (λ x=>x.1.isSome)&&decide (([a,b]:List Expr).length+([]:List Keyword).length+(if ([]:List Keyword).isEmpty then 0 else 1)<30))=true:=by rfl)
 (aq:(apos.endLine==ad.line)=true:=by rfl) (al:(backTo ad (starEach [b] X.env)).any (·.1)=false:=by rfl):
 DS X WX (.Expr (.Call (.Attribute (.Name x p1) "insert" apos) [a,b] [] ad) pos) (λ ρ=>Wh i ρ (f ρ) (g ρ)):=by
 obtain⟨ta,a1,a2⟩:=hk;obtain⟨tb,b1,b2⟩:=hd;refine⟨_,Ex (OC yQ PySem.F.slot_list_insert PySem.F.type_list_insert Wg hv (Ba a1 (Ba b1 C5 aK) hs) ao aG aq hs al) aR,λ P0 P σ H Z ρ E h=>?_⟩;dsimp only at h;unfold Wh at h;split at h
 ·rename_i ds e1;obtain⟨p,xs,h1,h2,h3,h4,h5⟩:=E.own i ds e1;refine⟨_,h1,.inl ⟨rfl,xs,.of h2⟩,a2 P0 P σ H _ ρ E ?_⟩;cases q:f ρ with
  |bad=>rw[q] at h;exact h
  |ex y=>rw[q] at h;exact λ H' s=>h H' P (E.tr s)
  |ok k =>
   rw[q] at h;simp only[M.A7] at h;intro w H1 s1 hw;have E1:=E.same s1;refine b2 P0 P σ H1 _ ρ E1 ?_;cases q2:g ρ with
   |bad=>rw[q2] at h;exact h
   |ex y=>rw[q2] at h;exact λ H' s=>h H' P ((E.tr s1).trans (E1.tr s))
   |ok d =>
    rw[q2] at h;simp only[M.A7] at h;intro v H2 s2 nz;have E2:=E1.same s2;have ca:=s1.trans s2;split at h
    ·rename_i j;cases hw;by_cases hj:0<=j/\j.toNat<=ds.length/\ds.length<1000
     ·rw[if_pos hj] at h;have v3:((j.toNat:Nat):Int)=j:=Int.toNat_of_nonneg hj.1;have sw:=h5.mono ca.del;refine⟨p,xs,j.toNat,v,rfl,by rw[v3],ca _ _ h2,by rw[h5.length];exact hj.2.1,AE (by rw[h5.length];exact yH hj.2.2),?_⟩;obtain⟨E3,t3⟩:=E2.mut e1 h1 h3 h4 (RL (OS j.toNat sw) (.cons nz (OU j.toNat sw)));exact h _ _ _ ((E.tr ca).trans t3) E3
     ·rw[if_neg hj] at h;exact h.elim
    ·exact h.elim
 ·exact h.elim
noncomputable def qD (ds:List D):M D:=match ds with
 |[.lst xs]=>(match Gk xs with|some bs=>.ok (.bl (bs.any id))|none=>.bad)
 |_=>.bad
end
noncomputable def kids:OT->List OT
 | .sh _=>[]
 | .lst ts| .tup ts| .Bl _ _ ts| .ins _ _ ts=>ts
noncomputable def GY:OT->List OT->OT
 | .sh d,_=>.sh d
 | .lst _,ts=>.lst ts
 | .tup _,ts=>.tup ts
 | .Bl b ks _,ts=>.Bl b ks ts
 | .ins x ns _,ts=>.ins x ns ts
noncomputable def Ke:OT->List Nat->Option OT
 |t,[]=>some t
 |t,j::π=>match (kids t)[j]? with|some s=>Ke s π|none=>none
noncomputable def EI:OT->List Nat->OT->OT
 |_,[],u=>u
 |t,j::π,u=>match (kids t)[j]? with|some s=>GY t ((kids t).set j (EI s π u))|none=>t
@[simp] theorem MI (t:OT):Ke t []=some t:=by unfold Ke;rfl
@[simp] theorem Dm (t u:OT):EI t [] u=u:=by unfold EI;rfl
theorem OV {t s:OT}{j:Nat}{π:List Nat}(h:(kids t)[j]?=some s):Ke t (j::π)=Ke s π:=by rw[Ke,h]
theorem OW {t s u:OT}{j:Nat}{π:List Nat}(h:(kids t)[j]?=some s):EI t (j::π) u=GY t ((kids t).set j (EI s π u)):=by rw[EI,h]
section
variable {K:za}{H H':Hp}{P P':Addr->Prop}
def Ck (K:za)(H:Hp)(P:Addr->Prop)(v:V)(t:OT)(q:List Addr)(xs:List V):Prop:=match t with
 | .sh _=>False
 | .lst ts=>∃p,v=.ref p/\q=[p]/\H p=some (.lst xs)
 | .tup ts=>∃p,v=.ref p/\q=[]/\del H P p=some (.tup xs)
 | .Bl false ks ts=>∃p kvs,v=.ref p/\q=[p]/\H p=some (.dK kvs)/\ks=(kvs.map λ kv=>Dk kv.1)/\xs=kvs.map yT
 | .Bl true ks ts=>∃p kvs,v=.ref p/\q=[p]/\H p=some (.dT kvs)/\ks=(kvs.map λ kv=>.tup (kv.1.map Dk))/\xs=kvs.map yT
 | .ins x ns ts=>∃p C dx fs,v=.ref p/\q=[p]/\zF K mainGlobals x=some (some (.ref C))/\H p=some (.ins C dx fs)/\ns=fs.map zQ/\xs=fs.map yT
theorem Ck.own {v:V}{t:OT}{q:List Addr}{xs:List V}{fp:List Addr}(h:Ck K H P v t q xs)(r:Au K H P xs (kids t) fp):C4 K H P v t (q++fp):=by
 cases t with
 |sh d=>exact h.elim
 |lst ts=>obtain⟨p,rfl,rfl,h⟩:=h;exact .lst h r
 |tup ts=>obtain⟨p,rfl,rfl,h⟩:=h;exact .tup h r
 |Bl b ks ts =>
  cases b with
  |false=>obtain⟨p,kvs,rfl,rfl,h,rfl,rfl⟩:=h;exact .dK h r
  |true=>obtain⟨p,kvs,rfl,rfl,h,rfl,rfl⟩:=h;exact .dT h r
 |ins x ns ts=>obtain⟨p,C,dx,fs,rfl,rfl,n,h,rfl,rfl⟩:=h;exact .ins n h r
theorem C4.node {v:V}{t:OT}{fp:List Addr}(h:C4 K H P v t fp)(hk:kids t≠[]\/∀d,t≠.sh d):∃q xs fq,fp=q++fq/\Ck K H P v t q xs/\Au K H P xs (kids t) fq:=by
 cases h with
 |sh h=>rcases hk with hk|hk;exact (hk rfl).elim;exact (hk _ rfl).elim
 |lst h r=>exact⟨[_],_,_,rfl,⟨_,rfl,rfl,h⟩,r⟩
 |tup h r=>exact⟨[],_,_,rfl,⟨_,rfl,rfl,h⟩,r⟩
 |dK h r|dT h r=>exact⟨[_],_,_,rfl,⟨_,_,rfl,rfl,h,rfl,rfl⟩,r⟩
 |ins n h r=>exact⟨[_],_,_,rfl,⟨_,_,_,_,rfl,rfl,n,h,rfl,rfl⟩,r⟩
theorem Ck.move (sm:Ad (del H P) (del H' P')){v:V}{t:OT}{q:List Addr}{xs:List V}(k:∀a∈q,H' a=H a)(h:Ck K H P v t q xs):Ck K H' P' v t q xs:=by
 cases t with
 |sh d=>exact h.elim
 |lst ts=>obtain⟨p,rfl,rfl,h⟩:=h;exact⟨p,rfl,rfl,(k p zd).trans h⟩
 |tup ts=>obtain⟨p,rfl,rfl,h⟩:=h;exact⟨p,rfl,rfl,sm _ _ h⟩
 |Bl b ks ts =>
  cases b with
  |false|true=>obtain⟨p,kvs,rfl,rfl,h,rfl,rfl⟩:=h;exact⟨p,kvs,rfl,rfl,(k p zd).trans h,rfl,rfl⟩
 |ins x ns ts=>obtain⟨p,C,dx,fs,rfl,rfl,n,h,rfl,rfl⟩:=h;exact⟨p,C,dx,fs,rfl,rfl,n,(k p zd).trans h,rfl,rfl⟩
theorem Ck.kids {v:V}{t:OT}{q:List Addr}{xs:List V}(h:Ck K H P v t q xs)(ts:List OT):Ck K H P v (GY t ts) q xs:=by
 cases t with
 |sh d=>exact h.elim
 |lst us|tup us=>exact h
 |Bl b ks us=>cases b<;>exact h
 |ins x ns us=>exact h
theorem Q7 {v:V}{t:OT}{q:List Addr}{xs:List V}(h:Ck K H P v t q xs)(ts:List OT):L2.kids (GY t ts)=ts:=by
 cases t with
 |sh d=>exact h.elim
 |lst us|tup us|Bl b ks us|ins x ns us=>rfl
theorem Ck.inj {v:V}{t:OT}{q q':List Addr}{xs dq:List V}(h:Ck K H P v t q xs)(h':Ck K H P v t q' dq):q=q'/\xs=dq:=by
 cases t with
 |sh d=>exact h.elim
 |lst ts|tup ts=>obtain⟨p,rfl,rfl,h⟩:=h;obtain⟨p',e,rfl,h'⟩:=h';cases e;rw[h] at h';cases h';exact⟨rfl,rfl⟩
 |Bl b ks ts =>
  cases b with
  |false|true=>obtain⟨p,kvs,rfl,rfl,h,_,rfl⟩:=h;obtain⟨p',n4,e,rfl,h',_,rfl⟩:=h';cases e;rw[h] at h';cases h';exact⟨rfl,rfl⟩
 |ins x ns ts=>obtain⟨p,C,dx,fs,rfl,rfl,n,h,_,rfl⟩:=h;obtain⟨p',C',ym,bN,e,rfl,n',h',_,rfl⟩:=h';cases e;rw[h] at h';cases h';exact⟨rfl,rfl⟩
inductive Gm (K:za) (H:Hp) (P:Addr->Prop):V->OT->List Nat->V->OT->Prop
 |nil {v t}:Gm K H P v t [] v t
 |cons {v t q xs j x s π v1 t1}:Ck K H P v t q xs->xs[j]?=some x->(kids t)[j]?=some s->Gm K H P x s π v1 t1->Gm K H P v t (j::π) v1 t1
theorem Gm.sub {v v1:V}{t t1:OT}{π:List Nat}(h:Gm K H P v t π v1 t1):Ke t π=some t1:=by
 induction h with
 |nil=>exact MI _
 |cons _ _ hs _ ih=>rw[OV hs];exact ih
theorem Gm.snoc {v v1 x:V}{t t1 s:OT}{π:List Nat}{q:List Addr}{xs:List V}{j:Nat}(h:Gm K H P v t π v1 t1)(n:Ck K H P v1 t1 q xs)(hx:xs[j]?=some x)(hs:(kids t1)[j]?=some s):Gm K H P v t (π++[j]) x s:=by
 induction h with
 |nil=>exact .cons n hx hs .nil
 |cons n' n5 v4 _ ih=>exact .cons n' n5 v4 (ih n hs)
theorem Au.get:∀ {xs:List V}{ts:List OT}{fp:List Addr}{j:Nat}{x:V}{s:OT},Au K H P xs ts fp->xs[j]?=some x->ts[j]?=some s->∃pre fs post,fp=pre++fs++post/\C4 K H P x s fs
 |_,_,_,_,_,_,.nil,e,_=>by simp at e
 |_,_,_,0,_,_,.cons h r,e,e'=>by
  simp at e e';subst e;subst e';exact⟨[],_,_,rfl,h⟩
 |_,_,_,j+1,_,_,.cons (fp:=f1) h r,e,e'=>by
  obtain⟨pre,fs,post,z,q⟩:=Au.get r (by simpa using e) (by simpa using e');exact⟨f1++pre,fs,post,by rw[z];simp,q⟩
theorem Au.len:∀ {xs:List V}{ts:List OT}{fp:List Addr},Au K H P xs ts fp->xs.length=ts.length
 |_,_,_,.nil=>rfl
 |_,_,_,.cons _ r=>by rw[zl,zl,r.len]
theorem Au.uV:∀ {xs:List V}{ts:List OT}{fp:List Addr}{j:Nat}{s:OT},Au K H P xs ts fp->ts[j]?=some s->∃x,xs[j]?=some x:=fun {xs ts fp j s} h e=>by
 have hl:j<xs.length:=by rw[h.len];exact (zw.mp e).1
 exact⟨_,zi hl⟩
theorem C4.part {v v1:V}{t t1:OT}{π:List Nat}{fp:List Addr}(h:C4 K H P v t fp)(s:Gm K H P v t π v1 t1):∃ay,C4 K H P v1 t1 ay/\(∀a∈ay,a∈fp)/\(fp.Nodup->ay.Nodup):=by
 induction s generalizing fp with
 |nil=>exact⟨fp,h,λ _ h=>h,λ h=>h⟩
 |cons n hx hs _ ih =>
  obtain⟨q,xs,fq,rfl,n',r⟩:=h.node (.inl λ z=>by rw[z] at hs;cases hs);obtain⟨rfl,rfl⟩:=n.inj n';obtain⟨pre,fs,post,rfl,o⟩:=r.get hx hs;obtain⟨ay,o1,k,kn⟩:=ih o;exact⟨ay,o1,λ a ha=>zm _ (zL _ (zm _ (k a ha))),λ nd=>kn (zA.mp (zA.mp (zA.mp nd).2.1).1).2.1⟩
theorem Au.put (sm:Ad (del H P) (del H' P')):∀ {xs:List V}{ts:List OT}{fp:List Addr}{j:Nat}{x:V}{s s':OT}{fs bN:List Addr},Au K H P xs ts fp->xs[j]?=some x->ts[j]?=some s->C4 K H P x s fs->C4 K H' P' x s' bN->(∀a∈fp,a∉fs->H' a=H a)->fp.Nodup->bN.Nodup->(∀a∈bN,a∈fp->a∈fs)->
 ∃ai,Au K H' P' xs (ts.set j s') ai/\ai.Nodup/\∀a∈ai,a∈bN\/(a∈fp/\a∉fs)
 |_,_,_,_,_,_,_,_,_,.nil,e,_,_,_,_,_,_,_=>by simp at e
 |_,_,_,0,x,s,s',fs,bN,.cons (fp:=f1) (fq:=f2) h r,e,e',o,o',k,nd,dw,dj=>by
  simp at e e';subst e;subst e';have:=h.Ci o;subst this;have aY:=zA.mp nd;have k2:∀a∈f2,a∉f1:=λ a ha hb=>aY.2.2 a hb a ha rfl;refine⟨bN++f2,.cons o' (r.move sm λ a ha=>k a (zm _ ha) (k2 a ha)),zA.mpr ⟨dw,aY.2.1,λ a ha b hb z=>?_⟩,λ a ha=>?_⟩
  ·subst z;exact k2 a hb (dj a ha (zm _ hb))
  ·rcases zv.mp ha with ha|ha
   ·exact .inl ha
   ·exact .inr ⟨zm _ ha,k2 a ha⟩
 |_,_,_,j+1,x,s,s',fs,bN,.cons (vs:=sf) (ts:=v6) (fp:=f1) (fq:=f2) h r,e,e',o,o',k,nd,dw,dj=>by
  have aY:=zA.mp nd;have e2:sf[j]?=some x:=by simpa using e
  have e3:v6[j]?=some s:=by simpa using e'
  obtain⟨pre,fx,post,hf,ox⟩:=r.get e2 e3;have:=ox.Ci o;subst this;have k1:∀a∈f1,a∉fx:=λ a ha hb=>aY.2.2 a ha a (by rw[hf];exact zL _ (zm _ hb)) rfl;obtain⟨ai,q1,q2,q3⟩:=Au.put sm r e2 e3 o o' (λ a ha hn=>k a (zm _ ha) hn) aY.2.1 dw (λ a ha hb=>dj a ha (zm _ hb));refine⟨f1++ai,.cons (h.move sm λ a ha=>k a (zL _ ha) (k1 a ha)) q1,zA.mpr ⟨aY.1,q2,λ a ha b hb z=>?_⟩,λ a ha=>?_⟩
  ·subst z;rcases q3 a hb with z|z
   ·exact k1 a ha (dj a z (zL _ ha))
   ·exact aY.2.2 a ha a z.1 rfl
  ·rcases zv.mp ha with ha|ha
   ·exact .inr ⟨zL _ ha,k1 a ha⟩
   ·rcases q3 a ha with z|z
    ·exact .inl z
    ·exact .inr ⟨zm _ z.1,z.2⟩
theorem C4.put (sm:Ad (del H P) (del H' P')){v v1:V}{t t1 u:OT}{π:List Nat}{fp ay fu:List Addr}(h:C4 K H P v t fp)(s:Gm K H P v t π v1 t1)(o:C4 K H P v1 t1 ay)(o':C4 K H' P' v1 u fu)(k:∀a∈fp,a∉ay->H' a=H a)(nd:fp.Nodup)(dw:fu.Nodup)(dj:∀a∈fu,a∈fp->a∈ay):
 ∃ai,C4 K H' P' v (EI t π u) ai/\ai.Nodup/\∀a∈ai,a∈fu\/(a∈fp/\a∉ay):=by
 induction s generalizing fp with
 |nil =>
  rw[Dm];exact⟨fu,o',dw,λ a ha=>.inl ha⟩
 | @cons v t q xs j x s π v1 t1 n hx hs s1 ih =>
  obtain⟨q',dq,fq,rfl,n',r⟩:=h.node (.inl λ z=>by rw[z] at hs;cases hs);obtain⟨rfl,rfl⟩:=n.inj n';have i9:=zA.mp nd;obtain⟨pre,fs,post,hf,ox⟩:=r.get hx hs;have sub:∀a∈fs,a∈fq:=λ a ha=>by rw[hf];exact zL _ (zm _ ha)
  have v7:fs.Nodup:=by
   have:=i9.2.1;rw[hf] at this;exact (zA.mp (zA.mp this).1).2.1
  obtain⟨fz,oz,kz,_⟩:=ox.part s1;have:=oz.Ci o;subst this;obtain⟨bN,q1,q2,q3⟩:=ih ox o o' (λ a ha hn=>k a (zm _ (sub a ha)) hn) v7 (λ a ha hb=>dj a ha (zm _ (sub a hb)));have qf:∀a∈q,a∉fs:=λ a ha hb=>i9.2.2 a ha a (sub a hb) rfl;have kq:∀a∈q,H' a=H a:=λ a ha=>k a (zL _ ha) λ z=>qf a ha (kz a z);obtain⟨ai,p1,p2,p3⟩:=r.put sm hx hs ox q1 (λ a ha hn=>k a (zm _ ha) λ z=>hn (kz a z)) i9.2.1 q2 (λ a ha hb=>by
   rcases q3 a ha with z|z
   ·exact kz a (dj a z (zm _ hb))
   ·exact z.1)
  rw[OW hs];have n2:=(n.move sm kq).kids ((kids t).set j (EI s π u));have o2:=n2.own (fp:=ai) (by rw[Q7 n];exact p1);refine⟨q++ai,o2,zA.mpr ⟨i9.1,p2,λ a ha b hb z=>?_⟩,λ a ha=>?_⟩
  ·subst z;rcases p3 a hb with z|z
   ·rcases q3 a z with y|y
    ·exact qf a ha (kz a (dj a y (zL _ ha)))
    ·exact qf a ha y.1
   ·exact i9.2.2 a ha a z.1 rfl
  ·rcases zv.mp ha with ha|ha
   ·exact .inr ⟨zL _ ha,λ z=>qf a ha (kz a z)⟩
   ·rcases p3 a ha with z|z
    ·rcases q3 a z with y|y
     ·exact .inl y
     ·exact .inr ⟨zm _ (sub a y.1),y.2⟩
    ·exact .inr ⟨zm _ z.1,λ y=>z.2 (kz a y)⟩
end
def PU (P:Addr->Prop)(fp:List Addr):Addr->Prop:=λ a=>P a\/a∈fp
theorem Ic {P:Addr->Prop}{fp:List Addr}:∀a,P a->PU P fp a:=λ a h=>.inl h
theorem Bz {P:Addr->Prop}{fp:List Addr}{H H':Hp}(s:Ad H H')(hn:∀a∈fp,H a=none):Ad (del H P) (del H' (PU P fp)):=λ b o e=>by
 obtain⟨h1,h2⟩:=Am e;rw[Aw λ z=>z.elim h1 λ w=>by rw[hn b w] at h2;cases h2];exact s b o h2
theorem TV {P:Addr->Prop}{H:Hp}:del H (PU P [])=del H P:=by
 funext b;by_cases h:P b
 ·rw[D4 h,D4 (.inl h)]
 ·rw[Aw h,Aw λ z=>z.elim h λ w=>by cases w]
theorem Gn {P:Addr->Prop}{fp:List Addr}{K:za}{H':Hp}{Q:Addr->Prop}{v:V}{t:OT}(hP:∀a,P a->Dq H' a)(o:C4 K H' Q v t fp):∀a,PU P fp a->Dq H' a:=λ a h=>h.elim (hP a) (o.BS a)
theorem Lz {P:Addr->Prop}{fp:List Addr}{K:za}{H':Hp}{Q:Addr->Prop}{v:List V}{t:List OT}(hP:∀a,P a->Dq H' a)(o:Au K H' Q v t fp):∀a,PU P fp a->Dq H' a:=λ a h=>h.elim (hP a) (o.BS a)
theorem Ak.more {K:za}{P0:Et}{P P':Addr->Prop}{H H':Hp}{σ:St}{ρ:Ac}(E:Ak K P0 P H σ ρ)(e:Ad H H')(hs:∀a,P a->P' a)(ht:∀a,P' a->Dq H' a)(sm:Ad (del H P) (del H' P')):Ak K P0 P' H' σ ρ:=by
 have keep:∀(c:Cl) (v:V) (fp:List Addr),Dl K H P c v fp->∀a∈fp,H' a=H a:=λ c v fp o a ha=>by
  obtain⟨xs,q⟩:=o.at a ha;rw[q];exact e _ _ q
 exact⟨λ a h=>hs a (E.sub a h),ht,λ i d h=>let ⟨v,h1,h2⟩:=E.val i d h;⟨v,h1,h2.mono sm⟩,
  λ i c h io=>let ⟨v,fp,h1,h2,h3,h4⟩:=E.ows i c h io;⟨v,fp,h1,h2.move sm (keep c v fp h2),λ a ha=>⟨hs a (h3 a ha).1,(h3 a ha).2⟩,h4⟩,
  λ i j c c' v v' fp ai hi hj si sj h h' ae=>E.XZ sm (λ v fp _ o a ha=>keep _ _ _ o a ha) (λ v fp _ o a ha=>keep _ _ _ o a ha) hi hj si sj h h' ae,E.len,E.pin⟩
def TX (K:za)(WX:Str->Hp->Prop)(P:Addr->Prop)(H:Hp)(Q:VK):M OT->Prop
 | .ok t=>∀v fp H',Ad H H'->(∀a∈fp,H a=none)->fp.Nodup->C4 K H' (PU P fp) v t fp->Q v H'
 | .ex x=>∀H',Ad H H'->WX x H'
 | .bad=>False
def vV (K:za)(WX:Str->Hp->Prop)(P:Addr->Prop)(H:Hp)(Q:List V->Hp->Prop):M (List OT)->Prop
 | .ok t=>∀v fp H',Ad H H'->(∀a∈fp,H a=none)->fp.Nodup->Au K H' (PU P fp) v t fp->Q v H'
 | .ex x=>∀H',Ad H H'->WX x H'
 | .bad=>False
theorem CD {H H':Hp}(s:Ad H H'){a:Addr}(h:H' a=none):H a=none:=by
 cases q:H a with
 |none=>rfl
 |some o=>rw[s a o q] at h;cases h
section
variable {K:za}{WX:Str->Hp->Prop}{P:Addr->Prop}{H H':Hp}
theorem TX.same {Q:VK}{m:M OT}(h:TX K WX P H Q m)(e:Ad H H'):TX K WX P H' Q m:=by
 cases m with
 |ok d=>exact λ v fp H2 q hn nd o=>h v fp H2 (e.trans q) (λ a ha=>CD e (hn a ha)) nd o
 |ex x=>exact λ H2 q=>h H2 (e.trans q)
 |bad=>exact h
end
def DN (X:Cx)(WX:Str->Hp->Prop)(e:Expr)(f:Ac->M OT):Prop:=
 ∃t,PE X e t/\∀P0 P σ H Q ρ,Ak X.K P0 P H σ ρ->TX X.K WX P H Q (f ρ)->t σ H Q
def qE (X:Cx)(WX:Str->Hp->Prop)(es:List Expr)(f:Ac->M (List OT)):Prop:=
 ∃t,PA X es t/\(∀P0 P σ H Q ρ,Ak X.K P0 P H σ ρ->vV X.K WX P H Q (f ρ)->t σ H Q)/\∀ρ ts,f ρ=.ok ts->ts.length=es.length
noncomputable def qG (d:D):M OT:=.ok (.sh d)
noncomputable def nO (t:OT):M D:=.ok (er t)
section
variable {X:Cx}{WX:Str->Hp->Prop}{c:Bool}{P0:Et}{P:Addr->Prop}{H:Hp}{σ:St}{ρ:Ac}{a b e:Expr}{f g:Ac->M D}{fn:Ac->M OT}{pos:Pos}{es:List Expr}
theorem AO (h:DE X WX true e f):DN X WX e (λ ρ=>(f ρ).bind qG):=by
 obtain⟨t,h1,h2⟩:=h;refine⟨t,h1,λ P0 P σ H Q ρ E g=>h2 P0 P σ H Q ρ E ?_⟩;dsimp only at g;cases q:f ρ with
 |bad|ex x=>rw[q] at g;exact g
 |ok d=>rw[q] at g;exact λ v H' s hv=>g v [] H' s (λ a ha=>by cases ha) yM (.sh (by rw[TV];exact hv))
theorem Ae (h:DN X WX e fn):DE X WX c e (λ ρ=>(fn ρ).bind nO):=by
 suffices z:DE X WX true e (λ ρ=>(fn ρ).bind nO) by
  cases c with
  |true=>exact z
  |false=>exact Ms z
 obtain⟨t,h1,h2⟩:=h;refine⟨t,h1,λ P0 P σ H Q ρ E g=>h2 P0 P σ H Q ρ E ?_⟩;dsimp only at g;cases q:fn ρ with
 |bad|ex x=>rw[q] at g;exact g
 |ok d =>
  rw[q] at g;exact λ v fp H' s hn nd o=>g v H' s (o.has Ic λ a ha z=>(E.BS a z).no (hn a ha))
theorem Fo:qE X WX [] (λ _=>.ok []):=⟨_,C5,λ P0 P σ H Q ρ E h=>h [] [] H (Ad.refl H) (λ a ha=>by cases ha) yM .nil,λ ρ ds h=>by cases h;rfl⟩
theorem RM {es:List Expr}{fs:Ac->M (List OT)}(he:DN X WX e fn)(hr:qE X WX es fs)(hs:starEach (e::es) X.env=(false,eval e X.env)::starEach es X.env:=by rfl):
 qE X WX (e::es) (λ ρ=>(fn ρ).bind λ d=>(fs ρ).bind λ ds=>.ok (d::ds)):=by
 obtain⟨te,e1,e2⟩:=he;obtain⟨tr,r1,r2,r3⟩:=hr;refine⟨_,Ba e1 r1 hs,λ P0 P σ H Q ρ E h=>?_,λ ρ ds h=>?_⟩
 rotate_left
 ·dsimp only at h;cases q:fn ρ with
  |bad|ex x=>rw[q] at h;cases h
  |ok x =>
   rw[q] at h;cases q2:fs ρ with
   |bad|ex x=>rw[q2] at h;cases h
   |ok xs =>
    rw[q2] at h;cases h;rw[zl,zl,r3 ρ xs q2]
 dsimp only at h;refine e2 P0 P σ H _ ρ E ?_;cases q:fn ρ with
 |bad|ex x=>rw[q] at h;exact h
 |ok x =>
  rw[q] at h;intro v fp H1 s1 n1 gc o1;have E1:Ak X.K P0 (PU P fp) H1 σ ρ:=E.more s1 Ic (Gn (E.same s1).BS o1) (Bz s1 n1);refine r2 P0 (PU P fp) σ H1 _ ρ E1 ?_;cases q2:fs ρ with
  |bad=>rw[q2] at h;exact h
  |ex y=>rw[q2] at h;exact λ H' s=>h H' (s1.trans s)
  |ok ds =>
   rw[q2] at h;intro vs fq H2 s2 n2 aY o2;have dj:∀a∈fp,a∉fq:=λ a ha hb=>(o1.BS a ha).no (n2 a hb);have eP:PU (PU P fp) fq=PU P (fp++fq):=by
    funext a;simp only[PU,zv,or_assoc]
   have sm:Ad (del H1 (PU P fp)) (del H2 (PU P (fp++fq))):=by rw[<-eP];exact Bz s2 n2
   refine h _ (fp++fq) H2 (s1.trans s2) (λ a ha=>?_) (zA.mpr ⟨gc,aY,λ a ha b hb z=>dj a ha (by rw[z];exact hb)⟩) (.cons (o1.move sm λ a ha=>?_) (by rw[<-eP];exact o2))
   ·rcases zv.mp ha with ha|ha
    ·exact n1 a ha
    ·exact CD s1 (n2 a ha)
   ·obtain⟨o,z,_⟩:=o1.BS a ha;rw[z];exact s2 _ _ z
theorem Yr {P:Addr->Prop}{fp:List Addr}{p:Addr}{H:Hp}{o:HO}(hn:H p=none)(hP:∀a,PU P fp a->Dq H a):Ad (del H (PU P fp)) (del (upd H p o) (PU P (p::fp))):=λ b u e=>by
 obtain⟨h1,h2⟩:=Am e;have hb:b≠p:=Av h2 hn;rw[Aw λ z=>z.elim (λ z=>h1 (.inl z)) λ w=>(zp.mp w).elim hb λ w=>h1 (.inr w),Ah hb];exact h2
theorem Kf {fs:Ac->M (List OT)}(ha:qE X WX es fs)(hz:es.length<=1000:=by decide):DN X WX (.List es pos) (λ ρ=>(fs ρ).bind λ ts=>.ok (.lst ts)):=by
 obtain⟨ta,a1,a2,a3⟩:=ha;refine⟨_,PJ a1,λ P0 P σ H Q ρ E h=>?_⟩;dsimp only at h;refine a2 P0 P σ H _ ρ E ?_;cases q:fs ρ with
 |bad|ex y=>rw[q] at h;exact h
 |ok ts =>
  rw[q] at h;simp only[M.A7] at h;intro vs fp H1 s1 n1 gc o1;have hP:=Lz (E.same s1).BS o1;refine⟨yH (AE (by rw[o1.len,a3 ρ ts q];exact hz)),λ p hp=>?_⟩;have ae:∀a∈fp,a≠p:=λ a ha z=>(o1.BS a ha).no (by rw[z];exact hp);exact h _ (p::fp) _ (s1.trans (AJ hp _)) (λ a ha=>(zp.mp ha).elim (λ z=>by rw[z];exact CD s1 hp) (n1 a)) (zV.mpr ⟨λ z=>ae p z rfl,gc⟩) (.lst Ao (o1.move (Yr hp hP) λ a ha=>Ah (ae a ha)))
theorem eG {P:Addr->Prop}{fp:List Addr}{p:Addr}{H:Hp}{o:HO}(hn:H p=none)(hP:∀a,PU P fp a->Dq H a):Ad (del H (PU P fp)) (del (upd H p o) (PU P fp)):=λ b u e=>by
 obtain⟨h1,h2⟩:=Am e;have hb:b≠p:=Av h2 hn;rw[Aw h1,Ah hb];exact h2
theorem lK {fs:Ac->M (List OT)}{x1}(ha:qE X WX es fs)(hz:es.length<=1000:=by decide):DN X WX (.Tuple es x1 pos) (λ ρ=>(fs ρ).bind λ ts=>.ok (.tup ts)):=by
 obtain⟨ta,a1,a2,a3⟩:=ha;refine⟨_,XB a1,λ P0 P σ H Q ρ E h=>?_⟩;dsimp only at h;refine a2 P0 P σ H _ ρ E ?_;cases q:fs ρ with
 |bad|ex y=>rw[q] at h;exact h
 |ok ts =>
  rw[q] at h;simp only[M.A7] at h;intro vs fp H1 s1 n1 gc o1;have hP:=Lz (E.same s1).BS o1;refine⟨yH (AE (by rw[o1.len,a3 ρ ts q];exact hz)),λ p hp=>?_⟩;have ae:∀a∈fp,a≠p:=λ a ha z=>(o1.BS a ha).no (by rw[z];exact hp);refine h _ fp _ (s1.trans (AJ hp _)) n1 gc (.tup ?_ (o1.move (eG hp hP) λ a ha=>Ah (ae a ha)));rw[Aw λ z=>(hP p z).no hp];exact Ao
theorem Ai.ows {K:za}{H:Hp}{P:Addr->Prop}:∀ {xs:List V}{ds:List D},Ai K (del H P) xs ds->Au K H P xs (ds.map .sh) []
 |_,_,.nil=>.nil
 |_,_,.cons h t=>.cons (.sh h) t.ows
theorem TX.Kg {K:za}{WX:Str->Hp->Prop}{P:Addr->Prop}{H H1:Hp}{Q:VK}{xs:List V}{ds:List D}(h:TX K WX P H Q (.ok (.lst (ds.map .sh))))(s1:Ad H H1)(hx:Ai K (del H1 P) xs ds):∀p,H1 p=none->Q (.ref p) (upd H1 p (.lst xs)):=λ p hp=>by
 have hn:∀a∈[p],H1 a=none:=λ a ha=>by rw[zh.mp ha];exact hp
 exact h _ [p] _ (s1.trans (AJ hp _)) (λ a ha=>CD s1 (hn a ha)) (by simp) (.lst Ao (hx.mono (Bz (AJ hp _) hn)).ows)
theorem Au.lL {K:za}{H:Hp}{P:Addr->Prop}:∀ {xs:List V}{ds:List D}{fp:List Addr},Au K H P xs (ds.map .sh) fp->fp=[]/\Ai K (del H P) xs ds
 |_,[],_,.nil=>⟨rfl,.nil⟩
 |_,d::ds,_,.cons (.sh h) r=>by
  obtain⟨rfl,q⟩:=Au.lL r;exact⟨rfl,.cons h q⟩
noncomputable def IT:Cl->Cl
 | .val d=>.val d
 | .own ds=>.val (.lst ds)
 | .ow (.rows C2)=>.val (.lst (C2.map D.lst))
 | .ow (.Lf _ ds)=>.val (.lst ds)
 | .ow (.tree _ t)=>.val (er t)
noncomputable def Dn (ρ:Ac):Ac:=ρ.map λ o=>o.map IT
@[simp] theorem IU:Dn []=[]:=rfl
@[simp] theorem GZ (ρ:Ac):Dn (none::ρ)=none::Dn ρ:=rfl
@[simp] theorem H9 (c:Cl) (ρ:Ac):Dn (some c::ρ)=some (IT c)::Dn ρ:=rfl
theorem Ak.low {K:za}{P0:Et}{P:Addr->Prop}{H:Hp}{σ:St}{ρ:Ac}(E:Ak K P0 P H σ ρ):Ak K P0 P0 H σ (Dn ρ):=by
 have key:∀(i:Nat) (c:Cl),(Dn ρ)[i]?=some (some c)->∃c',ρ[i]?=some (some c')/\c=IT c':=λ i c h=>by
  unfold Dn at h;rw[z7] at h;cases q:ρ[i]? with
  |none=>rw[q] at h;cases h
  |some o =>
   rw[q] at h;cases o with
   |none=>cases h
   |some c'=>cases h;exact⟨c',rfl,rfl⟩
 have n9:∀c,Hy (IT c)=false:=λ c=>by
  cases c with
  |val d|own ds=>rfl
  |ow o=>cases o<;>rfl
 have ja:∀c,OG (IT c)=none:=λ c=>by
  cases c with
  |val d|own ds=>rfl
  |ow o=>cases o<;>rfl
 have v8:∀c v fp,¬ Dl K H P0 (IT c) v fp:=λ c v fp h=>by
  cases c with
  |val d|own ds=>exact h
  |ow o=>cases o<;>exact h
 refine⟨λ _ h=>h,λ a h=>E.BS a (E.sub a h),λ i d h=>?_,λ i c h io=>?_,λ i j c c' v v' fp ai hi hj si sj h h' ae=>?_,by unfold Dn;rw[zc];exact E.len,λ i c n h hp=>by obtain⟨c',h1,rfl⟩:=key i _ h;rw[ja] at hp;cases hp⟩
 ·obtain⟨c,h1,h2⟩:=key i _ h;cases c with
  |val d' =>
   cases h2;obtain⟨v,q1,q2⟩:=E.val i d h1;exact⟨v,q1,q2.mono (CK E.sub)⟩
  |own ds =>
   cases h2;obtain⟨p,xs,q1,q2,q3,q4,q5⟩:=E.own i ds h1;exact⟨_,q1,.lst (.of (show del H P0 p=_ by rw[Aw q4];exact q2)) (q5.mono (CK E.sub))⟩
  |ow o =>
   obtain⟨v,fp,q1,q2,q3,q4⟩:=E.ows i _ h1 rfl;cases o with
   |rows C2 =>
    cases h2;obtain⟨p,ps,rfl,rfl,q5,q6⟩:=q2;exact⟨_,q1,.lst (.of (show del H P0 p=_ by rw[Aw (q3 p zd).2];exact q5)) (q6.lD E.sub λ a ha=>(q3 a (ze _ ha)).2)⟩
   |Lf p ds =>
    cases h2;obtain⟨p,xs,rfl,rfl,q5,q6⟩:=q2;exact⟨_,q1,.lst (.of (show del H P0 p=_ by rw[Aw (q3 p zd).2];exact q5)) (q6.mono (CK E.sub))⟩
   |tree p t =>
    cases h2;exact⟨_,q1,C4.has E.sub (λ a ha=>(q3 a ha).2) q2⟩
 ·obtain⟨c',h1,rfl⟩:=key i _ h;rw[n9] at io;cases io
 ·obtain⟨c1,h1,rfl⟩:=key i _ hi;exact (v8 _ _ _ h).elim
theorem Ys {c:Bool}(h:DE X WX c e f):DE X WX false e (λ ρ=>f (Dn ρ)):=by
 obtain⟨t,h1,h2⟩:=h;refine⟨t,h1,λ P0 P σ H Q ρ E g=>h2 P0 P0 σ H Q (Dn ρ) E.low ?_⟩;have e:Lv c P0 P0=P0:=by cases c<;>rfl
 rw[e];exact g
theorem Ie {ft:Ac->M Bool}(h:DT X WX e ft):DT X WX e (λ ρ=>ft (Dn ρ)):=by
 obtain⟨t,h1,h2⟩:=h;exact⟨t,h1,λ P0 P σ H Q ρ E g=>h2 P0 P0 σ H Q (Dn ρ) E.low g⟩
mutual
noncomputable def EZ:OT->Bool
 | .sh d=>GX d
 | .lst ts| .tup ts| .Bl _ _ ts| .ins _ _ ts=>Ea ts
noncomputable def Ea:List OT->Bool
 |[]=>true
 |t::r=>EZ t&&Ea r
end
mutual
theorem C4.clean {K:za}{H:Hp}{P P':Addr->Prop}(ht:∀a,P' a->Dq H a):∀ {v:V}{t:OT}{fp:List Addr},EZ t=true->C4 K H P v t fp->C4 K H P' v t fp
 |_,_,_,n,.sh h=>.sh (h.GX ht (by rw[EZ] at n;exact n))
 |_,_,_,n,.lst h r=>.lst h (Au.clean ht (by rw[EZ] at n;exact n) r)
 |_,_,_,n,.tup h r=>.tup (UY ht h) (Au.clean ht (by rw[EZ] at n;exact n) r)
 |_,_,_,n,.dK h r=>.dK h (Au.clean ht (by rw[EZ] at n;exact n) r)
 |_,_,_,n,.dT h r=>.dT h (Au.clean ht (by rw[EZ] at n;exact n) r)
 |_,_,_,n,.ins x h r=>.ins x h (Au.clean ht (by rw[EZ] at n;exact n) r)
theorem Au.clean {K:za}{H:Hp}{P P':Addr->Prop}(ht:∀a,P' a->Dq H a):∀ {v:List V}{t:List OT}{fp:List Addr},Ea t=true->Au K H P v t fp->Au K H P' v t fp
 |_,_,_,_,.nil=>.nil
 |_,_,_,n,.cons h r=>by
  rw[Ea,zP] at n;exact .cons (C4.clean ht n.1 h) (Au.clean ht n.2 r)
end
noncomputable def O5 (m:M OT):M OT:=m.bind λ t=>if EZ t=true then .ok t else .bad
theorem Eb (h:DN X WX e fn):DN X WX e (λ ρ=>O5 (fn (Dn ρ))):=by
 obtain⟨t,h1,h2⟩:=h;refine⟨t,h1,λ P0 P σ H Q ρ E g=>h2 P0 P0 σ H Q (Dn ρ) E.low ?_⟩;unfold O5 at g;dsimp only at g;cases q:fn (Dn ρ) with
 |bad|ex x=>rw[q] at g;exact g
 |ok t =>
  rw[q] at g;simp only[M.A7] at g;by_cases hf:EZ t=true
  ·rw[if_pos hf] at g;exact λ v fp H' s hn nd o=>g v fp H' s hn nd (o.clean (Gn (E.same s).BS o) hf)
  ·rw[if_neg hf] at g;exact g.elim
noncomputable def Kg (d:D):M OT:=match d with
 | .lst ds| .tup ds=>.ok (.lst (ds.map .sh))
 |_=>.bad
theorem DD {p:Pos}(hg:Gl X "list")(hm:X.mg "list" = none)(ha:DE X WX true e f)(hb:bootBuiltins "list" = some (.type "list"):=by decide +kernel)(aP:starEach [e] X.env=[(false,eval e X.env)]:=by rfl):
 DN X WX (.Call (.Name "list" p) [e] [] pos) (λ ρ=>(f ρ).bind Kg):=by
 obtain⟨ta,a1,a2⟩:=ha;refine⟨_,OB PQ hg hm hb (Ba a1 C5 aP) (he:=aP),λ P0 P σ H Q ρ E h=>?_⟩;dsimp only at h;refine a2 P0 P σ H _ ρ E ?_;cases q:f ρ with
 |bad|ex x=>rw[q] at h;exact h
 |ok d =>
  rw[q] at h;simp only[M.A7] at h;intro v H1 s1 hv;unfold Kg at h;split at h
  ·cases hv with
   |lst hs hh=>exact⟨_,_,rfl,.inl hs.AN,h.Kg s1 hh⟩
  ·cases hv with
   |tup hs hh=>exact⟨_,_,rfl,.inr (Fb.of (Am hs).2),h.Kg s1 hh⟩
  ·exact h.elim
def uW (K:za)(WX:Str->Hp->Prop)(r:R2)(aS:D->D->M OT):Prop:=
 ∀(P:Addr->Prop) (H:Hp) (x y:D) (v w:V) (Q:VK),(∀a,P a->Dq H a)->BK K (del H P) v x->BK K (del H P) w y->TX K WX P H Q (aS x y)->r v w H Q
theorem qH {ta tb:TE}{r:R2}{aS:D->D->M OT}(ha:∀P0 P σ H Q ρ,Ak X.K P0 P H σ ρ->gV X.K WX (Lv true P0 P) H Q (f ρ)->ta σ H Q)(hb:∀P0 P σ H Q ρ,Ak X.K P0 P H σ ρ->gV X.K WX (Lv true P0 P) H Q (g ρ)->tb σ H Q)
 (hr:uW X.K WX r aS) {Q:VK} (E:Ak X.K P0 P H σ ρ) (h:TX X.K WX P H Q ((f ρ).bind λ x=>(g ρ).bind λ y=>aS x y)):nL r ta tb σ H Q:=by
 refine ha P0 P σ H _ ρ E ?_;cases e:f ρ with
 |bad|ex x=>rw[e] at h;exact h
 |ok x =>
  rw[e] at h;intro v H1 s1 hv;refine hb P0 P σ H1 _ ρ (E.same s1) ?_;cases e2:g ρ with
  |bad=>rw[e2] at h;exact h
  |ex y=>rw[e2] at h;exact λ H' s=>h H' (s1.trans s)
  |ok y =>
   rw[e2] at h;intro w H2 s2 hw;exact hr _ H2 x y v w Q ((E.same s1).same s2).BS (hv.mono s2.del) hw ((h.same s1).same s2)
noncomputable def MJ (x y:D):M OT:=match x,y with
 | .lst a,.lst b=>if a.length+b.length<=1000 then .ok (.lst ((a++b).map .sh)) else .bad
 |_,_=>.bad
end
noncomputable def spT (K:za)(n:Nat)(F:List D->M OT):Sp:=λ vs H Q E=>vs.length=n/\∃P ds,(∀a,P a->Dq H a)/\Ai K (del H P) vs ds/\TX K (E7 K E) P H Q (F ds)
noncomputable def qI:Cl->M OT
 | .val d=>.ok (.sh d)
 | .own ds=>.ok (.lst (ds.map .sh))
 | .ow (.rows C2)=>.ok (.lst (C2.map λ ds=>.lst (ds.map .sh)))
 | .ow (.Lf _ _)=>.bad
 | .ow (.tree none t)=>.ok t
 | .ow (.tree (some _) _)=>.bad
noncomputable def Yt (m:M Out):M OT:=match m with
 | .ok (.ret d)=>.ok (.sh d)
 | .ok (.CI c)=>qI c
 | .ok (.next _)=>.ok (.sh .AA)
 | .ex x=>.ex x
 |_=>.bad
theorem Bx.ows {K:za}{H:Hp}{P:Addr->Prop}:∀ {ps:List Addr}{C2:List (List D)},Bx K H P ps C2->Au K H P (ps.map V.ref) (C2.map λ ds=>.lst (ds.map .sh)) ps
 |_,_,.nil=>.nil
 |_,_,.cons h r t=>.cons (.lst h r.ows) t.ows
theorem Dl.tree {K:za}{H:Hp}{P:Addr->Prop}{c:Cl}{v:V}{fp:List Addr}{t:OT}(h:Dl K H P c v fp)(e:qI c=.ok t):C4 K H P v t fp:=by
 cases c with
 |val d=>exact h.elim
 |own ds =>
  cases e;obtain⟨p,xs,rfl,rfl,h1,h2⟩:=h;exact .lst h1 h2.ows
 |ow o =>
  cases o with
  |rows C2 =>
   cases e;obtain⟨p,ps,rfl,rfl,h1,h2⟩:=h;exact .lst h1 h2.ows
  |Lf p ds=>cases e
  |tree p t' =>
   cases p with
   |none=>cases e;exact h
   |some q=>cases e
section
variable {P:Program}{w:World}{K:za}{mg:Str->Option Value}{base:Heap}
theorem eI {WX:Str->Hp->Prop}{P P2:Addr->Prop}{H H':Hp}{Q:VK}{c:Cl}{v:V}{fp:List Addr}(h:TX K WX P H Q (qI c))(t:Tr P P H P2 H')(hs:∀a,P a->P2 a)(ho:Dl K H' P2 c v fp)(hp:∀a∈fp,P2 a/\¬ P a)(nd:fp.Nodup):Q v H':=by
 cases q:qI c with
 |bad=>rw[q] at h;exact h.elim
 |ex x=>cases c with
  |val d|own ds=>cases q
  |ow o =>
   cases o with
   |rows C2|Lf p ds=>cases q
   |tree p t'=>cases p<;>cases q
 |ok u =>
  rw[q] at h;have o:=ho.tree q;refine h v fp H' (DC t) (λ a ha=>lJ t (hp a ha).1 (hp a ha).2) nd (o.move (CK λ a ha=>ha.elim (hs a) λ z=>(hp a z).1) λ _ _=>rfl)
theorem qJ {x qual:Str}{st:Stmt}{f:Addr}{fd:FuncData}{N ps:List Str}{k:Nat}(F:Xc K x qual st f fd)(S:Ag N ps (A4 st))(g:Ac->M Out)
 (hb:∀(B5:Value) (A:Around) (outer:List Env) (s:Shared) (H:Hp) (E:XK),BJ k (A.deeper (envOfC qual (A4 st) s.heap.objs.size f B5))->T8 (iL P w K mg base N qual (A4 st) f B5 A outer s H E) (E7 K E) (AM st) g):
 Ds P w K mg base (Wa P w base) (k+1) f fd ps (spT K ps.length λ ds=>Yt (g (AF N ds))):=by
 obtain⟨oc,od,kV,doc,pm,an,B5,ct,T7,rfl,lk,be⟩:=F.ex;refine UI lk be S (λ vs H Q E h=>h.1) λ A outer s H vs Q E hr h=>?_;obtain⟨hl,P',ds,ht,hv,hq⟩:=h;obtain⟨t,h1,h2⟩:=hb B5 A outer s H E hr;refine⟨t,h1,h2 ⟨P',λ _=>0⟩ P' _ H _ _ (OM ht hv) ?_⟩;dsimp only at hq;revert hq;cases g (AF N ds) with
 |bad=>exact λ h=>h.elim
 |ex x=>exact λ h H' P2 t=>h H' (DC t)
 |ok o =>
  cases o with
  |ret d=>exact λ h v H' P2 t hv=>h v [] H' (DC t) (λ a ha=>by cases ha) yM (.sh (by rw[TV];exact hv))
  |next ρ=>exact λ h σ' H' P2 t E=>h .AA [] H' (DC t) (λ a ha=>by cases ha) yM (.sh .AA)
  |brk ρ|cont ρ=>exact λ h=>h.elim
  |CI c=>exact λ h v fp H' P2 t hs ht ho hp nd=>eI h t hs ho hp nd
  |EV d ρ=>exact λ h=>h.elim
end
structure BM (P:Program)(w:World)(K:za)(mg:Str->Option Value)(base:Heap)(x:Str)(k n:Nat)(F:List D->M OT):Prop where
 ex:∃fa fd ps,Ds P w K mg base (Wa P w base) k fa fd ps (spT K n F)/\mg x=some (.ref fa)/\yB K (.ref fa)=true/\Binds K fd ps []
theorem AD {P:Program}{w:World}{K:za}{mg:Str->Option Value}{base:Heap}{x:Str}{st:Stmt}{N ps:List Str}{k n:Nat}(T:AH K mg x st ps)(S:Ag N ps (A4 st))(g:Ac->M Out)
 (hb:∀(f:Addr) (B5:Value) (A:Around) (outer:List Env) (s:Shared) (H:Hp) (E:XK),BJ k (A.deeper (envOfC x (A4 st) s.heap.objs.size f B5))->T8 (iL P w K mg base N x (A4 st) f B5 A outer s H E) (E7 K E) (AM st) g) (hn:ps.length=n:=by rfl):
 BM P w K mg base x (k+1) n (λ ds=>Yt (g (AF N ds))):=by
 obtain⟨f,fd,F,hm,hB⟩:=T.ex;subst hn;exact⟨⟨f,fd,ps,qJ F S g (hb f),hm,F.kp,hB⟩⟩
section
variable {X:Cx}{E:XK}{WX:Str->Hp->Prop}{c:Bool}{e:Expr}{es:List Expr}{fs:Ac->M (List D)}{f:Ac->M D}{fn:Ac->M OT}{ft:Ac->M Bool}{pos:Pos}
theorem Aa {k n:Nat}{F:List D->M OT}{x:Str}{p:Pos}(xo:Gi X E)(G:BM X.prog X.w X.K X.mg X.base x k n F)(hr:BJ k X.A)(hg:Gl X x)(ha:DA X (E7 X.K E) true (e::es) fs)(hn:(e::es).length=n)
 (aV:(x==("__debug__" : Str))=false:=by decide) (he:starEach (e::es) X.env=(false,eval e X.env)::starEach es X.env:=by rfl) (au:(backTo pos (starEach es X.env)).any (·.1)=false:=by rfl):
 DN X (E7 X.K E) (.Call (.Name x p) (e::es) [] pos) (λ ρ=>(fs ρ).bind F):=by
 obtain⟨fa,fd,ps,hF,hm,hk,hb⟩:=G.ex;obtain⟨ta,a1,a2,a3⟩:=ha;refine⟨_,UG hF hr hg hm hk hb .nil xo.call a1 aV he au,λ P0 P σ H Q ρ E h=>?_⟩;dsimp only at h;refine a2 P0 P σ H _ ρ E ?_;cases q:fs ρ with
 |bad|ex x=>rw[q] at h;exact h
 |ok ds =>
  rw[q] at h;simp only[M.A7] at h;intro vs H1 s1 aB;rw[zR];exact⟨by rw[aB.length,a3 ρ ds q];exact hn,P,ds,(E.same s1).BS,aB,h.same s1⟩
theorem Bn (h:DN X WX e fn):DN X (λ _ _=>False) e fn:=by
 obtain⟨t,h1,h2⟩:=h;refine⟨t,h1,λ P0 P σ H Q ρ E g=>h2 P0 P σ H Q ρ E ?_⟩;cases q:fn ρ with
 |bad=>rw[q] at g;exact g
 |ex x=>rw[q] at g;exact (g H (Ad.refl H)).elim
 |ok t=>rw[q] at g;exact g
noncomputable def Yu (t:OT):M Out:=match t with
 | .sh d=>.ok (.ret d)
 |t=>.ok (.CI (.ow (.tree none t)))
end
section
variable {X:Cx}{WX:Str->Hp->Prop}{c:Bool}{P0:Et}{P:Addr->Prop}{H:Hp}{σ:St}{ρ:Ac}{a b e:Expr}{f g:Ac->M D}{fn:Ac->M OT}{pos:Pos}
theorem Ak.rQ {K:za}{H':Hp}{fp:List Addr}(E:Ak K P0 P H σ ρ)(s:Ad H H')(hn:∀a∈fp,H a=none):Tr P0 P H (PU P fp) H':=
 ⟨Bz s hn,λ a ha=>by obtain⟨o,q,_⟩:=E.BS a (E.sub a ha);rw[q];exact s _ _ q⟩
theorem Aj (ha:DN X WX e fn):DS X WX (.Return (some e) pos) (λ ρ=>(fn ρ).bind Yu):=by
 obtain⟨ta,a1,a2⟩:=ha;refine⟨_,Td a1,λ P0 P σ H Z ρ E h=>?_⟩;dsimp only at h;refine a2 P0 P σ H _ ρ E ?_;cases q:fn ρ with
 |bad=>rw[q] at h;exact h
 |ex x=>rw[q] at h;exact λ H' s=>h H' P (E.tr s)
 |ok t =>
  rw[q] at h;simp only[M.A7] at h;intro v fp H' s hn nd o;have key:gS X.K WX P0 P H Z (.ok (.CI (.ow (.tree none t))))->Z.rt v H':=λ h =>
   h v fp H' (PU P fp) (E.rQ s hn) (λ a ha=>.inl (E.sub a ha)) (Gn (E.same s).BS o) o (λ a ha=>⟨.inr ha,λ z=>(E.BS a (E.sub a z)).no (hn a ha)⟩) nd
  cases t with
  |sh d =>
   cases o with
   |sh hv=>exact h v H' P (E.tr s) (hv.mono (CK λ a ha=>.inl (E.sub a ha)))
  |lst ts|tup ts|Bl b ks ts|ins x ns ts=>exact key h
noncomputable def Dx:List OT->Option (List D)
 |[]=>some []
 | .sh d::r=>(Dx r).map (d::·)
 |_::_=>none
theorem CF:∀ds:List D,Dx (ds.map .sh)=some ds
 |[]=>rfl
 |d::r=>by rw[zf,Dx,CF r];rfl
theorem Cs:∀ {ts:List OT}{ds:List D},Dx ts=some ds->ts=ds.map .sh
 |[],ds,h=>by cases h;rfl
 | .sh d::r,ds,h=>by
  rw[Dx] at h;cases q:Dx r with
  |none=>rw[q] at h;cases h
  |some es=>rw[q] at h;cases h;rw[zf,<-Cs q]
 | .lst _::r,ds,h| .tup _::r,ds,h| .Bl _ _ _::r,ds,h| .ins _ _ _::r,ds,h=>by cases h
noncomputable def toCl (p:Option Nat)(t:OT):Cl:=match t with
 | .lst ts=>(match Dx ts with
  |some ds=>(match p with|none=>.own ds|some q=>.ow (.Lf q ds))
  |none=>.ow (.tree p (.lst ts)))
 |t=>.ow (.tree p t)
@[simp] theorem toCl_list (ds:List D):toCl none (.lst (ds.map .sh))=.own ds:=by unfold toCl;simp only[CF]
@[simp] theorem toCl_listP (q:Nat) (ds:List D):toCl (some q) (.lst (ds.map .sh))=.ow (.Lf q ds):=by unfold toCl;simp only[CF]
@[simp] theorem toCl_dct (p:Option Nat) (b:Bool) (ks:List D) (ts:List OT):toCl p (.Bl b ks ts)=.ow (.tree p (.Bl b ks ts)):=rfl
noncomputable def treeOf:Cl->Option (Option Nat×OT)
 | .own ds=>some (none,.lst (ds.map .sh))
 | .ow (.Lf p ds)=>some (some p,.lst (ds.map .sh))
 | .ow (.rows C2)=>some (none,.lst (C2.map λ ds=>.lst (ds.map .sh)))
 | .ow (.tree p t)=>some (p,t)
 | .val _=>none
theorem Dl.toT {K:za}{H:Hp}{P:Addr->Prop}{c:Cl}{v:V}{fp:List Addr}{p:Option Nat}{t:OT}(h:Dl K H P c v fp)(e:treeOf c=some (p,t)):C4 K H P v t fp:=by
 cases c with
 |val d=>exact h.elim
 |own ds =>
  cases e;obtain⟨p,xs,rfl,rfl,h1,h2⟩:=h;exact .lst h1 h2.ows
 |ow o =>
  cases o with
  |rows C2 =>
   cases e;obtain⟨p,ps,rfl,rfl,h1,h2⟩:=h;exact .lst h1 h2.ows
  |Lf p ds =>
   cases e;obtain⟨p,xs,rfl,rfl,h1,h2⟩:=h;exact .lst h1 h2.ows
  |tree p t'=>cases e;exact h
theorem Dl.toCl {K:za}{H:Hp}{P:Addr->Prop}{v:V}{fp:List Addr}{p:Option Nat}{t:OT}(h:C4 K H P v t fp):Dl K H P (toCl p t) v fp:=by
 unfold L2.toCl;split
 ·rename_i ts;cases q:Dx ts with
  |none=>exact h
  |some ds =>
   have e:=Cs q;subst e;cases h with
   |lst h1 h2 =>
    obtain⟨rfl,h3⟩:=h2.lL;cases p with
    |none|some q=>exact⟨_,_,rfl,rfl,h1,h3⟩
 ·exact h
theorem Ig (p:Option Nat)(t:OT):OG (toCl p t)=p:=by
 unfold toCl;split
 ·rename_i ts;cases q:Dx ts with
  |none|some ds=>cases p<;>rfl
 ·cases p<;>rfl
theorem Ih {c:Cl}{p:Option Nat}{t:OT}(h:treeOf c=some (p,t)):OG c=p:=by
 cases c with
 |val d=>cases h
 |own ds=>cases h;rfl
 |ow o =>
  cases o with
  |rows C2|Lf p ds=>cases h;rfl
  |tree p t=>cases h;cases p<;>rfl
noncomputable def O6 (i:Nat)(ρ:Ac)(t:OT):M Out:=match t with
 | .sh d=>.ok (.next (ρ.set i (some (.val d))))
 |t=>.ok (.next (ρ.set i (some (toCl none t))))
theorem Yv {K:za}{i:Nat}{t:OT}{v:V}{fp:List Addr}{H':Hp}{Z:Ends}(E:Ak K P0 P H σ ρ)(s:Ad H H')(hn:∀a∈fp,H a=none)(nd:fp.Nodup)(o:C4 K H' (PU P fp) v t fp)(h:gS K WX P0 P H Z (O6 i ρ t)):Z.nx (σ.set i (some v)) H':=by
 have key:gS K WX P0 P H Z (.ok (.next (ρ.set i (some (toCl none t)))))->Z.nx (σ.set i (some v)) H':=λ h=>by
  refine h _ H' (PU P fp) (E.rQ s hn) (E.W8 Ic (Gn (E.same s).BS o) (Bz s hn) (λ j c' v' ai ae g1 g2 g3 a ha=>?_) (Dl.toCl o) (λ a ha=>⟨.inr ha,λ z=>(E.BS a (E.sub a z)).no (hn a ha)⟩) nd (λ n z=>by rw[Ig] at z;cases z));obtain⟨xs,z⟩:=g3.at a ha;exact⟨by rw[z];exact s _ _ z,λ w=>by rw[hn a w] at z;cases z⟩
 cases t with
 |sh d =>
  cases o with
  |sh hv=>exact h _ H' P (E.tr s) ((E.same s).TF (by rw[TV] at hv;exact hv))
 |lst ts|tup ts|Bl b ks ts|ins x ns ts=>exact key h
theorem BQ (i:Nat){x:Str}{pos':Pos}(hN:X.N.Nodup)(hi:X.N[i]?=some x)(hx:Loc X.env.scope x)(ha:DN X WX e fn)(hs:swapsWith e (some (.Name x pos')) pos.line X.env=pure false:=by rfl)(hf:X.fn x=true\/X.env.scope.names.lookup x=some .local:=by first | exact .inl rfl | exact .inr rfl | assumption):
 DS X WX (.Assign [.Name x pos'] e pos) (λ ρ=>(fn ρ).bind (O6 i ρ)):=by
 obtain⟨ta,a1,a2⟩:=ha;refine⟨_,Te hN hi hx a1 hs hf,λ P0 P σ H Z ρ E h=>?_⟩;dsimp only at h;refine a2 P0 P σ H _ ρ E ?_;cases q:fn ρ with
 |bad=>rw[q] at h;exact h
 |ex x=>rw[q] at h;exact λ H' s=>h H' P (E.tr s)
 |ok t =>
  rw[q] at h;exact λ v fp H' s hn nd o=>Yv E s hn nd o h
noncomputable def TY (i:Nat)(ρ:Ac):M Out:=match ρ[i]? with
 |some (some (.val d))=>.ok (.ret d)
 |some (some c)=>.ok (.CI c)
 |_=>.bad
theorem CM (i:Nat){x:Str}{p1:Pos}(hv:PE X (.Name x p1) (Lb i)):DS X WX (.Return (some (.Name x p1)) pos) (TY i):=by
 refine⟨_,Td hv,λ P0 P σ H Z ρ E h=>?_⟩;unfold TY at h;split at h
 ·rename_i d e1;obtain⟨v,h1,h2⟩:=E.val i d e1;exact⟨v,h1,h v H P Tr.refl (h2.mono (CK E.sub))⟩
 ·rename_i c hc e1;have io:Hy c=true:=by
   cases c with
   |val d=>exact (hc d rfl).elim
   |own ds|ow o=>rfl
  obtain⟨v,fp,h1,h2,h3,h4⟩:=E.ows i _ e1 io;exact⟨v,h1,h v fp H P Tr.refl E.sub E.BS h2 h3 h4⟩
 ·exact h.elim
theorem Ii:∀ds:List D,RC (ds.map .sh)=ds
 |[]=>rfl
 |d::r=>by rw[zf,RC,er,Ii r]
theorem Wj {c:Cl}{p:Option Nat}{t:OT}(e:treeOf c=some (p,t)):IT c=.val (er t):=by
 cases c with
 |val d=>cases e
 |own ds=>cases e;rw[er,Ii];rfl
 |ow o =>
  cases o with
  |rows C2 =>
   cases e;rw[er,Q0,zH];have:(er ∘ λ ds:List D=>OT.lst (ds.map .sh))=D.lst:=by funext ds;rw[Function.comp,er,Ii]
   rw[this];rfl
  |Lf p ds=>cases e;rw[er,Ii];rfl
  |tree p t'=>cases e;rfl
noncomputable def Yw (i:Nat)(ρ:Ac):Ac:=match ρ[i]? with
 |some (some c)=>ρ.set i (some (IT c))
 |_=>ρ
end
section
variable {K:za}{H H':Hp}{P P':Addr->Prop}
theorem Ck.same {v:V}{t:OT}{q:List Addr}{xs:List V}(e:Ad H H')(h:Ck K H P v t q xs):Ck K H' P v t q xs:=by
 cases t with
 |sh d=>exact h.elim
 |lst ts=>obtain⟨p,rfl,rfl,h⟩:=h;exact⟨p,rfl,rfl,e _ _ h⟩
 |tup ts=>obtain⟨p,rfl,rfl,h⟩:=h;exact⟨p,rfl,rfl,e.del _ _ h⟩
 |Bl b ks ts =>
  cases b with
  |false|true=>obtain⟨p,kvs,rfl,rfl,h,rfl,rfl⟩:=h;exact⟨p,kvs,rfl,rfl,e _ _ h,rfl,rfl⟩
 |ins x ns ts=>obtain⟨p,C,dx,fs,rfl,rfl,n,h,rfl,rfl⟩:=h;exact⟨p,C,dx,fs,rfl,rfl,n,e _ _ h,rfl,rfl⟩
theorem Gm.same {v v1:V}{t t1:OT}{π:List Nat}(e:Ad H H')(h:Gm K H P v t π v1 t1):Gm K H' P v t π v1 t1:=by
 induction h with
 |nil=>exact .nil
 |cons n hx hs _ ih=>exact .cons (n.same e) hx hs ih
theorem Ck.more {v:V}{t:OT}{q:List Addr}{xs:List V}(sm:Ad (del H P) (del H' P'))(e:Ad H H')(h:Ck K H P v t q xs):Ck K H' P' v t q xs:=by
 cases t with
 |sh d=>exact h.elim
 |lst ts=>obtain⟨p,rfl,rfl,h⟩:=h;exact⟨p,rfl,rfl,e _ _ h⟩
 |tup ts=>obtain⟨p,rfl,rfl,h⟩:=h;exact⟨p,rfl,rfl,sm _ _ h⟩
 |Bl b ks ts =>
  cases b with
  |false|true=>obtain⟨p,kvs,rfl,rfl,h,rfl,rfl⟩:=h;exact⟨p,kvs,rfl,rfl,e _ _ h,rfl,rfl⟩
 |ins x ns ts=>obtain⟨p,C,dx,fs,rfl,rfl,n,h,rfl,rfl⟩:=h;exact⟨p,C,dx,fs,rfl,rfl,n,e _ _ h,rfl,rfl⟩
theorem Gm.more {v v1:V}{t t1:OT}{π:List Nat}(sm:Ad (del H P) (del H' P'))(e:Ad H H')(h:Gm K H P v t π v1 t1):Gm K H' P' v t π v1 t1:=by
 induction h with
 |nil=>exact .nil
 |cons n hx hs _ ih=>exact .cons (n.more sm e) hx hs ih
end
noncomputable def R5 (i:Nat)(ρ:Ac)(π:List Nat):Option OT:=match ρ[i]? with
 |some (some c)=>(match treeOf c with|some (_,t)=>Ke t π|none=>none)
 |_=>none
structure Bd (K:za)(P:Addr->Prop)(H:Hp)(σ:St)(ρ:Ac)(i:Nat)(π:List Nat)(v:V)(t1:OT):Prop where
 ex:∃v0 c p t,ρ[i]?=some (some c)/\treeOf c=some (p,t)/\σ[i]?=some (some v0)/\Gm K H P v0 t π v t1
theorem Bd.at {K:za}{P:Addr->Prop}{H:Hp}{σ:St}{ρ:Ac}{i:Nat}{π:List Nat}{v:V}{t1:OT}(h:Bd K P H σ ρ i π v t1):R5 i ρ π=some t1:=by
 obtain⟨v0,c,p,t,h1,h2,h3,h4⟩:=h.ex;unfold R5;simp only[h1,h2];exact h4.sub
theorem Bd.same {K:za}{P:Addr->Prop}{H H':Hp}{σ:St}{ρ:Ac}{i:Nat}{π:List Nat}{v:V}{t1:OT}(e:Ad H H')(h:Bd K P H σ ρ i π v t1):Bd K P H' σ ρ i π v t1:=by
 obtain⟨v0,c,p,t,h1,h2,h3,h4⟩:=h.ex;exact⟨v0,c,p,t,h1,h2,h3,h4.same e⟩
theorem Bd.more {K:za}{P P':Addr->Prop}{H H':Hp}{σ:St}{ρ:Ac}{i:Nat}{π:List Nat}{v:V}{t1:OT}(sm:Ad (del H P) (del H' P'))(e:Ad H H')(h:Bd K P H σ ρ i π v t1):Bd K P' H' σ ρ i π v t1:=by
 obtain⟨v0,c,p,t,h1,h2,h3,h4⟩:=h.ex;exact⟨v0,c,p,t,h1,h2,h3,h4.more sm e⟩
theorem Bd.own {K:za}{P0:Et}{P:Addr->Prop}{H:Hp}{σ:St}{ρ:Ac}{i:Nat}{π:List Nat}{v:V}{t1:OT}(h:Bd K P H σ ρ i π v t1)(E:Ak K P0 P H σ ρ):∃ay,C4 K H P v t1 ay/\(∀a∈ay,P a/\¬ P0 a)/\ay.Nodup:=by
 obtain⟨v0,c,p,t,h1,h2,h3,h4⟩:=h.ex;have io:Hy c=true:=by cases c<;>first|rfl|cases h2
 obtain⟨w,fp,k1,k2,k3,k4⟩:=E.ows i c h1 io;rw[h3] at k1;cases k1;obtain⟨ay,o1,hk,kn⟩:=(k2.toT h2).part h4;exact⟨ay,o1,λ a ha=>k3 a (hk a ha),kn k4⟩
def gP (K:za)(WX:Str->Hp->Prop)(P:Addr->Prop)(H:Hp)(σ:St)(ρ:Ac)(i:Nat)(Q:VK):M (List Nat)->Prop
 | .ok π=>∀v t1 H',Ad H H'->Bd K P H' σ ρ i π v t1->Q v H'
 | .ex x=>∀H',Ad H H'->WX x H'
 | .bad=>False
def DP (X:Cx)(WX:Str->Hp->Prop)(e:Expr)(i:Nat)(f:Ac->M (List Nat)):Prop:=
 ∃t,PE X e t/\∀P0 P σ H Q ρ,Ak X.K P0 P H σ ρ->gP X.K WX P H σ ρ i Q (f ρ)->t σ H Q
section
variable {X:Cx}{WX:Str->Hp->Prop}{c:Bool}{P0:Et}{P:Addr->Prop}{H:Hp}{σ:St}{ρ:Ac}{a b e:Expr}{f g:Ac->M D}{fn:Ac->M OT}{fp:Ac->M (List Nat)}{pos:Pos}{i:Nat}
noncomputable def O7 (i:Nat)(ρ:Ac):M (List Nat):=match R5 i ρ [] with | some _=>.ok [] | none=>.bad
theorem BA (i:Nat){x:Str}{p1:Pos}(hv:PE X (.Name x p1) (Lb i)):DP X WX (.Name x p1) i (O7 i):=by
 refine⟨_,hv,λ P0 P σ H Q ρ E h=>?_⟩;unfold O7 at h;split at h
 ·rename_i t e;unfold R5 at e;split at e
  ·rename_i cl e1;split at e
   ·rename_i p t0 e2;have io:Hy cl=true:=by cases cl<;>first|rfl|cases e2
    obtain⟨v,fp,h1,h2,h3,h4⟩:=E.ows i cl e1 io;exact⟨v,h1,h v t0 H (Ad.refl H) ⟨v,cl,p,t0,e1,e2,h1,.nil⟩⟩
   ·cases e
  ·cases e
 ·exact h.elim
noncomputable def Wl (i:Nat)(ρ:Ac)(π:List Nat)(d:D):M (List Nat):=match R5 i ρ π,d with
 |some (.lst ts),.int j|some (.tup ts),.int j=>(match Lc ts.length j with|some k=>.ok (π++[k])|none=>.bad)
 |_,_=>.bad
theorem eJ (ha:DP X WX a i fp)(hb:DE X WX true b g)(hs:Fe b:=by exact λ _ _=>rfl):DP X WX (.Subscript a b pos) i (λ ρ=>(fp ρ).bind λ π=>(g ρ).bind (Wl i ρ π)):=by
 obtain⟨ta,a1,a2⟩:=ha;obtain⟨tb,b1,b2⟩:=hb;refine⟨_,Rm (IF.or XI) a1 b1 hs,λ P0 P σ H Q ρ E h=>?_⟩;dsimp only at h;refine a2 P0 P σ H _ ρ E ?_;cases q:fp ρ with
 |bad|ex x=>rw[q] at h;exact h
 |ok π =>
  rw[q] at h;simp only[M.A7] at h;intro v t1 H1 s1 pl;refine b2 P0 P σ H1 _ ρ (E.same s1) ?_;cases q2:g ρ with
  |bad=>rw[q2] at h;exact h
  |ex y=>rw[q2] at h;exact λ H' s=>h H' (s1.trans s)
  |ok d =>
   rw[q2] at h;simp only[M.A7] at h;intro w H2 s2 hw;have E2:=(E.same s1).same s2;have bF:=pl.same s2;obtain⟨ay,o1,_⟩:=bF.own E2;unfold Wl at h;rw[bF.at] at h;obtain⟨v0,c,p,t,k1,k2,k3,k4⟩:=bF.ex;split at h
   ·rename_i ts j e;cases e;split at h
    ·rename_i k hk;cases o1 with
     |lst hh hr =>
      have hx:∃s,ts[k]?=some s:=⟨_,zi (Yp hk)⟩;obtain⟨s,hs⟩:=hx;obtain⟨x,hx⟩:=hr.uV hs;refine .inl ⟨_,_,j,x,rfl,hw.int_inv,.of hh,?_,h x s H2 (s1.trans s2) ⟨v0,c,p,t,k1,k2,k3,k4.snoc (q:=[_]) (xs:=_) ⟨_,rfl,rfl,hh⟩ hx hs⟩⟩;unfold PL;rw[hr.len,hk];exact hx
    ·exact h.elim
   ·rename_i ts j e;cases e;split at h
    ·rename_i k hk;cases o1 with
     |tup hh hr =>
      have hx:∃s,ts[k]?=some s:=⟨_,zi (Yp hk)⟩;obtain⟨s,hs⟩:=hx;obtain⟨x,hx⟩:=hr.uV hs;refine .inr ⟨_,_,j,x,rfl,hw.int_inv,.of (Am hh).2,?_,h x s H2 (s1.trans s2) ⟨v0,c,p,t,k1,k2,k3,k4.snoc (q:=[]) (xs:=_) ⟨_,rfl,rfl,hh⟩ hx hs⟩⟩;unfold PL;rw[hr.len,hk];exact hx
    ·exact h.elim
   ·exact h.elim
noncomputable def tX (i:Nat)(ρ:Ac)(π:List Nat):M D:=match R5 i ρ π with
 |some (.sh d)=>.ok d
 |_=>.bad
theorem Ak.qK {K:za}{P':Addr->Prop}{H':Hp}{π:List Nat}{v1:V}{t1 u:OT}{ay fu:List Addr}(E:Ak K P0 P H σ ρ)(pl:Bd K P H σ ρ i π v1 t1)(o:C4 K H P v1 t1 ay)(hs:∀a,P a->P' a)(ht:∀a,P' a->Dq H' a)(sm:Ad (del H P) (del H' P'))(keep:∀a,P a->a∉ay->H' a=H a)
 (o':C4 K H' P' v1 u fu) (nd:fu.Nodup) (hf:∀a∈fu,a∈ay\/(P' a/\¬ P0 a/\∀(j:Nat) c v fp,ρ[j]?=some (some c)->σ[j]?=some (some v)->Dl K H P c v fp->a∉fp)):
 ∃c p t,ρ[i]?=some (some c)/\treeOf c=some (p,t)/\Ak K P0 P' H' σ (ρ.set i (some (toCl p (EI t π u))))/\Tr P0 P H P' H':=by
 obtain⟨v0,c,p,t,h1,h2,h3,h4⟩:=pl.ex;have io:Hy c=true:=by cases c<;>first|rfl|cases h2
 obtain⟨w,fp,k1,k2,k3,k4⟩:=E.ows i c h1 io;rw[h3] at k1;cases k1;have ot:=k2.toT h2;obtain⟨fz,oz,kz,_⟩:=ot.part h4;have:=oz.Ci o;subst this;obtain⟨ai,q1,q2,q3⟩:=ot.put sm h4 o o' (λ a ha hn=>keep a (k3 a ha).1 hn) k4 nd (λ a ha hb=>(hf a ha).elim id λ z=>(z.2.2 i c v0 fp h1 h3 k2 hb).elim);refine⟨c,p,t,h1,h2,?_,sm,λ a ha=>keep a (E.sub a ha) λ z=>(k3 a (kz a z)).2 ha⟩;have key:=E.W8 (P':=P') (H':=H') (i:=i) (v:=v0) (c:=toCl p (EI t π u)) (fp:=ai) hs ht sm (λ j c' v' fq ae g1 g2 g3 a ha=>?_) (Dl.toCl q1) (λ a ha=>?_) q2 (λ n z=>by rw[Ig] at z;subst z;have:=E.pin i c n h1 (Ih h2);rw[h3] at this;cases this;rfl)
 ·rw[Kb h3] at key;exact key
 ·have oe:a∉fp:=E.apart j i c' c v' v0 fq fp g1 h1 g2 h3 g3 k2 (zX ae) a ha;have jb:Hy c'=true:=by cases c'<;>first|rfl|exact g3.elim
  obtain⟨w',fr,m1,m2,m3,m4⟩:=E.ows j c' g1 jb;rw[g2] at m1;cases m1;have:=m2.Ci g3;subst this;refine⟨keep a (m3 a ha).1 λ z=>oe (kz a z),λ z=>?_⟩;rcases q3 a z with y|y
  ·rcases hf a y with x|x
   ·exact oe (kz a x)
   ·exact x.2.2 j c' v' fr g1 g2 g3 ha
  ·exact oe y.1
 ·rcases q3 a ha with y|y
  ·rcases hf a y with x|x
   ·exact⟨hs a (k3 a (kz a x)).1,(k3 a (kz a x)).2⟩
   ·exact⟨x.1,x.2.1⟩
  ·exact⟨hs a (k3 a y.1).1,(k3 a y.1).2⟩
theorem Ak.lM {K:za}{π:List Nat}{l:Addr}{xs ys:List V}{ts us:List OT}{fq fu:List Addr}(E:Ak K P0 P H σ ρ)(pl:Bd K P H σ ρ i π (.ref l) (.lst ts))(hH:H l=some (.lst xs))(o:Au K H P xs ts fq)(o':Au K H P ys us fu)(nd:fu.Nodup)(hl:l∉fu)
 (hf:∀a∈fu,a∈fq\/(P a/\¬ P0 a/\∀(j:Nat) c v fp,ρ[j]?=some (some c)->σ[j]?=some (some v)->Dl K H P c v fp->a∉fp)):
 ∃c p t,ρ[i]?=some (some c)/\treeOf c=some (p,t)/\Ak K P0 P (upd H l (.lst ys)) σ (ρ.set i (some (toCl p (EI t π (.lst us)))))/\Tr P0 P H P (upd H l (.lst ys)):=by
 have ot:C4 K H P (.ref l) (.lst ts) (l::fq):=.lst hH o;obtain⟨ay,o1,hp,_⟩:=pl.own E;have:=o1.Ci ot;subst this;have pP:P l:=(hp l zd).1;have sd:del (upd H l (.lst ys)) P=del H P:=by
  funext b;by_cases hb:P b
  ·rw[D4 hb,D4 hb]
  ·rw[Aw hb,Aw hb,Ah (λ z=>hb (by rw[z];exact pP))]
 have sm:Ad (del H P) (del (upd H l (.lst ys)) P):=by rw[sd];exact Ad.refl _
 refine E.qK pl ot (λ _ h=>h) (λ a h=>?_) sm (λ a ha hn=>Ah λ z=>hn (by rw[z];exact zd)) (.lst Ao (o'.move sm λ a ha=>Ah λ z=>hl (by rw[<-z];exact ha))) (zV.mpr ⟨hl,nd⟩) (λ a ha=>?_)
 ·by_cases ha:a=l
  ·subst ha;exact Dq.lst Ao
  ·unfold Dq;rw[Ah ha];exact E.BS a h
 ·rcases zp.mp ha with z|z
  ·exact .inl (by rw[z];exact zd)
  ·rcases hf a z with y|y
   ·exact .inl (ze _ y)
   ·exact .inr y
end
noncomputable def kd:D->Option Key
 | .int i=>some (.inl i)
 | .str x=>some (.inr x)
 |_=>none
noncomputable def nQ:List D->Option (List Key)
 |[]=>some []
 |d::r=>match kd d,nQ r with|some k,some ks=>some (k::ks)|_,_=>none
theorem iO {d:D}{k:Key}(h:kd d=some k):d=Dk k:=by
 cases d<;>simp[kd] at h<;>subst h<;>rfl
theorem Yx:∀ {ds:List D}{ks:List Key},nQ ds=some ks->ds=ks.map Dk
 |[],ks,h=>by cases h;rfl
 |d::r,ks,h=>by
  rw[nQ] at h;cases q:kd d with
  |none=>rw[q] at h;cases h
  |some k =>
   cases q2:nQ r with
   |none=>rw[q,q2] at h;cases h
   |some v9 =>
    rw[q,q2] at h;cases h;rw[zf,<-iO q,<-Yx q2]
inductive eK:Bool->D->Prop
 |k (κ:Key):eK false (Dk κ)
 |t (κ:List Key):eK true (.tup (κ.map Dk))
noncomputable def keyOk (b:Bool)(d:D):Bool:=match b,d with
 |false,d=>(kd d).isSome
 |true,.tup ds=>(nQ ds).isSome
 |_,_=>false
theorem F1 {b:Bool}{d:D}(h:keyOk b d=true):eK b d:=by
 cases b with
 |false =>
  obtain⟨k,hk⟩:=zaz.mp (show (kd d).isSome=true from h);rw[iO hk];exact .k k
 |true =>
  cases d with
  |tup ds =>
   obtain⟨k,hk⟩:=zaz.mp (show (nQ ds).isSome=true from h);rw[Yx hk];exact .t k
  |_=>cases h
theorem MK (a b:Key):Ay (Dk a) (Dk b)=decide (a=b):=by
 cases a with
 |inl i =>
  cases b with
  |inl j=>simp only[Dk,Ay];rw[zac];simp
  |inr y=>simp[Dk,Ay]
 |inr x =>
  cases b with
  |inl j=>simp[Dk,Ay]
  |inr y=>simp only[Dk,Ay];rw[zac];simp
theorem LB:∀a b:List Key,Cq (a.map Dk) (b.map Dk)=decide (a=b)
 |[],[]|[],_::_|_::_,[]=>by simp[Cq]
 |a::r,b::t=>by
  rw[zf,zf,Cq,MK,LB r t,zac];simp
noncomputable def G2 {α:Type}:List D->List α->D->Option α
 |k::ks,v::vs,y=>if Ay k y=true then some v else G2 ks vs y
 |_,_,_=>none
noncomputable def Ij {α:Type}:List D->List α->D->α->List α
 |k::ks,v::vs,y,z=>(if Ay k y=true then z else v)::Ij ks vs y z
 |_,vs,_,_=>vs
noncomputable def Lg (ks:List D)(y:D):Bool:=ks.any λ k=>Ay k y
section
variable {κ:Type} [DecidableEq κ] {fk:κ->D}(hf:∀a b,Ay (fk a) (fk b)=decide (a=b))
include hf
theorem ML {α:Type}:∀(kvs:List (κ×α)) (k:κ),G2 (kvs.map λ kv=>fk kv.1) (kvs.map yT) (fk k)=(kvs.find? λ kv=>decide (kv.1=k)).map (·.2)
 |[],k=>rfl
 |p::r,k=>by
  rw[zf,zf,G2,hf,zap];by_cases e:p.1=k
  ·rw[decide_eq_true e];rfl
  ·rw[decide_eq_false e];simp only[z8,if_false];exact ML r k
theorem MM {α:Type}(kvs:List (κ×α))(k:κ):Lg (kvs.map λ kv=>fk kv.1) (fk k)=kvs.any λ kv=>decide (kv.1=k):=by
 unfold Lg;rw[List.any_map];congr 1;funext kv;exact hf _ _
theorem IV (k:κ)(v:V):∀(kvs:List (κ×V)),Ij (kvs.map λ kv=>fk kv.1) (kvs.map yT) (fk k) v=(kvs.map λ kv=>if kv.1=k then (kv.1,v) else kv).map yT
 |[]=>rfl
 |p::r=>by
  rw[zf,zf,Ij,hf,zf,zf,IV k v r];by_cases e:p.1=k
  ·rw[decide_eq_true e,if_pos e];rfl
  ·rw[decide_eq_false e,if_neg e];rfl
theorem IW (k:κ)(v:V):∀(kvs:List (κ×V)),(kvs.map λ kv=>if kv.1=k then (kv.1,v) else kv).map (λ kv=>fk kv.1)=kvs.map λ kv=>fk kv.1
 |[]=>rfl
 |p::r=>by
  rw[zf,zf,zf,IW k v r];by_cases e:p.1=k
  ·rw[if_pos e]
  ·rw[if_neg e]
end
theorem MN {K:za}{H:Hp}:∀ {ks:List D}{xs:List V}{ds:List D}{y d:D},Ai K H xs ds->G2 ks ds y=some d->∃x,G2 ks xs y=some x/\BK K H x d
 |[],_,_,_,_,_,e|_::_,_,_,_,_,.nil,e=>by simp[G2] at e
 |k::ks,_,_,y,d,.cons h t,e=>by
  rw[G2] at e ⊢;by_cases q:Ay k y=true
  ·rw[if_pos q] at e ⊢;cases e;exact⟨_,rfl,h⟩
  ·rw[if_neg q] at e ⊢;exact MN t e
theorem Hc {α:Type}:∀ {ks:List D}{xs:List α}{y:D},xs.length=ks.length->Lg ks y=(G2 ks xs y).isSome
 |[],[],y,_=>rfl
 |k::ks,x::xs,y,h=>by
  unfold Lg;rw[zau,G2];cases q:Ay k y with
  |true=>rfl
  |false =>
   simp only[Bool.false_or,z8,if_false];exact Hc (by simpa using h)
 |[],_::_,_,h|_::_,[],_,h=>by cases h
theorem IX {K:za}{H:Hp}{P:Addr->Prop}{y d:D}{v:V}(hv:BK K (del H P) v d):∀ {ks:List D}{xs:List V}{ds:List D},Ai K (del H P) xs ds->Ai K (del H P) (Ij ks xs y v) (Ij ks ds y d)
 |[],_,_,h=>by simp only[Ij];exact h
 |_::_,_,_,.nil=>by simp only[Ij];exact .nil
 |k::ks,_,_,.cons h t=>by
  rw[Ij,Ij];refine .cons ?_ (IX hv t);by_cases q:Ay k y=true
  ·rw[if_pos q,if_pos q];exact hv
  ·rw[if_neg q,if_neg q];exact h
section
variable {K:za}{H:Hp}{P:Addr->Prop}
theorem Ai.keys:∀ {xs:List V}(κ:List Key),Ai K H xs (κ.map Dk)->xs=κ.map kV
 |_,[],.nil=>rfl
 |_,k::r,.cons h t=>by
  rw[zf,<-Ai.keys r t];congr 1;cases k with
  |inl i=>exact h.int_inv
  |inr x=>cases h;rfl
theorem BK.lN {y:V}{κ:Key}(h:BK K H y (Dk κ)):y=kV κ:=by
 cases κ with
 |inl i=>exact h.int_inv
 |inr x=>cases h;rfl
theorem Q8 {v y:V}{b:Bool}{ks vs:List D}{k:D}(hv:BK K (del H P) v (.Bl b ks vs))(hy:BK K (del H P) y k)(hk:eK b k):∃a xs,v=.ref a/\PR H a y (G2 ks xs k)/\Ai K (del H P) xs vs/\xs.length=ks.length:=by
 cases hv with
 |HY hh hl =>
  cases hk with
  |k κ =>
   refine⟨_,_,rfl,?_,hl,by simp⟩;rw[hy.lN,ML MK];exact .inl ⟨_,κ,hh.AN,rfl,rfl⟩
 |HZ hh hl =>
  cases hk with
  |t κ =>
   cases hy with
   |tup ht a6 =>
    have e:=Ai.keys κ a6;subst e;refine⟨_,_,rfl,?_,hl,by simp⟩;rw[ML (fk:=λ κ:List Key=>D.tup (κ.map Dk)) (λ a b=>by simp only[Ay];exact LB a b)];exact .inr ⟨_,κ,_,hh.AN,rfl,(Am ht).2,rfl⟩
end
section
variable {X:Cx}{WX:Str->Hp->Prop}{c:Bool}{P0:Et}{P:Addr->Prop}{H:Hp}{σ:St}{ρ:Ac}{a b e:Expr}{f g:Ac->M D}{fn:Ac->M OT}{fp:Ac->M (List Nat)}{pos:Pos}{i:Nat}
noncomputable def qL:R2:=λ x y H Q=>∃a v,x=.ref a/\PR H a y (some v)/\Q v H
theorem eL (hu:X.A.units+1<cLine):cR X qL:=by
 intro value slice pins s σ H x y v u Q I rx ry h hs;obtain⟨a,z,rfl,g,q⟩:=h;cases rx;have hT:=Rt I g;have h₂:wpAny (model X.prog X.w) X.A (getItem (.ref a) u) (EP X pins σ Q) X.xe s:=W0 hu I g ry λ w' s3 I3 bg=>⟨z,H,I3,bg,q⟩;unfold subscriptTail;refine wpAny_bind ?_;rw[getitemInPython_of_ne hT.not_modules];refine wpAny_bind (wpAny_specialOf hT PySem.F.slot_dict_getitem.lookup ?_);have fin:wpAny (model X.prog X.w) X.A (subscripted slice false (.ref a) u) (λ r s₃=>wpAny (model X.prog X.w) X.A (letTemporaryGo value (.ref a) r >>= λ _=>pure r) (EP X pins σ Q) X.xe s₃) X.xe s:=by
  rw[hs];exact wpAny_operating (wpAny_mono h₂ (λ r s₃ h₃=>wpAny_bind (wpAny_letTemporaryGo (wpAny_pure h₃))) λ _ _ x=>x)
 first
  |exact wpAny_pure (wpAny_bind fin)
  |exact wpAny_bind (wpAny_pure (wpAny_bind fin))
  |exact wpAny_bind fin
noncomputable def AX (x y:D):M D:=match x with
 | .Bl b ks vs=>if keyOk b y=true then (match G2 ks vs y with|some d=>.ok d|none=>.bad) else .bad
 |x=>dM x y
theorem eM:UQ X.K WX (λ x y H Q=>(kL X.K x y H Q\/kM X.K x y H Q)\/qL x y H Q) AX:=by
 intro P H x y v w Q ht hx hy h;cases x with
 |Bl b ks vs =>
  simp only[AX] at h;by_cases hk:keyOk b y=true
  ·rw[if_pos hk] at h;obtain⟨a,xs,rfl,g,hl,_⟩:=Q8 hx hy (F1 hk);split at h
   ·rename_i d e;obtain⟨u,e1,e2⟩:=MN hl e;rw[e1] at g;exact .inr ⟨a,u,rfl,g,h _ H (Ad.refl H) e2⟩
   ·exact h.elim
  ·rw[if_neg hk] at h;exact h.elim
 |AA|bl b|int b|str b|tup b|lst b|EG b|ins b _ _=>exact .inl (Gf P H _ y v w Q ht hx hy h)
theorem Ab {n:Nat}(hu:X.A.units+n<cLine)(ha:DE X WX c a f)(hb:DE X WX c b g)(hs:Fe b:=by exact λ _ _=>rfl)(hn:1<=n:=by decide):DE X WX c (.Subscript a b pos) (λ ρ=>(f ρ).bind λ x=>(g ρ).bind λ y=>AX x y):=pT ((IF.or XI).or (eL (by omega))) eM ha hb hs
noncomputable def lO (neg:Bool):R2:=λ y x H Q=>∃a o,x=.ref a/\PR H a y o/\Q (.bl (if neg=true then !o.isSome else o.isSome)) H
theorem TZ (hu:X.A.units+1<cLine):G9 X (compareOp .In) (lO false):=by
 intro pins s σ H x y v u Q I rx ry h;obtain⟨a,o,rfl,g,q⟩:=h;cases ry;exact tN hu I g rx λ s3 I3=>⟨.bl o.isSome,H,I3,rfl,q⟩
theorem O8 (hu:X.A.units+1<cLine):G9 X (compareOp .NotIn) (lO true):=by
 intro pins s σ H x y v u Q I rx ry h;obtain⟨a,o,rfl,g,q⟩:=h;cases ry;exact cX hu I g rx λ s3 I3=>⟨.bl (!o.isSome),H,I3,rfl,q⟩
noncomputable def IY (neg:Bool)(y x:D):M D:=match x with
 | .Bl b ks vs=>if keyOk b y=true then .ok (.bl (if neg=true then !Lg ks y else Lg ks y)) else .bad
 |x=>rN neg y x
theorem V3 {neg:Bool}:UQ X.K WX (λ x y H Q=>rK X.K neg x y H Q\/lO neg x y H Q) (IY neg):=by
 intro P H x y v w Q ht hx hy h;cases y with
 |Bl b ks vs =>
  simp only[IY] at h;by_cases hk:keyOk b x=true
  ·rw[if_pos hk] at h;obtain⟨a,xs,rfl,g,hl,hn⟩:=Q8 hy hx (F1 hk);rw[Hc (xs:=xs) hn] at h;exact .inr ⟨a,_,rfl,g,h _ H (Ad.refl H) (.bl _)⟩
  ·rw[if_neg hk] at h;exact h.elim
 |AA|bl b|int b|str b|tup b|lst b|EG b|ins b _ _=>exact .inl (Gj P H x _ v w Q ht hx hy h)
theorem MO {n:Nat}(hu:X.A.units+n<cLine)(ha:DE X WX c a f)(hb:DE X WX c b g)(hm:behindInMarks .In b=false:=by rfl)(hn:1<=n:=by decide):DT X WX (.Compare a [.In] [b] pos) (λ ρ=>((f ρ).bind λ x=>(g ρ).bind λ y=>IY false x y).bind OI):=Fl (VU.or (TZ (by omega))) V3 ha hb hm
theorem LC {n:Nat}(hu:X.A.units+n<cLine)(ha:DE X WX c a f)(hb:DE X WX c b g)(hm:behindInMarks .NotIn b=false:=by rfl)(hn:1<=n:=by decide):DT X WX (.Compare a [.NotIn] [b] pos) (λ ρ=>((f ρ).bind λ x=>(g ρ).bind λ y=>IY true x y).bind OI):=Fl (PN.or (O8 (by omega))) V3 ha hb hm
noncomputable def Fp:D->M Bool
 | .AA=>.ok false
 | .bl b=>.ok b
 | .int i=>.ok (i != 0)
 | .tup ds| .lst ds=>.ok (!ds.isEmpty)
 |_=>.bad
theorem IZ {K:za}{H:Hp}{xs:List V}{ds:List D}(h:Ai K H xs ds):(!ds.isEmpty) = !xs.isEmpty:=by cases h<;>rfl
theorem BF (h:DE X WX c e f)(he:∀whole,isTrue e X.env whole=(do let v <-whole;standAt e.pos;holding [v] (truthy v)):=by intro _;rfl):DT X WX e (λ ρ=>(f ρ).bind Fp):=by
 obtain⟨t,h1,h2⟩:=h;refine⟨_,Xy h1 he,λ P0 P σ H Q ρ E h=>h2 P0 P σ H _ ρ E ?_⟩;dsimp only at h;cases q:f ρ with
 |bad|ex x=>rw[q] at h;exact h
 |ok d =>
  rw[q] at h;simp only[M.A7] at h;intro v H' s hv;cases hv with
  |AA=>exact⟨false,rfl,h H' s⟩
  |bl b=>exact⟨b,rfl,h H' s⟩
  |int i=>exact⟨_,rfl,h H' s⟩
  |tup hs hl=>exact⟨_,.inr (.inl ⟨_,Fb.of (Am hs).2,rfl⟩),by rw[<-IZ hl];exact h H' s⟩
  |lst hs hl=>exact⟨_,.inl ⟨_,hs.AN,rfl⟩,by rw[<-IZ hl];exact h H' s⟩
  |_=>exact h.elim
end
noncomputable def J0 (m:M (List D)):M OT:=match m with | .ok ys=>.ok (.lst (ys.map .sh)) | _=>.bad
section
variable {X:Cx}{WX:Str->Hp->Prop}{c:Bool}{P0:Et}{P:Addr->Prop}{H:Hp}{σ:St}{ρ:Ac}{a b e tg iter:Expr}{f g:Ac->M D}{ft:Ac->M Bool}{pos:Pos}{gt:D->Ac->M Ac}{fi:Ac->M (List D)}{es:List Expr}{fs:Ac->M (List D)}
theorem Yy {μ:List (Option Nat)}{wi:TI}{gg:TG}{tc:Shared->Hp->Addr->List Addr->TT}{te:Shared->Hp->Addr->List Addr->TE}{fe:Ac->M D}
 (i2:∀P0 P σ H R ρ,Ak X.K P0 P H σ ρ->(match fi ρ with | .ok ds=>∀J H',Ad H H'->Yb X.K J P H' ds->R J H' | .ex x=>∀H',Ad H H'->WX x H' | .bad=>False)->wi σ H R)
 (g2:∀P0 P σ H Q ρ v d,Ak X.K P0 P H σ ρ->BK X.K (del H P) v d->gG X.K P0 P H Q (gt d ρ)->gg v σ H Q)
 (t2:∀s H' C ex P0 P σ H Q ρ,Ak X.K P0 P H σ ρ->gT (λ _ _=>False) H Q (ft ρ)->tc s H' C ex σ H Q)
 (e2:∀s H' C ex P0 P σ H Q ρ,Ak X.K P0 P H σ ρ->gV X.K (λ _ _=>False) (Lv true P0 P) H Q (fe ρ)->te s H' C ex σ H Q) {Q:VK}
 (E:Ak X.K P0 P H σ ρ) (h:TX X.K WX P H Q ((fi ρ).bind λ ds=>if ds.length<=1000 then J0 (Bq gt ft fe ds (B4 μ ρ)) else .bad)):Rz wi μ gg tc te σ H Q:=by
 refine i2 P0 P σ H _ ρ E ?_;cases q:fi ρ with
 |bad|ex x=>rw[q] at h;exact h
 |ok ds =>
  rw[q] at h;simp only[M.A7] at h;by_cases hd:¬ ds.length<=1000
  ·rw[if_neg hd] at h;exact h.elim
  have hd:ds.length<=1000:=by omega
  rw[if_pos hd] at h;intro J H1 s1 ok s C ex;cases qc:Bq gt ft fe ds (B4 μ ρ) with
  |bad|ex x=>rw[qc] at h;exact h.elim
  |ok total =>
   rw[qc] at h;unfold J0 at h;dsimp only at h;have E1:=E.same s1;refine⟨λ i m ys H2=>m=ds.length-i/\i<=ds.length/\ys.length<=i/\Ad H1 H2/\∃es rest,Ai X.K (del H2 P) ys es/\Bq gt ft fe (ds.drop i) (B4 μ ρ)=.ok rest/\es++rest=total,
    ⟨ds.length,by simp,zJ _,zx _,Ad.refl _,[],total,.nil,by rw[List.drop_zero];exact qc,rfl⟩,?_⟩
   rintro i m ys H2 ⟨rfl,hi,hy,s2,es,rest,bK,ag,aD⟩;by_cases ah:i<ds.length
   ·refine .inr ⟨ok.go i P H2 s2.del ah,Nat.lt_of_le_of_lt hy (AE (by omega)),λ aU H'=>i+1<=ds.length/\aU.length<=i+1/\Ad H1 H'/\∃es rest,Ai X.K (del H' P) aU es/\Bq gt ft fe (ds.drop (i+1)) (B4 μ ρ)=.ok rest/\es++rest=total,λ aU H' hq=>⟨ds.length-(i+1),by omega,rfl,hq.1,hq.2.1,hq.2.2.1,hq.2.2.2⟩,λ v H3 y=>?_⟩;have E2:=E1.same s2;obtain⟨s3,hv⟩:=ok.cF i P H2 v H3 ds[i] s2.del E2.BS (zi ah) y;rw[Gg ah,Bq] at ag;have E3:=(E2.same s3).block μ;refine g2 P0 P _ H3 _ (B4 μ ρ) v ds[i] E3 hv ?_;cases q1:gt ds[i] (B4 μ ρ) with
    |bad|ex x=>rw[q1] at ag;cases ag
    |ok ρ1 =>
     rw[q1] at ag;dsimp only at ag;intro σ4 E4;refine t2 s H1 C ex P0 P σ4 H3 _ ρ1 E4 ?_;cases q2:ft ρ1 with
     |bad|ex x=>rw[q2] at ag;cases ag
     |ok k =>
      rw[q2] at ag;dsimp only at ag;intro H5 s5;cases k with
      |false =>
       simp only[z8,if_false] at ag ⊢;exact⟨ah,by omega,(s2.trans s3).trans s5,es,rest,(bK.mono s3.del).mono s5.del,ag,aD⟩
      |true =>
       simp only[if_true] at ag ⊢;refine e2 s H1 C ex P0 P σ4 H5 _ ρ1 (E4.same s5) ?_;cases q3:fe ρ1 with
       |bad|ex x=>rw[q3] at ag;cases ag
       |ok y' =>
        rw[q3] at ag;dsimp only at ag;cases q4:Bq gt ft fe (ds.drop (i+1)) (B4 μ ρ) with
        |bad|ex x=>rw[q4] at ag;cases ag
        |ok i7 =>
         rw[q4] at ag;cases ag;intro w H6 s6 hw;refine⟨ah,by rw[zC,yJ];omega,((s2.trans s3).trans s5).trans s6,es++[y'],i7,(((bK.mono s3.del).mono s5.del).mono s6.del).snoc hw,rfl,?_⟩;rw[yP];exact aD
   ·have e:i=ds.length:=by omega
    subst e;rw[zb0,Bq] at ag;cases ag;rw[zR] at aD;subst aD;exact .inl ⟨ok.stop _ P H2 s2.del (zx _),λ D0 hn=>h.Kg (s1.trans s2) bK D0 hn⟩
theorem BB {scope:Scope}{NB:List Str}{ifs:List Expr}{elt:Expr}{fe:Ac->M D}(μ:List (Option Nat))(hc:X.calm=true)(hi:DI X WX tg iter fi)(a4:Ff scope X.env.scope=true)(aW:Ml X.N NB scope μ=true)(hg:iK X scope NB μ tg gt)
 (ht:∀s H C ex,lE (blockOf X s H scope C NB ex) ifs ft) (he:∀s H C ex,DE (blockOf X s H scope C NB ex) (λ _ _=>False) true elt fe) (hs:∀x,foldedSetIterable iter X.env x=pure x:=by intro _;rfl):
 DN X WX (.ListComp elt [⟨tg,iter,ifs,0⟩] scope pos) (λ ρ=>(fi ρ).bind λ ds=>if ds.length<=1000 then J0 (Bq gt ft fe ds (B4 μ ρ)) else .bad):=by
 obtain⟨wi,i1,i2⟩:=hi;obtain⟨gg,g1,gk,g2⟩:=hg;refine⟨_,UO hc i1 a4 aW gk (λ s H C ex=>⟨g1 s H C ex,(zb (ht s H C ex)).1,(zb (he s H C ex)).1⟩) hs,λ P0 P σ H Q ρ E h=>?_⟩;exact Yy i2 g2 (λ s H' C ex P0 P σ H Q ρ E h=>(zb (ht s H' C ex)).2 P0 P σ H Q ρ E h) (λ s H' C ex P0 P σ H Q ρ E h=>(zb (he s H' C ex)).2 P0 P σ H Q ρ E h) E h
theorem Yz {scope:Scope}{NB:List Str}{ifs:List Expr}{elt:Expr}{fe:Ac->M D}(i:Nat){x:Str}{px am:Pos}(μ:List (Option Nat))(hN:X.N.Nodup)(fg:X.N[i]?=some x)(hx:Loc X.env.scope x)(hc:X.calm=true)(hi:DI X WX tg iter fi)(a4:Ff scope X.env.scope=true)(aW:Ml X.N NB scope μ=true)(hg:iK X scope NB μ tg gt)
 (ht:∀s H C ex,lE (blockOf X s H scope C NB ex) ifs ft) (he:∀s H C ex,DE (blockOf X s H scope C NB ex) (λ _ _=>False) true elt fe)
 (aR:swapsWith (.ListComp elt [⟨tg,iter,ifs,0⟩] scope pos) (some (.Name x px)) am.line X.env=pure true:=by rfl) (hs:∀x,foldedSetIterable iter X.env x=pure x:=by intro _;rfl) (hf:X.fn x=true\/X.env.scope.names.lookup x=some .local:=by first|exact .inl rfl|exact .inr rfl|assumption):
 DS X WX (.Assign [.Name x px] (.ListComp elt [⟨tg,iter,ifs,0⟩] scope pos) am) (λ ρ=>(O5 ((fi (Dn ρ)).bind λ ds=>if ds.length<=1000 then J0 (Bq gt ft fe ds (B4 μ (Dn ρ))) else .bad)).bind (O6 i ρ)):=by
 obtain⟨wi,i1,i2⟩:=hi;obtain⟨gg,g1,gk,g2⟩:=hg;refine⟨_,PY hN fg hx hc i1 a4 aW gk (λ s H C ex=>⟨g1 s H C ex,(zb (ht s H C ex)).1,(zb (he s H C ex)).1⟩) aR hs hf,λ P0 P σ H Z ρ E h=>?_⟩;refine Yy (P0:=P0) (P:=P0) i2 g2 (λ s H' C ex P0 P σ H Q ρ E h=>(zb (ht s H' C ex)).2 P0 P σ H Q ρ E h) (λ s H' C ex P0 P σ H Q ρ E h=>(zb (he s H' C ex)).2 P0 P σ H Q ρ E h) E.low ?_;dsimp only at h;revert h;cases ((fi (Dn ρ)).bind λ ds=>if ds.length<=1000 then J0 (Bq gt ft fe ds (B4 μ (Dn ρ))) else .bad) with
 |bad=>exact λ h=>h
 |ex y=>exact λ h H' s=>h H' P (E.tr s)
 |ok t =>
  unfold O5;simp only[M.A7];by_cases hf:EZ t=true
  ·rw[if_pos hf];exact λ h v fp H' s hn nd o=>Yv E s hn nd (o.clean (Gn (E.same s).BS o) hf) h
  ·rw[if_neg hf];exact λ h=>h.elim
end
def tY (K:za)(WX:Str->Hp->Prop)(P:Addr->Prop)(p:Addr)(fp:List Addr)(H:Hp)(Q:VK):M (OT×OT)->Prop
 | .ok (t,r)=>∀v H' P' ai fr,(∀a,P a->a∉fp->P' a/\H' a=H a)->(∀a,P' a->Dq H' a)->Ad (del H P) (del H' P')->C4 K H' P' (.ref p) t ai->ai.Nodup->C4 K H' P' v r fr->fr.Nodup->(∀a∈fr,a∉ai)->
  (∀a∈ai,P' a/\(P a->a∈fp))->(∀a∈fr,P' a/\(P a->a∈fp))->Q v H'
 | .ex _| .bad=>False
noncomputable def OX (K:za)(n:Nat)(F:OT->List D->M (OT×OT)):Sp:=λ vs H Q E=>vs.length=n/\∃P p t fp rest ax,vs=.ref p::rest/\(∀a,P a->Dq H a)/\(∀a∈fp,P a)/\fp.Nodup/\C4 K H P (.ref p) t fp/\Ai K (del H P) rest ax/\tY K (E7 K E) P p fp H Q (F t ax)
noncomputable def CY (N:List Str)(t:OT)(ax:List D):Ac:=some (toCl (some 0) t)::(ax.map (λ d=>some (.val d))++zu (N.length-(ax.length+1)) none)
noncomputable def Gp (ρ:Ac):Option OT:=match ρ[0]? with
 |some (some c)=>(match treeOf c with|some (some 0,t)=>some t|_=>none)
 |_=>none
noncomputable def Ec (m:M Out):M (OT×OT):=match m with
 | .ok (.next ρ)=>(match Gp ρ with|some t=>.ok (t,.sh .AA)|none=>.bad)
 | .ok (.EV r ρ)=>(match Gp ρ with|some t=>.ok (t,r)|none=>.bad)
 |_=>.bad
theorem RN (p:Option Nat)(t:OT):treeOf (toCl p t)=some (p,t):=by
 unfold toCl;split
 ·rename_i ts;cases q:Dx ts with
  |none=>rfl
  |some ds =>
   have e:=Cs q;subst e;cases p<;>rfl
 ·rfl
theorem Wm (p:Option Nat)(t:OT):Hy (toCl p t)=true:=by
 unfold toCl;split
 ·rename_i ts;cases q:Dx ts with
  |none=>rfl
  |some ds=>cases p<;>rfl
 ·rfl
theorem J1 {K:za}{P:Addr->Prop}{H:Hp}{N:List Str}{p:Addr}{t:OT}{fp:List Addr}{rest:List V}{ax:List D}(ht:∀a,P a->Dq H a)(hp:∀a∈fp,P a)(nd:fp.Nodup)(o:C4 K H P (.ref p) t fp)(h:Ai K (del H P) rest ax):
 Ak K ⟨λ a=>P a/\a∉fp,λ _=>p⟩ P H (start N (.ref p::rest)) (CY N t ax):=by
 have hl:=h.length;have key:∀(i:Nat) (c:Cl),(ax.map (λ d=>some (Cl.val d))++zu (N.length-(ax.length+1)) none)[i]?=some (some c)->∃d,ax[i]?=some d/\c=.val d:=λ i c e=>by
  by_cases hi:i<ax.length
  ·rw[yN (by simpa using hi),z7] at e;cases q:ax[i]? with
   |none=>rw[q] at e;cases e
   |some d=>rw[q] at e;cases e;exact⟨d,rfl,rfl⟩
  ·rw[za4 (by simpa using hi),za1] at e;split at e<;>cases e
 have sx:(start N (.ref p::rest))[0]?=some (some (.ref p)):=by unfold start;rfl
 refine⟨λ a h=>h.1,ht,λ i d e=>?_,λ i c e io=>?_,λ i j c c' v v' fp ai e1 e2 _ _ o1 o2 ae=>?_,?_,λ i c n e vW=>?_⟩
 rotate_left 4
 ·cases i with
  |zero=>exact sx
  |succ i =>
   obtain⟨d',q,z⟩:=key i _ (by unfold CY at e;simpa using e);cases z;cases vW
 ·cases i with
  |zero =>
   have e':some (toCl (some 0) t)=some (.val d):=by simpa [CY] using e
   have:=Wm (some 0) t;rw[zD e'] at this;cases this
  |succ i =>
   obtain⟨d',q,z⟩:=key i _ (by unfold CY at e;simpa using e);cases z;obtain⟨v,hv,hd⟩:=h.get q;refine⟨v,?_,hd⟩;unfold start;rw[zf,zb1,zI,yN (by rw[zc];exact (zw.mp hv).1),z7,hv];rfl
 ·cases i with
  |zero =>
   have e':toCl (some 0) t=c:=by simpa [CY] using e
   subst e';exact⟨_,fp,sx,Dl.toCl o,λ a ha=>⟨hp a ha,λ z=>z.2 ha⟩,nd⟩
  |succ i =>
   obtain⟨d',q,z⟩:=key i _ (by unfold CY at e;simpa using e);cases z;cases io
 ·cases i with
  |zero =>
   cases j with
   |zero=>exact (ae rfl).elim
   |succ j =>
    obtain⟨d',q,z⟩:=key j _ (by unfold CY at e2;simpa using e2);cases z;exact o2.elim
  |succ i =>
   obtain⟨d',q,z⟩:=key i _ (by unfold CY at e1;simpa using e1);cases z;exact o1.elim
 ·unfold start CY;simp[hl]
section
variable {P:Program}{w:World}{K:za}{mg:Str->Option Value}{base:Heap}
theorem LD {P0:Et}{P':Addr->Prop}{H':Hp}{σ':St}{ρ:Ac}{t:OT}(E:Ak K P0 P' H' σ' ρ)(h:Gp ρ=some t):∃c ai,ρ[0]?=some (some c)/\σ'[0]?=some (some (.ref (P0.g 0)))/\Dl K H' P' c (.ref (P0.g 0)) ai/\C4 K H' P' (.ref (P0.g 0)) t ai/\ai.Nodup/\∀a∈ai,P' a/\¬ P0 a:=by
 unfold Gp at h;split at h
 ·rename_i c e;split at h
  ·rename_i t' e2;cases h;have io:Hy c=true:=by cases c<;>first|rfl|cases e2
   obtain⟨v,fp,k1,k2,k3,k4⟩:=E.ows 0 c e io;have:=E.pin 0 c 0 e (Ih e2);rw[k1] at this;cases this;exact⟨c,fp,e,k1,k2,k2.toT e2,k4,k3⟩
  ·cases h
 ·cases h
theorem lP {x qual:Str}{st:Stmt}{f:Addr}{fd:FuncData}{N ps:List Str}{k:Nat}(F:Xc K x qual st f fd)(S:Ag N ps (A4 st))(g:Ac->M Out)
 (hb:∀(B5:Value) (A:Around) (outer:List Env) (s:Shared) (H:Hp) (E:XK),BJ k (A.deeper (envOfC qual (A4 st) s.heap.objs.size f B5))->T8 (iL P w K mg base N qual (A4 st) f B5 A outer s H E) (E7 K E) (AM st) g):
 Ds P w K mg base (Wa P w base) (k+1) f fd ps (OX K ps.length λ t ax=>Ec (g (CY N t ax))):=by
 obtain⟨oc,od,kV,doc,pm,an,B5,ct,T7,rfl,lk,be⟩:=F.ex;refine UI lk be S (λ vs H Q E h=>h.1) λ A outer s H vs Q E hr h=>?_;obtain⟨hl,P',p,t,fp,rest,ax,rfl,ht,hp,nd,ho,hv,hq⟩:=h;obtain⟨tt,h1,h2⟩:=hb B5 A outer s H E hr;refine⟨tt,h1,h2 ⟨λ a=>P' a/\a∉fp,λ _=>p⟩ P' _ H _ _ (J1 ht hp nd ho hv) ?_⟩;dsimp only at hq;revert hq;cases g (CY N t ax) with
 |bad|ex x=>exact λ h=>h.elim
 |ok o =>
  have sub:∀ {P2:Addr->Prop} {H2:Hp} {σ2:St} {ρ:Ac},Ak K ⟨λ a=>P' a/\a∉fp,λ _=>p⟩ P2 H2 σ2 ρ->∀a,P2 a/\¬ (P' a/\a∉fp)->P2 a/\(P' a->a∈fp):=λ E a ha=>⟨ha.1,λ z=>zar λ w=>ha.2 ⟨z,w⟩⟩;cases o with
  |ret d|CI d=>exact λ h=>h.elim
  |next ρ =>
   intro hq σ' H' P2 t2 E2;unfold Ec at hq;dsimp only at hq;split at hq
   ·rename_i t' e;obtain⟨c,ai,k1,k2,k3,k4,k5,k6⟩:=LD E2 e;exact hq .AA H' P2 ai [] (λ a ha hn=>⟨E2.sub a ⟨ha,hn⟩,t2.2 a ⟨ha,hn⟩⟩) E2.BS t2.1 k4 k5 (.sh .AA) yM (λ a ha=>by cases ha) (λ a ha=>sub E2 a (k6 a ha)) (λ a ha=>by cases ha)
   ·exact hq.elim
  |EV r ρ =>
   intro hq v fr σ' H' P2 t2 E2 o2 aY hf;unfold Ec at hq;dsimp only at hq;split at hq
   ·rename_i t' e;obtain⟨c,ai,k1,k2,k3,k4,k5,k6⟩:=LD E2 e;exact hq v H' P2 ai fr (λ a ha hn=>⟨E2.sub a ⟨ha,hn⟩,t2.2 a ⟨ha,hn⟩⟩) E2.BS t2.1 k4 k5 o2 aY (λ a ha=>(hf a ha).2.2 0 c _ ai k1 k2 k3) (λ a ha=>sub E2 a (k6 a ha)) (λ a ha=>sub E2 a ⟨(hf a ha).1,(hf a ha).2.1⟩)
   ·exact hq.elim
  |brk ρ|cont ρ=>exact λ h=>h.elim
end
structure OY (P:Program)(w:World)(K:za)(mg:Str->Option Value)(base:Heap)(x:Str)(k n:Nat)(F:OT->List D->M (OT×OT)):Prop where
 ex:∃fa fd ps,Ds P w K mg base (Wa P w base) k fa fd ps (OX K n F)/\mg x=some (.ref fa)/\yB K (.ref fa)=true/\Binds K fd ps []
theorem RO {P:Program}{w:World}{K:za}{mg:Str->Option Value}{base:Heap}{x:Str}{st:Stmt}{N ps:List Str}{k n:Nat}(T:AH K mg x st ps)(S:Ag N ps (A4 st))(g:Ac->M Out)
 (hb:∀(f:Addr) (B5:Value) (A:Around) (outer:List Env) (s:Shared) (H:Hp) (E:XK),BJ k (A.deeper (envOfC x (A4 st) s.heap.objs.size f B5))->T8 (iL P w K mg base N x (A4 st) f B5 A outer s H E) (E7 K E) (AM st) g) (hn:ps.length=n:=by rfl):
 OY P w K mg base x (k+1) n (λ t ax=>Ec (g (CY N t ax))):=by
 obtain⟨f,fd,F,hm,hB⟩:=T.ex;subst hn;exact⟨⟨f,fd,ps,lP F S g (hb f),hm,F.kp,hB⟩⟩
section
variable {X:Cx}{WX:Str->Hp->Prop}{c:Bool}{P0:Et}{P:Addr->Prop}{H:Hp}{σ:St}{ρ:Ac}{a b e:Expr}{f g:Ac->M D}{fn:Ac->M OT}{fp:Ac->M (List Nat)}{pos:Pos}{i:Nat}{es:List Expr}{fs:Ac->M (List D)}
theorem Ak.new {K:za}{P':Addr->Prop}{H':Hp}(E:Ak K P0 P H σ ρ)(s:Ad H H')(sm:Ad (del H P) (del H' P')){a:Addr}(hn:H a=none):∀(j:Nat) c v fq,ρ[j]?=some (some c)->σ[j]?=some (some v)->Dl K H' P' c v fq->a∉fq:=λ j c v fq h1 h2 h3 ha=>by
 have io:Hy c=true:=by cases c<;>first|rfl|exact h3.elim
 obtain⟨w,fr,k1,k2,k3,k4⟩:=E.ows j c h1 io;rw[h2] at k1;cases k1;have m:=k2.move sm λ b hb=>by obtain⟨o,q⟩:=k2.at b hb;rw[q];exact s _ _ q
 rw[h3.Ci m] at ha;obtain⟨o,q⟩:=k2.at a ha;rw[hn] at q;cases q
theorem Ak.qM {K:za}{P':Addr->Prop}{H':Hp}{π:List Nat}{v1 v2:V}{t1 u r:OT}{ay fu fr:List Addr}(E:Ak K P0 P H σ ρ)(pl:Bd K P H σ ρ i π v1 t1)(o:C4 K H P v1 t1 ay)(hs:∀a,P a->a∉ay->P' a/\H' a=H a)(ht:∀a,P' a->Dq H' a)(sm:Ad (del H P) (del H' P'))
 (o':C4 K H' P' v1 u fu) (nd:fu.Nodup) (hf:∀a∈fu,P' a/\(P a->a∈ay)) (or:C4 K H' P' v2 r fr) (yn:fr.Nodup) (hr:∀a∈fr,P' a/\(P a->a∈ay)) (dj:∀a∈fr,a∉fu):
 ∃c p t,ρ[i]?=some (some c)/\treeOf c=some (p,t)/\Ak K P0 P' H' σ (ρ.set i (some (toCl p (EI t π u))))/\Tr P0 P H P' H'/\
  ∀a∈fr,P' a/\¬ P0 a/\∀(j:Nat) c' v fq,(ρ.set i (some (toCl p (EI t π u))))[j]?=some (some c')->σ[j]?=some (some v)->Dl K H' P' c' v fq->a∉fq:=by
 obtain⟨v0,c,p,t,h1,h2,h3,h4⟩:=pl.ex;have io:Hy c=true:=by cases c<;>first|rfl|cases h2
 obtain⟨w,fp,k1,k2,k3,k4⟩:=E.ows i c h1 io;rw[h3] at k1;cases k1;have ot:=k2.toT h2;obtain⟨fz,oz,kz,_⟩:=ot.part h4;have:=oz.Ci o;subst this;obtain⟨ai,q1,q2,q3⟩:=ot.put sm h4 o o' (λ a ha hn=>(hs a (k3 a ha).1 hn).2) k4 nd (λ a ha hb=>(hf a ha).2 (k3 a hb).1);have sy:∀(j:Nat) c' v' fq,i≠j->ρ[j]?=some (some c')->σ[j]?=some (some v')->Dl K H P c' v' fq->∀a∈fq,P a/\a∉fp:=λ j c' v' fq ae g1 g2 g3 a ha=>by
  have jb:Hy c'=true:=by cases c'<;>first|rfl|exact g3.elim
  obtain⟨w',og,m1,m2,m3,m4⟩:=E.ows j c' g1 jb;rw[g2] at m1;cases m1;have:=m2.Ci g3;subst this;exact⟨(m3 a ha).1,E.apart j i c' c v' v0 og fp g1 h1 g2 h3 g3 k2 (zX ae) a ha⟩
 have key:=E.pZ (P':=P') (H':=H') (i:=i) (v:=v0) (c:=toCl p (EI t π u)) (fp:=ai) (λ a ha=>(hs a (E.sub a ha) λ z=>(k3 a (kz a z)).2 ha).1) ht sm (λ j c' v' fq ae g1 g2 g3 a ha=>?_) (Dl.toCl q1) (λ a ha=>?_) q2 (λ n z=>by rw[Ig] at z;subst z;have:=E.pin i c n h1 (Ih h2);rw[h3] at this;cases this;rfl)
 ·rw[Kb h3] at key;refine⟨c,p,t,h1,h2,key,⟨sm,λ a ha=>(hs a (E.sub a ha) λ z=>(k3 a (kz a z)).2 ha).2⟩,λ a ha=>⟨(hr a ha).1,λ z=>(k3 a (kz a ((hr a ha).2 (E.sub a z)))).2 z,λ j c' v fq g1 g2 g3 hb=>?_⟩⟩;rcases get_set g1 with ⟨rfl,hl,z⟩|⟨ae,g1⟩
  ·cases z;rw[h3] at g2;cases g2;rw[g3.Ci (Dl.toCl q1)] at hb;rcases q3 a hb with y|y
   ·exact dj a ha y
   ·exact y.2 ((hr a ha).2 (k3 a y.1).1)
  ·have jb:Hy c'=true:=by cases c'<;>first|rfl|exact g3.elim
   obtain⟨w',og,m1,m2,m3,m4⟩:=E.ows j c' g1 jb;rw[g2] at m1;cases m1;have o2:=sy j c' v og ae g1 g2 m2;have mv:=m2.move sm λ b a8=>(hs b (o2 b a8).1 λ z=>(o2 b a8).2 (kz b z)).2;rw[g3.Ci mv] at hb;exact (o2 a hb).2 (kz a ((hr a ha).2 (o2 a hb).1))
 ·have o2:=sy j c' v' fq ae g1 g2 g3 a ha;have hk:=hs a o2.1 λ z=>o2.2 (kz a z);refine⟨hk.2,λ z=>?_,hk.1⟩;rcases q3 a z with y|y
  ·exact o2.2 (kz a ((hf a y).2 o2.1))
  ·exact o2.2 y.1
 ·rcases q3 a ha with y|y
  ·exact⟨(hf a y).1,λ z=>(k3 a (kz a ((hf a y).2 (E.sub a z)))).2 z⟩
  ·exact⟨(hs a (k3 a y.1).1 y.2).1,(k3 a y.1).2⟩
end
noncomputable def EJ (i:Nat)(ρ:Ac)(π:List Nat)(u:OT):M Out:=match ρ[i]? with
 |some (some c)=>(match treeOf c with|some (p,t)=>.ok (.next (ρ.set i (some (toCl p (EI t π u)))))|none=>.bad)
 |_=>.bad
noncomputable def CG (i:Nat)(ρ:Ac)(π:List Nat):M (List OT):=match R5 i ρ π with | some (.lst ts)=>.ok ts | _=>.bad
theorem Fq {i:Nat}{ρ:Ac}{π:List Nat}{u:OT}{c:Cl}{p:Option Nat}{t:OT}(h:ρ[i]?=some (some c))(ht:treeOf c=some (p,t)):EJ i ρ π u=.ok (.next (ρ.set i (some (toCl p (EI t π u))))):=by
 unfold EJ;simp only[h,ht]
theorem Au.append {K:za}{H:Hp}{P:Addr->Prop}:∀ {xs ys:List V}{ts us:List OT}{fp fq:List Addr},Au K H P xs ts fp->Au K H P ys us fq->Au K H P (xs++ys) (ts++us) (fp++fq)
 |_,_,_,_,_,_,.nil,h=>h
 |_,_,_,_,_,_,.cons a t,h=>by rw[yP];exact .cons a (t.append h)
section
variable {X:Cx}{WX:Str->Hp->Prop}{c:Bool}{P0:Et}{P:Addr->Prop}{H:Hp}{σ:St}{ρ:Ac}{a b e:Expr}{f g:Ac->M D}{fn:Ac->M OT}{fp:Ac->M (List Nat)}{pos:Pos}{i:Nat}{es:List Expr}{fs:Ac->M (List D)}
theorem Bd.lst {K:za}{π:List Nat}{v:V}{t1:OT}{ts:List OT}(pl:Bd K P H σ ρ i π v t1)(E:Ak K P0 P H σ ρ)(h:CG i ρ π=.ok ts):t1=.lst ts/\∃l xs fq,v=.ref l/\H l=some (.lst xs)/\Au K H P xs ts fq/\l∉fq/\fq.Nodup:=by
 unfold CG at h;rw[pl.at] at h;split at h
 ·rename_i oh e;cases e;cases h;obtain⟨ay,o1,hp,nd⟩:=pl.own E;cases o1 with
  |lst hh hr=>exact⟨rfl,_,_,_,rfl,hh,hr,(zV.mp nd).1,(zV.mp nd).2⟩
 ·cases h
theorem lQ (ha:DP X WX a i fp)(he:DN X WX e fn){apos ad:Pos}(hs:starEach [e] X.env=[(false,eval e X.env)]:=by rfl)
 (aR:swapsWith (.Call (.Attribute a "append" apos) [e] [] ad) none pos.line X.env=pure false:=by rfl)
 (ao:attributeBase a "append" X.env (eval a X.env)=eval a X.env:=by rfl)
 (aG:((backTo ad (starEach [e] X.env)).all (λ x => !x.1)&&(backToKw ad (keywordEach [] X.env)).all (λ x=>x.1.isSome)&&decide (([e]:List Expr).length+([]:List Keyword).length+(if ([]:List Keyword).isEmpty then 0 else 1)<30))=true:=by rfl)
 (aq:(apos.endLine==ad.line)=true:=by rfl) (al:(backTo ad (starEach [] X.env)).any (·.1)=false:=by rfl):
 DS X WX (.Expr (.Call (.Attribute a "append" apos) [e] [] ad) pos) (λ ρ=>(fp ρ).bind λ π=>(CG i ρ π).bind λ ts=>(fn ρ).bind λ t=>if ts.length<1000 then EJ i ρ π (.lst (ts++[t])) else .bad):=by
 obtain⟨ta,a1,a2⟩:=ha;obtain⟨te,e1,e2⟩:=he;refine⟨_,Ex (OC yQ PySem.F.slot_list_append PySem.F.type_list_append K4 a1 (Ba e1 C5 hs) ao aG aq hs al) aR,λ P0 P σ H Z ρ E h=>?_⟩;dsimp only at h;refine a2 P0 P σ H _ ρ E ?_;cases q:fp ρ with
 |bad=>rw[q] at h;exact h
 |ex x=>rw[q] at h;exact λ H' s=>h H' P (E.tr s)
 |ok π =>
  rw[q] at h;simp only[M.A7] at h;intro v t1 H1 s1 pl;have E1:=E.same s1;cases q1:CG i ρ π with
  |bad=>rw[q1] at h;exact h.elim
  |ex x=>unfold CG at q1;split at q1<;>cases q1
  |ok ts =>
   rw[q1] at h;simp only[M.A7] at h;obtain⟨rfl,l,xs,fq,rfl,hl,ol,nl,sB⟩:=pl.lst E1 q1;refine⟨.inl ⟨rfl,xs,.of hl⟩,e2 P0 P σ H1 _ ρ E1 ?_⟩;cases q2:fn ρ with
   |bad=>rw[q2] at h;exact h
   |ex y=>rw[q2] at h;exact λ H' s=>h H' P ((E.tr s1).trans (E1.tr s))
   |ok t =>
    rw[q2] at h;simp only[M.A7] at h;by_cases hz:ts.length<1000
    ·rw[if_pos hz] at h;intro w fw H2 s2 n2 aY o2;have sm:=Bz (P:=P) s2 n2;have E2:Ak X.K P0 (PU P fw) H2 σ ρ:=E1.more s2 Ic (Gn (E1.same s2).BS o2) sm;have keep:∀b∈fq,H2 b=H1 b:=λ b hb=>by obtain⟨o,z,_⟩:=ol.BS b hb;rw[z];exact s2 _ _ z
     have dz:=ol.move sm keep;have a6:=s2 _ _ hl;have dj:∀b∈fq,b∉fw:=λ b hb hc=>(ol.BS b hb).no (n2 b hc);obtain⟨c,p,t0,g1,g2,E3,t3⟩:=E2.lM (pl.more sm s2) a6 dz (us:=ts++[t]) (ys:=xs++[w]) (dz.append (.cons o2 .nil)) (by rw[zR];exact zA.mpr ⟨sB,aY,λ b hb d hd z=>dj b hb (by rw[z];exact hd)⟩) (by
      rw[zR];intro z;rcases zv.mp z with z|z
      ·exact nl z
      ·rw[n2 l z] at hl;cases hl) (by
      intro b hb;rw[zR] at hb;rcases zv.mp hb with z|z
      ·exact .inl z
      ·exact .inr ⟨.inr z,λ y=>(E1.BS b (E1.sub b y)).no (n2 b z),E1.new s2 sm (n2 b z)⟩)
     rw[Fq g1 g2] at h;exact⟨l,xs,w,rfl,rfl,a6,AE (by rw[ol.len];exact yH hz),h _ _ _ (((E.tr s1).trans (E1.rQ s2 n2)).trans t3) E3⟩
    ·rw[if_neg hz] at h;exact h.elim
noncomputable def eN {α:Type}(o:Option α):M α:=match o with | some x=>.ok x | none=>.bad
noncomputable def T9 (i:Nat)(ρ:Ac)(π:List Nat):M (List D):=match R5 i ρ π with | some (.lst ts)=>(match Dx ts with | some ds=>.ok ds | none=>.bad) | _=>.bad
theorem Bd.shl {K:za}{π:List Nat}{v:V}{t1:OT}{ds:List D}(pl:Bd K P H σ ρ i π v t1)(E:Ak K P0 P H σ ρ)(h:T9 i ρ π=.ok ds):t1=.lst (ds.map .sh)/\∃l xs,v=.ref l/\H l=some (.lst xs)/\Ai K (del H P) xs ds:=by
 unfold T9 at h;rw[pl.at] at h;split at h
 ·rename_i oh e;split at h
  ·rename_i i6 e';cases e;cases h;have z:=Cs e';subst z;obtain⟨ay,o1,hp,nd⟩:=pl.own E;cases o1 with
   |lst hh hr=>exact⟨rfl,_,_,rfl,hh,hr.lL.2⟩
  ·cases h
 ·cases h
theorem YA {π:List Nat}{x:Str}(h:T9 i ρ π=.ex x):False:=by
 unfold T9 at h;split at h
 ·split at h<;>cases h
 ·cases h
theorem Ak.qN {K:za}{π:List Nat}{l:Addr}{xs ys:List V}{ds es:List D}(E:Ak K P0 P H σ ρ)(pl:Bd K P H σ ρ i π (.ref l) (.lst (ds.map .sh)))(hH:H l=some (.lst xs))(o:Ai K (del H P) xs ds)(o':Ai K (del H P) ys es):
 ∃c p t,ρ[i]?=some (some c)/\treeOf c=some (p,t)/\Ak K P0 P (upd H l (.lst ys)) σ (ρ.set i (some (toCl p (EI t π (.lst (es.map .sh))))))/\Tr P0 P H P (upd H l (.lst ys)):=
 E.lM pl hH o.ows o'.ows yM (λ z=>by cases z) (λ a ha=>by cases ha)
noncomputable def eO (t:OT):M (List D):=match t with | .lst us=>eN (Dx us) | _=>.bad
theorem YB (ha:DP X WX a i fp)(he:DN X WX e fn){apos ad:Pos}(hs:starEach [e] X.env=[(false,eval e X.env)]:=by rfl)
 (aR:swapsWith (.Call (.Attribute a "extend" apos) [e] [] ad) none pos.line X.env=pure false:=by rfl)
 (ao:attributeBase a "extend" X.env (eval a X.env)=eval a X.env:=by rfl)
 (aG:((backTo ad (starEach [e] X.env)).all (λ x => !x.1)&&(backToKw ad (keywordEach [] X.env)).all (λ x=>x.1.isSome)&&decide (([e]:List Expr).length+([]:List Keyword).length+(if ([]:List Keyword).isEmpty then 0 else 1)<30))=true:=by rfl)
 (aq:(apos.endLine==ad.line)=true:=by rfl) (al:(backTo ad (starEach [] X.env)).any (·.1)=false:=by rfl):
 DS X WX (.Expr (.Call (.Attribute a "extend" apos) [e] [] ad) pos) (λ ρ=>(fp ρ).bind λ π=>(T9 i ρ π).bind λ ds=>((fn ρ).bind eO).bind λ es=>if ds.length+es.length<=1000 then EJ i ρ π (.lst ((ds++es).map .sh)) else .bad):=by
 obtain⟨ta,a1,a2⟩:=ha;obtain⟨te,e1,e2⟩:=he;refine⟨_,Ex (OC yQ PySem.F.slot_list_extend PySem.F.type_list_extend VX a1 (Ba e1 C5 hs) ao aG aq hs al) aR,λ P0 P σ H Z ρ E h=>?_⟩;dsimp only at h;refine a2 P0 P σ H _ ρ E ?_;cases q:fp ρ with
 |bad=>rw[q] at h;exact h
 |ex x=>rw[q] at h;exact λ H' s=>h H' P (E.tr s)
 |ok π =>
  rw[q] at h;simp only[M.A7] at h;intro v t1 H1 s1 pl;have E1:=E.same s1;cases q1:T9 i ρ π with
  |bad=>rw[q1] at h;exact h.elim
  |ex x=>exact (YA q1).elim
  |ok ds =>
   rw[q1] at h;simp only[M.A7] at h;obtain⟨rfl,l,xs,rfl,hl,ol⟩:=pl.shl E1 q1;refine⟨.inl ⟨rfl,xs,.of hl⟩,e2 P0 P σ H1 _ ρ E1 ?_⟩;cases q2:fn ρ with
   |bad=>rw[q2] at h;exact h
   |ex y=>rw[q2] at h;exact λ H' s=>h H' P ((E.tr s1).trans (E1.tr s))
   |ok t =>
    rw[q2] at h;simp only[M.A7] at h;intro w fw H2 s2 n2 aY o2;have sm:=Bz (P:=P) s2 n2;have E2:Ak X.K P0 (PU P fw) H2 σ ρ:=E1.more s2 Ic (Gn (E1.same s2).BS o2) sm;cases t with
    |lst us =>
     simp only[eO] at h;cases q3:Dx us with
     |none=>rw[q3] at h;exact h.elim
     |some es =>
      rw[q3] at h;simp only[eN,M.A7] at h;have z:=Cs q3;subst z;cases o2 with
      |lst hb hr =>
       by_cases hz:ds.length+es.length<=1000
       ·rw[if_pos hz] at h;have he:=hr.lL.2;have dz:=ol.mono sm;have a6:=s2 _ _ hl;obtain⟨c,p,t0,g1,g2,E3,t3⟩:=E2.qN (pl.more sm s2) a6 dz (dz.append he);rw[Fq g1 g2] at h;exact⟨l,_,xs,_,rfl,rfl,a6,hb,yH (AE (by rw[ol.length,he.length];exact hz)),h _ _ _ (((E.tr s1).trans (E1.rQ s2 n2)).trans t3) E3⟩
       ·rw[if_neg hz] at h;exact h.elim
    |_=>exact h.elim
end
def gX (K:za)(WX:Str->Hp->Prop)(P0:Et)(P:Addr->Prop)(H:Hp)(σ:St)(Q:VK):M (Ac×OT)->Prop
 | .ok (ρ,t)=>∀v fp H' P',Tr P0 P H P' H'->Ak K P0 P' H' σ ρ->C4 K H' P' v t fp->fp.Nodup->(∀a∈fp,P' a/\¬ P0 a/\∀(j:Nat) c v' fq,ρ[j]?=some (some c)->σ[j]?=some (some v')->Dl K H' P' c v' fq->a∉fq)->Q v H'
 | .ex x=>∀H' P',Tr P0 P H P' H'->WX x H'
 | .bad=>False
def DX (X:Cx)(WX:Str->Hp->Prop)(e:Expr)(f:Ac->M (Ac×OT)):Prop:=
 ∃t,PE X e t/\∀P0 P σ H Q ρ,Ak X.K P0 P H σ ρ->gX X.K WX P0 P H σ Q (f ρ)->t σ H Q
noncomputable def YC:OT->Bool
 | .sh _=>false
 |_=>true
noncomputable def RP (i:Nat)(F:OT->List D->M (OT×OT))(ρ:Ac)(π:List Nat)(ax:List D):M (Ac×OT):=match ρ[i]? with
 |some (some c)=>(match treeOf c with
  |some (p,t)=>(match Ke t π with
   |some t1=>if YC t1=true then (match F t1 ax with | .ok (t2,r)=>.ok (ρ.set i (some (toCl p (EI t π t2))),r)|_=>.bad) else .bad
   |none=>.bad)
  |none=>.bad)
 |_=>.bad
section
variable {X:Cx}{E:XK}{WX:Str->Hp->Prop}{c:Bool}{P0:Et}{P:Addr->Prop}{H:Hp}{σ:St}{ρ:Ac}{a b e:Expr}{f g:Ac->M D}{fn:Ac->M OT}{fx:Ac->M (Ac×OT)}{fp:Ac->M (List Nat)}{pos:Pos}{i:Nat}{es:List Expr}{fs:Ac->M (List D)}
theorem YD {F:OT->List D->M (OT×OT)}{π:List Nat}{ax:List D}{c:Cl}{p:Option Nat}{t t1 t2 r:OT}(h:ρ[i]?=some (some c))(ht:treeOf c=some (p,t))(hs:Ke t π=some t1)(hN:YC t1=true)(hF:F t1 ax=.ok (t2,r)):RP i F ρ π ax=.ok (ρ.set i (some (toCl p (EI t π t2))),r):=by
 unfold RP;simp only[h,ht,hs,hN,if_true,hF]
theorem YE {k n:Nat}{F:OT->List D->M (OT×OT)}{x:Str}{p:Pos}(xo:Gi X E)(G:OY X.prog X.w X.K X.mg X.base x k n F)(hr:BJ k X.A)(hg:Gl X x)(hp:DP X (E7 X.K E) a i fp)(ha:DA X (E7 X.K E) true es fs)(hn:es.length+1=n)
 (aV:(x==("__debug__" : Str))=false:=by decide) (he:starEach (a::es) X.env=(false,eval a X.env)::starEach es X.env:=by rfl) (au:(backTo pos (starEach es X.env)).any (·.1)=false:=by rfl):
 DX X (E7 X.K E) (.Call (.Name x p) (a::es) [] pos) (λ ρ=>(fp ρ).bind λ π=>(fs ρ).bind λ ax=>RP i F ρ π ax):=by
 obtain⟨fa,fd,ps,hF,hm,hk,hb⟩:=G.ex;obtain⟨tp,p1,p2⟩:=hp;obtain⟨ta,a1,a2,a3⟩:=ha;refine⟨_,UG hF hr hg hm hk hb .nil xo.call (Ba p1 a1 he) aV he au,λ P0 P σ H Q ρ Ev h=>?_⟩;dsimp only at h;refine p2 P0 P σ H _ ρ Ev ?_;cases q:fp ρ with
 |bad=>rw[q] at h;exact h
 |ex x=>rw[q] at h;exact λ H' s=>h H' P (Ev.tr s)
 |ok π =>
  rw[q] at h;simp only[M.A7] at h;intro v t1 H1 s1 pl;have E1:=Ev.same s1;refine a2 P0 P σ H1 _ ρ E1 ?_;cases q2:fs ρ with
  |bad=>rw[q2] at h;exact h
  |ex y=>rw[q2] at h;exact λ H' s=>h H' P ((Ev.tr s1).trans (E1.tr s))
  |ok ax =>
   rw[q2] at h;simp only[M.A7] at h;intro vs H2 s2 aB;have E2:=E1.same s2;have bF:=pl.same s2;show OX X.K n F ((v::vs)++[]) H2 Q E;rw[zR];obtain⟨v0,c,pp,t,g1,g2,g3,g4⟩:=bF.ex;unfold RP at h;simp only[g1,g2,g4.sub] at h;by_cases hx:YC t1=true
   ·rw[if_pos hx] at h;obtain⟨ay,o1,vX,gc⟩:=bF.own E2;have ge:∃l,v=.ref l:=by
     cases o1 with
     |sh hv=>exact absurd hx (by simp[YC])
     |lst _ _|tup _ _|dK _ _|dT _ _|ins _ _ _=>exact⟨_,rfl⟩
    obtain⟨l,rfl⟩:=ge;refine⟨by rw[zl,aB.length,a3 ρ ax q2];exact hn,P,l,t1,ay,vs,ax,rfl,E2.BS,λ b hb=>(vX b hb).1,gc,o1,aB,?_⟩;cases qF:F t1 ax with
    |bad|ex x=>rw[qF] at h;exact h.elim
    |ok z =>
    obtain⟨t2,r⟩:=z;rw[qF] at h;intro w H' P' fu fr k1 k2 k3 k4 k5 k6 k7 k8 k9 oj;obtain⟨c',p',t',m1,m2,m3,m4,m5⟩:=E2.qM bF o1 k1 k2 k3 k4 k5 k9 k6 k7 oj k8;rw[g1] at m1;cases m1;rw[g2] at m2;cases m2;exact h w fr H' P' (((Ev.tr s1).trans (E1.tr s2)).trans m4) m3 k6 k7 m5
   ·rw[if_neg hx] at h;exact h.elim
theorem MQ (he:DX X WX e fx)(hs:swapsWith e none pos.line X.env=pure false:=by rfl):DS X WX (.Expr e pos) (λ ρ=>(fx ρ).bind λ z=>.ok (.next z.1)):=by
 obtain⟨te,e1,e2⟩:=he;refine⟨_,Ex e1 hs,λ P0 P σ H Z ρ E h=>?_⟩;dsimp only at h;refine e2 P0 P σ H _ ρ E ?_;cases q:fx ρ with
 |bad|ex x=>rw[q] at h;exact h
 |ok z=>rw[q] at h;exact λ v fp H' P' t E' o nd hf=>h σ H' P' t E'
end
noncomputable def FU (i:Nat)(ρ:Ac)(π:List Nat):M (Bool×List D×List D):=match R5 i ρ π with
 |some (.Bl b ks ts)=>(match Dx ts with|some vs=>.ok (b,ks,vs)|none=>.bad)
 |_=>.bad
noncomputable def putD (ks vs:List D)(k v:D):List D×List D:=if Lg ks k=true then (ks,Ij ks vs k v) else (ks++[k],vs++[v])
section
variable {X:Cx}{E:XK}{WX:Str->Hp->Prop}{c:Bool}{P0:Et}{P:Addr->Prop}{H:Hp}{σ:St}{ρ:Ac}{a b e:Expr}{f g:Ac->M D}{fn:Ac->M OT}{fx:Ac->M (Ac×OT)}{fp:Ac->M (List Nat)}{pos:Pos}{i:Nat}{es:List Expr}{fs:Ac->M (List D)}
theorem Bd.Bl {K:za}{π:List Nat}{v:V}{t1:OT}{bl:Bool}{ks vs:List D}(pl:Bd K P H σ ρ i π v t1)(E:Ak K P0 P H σ ρ)(h:FU i ρ π=.ok (bl,ks,vs)):t1=.Bl bl ks (vs.map .sh)/\∃l xs,v=.ref l/\P l/\Ai K (del H P) xs vs/\C4 K H P (.ref l) (.Bl bl ks (vs.map .sh)) [l]/\
 ((bl=false/\∃kvs,H l=some (.dK kvs)/\ks=(kvs.map λ kv=>Dk kv.1)/\xs=kvs.map yT)\/(bl=true/\∃kvs,H l=some (.dT kvs)/\ks=(kvs.map λ kv=>.tup (kv.1.map Dk))/\xs=kvs.map yT)):=by
 unfold FU at h;rw[pl.at] at h;split at h
 ·rename_i b' v9 oh e;split at h
  ·rename_i aZ e';cases e;cases h;have z:=Cs e';subst z;obtain⟨ay,o1,hp,nd⟩:=pl.own E;generalize ht:OT.Bl bl ks (vs.map .sh)=t at o1;cases o1 with
   |dK hh hr =>
    injection ht with h1 h2 h3
    subst h1 h2 h3;obtain⟨rfl,hs⟩:=hr.lL;exact⟨rfl,_,_,rfl,(hp _ zd).1,hs,.dK hh hr,.inl ⟨rfl,_,hh,rfl,rfl⟩⟩
   |dT hh hr =>
    injection ht with h1 h2 h3
    subst h1 h2 h3;obtain⟨rfl,hs⟩:=hr.lL;exact⟨rfl,_,_,rfl,(hp _ zd).1,hs,.dT hh hr,.inr ⟨rfl,_,hh,rfl,rfl⟩⟩
   |_=>cases ht
  ·cases h
 ·cases h
theorem YF {π:List Nat}{x:Str}(h:FU i ρ π=.ex x):False:=by
 unfold FU at h;split at h
 ·split at h<;>cases h
 ·cases h
theorem Ak.lR {K:za}{π:List Nat}{l:Addr}{t1 u:OT}{o':HO}(E:Ak K P0 P H σ ρ)(pl:Bd K P H σ ρ i π (.ref l) t1)(ot:C4 K H P (.ref l) t1 [l])(hn:∀xs,o'≠.tup xs/\∀z,o'≠.X9 z (.tup xs))(new:Ad (del H P) (del (upd H l o') P)->C4 K (upd H l o') P (.ref l) u [l]):
 ∃c p t,ρ[i]?=some (some c)/\treeOf c=some (p,t)/\Ak K P0 P (upd H l o') σ (ρ.set i (some (toCl p (EI t π u))))/\Tr P0 P H P (upd H l o'):=by
 obtain⟨ay,o1,hp,_⟩:=pl.own E;have:=o1.Ci ot;subst this;have pP:P l:=(hp l zd).1;have sd:del (upd H l o') P=del H P:=by
  funext b;by_cases hb:P b
  ·rw[D4 hb,D4 hb]
  ·rw[Aw hb,Aw hb,Ah (λ z=>hb (by rw[z];exact pP))]
 have sm:Ad (del H P) (del (upd H l o') P):=by rw[sd];exact Ad.refl _
 refine E.qK pl ot (λ _ h=>h) (λ a h=>?_) sm (λ a ha hn=>Ah λ z=>hn (by rw[z];exact zd)) (new sm) (by simp) (λ a ha=>.inl ha);by_cases ha:a=l
 ·subst ha;exact⟨_,Ao,hn⟩
 ·unfold Dq;rw[Ah ha];exact E.BS a h
theorem LF {n:Nat}(hu:X.A.units+n<cLine)(ha:DP X WX a i fp)(hk:DE X WX true b g)(hv:DE X WX true e f){pos':Pos}(hs:swapsWith e (some (.Subscript a b pos')) pos.line X.env=pure false:=by rfl)(hn:1<=n:=by decide):
 DS X WX (.Assign [.Subscript a b pos'] e pos) (λ ρ=>(f ρ).bind λ v=>(fp ρ).bind λ π=>(g ρ).bind λ k=>(FU i ρ π).bind λ z=>if keyOk z.1 k=true/\z.2.1.length<1000 then EJ i ρ π (.Bl z.1 (putD z.2.1 z.2.2 k v).1 ((putD z.2.1 z.2.2 k v).2.map .sh)) else .bad):=by
 obtain⟨ta,a1,a2⟩:=ha;obtain⟨tk,k1,k2⟩:=hk;obtain⟨tv,v1,v2⟩:=hv;refine⟨_,cY (by omega) a1 k1 v1 hs,λ P0 P σ H Z ρ E h=>?_⟩;dsimp only at h;refine v2 P0 P σ H _ ρ E ?_;cases q0:f ρ with
 |bad=>rw[q0] at h;exact h
 |ex x=>rw[q0] at h;exact λ H' s=>h H' P (E.tr s)
 |ok d =>
  rw[q0] at h;simp only[M.A7] at h;intro w H0 s0 hw;have E0:=E.same s0;refine a2 P0 P σ H0 _ ρ E0 ?_;cases q:fp ρ with
  |bad=>rw[q] at h;exact h
  |ex x=>rw[q] at h;exact λ H' s=>h H' P ((E.tr s0).trans (E0.tr s))
  |ok π =>
   rw[q] at h;simp only[M.A7] at h;intro v t1 H1 s1 pl;have E1:=E0.same s1;refine k2 P0 P σ H1 _ ρ E1 ?_;cases q2:g ρ with
   |bad=>rw[q2] at h;exact h
   |ex y=>rw[q2] at h;exact λ H' s=>h H' P (((E.tr s0).trans (E0.tr s1)).trans (E1.tr s))
   |ok k =>
    rw[q2] at h;simp only[M.A7] at h;intro y H2 s2 hy;have E2:=E1.same s2;have bF:=pl.same s2;have lc:=(hw.mono s1.del).mono s2.del;have sK:=((E.tr s0).trans (E0.tr s1)).trans (E1.tr s2);cases q3:FU i ρ π with
    |bad=>rw[q3] at h;exact h.elim
    |ex x=>exact (YF q3).elim
    |ok z =>
     obtain⟨bb,ks,vs⟩:=z;rw[q3] at h;simp only[M.A7] at h;by_cases hc:keyOk bb k=true/\ks.length<1000
     ·rw[if_pos hc] at h;obtain⟨rfl,l,xs,rfl,hP,cn,ot,jc⟩:=bF.Bl E2 q3;have hK:=F1 hc.1;rcases jc with ⟨rfl,kvs,hH,rfl,rfl⟩|⟨rfl,kvs,hH,rfl,rfl⟩
      ·cases hK with
       |k κ =>
        have ey:=hy.lN;refine⟨l,_,rfl,.inl ⟨kvs,κ,hH,ey,AE (by have:=hc.2;rw[zc] at this;omega),rfl⟩,?_⟩;have bp:∃aZ,(putD (kvs.map λ kv=>Dk kv.1) vs (Dk κ) d)=((putK kvs κ w).map (λ kv=>Dk kv.1),aZ)/\Ai X.K (del H2 P) ((putK kvs κ w).map yT) aZ:=by
         unfold putD putK;rw[MM MK];by_cases hh:(kvs.any λ kv=>decide (kv.1=κ))=true
         ·rw[if_pos hh,if_pos hh];refine⟨_,by rw[IW (fk:=Dk) MK],?_⟩;rw[<-IV (fk:=Dk) MK];exact IX lc cn
         ·rw[if_neg hh,if_neg hh];refine⟨_,by rw[zG];rfl,?_⟩;rw[zG];exact cn.snoc lc
        obtain⟨aZ,e1,e2⟩:=bp;obtain⟨c,p,t0,g1,g2,E3,t3⟩:=E2.lR (o':=.dK (putK kvs κ w)) (u:=.Bl false ((putK kvs κ w).map λ kv=>Dk kv.1) (aZ.map .sh)) bF ot (λ _=>⟨λ z=>(by cases z),λ _ z=>by cases z⟩) (λ mv=>.dK Ao (e2.mono mv).ows);rw[e1,Fq g1 g2] at h;exact h _ _ _ (sK.trans t3) E3
      ·cases hK with
       |t κ =>
        cases hy with
        |tup ht a6 =>
         have ey:=Ai.keys κ a6;subst ey;refine⟨l,_,rfl,.inr ⟨kvs,κ,_,hH,rfl,(Am ht).2,AE (by have:=hc.2;rw[zc] at this;omega),rfl⟩,?_⟩;have hf:∀a b:List Key,Ay (.tup (a.map Dk)) (.tup (b.map Dk))=decide (a=b):=λ a b=>by simp only[Ay];exact LB a b
         have bp:∃aZ,(putD (kvs.map λ kv=>.tup (kv.1.map Dk)) vs (.tup (κ.map Dk)) d)=((putK kvs κ w).map (λ kv=>.tup (kv.1.map Dk)),aZ)/\Ai X.K (del H2 P) ((putK kvs κ w).map yT) aZ:=by
          unfold putD putK;rw[MM (fk:=λ κ:List Key=>D.tup (κ.map Dk)) hf];by_cases hh:(kvs.any λ kv=>decide (kv.1=κ))=true
          ·rw[if_pos hh,if_pos hh];refine⟨_,by rw[IW (fk:=λ κ:List Key=>D.tup (κ.map Dk)) hf],?_⟩;rw[<-IV (fk:=λ κ:List Key=>D.tup (κ.map Dk)) hf];exact IX lc cn
          ·rw[if_neg hh,if_neg hh];refine⟨_,by rw[zG];rfl,?_⟩;rw[zG];exact cn.snoc lc
         obtain⟨aZ,e1,e2⟩:=bp;obtain⟨c,p,t0,g1,g2,E3,t3⟩:=E2.lR (o':=.dT (putK kvs κ w)) (u:=.Bl true ((putK kvs κ w).map λ kv=>.tup (kv.1.map Dk)) (aZ.map .sh)) bF ot (λ _=>⟨λ z=>(by cases z),λ _ z=>by cases z⟩) (λ mv=>.dT Ao (e2.mono mv).ows);rw[e1,Fq g1 g2] at h;exact h _ _ _ (sK.trans t3) E3
     ·rw[if_neg hc] at h;exact h.elim
theorem RQ (tk:Bool):DN X WX (.Dict [] [] pos) (λ _=>.ok (.Bl tk [] [])):=by
 cases tk with
 |false =>
  refine⟨_,XR,λ P0 P σ H Q ρ E h p hp=>?_⟩;exact h _ [p] _ (AJ hp _) (λ a ha=>by rw[zh.mp ha];exact hp) (by simp) (.dK (kvs:=[]) Ao .nil)
 |true =>
  refine⟨_,XS,λ P0 P σ H Q ρ E h p hp=>?_⟩;exact h _ [p] _ (AJ hp _) (λ a ha=>by rw[zh.mp ha];exact hp) (by simp) (.dT (kvs:=[]) Ao .nil)
end
theorem Ik {α:Type}(o:Option (α×List Int))(b:α×List Int):BL o b≠none:=by
 unfold BL;split
 ·intro z;cases z
 ·split<;>(intro z;cases z)
theorem MR {α:Type}:∀ {bs:List (α×List Int)},bs≠[]->B3 bs≠none:=by
 intro bs h;unfold B3
 suffices z:∀(bs:List (α×List Int)) (o:Option (α×List Int)),o≠none->bs.foldl BL o≠none by
  cases bs with
  |nil=>exact (h rfl).elim
  |cons b r=>rw[zM];exact z r _ (Ik _ _)
 intro bs;induction bs with
 |nil=>intro o h;exact h
 |cons b r ih=>intro o h;rw[zM];exact ih _ (Ik _ _)
section
variable {prog:Program}{w:World}{A:Around}{R:Result->Shared->Prop}
theorem Wn (bs:List (Addr×List Int))(om:bs≠[])(tv:Addr->Array Value)(l I S:Addr)(hh:A.handled=none)(hu:A.in1.units<cLine)(c9:S≠I)(g7:l≠I)(iz:l≠S)(fm:∀b∈bs,b.1≠I/\b.1≠S)
 (hk:∀b∈bs,IntsAre (tv b.1).toList b.2):∀(k j:Nat) (s:Shared) (c:Nat),bs.length-j=k->j<=bs.length->s.heap.IsListIter I l j->s.heap.IsList l (bs.map λ b=>y9 b.1).toArray->(∀b∈bs,IsTup s.heap b.1 (tv b.1))->
  s.heap.get? S=some {cls:=.type "list",dict:=none,data:=.seq (Dj (bs.take j)) c,slots:=#[]} ->
  (∀h' tk,(∀b o,b≠I->b≠S->s.heap.get? b=some o->h'.get? b=some o)->R (.ok (.ret (match B3 bs with|none=>.none|some b=>.ref b.1))) {s with heap:=h',toks:=tk})->
  codeAny (model prog w) A (.builtin "min.loop" ⟨[.ref I,.none,.ref S],[]⟩) R s:=by
 have a5:(toString "min" ++ toString ".loop" : String) = "min.loop" := by decide
 intro k;induction k with
 |zero =>
  intro j s c hr hj hit hl ht hS hR;have bt:j=bs.length:=by omega
  subst bt;rw[yK] at hS;refine codeAny_builtin PySem.F.entry_min_loop ?_;rw[za9 zO _];show wpAny _ A.in1 (seqItems? (.ref S) >>= _) _ _ s;refine wpAny_bind (wpAny_seqItems hS rfl ?_);show wpAny _ A.in1 (tryCatch (pyNext (.ref I)) _ >>= _) _ _ s;refine wpAny_bind (wpAny_tryCatch (wpAny_pyNext_list_end (A:=A.in1) hh hit hl (by simp) λ h' eb=>?_));have a9:h'.get? S=_:=eb S _ c9 hS;unfold Dj at a9;cases hb:B3 bs with
  |none=>exact (MR om hb).elim
  |some b =>
   rw[hb] at a9;unfold Dj;rw[hb];show wpAny _ A.in1 (updateSeq S (λ _=>#[]) >>= _) _ _ _;refine wpAny_bind ?_;refine wpAny_updateSeq a9 rfl (wpAny_bind (wpAny_letGo (wpAny_pure ?_)));have q:=hR (h'.update S (zad λ _=>#[])) s.toks λ b o h1 h2 e=>(zak _ _ (zX h2)).trans (eb b o h1 e);rw[hb] at q;exact q
 |succ k ih =>
  intro j s c hr hj hit hl ht hS hR;have ah:j<bs.length:=by omega
  have ej:bs.take (j+1)=bs.take j++[bs[j]]:=by rw[yL,zi ah];rfl
  have mj:bs[j]∈bs:=List.getElem_mem ah;refine codeAny_builtin PySem.F.entry_min_loop ?_;rw[za9 zO _];show wpAny _ A.in1 (seqItems? (.ref S) >>= _) _ _ s;refine wpAny_bind (wpAny_seqItems hS rfl ?_);show wpAny _ A.in1 (tryCatch (pyNext (.ref I)) _ >>= _) _ _ s;refine wpAny_bind (wpAny_tryCatch (wpAny_pyNext_list_item (A:=A.in1) hit hl (x:=.ref bs[j].1) (by simp[ah]) λ h' aX sb=>?_));have br:zag I s.heap h':=sb;have a9:h'.get? S=_:=(br.2 S c9).trans hS;have bz:h'.IsList l (bs.map λ b=>y9 b.1).toArray:=hl.at λ o e=>(br.2 l g7).trans e;have bT:∀b∈bs,IsTup h' b.1 (tv b.1):=λ b hb=>by
   obtain⟨o,ho,r⟩:=ht b hb;exact⟨o,(br.2 b.1 (fm b hb).1).trans ho,r⟩
  cases hb:B3 (bs.take j) with
  |none =>
   unfold Dj at a9 ⊢;rw[hb] at a9 ⊢;show wpAny _ A.in1 (updateSeq S (λ _=>#[.ref bs[j].1,.ref bs[j].1]) >>= _) _ _ _;refine wpAny_bind ?_;refine wpAny_updateSeq a9 rfl ?_;rw[a5];have s1:=Heap.SameBut.update h' S (zad λ _=>(#[.ref bs[j].1,.ref bs[j].1]:Array Value));refine wpAny_pure ⟨plainId_quiet zO _,ih (j+1) _ (c+1) (by omega) ah (aX.at λ o e=>(s1.2 I (zX c9)).trans e) (bz.at λ o e=>(s1.2 l iz).trans e) (λ b hb=>?_) ?_ λ bU tk aN=>?_⟩
   ·obtain⟨o,ho,r⟩:=bT b hb;exact⟨o,(s1.2 b.1 (fm b hb).2).trans ho,r⟩
   ·refine (zaq _ a9 rfl).trans ?_;unfold Dj;rw[ej,D3,hb];rfl
   ·exact hR bU tk λ b o h1 h2 e=>aN b o h1 h2 ((s1.2 b h2).trans ((br.2 b h1).trans e))
  |some m =>
   have mm:m∈bs:=y8 (K7 _ _ hb);unfold Dj at a9 ⊢;rw[hb] at a9 ⊢;show wpAny _ A.in1 (tryCatch (holding [.ref bs[j].1,.ref bs[j].1] (richCompare .Lt (.ref bs[j].1) (.ref m.1) >>= _)) _ >>= _) _ _ _;refine wpAny_bind (wpAny_tryCatch (wpAny_holding (wpAny_bind (HT.HV (bT _ mj) (bT _ mm) (hk _ mj) (hk _ mm) hu ?_))));refine wpAny_bind (wpAny_holding (wpAny_truthy_bool ?_));refine wpAny_bind (wpAny_letGo (wpAny_pure ?_));cases hc:HT.lexLt bs[j].2 m.2 with
   |true =>
    simp only[if_true];have s1:=Heap.SameBut.update h' S (zad λ _=>(#[.ref bs[j].1,.ref bs[j].1]:Array Value));refine wpAny_bind ?_;refine wpAny_updateSeq a9 rfl (wpAny_bind (wpAny_letGo ?_));rw[a5];refine wpAny_pure ⟨plainId_quiet zO _,ih (j+1) _ c (by omega) ah (aX.at λ o e=>(s1.2 I (zX c9)).trans e) (bz.at λ o e=>(s1.2 l iz).trans e) (λ b hb=>?_) ?_ λ bU tk aN=>?_⟩
    ·obtain⟨o,ho,r⟩:=bT b hb;exact⟨o,(s1.2 b.1 (fm b hb).2).trans ho,r⟩
    ·refine (zaq _ a9 rfl).trans ?_;unfold Dj;rw[ej,D3,hb];simp only[hc,if_true];rfl
    ·exact hR bU tk λ b o h1 h2 e=>aN b o h1 h2 ((s1.2 b h2).trans ((br.2 b h1).trans e))
   |false =>
    simp only[z8,if_false];refine wpAny_bind (wpAny_letGo ?_);rw[a5];refine wpAny_pure ⟨plainId_quiet zO _,ih (j+1) _ c (by omega) ah aX bz bT ?_ λ bU tk aN=>?_⟩
    ·refine a9.trans ?_;unfold Dj;rw[ej,D3,hb];simp only[hc,z8,if_false]
    ·exact hR bU tk λ b o h1 h2 e=>aN b o h1 h2 ((br.2 b h1).trans e)
theorem Q9 {E:Value->Shared->Prop}{s:Shared}{Q:Value->Shared->Prop}(bs:List (Addr×List Int))(om:bs≠[])(tv:Addr->Array Value)(l:Addr)(hh:A.handled=none)(hu:A.in1.units<cLine)
 (hl:s.heap.IsList l (bs.map λ b=>y9 b.1).toArray) (ht:∀b∈bs,IsTup s.heap b.1 (tv b.1)) (hk:∀b∈bs,IntsAre (tv b.1).toList b.2)
 (hQ:∀h' tk,(∀b o,s.heap.get? b=some o->h'.get? b=some o)->Q (match B3 bs with|none=>.none|some b=>.ref b.1) {s with heap:=h',toks:=tk}):
 wpAny (model prog w) A (call (.builtin "min") [.ref l]) Q E s:=by
 have a5:(toString "min" ++ toString ".loop" : String) = "min.loop" := by decide
 obtain⟨ol,fv,_⟩:=id hl;have vo:l<s.heap.objs.size:=zr fv;refine kmk_tree PySem.F.kind_min PySem.F.plain_min PySem.F.entry_min (by unfold argsOk;kernel_rfl) ?_;show wpAny _ A.in1 (zab "min" ["key","default"] 0 ⟨[],[]⟩ >>= _) _ _ s;refine wpAny_bind (wpAny_of_eq (show zab "min" ["key","default"] 0 ⟨[],[]⟩=pure [none,none] from rfl) ?_);refine wpAny_bind (wpAny_pure ?_);refine wpAny_bind (wpAny_pyIter_list hl ?_);refine wpAny_bind (wpAny_newList ?_ (zJ _));rw[a5];have hS:(s.heap.push {cls:=.type "list_iterator",data:=.fields #[.ref l,.int 0 0]}).objs.size=s.heap.objs.size+1:=zax ..;have old:∀b o,s.heap.get? b=some o->b≠s.heap.objs.size/\b≠(s.heap.push {cls:=.type "list_iterator",data:=.fields #[.ref l,.int 0 0]}).objs.size:=λ b o e=>⟨zB (zr e),by rw[hS];exact zB (Nat.lt_succ_of_lt (zr e))⟩;have grow:∀b o,s.heap.get? b=some o->((s.heap.push {cls:=.type "list_iterator",data:=.fields #[.ref l,.int 0 0]}).push {cls:=.type "list",data:=.seq #[]}).get? b=some o:=λ b o e=>zq _ (zq _ e);refine wpAny_pure ⟨plainId_quiet zO _,?_⟩;refine Wn bs om tv l s.heap.objs.size (s.heap.push {cls:=.type "list_iterator",data:=.fields #[.ref l,.int 0 0]}).objs.size hh hu (by rw[hS];exact Nat.succ_ne_self _) (old l ol fv).1 (old l ol fv).2 (λ b hb=>?_) hk _ 0 _ 0 rfl (zJ _) ?_ ?_ (λ b hb=>?_) ?_ ?_
 ·obtain⟨o,ho,_⟩:=ht b hb;exact old b.1 o ho
 ·exact⟨_,zq _ (zE _ rfl),rfl,rfl⟩
 ·exact hl.at λ o e=>grow l o e
 ·obtain⟨o,ho,r⟩:=ht b hb;exact⟨o,grow b.1 o ho,r⟩
 ·exact zE _ rfl
 ·intro h' tk f6;exact hQ h' tk λ b o e=>f6 b o (old b o e).1 (old b o e).2 (grow b o e)
end
section
variable {X:Cx}{WX:Str->Hp->Prop}{c:Bool}{e:Expr}{f:Ac->M D}{pos:Pos}
def iP (K:za):List V->Hp->VK->Prop:=λ xs H Q=>∃(a:Addr) (bs:List (Addr×List Int)) (b:Addr×List Int),xs=[.ref a]/\CJ K H a (bs.map λ b=>V.ref b.1)/\(∀b∈bs,Fb K H b.1 (b.2.map V.int))/\B3 bs=some b/\Q (.ref b.1) H
theorem Wo (hc:X.calm=true)(hu:X.A.units+1<cLine):Ga X (.builtin "min") (iP X.K):=by
 intro pins s σ H xs us Q I r h;obtain⟨a,bs,b0,rfl,hl,hb,he,q⟩:=h;obtain⟨ua,rfl,ra⟩:=r.one;cases ra;obtain⟨aa,rv,pl,hz⟩:=I.list hl;have ei:=K8 rv;subst ei;have tv:∀a:Addr,∃t:Array Value,∀b∈bs,b.1=a->IsTup s.heap a t/\IntsAre t.toList b.2:=λ a=>by
  by_cases bV:∃b∈bs,b.1=a
  ·obtain⟨b,bV,rfl⟩:=bV;obtain⟨ts,rt,pt,_⟩:=I.tuple (hb b bV);refine⟨ts.toArray,λ b' a8 e=>⟨pt,?_⟩⟩;have q2:=hb b' a8;rw[e] at q2;have e2:=I.GP q2 (hb b bV);rw[<-e2] at rt;simpa using intsAre_of rt
  ·exact⟨#[],λ b a8 e=>absurd ⟨b,a8,e⟩ bV⟩
 have ae:bs≠[]:=λ z=>by subst z;cases he
 refine Q9 bs ae (λ b=>zg (tv b)) a (I.ok.hd hc) hu pl.isList (λ b a8=>(zb (tv b.1) b a8 rfl).1) (λ b a8=>(zb (tv b.1) b a8 rfl).2) λ h' tk hk=>?_;rw[he];exact⟨.ref b0.1,H,I.kept (t':=tk) hk,rfl,q⟩
noncomputable def V4 (ds:List D):M D:=match ds with
 |[.lst xs]=>(match Gh xs with|some ks=>(match B3 ks with|some k=>.ok k.1|none=>.bad)|none=>.bad)
 |_=>.bad
theorem eQ:KD X.K WX (iP X.K) V4:=by
 intro P H ds vs Q ht hl h;unfold V4 at h;split at h
 ·rename_i xs;obtain⟨v,rfl,hv⟩:=hl.one;split at h
  ·rename_i ks e1;cases hv with
   |lst hs hh =>
    obtain⟨bs,rfl,h2,h3⟩:=Ia hh e1;split at h
    ·rename_i k e2;rcases Mx h3 with ⟨q1,q2⟩|⟨b,k',q1,q2,_,q3⟩
     ·rw[q2] at e2;cases e2
     ·rw[q2] at e2;cases e2;exact⟨_,bs,b,rfl,hs.AN,λ b hb=>(h2 b hb).AN,q1,h _ H (Ad.refl H) q3⟩
    ·exact h.elim
  ·exact h.elim
 ·exact h.elim
theorem eS {p:Pos}{n:Nat}(hc:X.calm=true)(hu:X.A.units+n<cLine)(hg:Gl X "min")(hm:X.mg "min" = none)(ha:DE X WX c e f)(hb:bootBuiltins "min" = some (.builtin "min"):=by decide +kernel)(hs:starEach [e] X.env=[(false,eval e X.env)]:=by rfl)(hn:1<=n:=by decide):DE X WX c (.Call (.Name "min" p) [e] [] pos) (λ ρ=>((f ρ).bind λ d=>(M.ok []).bind λ ds=>.ok (d::ds)).bind V4):=
 Mw (Wo hc (by omega)) eQ hg hm hb (A2 ha A8 hs) (he:=hs)
end
section
variable {X:Cx}{E:XK}{WX:Str->Hp->Prop}{c:Bool}{P0:Et}{P:Addr->Prop}{H:Hp}{σ:St}{ρ:Ac}{a b e:Expr}{f g:Ac->M D}{fn:Ac->M OT}{fp:Ac->M (List Nat)}{pos:Pos}{i:Nat}
def eT:V->List V->Hp->VK->Prop:=λ x vs H Q=>∃(l:Addr) (ns:List Int) (k:Int),x=.ref l/\vs=[.int k]/\H l=some (.lst (ns.map V.int))/\k∈ns/\Q .AA (upd H l (.lst ((ns.erase k).map V.int)))
theorem OZ {α β:Type}(f:α->β):∀(l:List α) (k:Nat),(l.eraseIdx k).map f=(l.map f).eraseIdx k
 |[],_|_::_,0=>rfl
 |x::r,k+1=>by rw[List.eraseIdx_cons_succ,zf,zf,List.eraseIdx_cons_succ,OZ f r k]
noncomputable def U0 (k:Int):Value->Bool
 | .int i _=>i==k
 |_=>false
theorem Wq:nM X "list.remove" eT:=by
 intro pins s σ H x vs v us Q I rx rv h;obtain⟨l,ns,k,rfl,rfl,hH,hk,q⟩:=h;cases rx;obtain⟨u,rfl,ru⟩:=rv.one;obtain⟨tk,rfl⟩:=ru;obtain⟨z,aa,n,r,hl,e⟩:=I.Ro hH;have hlen:=r.length;have gf:ns.idxOf k<ns.length:=List.idxOf_lt_length_iff.mpr hk;have gh:∀m (hm:m<aa.toArray.size) (tf:m<ns.length),∃t,aa.toArray[m]=Value.int ns[m] t:=λ m hm tf=>by
  have hx:(ns.map V.int)[m]?=some (V.int ns[m]):=by rw[z7,zi tf];rfl
  obtain⟨w,hw,bg⟩:=r.get hx;obtain⟨t,rfl⟩:=bg;refine⟨t,?_⟩;have:aa[m]?=some aa[m]:=zi (by simpa using hm);rw[hw] at this;simpa using (zD this).symm
 have hsz:aa.toArray.size=ns.length:=by rw[zj,<-hlen,zc]
 have hm:=MeetsSeq.list_remove l aa.toArray n (.int k tk) (U0 k) (λ y hy=>by
  obtain⟨m,hm,rfl⟩:=Array.mem_iff_getElem.mp hy;obtain⟨t,ht⟩:=gh m hm (by rw[<-hsz];exact hm);rw[ht];exact MeetsSeq.EqGives.int _ _ _ _) (ns.idxOf k) (by rw[hsz];exact gf) (by
  obtain⟨t,ht⟩:=gh (ns.idxOf k) (by rw[hsz];exact gf) gf;rw[ht];simp[U0]) (λ m hm ah=>by
  obtain⟨t,ht⟩:=gh m hm (by omega);rw[ht];have:=List.not_of_lt_findIdx (p:=(· == k)) (xs:=ns) (i:=m) ah;simpa [U0] using this) (by rw[zj];omega)
 refine call_meets F.slot_list_remove ⟨_,e,rfl⟩ F.entry_list_remove (F.args_list_remove_2 _ _) hm ⟨e,?_⟩;refine⟨.AA,_,I.VW (its':=aa.eraseIdx (ns.idxOf k)) hH e ?_ ?_ ?_,rfl,q⟩
 ·show aa.toArray.eraseIdxIfInBounds _=_;rw[List.eraseIdxIfInBounds_toArray]
 ·rw[show ns.erase k=ns.eraseIdx (ns.idxOf k) from List.erase_eq_eraseIdx_of_idxOf rfl,OZ];exact r.eraseIdx _
 ·rw[zc];have:=List.length_erase_le (a:=k) (l:=ns);rw[zc] at z;omega
theorem Wr (ha:DP X WX a i fp)(he:DE X WX true e f){apos ad:Pos}(hs:starEach [e] X.env=[(false,eval e X.env)]:=by rfl)
 (aR:swapsWith (.Call (.Attribute a "remove" apos) [e] [] ad) none pos.line X.env=pure false:=by rfl)
 (ao:attributeBase a "remove" X.env (eval a X.env)=eval a X.env:=by rfl)
 (aG:((backTo ad (starEach [e] X.env)).all (λ x => !x.1)&&(backToKw ad (keywordEach [] X.env)).all (λ x=>x.1.isSome)&&decide (([e]:List Expr).length+([]:List Keyword).length+(if ([]:List Keyword).isEmpty then 0 else 1)<30))=true:=by rfl)
 (aq:(apos.endLine==ad.line)=true:=by rfl) (al:(backTo ad (starEach [] X.env)).any (·.1)=false:=by rfl):
 DS X WX (.Expr (.Call (.Attribute a "remove" apos) [e] [] ad) pos) (λ ρ=>(fp ρ).bind λ π=>(T9 i ρ π).bind λ ds=>(f ρ).bind λ d=>match d,CL ds with
  | .int k,some ns=>if k∈ns then EJ i ρ π (.lst (((ns.erase k).map D.int).map .sh)) else .bad
  |_,_=>.bad):=by
 obtain⟨ta,a1,a2⟩:=ha;obtain⟨te,e1,e2⟩:=he;refine⟨_,Ex (OC yQ PySem.F.slot_list_remove PySem.F.type_list_remove Wq a1 (Ba e1 C5 hs) ao aG aq hs al) aR,λ P0 P σ H Z ρ E h=>?_⟩;dsimp only at h;refine a2 P0 P σ H _ ρ E ?_;cases q:fp ρ with
 |bad=>rw[q] at h;exact h
 |ex x=>rw[q] at h;exact λ H' s=>h H' P (E.tr s)
 |ok π =>
  rw[q] at h;simp only[M.A7] at h;intro v t1 H1 s1 pl;have E1:=E.same s1;cases q1:T9 i ρ π with
  |bad=>rw[q1] at h;exact h.elim
  |ex x=>exact (YA q1).elim
  |ok ds =>
   rw[q1] at h;simp only[M.A7] at h;obtain⟨rfl,l,xs,rfl,hl,ol⟩:=pl.shl E1 q1;refine⟨.inl ⟨rfl,xs,.of hl⟩,e2 P0 P σ H1 _ ρ E1 ?_⟩;cases q2:f ρ with
   |bad=>rw[q2] at h;exact h
   |ex y=>rw[q2] at h;exact λ H' s=>h H' P ((E.tr s1).trans (E1.tr s))
   |ok d =>
    rw[q2] at h;simp only[M.A7] at h;intro w H2 s2 hw;have E2:=E1.same s2;have bF:=pl.same s2;cases d with
    |int k =>
     cases q3:CL ds with
     |none=>rw[q3] at h;exact h.elim
     |some ns =>
      rw[q3] at h;dsimp only at h;by_cases hk:k∈ns
      ·rw[if_pos hk] at h;have:=EY q3;subst this;have dz:=ol.mono s2.del;have ex:=E9 dz;subst ex;have a6:=s2 _ _ hl;obtain⟨c,p,t0,g1,g2,E3,t3⟩:=E2.qN (ys:=(ns.erase k).map V.int) (es:=(ns.erase k).map D.int) bF a6 dz (Ai.ints _);rw[Fq g1 g2] at h;exact⟨l,ns,k,rfl,by rw[hw.int_inv],a6,hk,h _ _ _ (((E.tr s1).trans (E1.tr s2)).trans t3) E3⟩
      ·rw[if_neg hk] at h;exact h.elim
    |_=>exact h.elim
end
section
variable {X:Cx}{WX:Str->Hp->Prop}{c:Bool}{P0:Et}{P:Addr->Prop}{H:Hp}{σ:St}{ρ:Ac}{a b e:Expr}{f g:Ac->M D}{fn:Ac->M OT}{pos:Pos}{te:TE}
noncomputable def qO (ds:List D):M D:=match ds with
 |[.lst xs]=>(match CL xs with|some ns=>.ok (.int ns.sum)|none=>.bad)
 |_=>.bad
noncomputable def tZ (te:TE):TE:=λ σ H Q=>te σ H λ x H1=>∃n:Nat,x=.int (n:Int)/\n<=1000/\∀r,H1 r=none->Q (.ref r) (upd H1 r (.lst ((yD n).map λ i:Nat=>V.int (i:Int))))
theorem Ws {acc:Array Value}{n:Nat}(h:ItemsOf (λ i v=>∃t,v=Value.int (0+(i:Int)*1) t) acc n):Vals ((yD n).map λ i:Nat=>V.int (i:Int)) acc.toList:=by
 obtain⟨h1,h2⟩:=h;have key:∀(l:List Value) (k:Nat),(∀i v,l[i]?=some v->∃t,v=Value.int ((k+i:Nat):Int) t)->Vals ((List.range' k l.length).map λ i:Nat=>V.int (i:Int)) l:=by
  intro l;induction l with
  |nil=>intro k _;exact .nil
  |cons v r ih =>
   intro k hk;rw[zl,List.range'_succ,zf];refine .cons (by obtain⟨t,e⟩:=hk 0 v rfl;exact⟨t,by simpa using e⟩) (ih (k+1) λ i w hw=>?_);obtain⟨t,e⟩:=hk (i+1) w (by simpa using hw);exact⟨t,by rw[e];congr 1;omega⟩
 have:=key acc.toList 0 (λ i v hv=>by
  obtain⟨t,e⟩:=h2 i v (by rw[<-Array.getElem?_toList];exact hv);exact⟨t,by rw[e];congr 1;omega⟩)
 rw[Array.length_toList,h1] at this;rw[List.range_eq_range'];exact this
theorem Qa {p p2 bu:Pos}(hc:X.calm=true)(hg:Gl X "list")(hm:X.mg "list" = none)(i5:Gl X "range")(b8:X.mg "range" = none)(he:PE X e te)
 (hv:bootBuiltins "list" = some (.type "list"):=by decide +kernel)
 (hs:starEach [.Call (.Name "range" p2) [e] [] bu] X.env=[(false,eval (.Call (.Name "range" p2) [e] [] bu) X.env)]:=by rfl) (aK:starEach [e] X.env=[(false,eval e X.env)]:=by rfl):
 PE X (.Call (.Name "list" p) [.Call (.Name "range" p2) [e] [] bu] [] pos) (tZ te):=by
 intro pins s σ H Q I h;refine wpAny_Call_Name_kw (Dr I hg hm hv ?_);refine zY ?_ hs;rw[hs];refine zal ?_;refine wpAny_Call_Name_kw (Dr I i5 b8 boot_range ?_);refine zY ?_ aK;rw[aK];refine zal (Bg (he pins s σ H _ I h) λ u s1 ⟨x,H1,I1,r1,q1⟩=>?_);obtain⟨n,rfl,hn,q⟩:=q1;obtain⟨t,rfl⟩:=r1;refine zas ?_;refine call_range_1 ?_;refine zas ?_;have h4:((n:Nat):Int)<2^62:=by omega
 refine call_list_range (n:=n) (I1.ok.hd hc) (IsRange.new ..) (small_one (by omega) (by omega) (by omega) h4) (by rw[rangeSize_one];split<;>omega) (by omega) λ h' tk on c' hk a9 oq=>?_;have kp:∀b o,s1.heap.get? b=some o->h'.get? b=some o:=λ b o e=>hk b o (zq _ e);have rv:=Ws oq;have bG:∀o:Obj,s1.heap.objs.size<=(s1.heap.push o).objs.size:=λ o=>by simp[Heap.push]
 refine⟨.ref _,_,I1.laid (t':=tk) (o:=.lst ((yD n).map λ i:Nat=>V.int (i:Int))) kp (bG _) ⟨?_,on.toList,c',rv,by simpa using a9⟩,rfl,q _ (I1.As.fresh (bG _))⟩;rw[zc,List.length_range];exact yH (AE hn)
noncomputable def rR (d:D):M OT:=match d with
 | .int j=>@ite _ (0<=j/\j<=1000) (zb3 _) (.ok (.lst ((BN 0 j.toNat).map .sh))) .bad
 |_=>.bad
theorem Qb {n:Nat}(h:n<=1000):rR (.int (n:Int))=.ok (.lst (((yD n).map λ i:Nat=>D.int (i:Int)).map .sh)):=by
 unfold rR;dsimp only;rw[if_pos ⟨by omega,by omega⟩,yF,Fm]
theorem J2 {p p2 bu:Pos}(hc:X.calm=true)(hg:Gl X "list")(hm:X.mg "list" = none)(i5:Gl X "range")(b8:X.mg "range" = none)(he:DE X WX true e f)
 (hv:bootBuiltins "list" = some (.type "list"):=by decide +kernel)
 (hs:starEach [.Call (.Name "range" p2) [e] [] bu] X.env=[(false,eval (.Call (.Name "range" p2) [e] [] bu) X.env)]:=by rfl) (aK:starEach [e] X.env=[(false,eval e X.env)]:=by rfl):
 DN X WX (.Call (.Name "list" p) [.Call (.Name "range" p2) [e] [] bu] [] pos) (λ ρ=>(f ρ).bind rR):=by
 obtain⟨te,e1,e2⟩:=he;refine⟨_,Qa hc hg hm i5 b8 e1 hv hs aK,λ P0 P σ H Q ρ E h=>?_⟩;refine e2 P0 P σ H _ ρ E ?_;dsimp only at h;cases q:f ρ with
 |bad|ex x=>rw[q] at h;exact h
 |ok d =>
  rw[q] at h;simp only[M.A7] at h;intro v H1 s1 hv;cases d with
  |int j =>
   by_cases hj:0<=j/\j<=1000
   ·obtain⟨n,rfl⟩:∃n:Nat,j=n:=⟨j.toNat,by omega⟩;rw[Qb (by omega)] at h;refine⟨n,hv.int_inv,by omega,λ r hr=>h.Kg s1 (xs:=(yD n).map λ i:Nat=>V.int (i:Int)) ?_ r hr⟩;have:∀l:List Nat,Ai X.K (del H1 P) (l.map λ i:Nat=>V.int (i:Int)) (l.map λ i:Nat=>D.int (i:Int)):=λ l=>by
     induction l with
     |nil=>exact .nil
     |cons x r ih=>exact .cons (.int _) ih
    exact this _
   ·have e:rR (.int j)=.bad:=if_neg hj;rw[e] at h;exact h.elim
  |_=>exact h.elim
noncomputable def ZT (lo hi:Option Int)(d:D):M OT:=match d with
 | .lst ds=>.ok (.lst (((ds.drop (HT.Md ds.length 0 lo)).take (HT.Md ds.length ds.length hi-HT.Md ds.length 0 lo)).map .sh))
 |_=>.bad
theorem Ed {lo hi:Option Expr}{oy fh:Ac->M (Option Int)}{p2:Pos}(ha:DE X WX true e f)(hl:DO X WX true lo oy)(hh:DO X WX true hi fh):DN X WX (.Subscript e (.Slice lo hi none p2) pos) (λ ρ=>(f ρ).bind λ d=>(oy ρ).bind λ l=>(fh ρ).bind λ u=>ZT l u d):=by
 obtain⟨ta,a1,a2⟩:=ha;obtain⟨tl,l1,l2⟩:=hl;obtain⟨th,h1,h2⟩:=hh;refine⟨_,XF cS a1 l1 h1,λ P0 P σ H Q ρ E h=>?_⟩;dsimp only at h;refine a2 P0 P σ H _ ρ E ?_;cases q:f ρ with
 |bad|ex x=>rw[q] at h;exact h
 |ok d =>
  rw[q] at h;intro v H1 s1 hv;refine l2 P0 P σ H1 _ ρ (E.same s1) ?_;cases q2:oy ρ with
  |bad=>rw[q2] at h;exact h
  |ex y=>rw[q2] at h;exact λ H' s=>h H' (s1.trans s)
  |ok l =>
   rw[q2] at h;intro H2 s2;refine h2 P0 P σ H2 _ ρ ((E.same s1).same s2) ?_;cases q3:fh ρ with
   |bad=>rw[q3] at h;exact h
   |ex y=>rw[q3] at h;exact λ H' s=>h H' ((s1.trans s2).trans s)
   |ok u =>
    rw[q3] at h;simp only[M.A7] at h;intro H3 s3;unfold ZT at h;split at h
    ·cases hv with
     |lst hs hl =>
      refine⟨_,_,rfl,(s3.seq (s2.seq hs.AN)),λ p hp=>h.Kg ((s1.trans s2).trans s3) ?_ p hp⟩;unfold XG;rw[hl.length];exact ((((hl.drop _).take _).mono s2.del).mono s3.del)
    ·exact h.elim
theorem YG:uW X.K WX (iM X.K) MJ:=by
 intro P H x y v w Q ht hx hy h;unfold MJ at h;split at h
 ·rename_i ds es;by_cases hl:ds.length+es.length<=1000
  ·rw[if_pos hl] at h;cases hx with
   |lst h1 h2 =>
    cases hy with
    |lst h3 h4=>exact⟨_,_,_,_,rfl,rfl,h1.AN,h3.AN,yH (AE (by rw[h2.length,h4.length];exact hl)),h.Kg (Ad.refl _) (h2.uU h4)⟩
  ·rw[if_neg hl] at h;exact h.elim
 ·exact h.elim
theorem Qc (ha:DE X WX true a f)(hb:DE X WX true b g):DN X WX (.BinOp a .Add b pos) (λ ρ=>(f ρ).bind λ x=>(g ρ).bind λ y=>MJ x y):=by
 obtain⟨ta,a1,a2⟩:=ha;obtain⟨tb,b1,b2⟩:=hb;exact⟨_,Xu dP a1 b1,λ P0 P σ H Q ρ E h=>qH a2 b2 YG E h⟩
def GK (μ:List (Option Nat))(g:TG):Prop:=∀σ0 σ x H Q,(∀(j:Nat) v,(EF μ σ0)[j]?=some (some v)->σ[j]?=some (some v))->g x σ H Q->g x σ H λ σ' H'=>Q σ' H'/\∀(j:Nat) v,(EF μ σ0)[j]?=some (some v)->σ'[j]?=some (some v)
def qP (μ:List (Option Nat))(g:Xb):Prop:=∀σ0 σ x H Q,(∀(j:Nat) v,(EF μ σ0)[j]?=some (some v)->σ[j]?=some (some v))->g x σ H Q->g x σ H λ σ' H'=>Q σ' H'/\∀(j:Nat) v,(EF μ σ0)[j]?=some (some v)->σ'[j]?=some (some v)
theorem GK.keeps {μ:List (Option Nat)}{g:TG}(h:GK μ g):K6 μ g:=λ σ x H Q q=>h σ (EF μ σ) x H Q (λ _ _ z=>z) q
theorem eU {μ:List (Option Nat)}{i:Nat}(h:μ[i]?=some none):GK μ (M8 i):=λ σ0 σ x H Q hk q=>by
 refine⟨q,λ j v hj=>?_⟩;have ae:i≠j:=λ z=>by
  subst z;unfold EF at hj;rw[z7,h] at hj;cases hj
 rw[yE ae];exact hk j v hj
theorem eV {μ:List (Option Nat)}:qP μ jT:=λ σ0 σ x H Q hk q=>⟨q.1,q.2,hk⟩
theorem YH {μ:List (Option Nat)}{t:TG}{u:Xb}(mono:∀v σ H Q Q',(∀σ' H',Q σ' H'->Q' σ' H')->t v σ H Q->t v σ H Q')(ht:GK μ t)(hu:qP μ u):qP μ (Xm t u):=λ σ0 σ x H Q hk q=>by
 obtain⟨v,r,rfl,q⟩:=q;exact⟨v,r,rfl,mono _ _ _ _ _ (λ σ' H' z=>hu σ0 σ' r H' Q z.2 z.1) (ht σ0 σ v H _ hk q)⟩
theorem lS {K:za}{μ:List (Option Nat)}{n:Nat}{t:Xb}(h:qP μ t):GK μ (jU K n t):=λ σ0 σ x H Q hk q=>by
 obtain⟨a,xs,rfl,h1,h2,q⟩:=q;exact⟨a,xs,rfl,h1,h2,h σ0 σ xs H Q hk q⟩
variable {da:List D->Ac->M Ac}{gt:D->Ac->M Ac}{es:List Expr}
def eW (X:Cx)(scope:Scope)(NB:List Str)(μ:List (Option Nat))(es:List Expr)(gt:List D->Ac->M Ac):Prop:=
 ∃g:Xb,(∀s H C ex,nK (blockOf X s H scope C NB ex) es g)/\qP μ g/\∀P0 P σ H Q ρ vs ds,Ak X.K P0 P H σ ρ->Ai X.K (del H P) vs ds->gG X.K P0 P H Q (gt ds ρ)->g vs σ H Q
theorem YI {scope:Scope}{NB:List Str}{μ:List (Option Nat)}:eW X scope NB μ [] (λ ds ρ=>match ds with | []=>.ok ρ | _=>.bad):=
 ⟨jT,λ s H C ex=>UC,eV,λ P0 P σ H Q ρ vs ds E hv h=>by
  cases hv with
  |nil=>exact⟨rfl,h σ E⟩
  |cons _ _=>exact h.elim⟩
theorem P5 {scope:Scope}{NB:List Str}{μ:List (Option Nat)}(i:Nat){x:Str}{px:Pos}(hN:NB.Nodup)(hi:NB[i]?=some x)(hx:(relabel scope X.env).names.lookup x=some .local)(hm:μ[i]?=some none)(hr:eW X scope NB μ es da)
 (hs:∀s H C ex,(assignEach (.Name x px::es) (blockOf X s H scope C NB ex).env).map (·.2)=assign (.Name x px) (blockOf X s H scope C NB ex).env::(assignEach es (blockOf X s H scope C NB ex).env).map (·.2):=by intro _ _ _ _;rfl):
 eW X scope NB μ (.Name x px::es) (λ ds ρ=>match ds with|d::r=>da r (ρ.set i (some (.val d)))|[]=>.bad):=by
 obtain⟨gr,r1,r2,r3⟩:=hr;refine⟨Xm (M8 i) gr,λ s H C ex=>Rg (Lp (X:=blockOf X s H scope C NB ex) hN hi (.inl hx) (.inr hx)) (r1 s H C ex) (hs s H C ex),YH (λ v σ H Q Q' hq h=>hq _ _ h) (eU hm) r2,λ P0 P σ H Q ρ vs ds E hv h=>?_⟩;cases hv with
 |nil=>exact h.elim
 |cons h1 h2=>exact⟨_,_,rfl,r3 P0 P _ H Q _ _ _ (E.TF h1) h2 h⟩
theorem eX {scope:Scope}{NB:List Str}{μ:List (Option Nat)}{k n:Nat}{pt:Pos}(hc:X.calm=true)(h:eW X scope NB μ es da)
 (hn:∀s H C ex,(assignEach es (blockOf X s H scope C NB ex).env).length=n:=by intro _ _ _ _;rfl) (aP:∀s H C ex,(assignEach es (blockOf X s H scope C NB ex).env).findIdx? (·.1)=none:=by intro _ _ _ _;rfl):
 iK X scope NB μ (.Tuple es k pt) (λ d ρ=>match d with | .tup ds=>if ds.length=n then da ds ρ else .bad|_=>.bad):=by
 obtain⟨t,a1,a2,a3⟩:=h;refine⟨jU X.K n t,λ s H C ex=>Xn (X:=blockOf X s H scope C NB ex) hc (a1 s H C ex) (hn s H C ex) (aP s H C ex),(lS a2).keeps,λ P0 P σ H Q ρ v d E hv h=>?_⟩;cases hv with
 | @tup a xs ds hs hl =>
  dsimp only at h;by_cases hd:ds.length=n
  ·rw[if_pos hd] at h;exact⟨a,xs,rfl,Fb.of (Am hs).2,by rw[hl.length];exact hd,a3 P0 P σ H Q ρ xs ds E hl h⟩
  ·rw[if_neg hd] at h;exact h.elim
 |_=>exact h.elim
end
def WP (m:M Out)(nx:Ac->Prop)(rt:Out->Prop)(ex:Str->Prop):Prop:=match m with
 | .ok (.next ρ)=>nx ρ
 | .ok o=>rt o
 | .ex x=>ex x
 | .bad=>False
section
variable {nx:Ac->Prop}{rt:Out->Prop}{ex:Str->Prop}{m:M Out}{k:Ac->M Out}{ρ ρ':Ac}
theorem Bi (h:m=.ok (.next ρ'))(hn:nx ρ'):WP m nx rt ex:=by rw[h];exact hn
theorem WP.mono {tj:Ac->Prop}{tm:Out->Prop}{lx:Str->Prop}(h:WP m nx rt ex)(h1:∀ρ,nx ρ->tj ρ)(h2:∀o,rt o->tm o)(h3:∀x,ex x->lx x):WP m tj tm lx:=by
 cases m with
 |bad=>exact h
 |ex x=>exact h3 x h
 |ok o =>
  cases o with
  |next ρ=>exact h1 ρ h
  |ret d|brk d|cont d|CI d|EV d ρ=>exact h2 _ h
theorem wp_seq (h:WP m (λ ρ=>WP (k ρ) nx rt ex) rt ex):WP (dN m k) nx rt ex:=by
 cases m with
 |bad|ex x=>exact h
 |ok o =>
  cases o with
  |next ρ|ret d|brk d|cont d|CI d|EV d ρ=>exact h
theorem wp_step (h:m=.ok (.next ρ'))(hk:WP (k ρ') nx rt ex):WP (dN m k) nx rt ex:=by rw[h];exact hk
theorem BZ {I:Ac->Prop}(h:WP m I rt ex)(hk:∀ρ,I ρ->WP (k ρ) nx rt ex):WP (dN m k) nx rt ex:=wp_seq (h.mono hk (λ _ h=>h) λ _ h=>h)
def inLoop (I:Ac->Prop)(nx:Ac->Prop)(rt:Out->Prop)(o:Out):Prop:=match o with
 | .cont ρ=>I ρ
 | .brk ρ=>nx ρ
 |o=>rt o
theorem Bv {gt:D->Ac->M Ac}{gb:Ac->M Out}{ds:List D}(I:Nat->Ac->Prop)(h0:I 0 ρ)
 (step:∀i d ρ,ds[i]?=some d->I i ρ->∃ρ1,gt d ρ=.ok ρ1/\WP (gb ρ1) (I (i+1)) (inLoop (I (i+1)) nx rt) ex) (done:∀ρ,I ds.length ρ->nx ρ):WP (forM gt gb ds ρ) nx rt ex:=by
 have key:∀(n i:Nat) (ρ:Ac),i+n=ds.length->I i ρ->WP (forM gt gb (ds.drop i) ρ) nx rt ex:=by
  intro n;induction n with
  |zero =>
   intro i ρ hi h;have e:i=ds.length:=by omega
   subst e;rw[zb0,forM];exact done ρ h
  |succ n ih =>
   intro i ρ hi h;have ah:i<ds.length:=by omega
   obtain⟨ρ1,h1,h2⟩:=step i ds[i] ρ (zi ah) h;rw[Gg ah,forM,h1];dsimp only;cases q:gb ρ1 with
   |bad|ex x=>rw[q] at h2;exact h2
   |ok o =>
    rw[q] at h2;cases o with
    |next ρ2=>exact ih (i+1) ρ2 (by omega) h2
    |ret d|CI d|EV d ρ2=>exact h2
    |cont ρ2=>exact ih (i+1) ρ2 (by omega) h2
    |brk ρ2=>exact h2
 have:=key ds.length 0 ρ (by omega) h0;rw[List.drop_zero] at this;exact this
theorem RS {α:Type}{c:Ac->M Bool}{b:Ac->M Out}{lt:α->α->Prop}(J:α->Ac->Prop){x:α}(hx:Acc lt x)(h0:J x ρ)
 (step:∀x ρ,J x ρ->(c ρ=.ok false/\nx ρ)\/(c ρ=.ok true/\WP (b ρ) (λ ρ2=>∃y,lt y x/\J y ρ2) (inLoop (λ ρ2=>∃y,lt y x/\J y ρ2) nx rt) ex)):WP (KH c b ρ) nx rt ex:=by
 have key:∀x,Acc lt x->∀ρ,J x ρ->∃n,Az c b n ρ≠.bad/\WP (Az c b n ρ) nx rt ex:=by
  intro x hx;induction hx with
  |intro x _ ih =>
   intro ρ h;rcases step x ρ h with ⟨h1,h2⟩|⟨h1,h2⟩
   ·refine⟨1,?_,?_⟩
    ·rw[Az,h1];intro z;cases z
    ·rw[Az,h1];exact h2
   ·cases q:b ρ with
    |bad=>rw[q] at h2;exact h2.elim
    |ex y =>
     rw[q] at h2;refine⟨1,?_,?_⟩
     ·rw[Az,h1];dsimp only;rw[q];intro z;cases z
     ·rw[Az,h1];dsimp only;rw[q];exact h2
    |ok o =>
     rw[q] at h2;have go:∀ρ2,(∃y,lt y x/\J y ρ2)->(∀n,Az c b (n+1) ρ=Az c b n ρ2)->∃n,Az c b n ρ≠.bad/\WP (Az c b n ρ) nx rt ex:=by
      rintro ρ2 ⟨y,hy,hJ⟩ e;obtain⟨n,h3,h4⟩:=ih y hy ρ2 hJ;exact⟨n+1,by rw[e];exact h3,by rw[e];exact h4⟩
     cases o with
     |next ρ2|cont ρ2=>exact go ρ2 h2 λ n=>by rw[Az,h1];dsimp only;rw[q]
     |brk ρ2 =>
      refine⟨1,?_,?_⟩
      ·rw[Az,h1];dsimp only;rw[q];intro z;cases z
      ·rw[Az,h1];dsimp only;rw[q];exact h2
     |ret d =>
      refine⟨1,?_,?_⟩
      ·rw[Az,h1];dsimp only;rw[q];intro z;cases z
      ·rw[Az,h1];dsimp only;rw[q];exact h2
     |CI d =>
      refine⟨1,?_,?_⟩
      ·rw[Az,h1];dsimp only;rw[q];intro z;cases z
      ·rw[Az,h1];dsimp only;rw[q];exact h2
     |EV d ρ2 =>
      refine⟨1,?_,?_⟩
      ·rw[Az,h1];dsimp only;rw[q];intro z;cases z
      ·rw[Az,h1];dsimp only;rw[q];exact h2
 obtain⟨n,h1,h2⟩:=key x hx ρ h0;unfold KH;have hx:∃n,Az c b n ρ≠.bad:=⟨n,h1⟩;rw[dif_pos hx];have e:Az c b (zg hx) ρ=Az c b n ρ:=by
  have a:=CC (zb hx) n;have b':=CC h1 (zg hx);rw[Nat.add_comm] at b';rw[<-a,<-b']
 rw[e];exact h2
def uX (Q:OT->Prop)(o:Out):Prop:=match o with
 | .ret d=>Q (.sh d)
 | .CI c=>∃t,qI c=.ok t/\Q t
 |_=>False
theorem KI {Q:OT->Prop}(h:WP m (λ _=>Q (.sh .AA)) (uX Q) (λ _=>False)):∃t,Yt m=.ok t/\Q t:=by
 cases m with
 |bad|ex x=>exact h.elim
 |ok o =>
  cases o with
  |next ρ|ret d=>exact⟨_,rfl,h⟩
  |CI c=>exact h
  |EV c ρ|brk ρ|cont ρ=>exact h.elim
theorem Bj {t:OT}(h:WP m (λ _=>OT.sh .AA=t) (uX (·=t)) (λ _=>False)):Yt m=.ok t:=by
 obtain⟨u,h1,h2⟩:=KI (Q:=(·=t)) h;rw[h1,h2]
def uY (Q:D->Prop)(o:Out):Prop:=match o with
 | .ret d=>Q d
 | .CI c=>∃t,tW c=.ok t/\Q t
 |_=>False
theorem qQ {Q:D->Prop}(h:WP m (λ _=>Q .AA) (uY Q) (λ _=>False)):∃t,fin m=.ok t/\Q t:=by
 cases m with
 |bad|ex x=>exact h.elim
 |ok o =>
  cases o with
  |next ρ|ret d=>exact⟨_,rfl,h⟩
  |CI c=>exact h
  |EV c ρ|brk ρ|cont ρ=>exact h.elim
theorem qR {d:D}(h:WP m (λ _=>D.AA=d) (uY (·=d)) (λ _=>False)):fin m=.ok d:=by
 obtain⟨u,h1,h2⟩:=qQ (Q:=(·=d)) h;rw[h1,h2]
end
section
variable {d:D}{ds es:List D}{ρ ρ':Ac}{o:Option Cl}{i n:Nat}{p:Option Nat}{t u:OT}{π:List Nat}{b:Bool}{ks vs:List D}{ts:List OT}{m:M D}
theorem rS:rv 0 (some (.val d)::ρ)=.ok d:=rfl
theorem rT:rv (i+1) (o::ρ)=rv i ρ:=rfl
noncomputable def RT (f:Ac->Ac)(m:M Out):M Out:=match m with
 | .ok (.next ρ)=>.ok (.next (f ρ))
 |m=>m
theorem J3 {f:Ac->Ac}:RT f (.ok (.next ρ))=.ok (.next (f ρ)):=rfl
theorem J4:O7 0 (some (.own ds)::ρ)=.ok []:=rfl
theorem J5:O7 0 (some (.ow (.Lf n ds))::ρ)=.ok []:=rfl
theorem Hd:O7 0 (some (.ow (.tree p t))::ρ)=.ok []:=by unfold O7 R5;simp[treeOf]
theorem V5:O7 (i+1) (o::ρ)=O7 i ρ:=rfl
theorem V6:R5 0 (some (.own ds)::ρ) π=Ke (.lst (ds.map .sh)) π:=rfl
theorem V7:R5 0 (some (.ow (.Lf n ds))::ρ) π=Ke (.lst (ds.map .sh)) π:=rfl
theorem MS:R5 0 (some (.ow (.tree p t))::ρ) π=Ke t π:=rfl
theorem LG:T9 0 (some (.own ds)::ρ) []=.ok ds:=by unfold T9;simp[V6,CF]
theorem LH:T9 0 (some (.ow (.Lf n ds))::ρ) []=.ok ds:=by unfold T9;simp[V7,CF]
theorem J6:T9 0 (some (.ow (.tree p (.lst (ds.map .sh))))::ρ) []=.ok ds:=by unfold T9;simp[MS,CF]
theorem eY:T9 (i+1) (o::ρ) π=T9 i ρ π:=rfl
theorem He:CG 0 (some (.own ds)::ρ) []=.ok (ds.map .sh):=by unfold CG;simp[V6]
theorem Hf:CG 0 (some (.ow (.Lf n ds))::ρ) []=.ok (ds.map .sh):=by unfold CG;simp[V7]
theorem Fs:CG 0 (some (.ow (.tree p (.lst ts)))::ρ) []=.ok ts:=by unfold CG;simp[MS]
theorem Qd:CG (i+1) (o::ρ) π=CG i ρ π:=rfl
theorem D7:FU 0 (some (.ow (.tree p (.Bl b ks (vs.map .sh))))::ρ) []=.ok (b,ks,vs):=by unfold FU;simp[MS,CF]
theorem Qe:FU (i+1) (o::ρ) π=FU i ρ π:=rfl
theorem J7:EJ 0 (some (.own ds)::ρ) [] u=.ok (.next (some (toCl none u)::ρ)):=by unfold EJ;simp[treeOf]
theorem J8:EJ 0 (some (.ow (.Lf n ds))::ρ) [] u=.ok (.next (some (toCl (some n) u)::ρ)):=by unfold EJ;simp[treeOf]
theorem Hg:EJ 0 (some (.ow (.tree p t))::ρ) π u=.ok (.next (some (toCl p (EI t π u))::ρ)):=by unfold EJ;simp[treeOf]
theorem V8:EJ (i+1) (o::ρ) π u=RT (o::·) (EJ i ρ π u):=by
 unfold EJ RT;simp only[zI,zo];split
 ·rename_i c e;split<;>simp_all
 ·simp_all
theorem J9:W9 0 (some (.own ds)::ρ) (.ok d)=if ds.length<1000 then .ok (.next (some (.own (ds++[d]))::ρ)) else .bad:=rfl
theorem V9:W9 (i+1) (o::ρ) m=RT (o::·) (W9 i ρ m):=by
 unfold W9;rw[zI];cases q:ρ[i]? with
 |none=>rfl
 |some oo =>
  cases oo with
  |none=>rfl
  |some c =>
   cases c with
   |own ds =>
    cases m with
    |ok d =>
     simp only[M.A7,zo];by_cases h:ds.length<1000
     ·rw[if_pos h,if_pos h];rfl
     ·rw[if_neg h,if_neg h];rfl
    |ex x|bad=>rfl
   |val d|ow w=>rfl
theorem Ja {j:Int}:Wh 0 (some (.own ds)::ρ) (.ok (.int j)) (.ok d)=if 0<=j/\j.toNat<=ds.length/\ds.length<1000 then .ok (.next (some (.own (ds.take j.toNat++d::ds.drop j.toNat))::ρ)) else .bad:=rfl
theorem Va {m2:M D}:Wh (i+1) (o::ρ) m m2=RT (o::·) (Wh i ρ m m2):=by
 unfold Wh;rw[zI];cases q:ρ[i]? with
 |none=>rfl
 |some oo =>
  cases oo with
  |none=>rfl
  |some c =>
   cases c with
   |own ds =>
    cases m with
    |ok d =>
     cases m2 with
     |ok d2 =>
      simp only[M.A7,zo];cases d with
      |int j =>
       dsimp only;by_cases h:0<=j/\j.toNat<=ds.length/\ds.length<1000
       ·rw[if_pos h,if_pos h];rfl
       ·rw[if_neg h,if_neg h];rfl
      |_=>rfl
     |ex x|bad=>rfl
    |ex x|bad=>rfl
   |val d|ow w=>rfl
theorem Jb:TY 0 (some (.val d)::ρ)=.ok (.ret d):=rfl
theorem Jc:TY 0 (some (.own ds)::ρ)=.ok (.CI (.own ds)):=rfl
theorem LI {w:Ow}:TY 0 (some (.ow w)::ρ)=.ok (.CI (.ow w)):=rfl
theorem Vb:TY (i+1) (o::ρ)=TY i ρ:=rfl
theorem uZ:tX i ρ π=match R5 i ρ π with | some (.sh d)=>.ok d | _=>.bad:=rfl
theorem eZ:Yw (i+1) (o::ρ)=o::Yw i ρ:=by
 unfold Yw;simp only[zI,zo];split<;>simp_all
theorem fA {c:Cl}:Yw 0 (some c::ρ)=some (IT c)::ρ:=rfl
theorem Jd:IT (.val d)=.val d:=rfl
theorem Je:IT (.own ds)=.val (.lst ds):=rfl
theorem Jf:IT (.ow (.Lf n ds))=.val (.lst ds):=rfl
theorem LJ:IT (.ow (.tree p t))=.val (er t):=rfl
theorem Il:er (.Bl b ks (vs.map .sh))=.Bl b ks vs:=by rw[er,Ii]
theorem Im:er (.lst (ds.map .sh))=.lst ds:=by rw[er,Ii]
theorem RU:er (.sh d)=d:=rfl
theorem rV {l:List (Option Nat)}:B4 (none::l) ρ=none::B4 l ρ:=rfl
theorem rW:B4 [] ρ=[]:=rfl
theorem fB {l:List (Option Nat)}:B4 (some i::l) ρ=(match ρ[i]? with | some (some (.val d))=>some (.val d) | _=>none)::B4 l ρ:=rfl
theorem fC {α:Type}{x y:α}:(if ([]:List D).length<=1000 then x else y)=x:=if_pos (by show 0<=1000;decide)
theorem fD {α:Type}{x y:α}{a:D}:(if [a].length<=1000 then x else y)=x:=if_pos (by show 1<=1000;decide)
theorem fE {α:Type}{x y:α}{a b:D}:(if [a,b].length<=1000 then x else y)=x:=if_pos (by show 2<=1000;decide)
theorem fF {α:Type}{x y:α}{a b c:D}:(if [a,b,c].length<=1000 then x else y)=x:=if_pos (by show 3<=1000;decide)
theorem fG {α:Type}{x y:α}{a b c d:D}:(if [a,b,c,d].length<=1000 then x else y)=x:=if_pos (by show 4<=1000;decide)
theorem toCl_nil:toCl none (.lst [])=.own []:=rfl
theorem D8 {α:Type}{gt:D->Ac->M Ac}{ft:Ac->M Bool}{fe:Ac->M D}{g:α->D}(p:α->Bool)(f:α->D):∀ {l:List α},(∀x∈l,∃ρ1,gt (g x) ρ=.ok ρ1/\ft ρ1=.ok (p x)/\(p x=true->fe ρ1=.ok (f x)))->Bq gt ft fe (l.map g) ρ=.ok ((l.filter p).map f)
 |[],_=>rfl
 |x::r,h=>by
  obtain⟨ρ1,h1,h2,h3⟩:=h x zd;have ih:=D8 (gt:=gt) (ft:=ft) (fe:=fe) (g:=g) p f (l:=r) λ y hy=>h y (ze _ hy);rw[zf,Bq,h1];dsimp only;rw[h2];dsimp only;rw[List.filter_cons];cases hp:p x with
  |true =>
   rw[if_pos rfl,h3 hp];dsimp only;rw[ih];simp
  |false=>simp[ih]
theorem B6 {α:Type}{gt:D->Ac->M Ac}{ft:Ac->M Bool}{fe:Ac->M D}{g:α->D}(f:α->D){l:List α}(h:∀x∈l,∃ρ1,gt (g x) ρ=.ok ρ1/\ft ρ1=.ok true/\fe ρ1=.ok (f x)):Bq gt ft fe (l.map g) ρ=.ok (l.map f):=by
 have:=D8 (gt:=gt) (ft:=ft) (fe:=fe) (ρ:=ρ) (g:=g) (λ _=>true) f (l:=l) λ x hx=>by
  obtain⟨ρ1,h1,h2,h3⟩:=h x hx;exact⟨ρ1,h1,h2,λ _=>h3⟩
 rw[this,List.filter_eq_self.mpr (λ _ _=>rfl)]
theorem BG {α:Type}{g:α->D}{l:List α}{i:Nat}{d:D}(h:(l.map g)[i]?=some d):∃x,l[i]?=some x/\d=g x:=by
 rw[z7] at h;cases q:l[i]? with
 |none=>rw[q] at h;cases h
 |some x=>rw[q] at h;cases h;exact⟨x,rfl,rfl⟩
theorem Qf:eO (.lst (ds.map .sh))=.ok ds:=by unfold eO;simp[CF,eN]
theorem Hh {α:Type}{x:α}:eN (some x)=.ok x:=rfl
theorem LK:O6 i ρ (.sh d)=.ok (.next (ρ.set i (some (.val d)))):=rfl
theorem Jg:O6 i ρ (.lst ts)=.ok (.next (ρ.set i (some (toCl none (.lst ts))))):=rfl
theorem Jh:O6 i ρ (.tup ts)=.ok (.next (ρ.set i (some (.ow (.tree none (.tup ts)))))):=rfl
theorem Ji:O6 i ρ (.Bl b ks ts)=.ok (.next (ρ.set i (some (.ow (.tree none (.Bl b ks ts)))))):=rfl
theorem Jj {x:Str}{ns:List Str}:O6 i ρ (.ins x ns ts)=.ok (.next (ρ.set i (some (.ow (.tree none (.ins x ns ts)))))):=rfl
theorem LL:Yu (.sh d)=.ok (.ret d):=rfl
theorem Jk:Yu (.lst ts)=.ok (.CI (.ow (.tree none (.lst ts)))):=rfl
theorem Jl:Yu (.tup ts)=.ok (.CI (.ow (.tree none (.tup ts)))):=rfl
theorem Jm:Yu (.Bl b ks ts)=.ok (.CI (.ow (.tree none (.Bl b ks ts)))):=rfl
theorem RV {α:Type}{f:α->D}(h:∀x,GX (f x)=true):∀l:List α,IS (l.map f)=true
 |[]=>by simp[IS]
 |x::r=>by rw[zf,IS,h x,RV h r];rfl
theorem RW:∀ds:List D,Ea (ds.map .sh)=IS ds
 |[]=>by simp[IS,Ea]
 |d::r=>by rw[zf,Ea,EZ,RW r,IS]
theorem lT (h:GX d=true):O5 (.ok (.sh d))=.ok (.sh d):=by unfold O5;simp[EZ,h]
theorem fH (h:IS ds=true):O5 (.ok (.lst (ds.map .sh)))=.ok (.lst (ds.map .sh)):=by unfold O5;simp[EZ,RW,h]
theorem fI {i:Int}:GX (.int i)=true:=by simp[GX]
theorem fJ:GX .AA=true:=by simp[GX]
theorem YJ:Fp (.lst ds)=.ok (!ds.isEmpty):=rfl
theorem lU {a s m:Int}(h0:0<=a)(h1:a<m)(s0:1<=s)(s1:s<m):(a+s)%m≠a:=by
 by_cases h:a+s<m
 ·rw[Int.emod_eq_of_lt (by omega) h];omega
 ·have e:(a+s)%m=(a+s-m)%m:=by rw[Int.sub_emod_right]
  rw[e,Int.emod_eq_of_lt (by omega) (by omega)];omega
theorem LM {k:Nat}(i j:Int):dJ k (.int i) (.int j)=.ok (.bl (decide (i=j))):=by
 rw[TN (Ib _) (Ib _)];simp only[Ay,Bool.beq_eq_decide_eq]
theorem LN {k:Nat}(i j:Int):Xe k (.int i) (.int j)=.ok (.bl (!decide (i=j))):=by
 rw[TQ (Ib _) (Ib _)];simp only[Ay,Bool.beq_eq_decide_eq]
theorem Jn {i j:Int}:pU (.int i) (.int j)=.ok (.int (i+j)):=rfl
theorem Jo {i j:Int}:pV (.int i) (.int j)=.ok (.int (i-j)):=rfl
theorem LO {i j:Int}:uQ (.int i) (.int j)=.ok (.bl (decide (i<j))):=rfl
theorem LP {i j:Int}:vR (.int i) (.int j)=.ok (.bl (decide (i<=j))):=rfl
theorem LQ {i j:Int}:uR (.int i) (.int j)=.ok (.bl (decide (j<i))):=rfl
theorem LR {i j:Int}:vS (.int i) (.int j)=.ok (.bl (decide (j<=i))):=rfl
theorem LS {i:Int}:uS (.int i)=.ok (some i):=rfl
theorem Jp:W7 [.lst ds]=.ok (.int ds.length):=rfl
theorem Jq:W7 [.tup ds]=.ok (.int ds.length):=rfl
theorem ite_tt {α:Type}{x y:α}:(if true=true then x else y)=x:=rfl
theorem ite_ff {α:Type}{x y:α}:(if false=true then x else y)=y:=rfl
theorem U1 {lo hi:Option Int}{x:D}(h:iJ lo hi x=.ok (.lst ds)):ZT lo hi x=.ok (.lst (ds.map .sh)):=by
 unfold iJ at h;unfold ZT;cases x with
 |lst xs=>dsimp only at h ⊢;injection h with h;injection h with h;rw[h]
 |_=>cases h
theorem RX (xs:List D)(k:Nat):ZT none (some (k:Int)) (.lst xs)=.ok (.lst ((xs.take k).map .sh)):=U1 (Ye xs k)
theorem Jr (xs:List D)(k:Nat):ZT (some (k:Int)) none (.lst xs)=.ok (.lst ((xs.drop k).map .sh)):=U1 (Yh xs k)
theorem fK (xs:List D)(a b:Nat):ZT (some (a:Int)) (some (b:Int)) (.lst xs)=.ok (.lst (((xs.drop a).take (b-a)).map .sh)):=U1 (dQ xs a b)
theorem Js:Kg (.lst ds)=.ok (.lst (ds.map .sh)):=rfl
theorem Jt:Kg (.tup ds)=.ok (.lst (ds.map .sh)):=rfl
theorem Hi {ns:List Int}:qO [.lst (ns.map D.int)]=.ok (.int ns.sum):=by unfold qO;dsimp only;rw[EX]
theorem Hj {T:String}:IQ T (.lst ds)=.ok (.bl (Eu T (.lst ds))):=rfl
theorem Hk {T:String}:IQ T (.tup ds)=.ok (.bl (Eu T (.tup ds))):=rfl
theorem Hl {T:String}{k:Int}:IQ T (.int k)=.ok (.bl (Eu T (.int k))):=rfl
theorem Hm {T:String}:IQ T .AA=.ok (.bl (Eu T .AA)):=rfl
theorem Ju {T:String}{k:Bool}:IQ T (.bl k)=.ok (.bl (Eu T (.bl k))):=rfl
theorem Hn {T:String}{k:Str}:IQ T (.str k)=.ok (.bl (Eu T (.str k))):=rfl
theorem Ho {T:String}:IQ T (.Bl b ks vs)=.ok (.bl (Eu T (.Bl b ks vs))):=rfl
theorem Vc:Eu "list" (.lst ds)=true:=rfl
theorem Vd:Eu "tuple" (.tup ds)=true:=rfl
theorem Ve {k:Int}:Eu "int" (.int k)=true:=rfl
theorem Vf {k:Int}:Eu "bool" (.int k)=false:=rfl
theorem Vg:Eu "dict" (.Bl b ks vs)=true:=rfl
theorem Hq {neg:Bool}{k:Int}{ns:List Int}:IY neg (.int k) (.lst (ns.map D.int))=.ok (.bl (if neg then !ns.contains k else ns.contains k)):=by
 unfold IY rN;dsimp only;rw[EX]
noncomputable def vO (s:Option D):Option Cl:=s.map .val
theorem LU {s:Option D}:Dn (vO s::ρ)=vO s::Dn ρ:=by cases s<;>rfl
end
noncomputable def U2 (x:Int):List Int->List Int
 |[]=>[x]
 |y::r=>if x<=y then x::y::r else y::U2 x r
noncomputable def Gq:List Int->List Int
 |[]=>[]
 |x::r=>U2 x (Gq r)
theorem Kh (x:Int):∀l:List Int,(U2 x l).Perm (x::l)
 |[]=>.refl _
 |y::r=>by
  unfold U2;split
  ·exact .refl _
  ·exact ((Kh x r).cons y).trans (.swap x y r)
theorem Ee:∀l:List Int,(Gq l).Perm l
 |[]=>.refl _
 |x::r=>(Kh x (Gq r)).trans ((Ee r).cons x)
theorem KJ (x:Int):∀l:List Int,l.Pairwise (·<=·)->(U2 x l).Pairwise (·<=·)
 |[],_=>by simp[U2]
 |y::r,h=>by
  unfold U2;have hy:=List.pairwise_cons.mp h;split
  ·rename_i cb;exact List.pairwise_cons.mpr ⟨λ z hz=>by
    rcases zp.mp hz with rfl|hz
    ·exact cb
    ·exact Int.le_trans cb (hy.1 z hz),h⟩
  ·rename_i cb;exact List.pairwise_cons.mpr ⟨λ z hz=>by
    rcases zp.mp ((Kh x r).mem_iff.mp hz) with rfl|hz
    ·omega
    ·exact hy.1 z hz,KJ x r hy.2⟩
theorem Ft:∀l:List Int,(Gq l).Pairwise (·<=·)
 |[]=>.nil
 |x::r=>KJ x _ (Ft r)
theorem Gr:∀ {a b:List Int},a.Perm b->a.Pairwise (·<=·)->b.Pairwise (·<=·)->a=b
 |[],b,hp,_,_=>(List.nil_perm.mp hp).symm
 |x::r,[],hp,_,_=>by have:=hp.length_eq;simp at this
 |x::r,y::t,hp,ha,hb=>by
  have cc:=List.pairwise_cons.mp ha;have a8:=List.pairwise_cons.mp hb;have e:x=y:=by
   have h1:x∈y::t:=hp.mem_iff.mp (zd ..);have h2:y∈x::r:=hp.mem_iff.mpr (zd ..);rcases zp.mp h1 with e|h1
   ·exact e
   rcases zp.mp h2 with e|h2
   ·exact e.symm
   have:=cc.1 _ h2;have:=a8.1 _ h1;omega
  subst e;rw[Gr (List.Perm.cons_inv hp) cc.2 a8.2]
theorem Jv:∀ {us:List Value}{ns:List Int},IntsAre us ns->Vals (ns.map V.int) us
 |_,_,.nil=>.nil
 |_,_,.cons n t h=>.cons ⟨t,rfl⟩ (Jv h)
theorem MT {K:za}{H:Hp}:∀l:List Int,Ai K H (l.map V.int) (l.map D.int)
 |[]=>.nil
 |x::r=>.cons (.int _) (MT r)
section
variable {X:Cx}{WX:Str->Hp->Prop}{c:Bool}{P0:Et}{P:Addr->Prop}{H:Hp}{σ:St}{ρ:Ac}{a b e:Expr}{f g:Ac->M D}{fn:Ac->M OT}{pos:Pos}{te:TE}
noncomputable def uA (X:Cx)(te:TE):TE:=λ σ H Q=>te σ H λ x H1=>∃p ns,x=.ref p/\CJ X.K H1 p (List.map V.int ns)/\ns.length<64/\∀r,H1 r=none->Q (.ref r) (upd H1 r (.lst ((Gq ns).map V.int)))
theorem Wt {p:Pos}(hc:X.calm=true)(hg:Gl X "sorted")(hm:X.mg "sorted" = none)(he:PE X e te)
 (hv:bootBuiltins "sorted" = some (.builtin "sorted"):=by decide +kernel)
 (hs:starEach [e] X.env=[(false,eval e X.env)]:=by rfl):
 PE X (.Call (.Name "sorted" p) [e] [] pos) (uA X te):=by
 intro pins s σ H Q I h;refine wpAny_Call_Name_kw (Dr I hg hm hv ?_);refine PyProof.Rows.callWith_builtin1 ?_ hs;rw[hs];refine zal (Bg (he pins s σ H _ I h) λ u s1 ⟨x,H1,I1,r1,q1⟩=>?_);obtain⟨q,ns,rfl,hq,vY,h⟩:=q1;cases r1;refine zas ?_;obtain⟨aa,r',pl,hz⟩:=I1.list hq;have hi:=intsAre_of r';have o7:=r'.length;rw[zc] at o7;refine sorted_ints pl.isList hi (by omega) λ out cz b1 b2 b3=>?_;obtain⟨c',a9⟩:=sortedAll_at s1.heap aa out;have e:cz=Gq ns:=Gr (b2.trans (Ee ns).symm) b3 (Ft ns);subst e;refine⟨.ref _,_,I1.laid (t':=s1.toks) (o:=.lst ((Gq ns).map V.int)) (λ b o e=>sortedAll_old e) (Nat.le_succ _) ⟨?_,out.toList,c',Jv b1,by simpa using a9⟩,rfl,h _ (I1.As.fresh (Nat.le_succ _))⟩;rw[zc,(Ee ns).length_eq];exact yH (AE (by omega))
noncomputable def fL (d:D):M OT:=match d with
 | .lst xs=>(match CL xs with|some ns=>if ns.length<64 then .ok (.lst (((Gq ns).map .int).map .sh)) else .bad|none=>.bad)
 |_=>.bad
theorem Wu {ns:List Int}(h:ns.length<64):fL (.lst (ns.map .int))=.ok (.lst (((Gq ns).map .int).map .sh)):=by
 unfold fL;dsimp only;rw[EX];dsimp only;rw[if_pos h]
theorem Wv {p:Pos}(hc:X.calm=true)(hg:Gl X "sorted")(hm:X.mg "sorted" = none)(he:DE X WX true e f)
 (hv:bootBuiltins "sorted" = some (.builtin "sorted"):=by decide +kernel)
 (hs:starEach [e] X.env=[(false,eval e X.env)]:=by rfl):
 DN X WX (.Call (.Name "sorted" p) [e] [] pos) (λ ρ=>(f ρ).bind fL):=by
 obtain⟨te,e1,e2⟩:=he;refine⟨_,Wt hc hg hm e1 hv hs,λ P0 P σ H Q ρ E h=>?_⟩;refine e2 P0 P σ H _ ρ E ?_;dsimp only at h;cases q:f ρ with
 |bad|ex x=>rw[q] at h;exact h
 |ok d =>
  rw[q] at h;simp only[M.A7] at h;intro v H1 s1 hv;unfold fL at h;split at h
  ·rename_i xs;split at h
   ·rename_i ns eb;have:=EY eb;subst this;split at h
    ·rename_i hl;cases hv with
     |lst hs hh =>
      have:=E9 hh;subst this;exact⟨_,ns,rfl,hs.AN,hl,h.Kg s1 (MT _)⟩
    ·exact h.elim
   ·exact h.elim
  ·exact h.elim
noncomputable def fM (d k:D):M OT:=match k with
 | .int j=>if 0<=j/\j.toNat<=1000 then .ok (.lst ((zu j.toNat d).map .sh)) else .bad
 |_=>.bad
theorem MU {d:D}{n:Nat}(h:n<=1000):fM d (.int (n:Int))=.ok (.lst ((zu n d).map .sh)):=by
 unfold fM;dsimp only;rw[if_pos ⟨by omega,by omega⟩,yF]
theorem U3 {db:Pos}(ha:DE X WX true a f)(hb:DE X WX true b g)(aP:starEach [a] X.env=[(false,eval a X.env)]:=by rfl):
 DN X WX (.BinOp (.List [a] db) .Mult b pos) (λ ρ=>(f ρ).bind λ d=>(g ρ).bind λ k=>fM d k):=by
 obtain⟨ta,a1,a2⟩:=ha;obtain⟨tb,b1,b2⟩:=hb;refine⟨_,Xu kR (PJ (Ba a1 C5 aP)) b1,λ P0 P σ H Q ρ E h=>?_⟩;dsimp only at h;refine a2 P0 P σ H _ ρ E ?_;cases q:f ρ with
 |bad|ex x=>rw[q] at h;exact h
 |ok d =>
  rw[q] at h;simp only[M.A7] at h;intro v H1 s1 hv;have E1:=E.same s1;refine⟨yH (AE (by simp)),λ p hp=>?_⟩;have s2:Ad H1 (upd H1 p (.lst [v])):=AJ hp _;have E2:=E1.same s2;refine b2 P0 P σ _ _ ρ E2 ?_;cases q2:g ρ with
  |bad=>rw[q2] at h;exact h
  |ex x=>rw[q2] at h;exact λ H' s3=>h H' ((s1.trans s2).trans s3)
  |ok k =>
   rw[q2] at h;simp only[M.A7] at h;unfold fM at h;intro w H3 s3 hw;cases k with
   |int j =>
    dsimp only at h;by_cases hj:0<=j/\j.toNat<=1000
    ·rw[if_pos hj] at h;cases hw;refine⟨p,j,[v],rfl,rfl,s3 _ _ Ao,by omega,by omega,yH (AE (by simp;omega)),?_⟩;rw[OO];exact h.Kg ((s1.trans s2).trans s3) (RI ((hv.mono s2.del).mono s3.del) j.toNat)
    ·rw[if_neg hj] at h;exact h.elim
   |_=>exact h.elim
end
noncomputable def fN (f:Str):List Str->List D->Option D
 |n::ns,d::ds=>if f==n then some d else fN f ns ds
 |_,_=>none
theorem RY {K:za}{H:Hp}{f:Str}:∀ {fs:List (Str×V)}{ds:List D}{d:D},Ai K H (fs.map yT) ds->fN f (fs.map zQ) ds=some d->∃v,fs.lookup f=some v/\BK K H v d
 |[],ds,d,_,h=>by simp[fN] at h
 |(n,v)::fs,_,d,.cons hv ht,h=>by
  rw[zf,fN] at h;rw[yR];cases q:f==n with
  |true=>rw[q,if_pos rfl] at h;cases h;exact⟨v,rfl,hv⟩
  |false=>rw[q,if_neg (by simp)] at h;exact RY ht h
theorem MV {K:za}{H:Hp}{f:Str}:∀ {fs:List (Str×V)}{ds:List D},Ai K H (fs.map yT) ds->fN f (fs.map zQ) ds=none->fs.lookup f=none
 |[],ds,_,h=>rfl
 |(n,v)::fs,_,.cons hv ht,h=>by
  rw[zf,fN] at h;rw[yR];cases q:f==n with
  |true=>rw[q,if_pos rfl] at h;cases h
  |false=>rw[q,if_neg (by simp)] at h;exact MV ht h
structure HC (K:za)(x f:Str):Prop where
 ex:∃C,zF K mainGlobals x=some (some (.ref C))/\VS K C/\HS K C f
noncomputable def O9 (cs:List Str)(f:Str)(d:D):M D:=match d with
 | .ins x ns ds=>if x∈cs then (match fN f ns ds with|some e=>.ok e|none=>.bad) else .bad
 |_=>.bad
section
variable {X:Cx}{E:XK}{WX:Str->Hp->Prop}{c:Bool}{P0:Et}{P:Addr->Prop}{H:Hp}{σ:St}{ρ:Ac}{a b e:Expr}{es:List Expr}{f g:Ac->M D}{fs:Ac->M (List D)}{fn:Ac->M OT}{pos:Pos}{te:TE}
theorem EK (cs:List Str){fl:Str}(o8:∀x∈cs,HC X.K x fl)(ha:DE X WX c a f)(hb:attributeBase a fl X.env (eval a X.env)=eval a X.env:=by rfl):DE X WX c (.Attribute a fl pos) (λ ρ=>(f ρ).bind (O9 cs fl)):=by
 obtain⟨ta,a1,a2⟩:=ha;refine⟨_,kG a1 hb,λ P0 P σ H Q ρ E h=>?_⟩;dsimp only at h;refine a2 P0 P σ H _ ρ E ?_;cases e:f ρ with
 |bad|ex x=>rw[e] at h;exact h
 |ok d =>
  rw[e] at h;simp only[M.A7] at h;intro v H1 s1 hv;unfold O9 at h;split at h
  ·rename_i x ns ds;split at h
   ·rename_i hx;split at h
    ·rename_i d' el;cases hv with
     |ins hn ha hl =>
      obtain⟨C,b9,hc,d0⟩:=(o8 x hx).ex;rw[hn] at b9;cases b9;obtain⟨v',l1,l2⟩:=RY hl el;exact⟨_,_,_,_,v',rfl,(Am ha).2,hc,d0,l1,h v' H1 s1 l2⟩
    ·exact h.elim
   ·exact h.elim
  ·exact h.elim
structure P6 (K:za)(x m qual:Str)(st:Stmt)(ps:List Str):Prop where
 ex:∃C f fd,zF K mainGlobals x=some (some (.ref C))/\VS K C/\Meth K C m f/\Xc K m qual st f fd/\Binds K fd ps []
structure Io (P:Program)(w:World)(K:za)(mg:Str->Option Value)(base:Heap)(x m:Str)(k n:Nat)(F:List D->M OT):Prop where
 ex:∃C fa fd ps,zF K mainGlobals x=some (some (.ref C))/\VS K C/\Meth K C m fa/\Ds P w K mg base (Wa P w base) k fa fd ps (spT K n F)/\Binds K fd ps []
theorem LV {P:Program}{w:World}{K:za}{mg:Str->Option Value}{base:Heap}{x m qual:Str}{st:Stmt}{N ps:List Str}{k n:Nat}(T:P6 K x m qual st ps)(S:Ag N ps (A4 st))(g:Ac->M Out)
 (hb:∀(f:Addr) (B5:Value) (A:Around) (outer:List Env) (s:Shared) (H:Hp) (E:XK),BJ k (A.deeper (envOfC qual (A4 st) s.heap.objs.size f B5))->T8 (iL P w K mg base N qual (A4 st) f B5 A outer s H E) (E7 K E) (AM st) g) (hn:ps.length=n:=by rfl):
 Io P w K mg base x m (k+1) n (λ ds=>Yt (g (AF N ds))):=by
 obtain⟨C,f,fd,h1,h2,h3,F,hB⟩:=T.ex;subst hn;exact⟨⟨C,f,fd,ps,h1,h2,h3,qJ F S g (hb f),hB⟩⟩
noncomputable def rX (x:Str):List (Str×(List D->M OT))->Option (List D->M OT)
 |[]=>none
 |(y,F)::r=>if x=y then some F else rX x r
theorem Vh {x:Str}{F:List D->M OT}:∀ {ms:List (Str×(List D->M OT))},rX x ms=some F->(x,F)∈ms
 |[],h=>by cases h
 |(y,G)::r,h=>by
  unfold rX at h;split at h
  ·rename_i e;cases h;subst e;exact zd
  ·exact ze _ (Vh h)
noncomputable def Lh (ms:List (Str×(List D->M OT)))(m:Str)(d:D):M (List D->M OT):=match d with
 | .ins x ns es=>(match rX x ms with
  |some F=>(match fN m ns es with|none=>.ok F|some _=>.bad)
  |none=>.bad)
 |_=>.bad
theorem RZ {ms:List (Str×(List D->M OT))}{m:Str}{d:D}{F:List D->M OT}(h:Lh ms m d=.ok F):∃x ns es,d=.ins x ns es/\(x,F)∈ms/\fN m ns es=none:=by
 unfold Lh at h;split at h
 ·rename_i x ns es;split at h
  ·rename_i G e;split at h
   ·rename_i e2;cases h;exact⟨x,ns,es,rfl,Vh e,e2⟩
   ·cases h
  ·cases h
 ·cases h
theorem P7 {ms:List (Str×(List D->M OT))}{m:Str}{d:D}{x:Str}:Lh ms m d≠.ex x:=λ h=>by
 unfold Lh at h;split at h
 ·split at h
  ·split at h<;>cases h
  ·cases h
 ·cases h
noncomputable def YK (X:Cx)(m:Str)(k:Nat)(E:XK)(ta:TE)(t:TA):TE:=λ σ H Q=>ta σ H λ x H1=>∃a C dx fs f fd ps n F,x=.ref a/\H1 a=some (.ins C dx fs)/\fs.lookup m=none/\VS X.K C/\Meth X.K C m f/\Ds X.prog X.w X.K X.mg X.base (Wa X.prog X.w X.base) k f fd ps (spT X.K n F)/\Binds X.K fd ps []/\
 t σ H1 λ vs H2=>spT X.K n F (x::vs) H2 Q E
theorem YL {pl:Sem Bool}{o:Expr}{m:Str}{k:Nat}{ta:TE}{t:TA}{apos:Pos}(he:PE X o ta)(hr:BJ k X.A)(hx:HU (Wa X.prog X.w X.base) X E)(ha:PA X (e::es) t)
 (aP:starEach (e::es) X.env=(false,eval e X.env)::starEach es X.env:=by rfl) (au:(backTo pos (starEach es X.env)).any (·.1)=false:=by rfl)
 (ht:eval (.Call (.Attribute o m apos) (e::es) [] pos) X.env=(do
  let ov <-eval o X.env
  standAt apos.atName
  let (f,first) <-holding [ov] (getMethod ov m pl)
  callWith pos f first (backTo pos (starEach (e::es) X.env)) (backToKw pos (keywordEach [] X.env))):=by rfl):
 PE X (.Call (.Attribute o m apos) (e::es) [] pos) (YK X m k E ta t):=by
 intro pins s σ H Q I h;refine PySem.W.methodCall_KW (pl:=pl) (Bg (he pins s σ H _ I h) λ u s1 ⟨x,H1,I1,rx,a,C,dx,fs,f,fd,ps,n,F,ex,ea,l,c,hm,hF,hb,q⟩=>?_) ht;subst ex;obtain rfl:u=y9 a:=rx;refine Ma I1 ea c hm l ?_;refine PySem.W.callWith_K (first:=[.ref a]) (h₀:=X.base) I.ok.mod.ZR hm.kp (Bg (ha pos pins s1 σ H1 _ I1 q) λ us s2 ⟨vs,H2,I2,r,q2⟩=>⟨I2.NT,?_⟩) aP au;exact Tq (us:=.ref a::us) (vs:=.ref a::vs) hF hr hb .nil hx I2 (.cons rfl r) (by rw[zR];exact q2)
theorem Ww {pl:Sem Bool}{o:Expr}{m:Str}{k:Nat}{ta:TE}{apos:Pos}(he:PE X o ta)(hr:BJ k X.A)(hx:HU (Wa X.prog X.w X.base) X E)
 (ht:eval (.Call (.Attribute o m apos) [] [] pos) X.env=(do
  let ov <-eval o X.env
  standAt apos.atName
  let (f,first) <-holding [ov] (getMethod ov m pl)
  callWith pos f first (backTo pos (starEach [] X.env)) (backToKw pos (keywordEach [] X.env))):=by rfl):
 PE X (.Call (.Attribute o m apos) [] [] pos) (YK X m k E ta kI):=by
 intro pins s σ H Q I h;refine PySem.W.methodCall_KW (pl:=pl) (Bg (he pins s σ H _ I h) λ u s1 ⟨x,H1,I1,rx,a,C,dx,fs,f,fd,ps,n,F,ex,ea,l,c,hm,hF,hb,q⟩=>?_) ht;subst ex;obtain rfl:u=y9 a:=rx;refine Ma I1 ea c hm l ?_;exact PySem.W.callWith_K0 (first:=[.ref a]) I1.NT hm.kp (Tq (us:=[.ref a]) (vs:=[.ref a]) hF hr hb .nil hx I1 (.cons rfl .nil) q)
theorem Vi {P:Program}{w:World}{K:za}{mg:Str->Option Value}{base:Heap}{CX:UE}{k k':Nat}{f:Addr}{fd:FuncData}{ps:List Str}{sp:Sp}(h:k<=k')(F:Ds P w K mg base CX k f fd ps sp):Ds P w K mg base CX k' f fd ps sp:=
 ⟨F.len,λ A stack s H args us vs Q E hr=>F.run A stack s H args us vs Q E (hr.mono h)⟩
theorem Vj {o:Expr}{fo:Ac->M D}{m:Str}{k n:Nat}{apos:Pos}{pl:Sem Bool}(ms:List (Str×(List D->M OT)))(xo:Gi X E)(o9:∀p∈ms,∃k',k'<=k/\Io X.prog X.w X.K X.mg X.base p.1 m k' n p.2)(hr:BJ k X.A)(ho:DE X (E7 X.K E) true o fo)(ha:DA X (E7 X.K E) true (e::es) fs)(ce:(e::es).length+1=n)
 (aP:starEach (e::es) X.env=(false,eval e X.env)::starEach es X.env:=by rfl) (au:(backTo pos (starEach es X.env)).any (·.1)=false:=by rfl)
 (ht:eval (.Call (.Attribute o m apos) (e::es) [] pos) X.env=(do
  let ov <-eval o X.env
  standAt apos.atName
  let (f,first) <-holding [ov] (getMethod ov m pl)
  callWith pos f first (backTo pos (starEach (e::es) X.env)) (backToKw pos (keywordEach [] X.env))):=by rfl):
 DN X (E7 X.K E) (.Call (.Attribute o m apos) (e::es) [] pos) (λ ρ=>(fo ρ).bind λ d=>(Lh ms m d).bind λ F=>(fs ρ).bind λ ds=>F (d::ds)):=by
 obtain⟨ta,a1,a2⟩:=ho;obtain⟨tb,b1,b2,b3⟩:=ha;refine⟨_,YL (pl:=pl) a1 hr xo.call b1 aP au ht,λ P0 P σ H Q ρ Ev h=>?_⟩;dsimp only at h;refine a2 P0 P σ H _ ρ Ev ?_;cases q:fo ρ with
 |bad|ex x=>rw[q] at h;exact h
 |ok d =>
  rw[q] at h;simp only[M.A7] at h;intro v H1 s1 hv;cases q2:Lh ms m d with
  |bad=>rw[q2] at h;exact h.elim
  |ex y=>exact (P7 q2).elim
  |ok F =>
   rw[q2] at h;simp only[M.A7] at h;obtain⟨x,ns,vZ,rfl,aT,pc⟩:=RZ q2;obtain⟨k',f6,M0⟩:=o9 _ aT;obtain⟨C,fa,fd,ps,h1,h2,h3,h4,h5⟩:=M0.ex;cases hv with
   |ins hn hH hl =>
    rw[hn] at h1;cases h1;refine⟨_,_,_,_,fa,fd,ps,n,F,rfl,(Am hH).2,MV hl pc,h2,h3,Vi f6 h4,h5,?_⟩;refine b2 P0 P σ H1 _ ρ (Ev.same s1) ?_;cases q3:fs ρ with
    |bad=>rw[q3] at h;exact h
    |ex y=>rw[q3] at h;exact λ H' s=>h H' (s1.trans s)
    |ok ds =>
     rw[q3] at h;simp only[M.A7] at h;intro vs H2 s2 aB;have jd:=(BK.ins hn hH hl).mono s2.del;exact⟨by rw[zl,aB.length,b3 ρ ds q3];exact ce,P,_,((Ev.same s1).same s2).BS,.cons jd aB,h.same (s1.trans s2)⟩
theorem S0 {o:Expr}{fo:Ac->M D}{m:Str}{k:Nat}{apos:Pos}{pl:Sem Bool}(ms:List (Str×(List D->M OT)))(xo:Gi X E)(o9:∀p∈ms,∃k',k'<=k/\Io X.prog X.w X.K X.mg X.base p.1 m k' 1 p.2)(hr:BJ k X.A)(ho:DE X (E7 X.K E) true o fo)
 (ht:eval (.Call (.Attribute o m apos) [] [] pos) X.env=(do
  let ov <-eval o X.env
  standAt apos.atName
  let (f,first) <-holding [ov] (getMethod ov m pl)
  callWith pos f first (backTo pos (starEach [] X.env)) (backToKw pos (keywordEach [] X.env))):=by rfl):
 DN X (E7 X.K E) (.Call (.Attribute o m apos) [] [] pos) (λ ρ=>(fo ρ).bind λ d=>(Lh ms m d).bind λ F=>F [d]):=by
 obtain⟨ta,a1,a2⟩:=ho;refine⟨_,Ww (pl:=pl) a1 hr xo.call ht,λ P0 P σ H Q ρ Ev h=>?_⟩;dsimp only at h;refine a2 P0 P σ H _ ρ Ev ?_;cases q:fo ρ with
 |bad|ex x=>rw[q] at h;exact h
 |ok d =>
  rw[q] at h;simp only[M.A7] at h;intro v H1 s1 hv;cases q2:Lh ms m d with
  |bad=>rw[q2] at h;exact h.elim
  |ex y=>exact (P7 q2).elim
  |ok F =>
   rw[q2] at h;simp only[M.A7] at h;obtain⟨x,ns,vZ,rfl,aT,pc⟩:=RZ q2;obtain⟨k',f6,M0⟩:=o9 _ aT;obtain⟨C,fa,fd,ps,h1,h2,h3,h4,h5⟩:=M0.ex;cases hv with
   |ins hn hH hl =>
    rw[hn] at h1;cases h1;refine⟨_,_,_,_,fa,fd,ps,1,F,rfl,(Am hH).2,MV hl pc,h2,h3,Vi f6 h4,h5,?_⟩;exact⟨rfl,P,_,(Ev.same s1).BS,.cons (BK.ins hn hH hl) .nil,h.same s1⟩
end
section
variable {X:Cx}{E:XK}{WX:Str->Hp->Prop}{c:Bool}{P0:Et}{P:Addr->Prop}{H:Hp}{σ:St}{ρ:Ac}{a b e:Expr}{es:List Expr}{f g:Ac->M D}{fs:Ac->M (List D)}{fn:Ac->M OT}{pos:Pos}{te:TE}
structure lV (K:za)(mg:Str->Option Value)(x:Str)(C:Addr):Prop where
 ns:zF K mainGlobals x=some (some (.ref C))
 vA:mg x=some (.ref C)
theorem P8 {p dx C:Addr}(hp:H p=none)(hd:H dx=none):Ad H (upd (upd H dx (.own p)) p (.ins C dx [])):=λ b u q=>by
 rw[Ah (Av q hp),Ah (Av q hd)];exact q
structure qS (P:Program)(w:World)(K:za)(mg:Str->Option Value)(base:Heap)(x:Str)(k n:Nat)(F:OT->List D->M (OT×OT)):Prop where
 ex:∃C fa fd ps,lV K mg x C/\Mk K C fa/\Ds P w K mg base (Wa P w base) k fa fd ps (OX K n F)/\Binds K fd ps []
noncomputable def MW (m:M (OT×OT)):M OT:=match m with
 | .ok (t,.sh .AA)=>.ok t
 |_=>.bad
theorem Vk {x:Str}{k n:Nat}{F:OT->List D->M (OT×OT)}{p:Pos}(xo:Gi X E)(G:qS X.prog X.w X.K X.mg X.base x k n F)(hr:BJ (k+1) X.A)(hg:Gl X x)(ha:DA X (E7 X.K E) true (e::es) fs)(ce:(e::es).length+1=n)
 (aV:(x==("__debug__" : Str))=false:=by decide) (he:starEach (e::es) X.env=(false,eval e X.env)::starEach es X.env:=by rfl) (au:(backTo pos (starEach es X.env)).any (·.1)=false:=by rfl):
 DN X (E7 X.K E) (.Call (.Name x p) (e::es) [] pos) (λ ρ=>(fs ρ).bind λ ds=>MW (F (.ins x [] []) ds)):=by
 obtain⟨C,fa,fd,ps,hT,hM,hF,hb⟩:=G.ex;obtain⟨ta,a1,a2,a3⟩:=ha;refine⟨_,UH hM hF hr hg hT.vA hb .nil xo.call a1 aV he au,λ P0 P σ H Q ρ Ev h=>?_⟩;dsimp only at h;refine a2 P0 P σ H _ ρ Ev ?_;cases q:fs ρ with
 |bad|ex x=>rw[q] at h;exact h
 |ok ds =>
  rw[q] at h;simp only[M.A7] at h;intro vs H1 s1 aB y dx hy hd ae;rw[zR];have E1:=Ev.same s1;have sm:=P8 (C:=C) hy hd;have bE:∀a∈[y],H1 a=none:=λ a ha=>by rw[zh.mp ha];exact hy
  refine⟨by rw[zl,aB.length,a3 ρ ds q];exact ce,PU P [y],y,.ins x [] [],[y],vs,ds,rfl,λ a ha=>?_,λ a ha=>.inr ha,by simp,C4.ins (fs:=[]) hT.ns Ao .nil,aB.mono (Bz sm bE),?_⟩
  ·rcases ha with ha|ha
   ·exact (E1.BS a ha).same sm
   ·rw[zh.mp ha];exact⟨_,Ao,λ xs=>⟨(λ z=>by cases z),(λ z w=>by cases w)⟩⟩
  ·cases q2:F (.ins x [] []) ds with
   |bad|ex z=>rw[q2] at h;exact h
   |ok tr =>
    obtain⟨t,r⟩:=tr;rw[q2] at h;simp only[MW] at h;intro v H' P' ai fr k1 k2 k3 k4 k5 k6 k7 k8 k9 oj;cases r with
    |sh d =>
     cases d with
     |AA =>
      cases k6 with
      |sh hv =>
       cases hv;refine⟨rfl,h _ ai H' ?_ ?_ k5 ?_⟩
       ·intro b u eb;have e1:=s1 b u eb;have bH:b≠y:=λ z=>by rw[z,hy] at e1;cases e1
        have e2:=sm b u e1;by_cases hP:P b
        ·exact (k1 b (.inl hP) (by simp[bH])).2.trans e2
        ·exact (Am (k3 b u (by rw[Aw λ z=>z.elim hP λ w=>bH (zh.mp w)];exact e2))).2
       ·intro b je;cases eb:H b with
        |none=>rfl
        |some u =>
         exfalso;have e1:=s1 b u eb;have bH:b≠y:=λ z=>by rw[z,hy] at e1;cases e1
         have e2:=sm b u e1;have hn:=λ z=>bH (zh.mp ((k9 b je).2 z));exact (Am (k3 b u (by rw[Aw hn];exact e2))).1 (k9 b je).1
       ·refine k4.move (λ b u eb=>?_) λ _ _=>rfl;obtain⟨g1,g2⟩:=Am eb;rw[Aw]
        ·exact g2
        ·rintro (z|z)
         ·have bH:b≠y:=λ w=>by
           obtain⟨o,e1,_⟩:=E1.BS b z;rw[w,hy] at e1;cases e1
          exact g1 (k1 b (.inl z) (by simp[bH])).1
         ·exact g1 (k9 b z).1
     |_=>exact h.elim
    |_=>exact h.elim
end
noncomputable def P9 (i:Nat)(ρ:Ac)(π:List Nat):M (Str×List Str×List D):=match R5 i ρ π with
 |some (.ins x ns ts)=>(match Dx ts with|some vs=>.ok (x,ns,vs)|none=>.bad)
 |_=>.bad
theorem YM {i:Nat}{ρ:Ac}{π:List Nat}{x:Str}(h:P9 i ρ π=.ex x):False:=by
 unfold P9 at h;split at h
 ·split at h<;>cases h
 ·cases h
noncomputable def YN (f:Str):List Str->List Str
 |[]=>[f]
 |g::r=>if g=f then g::r else g::YN f r
noncomputable def YO (f:Str)(d:D):List Str->List D->List D
 |[],_=>[d]
 |g::r,e::t=>if g=f then d::t else e::YO f d r t
 |_::_,[]=>[]
theorem S1 (f:Str)(v:V):∀fs:List (Str×V),(DV f v fs).map zQ=YN f (fs.map zQ)
 |[]=>rfl
 |(g,x)::r=>by
  rw[zf,YN,DV];split
  ·rfl
  ·rw[zf,S1 f v r]
theorem S2 {K:za}{H:Hp}{f:Str}{v:V}{d:D}(hv:BK K H v d):∀ {fs:List (Str×V)}{ds:List D},Ai K H (fs.map yT) ds->Ai K H ((DV f v fs).map yT) (YO f d (fs.map zQ) ds)
 |[],_,.nil=>.cons hv .nil
 |(g,x)::r,_,.cons hx ht=>by
  rw[zf,YO,DV];split
  ·exact .cons hv ht
  ·exact .cons hx (S2 hv ht)
section
variable {X:Cx}{E:XK}{WX:Str->Hp->Prop}{c:Bool}{P0:Et}{P:Addr->Prop}{H:Hp}{σ:St}{ρ:Ac}{a b e:Expr}{f g:Ac->M D}{fn:Ac->M OT}{fp:Ac->M (List Nat)}{pos:Pos}{i:Nat}{es:List Expr}{fs:Ac->M (List D)}
theorem Bd.ins {K:za}{π:List Nat}{v:V}{t1:OT}{x:Str}{ns:List Str}{vs:List D}(pl:Bd K P H σ ρ i π v t1)(E:Ak K P0 P H σ ρ)(h:P9 i ρ π=.ok (x,ns,vs)):
 t1=.ins x ns (vs.map .sh)/\∃l C dx fs,v=.ref l/\Ai K (del H P) (fs.map yT) vs/\C4 K H P (.ref l) (.ins x ns (vs.map .sh)) [l]/\zF K mainGlobals x=some (some (.ref C))/\H l=some (.ins C dx fs)/\ns=fs.map zQ:=by
 unfold P9 at h;rw[pl.at] at h;split at h
 ·rename_i x' cz oh e;split at h
  ·rename_i aZ e';cases e;cases h;have z:=Cs e';subst z;obtain⟨ay,o1,hp,nd⟩:=pl.own E;generalize ht:OT.ins x ns (vs.map .sh)=t at o1;cases o1 with
   |ins hn hh hr =>
    injection ht with h1 h2 h3
    subst h1 h2 h3;obtain⟨rfl,hs⟩:=hr.lL;exact⟨rfl,_,_,_,_,rfl,hs,.ins hn hh hr,hn,hh,rfl⟩
   |_=>cases ht
  ·cases h
 ·cases h
theorem LW (cs:List Str){fl:Str}(o8:∀x∈cs,HC X.K x fl)(ha:DP X WX a i fp)(hv:DE X WX true e f){pos':Pos}(hs:swapsWith e (some (.Attribute a fl pos')) pos.line X.env=pure false:=by rfl):
 DS X WX (.Assign [.Attribute a fl pos'] e pos) (λ ρ=>(f ρ).bind λ v=>(fp ρ).bind λ π=>(P9 i ρ π).bind λ z=>if z.1∈cs/\z.2.1.length<1000 then EJ i ρ π (.ins z.1 (YN fl z.2.1) ((YO fl v z.2.1 z.2.2).map .sh)) else .bad):=by
 obtain⟨ta,a1,a2⟩:=ha;obtain⟨tv,v1,v2⟩:=hv;refine⟨_,kH a1 v1 hs,λ P0 P σ H Z ρ E h=>?_⟩;dsimp only at h;refine v2 P0 P σ H _ ρ E ?_;cases q0:f ρ with
 |bad=>rw[q0] at h;exact h
 |ex x=>rw[q0] at h;exact λ H' s=>h H' P (E.tr s)
 |ok d =>
  rw[q0] at h;simp only[M.A7] at h;intro w H0 s0 hw;have E0:=E.same s0;refine a2 P0 P σ H0 _ ρ E0 ?_;cases q:fp ρ with
  |bad=>rw[q] at h;exact h
  |ex x=>rw[q] at h;exact λ H' s=>h H' P ((E.tr s0).trans (E0.tr s))
  |ok π =>
   rw[q] at h;simp only[M.A7] at h;intro v t1 H1 s1 pl;have E1:=E0.same s1;have wa:=(E.tr s0).trans (E0.tr s1);cases q3:P9 i ρ π with
   |bad=>rw[q3] at h;exact h.elim
   |ex x=>exact (YM q3).elim
   |ok z =>
    obtain⟨x,ns,vs⟩:=z;rw[q3] at h;simp only[M.A7] at h;by_cases hc:x∈cs/\ns.length<1000
    ·rw[if_pos hc] at h;obtain⟨rfl,l,C,dx,fs,rfl,cn,ot,hn,hH,rfl⟩:=pl.ins E1 q3;obtain⟨C',b9,bB,d0⟩:=(o8 x hc.1).ex;rw[hn] at b9;cases b9;have wb:=hw.mono s1.del;obtain⟨c,p,t0,g1,g2,E3,t3⟩:=E1.lR (o':=.ins C dx (DV fl w fs)) (u:=.ins x (YN fl (fs.map zQ)) ((YO fl d (fs.map zQ) vs).map .sh)) pl ot (λ _=>⟨λ z=>(by cases z),λ _ z=>by cases z⟩) (λ mv=>by
      have:=C4.ins (K:=X.K) (H:=upd H1 l (.ins C dx (DV fl w fs))) (P:=P) (p:=l) (fs:=DV fl w fs) (x:=x) hn Ao (((S2 wb cn).mono mv).ows);rw[S1] at this;exact this)
     rw[Fq g1 g2] at h;exact⟨l,C,dx,fs,rfl,hH,bB,d0,by have:=hc.2;rw[zc] at this;exact this,h _ _ _ (wa.trans t3) E3⟩
    ·rw[if_neg hc] at h;exact h.elim
end
theorem C3 {K:za}{f:Str}:∀y∈([]:List Str),HC K y f:=λ y h=>by cases h
theorem Br {K:za}{f x:Str}{xs:List Str}(h:HC K x f)(t:∀y∈xs,HC K y f):∀y∈x::xs,HC K y f:=λ y hy=>by
 rcases zp.mp hy with rfl|hy
 ·exact h
 ·exact t y hy
theorem LX {P:Program}{w:World}{K:za}{mg:Str->Option Value}{base:Heap}{m:Str}{k n:Nat}:∀p∈([]:List (Str×(List D->M OT))),∃k',k'<=k/\Io P w K mg base p.1 m k' n p.2:=λ p h=>by cases h
theorem Jw {P:Program}{w:World}{K:za}{mg:Str->Option Value}{base:Heap}{m x:Str}{k k' n:Nat}{F:List D->M OT}{ms:List (Str×(List D->M OT))}(hk:k'<=k)(h:Io P w K mg base x m k' n F)(t:∀p∈ms,∃k',k'<=k/\Io P w K mg base p.1 m k' n p.2):
 ∀p∈(x,F)::ms,∃k',k'<=k/\Io P w K mg base p.1 m k' n p.2:=λ p hp=>by
 rcases zp.mp hp with rfl|hp
 ·exact⟨k',hk,h⟩
 ·exact t p hp
end L2
set_option maxRecDepth 1000000
set_option maxHeartbeats 0
namespace L2
open PySem
theorem Pa:entryFor table "dict.update.loop" = some Builtin.«dict.update.loop»:=by unfold entryFor;rfl
open PySem PySem.Spec PySem.Calls PyProof.Rows PySem.W PySem.Builtin PySem.Builtin.ObjectAttr
section
variable {prog:Program}{w:World}{A:Around}{E:Value->Shared->Prop}{s:Shared}
theorem call_meets {T id:String}{nm:Str}{B:Builtin}{self:Value}{rest:List Value}{Sp:PySem.Spec}{Q:Value->Shared->Prop}(SL:Slot T nm id)(hB:entryFor table id=some B)(ht:s.TypeIs self T)(ha:argsOk id ⟨self::rest,[]⟩)(m:Meets (B ⟨self::rest,[]⟩) Sp)
 (h:Sp A (λ r s'=>match r with | .ok (.ret v)=>Q v s' | .ok _=>False | .error e=>E e s') s):wpAny (model prog w) A (call (.builtin id) (self::rest)) Q E s:=
 wpAny_call (codeAny_call_builtin SL.plain hB (SL.check _ _ _ _ _ _ _ _ ht ha (m prog w A _ s h)))
theorem S3 {l:Addr}{xs:Array Value}{k:Nat}{sl:Array (Option Value)}{Q:Option Value->Shared->Prop}(hh:A.handled=none)(hl:s.heap.get? l=some {cls:=.type "list",data:=.seq xs k,slots:=sl})
 (h:∀h' tk,(∀b o,s.heap.get? b=some o->h'.get? b=some o)->Q none {s with heap:=h',toks:=tk}):wpAny (model prog w) A (getAttr? (.ref l) "keys") Q E s:=by
 have miss:typeLookup (.type "list") "keys" = pure none:=am_miss_of_fast (by decide +kernel);have T0:∀hp:Heap,hp.get? l=some {cls:=.type "list",data:=.seq xs k,slots:=sl}->Looks (model prog w) hp (typeOf (.ref l)) (.type "list"):=λ hp e=>(Looks.ld e).andThen .now;have SL:=PySem.F.slot_list_getattribute;have ar:(onTheHeap (Value.type "list")&&Value.builtin "list.__getattribute__" == Value.builtin "object.__getattribute__")=false:=rfl;have pd:(false&&onTheHeap (Value.builtin "list.__getattribute__"))=false:=rfl;unfold getAttr? getAttrBy?;refine wpAny_bind (wpAny_mkText (wpAny_bind (wpAny_attempt ?_)));unfold getAttrBy;refine wpAny_holding (wpAny_bind ((T0 _ hl).at (wpAny_bind ?_)));rw[SL.lookup];refine wpAny_pure ?_;dsimp only;rw[ar,if_neg z9];unfold getAttrByItsOwn hookBefore;rw[if_neg (show ¬ onTheHeap (Value.type "list")=true from z9)];refine wpAny_bind (wpAny_pure (wpAny_bind (wpAny_attempt (wpAny_holding ?_))));unfold callGetattribute;rw[pd,if_neg z9];unfold boundAndCalled;rw[SL.bind];refine wpAny_bind (wpAny_pure ?_);dsimp only;refine call_meets SL am_entry_list_getattribute ⟨_,hl,rfl⟩ (PySem.F.args_list_getattribute_2 _ _) (meets_getattribute_miss_list l xs k sl "keys" s.toks miss rfl (by decide)) ⟨hl,hh,λ h' tk e ne=>?_⟩;dsimp only;obtain⟨kp,nw,t,u,he⟩:=ne;have T1:Looks (model prog w) h' (typeOf (.ref e)) (.type "AttributeError"):=(Looks.ld he).andThen .now;unfold getattributeRaised isInstance;refine wpAny_bind (wpAny_bind (T1.at ?_));rw[sub_AttributeError];refine wpAny_pure ?_;rw[if_pos rfl];unfold hookBehind;rw[if_neg (show ¬ onTheHeap (Value.type "list")=true from z9),am_list_getattr_none];refine wpAny_bind (wpAny_pure ?_);unfold hookOrError attributeErrorLeaves;dsimp only;rw[if_pos (show (!false)=true from rfl)];refine wpAny_bind (wpAny_throw ?_);refine wpAny_bind (wpAny_bind (T1.at ?_));rw[sub_AttributeError];refine wpAny_pure ?_;rw[if_pos rfl];exact wpAny_pure (h h' tk kp)
theorem Wx {t:Addr}{aa:Array Value}{Q:List Value->Shared->Prop}(ht:IsTup s.heap t aa)(h:Q aa.toList s):wpAny (model prog w) A (Dict.pairItems (.ref t)) Q E s:=by
 obtain⟨o,h1,h2,n,h3⟩:=ht;have T0:Looks (model prog w) s.heap (typeOf (.ref t)) (.type "tuple"):=h2▸(Looks.ld h1).andThen .now;unfold Dict.pairItems;refine wpAny_bind (T0.at ?_);have hx:(Value.type "tuple" == Value.type "list" || Value.type "tuple" == Value.type "tuple")=true:=by decide
 rw[if_pos hx];exact wpAny_bind (wpAny_seqItems h1 h3 (wpAny_pure h))
theorem Hr:plainId "dict.update.loop" = true:=by decide +kernel
theorem MX {K:Type}[DecidableEq K]{knd:KeyKind prog w K}{h h':Heap}{d I l:Addr}{i:Nat}{xs:List (List K×Addr×Value)}(hd:h.DictOfH (tupleKind knd) d xs)(hit:h.IsListIter I l i)(sb:∀b o,b≠I->h.get? b=some o->h'.get? b=some o):
 h'.DictOfH (tupleKind knd) d xs:=by
 obtain⟨o,es,ep,h1,h2,h3,h4,h5,h6⟩:=hd;obtain⟨oi,i1,i2,i3⟩:=hit;refine⟨o,es,ep,sb d o (λ z=>?_) h1,h2,h3,h4,λ x hx=>?_,h6⟩
 ·subst z;rw[i1] at h1;cases h1;rw[i3] at h3;cases h3
 ·obtain⟨ok,aa,n,k1,k2,k3,k4⟩:=h5 x hx;refine⟨ok,aa,n,sb _ _ (λ z=>?_) k1,k2,k3,k4⟩;rw[z,i1] at k1;cases k1;rw[i3] at k3;cases k3
theorem U4 {K:Type}[DecidableEq K]{knd:KeyKind prog w K}{R:Result->Shared->Prop}{d I l:Addr}{items:Array Value}{h0:Heap}(ps:List (List K×Addr×Value))(hh:A.handled=none)(cp:A.in1.units<cLine)(g7:l≠I)(wc:d≠I)(lf:l≠d)
 (tu:ps.length=items.size) (hsz:items.size+1<=sizeLine) (hl:h0.IsList l items)
 (hp:∀(j:Nat) p,ps[j]?=some p->(p.2.1≠d/\p.2.1≠I/\(tupleKind knd).is h0 p.1 p.2.1)/\∃t,items[j]?=some (.ref t)/\t≠d/\t≠I/\IsTup h0 t #[.ref p.2.1,p.2.2]):
 ∀(m i:Nat) (xs:List (List K×Addr×Value)) (s:Shared),items.size-i=m->i<=items.size->xs.length<=i->s.heap.IsListIter I l i->s.heap.DictOfH (tupleKind knd) d xs->(∀b o,b≠d->b≠I->h0.get? b=some o->s.heap.get? b=some o)->
  (∀h' tk,h'.DictOfH (tupleKind knd) d ((ps.drop i).foldl (λ acc p=>storedH acc p.1 p.2.1 p.2.2) xs)->(∀b o,b≠d->b≠I->h0.get? b=some o->h'.get? b=some o)->R (.ok (.ret .none)) {s with heap:=h',toks:=tk})->
  codeAny (model prog w) A (.builtin "dict.update.loop" ⟨[.ref d,.ref I,rawInt i,.none],[]⟩) R s:=by
 intro m;induction m with
 |zero =>
  intro i xs s hm hi we hit hd hf h;have bt:i=items.size:=by omega
  refine codeAny_builtin Pa ?_;rw[za9 Hr _];show wpAny _ A.in1 (pyNext (.ref I) >>= _) _ _ s;refine wpAny_bind (wpAny_pyNext_list_end (A:=A.in1) hh hit (hl.at λ o e=>hf l o lf g7 e) (by simp[bt]) λ h' eb=>?_);have hd2:=MX hd hit λ b o hb e=>eb b o hb e;show wpAny _ A.in1 (Dict.addKeywords d [] >>= _) _ _ _;unfold Dict.addKeywords;refine wpAny_bind (wpAny_bind ?_);refine wpAny_pure (wpAny_pure (wpAny_pure ?_));have ed:ps.drop i=[]:=by rw[List.drop_eq_nil_iff];omega
  rw[ed] at h;exact h h' s.toks hd2 λ b o h1 h2 e=>eb b o h2 (hf b o h1 h2 e)
 |succ m ih =>
  intro i xs s hm hi we hit hd hf h;have ah:i<items.size:=by omega
  obtain⟨p,pe⟩:∃p,ps[i]?=some p:=⟨ps[i]'(by omega),zi _⟩;obtain⟨⟨p1,p2,p3⟩,t,ht,t1,t2,t3⟩:=hp i p pe;refine codeAny_builtin Pa ?_;rw[za9 Hr _];show wpAny _ A.in1 (pyNext (.ref I) >>= _) _ _ s;refine wpAny_bind (wpAny_pyNext_list_item (A:=A.in1) hit (hl.at λ o e=>hf l o lf g7 e) ht λ h' aX sb=>?_);have hd2:h'.DictOfH (tupleKind knd) d xs:=MX hd hit λ b o hb e=>(sb.2 b hb).trans e;have pf:∀b o,b≠d->b≠I->h0.get? b=some o->h'.get? b=some o:=λ b o h1 h2 e=>(sb.2 b h2).trans (hf b o h1 h2 e);have t4:IsTup h' t #[.ref p.2.1,p.2.2]:=by
   obtain⟨o,e1,e2⟩:=t3;exact⟨o,pf t o t1 t2 e1,e2⟩
  have p4:(tupleKind knd).is h' p.1 p.2.1:=by
   obtain⟨o,aa,n,e1,e2⟩:=p3;exact⟨o,aa,n,pf _ o p1 p2 e1,e2⟩
  dsimp only;refine wpAny_bind (wpAny_holding (wpAny_bind (wpAny_tryCatch (Wx t4 ?_))));show wpAny _ A.in1 (holding [.ref p.2.1,p.2.2] (dictSet d (.ref p.2.1) p.2.2)) _ _ _;refine wpAny_holding (wpAny_dictSet_heap (knd:=tupleKind knd) (hsz:=by omega) cp p4 hd2 λ h3 ph tw=>?_);refine wpAny_pure ⟨plainId_quiet Hr _,?_⟩;have pi:h3.IsListIter I l (i+1):=by
   obtain⟨o,e1,e2⟩:=aX;exact⟨o,(tw.2 I (zX wc)).trans e1,e2⟩
  have ed:ps.drop i=p::ps.drop (i+1):=by
   rw[zaw (by omega:i<ps.length)];rw[zi (by omega:i<ps.length)] at pe;rw[zD pe]
  rw[ed,zM] at h;have o7:(storedH xs p.1 p.2.1 p.2.2).length<=i+1:=by
   unfold storedH;split
   ·rw[zc];omega
   ·rw[zC,yJ];omega
  have q:=ih (i+1) (storedH xs p.1 p.2.1 p.2.2) {s with heap:=h3,toks:=s.toks+(tupleKind knd).draws p.1} (by omega) (by omega) o7 pi ph (λ b o h1 h2 e=>(tw.2 b h1).trans (pf b o h1 h2 e)) h;exact q
theorem Li {K:Type}[DecidableEq K]{knd:KeyKind prog w K}{Q:Value->Shared->Prop}{l:Addr}{items:Array Value}{n:Nat}{sl:Array (Option Value)}(ps:List (List K×Addr×Value))(hh:A.handled=none)(cp:A.units+2<cLine)
 (tu:ps.length=items.size) (hsz:items.size+1<=sizeLine) (hl:s.heap.get? l=some {cls:=.type "list",data:=.seq items n,slots:=sl})
 (hp:∀(j:Nat) p,ps[j]?=some p->(tupleKind knd).is s.heap p.1 p.2.1/\∃t,items[j]?=some (.ref t)/\IsTup s.heap t #[.ref p.2.1,p.2.2])
 (h:∀h' tk,h'.DictOfH (tupleKind knd) s.heap.objs.size (ps.foldl (λ acc p=>storedH acc p.1 p.2.1 p.2.2) [])->(∀b o,s.heap.get? b=some o->h'.get? b=some o)->Q (.ref s.heap.objs.size) {s with heap:=h',toks:=tk}):
 wpAny (model prog w) A (call (.type "dict") [.ref l]) Q E s:=by
 refine callType_codes (Q₁:=λ obj s₁=>obj=.ref s.heap.objs.size/\s₁={s with heap:=s.heap.push {cls:=.type "dict",data:=.dict #[]} }) PySem.F.kt_called_dict (PySem.F.kt_typeCall_dict_1 _) PySem.F.entry_dict_init
  (kt_code_dict_new _ ⟨rfl,rfl⟩) λ obj s₁ h₁=>?_
 obtain⟨rfl,rfl⟩:=h₁;have hS:(s.heap.push {cls:=.type "dict",data:=.dict #[]}).get? s.heap.objs.size=some {cls:=.type "dict",data:=.dict #[]}:=zE _ rfl;have ll:l<s.heap.objs.size:=zr hl;have gi:(s.heap.push {cls:=.type "dict",data:=.dict #[]}).get? l=some {cls:=.type "list",data:=.seq items n,slots:=sl}:=zq _ hl;refine⟨⟨_,hS,rfl⟩,PySem.F.args_dict_init_2 _ _,?_⟩;have TD:Looks (model prog w) (s.heap.push {cls:=.type "dict",data:=.dict #[]}) (typeOf (.ref s.heap.objs.size)) (.type "dict"):=(Looks.ld hS).andThen .now;have TL:Looks (model prog w) (s.heap.push {cls:=.type "dict",data:=.dict #[]}) (typeOf (.ref l)) (.type "list"):=(Looks.ld gi).andThen .now;unfold Builtin.«dict.__init__» Dict.selfAndRest Dict.notOrdered;dsimp only;rw[if_pos (by decide)];refine wpAny_bind (wpAny_bind (wpAny_bind (TD.at ?_)));rw[if_neg (by decide)];refine wpAny_pure ?_;unfold Dict.addrOf;refine wpAny_bind (wpAny_pure (wpAny_pure ?_));unfold Dict.updateCommon Dict.updateFrom;dsimp only;refine wpAny_bind (TL.at ?_);rw[if_pos (by decide)];refine wpAny_bind (S3 (A:=A.in1.in1) hh gi λ h2 yo pk=>?_);rw[if_pos (show (none:Option Value).isNone=true from rfl)];refine wpAny_bind (wpAny_rule ?_);have a6:h2.IsList l items:=⟨_,pk _ _ gi,rfl,n,rfl⟩;have tz:=pk _ _ hS;refine wpAny_bind (wpAny_pyIter_list a6 ?_);refine wpAny_pure ⟨plainId_quiet Hr _,?_⟩;have lz:s.heap.objs.size<h2.objs.size:=zr tz;have wg:∀b o,s.heap.get? b=some o->(h2.push {cls:=.type "list_iterator",data:=.fields #[.ref l,.int 0 0]}).get? b=some o:=λ b o e=>zq _ (pk _ _ (zq _ e));have ph:(h2.push {cls:=.type "list_iterator",data:=.fields #[.ref l,.int 0 0]}).DictOfH (tupleKind knd) s.heap.objs.size []:=
  ⟨_,#[],0,zq _ tz,⟨rfl,rfl,rfl⟩,rfl,rfl,λ x hx=>absurd hx List.not_mem_nil,yM⟩
 have ah:∀b o,s.heap.get? b=some o->b≠s.heap.objs.size/\b≠h2.objs.size:=λ b o e=>by
  have:=zr e;exact⟨zB this,zB (Nat.lt_trans this lz)⟩
 refine U4 (A:=A.in1) (knd:=knd) (l:=l) (h0:=s.heap) ps hh cp (zB (Nat.lt_trans ll lz)) (zB lz) (zB ll) tu hsz ⟨_,hl,rfl,n,rfl⟩ (λ j p hj=>?_) items.size 0 [] _ (by omega) (by omega) (by simp) ⟨_,zE _ rfl,rfl,rfl⟩ ph (λ b o h1 g8 e=>wg b o e) λ h' tk bw wj=>?_
 ·obtain⟨q1,t,q2,q3⟩:=hp j p hj;obtain⟨o1,_,_,e1,_⟩:=id q1;obtain⟨o2,e2,_⟩:=id q3;exact⟨⟨(ah _ _ e1).1,(ah _ _ e1).2,q1⟩,t,q2,(ah _ _ e2).1,(ah _ _ e2).2,q3⟩
 ·exact⟨rfl,h h' tk bw λ b o e=>wj b o (ah _ _ e).1 (ah _ _ e).2 e⟩
end
structure Wy where
 (t:Addr) (κ:List Key) (b:Addr) (v:V)
def fO (H:Hp)(p:Wy):Prop:=H p.t=some (.tup [.ref p.b,p.v])/\H p.b=some (.tup (p.κ.map kV))
noncomputable def rY (ps:List Wy):List (List Key×V):=ps.foldl (λ acc p=>putK acc p.κ p.v) []
noncomputable def wA (X:Cx)(te:TE):TE:=λ σ H Q=>te σ H λ x H1=>∃(l:Addr) (ps:List Wy),x=.ref l/\CJ X.K H1 l (ps.map λ p=>V.ref p.t)/\(∀p∈ps,fO H1 p)/\ps.length<=1000/\∀r,H1 r=none->Q (.ref r) (upd H1 r (.dT (rY ps)))
theorem S4:∀ {ps:List Wy}{us:List Value},Vals (ps.map λ p=>V.ref p.t) us->us=ps.map λ p=>y9 p.t
 |[],_,.nil=>rfl
 |p::ps,_,.cons h t=>by
  cases h;rw[zf,<-S4 t]
theorem iQ {H:Hp}:∀ {ps:List Wy}{qs:List (List Key×Addr×Value)}{kvs:List (List Key×V)}{xs:List (List Key×Addr×Value)},(∀p∈ps,fO H p)->Paired (λ(p:Wy) (q:List Key×Addr×Value)=>p.κ=q.1/\p.b=q.2.1/\RelV p.v q.2.2) ps qs->KT H kvs xs->KT H (ps.foldl (λ acc p=>putK acc p.κ p.v) kvs) (qs.foldl (λ acc p=>storedH acc p.1 p.2.1 p.2.2) xs)
 |[],_,_,_,_,.nil,h=>h
 |p::ps,_,_,_,ho,.cons (b:=q) hq t,h=>by
  obtain⟨q1,q2,q3⟩:=q;obtain⟨e1,e2,e3⟩:=hq;dsimp only at e1 e2 e3;subst e1 e2;have r:=iQ (ps:=ps) (λ p' hp=>ho p' (ze _ hp)) t (h.put p.κ (ho p zd).2 e3);exact r
theorem YQ:∀(ps:List Wy) (kvs:List (List Key×V)),(ps.foldl (λ acc p=>putK acc p.κ p.v) kvs).length<=kvs.length+ps.length
 |[],kvs=>zx _
 |p::ps,kvs=>by
  have h1:=YQ ps (putK kvs p.κ p.v);have h2:=Ey kvs p.κ p.v;rw[zM,zl];omega
theorem Vl {h:Heap}{H:Hp}{P:Program}{w:World}(ok:FR P w H h):∀ {ps:List Wy},(∀p∈ps,fO H p)->∃qs:List (List Key×Addr×Value),Paired (λ(p:Wy) (q:List Key×Addr×Value)=>p.κ=q.1/\p.b=q.2.1/\RelV p.v q.2.2) ps qs/\
 ∀(j:Nat) q,qs[j]?=some q->(tupleKind (B9 P w)).is h q.1 q.2.1/\∃t,(ps.map λ p=>y9 p.t)[j]?=some (.ref t)/\IsTup h t #[.ref q.2.1,q.2.2]
 |[],_=>⟨[],.nil,λ j q e=>by simp at e⟩
 |p::ps,ho=>by
  obtain⟨qs,h1,h2⟩:=Vl ok λ p hp=>ho p (ze _ hp);obtain⟨o1,o2⟩:=ho p zd;obtain⟨_,aa,r,it⟩:=(show BU P w H h p.t (.tup [.ref p.b,p.v]) from ok p.t _ o1);obtain⟨u,v,rfl,ru,rv⟩:=r.two;cases ru;refine⟨(p.κ,p.b,v)::qs,.cons ⟨rfl,rfl,rv⟩ h1,λ j q e=>?_⟩;cases j with
  |zero =>
   rw[zW] at e;cases e;exact⟨HW ok o2,p.t,by simp,it⟩
  |succ j =>
   rw[zI] at e;obtain⟨a1,t,a2,a3⟩:=h2 j q e;exact⟨a1,t,by simpa using a2,a3⟩
section
variable {X:Cx}{WX:Str->Hp->Prop}{c:Bool}{P0:Et}{P:Addr->Prop}{H:Hp}{σ:St}{ρ:Ac}{a b e:Expr}{f g:Ac->M D}{fn:Ac->M OT}{pos:Pos}{te:TE}
theorem YR {p:Pos}{n:Nat}(hc:X.calm=true)(hu:X.A.units+n<cLine)(hg:Gl X "dict")(hm:X.mg "dict" = none)(he:PE X e te)
 (hv:bootBuiltins "dict" = some (.type "dict"):=by decide +kernel)
 (hs:starEach [e] X.env=[(false,eval e X.env)]:=by rfl) (hn:2<=n:=by decide):
 PE X (.Call (.Name "dict" p) [e] [] pos) (wA X te):=by
 intro pins s σ H Q I h;refine wpAny_Call_Name_kw (Dr I hg hm hv ?_);refine zY ?_ hs;rw[hs];refine zal (Bg (he pins s σ H _ I h) λ u s1 ⟨x,H1,I1,r1,q1⟩=>?_);obtain⟨l,ps,rfl,hq,ho,hlen,q⟩:=q1;cases r1;refine zas ?_;obtain⟨aa,r',pl,hz⟩:=I1.list hq;have hits:=S4 r';subst hits;obtain⟨⟨wk,t5,t6,pq⟩,n0,o1,o2,o3,o4⟩:=pl;dsimp only at o2 o3 o4;subst o2 o3 o4;obtain⟨qs,h1,h2⟩:=Vl I1.As ho;refine Li (knd:=B9 X.prog X.w) qs (I1.ok.hd hc) (by omega) (by rw[zj,zc,<-h1.length]) (AE (by rw[zj,zc];omega)) o1 (λ j p hj=>?_) λ h' tk hd kp=>?_
 ·obtain⟨a1,t,a2,a3⟩:=h2 j p hj;exact⟨a1,t,by rw[List.getElem?_toArray];exact a2,a3⟩
 ·have wl:=iQ ho h1 (show KT H1 [] [] from .nil);have bG:s1.heap.objs.size<=s1.heap.objs.size:=zx _;have d6:=I1.As.fresh bG;have wm:=YQ ps [];obtain⟨o,es,ep,g1,g2,g3,g4,g5,g6⟩:=hd;refine⟨.ref _,_,I1.laid (t':=tk) (o:=.dT (rY ps)) kp bG ⟨yH (AE (by unfold rY;simp at wm;omega)),beq_eq_false_iff_ne.mpr (zX (zB I1.big)),_,wl.keeps (λ b ys eb=>by rw[Ah (λ z=>by rw[z,d6] at eb;cases eb)];exact eb),o,es,ep,g1,g2,g3,g4,g6⟩,rfl,q _ d6⟩
noncomputable def Wz:List D->Option (List (D×D))
 |[]=>some []
 | .tup [k,v]::r=>(Wz r).map ((k,v)::·)
 |_=>none
noncomputable def rZ (l:List (D×D)):List D×List D:=l.foldl (λ z kv=>putD z.1 z.2 kv.1 kv.2) ([],[])
noncomputable def fP (d:D):M OT:=match d with
 | .lst xs=>(match Wz xs with|some l=>if l.length<=1000/\(l.all λ kv=>keyOk true kv.1)=true then .ok (.Bl true (rZ l).1 ((rZ l).2.map .sh)) else .bad|none=>.bad)
 |_=>.bad
theorem Vm {K:za}{H:Hp}{P:Addr->Prop}:∀ {xs:List V}{ds:List D}{l:List (D×D)},Ai K (del H P) xs ds->Wz ds=some l->(l.all λ kv=>keyOk true kv.1)=true->
 ∃ps:List Wy,xs=ps.map (λ p=>V.ref p.t)/\(∀p∈ps,fO H p)/\Paired (λ(p:Wy) (kv:D×D)=>kv.1=.tup (p.κ.map Dk)/\BK K (del H P) p.v kv.2) ps l
 |_,[],l,.nil,e,_=>by cases e;exact⟨[],rfl,λ p hp=>(by cases hp),.nil⟩
 |_,d::ds,l,.cons hd ht,e,hk=>by
  unfold Wz at e;split at e
  ·rename_i bD;cases bD
  ·rename_i k v r bD;cases bD;obtain⟨l',e1,e2⟩:=Option.map_eq_some_iff.mp e;subst e2;rw[List.all_cons,zP] at hk;obtain⟨ps,q1,q2,q3⟩:=Vm ht e1 hk.2;have hK:=F1 hk.1;cases hK with
   |t κ =>
    cases hd with
    |tup h1 h2 =>
     obtain⟨x,y,rfl,hx,hy⟩:=h2.two;cases hx with
     |tup g1 g2 =>
      rename_i tt bb dq;have ey:=Ai.keys κ g2;subst ey;refine⟨⟨tt,κ,bb,y⟩::ps,by rw[zf,q1],λ p hp=>?_,.cons ⟨rfl,hy⟩ q3⟩;rcases zp.mp hp with rfl|hp
      ·exact⟨(Am h1).2,(Am g1).2⟩
      ·exact q2 p hp
  ·cases e
theorem YS {K:za}{H:Hp}{P:Addr->Prop}:∀ {ps:List Wy}{l:List (D×D)}{kvs:List (List Key×V)}{vs:List D},Paired (λ(p:Wy) (kv:D×D)=>kv.1=.tup (p.κ.map Dk)/\BK K (del H P) p.v kv.2) ps l->Ai K (del H P) (kvs.map yT) vs->
 ∃aZ,l.foldl (λ z kv=>putD z.1 z.2 kv.1 kv.2) (kvs.map (λ kv=>D.tup (kv.1.map Dk)),vs)=((ps.foldl (λ acc p=>putK acc p.κ p.v) kvs).map (λ kv=>D.tup (kv.1.map Dk)),aZ)/\Ai K (del H P) ((ps.foldl (λ acc p=>putK acc p.κ p.v) kvs).map yT) aZ
 |[],_,kvs,vs,.nil,h=>⟨vs,rfl,h⟩
 |p::ps,_,kvs,vs,.cons (b:=kv) hq t,h=>by
  obtain⟨k,d⟩:=kv;obtain⟨e1,e2⟩:=hq;dsimp only at e1 e2;subst e1;have hf:∀a b:List Key,Ay (.tup (a.map Dk)) (.tup (b.map Dk))=decide (a=b):=λ a b=>by simp only[Ay];exact LB a b
  have bp:∃aZ,(putD (kvs.map λ kv=>.tup (kv.1.map Dk)) vs (.tup (p.κ.map Dk)) d)=((putK kvs p.κ p.v).map (λ kv=>.tup (kv.1.map Dk)),aZ)/\Ai K (del H P) ((putK kvs p.κ p.v).map yT) aZ:=by
   unfold putD putK;rw[MM (fk:=λ κ:List Key=>D.tup (κ.map Dk)) hf];by_cases hh:(kvs.any λ kv=>decide (kv.1=p.κ))=true
   ·rw[if_pos hh,if_pos hh];refine⟨_,by rw[IW (fk:=λ κ:List Key=>D.tup (κ.map Dk)) hf],?_⟩;rw[<-IV (fk:=λ κ:List Key=>D.tup (κ.map Dk)) hf];exact IX e2 h
   ·rw[if_neg hh,if_neg hh];refine⟨_,by rw[zG];rfl,?_⟩;rw[zG];exact h.snoc e2
  obtain⟨yp,g1,g2⟩:=bp;obtain⟨wn,g3,g4⟩:=YS t g2;refine⟨wn,?_,g4⟩;rw[zM];dsimp only;rw[g1];exact g3
theorem YT {p:Pos}{n:Nat}(hc:X.calm=true)(hu:X.A.units+n<cLine)(hg:Gl X "dict")(hm:X.mg "dict" = none)(he:DE X WX true e f)
 (hv:bootBuiltins "dict" = some (.type "dict"):=by decide +kernel)
 (hs:starEach [e] X.env=[(false,eval e X.env)]:=by rfl) (hn:2<=n:=by decide):
 DN X WX (.Call (.Name "dict" p) [e] [] pos) (λ ρ=>(f ρ).bind fP):=by
 obtain⟨te,e1,e2⟩:=he;refine⟨_,YR hc hu hg hm e1 hv hs hn,λ P0 P σ H Q ρ E h=>?_⟩;refine e2 P0 P σ H _ ρ E ?_;dsimp only at h;cases q:f ρ with
 |bad|ex x=>rw[q] at h;exact h
 |ok d =>
  rw[q] at h;simp only[M.A7] at h;intro v H1 s1 hv;unfold fP at h;split at h
  ·rename_i xs;split at h
   ·rename_i l eb;split at h
    ·rename_i hl;cases hv with
     |lst hs hh =>
      obtain⟨ps,q1,q2,q3⟩:=Vm hh eb hl.2;subst q1;obtain⟨aZ,g1,g2⟩:=YS (kvs:=[]) q3 .nil;refine⟨_,ps,rfl,hs.AN,q2,by rw[q3.length];exact hl.1,λ r hr=>?_⟩;have e3:rZ l=((rY ps).map (λ kv=>D.tup (kv.1.map Dk)),aZ):=g1;rw[e3] at h;have b9:∀a∈[r],H1 a=none:=λ a ha=>by rw[zh.mp ha];exact hr
      exact h _ [r] _ (s1.trans (AJ hr _)) (λ a ha=>CD s1 (b9 a ha)) (by simp) (.dT Ao (g2.mono (Bz (AJ hr _) b9)).ows)
    ·exact h.elim
   ·exact h.elim
  ·exact h.elim
end
open PySem PySem.Spec PyProof.Rows
section
variable {X:Cx}{WX:Str->Hp->Prop}{c:Bool}{P0:Et}{P:Addr->Prop}{H:Hp}{σ:St}{ρ:Ac}{a b e:Expr}{f g:Ac->M D}{fn:Ac->M OT}{pos:Pos}{te:TE}
noncomputable def YU (x y:D):M D:=match x,y with
 | .tup xs,.tup ys=>(match CL xs,CL ys with|some ns,some ms=>.ok (.bl (HT.lexLt ns ms))|_,_=>.bad)
 |_,_=>.bad
theorem Vn:UQ X.K WX (pE X.K) YU:=by
 intro P H x y v w Q ht hx hy h;unfold YU at h;split at h
 ·rename_i xs ys;split at h
  ·rename_i ns ms e1 e2;have:=EY e1;subst this;have:=EY e2;subst this;cases hx with
   |tup h1 h2 =>
    cases hy with
    |tup h3 h4 =>
     have:=E9 h2;subst this;have:=E9 h4;subst this;exact⟨_,_,ns,ms,rfl,rfl,Fb.of (Am h1).2,Fb.of (Am h3).2,h _ H (Ad.refl H) (.bl _)⟩
  ·exact h.elim
 ·exact h.elim
theorem uB {n:Nat}(hu:X.A.units+n<cLine)(ha:DE X WX c a f)(hb:DE X WX c b g):DE X WX c (.Compare a [.Lt] [b] pos) (λ ρ=>(f ρ).bind λ x=>(g ρ).bind λ y=>YU x y):=Y0 (XH (by omega)) Vn ha hb (HR _)
theorem lW {n:Nat}(hu:X.A.units+n<cLine)(ha:DE X WX c a f)(hb:DE X WX c b g):DT X WX (.Compare a [.Lt] [b] pos) (λ ρ=>((f ρ).bind λ x=>(g ρ).bind λ y=>YU x y).bind OI):=Fl (XH (by omega)) Vn ha hb (HR _)
theorem YV (hk:DE X WX true a f)(hv:DE X WX true b g):DN X WX (.Dict [some a] [b] pos) (λ ρ=>(f ρ).bind λ k=>(g ρ).bind λ v=>if keyOk false k=true then .ok (.Bl false [k] [.sh v]) else .bad):=by
 obtain⟨tk,k1,k2⟩:=hk;obtain⟨tv,v1,v2⟩:=hv;refine⟨_,dA (XT k1 v1 cZ) rfl rfl (by simp) (by simp),λ P0 P σ H Q ρ E h p hp=>?_⟩;dsimp only at h;have hn:∀a∈[p],H a=none:=λ a ha=>by rw[zh.mp ha];exact hp
 have s0:Ad H (upd H p (.dK [])):=AJ hp _;have E1:Ak X.K P0 (PU P [p]) (upd H p (.dK [])) σ ρ:=E.more s0 Ic (λ a ha=>ha.elim (λ z=>(E.BS a z).same s0) λ z=>by
  rw[zh.mp z];exact⟨_,Ao,λ _=>⟨λ z=>(by cases z),λ _ z=>by cases z⟩⟩) (Bz s0 hn)
 refine k2 P0 (PU P [p]) σ _ _ ρ E1 ?_;cases q:f ρ with
 |bad=>rw[q] at h;exact h
 |ex x=>rw[q] at h;exact λ H' s=>h H' (s0.trans s)
 |ok k =>
  rw[q] at h;simp only[M.A7] at h;intro y H2 s2 hy;have E2:=E1.same s2;refine v2 P0 (PU P [p]) σ H2 _ ρ E2 ?_;cases q2:g ρ with
  |bad=>rw[q2] at h;exact h
  |ex x=>rw[q2] at h;exact λ H' s=>h H' ((s0.trans s2).trans s)
  |ok d =>
   rw[q2] at h;simp only[M.A7] at h;intro w H3 s3 hw;by_cases hc:keyOk false k=true
   ·rw[if_pos hc] at h;have hK:=F1 hc;cases hK with
    |k κ =>
     have ey:=hy.lN;subst ey;refine⟨s3 _ _ (s2 _ _ Ao),[(κ,w)],rfl,by simp,?_⟩;have s4:Ad H (upd H3 p (.dK (Gd [] [(κ,w)]))):=λ a o ha=>by
      rw[Ah (λ z=>by rw[z,hp] at ha;cases ha)];exact s3 _ _ (s2 _ _ (s0 _ _ ha))
     have s5:Ad (del H3 (PU P [p])) (del (upd H3 p (.dK (Gd [] [(κ,w)]))) (PU P [p])):=λ a o ha=>by
      obtain⟨n1,n2⟩:=Am ha;rw[Aw n1,Ah (λ z=>n1 (.inr (by rw[z];exact zh.mpr rfl)))];exact n2
     refine h _ [p] _ s4 hn (by simp) ?_;have e1:Gd [] [(κ,w)]=[(κ,w)]:=rfl;rw[e1] at s5 ⊢;exact .dK (kvs:=[(κ,w)]) Ao (.cons (.sh (hw.mono s5)) .nil)
   ·rw[if_neg hc] at h;exact h.elim
noncomputable def Pb (x:D)(m:M D):M D:=match x with
 | .Bl b ks vs=>m.bind λ y=>if keyOk b y=true then .ok ((G2 ks vs y).getD .AA) else .bad
 |_=>.bad
theorem fQ {K:za}{v:V}{bb:Bool}{ks vs:List D}{P:Addr->Prop}(h:BK K (del H P) v (.Bl bb ks vs)):∃a,v=.ref a/\tO H a:=by
 cases h with
 |HY h1 h2=>exact⟨_,rfl,.inl ⟨_,h1.AN⟩⟩
 |HZ h1 h2=>exact⟨_,rfl,.inr ⟨_,h1.AN⟩⟩
theorem MY {n:Nat}{o k:Expr}{apos ad:Pos}(hu:X.A.units+n<cLine)(ha:DE X WX c o f)(hb:DE X WX c k g)(m:M1 X o "get" apos k ad:=by exact⟨rfl,rfl,rfl,rfl⟩)(hn:1<=n:=by decide):
 DE X WX c (.Call (.Attribute o "get" apos) [k] [] ad) (λ ρ=>(f ρ).bind λ x=>Pb x (g ρ)):=by
 obtain⟨ta,a1,a2⟩:=ha;obtain⟨tb,b1,b2⟩:=hb;refine⟨_,XU (by omega) a1 b1 m,λ P0 P σ H Q ρ E h=>?_⟩;dsimp only at h;refine a2 P0 P σ H _ ρ E ?_;cases q:f ρ with
 |bad|ex x=>rw[q] at h;exact h
 |ok x =>
  rw[q] at h;simp only[M.A7] at h;intro v H1 s1 hv;unfold Pb at h;split at h
  ·rename_i bb ks vs;obtain⟨a,rfl,hD⟩:=fQ hv;refine⟨a,rfl,hD,b2 P0 P σ H1 _ ρ (E.same s1) ?_⟩;cases e2:g ρ with
   |bad=>rw[e2] at h;exact h
   |ex y=>rw[e2] at h;exact gV.same (m:=.ex y) h s1
   |ok y =>
    rw[e2] at h;simp only[M.A7] at h;intro w H2 s2 hw;by_cases hk:keyOk bb y=true
    ·rw[if_pos hk] at h;obtain⟨a',xs,ea,g',hl,b9⟩:=Q8 (hv.mono s2.del) hw (F1 hk);cases ea;refine⟨_,g',?_⟩;refine gV.same (gV.same h s1) s2 _ H2 (Ad.refl _) ?_;cases eg:G2 ks vs y with
     |none =>
      have:G2 ks xs y=none:=by
       cases wo:G2 ks xs y with
       |none=>rfl
       |some z =>
        have h1:=Hc (xs:=xs) (y:=y) b9;have h2:=Hc (ks:=ks) (xs:=vs) (y:=y) (by rw[<-hl.length,b9]);rw[h1,wo,eg] at h2;cases h2
      rw[this];exact .AA
     |some d =>
      obtain⟨x,e3,e4⟩:=MN hl eg;rw[e3];exact e4
    ·rw[if_neg hk] at h;exact h.elim
  ·exact h.elim
end
noncomputable def vB (K:za)(a:Addr)(n:Nat):It:=
 ⟨λ i H=>∃xs x,CJ K H a xs/\xs.length=n/\i<n/\xs[n-1-i]?=some x,λ i H x H'=>H'=H/\∀xs,CJ K H a xs->xs[n-1-i]?=some x,λ i H=>∃xs,CJ K H a xs/\xs.length=n/\n<=i⟩
theorem YW {h:Heap}{it a:Addr}{i:Int}{xs:Array Value}(h1:h.IsRevIter it a i)(h2:h.IsList a xs):a≠it:=λ z=>by
 subst z;obtain⟨o,e1,e2,_⟩:=h1;obtain⟨o2,e3,e4,_⟩:=h2;rw[e1] at e3;cases e3;rw[e2] at e4;exact absurd (Value.type.inj e4) (by decide)
theorem YX {P:Program}{w:World}{K:za}{tg:Expr}(a it:Addr)(n:Nat):Turn P w K tg (vB K a n) [it] it (λ i h=>i<=n/\h.IsRevIter it a ((n:Int)-1-i)) where
 mem:=by simp
 obj:=λ i h st b hb=>by
  have e:b=it:=by simpa using hb
  subst e;obtain⟨_,o,e,c,d⟩:=st;exact⟨o,e,λ v z=>by rw[d] at z;cases z⟩
 keep:=λ i h h' st k=>⟨st.1,st.2.at λ o e=>k it (by simp) o e⟩
 item:=by
  intro X hP hw hK hc i pins s σ H E I hf st hg;subst hP hw hK;obtain⟨xs,x,hq,pw,bt,hx⟩:=hg;obtain⟨aa,rv,p,hz⟩:=I.list hq;obtain⟨u,hu,ru⟩:=rv.get hx;obtain⟨f0,f1,f2,f3,f4,f5⟩:=hf it (by simp);have hl:=rv.length;have pz:aa.toArray.size=n:=by rw[zj,<-hl,pw]
  have W:=Walks.listRev (prog:=X.prog) (w:=X.w) (A:=X.A) (I.ok.hd hc) it a (YW st.2 p.isList) aa.toArray;rw[pz] at W;refine W.item i s _ _ bt ⟨st.1,st.2,p.isList⟩ λ v h' tk hv bO kp=>?_;have ev:v=u:=by
   rw[List.getElem?_toArray,hu] at hv;exact (zD hv).symm
  subst ev;have I1:Inv X pins σ H {s with heap:=h',toks:=tk}:=I.turned (t':=tk) (λ b o hb e=>kp b o (by simpa using hb) e) f0 f1 f3 f4 f5;obtain⟨o,e,c,d⟩:=id bO.2.1;exact⟨v,rfl,Xr (s:={s with heap:=h',toks:=tk}) e c d (by decide) ⟨x,H,I1,ru,⟨rfl,λ ys hy=>by rw[I.DU hy hq];exact hx⟩,⟨bO.1,bO.2.1⟩,λ b hb=>(hf b hb).1⟩⟩
 done:=by
  intro X hP hw hK hc i pins s σ H E I hf st hg;subst hP hw hK;obtain⟨xs,hq,pw,bt⟩:=hg;obtain⟨aa,rv,p,hz⟩:=I.list hq;obtain⟨f0,f1,f2,f3,f4,f5⟩:=hf it (by simp);have hl:=rv.length;have pz:aa.toArray.size=n:=by rw[zj,<-hl,pw]
  have W:=Walks.listRev (prog:=X.prog) (w:=X.w) (A:=X.A) (I.ok.hd hc) it a (YW st.2 p.isList) aa.toArray;rw[pz] at W;have wp:i=n:=Nat.le_antisymm st.1 bt;subst wp;exact W.done s _ _ ⟨st.1,st.2,p.isList⟩ λ h' tk kp=>⟨rfl,I.turned (t':=tk) (λ b o hb e=>kp b o (by simpa using hb) e) f0 f1 f3 f4 f5⟩
 self:=λ _ _ _ _ _ st h=>wpAny_pyIter_revIter st.2 h
section
variable {X:Cx}{WX:Str->Hp->Prop}{tg a:Expr}{f:Ac->M D}{pos p:Pos}{te:TE}
noncomputable def uC (K:za)(ta:TA):TI:=λ σ H R=>ta σ H λ vs H1=>∃a xs,vs=[.ref a]/\CJ K H1 a xs/\R (vB K a xs.length) H1
theorem lX {ta:TA}(hg:Gl X "reversed")(hm:X.mg "reversed" = none)(ha:PA X [a] ta)(hb:bootBuiltins "reversed" = some (.type "reversed"):=by decide +kernel)(hs:starEach [a] X.env=[(false,eval a X.env)]:=by rfl):
 PI X tg (.Call (.Name "reversed" p) [a] [] pos) (uC X.K ta):=by
 intro pins s σ H R I h;refine Call_ (Dr I hg hm hb (zY (Bg (ha pos pins s σ H _ I h) λ us s1 ⟨vs,H1,I1,r1,q1⟩=>?_) hs rfl));obtain⟨j,xs,e,hq,q⟩:=q1;subst e;cases r1 with
 |cons r rr =>
  cases rr;cases r;obtain⟨aa,rv,p,hz⟩:=I1.list hq;have hl:=rv.length;refine call_reversed_list p.isList ?_;have hit:(s1.heap.push (revObj j ((aa.toArray.size:Int)-1))).IsRevIter s1.heap.objs.size j ((xs.length:Int)-1-(0:Nat)):=by
   rw[zj,<-hl];exact⟨_,zE _ rfl,rfl,by simp[revObj]⟩
  refine wpAny_pyIter_revIter (s:={s1 with heap:=s1.heap.push (revObj j ((aa.toArray.size:Int)-1))}) hit ?_;refine⟨s1.heap.objs.size,[s1.heap.objs.size],_,_,H1,rfl,I1.kept (t':=s1.toks) λ b o e=>zq _ e,YX j _ xs.length,⟨zJ _,hit⟩,λ b hb=>?_,q⟩;have e:b=s1.heap.objs.size:=by simpa using hb
  subst e;exact I1.VM (zx _) (I1.As.fresh (zx _))
theorem lY (hg:Gl X "reversed")(hm:X.mg "reversed" = none)(ha:DE X WX true a f)(hb:bootBuiltins "reversed" = some (.type "reversed"):=by decide +kernel)(hs:starEach [a] X.env=[(false,eval a X.env)]:=by rfl):
 DI X WX tg (.Call (.Name "reversed" p) [a] [] pos) (λ ρ=>(f ρ).bind λ d=>match d with | .lst ds=>.ok ds.reverse|_=>.bad):=by
 obtain⟨ta,a1,a2⟩:=ha;refine⟨_,lX hg hm (Ba a1 C5 hs) hb hs,λ P0 P σ H R ρ E h=>?_⟩;dsimp only at h;refine a2 P0 P σ H _ ρ E ?_;cases q:f ρ with
 |bad|ex x=>rw[q] at h;exact h
 |ok d =>
  rw[q] at h;cases d with
  |lst ds =>
   intro v H1 s1 hv;cases hv with
   | @lst a xs _ hs hl =>
    have hlen:=hl.length;refine⟨a,xs,rfl,hs.AN,h _ H1 s1 ⟨λ i P' H' s hi=>?_,λ i P' H' s hi=>?_,λ i P' H' v dr d s ht hd y=>?_⟩⟩
    ·rw[yO] at hi;obtain⟨x,hx,_⟩:=hl.get (zi (show xs.length-1-i<ds.length by omega));exact⟨xs,x,(s.seq hs).AN,rfl,by omega,hx⟩
    ·rw[yO] at hi;exact⟨xs,(s.seq hs).AN,rfl,by omega⟩
    ·obtain⟨rfl,y⟩:=y;have ah:=(zw.mp hd).1;rw[yO] at ah;rw[List.getElem?_reverse ah] at hd;obtain⟨x,hx,bw⟩:=hl.get hd;have e:=y xs (s.seq hs).AN;rw[hlen,hx] at e;cases e;exact⟨Ad.refl _,bw.mono s⟩
  |_=>exact h.elim
end
structure lZ (K:za)(x qual:Str)(st:Stmt)(f:Addr)(fd:FuncData):Prop where
 ex:∃(oc:Value) (od:Option Addr) (dV kV doc pm:Value) (an:Option Addr) (B5 ct:Value) (T7:Array (Option Value)),
  fd=zZ x qual (Bk st) (AM st) (A4 st) dV kV doc pm an B5 ct/\K.lookup f=some ⟨oc,od,.func fd,T7⟩/\yU K B5 qual=true
 kp:yB K (.ref f)=true
section
variable {P:Program}{w:World}{K:za}{mg:Str->Option Value}{base:Heap}
theorem fR {x qual:Str}{st:Stmt}{f:Addr}{fd:FuncData}{N ps:List Str}{k:Nat}(F:lZ K x qual st f fd)(S:Ag N ps (A4 st))(g:Ac->M Out)
 (hb:∀(B5:Value) (A:Around) (outer:List Env) (s:Shared) (H:Hp) (E:XK),BJ k (A.deeper (envOfC qual (A4 st) s.heap.objs.size f B5))->T8 (iL P w K mg base N qual (A4 st) f B5 A outer s H E) (E7 K E) (AM st) g):
 Ds P w K mg base (Wa P w base) (k+1) f fd ps (OX K ps.length λ t ax=>Ec (g (CY N t ax))):=by
 obtain⟨oc,od,dV,kV,doc,pm,an,B5,ct,T7,rfl,lk,be⟩:=F.ex;refine UI lk be S (λ vs H Q E h=>h.1) λ A outer s H vs Q E hr h=>?_;obtain⟨hl,P',p,t,fp,rest,ax,rfl,ht,hp,nd,ho,hv,hq⟩:=h;obtain⟨tt,h1,h2⟩:=hb B5 A outer s H E hr;refine⟨tt,h1,h2 ⟨λ a=>P' a/\a∉fp,λ _=>p⟩ P' _ H _ _ (J1 ht hp nd ho hv) ?_⟩;dsimp only at hq;revert hq;cases g (CY N t ax) with
 |bad|ex x=>exact λ h=>h.elim
 |ok o =>
  have sub:∀ {P2:Addr->Prop} {H2:Hp} {σ2:St} {ρ:Ac},Ak K ⟨λ a=>P' a/\a∉fp,λ _=>p⟩ P2 H2 σ2 ρ->∀a,P2 a/\¬ (P' a/\a∉fp)->P2 a/\(P' a->a∈fp):=λ E a ha=>⟨ha.1,λ z=>zar λ w=>ha.2 ⟨z,w⟩⟩;cases o with
  |ret d|CI d=>exact λ h=>h.elim
  |next ρ =>
   intro hq σ' H' P2 t2 E2;unfold Ec at hq;dsimp only at hq;split at hq
   ·rename_i t' e;obtain⟨c,ai,k1,k2,k3,k4,k5,k6⟩:=LD E2 e;exact hq .AA H' P2 ai [] (λ a ha hn=>⟨E2.sub a ⟨ha,hn⟩,t2.2 a ⟨ha,hn⟩⟩) E2.BS t2.1 k4 k5 (.sh .AA) yM (λ a ha=>by cases ha) (λ a ha=>sub E2 a (k6 a ha)) (λ a ha=>by cases ha)
   ·exact hq.elim
  |EV r ρ =>
   intro hq v fr σ' H' P2 t2 E2 o2 aY hf;unfold Ec at hq;dsimp only at hq;split at hq
   ·rename_i t' e;obtain⟨c,ai,k1,k2,k3,k4,k5,k6⟩:=LD E2 e;exact hq v H' P2 ai fr (λ a ha hn=>⟨E2.sub a ⟨ha,hn⟩,t2.2 a ⟨ha,hn⟩⟩) E2.BS t2.1 k4 k5 o2 aY (λ a ha=>(hf a ha).2.2 0 c _ ai k1 k2 k3) (λ a ha=>sub E2 a (k6 a ha)) (λ a ha=>sub E2 a ⟨(hf a ha).1,(hf a ha).2.1⟩)
   ·exact hq.elim
  |brk ρ|cont ρ=>exact λ h=>h.elim
end
theorem fS {K:za}{x qual:Str}{st:Stmt}{f:Addr}{oc:Value}{od an:Option Addr}{T7:Array (Option Value)}{dV kV doc pm B5 ct:Value}(l:K.lookup f=some ⟨oc,od,.func (zZ x qual (Bk st) (AM st) (A4 st) dV kV doc pm an B5 ct),T7⟩)
 (c:yU K B5 qual=true) (k:yB K (.ref f)=true):lZ K x qual st f (zZ x qual (Bk st) (AM st) (A4 st) dV kV doc pm an B5 ct):=⟨⟨oc,od,dV,kV,doc,pm,an,B5,ct,T7,rfl,l,c⟩,k⟩
structure Pc (P:Program)(w:World)(K:za)(mg:Str->Option Value)(base:Heap)(x:Str)(k n:Nat)(F:OT->List D->M (OT×OT)):Prop where
 ex:∃C fa fd ps,lV K mg x C/\Mk K C fa/\Ds P w K mg base (Wa P w base) k fa fd ps (OX K n F)/\Binds K fd ps []/\Binds K fd ps [.none]
theorem Pc.vC {P:Program}{w:World}{K:za}{mg:Str->Option Value}{base:Heap}{x:Str}{k n:Nat}{F:OT->List D->M (OT×OT)}(G:Pc P w K mg base x k n F):qS P w K mg base x k n F:=by
 obtain⟨C,fa,fd,ps,h1,h2,h3,h4,_⟩:=G.ex;exact⟨⟨C,fa,fd,ps,h1,h2,h3,h4⟩⟩
structure U5 (K:za)(mg:Str->Option Value)(x qual:Str)(st:Stmt)(ps:List Str):Prop where
 ex:∃C f fd,lV K mg x C/\Mk K C f/\lZ K "__init__" qual st f fd/\Binds K fd ps []/\Binds K fd ps [.none]
theorem YY {P:Program}{w:World}{K:za}{mg:Str->Option Value}{base:Heap}{x qual:Str}{st:Stmt}{N ps:List Str}{k n:Nat}(T:U5 K mg x qual st ps)(S:Ag N ps (A4 st))(g:Ac->M Out)
 (hb:∀(f:Addr) (B5:Value) (A:Around) (outer:List Env) (s:Shared) (H:Hp) (E:XK),BJ k (A.deeper (envOfC qual (A4 st) s.heap.objs.size f B5))->T8 (iL P w K mg base N qual (A4 st) f B5 A outer s H E) (E7 K E) (AM st) g) (hn:ps.length=n:=by rfl):
 Pc P w K mg base x (k+1) n (λ t ax=>Ec (g (CY N t ax))):=by
 obtain⟨C,f,fd,h1,h2,F,hB⟩:=T.ex;subst hn;exact⟨⟨C,f,fd,ps,h1,h2,fR F S g (hb f),hB⟩⟩
section
variable {X:Cx}{E:XK}{WX:Str->Hp->Prop}{c:Bool}{e:Expr}{es:List Expr}{fs:Ac->M (List D)}{pos:Pos}{H:Hp}
theorem YZ {x:Str}{k n:Nat}{F:OT->List D->M (OT×OT)}{p:Pos}(xo:Gi X E)(G:Pc X.prog X.w X.K X.mg X.base x k n F)(hr:BJ (k+1) X.A)(hg:Gl X x)(ha:DA X (E7 X.K E) true (e::es) fs)(ce:(e::es).length+2=n)
 (aV:(x==("__debug__" : Str))=false:=by decide) (he:starEach (e::es) X.env=(false,eval e X.env)::starEach es X.env:=by rfl) (au:(backTo pos (starEach es X.env)).any (·.1)=false:=by rfl):
 DN X (E7 X.K E) (.Call (.Name x p) (e::es) [] pos) (λ ρ=>(fs ρ).bind λ ds=>MW (F (.ins x [] []) (ds++[.AA]))):=by
 obtain⟨C,fa,fd,ps,hT,hM,hF,_,hb⟩:=G.ex;obtain⟨ta,a1,a2,a3⟩:=ha;refine⟨_,UH hM hF hr hg hT.vA hb (show Vals [.AA] [.none] from .cons (show RelV .AA .none from rfl) .nil) xo.call a1 aV he au,λ P0 P σ H Q ρ Ev h=>?_⟩;dsimp only at h;refine a2 P0 P σ H _ ρ Ev ?_;cases q:fs ρ with
 |bad|ex x=>rw[q] at h;exact h
 |ok ds =>
  rw[q] at h;simp only[M.A7] at h;intro vs H1 s1 aB y dx hy hd ae;have E1:=Ev.same s1;have sm:=P8 (C:=C) hy hd;have bE:∀a∈[y],H1 a=none:=λ a ha=>by rw[zh.mp ha];exact hy
  refine⟨by rw[zl,zC,aB.length,a3 ρ ds q];exact ce,PU P [y],y,.ins x [] [],[y],vs++[.AA],ds++[.AA],rfl,λ a ha=>?_,λ a ha=>.inr ha,by simp,C4.ins (fs:=[]) hT.ns Ao .nil,(aB.mono (Bz sm bE)).append (.cons .AA .nil),?_⟩
  ·rcases ha with ha|ha
   ·exact (E1.BS a ha).same sm
   ·rw[zh.mp ha];exact⟨_,Ao,λ xs=>⟨(λ z=>by cases z),(λ z w=>by cases w)⟩⟩
  ·cases q2:F (.ins x [] []) (ds++[.AA]) with
   |bad|ex z=>rw[q2] at h;exact h
   |ok tr =>
    obtain⟨t,r⟩:=tr;rw[q2] at h;simp only[MW] at h;intro v H' P' ai fr k1 k2 k3 k4 k5 k6 k7 k8 k9 oj;cases r with
    |sh d =>
     cases d with
     |AA =>
      cases k6 with
      |sh hv =>
       cases hv;refine⟨rfl,h _ ai H' ?_ ?_ k5 ?_⟩
       ·intro b u eb;have e1:=s1 b u eb;have bH:b≠y:=λ z=>by rw[z,hy] at e1;cases e1
        have e2:=sm b u e1;by_cases hP:P b
        ·exact (k1 b (.inl hP) (by simp[bH])).2.trans e2
        ·exact (Am (k3 b u (by rw[Aw λ z=>z.elim hP λ w=>bH (zh.mp w)];exact e2))).2
       ·intro b je;cases eb:H b with
        |none=>rfl
        |some u =>
         exfalso;have e1:=s1 b u eb;have bH:b≠y:=λ z=>by rw[z,hy] at e1;cases e1
         have e2:=sm b u e1;have hn:=λ z=>bH (zh.mp ((k9 b je).2 z));exact (Am (k3 b u (by rw[Aw hn];exact e2))).1 (k9 b je).1
       ·refine k4.move (λ b u eb=>?_) λ _ _=>rfl;obtain⟨g1,g2⟩:=Am eb;rw[Aw]
        ·exact g2
        ·rintro (z|z)
         ·have bH:b≠y:=λ w=>by
           obtain⟨o,e1,_⟩:=E1.BS b z;rw[w,hy] at e1;cases e1
          exact g1 (k1 b (.inl z) (by simp[bH])).1
         ·exact g1 (k9 b z).1
     |_=>exact h.elim
    |_=>exact h.elim
end
theorem wB {P:List Value->Prop}(h:P [])(us:List Value)(hl:us.length=0):P us:=by
 cases us with
 |nil=>exact h
 |cons _ _=>cases hl
theorem sA {P:List Value->Prop}(h:∀a,P [a])(us:List Value)(hl:us.length=1):P us:=by
 cases us with
 |nil=>cases hl
 |cons a us=>exact wB (P:=λ l=>P (a::l)) (h a) us (Nat.succ.inj hl)
theorem ln2 {P:List Value->Prop}(h:∀a b,P [a,b])(us:List Value)(hl:us.length=2):P us:=by
 cases us with
 |nil=>cases hl
 |cons a us=>exact sA (P:=λ l=>P (a::l)) (λ b=>h a b) us (Nat.succ.inj hl)
theorem uD {P:List Value->Prop}(h:∀a b c,P [a,b,c])(us:List Value)(hl:us.length=3):P us:=by
 cases us with
 |nil=>cases hl
 |cons a us=>exact ln2 (P:=λ l=>P (a::l)) (λ b c=>h a b c) us (Nat.succ.inj hl)
theorem vD {P:List Value->Prop}(h:∀a b c d,P [a,b,c,d])(us:List Value)(hl:us.length=4):P us:=by
 cases us with
 |nil=>cases hl
 |cons a us=>exact uD (P:=λ l=>P (a::l)) (λ b c d=>h a b c d) us (Nat.succ.inj hl)
theorem AQ {K:za}{mg:Str->Option Value}{h:Heap}{x:Str}{st:Stmt}{ps:List Str}(X:K.In h)(G:h.Ns mainGlobals mg)(p:FP K x st)(hb:∀(kV dc pm:Value) (an:Option Addr) (cd ct:Value) (us:List Value),us.length=ps.length->bindArgs (zZ x x (Bk st) (AM st) (A4 st) .none kV dc pm an cd ct) ⟨us,[]⟩=pure (ps.zip us):=by first | exact (λ _ _ _ _ _ _=>sA λ _=>rfl) | exact (λ _ _ _ _ _ _=>ln2 λ _ _=>rfl) | exact (λ _ _ _ _ _ _=>uD λ _ _ _=>rfl) | exact (λ _ _ _ _ _ _=>vD λ _ _ _ _=>rfl)):AH K mg x st ps:=by
 obtain⟨f,oc,od,an,sl,kV,dc,pm,cd,ct,a,l,c,k⟩:=p.ex;have F:=Tv (st:=st) l c k;exact⟨⟨_,_,F,PySem.W.mg_of X G a,F.binds hb⟩⟩
theorem Vo {K:za}{C:Addr}{x m qual:Str}{st:Stmt}{ps:List Str}(aC:zF K mainGlobals x=some (some (.ref C)))(cl:VS K C)(p:MP K C m qual st)(hb:∀(kV dc pm:Value) (an:Option Addr) (cd ct:Value) (us:List Value),us.length=ps.length->bindArgs (zZ m qual (Bk st) (AM st) (A4 st) .none kV dc pm an cd ct) ⟨us,[]⟩=pure (ps.zip us):=by first | exact (λ _ _ _ _ _ _=>sA λ _=>rfl) | exact (λ _ _ _ _ _ _=>ln2 λ _ _=>rfl) | exact (λ _ _ _ _ _ _=>uD λ _ _ _=>rfl) | exact (λ _ _ _ _ _ _=>vD λ _ _ _ _=>rfl)):P6 K x m qual st ps:=by
 obtain⟨f,oc,od,an,sl,kV,dc,pm,cd,ct,a,i,l,c,k⟩:=p.ex;have F:=Tv (st:=st) l c k;exact⟨⟨_,_,_,aC,cl,⟨a,i,k⟩,F,F.binds hb⟩⟩
open PySem PySem.W PySem.Calls PyProof.Rows
noncomputable def R0:Rn:=⟨topRun,Heap.nsMap,importEnds,fenceModules?,PySem.start,treeTable⟩
theorem mB:R0=R1:=by
 unfold R0 R1;rw[PySem.W.Fast.te14082659384304107361,PySem.W.Fast.te8920871248978507458,PySem.W.Fast.te10274390034422433532,PySem.W.Fast.te14289696077712309145,PySem.W.Fast.te1435165496053646825,PySem.W.Fast.te14364793385576792824]
theorem Vp (p:Program)(w:World)(N:Nat):openEnds treeTable p w N=M7 R0 p w N:=by
 unfold openEnds fencedOpening M7;rfl
theorem MZ {h:Heap}{a:Addr}{o:Obj}:∀ {as:List Addr},(rD h as).lookup a=some o->h.get? a=some o
 |[],e=>by cases e
 |b::r,e=>by
  unfold rD at e;rw[List.filterMap_cons] at e;cases q:h.get? b with
  |none=>rw[q] at e;exact MZ (as:=r) e
  |some u =>
   rw[q] at e;dsimp only [yW] at e;rw[yR] at e;cases c:a==b with
   |true=>rw[c] at e;cases e;rw[eq_of_beq c];exact q
   |false=>rw[c] at e;exact MZ (as:=r) e
def qT (h h':Heap):Prop:=∀(b:Addr) (o:Obj),h.get? b=some o->h'.get? b=some o
theorem mC {h h':Heap}{as:List Addr}(s:qT h h'):(rD h as).In h':=λ a o e=>s a o (MZ e)
theorem fT {p q:Program}{Xt:Shared->Bool}{N:Nat}(h:∀w:World,(openEnds treeTable p w N).map (λ s=>openSeen q [] (importedModules p.main.body) Xt true s)=some (openGood q [])):LeftO p q [] Xt (λ s=>s.heap) (λ w=>Xf R0 p w N) N:=λ w=>by
 have e:=h w;unfold Xf;dsimp only;rw[<-Vp];cases q':openEnds treeTable p w N with
 |none=>rw[q'] at e;cases e
 |some s =>
  rw[q'] at e;rw[yW] at e ⊢;dsimp only;rw[zD e]
theorem Qg {α β γ:Type}{o:Option γ}{f:γ->α×β}{a:α×β}(h:o.map (λ s=>(f s).1)=some a.1)(k:o.map (λ s=>(f s).2)=some a.2):o.map f=some a:=by
 cases o with
 |none=>cases h
 |some s =>
  rw[yW] at h k ⊢;exact congrArg some (Prod.ext (zD h) (zD k))
theorem qU {l:PySem.W.OpenLaw}{n k:Nat}{q:Program}{loose:List Str}{XP:(Str->Option Value)->Heap->Prop}{YP:World->Heap->Prop}{d:DefRec}{K:World->za}{CX:World->UE}{sp:World->Sp}{x:Str}
 (hn:l.most=some n) (aE:n<=sizeLine) (f9:d.params.defaults=[]) (hr:BJ k callerA) (hY:∀(w:World) (h:Heap),YP w h->(K w).In h)
 (F:∀(w:World) (mg:Str->Option Value) (fa:Addr) (h:Heap),(K w).In h->h.Ns mainGlobals mg->mg d.name=some (.ref fa)->∃fd:FuncData,(∀(s:Shared) (u:Value),BindsTo s fd ⟨[u],[]⟩ [(x,u)])/\
  ∀base:Heap,(K w).In base->base.Ns mainGlobals mg->Ds l.prog w (K w) mg base (CX w) k fa fd [x] (sp w))
 (bA:∀(w:World) (H:Hp) (a:Addr) (ns:List Int),(∀n∈ns,Sm n)->ns.length<=n->cV H->CJ (K w) H a (ns.map V.int)->sp w [.ref a] H (λ v _=>v=.bl true) λ _ _ _=>False)
 (ir:∀(w:World) (H:Hp) (s:Shared) (e:Value) (s':Shared),CX w [] H s (λ _ _ _=>False) e s'->False):PySem.W.WalkO q loose XP YP l.row.toRowW d [] (λ f vs=>PySem.call f vs):=by
 refine HT.OP hn f9 λ w s₀ s₁ mg mb fa o pm cd doc a vs ns aI G Y ho hd be ga bZ bh hlen hg=>?_;have KX:=hY w _ Y;obtain⟨fd,hb,hF⟩:=F w mg fa _ KX G.T.g ga;exact Rq KX G.T.g G.T.b G.T.builtins G.T.nolimit hg bZ bh (yG hlen aE) hr hF hb (λ H hO hS=>bA w H a ns aI hlen hO hS) λ H e s'=>ir w H s₁ e s'
noncomputable def cst:Option (Int×Int)->D
 |none=>.AA
 |some p=>.tup [.int p.1,.int p.2]
noncomputable def Aq:Option (Int×Int)->Option (Int×Int)->Option (Int×Int)
 |some p,some q=>some (p.1+q.1,p.2+q.2)
 |_,_=>none
noncomputable def iR (p q:Int×Int):Int×Int:=if p.1<q.1\/(p.1=q.1/\p.2<=q.2) then p else q
noncomputable def DF:Option (Int×Int)->Option (Int×Int)->Option (Int×Int)
 |none,b=>b
 |some p,none=>some p
 |some p,some q=>some (iR p q)
noncomputable def Fu (cs:List (Option (Int×Int))):Option (Int×Int):=cs.foldl DF none
theorem Gs (cs:List (Option (Int×Int))):Bq (λ d ρ=>.ok (ρ.set 0 (some (.val d)))) (λ ρ=>(rv 0 ρ).bind λ x=>.ok (!D6 x)) (rv 0) (cs.map cst) [none]=.ok ((cs.filterMap id).map λ p=>cst (some p)):=by
 induction cs with
 |nil=>rfl
 |cons c r ih =>
  rw[zf,Bq];cases c with
  |none =>
   show Bq _ _ _ (r.map cst) [none]=_;rw[ih];rfl
  |some p =>
   show (match Bq _ _ _ (r.map cst) [none] with | .ok ys=>M.ok (cst (some p)::ys)|_=>.bad)=_;rw[ih];rfl
theorem WA (ps:List (Int×Int)):Gh (ps.map λ p=>cst (some p))=some (ps.map λ p=>(cst (some p),[p.1,p.2])):=by
 induction ps with
 |nil=>rfl
 |cons p r ih=>rw[zf,Gh,ih];rfl
theorem Z0 (cs:List (Option (Int×Int))):B3 ((cs.filterMap id).map λ p=>(cst (some p),[p.1,p.2]))=(Fu cs).map λ p=>(cst (some p),[p.1,p.2]):=by
 have key:∀(cs:List (Option (Int×Int))) (z:Option (Int×Int)),((cs.filterMap id).map λ p=>(cst (some p),[p.1,p.2])).foldl BL (z.map λ p=>(cst (some p),[p.1,p.2]))=(cs.foldl DF z).map λ p=>(cst (some p),[p.1,p.2]):=by
  intro cs;induction cs with
  |nil=>intro z;rfl
  |cons c r ih =>
   intro z;cases c with
   |none =>
    rw[show List.filterMap id (none::r)=List.filterMap id r from rfl,zM,ih z];cases z<;>rfl
   |some q =>
    rw[show List.filterMap id (some q::r)=q::List.filterMap id r from rfl,zf,zM,zM,<-ih (DF z (some q))];congr 1;cases z with
    |none=>rfl
    |some p =>
     simp only[yW,BL,HT.Fd,HT.EE,DF,iR];by_cases h1:q.1=p.1
     ·by_cases h2:q.2=p.2
      ·rw[if_pos (show p.1<q.1\/(p.1=q.1/\p.2<=q.2) by omega)];simp[h1,h2]
      ·by_cases h3:q.2<p.2
       ·rw[if_neg (show ¬ (p.1<q.1\/(p.1=q.1/\p.2<=q.2)) by omega)];simp[h1,h2,h3]
       ·rw[if_pos (show p.1<q.1\/(p.1=q.1/\p.2<=q.2) by omega)];simp[h1,h2,h3]
     ·by_cases h3:q.1<p.1
      ·rw[if_neg (show ¬ (p.1<q.1\/(p.1=q.1/\p.2<=q.2)) by omega)];simp[h1,h3]
      ·rw[if_pos (show p.1<q.1\/(p.1=q.1/\p.2<=q.2) by omega)];simp[h1,h3]
 exact key cs none
theorem Vq (cs:List (Option (Int×Int))):UU (.lst ((cs.filterMap id).map λ p=>cst (some p))) .AA=.ok (cst (Fu cs)):=by
 simp only[UU,WA,Z0];cases Fu cs<;>rfl
theorem S5 (cs:List (Option (Int×Int))):IR (Bq (λ d ρ=>.ok (ρ.set 0 (some (.val d)))) (λ ρ=>(rv 0 ρ).bind λ x=>.ok (!D6 x)) (rv 0) (cs.map cst) [none])=.ok (.lst ((cs.filterMap id).map λ p=>cst (some p))):=by
 rw[Gs];rfl
noncomputable abbrev Co:=Option (Int×Int)
def BR:Co->Co->Prop
 |_,none=>True
 |none,some _=>False
 |some p,some q=>p.1<q.1\/(p.1=q.1/\p.2<=q.2)
theorem C6:∀a:Co,BR a a
 |none=>trivial
 |some p=>.inr ⟨rfl,Int.le_refl _⟩
theorem An:∀ {a b c:Co},BR a b->BR b c->BR a c
 |_,_,none,_,_=>trivial
 |none,none,some _,_,h|some _,none,some _,_,h|none,some _,some _,h,_=>h.elim
 |some p,some q,some r,h1,h2=>by simp only[BR] at *;omega
theorem N0:∀ {a b:Co},BR a b->BR b a->a=b
 |none,none,_,_=>rfl
 |none,some _,h,_|some _,none,_,h=>h.elim
 |some p,some q,h1,h2=>by
  obtain⟨p1,p2⟩:=p;obtain⟨q1,q2⟩:=q;simp only[BR] at h1 h2;have e1:p1=q1:=by omega
  have e2:p2=q2:=by omega
  rw[e1,e2]
theorem Bo:∀a b:Co,(DF a b=a/\BR a b)\/(DF a b=b/\BR b a/\a≠b)
 |none,none=>.inl ⟨rfl,trivial⟩
 |none,some q=>.inr ⟨rfl,trivial,λ h=>by cases h⟩
 |some p,none=>.inl ⟨rfl,trivial⟩
 |some p,some q=>by
  unfold DF iR;by_cases h:p.1<q.1\/(p.1=q.1/\p.2<=q.2)
  ·dsimp only;rw[if_pos h];exact .inl ⟨rfl,h⟩
  ·dsimp only;rw[if_neg h];refine .inr ⟨rfl,?_,λ e=>?_⟩
   ·simp only[BR];omega
   ·cases e;exact h (.inr ⟨rfl,Int.le_refl _⟩)
theorem EA (a b:Co):BR (DF a b) a:=by
 rcases Bo a b with ⟨e,h⟩|⟨e,h,_⟩
 ·rw[e];exact C6 a
 ·rw[e];exact h
theorem EB (a b:Co):BR (DF a b) b:=by
 rcases Bo a b with ⟨e,h⟩|⟨e,h,_⟩
 ·rw[e];exact h
 ·rw[e];exact C6 b
theorem S6 (cs:List Co):∀z:Co,BR (cs.foldl DF z) z/\(∀x∈cs,BR (cs.foldl DF z) x)/\(cs.foldl DF z=z\/cs.foldl DF z∈cs):=by
 induction cs with
 |nil=>intro z;exact⟨C6 z,(λ x h=>by cases h),.inl rfl⟩
 |cons c r ih =>
  intro z;obtain⟨h1,h2,h3⟩:=ih (DF z c);rw[zM];refine⟨An h1 (EA z c),λ x hx=>?_,?_⟩
  ·rcases zp.mp hx with rfl|hx
   ·exact An h1 (EB z x)
   ·exact h2 x hx
  ·rcases h3 with h3|h3
   ·rw[h3];rcases Bo z c with ⟨e,_⟩|⟨e,_⟩
    ·exact .inl e
    ·rw[e];exact .inr zd
   ·exact .inr (ze _ h3)
theorem LY {cs:List Co}{x:Co}(h:x∈cs):BR (Fu cs) x:=(S6 cs none).2.1 x h
theorem Jx (cs:List Co):Fu cs=none\/Fu cs∈cs:=(S6 cs none).2.2
theorem fU {cs:List Co}{v:Co}(h1:∀x∈cs,BR v x)(h2:v≠none->∃x∈cs,BR x v):Fu cs=v:=by
 refine N0 ?_ ?_
 ·cases v with
  |none=>cases Fu cs<;>exact trivial
  |some p =>
   obtain⟨x,hx,hl⟩:=h2 (by intro z;cases z);exact An (LY hx) hl
 ·rcases Jx cs with h|h
  ·rw[h];cases v<;>exact trivial
  ·exact h1 _ h
theorem CH:∀a b:Co,Aq a b=Aq b a
 |none,none=>rfl
 |none,some _|some _,none=>rfl
 |some p,some q=>by simp only[Aq];rw[Int.add_comm,Int.add_comm p.2]
theorem Ca:∀ {a b:Co}(c:Co),BR a b->BR (Aq a c) (Aq b c)
 |_,none,c,_=>by cases c<;>exact trivial
 |none,some _,c,h=>h.elim
 |some p,some q,none,h=>trivial
 |some p,some q,some r,h=>by simp only[Aq,BR] at *;omega
def NN:Co->Prop
 |none=>True
 |some p=>0<=p.1/\0<=p.2
theorem N1:∀ {a b:Co},NN a->NN b->NN (Aq a b)
 |none,none,_,_=>trivial
 |none,some _,_,_|some _,none,_,_=>trivial
 |some p,some q,h1,h2=>by simp only[Aq,NN] at *;omega
theorem Z1 {a b:Co}(h1:NN a)(h2:NN b):NN (DF a b):=by
 rcases Bo a b with ⟨e,_⟩|⟨e,_⟩
 ·rw[e];exact h1
 ·rw[e];exact h2
def ltN (a b:Co):Prop:=NN a/\BR a b/\a≠b
theorem WB (a b c:Co)(h1:ltN a b)(h2:ltN b c):ltN a c:=
 ⟨h1.1,An h1.2.1 h2.2.1,λ e=>by subst e;exact h1.2.2 (N0 h1.2.1 h2.2.1)⟩
noncomputable def rank:Co->Nat×Nat×Nat
 |none=>(1,0,0)
 |some p=>(0,p.1.toNat,p.2.toNat)
theorem mD:∀a:Co,NN a->Acc ltN a:=by
 have wf:WellFounded (InvImage (Prod.Lex (· < ·) (Prod.Lex (· < ·) (· < ·))) rank):=InvImage.wf rank (Prod.lex Nat.lt_wfRel (Prod.lex Nat.lt_wfRel Nat.lt_wfRel)).wf;intro a;induction a using wf.induction with
 |h a ih =>
  intro ha;refine .intro _ λ b ⟨hb,hl,ae⟩=>ih b ?_ hb;cases b with
  |none=>cases a with
   |none=>exact (ae rfl).elim
   |some p=>exact hl.elim
  |some q=>cases a with
   |none=>exact Prod.Lex.left _ _ (by decide)
   |some p =>
    obtain⟨p1,p2⟩:=p;obtain⟨q1,q2⟩:=q;simp only[BR,NN] at hl ha hb;show Prod.Lex _ _ (0,q1.toNat,q2.toNat) (0,p1.toNat,p2.toNat);refine Prod.Lex.right _ ?_;by_cases h:q1<p1
    ·exact Prod.Lex.left _ _ (by omega)
    ·have e:q1=p1:=by omega
     subst e;have h2:q2≠p2:=λ e=>ae (by rw[e]);exact Prod.Lex.right _ (by omega)
theorem fV (a:Co):Acc ltN a:=.intro _ λ b h=>mD b h.1
theorem WC (cs:List Co):Acc (NU ltN) cs:=MH ltN fV cs.length cs rfl
structure Road where
 a:Int
 b:Int
 l:Option Int
 w:Int
noncomputable def G3:Option Int->D
 |none=>.AA
 |some i=>.int i
noncomputable def Be (r:Road):D:=.tup [.int r.a,.int r.b,G3 r.l,.int r.w]
noncomputable def Ap (m:Int)(rs:List Road):D:=.tup [.int m,.lst (rs.map Be)]
noncomputable def C7 (r:Road):Co:=match r.l with | none=>none | some l=>some (l,1)
structure Hs (m:Nat)(r:Road):Prop where
 a0:0<=r.a
 a1:r.a<m
 b0:0<=r.b
 b1:r.b<m
 l0:∀l,r.l=some l->0<=l
noncomputable def Dy (r:Road):Road:=⟨r.b,r.a,r.l,r.w⟩
theorem Vr {m:Nat}{r:Road}(h:Hs m r):NN (C7 r):=by
 unfold C7;split
 ·trivial
 ·rename_i l e;exact⟨h.l0 l e,by show (0:Int)<=1;decide⟩
noncomputable def atC (cs:List Co)(i:Int):Co:=cs.getD i.toNat none
theorem DH {cs:List Co}{i:Int}(h0:0<=i)(h1:i<cs.length):cs[i.toNat]?=some (atC cs i):=by
 unfold atC;rw[zy,zi (show i.toNat<cs.length by omega)];rfl
theorem set_same {α:Type}:∀ {l:List α}{i:Nat}{x:α},l[i]?=some x->l.set i x=l
 |[],_,_,h=>by cases h
 |y::r,0,x,h=>by cases h;rfl
 |y::r,i+1,x,h=>by rw[zo,set_same (by simpa using h)]
noncomputable def D9 (r:Road)(cs:List Co):List Co:=cs.set r.b.toNat (DF (atC cs r.b) (Aq (atC cs r.a) (C7 r)))
theorem Ht {cs:List Co}{i j:Int}{v:Co}(hi:0<=i)(hj:0<=j)(h1:i<cs.length):atC (cs.set i.toNat v) j=if j=i then v else atC cs j:=by
 unfold atC;rw[zy,zy];by_cases h:j=i
 ·subst h;rw[if_pos rfl,zK (by omega)];rfl
 ·rw[if_neg h,yE (by omega)]
structure Good (m s:Nat)(rs:List Road)(cs:List Co):Prop where
 len:cs.length=m
 st:atC cs s=some (0,0)
 nn:∀c∈cs,NN c
 sup:∀p:Int,0<=p->p<m->p≠s->atC cs p≠none->∃r∈rs,r.b=p/\BR (Aq (atC cs r.a) (C7 r)) (atC cs p)
theorem Good.iS {m s:Nat}{rs:List Road}{cs:List Co}(g:Good m s rs cs){i:Int}(h0:0<=i)(h1:i<m):NN (atC cs i):=
 g.nn _ (zk (DH h0 (by rw[g.len];exact h1)))
theorem WD {m s:Nat}{rs:List Road}{cs:List Co}{r:Road}(g:Good m s rs cs)(hr:r∈rs)(As:∀r∈rs,Hs m r):
 Good m s rs (D9 r cs)/\(∀i:Int,0<=i->BR (atC (D9 r cs) i) (atC cs i))/\(DF (atC cs r.b) (Aq (atC cs r.a) (C7 r))=atC cs r.b->D9 r cs=cs)/\
 (DF (atC cs r.b) (Aq (atC cs r.a) (C7 r))≠atC cs r.b->NU ltN (D9 r cs) cs):=by
 have ok:=As r hr;have bL:r.b<cs.length:=by rw[g.len];exact ok.b1
 have hx:NN (Aq (atC cs r.a) (C7 r)):=N1 (g.iS ok.a0 ok.a1) (Vr ok);have hv:NN (DF (atC cs r.b) (Aq (atC cs r.a) (C7 r))):=Z1 (g.iS ok.b0 ok.b1) hx;have ba:∀i:Int,0<=i->atC (D9 r cs) i=if i=r.b then DF (atC cs r.b) (Aq (atC cs r.a) (C7 r)) else atC cs i:=λ i hi=>Ht ok.b0 hi bL
 have le:∀i:Int,0<=i->BR (atC (D9 r cs) i) (atC cs i):=λ i hi=>by
  rw[ba i hi];by_cases h:i=r.b
  ·rw[if_pos h,h];exact EA _ _
  ·rw[if_neg h];exact C6 _
 refine⟨⟨by unfold D9;rw[yC];exact g.len,?_,λ c hc=>?_,λ p h0 h1 hp hn=>?_⟩,le,λ h=>?_,λ h=>?_⟩
 ·rw[ba s (by omega)];by_cases h:(s:Int)=r.b
  ·rw[if_pos h,<-h,g.st];cases q:Aq (atC cs r.a) (C7 r) with
   |none=>rfl
   |some x =>
    rw[q] at hx;unfold DF iR;dsimp only;rw[if_pos (by simp only[NN] at hx;omega)]
  ·rw[if_neg h];exact g.st
 ·unfold D9 at hc;rcases yX hc with h|h
  ·exact g.nn c h
  ·rw[h];exact hv
 ·rw[ba p h0] at hn ⊢;by_cases h:p=r.b
  ·rw[if_pos h] at hn ⊢;rcases Bo (atC cs r.b) (Aq (atC cs r.a) (C7 r)) with ⟨e,_⟩|⟨e,_⟩
   ·rw[e] at hn ⊢;subst h;obtain⟨r',h2,h3,h4⟩:=g.sup r.b h0 h1 hp hn;exact⟨r',h2,h3,An (Ca _ (le r'.a (As r' h2).a0)) h4⟩
   ·rw[e];exact⟨r,hr,h.symm,Ca _ (le r.a ok.a0)⟩
  ·rw[if_neg h] at hn ⊢;obtain⟨r',h2,h3,h4⟩:=g.sup p h0 h1 hp hn;exact⟨r',h2,h3,An (Ca _ (le r'.a (As r' h2).a0)) h4⟩
 ·unfold D9;rw[h];exact set_same (DH ok.b0 bL)
 ·unfold D9;exact V0 ltN (DH ok.b0 bL) ⟨hv,EA _ _,h⟩
def Right (m s:Nat)(rs:List Road)(cs:List Co):Prop:=
 cs.length=m/\atC cs s=some (0,0)/\(∀c∈cs,NN c)/\∀p:Int,0<=p->p<m->p≠s->atC cs p=Fu ((rs.filter λ r=>decide (r.b=p)).map λ r=>Aq (C7 r) (atC cs r.a))
theorem right_of {m s:Nat}{rs:List Road}{cs:List Co}(g:Good m s rs cs)(h:∀r∈rs,DF (atC cs r.b) (Aq (atC cs r.a) (C7 r))=atC cs r.b):Right m s rs cs:=by
 refine⟨g.len,g.st,g.nn,λ p h0 h1 hp=>?_⟩;symm;refine fU (λ x hx=>?_) λ hn=>?_
 ·obtain⟨r,hr,rfl⟩:=z6.mp hx;obtain⟨h2,h3⟩:=yI.mp hr;have e:r.b=p:=by simpa using h3
  have:=EB (atC cs r.b) (Aq (atC cs r.a) (C7 r));rw[h r h2,e] at this;rw[CH];exact this
 ·obtain⟨r,h2,h3,h4⟩:=g.sup p h0 h1 hp hn;refine⟨_,z6.mpr ⟨r,yI.mpr ⟨h2,by simpa using h3⟩,rfl⟩,?_⟩;rw[CH];exact h4
theorem N2 {m s:Nat}(rs:List Road)(h:s<m):Good m s rs ((zu m none).set s (some (0,0))):=by
 have hl:(zu m (none:Co)).length=m:=zao;have ba:∀i:Int,0<=i->atC ((zu m none).set s (some (0,0))) i=if i=s then some (0,0) else none:=λ i hi=>by
  have:=Ht (cs:=zu m none) (i:=(s:Int)) (j:=i) (v:=some (0,0)) (by omega) hi (by rw[hl];omega);rw[yF] at this;rw[this];by_cases h:i=s
  ·rw[if_pos h,if_pos h]
  ·rw[if_neg h,if_neg h];unfold atC;rw[zy,za1];split<;>rfl
 refine⟨by rw[yC,hl],?_,λ c hc=>?_,λ p h0 h1 hp hn=>?_⟩
 ·rw[ba s (by omega),if_pos rfl]
 ·rcases yX hc with h|h
  ·rw[List.eq_of_mem_replicate h];trivial
  ·rw[h];exact⟨Int.le_refl _,Int.le_refl _⟩
 ·rw[ba p h0,if_neg hp] at hn;exact (hn rfl).elim
theorem mE {α:Type}{l:List α}{n:Int}(h:0<=n/\n<l.length):PL l n=l[n.toNat]? :=by
 unfold PL Lc;obtain⟨h1,h2⟩:=h;simp[h1,h2]
theorem LZ {n:Nat}{j:Int}(h:0<=j/\j<n):Lc n j=some j.toNat:=by
 unfold Lc;obtain⟨h1,h2⟩:=h;simp[h1,h2]
theorem Jy {α:Type}{f:α->D}{l:List α}{n:Int}{x:α}(h0:0<=n)(h:l[n.toNat]?=some x):dM (.lst (l.map f)) (.int n)=.ok (f x):=by
 have h1:=(zw.mp h).1;unfold dM;dsimp only;rw[mE (by rw[zc];omega),z7,h];rfl
theorem CN {cs:List Co}{i:Int}(h0:0<=i)(h1:i<cs.length):dM (.lst (cs.map cst)) (.int i)=.ok (cst (atC cs i)):=Jy h0 (DH h0 h1)
theorem Ki {n:Nat}(c:Co):Pl (n+1) (cst c):=by
 cases c with
 |none=>exact Yi
 |some p=>exact lG (Ly (Ib _) (Ly (Ib _) Yj))
theorem Vs (a b:Co):Ay (cst a) (cst b)=decide (a=b):=by
 rcases a with _|⟨a1,a2⟩<;>rcases b with _|⟨b1,b2⟩
 ·simp[cst,Ay]
 ·simp[cst,Ay]
 ·simp[cst,Ay]
 ·rw[zac];simp[cst,Ay,Cq]
theorem fW (a b:Co):Xe 16 (cst a) (cst b)=.ok (.bl (!decide (a=b))):=by rw[TQ (Ki (n:=15) a) (Ki (n:=15) b),Vs]
theorem fX (a b:Co):dJ 16 (cst a) (cst b)=.ok (.bl (decide (a=b))):=by rw[TN (Ki (n:=15) a) (Ki (n:=15) b),Vs]
theorem Qh (c:Co):GX (cst c)=true:=by
 cases c<;>simp[cst,GX,IS]
theorem Qi (c:Co):dp (.ok (cst c))=.ok (cst c):=by
 unfold dp;rw[M.A7,if_pos (Qh c)]
theorem AR {a b:Int}(h:0<b):DB (.int a) (.int b)=.ok (.int (a%b)):=by
 unfold DB Bt;dsimp only;rw[if_pos h]
theorem DL {a b:Int}(h:Xv a b):IL (.int a) (.int b)=.ok (.int (a / b)):=by
 unfold IL Bt;dsimp only;rw[if_pos h]
inductive Wk (rs:List Road):Int->Int->Int×Int->Prop
 |nil (u:Int):Wk rs u u (0,0)
 |cons {r:Road} {l:Int} {w:Int} {c:Int×Int}:r∈rs->r.l=some l->Wk rs r.b w c->Wk rs r.a w (l+c.1,1+c.2)
theorem Wk.trans {rs:List Road}{u v w:Int}{c d:Int×Int}(h:Wk rs u v c)(k:Wk rs v w d):Wk rs u w (c.1+d.1,c.2+d.2):=by
 induction h with
 |nil u=>simpa using k
 |cons hr hl _ ih =>
  have:=Wk.cons hr hl (ih k);simpa [zav] using this
theorem Wk.one {rs:List Road}{r:Road}{l:Int}(hr:r∈rs)(hl:r.l=some l):Wk rs r.a r.b (l,1):=by
 have:=Wk.cons hr hl (Wk.nil (rs:=rs) r.b);simpa using this
def Cm (rs:List Road)(u w:Int)(x:Co):Prop:=(∀c,Wk rs u w c->BR x (some c))/\∀p,x=some p->Wk rs u w p
theorem Cm.Ci {rs:List Road}{u w:Int}{x y:Co}(h:Cm rs u w x)(k:Cm rs u w y):x=y:=by
 refine N0 ?_ ?_
 ·cases y with
  |none=>cases x<;>exact trivial
  |some q=>exact h.1 q (k.2 q rfl)
 ·cases x with
  |none=>cases y<;>exact trivial
  |some q=>exact k.1 q (h.2 q rfl)
theorem Jz {r:Road}{c:Int×Int}(h:C7 r=some c):∃l,r.l=some l/\c=(l,1):=by
 unfold C7 at h;split at h
 ·cases h
 ·rename_i l e;cases h;exact⟨l,e,rfl⟩
theorem F3 {a b:Co}{c:Int×Int}(h:Aq a b=some c):∃p q,a=some p/\b=some q/\c=(p.1+q.1,p.2+q.2):=by
 cases a with
 |none=>cases h
 |some p=>cases b with
  |none=>cases h
  |some q=>cases h;exact⟨p,q,rfl,rfl,rfl⟩
theorem Right.min_le {m s:Nat}{rs:List Road}{cs:List Co}(h:Right m s rs cs){r:Road}(hr:r∈rs)(As:Hs m r):BR (atC cs r.b) (Aq (C7 r) (atC cs r.a)):=by
 obtain⟨h1,h2,h3,h4⟩:=h;by_cases hs:r.b=s
 ·rw[hs,h2];have hn:NN (Aq (C7 r) (atC cs r.a)):=N1 (Vr As) (h3 _ (zk (DH As.a0 (by rw[h1];exact As.a1))));cases q:Aq (C7 r) (atC cs r.a) with
  |none=>exact trivial
  |some p=>rw[q] at hn;simp only[NN] at hn;simp only[BR];omega
 ·rw[h4 r.b As.b0 As.b1 hs];exact LY (z6.mpr ⟨r,yI.mpr ⟨hr,by simp⟩,rfl⟩)
theorem WE {m s:Nat}{rs:List Road}{cs:List Co}(h:Right m s rs cs)(As:∀r∈rs,Hs m r){u w:Int}{c:Int×Int}(k:Wk rs u w c):BR (atC cs w) (Aq (atC cs u) (some c)):=by
 induction k with
 |nil u =>
  cases atC cs u with
  |none=>exact trivial
  |some p=>simp only[Aq,BR];omega
 | @cons r l w c hr hl _ ih =>
  refine An ih ?_;have h1:=h.min_le hr (As r hr);have e:C7 r=some (l,1):=by unfold C7;rw[hl]
  rw[e] at h1;cases q:atC cs r.a with
  |none=>exact trivial
  |some p =>
   rw[q] at h1;cases q2:atC cs r.b with
   |none=>rw[q2] at h1;exact h1.elim
   |some p2=>rw[q2] at h1;simp only[Aq,BR] at *;omega
theorem WG {m s:Nat}{rs:List Road}{cs:List Co}(h:Right m s rs cs)(As:∀r∈rs,Hs m r):∀(n:Nat) (w:Int) (p:Int×Int),0<=w->w<m->atC cs w=some p->p.2.toNat=n->Wk rs s w p:=by
 obtain⟨h1,h2,h3,h4⟩:=h;intro n;induction n with
 |zero =>
  intro w p h0 hw hp hn;by_cases hs:w=s
  ·rw[hs,h2] at hp;cases hp;rw[hs];exact .nil _
  ·exfalso;have e:=h4 w h0 hw hs;rw[hp] at e;rcases Jx ((rs.filter λ r=>decide (r.b=w)).map λ r=>Aq (C7 r) (atC cs r.a)) with z|z
   ·rw[z] at e;cases e
   ·rw[<-e] at z;obtain⟨r,hr,e2⟩:=z6.mp z;have cp:=(yI.mp hr).1;obtain⟨p1,p2,e3,e4,e5⟩:=F3 e2;obtain⟨l,hl,rfl⟩:=Jz e3;have ok:=As r cp;have nn:=h3 _ (zk (DH ok.a0 (by rw[h1];exact ok.a1)));rw[e4] at nn;simp only[NN] at nn;rw[e5] at hn;simp only at hn;omega
 |succ n ih =>
  intro w p h0 hw hp hn;by_cases hs:w=s
  ·rw[hs,h2] at hp;cases hp;rw[hs];exact .nil _
  ·have e:=h4 w h0 hw hs;rw[hp] at e;rcases Jx ((rs.filter λ r=>decide (r.b=w)).map λ r=>Aq (C7 r) (atC cs r.a)) with z|z
   ·rw[z] at e;cases e
   ·rw[<-e] at z;obtain⟨r,hr,e2⟩:=z6.mp z;obtain⟨cp,p6⟩:=yI.mp hr;have p6:r.b=w:=by simpa using p6
    obtain⟨p1,p2,e3,e4,e5⟩:=F3 e2;obtain⟨l,hl,rfl⟩:=Jz e3;have ok:=As r cp;have nn:=h3 _ (zk (DH ok.a0 (by rw[h1];exact ok.a1)));rw[e4] at nn;simp only[NN] at nn;subst e5;simp only at hn;have w1:=ih r.a p2 ok.a0 ok.a1 e4 (by omega);have w2:=w1.trans (Wk.one cp hl);rw[p6] at w2;have e6:((l+p2.1,1+p2.2):Int×Int)=(p2.1+l,p2.2+1):=by rw[Int.add_comm l,Int.add_comm 1]
    show Wk rs s w (l+p2.1,1+p2.2);rw[e6];exact w2
theorem Right.iT {m s:Nat}{rs:List Road}{cs:List Co}(h:Right m s rs cs)(As:∀r∈rs,Hs m r){w:Int}(h0:0<=w)(hw:w<m):Cm rs s w (atC cs w):=by
 refine⟨λ c k=>?_,λ p hp=>WG h As _ w p h0 hw hp rfl⟩;have:=WE h As k;rw[h.2.1] at this;have e:Aq (some (0,0)) (some c)=some c:=by simp[Aq]
 rw[e] at this;exact this
theorem U6 {a b c d:Co}(h:BR a b)(k:BR c d):BR (Aq a c) (Aq b d):=by
 refine An (Ca c h) ?_;rw[CH b c,CH b d];exact Ca b k
theorem Ef:∀a b c:Co,Aq (Aq a b) c=Aq a (Aq b c)
 |none,b,c=>by cases b<;>cases c<;>rfl
 |some p,none,c=>by cases c<;>rfl
 |some p,some q,none=>rfl
 |some p,some q,some r=>by simp only[Aq];rw[zav,zav]
theorem Pd:∀a:Co,Aq a (some (0,0))=a
 |none=>rfl
 |some p=>by simp[Aq]
theorem WH (a:Co):Aq (some (0,0)) a=a:=by rw[CH];exact Pd a
theorem S7 (a:Co):DF a a=a:=by rcases Bo a a with ⟨e,_⟩ | ⟨e,_⟩<;>exact e
theorem Z2 {a b:Co}(h:NN b):BR a (Aq a b):=by
 cases a with
 |none=>exact trivial
 |some p=>cases b with
  |none=>exact trivial
  |some q=>simp only[NN] at h;simp only[Aq,BR];omega
structure FW (m k:Nat)(rs:List Road)(A:Int->Int->Co):Prop where
 dg:∀x:Int,0<=x->x<m->A x x=some (0,0)
 nn:∀x y:Int,0<=x->x<m->0<=y->y<m->NN (A x y)
 sd:∀x y:Int,0<=x->x<m->0<=y->y<m->∀p,A x y=some p->Wk rs x y p
 ed:∀r∈rs,BR (A r.a r.b) (C7 r)
 tr:∀v x y:Int,0<=v->v<k->0<=x->x<m->0<=y->y<m->BR (A x y) (Aq (A x v) (A v y))
noncomputable def over (k:Int)(A:Int->Int->Co):Int->Int->Co:=λ x y=>DF (A x y) (Aq (A x k) (A k y))
theorem S8 {m k:Nat}{rs:List Road}{A:Int->Int->Co}(F:FW m k rs A)(hk:k<m)(x:Int):over k A x k=A x k:=by
 unfold over;rw[F.dg k (by omega) (by omega),Pd,S7]
theorem S9 {m k:Nat}{rs:List Road}{A:Int->Int->Co}(F:FW m k rs A)(hk:k<m)(y:Int):over k A k y=A k y:=by
 unfold over;rw[F.dg k (by omega) (by omega),WH,S7]
theorem Z3 {m k:Nat}{rs:List Road}{A:Int->Int->Co}(F:FW m k rs A)(hk:k<m):FW m (k+1) rs (over k A):=by
 have k0:(0:Int)<=k:=by omega
 have k1:(k:Int)<m:=by omega
 refine⟨λ x h0 h1=>?_,λ x y h0 h1 h2 h3=>Z1 (F.nn x y h0 h1 h2 h3) (N1 (F.nn x k h0 h1 k0 k1) (F.nn k y k0 k1 h2 h3)),λ x y h0 h1 h2 h3 p hp=>?_,λ r hr=>An (EA _ _) (F.ed r hr),λ v x y v0 v1 h0 h1 h2 h3=>?_⟩
 ·unfold over;rw[F.dg x h0 h1];have hn:NN (Aq (A x k) (A k x)):=N1 (F.nn x k h0 h1 k0 k1) (F.nn k x k0 k1 h0 h1);cases q:Aq (A x k) (A k x) with
  |none=>rfl
  |some z =>
   rw[q] at hn;simp only[NN] at hn;unfold DF iR;dsimp only;rw[if_pos (by omega)]
 ·unfold over at hp;rcases Bo (A x y) (Aq (A x k) (A k y)) with ⟨e,_⟩|⟨e,_⟩
  ·rw[e] at hp;exact F.sd x y h0 h1 h2 h3 p hp
  ·rw[e] at hp;obtain⟨p1,p2,e1,e2,rfl⟩:=F3 hp;exact (F.sd x k h0 h1 k0 k1 p1 e1).trans (F.sd k y k0 k1 h2 h3 p2 e2)
 ·by_cases hv:v=k
  ·subst hv;rw[S8 F hk,S9 F hk];exact EB _ _
  ·have vk:v<k:=by omega
   have vm:v<m:=by omega
   have wq:=F.tr v x y v0 vk h0 h1 h2 h3;have wr:=F.tr v k y v0 vk k0 k1 h2 h3;have wt:=F.tr v x k v0 vk h0 h1 k0 k1;have g1:BR (over k A x y) (A x y):=EA _ _;have g2:BR (over k A x y) (Aq (A x k) (A k y)):=EB _ _;have wu:=F.nn k v k0 k1 v0 vm;have wv:=F.nn v k v0 vm k0 k1;have e1:over k A x v=DF (A x v) (Aq (A x k) (A k v)):=rfl;have e2:over k A v y=DF (A v y) (Aq (A v k) (A k y)):=rfl;rw[e1,e2];rcases Bo (A x v) (Aq (A x k) (A k v)) with ⟨e,_⟩|⟨e,_⟩<;>rcases Bo (A v y) (Aq (A v k) (A k y)) with ⟨e',_⟩|⟨e',_⟩<;>rw[e,e']
   ·exact An g1 wq
   ·refine An g2 ?_;rw[<-Ef];exact Ca _ wt
   ·refine An g2 ?_;rw[Ef,CH (A x k),CH (A x k)];exact Ca _ wr
   ·refine An g2 ?_;have e3:Aq (Aq (A x k) (A k v)) (Aq (A v k) (A k y))=Aq (Aq (A x k) (A k y)) (Aq (A k v) (A v k)):=by
     rw[Ef,Ef,<-Ef (A k v),CH (Aq (A k v) (A v k))]
    rw[e3];exact Z2 (N1 wu wv)
theorem mF {m:Nat}{rs:List Road}{A:Int->Int->Co}(F:FW m m rs A)(As:∀r∈rs,Hs m r){x y:Int}(h0:0<=x)(h1:x<m)(h2:0<=y)(h3:y<m):Cm rs x y (A x y):=by
 refine⟨λ c k=>?_,F.sd x y h0 h1 h2 h3⟩;induction k with
 |nil u=>rw[F.dg u h0 h1];exact C6 _
 | @cons r l w c hr hl k' ih =>
  have ok:=As r hr;have i1:=ih ok.b0 ok.b1 h2 h3;have t:=F.tr r.b r.a w ok.b0 (by have:=ok.b1;omega) h0 h1 h2 h3;have e:=F.ed r hr;have e':C7 r=some (l,1):=by unfold C7;rw[hl]
  rw[e'] at e;refine An t (An (U6 e i1) ?_);exact C6 _
structure N3 (m:Nat)(rs:List Road)(u:Int)(n:Nat)(R:List Co):Prop where
 len:R.length=m
 st:atC R u=some (0,0)
 nn:∀c∈R,NN c
 sd:∀y:Int,0<=y->y<m->∀p,atC R y=some p->Wk rs u y p
 ed:∀r∈rs.take n,r.a=u->BR (atC R r.b) (C7 r)
theorem WI {m u:Nat}(rs:List Road)(h:u<m):N3 m rs u 0 ((zu m none).set u (some (0,0))):=by
 have g:=N2 (m:=m) (s:=u) rs h;refine⟨g.len,g.st,g.nn,λ y h0 h1 p hp=>?_,λ r hr=>by rw[List.take_zero] at hr;cases hr⟩;by_cases hy:y=u
 ·rw[hy,g.st] at hp;cases hp;rw[hy];exact .nil _
 ·have:=Ht (cs:=zu m none) (i:=(u:Int)) (j:=y) (v:=some (0,0)) (by omega) h0 (by rw[zao];omega);rw[yF,if_neg hy] at this;rw[this] at hp;unfold atC at hp;rw[zy,za1] at hp;split at hp<;>cases hp
theorem Z4 {m:Nat}{rs:List Road}{u:Int}{n:Nat}{R:List Co}{r:Road}(g:N3 m rs u n R)(hr:rs[n]?=some r)(hu:r.a≠u):N3 m rs u (n+1) R:=
 ⟨g.len,g.st,g.nn,g.sd,λ r' bi aj=>by
  rw[yL,hr] at bi;rcases zv.mp bi with h|h
  ·exact g.ed r' h aj
  ·have:r'=r:=by simpa using h
   rw[this] at aj;exact (hu aj).elim⟩
theorem Z5 {m:Nat}{rs:List Road}{u:Int}{n:Nat}{R:List Co}{r:Road}(g:N3 m rs u n R)(hr:rs[n]?=some r)(hu:r.a=u)(As:∀r∈rs,Hs m r):N3 m rs u (n+1) (R.set r.b.toNat (DF (atC R r.b) (C7 r))):=by
 have hm:=zk hr;have ok:=As r hm;have bL:r.b<R.length:=by rw[g.len];exact ok.b1
 have ba:∀i:Int,0<=i->atC (R.set r.b.toNat (DF (atC R r.b) (C7 r))) i=if i=r.b then DF (atC R r.b) (C7 r) else atC R i:=λ i hi=>Ht ok.b0 hi bL
 have nb:NN (atC R r.b):=g.nn _ (zk (DH ok.b0 bL));refine⟨by rw[yC];exact g.len,?_,λ c hc=>?_,λ y h0 h1 p hp=>?_,λ r' bi aj=>?_⟩
 ·rw[ba u (by rw[<-hu];exact ok.a0)];by_cases h:u=r.b
  ·rw[if_pos h,<-h,g.st];have hx:=Vr ok;cases q:C7 r with
   |none=>rfl
   |some z =>
    rw[q] at hx;simp only[NN] at hx;unfold DF iR;dsimp only;rw[if_pos (by omega)]
  ·rw[if_neg h];exact g.st
 ·rcases yX hc with h|h
  ·exact g.nn c h
  ·rw[h];exact Z1 nb (Vr ok)
 ·rw[ba y h0] at hp;by_cases h:y=r.b
  ·rw[if_pos h] at hp;rcases Bo (atC R r.b) (C7 r) with ⟨e,_⟩|⟨e,_⟩
   ·rw[e] at hp;rw[h];exact g.sd r.b ok.b0 ok.b1 p hp
   ·rw[e] at hp;obtain⟨l,hl,rfl⟩:=Jz hp;rw[h,<-hu];exact Wk.one hm hl
  ·rw[if_neg h] at hp;exact g.sd y h0 h1 p hp
 ·have p7:r'∈rs:=y8 bi;rw[ba r'.b (As r' p7).b0];rw[yL,hr] at bi;rcases zv.mp bi with h|h
  ·by_cases hb:r'.b=r.b
   ·rw[if_pos hb];have:=g.ed r' h aj;rw[hb] at this;exact An (EA _ _) this
   ·rw[if_neg hb];exact g.ed r' h aj
  ·have e:r'=r:=by simpa using h
   rw[e,if_pos rfl];exact EB _ _
noncomputable def at2 (ac:List (List Co))(x y:Int):Co:=atC (ac.getD x.toNat []) y
noncomputable def Ar (ac:List (List Co)):List (List D):=ac.map λ R=>R.map cst
structure M2 (m:Nat)(ac:List (List Co)):Prop where
 len:ac.length=m
 row:∀R∈ac,R.length=m
theorem M2.get {m:Nat}{ac:List (List Co)}(h:M2 m ac){x:Int}(h0:0<=x)(h1:x<m):ac[x.toNat]?=some (ac.getD x.toNat [])/\(ac.getD x.toNat []).length=m:=by
 have hl:x.toNat<ac.length:=by rw[h.len];omega
 have e:ac[x.toNat]?=some (ac.getD x.toNat []):=by rw[zy,zi hl];rfl
 exact⟨e,h.row _ (zk e)⟩
noncomputable def put2 (ac:List (List Co))(x y:Int)(v:Co):List (List Co):=ac.set x.toNat ((ac.getD x.toNat []).set y.toNat v)
theorem M2.put {m:Nat}{ac:List (List Co)}(h:M2 m ac){x y:Int}(h0:0<=x)(h1:x<m)(h2:0<=y)(h3:y<m)(v:Co):M2 m (put2 ac x y v)/\∀x' y':Int,0<=x'->0<=y'->at2 (put2 ac x y v) x' y'=if x'=x/\y'=y then v else at2 ac x' y':=by
 obtain⟨e,hl⟩:=h.get h0 h1;refine⟨⟨by unfold put2;rw[yC];exact h.len,λ R hR=>?_⟩,λ x' y' hx hy=>?_⟩
 ·unfold put2 at hR;rcases yX hR with z|z
  ·exact h.row R z
  ·rw[z,yC];exact hl
 ·unfold at2 put2;by_cases t7:x'=x
  ·subst t7;have e2:(ac.set x'.toNat ((ac.getD x'.toNat []).set y.toNat v)).getD x'.toNat []=(ac.getD x'.toNat []).set y.toNat v:=by
    rw[zy (l:=ac.set _ _),zK (by rw[h.len];omega)];rfl
   rw[e2,Ht h2 hy (by rw[hl];exact h3)];by_cases lg:y'=y
   ·rw[if_pos lg,if_pos ⟨rfl,lg⟩]
   ·rw[if_neg lg,if_neg (λ z=>lg z.2)]
  ·have e2:(ac.set x.toNat ((ac.getD x.toNat []).set y.toNat v)).getD x'.toNat []=ac.getD x'.toNat []:=by
    rw[zy,yE (by omega),zy]
   rw[e2,if_neg (λ z=>t7 z.1)]
theorem Sa {m:Nat}{ac:List (List Co)}(h:M2 m ac){x:Int}(h0:0<=x)(h1:x<m):rowAt (Ar ac) (.int x)=.ok ((ac.getD x.toNat []).map cst):=by
 obtain⟨e,hl⟩:=h.get h0 h1;have e1:Lc (Ar ac).length x=some x.toNat:=LZ ⟨h0,by unfold Ar;rw[zc,h.len];exact h1⟩;have e2:(Ar ac)[x.toNat]?=some ((ac.getD x.toNat []).map cst):=by unfold Ar;rw[z7,e];rfl
 unfold rowAt;simp only[e1,e2]
theorem fY {m:Nat}{ac:List (List Co)}(h:M2 m ac){x y:Int}(h0:0<=x)(h1:x<m)(h2:0<=y)(h3:y<m):dM (.lst ((ac.getD x.toNat []).map cst)) (.int y)=.ok (cst (at2 ac x y)):=
 CN h2 (by rw[(h.get h0 h1).2];exact h3)
theorem fZ {m:Nat}{ac:List (List Co)}(h:M2 m ac){x y:Int}(h0:0<=x)(h1:x<m)(h2:0<=y)(h3:y<m)(i:Nat)(ρ:Ac)(v:Co):eB i ρ (Ar ac) (cst v) (.int x) ((ac.getD x.toNat []).map cst) (.int y)=.ok (.next (ρ.set i (some (.ow (.rows (Ar (put2 ac x y v))))))):=by
 have e1:Lc (Ar ac).length x=some x.toNat:=LZ ⟨h0,by unfold Ar;rw[zc,h.len];exact h1⟩;have e2:Lc ((ac.getD x.toNat []).map cst).length y=some y.toNat:=LZ ⟨h2,by rw[zc,(h.get h0 h1).2];exact h3⟩;unfold eB;simp only[e1,e2];unfold Ar put2;rw[zan,zan]
theorem FW.congr {m k:Nat}{rs:List Road}{A B:Int->Int->Co}(F:FW m k rs A)(hk:k<=m)(As:∀r∈rs,Hs m r)(h:∀x y:Int,0<=x->x<m->0<=y->y<m->B x y=A x y):FW m k rs B:=by
 refine⟨λ x h0 h1=>?_,λ x y h0 h1 h2 h3=>?_,λ x y h0 h1 h2 h3 p hp=>?_,λ r hr=>?_,λ v x y v0 v1 h0 h1 h2 h3=>?_⟩
 ·rw[h x x h0 h1 h0 h1];exact F.dg x h0 h1
 ·rw[h x y h0 h1 h2 h3];exact F.nn x y h0 h1 h2 h3
 ·rw[h x y h0 h1 h2 h3] at hp;exact F.sd x y h0 h1 h2 h3 p hp
 ·have ok:=As r hr;rw[h r.a r.b ok.a0 ok.a1 ok.b0 ok.b1];exact F.ed r hr
 ·rw[h x y h0 h1 h2 h3,h x v h0 h1 v0 (by omega),h v y v0 (by omega) h2 h3];exact F.tr v x y v0 v1 h0 h1 h2 h3
theorem Z6 {m:Nat}{rs:List Road}{ac:List (List Co)}(hM:M2 m ac)(As:∀r∈rs,Hs m r)(h:∀u:Nat,u<m->N3 m rs u rs.length (ac.getD u [])):FW m 0 rs (at2 ac):=by
 have key:∀x:Int,0<=x->x<m->N3 m rs x rs.length (ac.getD x.toNat []):=λ x h0 h1=>by
  have:=h x.toNat (by omega);rw[Int.toNat_of_nonneg h0] at this;exact this
 refine⟨λ x h0 h1=>(key x h0 h1).st,λ x y h0 h1 h2 h3=>(key x h0 h1).nn _ (zk (DH h2 (by rw[(key x h0 h1).len];exact h3))),λ x y h0 h1 h2 h3 p hp=>(key x h0 h1).sd y h2 h3 p hp,λ r hr=>?_,λ v x y v0 v1=>by omega⟩;have ok:=As r hr;exact (key r.a ok.a0 ok.a1).ed r (by rw[yK];exact hr) rfl
noncomputable def hit (rs:List Road)(cs:List Co)(p:Nat)(k:Nat):Bool:=match rs[k]? with
 |some r=>decide (r.b=(p:Int))&&decide (Aq (atC cs r.a) (C7 r)≠none)&&decide (Aq (atC cs r.a) (C7 r)=atC cs (p:Int))
 |none=>false
theorem Wk.nn {m:Nat}{rs:List Road}(As:∀r∈rs,Hs m r){u w:Int}{c:Int×Int}(h:Wk rs u w c):0<=c.1/\0<=c.2:=by
 induction h with
 |nil=>exact⟨Int.le_refl _,Int.le_refl _⟩
 |cons hr hl _ ih =>
  have:=(As _ hr).l0 _ hl;simp only;omega
noncomputable def pD (p:Int×Int):D:=.tup [.int p.1,.int p.2]
theorem Gu (p q:Int×Int):Ay (pD p) (pD q)=decide (p=q):=by
 obtain⟨a,b⟩:=p;obtain⟨c,d⟩:=q;unfold pD;simp only[Ay,Cq,Bool.and_true];rw[zac];simp
theorem Gv (p:Int×Int):keyOk true (pD p)=true:=rfl
theorem Vt (B:List (Int×Int))(p:Int×Int):Lg (B.map pD) (pD p)=decide (p∈B):=by
 unfold Lg;rw[List.any_map,zac];simp only[List.any_eq_true,Function.comp,Gu,decide_eq_true_eq];constructor
 ·rintro ⟨x,hx,rfl⟩;exact hx
 ·intro h;exact⟨p,h,rfl⟩
theorem Qj (B:List (Int×Int))(vs:List D)(neg:Bool)(a b:Int):IY neg (.tup [.int a,.int b]) (.Bl true (B.map pD) vs)=.ok (.bl (if neg=true then !decide ((a,b)∈B) else decide ((a,b)∈B))):=by
 unfold IY;dsimp only;have h1:keyOk true (D.tup [D.int a,D.int b])=true:=rfl;have h2:Lg (B.map pD) (D.tup [D.int a,D.int b])=decide ((a,b)∈B):=Vt B (a,b);rw[if_pos h1,h2]
noncomputable def Kj (B:List (Int×Int))(p:Int×Int):List (Int×Int):=if p∈B then B else B++[p]
noncomputable def CZ {α:Type}(B:List α):List D:=B.map λ _=>.bl true
theorem Pe {α:Type}(f:α->D)(y:D):∀B:List α,Ij (B.map f) (CZ B) y (.bl true)=CZ B
 |[]=>rfl
 |b::r=>by
  show Ij (f b::r.map f) (.bl true::CZ r) y (.bl true)=.bl true::CZ r;rw[Ij,Pe f y r];split<;>rfl
theorem Vu (B:List (Int×Int))(p:Int×Int):putD (B.map pD) (CZ B) (pD p) (.bl true)=((Kj B p).map pD,CZ (Kj B p)):=by
 unfold putD Kj;rw[Vt];by_cases h:p∈B
 ·rw[decide_eq_true h,if_pos rfl,if_pos h,Pe]
 ·rw[decide_eq_false h,if_neg (by simp),if_neg h];unfold CZ;simp
theorem Sb {B:List (Int×Int)}{p q:Int×Int}:q∈Kj B p↔q∈B\/q=p:=by
 unfold Kj;split
 ·constructor
  ·exact .inl
  ·rintro (h|rfl)
   ·exact h
   ·assumption
 ·simp
theorem U7 {B:List (Int×Int)}{p:Int×Int}(h:B.Nodup):(Kj B p).Nodup:=by
 unfold Kj;split
 ·exact h
 ·rename_i hn;exact zA.mpr ⟨h,by simp,λ a ha b hb z=>by simp at hb;subst hb;subst z;exact hn ha⟩
theorem Kk {α:Type}[DecidableEq α]:∀ {l u:List α},l.Nodup->(∀x∈l,x∈u)->l.length<=u.length
 |[],_,_,_=>zJ _
 |x::r,u,nd,h=>by
  have aY:=zV.mp nd;have hx:=h x zd;have ih:=Kk (l:=r) (u:=u.erase x) aY.2 λ y hy=>(List.mem_erase_of_ne (λ z=>aY.1 (by rw[<-z];exact hy))).mpr (h y (ze _ hy));have e:=List.length_erase_of_mem hx;have:0<u.length:=List.length_pos_of_mem hx;rw[zl];omega
theorem Z7 (p:Int×Int):GX (pD p)=true:=by simp[pD,GX,IS]
noncomputable def B2 (m:Nat):List Int:=(yD m).map λ i:Nat=>(i:Int)
theorem N4 (m:Nat):((yD m).map λ i:Nat=>D.int (i:Int))=(B2 m).map D.int:=by unfold B2;rw[zH];rfl
theorem F4 (m:Nat):(B2 m).length=m:=by unfold B2;simp
theorem Gw {m:Nat}{p:Int}:p∈B2 m↔0<=p/\p<m:=by
 unfold B2;constructor
 ·intro h;obtain⟨i,hi,rfl⟩:=z6.mp h;have:=zaj.mp hi;omega
 ·rintro ⟨h0,h1⟩;exact z6.mpr ⟨p.toNat,zaj.mpr (by omega),by omega⟩
noncomputable def B7 (B:List (Int×Int))(L:List Int)(v:Int):List (Int×Int):=(L.filter λ u=>decide ((u,v)∈B)).flatMap λ u=>((L.filter λ w=>decide ((v,w)∈B)).filter λ w=>decide (u≠w) && !decide ((u,w)∈B)).map λ w=>(u,w)
def mG (B:List (Int×Int)):Prop:=∀x,(x,x)∉B
theorem WJ (B:List (Int×Int))(L:List Int)(v:Int):(B7 B L v).length<=L.length*L.length:=by
 unfold B7;rw[List.length_flatMap];have key:∀l:List Int,(l.map λ u=>(((L.filter λ w=>decide ((v,w)∈B)).filter λ w=>decide (u≠w) && !decide ((u,w)∈B)).map λ w=>(u,w)).length).sum<=l.length*L.length:=by
  intro l;induction l with
  |nil=>simp
  |cons u r ih =>
   rw[zf,List.sum_cons,zl,Nat.succ_mul];have:(((L.filter λ w=>decide ((v,w)∈B)).filter λ w=>decide (u≠w) && !decide ((u,w)∈B)).map λ w=>(u,w)).length<=L.length:=by
    rw[zc];exact yG (List.length_filter_le _ _) (List.length_filter_le _ _)
   omega
 exact yG (key _) (Nat.mul_le_mul_right _ (List.length_filter_le _ _))
theorem Pf {α:Type}(f:α->List Int):∀l:List α,Gh (l.map λ x=>D.tup ((f x).map D.int))=some (l.map λ x=>(D.tup ((f x).map D.int),f x))
 |[]=>rfl
 |x::r=>by
  rw[zf,Gh,Pf f r];simp[Yd,EX]
theorem Pg {B:List (Int×Int)}{L:List Int}{v:Int}{p:Int×Int}(h:p∈B7 B L v):p.1∈L/\p.2∈L/\p.1≠p.2:=by
 unfold B7 at h;obtain⟨u,hu,h⟩:=List.mem_flatMap.mp h;obtain⟨w,hw,rfl⟩:=z6.mp h;have h1:=yI.mp hw;have h2:=yI.mp h1.1;have h3:=yI.mp hu;simp at h1;exact⟨h3.1,h2.1,h1.2.1⟩
noncomputable def Ce (B ps:List (Int×Int)):List (Int×Int):=ps.foldl Kj B
structure Cg (m:Nat)(B:List (Int×Int)):Prop where
 nd:B.Nodup
 no:mG B
 vE:∀p∈B,(0<=p.1/\p.1<m)/\(0<=p.2/\p.2<m)
theorem Cg.add {m:Nat}{B:List (Int×Int)}(h:Cg m B){p:Int×Int}(hp:p.1≠p.2)(h1:0<=p.1/\p.1<m)(h2:0<=p.2/\p.2<m):Cg m (Kj B p):=by
 refine⟨U7 h.nd,λ x hx=>?_,λ q hq=>?_⟩
 ·rcases Sb.mp hx with z|z
  ·exact h.no x z
  ·subst z;exact hp rfl
 ·rcases Sb.mp hq with z|z
  ·exact h.vE q z
  ·subst z;exact⟨h1,h2⟩
theorem Cg.Ce {m:Nat}{B:List (Int×Int)}(h:Cg m B):∀ {ps:List (Int×Int)},(∀p∈ps,p.1≠p.2/\(0<=p.1/\p.1<m)/\(0<=p.2/\p.2<m))->Cg m (L2.Ce B ps):=by
 intro ps;induction ps generalizing B with
 |nil=>intro _;exact h
 |cons p r ih =>
  intro hp;have:=hp p zd;exact ih (h.add this.1 this.2.1 this.2.2) λ q hq=>hp q (ze _ hq)
theorem Cg.len {m:Nat}{B:List (Int×Int)}(h:Cg m B)(hm:m<=20):B.length<1000:=by
 have key:=Kk (l:=B) (u:=(yD m).flatMap λ i:Nat=>(yD m).map λ j:Nat=>((i:Int),(j:Int))) h.nd λ p hp=>by
  obtain⟨h1,h2⟩:=h.vE p hp;refine List.mem_flatMap.mpr ⟨p.1.toNat,zaj.mpr (by omega),z6.mpr ⟨p.2.toNat,zaj.mpr (by omega),?_⟩⟩;rw[Int.toNat_of_nonneg h1.1,Int.toNat_of_nonneg h2.1]
 have e:((yD m).flatMap λ i:Nat=>(yD m).map λ j:Nat=>((i:Int),(j:Int))).length=m*m:=by
  rw[List.length_flatMap];simp[List.map_const',List.sum_replicate_nat]
 rw[e] at key;have:m*m<=20*20:=Nat.mul_le_mul hm hm;omega
theorem EL (a b c d:Int):HT.lexLt [a,b] [c,d]=decide (a<c\/(a=c/\b<d)):=by
 rw[HT.Fd,HT.Fd,HT.EE,zac];by_cases h1:a=c
 ·subst h1;by_cases h2:b=d
  ·subst h2;simp
  ·simp[h2]
 ·simp[h1]
theorem WK {α β:Type}(f:α->β):∀bs:List (α×List Int),B3 (bs.map λ b=>(f b.1,b.2))=(B3 bs).map λ b=>(f b.1,b.2):=by
 intro bs;unfold B3
 suffices z:∀o:Option (α×List Int),(bs.map λ b=>(f b.1,b.2)).foldl BL (o.map λ b=>(f b.1,b.2))=(bs.foldl BL o).map λ b=>(f b.1,b.2) from z none
 induction bs with
 |nil=>intro o;rfl
 |cons b r ih =>
  intro o;rw[zf,zM,zM,<-ih];congr 1;cases o with
  |none=>rfl
  |some c =>
   unfold BL;dsimp only [yW];split<;>rfl
theorem Z8 {α:Type}:∀(bs:List (α×List Int)) (o:Option (α×List Int)) (b:α×List Int),bs.foldl BL o=some b->b∈bs\/o=some b:=by
 intro bs;induction bs with
 |nil=>intro o b h;exact .inr h
 |cons x r ih =>
  intro o b h;rw[zM] at h;rcases ih _ _ h with q|q
  ·exact .inl (ze _ q)
  ·cases o with
   |none=>cases q;exact .inl zd
   |some c =>
    unfold BL at q;dsimp only at q;split at q
    ·cases q;exact .inl zd
    ·exact .inr q
theorem WL {α:Type}{bs:List (α×List Int)}(h2:∀b∈bs,∃x y:Int,b.2=[x,y]){b:α×List Int}(hb:B3 bs=some b):∀c∈bs,HT.lexLt c.2 b.2=false:=by
 unfold B3 at hb
 suffices z:∀(bs:List (α×List Int)) (o:Option (α×List Int)),(∀b∈bs,∃x y:Int,b.2=[x,y])->(∀b,o=some b->∃x y:Int,b.2=[x,y])->∀b,bs.foldl BL o=some b->(∀c∈bs,HT.lexLt c.2 b.2=false)/\(∀c,o=some c->HT.lexLt c.2 b.2=false) from (z bs none h2 (λ b h=>by cases h) b hb).1
 intro bs;induction bs with
 |nil =>
  intro o _ ho b h;refine⟨λ c hc=>(by cases hc),λ c hc=>?_⟩;have e:o=some b:=h;rw[hc] at e;cases e;obtain⟨x,y,e⟩:=ho _ hc;rw[e,EL];simp
 |cons d r ih =>
  intro o h2 ho b h;rw[zM] at h;have hd:=h2 d zd;have aP:∀b,BL o d=some b->∃x y:Int,b.2=[x,y]:=λ b hb=>by
   unfold BL at hb;cases o with
   |none=>cases hb;exact hd
   |some c =>
    dsimp only at hb;split at hb
    ·cases hb;exact hd
    ·cases hb;exact ho _ rfl
  obtain⟨i1,i2⟩:=ih (BL o d) (λ c hc=>h2 c (ze _ hc)) aP b h;have ww:=Ik o d;obtain⟨k,hk⟩:∃k,BL o d=some k:=by
   cases q:BL o d with
   |none=>exact (ww q).elim
   |some k=>exact⟨k,rfl⟩
  have wx:=i2 k hk;obtain⟨kx,ky,ek⟩:=aP k hk;have fb:∃x y:Int,b.2=[x,y]:=by
   have:=Z8 r (BL o d) b h;rcases this with z|z
   ·exact h2 b (ze _ z)
   ·exact aP b z
  obtain⟨bx,yq,eb⟩:=fb;obtain⟨dx,dy,ed⟩:=hd;rw[ek,eb,EL,decide_eq_false_iff_not] at wx;have cf:HT.lexLt d.2 b.2=false/\∀c,o=some c->HT.lexLt c.2 b.2=false:=by
   unfold BL at hk;cases o with
   |none =>
    cases hk;rw[ed] at ek;injection ek with e1 e2
    injection e2 with e2 _
    refine⟨?_,λ c hc=>by cases hc⟩;rw[ed,eb,EL,decide_eq_false_iff_not];omega
   |some c =>
    obtain⟨cx,cy,ec⟩:=ho c rfl;dsimp only at hk;rw[ed,ec,EL] at hk;by_cases hl:dx<cx\/(dx=cx/\dy<cy)
    ·rw[if_pos (decide_eq_true hl)] at hk;cases hk;rw[ed] at ek;injection ek with e1 e2
     injection e2 with e2 _
     refine⟨?_,λ c' b5=>?_⟩
     ·rw[ed,eb,EL,decide_eq_false_iff_not];omega
     ·cases b5;rw[ec,eb,EL,decide_eq_false_iff_not];omega
    ·rw[if_neg (by simpa using hl)] at hk;cases hk;rw[ec] at ek;injection ek with e1 e2
     injection e2 with e2 _
     refine⟨?_,λ c' b5=>?_⟩
     ·rw[ed,eb,EL,decide_eq_false_iff_not];omega
     ·cases b5;rw[ec,eb,EL,decide_eq_false_iff_not];omega
  refine⟨λ c hc=>?_,cf.2⟩;rcases zp.mp hc with z|z
  ·rw[z];exact cf.1
  ·exact i1 c z
noncomputable def Bm (B:List (Int×Int))(L:List Int):Int:=match B3 (L.map λ p=>(p,[((B7 B L p).length:Int),p])) with
 |some k=>k.1
 |none=>0
theorem Ph {B:List (Int×Int)}{L:List Int}(h:L≠[]):Bm B L∈L/\∀p∈L,¬ (((B7 B L p).length:Int)<(B7 B L (Bm B L)).length\/(((B7 B L p).length:Int)=(B7 B L (Bm B L)).length/\p<Bm B L)):=by
 unfold Bm;cases q:B3 (L.map λ p=>(p,[((B7 B L p).length:Int),p])) with
 |none=>exact (MR (λ z=>h (List.map_eq_nil_iff.mp z)) q).elim
 |some k =>
  obtain⟨p,hp,rfl⟩:=z6.mp (K7 _ _ q);refine⟨hp,λ p' iy=>?_⟩;have:=WL (λ b hb=>by obtain⟨x,_,rfl⟩:=z6.mp hb;exact⟨_,_,rfl⟩) q _ (z6.mpr ⟨p',iy,rfl⟩);rw[EL,decide_eq_false_iff_not] at this;exact this
noncomputable def Ta:Nat->List (Int×Int)->List Int->List Int
 |0,_,_=>[]
 |n+1,B,L=>if L=[] then [] else Bm B L::Ta n (Ce B (B7 B L (Bm B L))) (L.erase (Bm B L))
noncomputable def By (rs:List Road):List (Int×Int):=rs.foldl (λ B r=>match r.l with | none=>B | some _=>Kj B (r.a,r.b)) []
theorem Sd {m:Nat}:∀ {rs:List Road},(∀r∈rs,Hs m r/\r.a≠r.b)->Cg m (By rs):=by
 intro rs
 suffices z:∀(rs:List Road) (B:List (Int×Int)),Cg m B->(∀r∈rs,Hs m r/\r.a≠r.b)->Cg m (rs.foldl (λ B r=>match r.l with|none=>B|some _=>Kj B (r.a,r.b)) B) from λ h=>z rs [] ⟨yM,λ x h=>(by cases h),λ p h=>(by cases h)⟩ h
 intro rs;induction rs with
 |nil=>intro B h _;exact h
 |cons r t ih =>
  intro B h hr;rw[zM];refine ih _ ?_ λ r' h'=>hr r' (ze _ h');have:=hr r zd;cases r.l with
  |none=>exact h
  |some l=>exact h.add this.2 ⟨this.1.a0,this.1.a1⟩ ⟨this.1.b0,this.1.b1⟩
theorem F5 {f:Int->Int->M D}{a b:Int}:Bt f (.int a) (.int b)=f a b:=rfl
theorem Gx {bs:List Bool}:Wd [.lst (bs.map D.bl)]=.ok (.bl (bs.all id)):=by unfold Wd;dsimp only;rw[MC]
theorem JA {bs:List Bool}:qD [.lst (bs.map D.bl)]=.ok (.bl (bs.any id)):=by unfold qD;dsimp only;rw[MC]
theorem Qk {a b:List D}(h:a.length+b.length<=1000):MJ (.lst a) (.lst b)=.ok (.lst ((a++b).map .sh)):=if_pos h
theorem Se (m:Nat):(B2 m).Pairwise (·<=·):=by
 unfold B2;rw[List.pairwise_map];exact (List.pairwise_lt_range (n:=m)).imp λ h=>by omega
theorem N5 (m:Nat):(B2 m).Nodup:=by
 unfold B2 List.Nodup;rw[List.pairwise_map];exact (List.pairwise_lt_range (n:=m)).imp λ h=>by omega
theorem WM {m:Nat}{L:List Int}:Gq L=B2 m↔L.Perm (B2 m):=
 ⟨λ h=>by rw[<-h];exact (Ee L).symm,λ h=>Gr ((Ee L).trans h) (Ft L) (Se m)⟩
theorem JB {m:Nat}{L:List Int}(h:L.Perm (B2 m)):L.length=m:=by rw[h.length_eq,F4]
theorem BV {m:Nat}{L:List Int}(h:L.Perm (B2 m)){p:Int}:p∈L↔0<=p/\p<m:=by rw[h.mem_iff,Gw]
theorem Ip {m:Nat}{L:List Int}(h:L.Perm (B2 m)):L.Nodup:=h.nodup_iff.mpr (N5 m)
theorem Pj:∀ {a b:List Int},Cq (a.map D.int) (b.map D.int)=decide (a=b)
 |[],[]=>by simp[Cq]
 |[],y::t=>by simp[Cq]
 |x::r,[]=>by simp[Cq]
 |x::r,y::t=>by
  rw[zf,zf,Cq,Pj,Ay];by_cases h:x=y<;>by_cases k:r=t<;>simp[h,k]
theorem Z9 {a b:List Int}:Ay (.lst (a.map D.int)) (.lst (b.map D.int))=decide (a=b):=by rw[Ay];exact Pj
theorem Za {a b:List Int}:dJ 16 (.lst (a.map D.int)) (.lst (b.map D.int))=.ok (.bl (decide (a=b))):=by rw[TN (Lx (n:=15) a) (Lx (n:=15) b),Z9]
theorem WN {i:Nat}{L:List Int}(h:L.Perm (B2 i))(n:Nat):(L.take n++(i:Int)::L.drop n).Perm (B2 (i+1)):=by
 have e:B2 (i+1)=B2 i++[(i:Int)]:=by unfold B2;rw[List.range_succ,zG];rfl
 rw[e];refine List.perm_middle.trans ?_;rw[yY];exact ((h.cons _).trans (List.perm_append_singleton _ _).symm)
theorem JC {i:Nat}{ρ:Ac}{ds:List D}{d:D}{p:Int}(hi:ρ[i]?=some (some (.own ds)))(h0:0<=p)(h1:p<ds.length):dR i ρ (.ok (.int p)) d=.ok (.next (ρ.set i (some (.own (ds.set p.toNat d))))):=by
 unfold dR;rw[hi];dsimp only;rw[M.A7];unfold lH;dsimp only;rw[LZ ⟨h0,h1⟩]
theorem gB {ρ:Ac}:Yw 0 (none::ρ)=none::ρ:=rfl
theorem Zb:∃T Q:Int,W5 (.int 10) (.int 60)=.ok (.int T)/\W5 (.int 982451653) (.int 7)=.ok (.int Q)/\1000000<T/\T.natAbs<2^200/\0<Q/\Q.natAbs<2^250:=⟨10^60,982451653^7,rfl,rfl,by decide,by decide,by decide,by decide⟩
noncomputable def NV:Int:=zg Zb
theorem iU:∃Q:Int,W5 (.int 10) (.int 60)=.ok (.int NV)/\W5 (.int 982451653) (.int 7)=.ok (.int Q)/\1000000<NV/\NV.natAbs<2^200/\0<Q/\Q.natAbs<2^250:=zb Zb
theorem iV:W5 (.int 10) (.int 60)=.ok (.int NV):=(zb iU).1
theorem Ql:1000000<NV:=(zb iU).2.2.1
theorem gC {i:Int}:DB (.int i) (.int NV)=.ok (.int (i%NV)):=AR (by have:=Ql;omega)
def cl:Nat->D->Prop
 |0,d=>pY d=false
 |n+1,d=>pY d=false/\∀ds,(d=.tup ds\/d=.lst ds)->∀e∈ds,cl n e
structure Gy (m:Nat)(r:Road):Prop where
 a0:0<=r.a
 a1:r.a<m
 b0:0<=r.b
 b1:r.b<m
 ab:r.a≠r.b
 l0:∀l,r.l=some l->0<=l/\l<NV
 w0:0<=r.w
 w1:r.w<NV
theorem Zc {S:List D}{q:Int}(h:0<S.length)(h0:0<=q):DB (.int q) (.int (S.length:Int))=.ok (.int (q%S.length))/\∃y,y∈S/\AX (.lst S) (.int (q%(S.length:Int)))=.ok y:=by
 have bA:(0:Int)<(S.length:Int):=by omega
 have b0:0<=q%(S.length:Int):=zae _ (by omega);have b1:q%(S.length:Int)<S.length:=za6 _ bA;refine⟨AR bA,S[(q%(S.length:Int)).toNat]'(by omega),List.getElem_mem _,?_⟩;have:=Jy (f:=λ d:D=>d) (l:=S) b0 (zi (by omega));rw[List.map_id'] at this;exact this
theorem gD {a b:OT}:er (.tup [a,b])=.tup [er a,er b]:=by simp[er,RC]
section
variable {α β:Type}{a b c d e f g:α}{x y:β}
theorem gE:(if [a,b,c,d,e].length<=1000 then x else y)=x:=rfl
theorem gF:(if [a,b,c,d,e,f].length<=1000 then x else y)=x:=rfl
theorem gH:(if [a,b,c,d,e,f,g].length<=1000 then x else y)=x:=rfl
theorem M3 {t:Bool}:er (.Bl t [] [])=.Bl t [] []:=by simp[er,RC]
end
structure WO (m:Nat)(rs:List Road)(rk:Int->Nat)(Af:Int->Int->Co):Prop where
 snd:∀x y c,Af x y=some c->Wk rs x y c/\x≠y/\(0<=x/\x<m)/\0<=y/\y<m
 road:∀r∈rs,BR (Af r.a r.b) (C7 r)
 wC:∀p x y,x≠y->rk p<rk x->rk p<rk y->BR (Af x y) (Aq (Af x p) (Af p y))
 inj:∀x y:Int,0<=x->x<m->0<=y->y<m->rk x=rk y->x=y
 nn:∀x y c,Wk rs x y c->0<=c.1/\0<=c.2
inductive Oa (Af:Int->Int->Co) (rk:Int->Nat) (s:Int):Int->Int×Int->Prop
 |nil:Oa Af rk s s (0,0)
 |snoc {x y:Int} {c d:Int×Int}:Oa Af rk s x c->rk x<rk y->Af x y=some d->Oa Af rk s y (c.1+d.1,c.2+d.2)
inductive Sf (Af:Int->Int->Co) (rk:Int->Nat) (t:Int):Nat->Int->Int×Int->Prop
 |nil:Sf Af rk t 0 t (0,0)
 |snoc {n:Nat} {x y:Int} {c d:Int×Int}:Sf Af rk t n x c->rk y<rk x->Af x y=some d->Sf Af rk t (n+1) y (c.1+d.1,c.2+d.2)
def Tb (p q:Int×Int):Prop:=p.1<q.1\/(p.1=q.1/\p.2<=q.2)
theorem Zd {a:Co}{q:Int×Int}(h:BR a (some q)):∃p,a=some p/\Tb p q:=by
 cases a with
 |none=>exact h.elim
 |some p=>exact⟨p,rfl,h⟩
def UD (Af:Int->Int->Co)(rk:Int->Nat)(s w:Int)(c:Int×Int):Prop:=∃t n c1 c2,Oa Af rk s t c1/\Sf Af rk t n w c2/\Tb (c1.1+c2.1,c1.2+c2.2) c
section
variable {m:Nat}{rs:List Road}{rk:Int->Nat}{Af Cf:Int->Int->Co}{s w:Int}
theorem Oa.walk (L:WO m rs rk Af){t:Int}{c:Int×Int}(h:Oa Af rk s t c):Wk rs s t c:=by
 induction h with
 |nil=>exact .nil s
 |snoc _ _ ha ih=>exact ih.trans (L.snd _ _ _ ha).1
theorem Sf.walk (L:WO m rs rk Af){t x:Int}{n:Nat}{c:Int×Int}(h:Sf Af rk t n x c):Wk rs t x c:=by
 induction h with
 |nil=>exact .nil t
 |snoc _ _ ha ih=>exact ih.trans (L.snd _ _ _ ha).1
theorem mH (L:WO m rs rk Af):∀(n:Nat){t x y:Int}{c1 c2 d:Int×Int},Oa Af rk s t c1->Sf Af rk t n x c2->Af x y=some d->UD Af rk s y (c1.1+c2.1+d.1,c1.2+c2.2+d.2):=by
 intro n;induction n with
 |zero =>
  intro t x y c1 c2 d hu hd ha;obtain⟨_,ae,hx,hy⟩:=L.snd _ _ _ ha;cases hd with
  |nil =>
   by_cases h:rk y<rk t
   ·exact⟨t,1,c1,_,hu,.snoc .nil h ha,by simp only[Tb];omega⟩
   ·have h2:rk t<rk y:=by
     have hq:rk t≠rk y:=λ e=>ae (L.inj t y hx.1 hx.2 hy.1 hy.2 e);omega
    exact⟨y,0,_,_,.snoc hu h2 ha,.nil,by simp only[Tb];omega⟩
 |succ n ih =>
  intro t x y c1 c2 d hu hd ha;obtain⟨hw,ae,hx,hy⟩:=L.snd _ _ _ ha;by_cases h:rk y<rk x
  ·exact⟨t,n+2,c1,_,hu,.snoc hd h ha,by simp only[Tb];omega⟩
  ·have h2:rk x<rk y:=by
    have hq:rk x≠rk y:=λ e=>ae (L.inj x y hx.1 hx.2 hy.1 hy.2 e);omega
   cases hd with
   | @snoc _ z _ c e bw hr cc =>
    have n1:=L.nn _ _ _ hw;have n2:=L.nn _ _ _ (L.snd _ _ _ cc).1;by_cases hz:z=y
    ·subst hz;exact⟨t,n,c1,c,hu,bw,by simp only[Tb];omega⟩
    ·have q:=L.wC x z y hz hr h2;rw[cc,ha] at q;obtain⟨f,hf,hle⟩:=Zd q;obtain⟨t',n',p8,p9,g1,g2,g3⟩:=ih hu bw hf;refine⟨t',n',p8,p9,g1,g2,?_⟩;simp only[Tb] at *;omega
theorem gI (L:WO m rs rk Af){u:Int}{c:Int×Int}(h:Wk rs u w c):∀ {c0:Int×Int},UD Af rk s u c0->UD Af rk s w (c0.1+c.1,c0.2+c.2):=by
 induction h with
 |nil u =>
  intro c0 h;simpa using h
 | @cons r l w c hr hl _ ih =>
  intro c0 h0;obtain⟨t,n,c1,c2,g1,g2,g3⟩:=h0;have q:=L.road r hr;unfold C7 at q;rw[hl] at q;obtain⟨d,hd,hle⟩:=Zd q;obtain⟨t',n',p8,p9,k1,k2,k3⟩:=mH L n g1 g2 hd;have r1:=@ih (c0.1+l,c0.2+1) ⟨t',n',p8,p9,k1,k2,by simp only[Tb] at *;omega⟩;simpa [zav] using r1
def Kept (rs:List Road)(Af Cf:Int->Int->Co):Prop:=∀x y c,Cf x y=some c↔(Af x y=some c/\Cm rs x y (some c))
theorem gJ (L:WO m rs rk Af)(K:Kept rs Af Cf){t:Int}{c1:Int×Int}(h:Oa Af rk s t c1):∀ {c2:Int×Int},Wk rs t w c2->(∀c,Wk rs s w c->Tb (c1.1+c2.1,c1.2+c2.2) c)->Oa Cf rk s t c1:=by
 induction h with
 |nil=>exact λ _ _=>.nil
 | @snoc x y c d hu hr ha ih =>
  intro c2 hw hm;have cc:=(L.snd _ _ _ ha).1;refine .snoc (ih (c2:=(d.1+c2.1,d.2+c2.2)) (cc.trans hw) λ c' b5=>?_) hr ((K x y d).mpr ⟨ha,λ e he=>?_,λ p hp=>by cases hp;exact cc⟩)
  ·have:=hm c' b5;simp only[Tb] at *;omega
  ·have:=hm _ (((hu.walk L).trans he).trans hw);simp only[Tb,BR] at *;omega
theorem gK (L:WO m rs rk Af)(K:Kept rs Af Cf){t x:Int}{n:Nat}{c2:Int×Int}{c1:Int×Int}(hs:Wk rs s t c1)(h:Sf Af rk t n x c2):(∀c,Wk rs s x c->Tb (c1.1+c2.1,c1.2+c2.2) c)->Sf Cf rk t n x c2:=by
 induction h with
 |nil=>exact λ _=>.nil
 | @snoc n x y c d hd hr ha ih =>
  intro hm;have cc:=(L.snd _ _ _ ha).1;refine .snoc (ih λ c' b5=>?_) hr ((K x y d).mpr ⟨ha,λ e he=>?_,λ p hp=>by cases hp;exact cc⟩)
  ·have:=hm _ (b5.trans cc);simp only[Tb] at *;omega
  ·have:=hm _ ((hs.trans (hd.walk L)).trans he);simp only[Tb,BR] at *;omega
theorem Ze (L:WO m rs rk Af)(K:Kept rs Af Cf){c:Int×Int}(h:Cm rs s w (some c)):∃t n c1 c2,Oa Cf rk s t c1/\Sf Cf rk t n w c2/\c=(c1.1+c2.1,c1.2+c2.2):=by
 obtain⟨t,n,c1,c2,g1,g2,g3⟩:=gI L (h.2 c rfl) (c0:=(0,0)) ⟨s,0,_,_,.nil,.nil,by simp[Tb]⟩;have hw:=(g1.walk L).trans (g2.walk L);have q:=h.1 _ hw;have e:c=(c1.1+c2.1,c1.2+c2.2):=by
  obtain⟨a,b⟩:=c;simp only[Tb,BR] at *;refine Prod.ext ?_ ?_<;>dsimp only<;>omega
 refine⟨t,n,c1,c2,gJ L K g1 (g2.walk L) λ c' b5=>?_,gK L K (g1.walk L) g2 λ c' b5=>?_,e⟩
 ·have:=h.1 _ b5;rw[e] at this;exact this
 ·have:=h.1 _ b5;rw[e] at this;exact this
structure sC (rk:Int->Nat)(Cf:Int->Int->Co)(s:Int)(R:Int->Co):Prop where
 st:BR (R s) (some (0,0))
 cl:∀x y,rk x<rk y->BR (R y) (Aq (R x) (Cf x y))
 sd:∀x c,R x=some c->Oa Cf rk s x c
theorem sC.le {R:Int->Co}(h:sC rk Cf s R){t:Int}{c:Int×Int}(u:Oa Cf rk s t c):BR (R t) (some c):=by
 induction u with
 |nil=>exact h.st
 | @snoc x y c d hu hr ha ih =>
  refine An (h.cl x y hr) ?_;rw[ha];exact Ca (some d) ih
structure sD (rk:Int->Nat)(Cf:Int->Int->Co)(s:Int)(R T:Int->Co)(m:Nat):Prop where
 top:∀x:Int,0<=x->x<m->BR (T x) (R x)
 cl:∀x y:Int,0<=x->x<m->0<=y->y<m->rk y<rk x->BR (T y) (Aq (T x) (Cf x y))
 sd:∀x c,T x=some c->∃t n c1 c2,Oa Cf rk s t c1/\Sf Cf rk t n x c2/\c=(c1.1+c2.1,c1.2+c2.2)
theorem Kept.mI (K:Kept rs Af Cf){x y:Int}{c:Int×Int}(h:Cf x y=some c):Af x y=some c:=((K x y c).mp h).1
theorem Oa.of_kept (K:Kept rs Af Cf){t:Int}{c:Int×Int}(h:Oa Cf rk s t c):Oa Af rk s t c:=by
 induction h with
 |nil=>exact .nil
 |snoc _ hr ha ih=>exact .snoc ih hr (K.mI ha)
theorem Sf.of_kept (K:Kept rs Af Cf){t x:Int}{n:Nat}{c:Int×Int}(h:Sf Cf rk t n x c):Sf Af rk t n x c:=by
 induction h with
 |nil=>exact .nil
 |snoc _ hr ha ih=>exact .snoc ih hr (K.mI ha)
theorem qV (L:WO m rs rk Af)(K:Kept rs Af Cf){t x:Int}{n:Nat}{c:Int×Int}(h:Sf Cf rk t n x c)(ht:0<=t/\t<m):0<=x/\x<m:=by
 cases h with
 |nil=>exact ht
 |snoc _ hr ha=>exact (L.snd _ _ _ (K.mI ha)).2.2.2
theorem qW (L:WO m rs rk Af)(K:Kept rs Af Cf){t:Int}{c:Int×Int}(h:Oa Cf rk s t c)(ht:0<=s/\s<m):0<=t/\t<m:=by
 cases h with
 |nil=>exact ht
 |snoc _ hr ha=>exact (L.snd _ _ _ (K.mI ha)).2.2.2
theorem sD.le (L:WO m rs rk Af)(K:Kept rs Af Cf){R T:Int->Co}(h:sD rk Cf s R T m){t x:Int}{n:Nat}{c1 c2:Int×Int}(ht:0<=t/\t<m)(hT:BR (T t) (some c1))(u:Sf Cf rk t n x c2):BR (T x) (some (c1.1+c2.1,c1.2+c2.2)):=by
 induction u with
 |nil=>simpa using hT
 | @snoc n x y c d hd hr ha ih =>
  have hx:=qV L K hd ht;have hy:=(L.snd _ _ _ (K.mI ha)).2.2.2;refine An (h.cl x y hx.1 hx.2 hy.1 hy.2 hr) ?_;rw[ha];have:=Ca (some d) ih;simp only[Aq,zav] at this;exact this
theorem WQ (L:WO m rs rk Af)(K:Kept rs Af Cf){R T:Int->Co}(hs:0<=s/\s<m)(hR:sC rk Cf s R)(hT:sD rk Cf s R T m){x:Co}(hx:Cm rs s w x):Cm rs s w (T w):=by
 have key:BR (T w) x:=by
  cases x with
  |none=>cases T w<;>exact trivial
  |some c =>
   obtain⟨t,n,c1,c2,g1,g2,e⟩:=Ze L K hx;have ht:=qW L K g1 hs;rw[e];exact hT.le L K ht (An (hT.top t ht.1 ht.2) (hR.le g1)) g2
 refine⟨λ c hc=>An key (hx.1 c hc),λ p hp=>?_⟩;obtain⟨t,n,c1,c2,g1,g2,rfl⟩:=hT.sd w p hp;exact ((g1.of_kept K).walk L).trans ((g2.of_kept K).walk L)
end
theorem Wk.turn {rs:List Road}{u w:Int}{c:Int×Int}(h:Wk rs u w c):Wk (rs.map Dy) w u c:=by
 induction h with
 |nil u=>exact .nil u
 | @cons r l w c hr hl _ ih =>
  have h1:Wk (rs.map Dy) (Dy r).a (Dy r).b (l,1):=Wk.one (z6.mpr ⟨r,hr,rfl⟩) hl;have:=ih.trans h1;have e:(c.1+l,c.2+1)=(l+c.1,1+c.2):=by rw[Int.add_comm,Int.add_comm c.2]
  rw[<-e];exact this
theorem WR (rs:List Road):(rs.map Dy).map Dy=rs:=by
 rw[zH];exact (za2 λ r _=>rfl).trans (List.map_id rs)
theorem Cm.turn {rs:List Road}{u w:Int}{x:Co}(h:Cm rs u w x):Cm (rs.map Dy) w u x:=by
 refine⟨λ c hc=>h.1 c ?_,λ p hp=>(h.2 p hp).turn⟩;have:=hc.turn;rw[WR] at this;exact this
section
variable {κ β:Type} [DecidableEq κ]
noncomputable def AK:List (κ×β)->κ->Option β
 |[],_=>none
 |(k,v)::r,x=>if k=x then some v else AK r x
noncomputable def Dt (A:List (κ×β))(k:κ)(v:β):List (κ×β):=if (AK A k).isSome=true then A.map λ kv=>if kv.1=k then (kv.1,v) else kv else A++[(k,v)]
theorem Qm (k j:κ)(v:β):∀A:List (κ×β),AK (A.map λ kv=>if kv.1=k then (kv.1,v) else kv) j=if j=k then (AK A j).map λ _=>v else AK A j
 |[]=>by simp[AK]
 |(k',v')::r=>by
  rw[zf];by_cases h1:k'=k
  ·rw[if_pos h1];subst h1;simp only[AK];by_cases h2:k'=j
   ·subst h2;simp
   ·rw[if_neg h2,if_neg h2,Qm k' j v r]
  ·rw[if_neg h1];simp only[AK];by_cases h2:k'=j
   ·subst h2;rw[if_pos rfl,if_pos rfl,if_neg h1]
   ·rw[if_neg h2,if_neg h2,Qm k j v r]
theorem Sg (k j:κ)(v:β):∀A:List (κ×β),AK A k=none->AK (A++[(k,v)]) j=if j=k then some v else AK A j
 |[],_=>by
  simp only[List.nil_append,AK];by_cases h:k=j
  ·subst h;simp
  ·rw[if_neg h,if_neg (zX h)]
 |(k',v')::r,h=>by
  simp only[AK] at h;by_cases h1:k'=k
  ·rw[if_pos h1] at h;cases h
  ·rw[if_neg h1] at h;rw[zb1];simp only[AK];rw[Sg k j v r h];by_cases h2:k'=j
   ·subst h2;rw[if_pos rfl,if_pos rfl,if_neg h1]
   ·rw[if_neg h2,if_neg h2]
theorem Hu (A:List (κ×β))(k j:κ)(v:β):AK (Dt A k v) j=if j=k then some v else AK A j:=by
 unfold Dt;by_cases h:(AK A k).isSome=true
 ·rw[if_pos h,Qm];by_cases hj:j=k
  ·subst hj;rw[if_pos rfl,if_pos rfl];obtain⟨x,hx⟩:=zaz.mp h;rw[hx];rfl
  ·rw[if_neg hj,if_neg hj]
 ·rw[if_neg h];exact Sg k j v A (by cases e:AK A k with|none=>rfl|some x=>rw[e] at h;exact (h rfl).elim)
theorem Hv:∀ {A:List (κ×β)}{k:κ},(AK A k).isSome=true↔k∈A.map zQ
 |[],k=>by simp[AK]
 |(k',v')::r,k=>by
  simp only[AK,zf,zp];by_cases h:k'=k
  ·rw[if_pos h];simp[h]
  ·rw[if_neg h,Hv];simp[zX h]
theorem Zf {A:List (κ×β)}{k:κ}:AK A k=none↔k∉A.map zQ:=by
 rw[<-Hv];cases AK A k<;>simp
theorem Sh (A:List (κ×β))(k:κ)(v:β):(Dt A k v).map zQ=if (AK A k).isSome=true then A.map zQ else A.map zQ++[k]:=by
 unfold Dt;split
 ·rw[zH];refine za2 λ kv _=>?_;dsimp only [Function.comp];split<;>rfl
 ·rw[zG];rfl
theorem Kl {A:List (κ×β)}{k:κ}{v:β}(h:(A.map zQ).Nodup):((Dt A k v).map zQ).Nodup:=by
 rw[Sh];split
 ·exact h
 ·rename_i hn;rw[Hv] at hn;rw[zA];exact⟨h,by simp,λ x hx y hy=>by rw[zh.mp hy];exact λ e=>hn (e▸hx)⟩
theorem N6 {A:List (κ×β)}{k x:κ}{v:β}(h:x∈(Dt A k v).map zQ):x∈A.map zQ\/x=k:=by
 rw[Sh] at h;split at h
 ·exact .inl h
 ·rcases zv.mp h with h|h
  ·exact .inl h
  ·exact .inr (zh.mp h)
theorem U8:∀ {A:List (κ×β)}{k:κ}{v:β},AK A k=some v->(k,v)∈A
 |(k',v')::r,k,v,h=>by
  simp only[AK] at h;split at h
  ·rename_i e;cases h;subst e;exact zd
  ·exact ze _ (U8 h)
theorem Zg:∀ {A:List (κ×β)}{k:κ}{v:β},(A.map zQ).Nodup->(k,v)∈A->AK A k=some v
 |(k',v')::r,k,v,hn,h=>by
  rw[zf,zV] at hn;simp only[AK];rcases zp.mp h with e|h
  ·cases e;rw[if_pos rfl]
  ·have:k'≠k:=λ e=>hn.1 (e▸z6.mpr ⟨_,h,rfl⟩);rw[if_neg this];exact Zg hn.2 h
variable {kf:κ->D}{vf:β->D}(he:∀a b,Ay (kf a) (kf b)=decide (a=b))
include he
theorem JD (A:List (κ×β))(k:κ):Lg (A.map λ kv=>kf kv.1) (kf k)=(AK A k).isSome:=by
 induction A with
 |nil=>rfl
 |cons kv r ih =>
  obtain⟨k',v'⟩:=kv;unfold Lg at ih ⊢;rw[zf,zau,ih,he];simp only[AK];by_cases h:k'=k
  ·rw[if_pos h,decide_eq_true h];rfl
  ·rw[if_neg h,decide_eq_false h];rfl
theorem Gz (A:List (κ×β))(k:κ):G2 (A.map λ kv=>kf kv.1) (A.map λ kv=>vf kv.2) (kf k)=(AK A k).map vf:=by
 induction A with
 |nil=>rfl
 |cons kv r ih =>
  obtain⟨k',v'⟩:=kv;rw[zf,zf,G2,he,ih];simp only[AK];by_cases h:k'=k
  ·rw[decide_eq_true h,if_pos rfl,if_pos h];rfl
  ·rw[decide_eq_false h,if_neg z9,if_neg h]
theorem Zh (k:κ)(v:β)(A:List (κ×β)):Ij (A.map λ kv=>kf kv.1) (A.map λ kv=>vf kv.2) (kf k) (vf v)=(A.map λ kv=>if kv.1=k then (kv.1,v) else kv).map λ kv=>vf kv.2:=by
 induction A with
 |nil=>rfl
 |cons kv r ih =>
  obtain⟨k',v'⟩:=kv;rw[zf,zf,Ij,he,ih,zf,zf];by_cases h:k'=k
  ·rw[decide_eq_true h,if_pos rfl,if_pos h]
  ·rw[decide_eq_false h,if_neg z9,if_neg h]
theorem N7 (A:List (κ×β))(k:κ)(v:β):putD (A.map λ kv=>kf kv.1) (A.map λ kv=>vf kv.2) (kf k) (vf v)=((Dt A k v).map (λ kv=>kf kv.1),(Dt A k v).map λ kv=>vf kv.2):=by
 unfold putD Dt;rw[JD he];by_cases h:(AK A k).isSome=true
 ·rw[if_pos h,if_pos h,Zh he];refine Prod.ext ?_ rfl;dsimp only;rw[zH];refine za2 λ kv _=>?_;dsimp only [Function.comp];split<;>rfl
 ·rw[if_neg h,if_neg h,zG,zG];rfl
end
theorem JE (a b:Int):Ay (.int a) (.int b)=decide (a=b):=by
 simp only[Ay];by_cases h:a=b
 ·subst h;simp
 ·simp[h]
noncomputable abbrev LA:=List ((Int×Int)×((Int×Int)×Option Int))
noncomputable def WS (v:(Int×Int)×Option Int):D:=.tup [cst (some v.1),G3 v.2]
noncomputable def KL (A:LA):D:=.Bl true (A.map λ kv=>pD kv.1) (A.map λ kv=>WS kv.2)
noncomputable def IC (A:LA):OT:=.Bl true (A.map λ kv=>pD kv.1) ((A.map λ kv=>WS kv.2).map .sh)
noncomputable def Al (A:LA)(p:Int×Int):Co:=(AK A p).map zQ
noncomputable def layA (A:LA)(p:Int×Int)(c:Co)(mid:Option Int):LA:=match c with
 |none=>A
 |some c=>(match AK A p with
  |none=>Dt A p (c,mid)
  |some z=>if c.1<z.1.1\/(c.1=z.1.1/\c.2<z.1.2) then Dt A p (c,mid) else A)
theorem GA (A:LA)(p q:Int×Int)(c:Co)(mid:Option Int):Al (layA A p c mid) q=if q=p then DF (Al A p) c else Al A q:=by
 unfold layA Al;cases c with
 |none =>
  by_cases h:q=p
  ·subst h;rw[if_pos rfl];cases AK A q<;>rfl
  ·rw[if_neg h]
 |some c =>
  cases e:AK A p with
  |none =>
   dsimp only;rw[Hu];by_cases h:q=p
   ·rw[if_pos h,if_pos h];rfl
   ·rw[if_neg h,if_neg h]
  |some z =>
   dsimp only;by_cases hc:c.1<z.1.1\/(c.1=z.1.1/\c.2<z.1.2)
   ·rw[if_pos hc,Hu];by_cases h:q=p
    ·rw[if_pos h,if_pos h];simp only[yW,DF,iR];rw[if_neg (by omega)]
    ·rw[if_neg h,if_neg h]
   ·rw[if_neg hc];by_cases h:q=p
    ·subst h;rw[if_pos rfl,e];simp only[yW,DF,iR];rw[if_pos (by omega)]
    ·rw[if_neg h]
theorem U9 (A:LA)(p q:Int×Int)(c:Co)(mid:Option Int):BR (Al (layA A p c mid) q) (Al A q):=by
 rw[GA];split
 ·rename_i h;subst h;exact EA _ _
 ·exact C6 _
theorem Zi {A:LA}{p x:Int×Int}{c:Co}{mid:Option Int}(h:x∈(layA A p c mid).map zQ):x∈A.map zQ\/x=p:=by
 unfold layA at h;split at h
 ·exact .inl h
 ·split at h
  ·exact N6 h
  ·split at h
   ·exact N6 h
   ·exact .inl h
theorem WT {A:LA}{p:Int×Int}{c:Co}{mid:Option Int}(h:(A.map zQ).Nodup):((layA A p c mid).map zQ).Nodup:=by
 unfold layA;split
 ·exact h
 ·split
  ·exact Kl h
  ·split
   ·exact Kl h
   ·exact h
noncomputable def Qn (p u:Int)(A:LA)(w:Int):LA:=if u=w then A else layA A (u,w) (Aq (Al A (u,p)) (Al A (p,w))) (some p)
noncomputable def gL (p:Int)(H:List Int)(A:LA)(u:Int):LA:=H.foldl (Qn p u) A
noncomputable def mJ (A:LA)(p:Int)(H:List Int):LA:=H.foldl (gL p H) A
noncomputable def Ua:LA->List Int->LA
 |A,[]=>A
 |A,p::r=>Ua (mJ A p r) r
noncomputable def lay0 (rs:List Road):LA:=rs.foldl (λ A r=>layA A (r.a,r.b) (C7 r) none) []
noncomputable def BW (rs:List Road)(L:List Int):LA:=Ua (lay0 rs) L
structure F9 (m:Nat)(A:LA):Prop where
 nd:(A.map zQ).Nodup
 rg:∀p∈A.map zQ,p.1≠p.2/\(0<=p.1/\p.1<m)/\0<=p.2/\p.2<m
theorem F9.lay {m:Nat}{A:LA}(h:F9 m A){p:Int×Int}{c:Co}{mid:Option Int}(hp:p.1≠p.2/\(0<=p.1/\p.1<m)/\0<=p.2/\p.2<m):F9 m (layA A p c mid):=
 ⟨WT h.nd,λ q hq=>(Zi hq).elim (h.rg q) λ e=>e▸hp⟩
theorem F9.len {m:Nat}{A:LA}(h:F9 m A)(hm:m<=20):A.length<1000:=by
 have:=Cg.len (B:=A.map zQ) (m:=m) ⟨h.nd,λ x hx=>(h.rg _ hx).1 rfl,λ q hq=>⟨(h.rg q hq).2.1,(h.rg q hq).2.2⟩⟩ hm;rwa[zc] at this
theorem JF {α β:Type}{f:β->α->β}(P:List α->β->Prop):∀ {L pre:List α}{b:β},P pre b->(∀a∈L,∀pre b,P pre b->P (pre++[a]) (f b a))->P (pre++L) (L.foldl f b)
 |[],pre,b,h,_=>by rw[zR];exact h
 |a::L,pre,b,h,hs=>by
  have:=JF P (L:=L) (hs a zd pre b h) λ x hx=>hs x (ze _ hx);rw[yP] at this;exact this
def gM (rs:List Road)(A:LA):Prop:=∀x y c,Al A (x,y)=some c->Wk rs x y c
theorem gM.lay {rs:List Road}{A:LA}(h:gM rs A){x y:Int}{c:Co}{mid:Option Int}(hc:∀p,c=some p->Wk rs x y p):gM rs (layA A (x,y) c mid):=λ u w d hd=>by
 rw[GA] at hd;split at hd
 ·rename_i e;cases e;rcases Bo (Al A (x,y)) c with ⟨e,_⟩|⟨e,_⟩
  ·rw[e] at hd;exact h _ _ _ hd
  ·rw[e] at hd;exact hc d hd
 ·exact h _ _ _ hd
structure Over (m:Nat)(rs:List Road)(p:Int)(H:List Int)(A0 A:LA):Prop where
 ok:F9 m A
 sd:gM rs A
 le:∀q,BR (Al A q) (Al A0 q)
 sm:∀x y,(x∉H\/y∉H)->Al A (x,y)=Al A0 (x,y)
theorem WU {m:Nat}{rs:List Road}{p:Int}{H:List Int}{A0 A:LA}(hp:p∉H)(hH:∀x∈H,0<=x/\x<m)(h:Over m rs p H A0 A){u w:Int}(hu:u∈H)(hw:w∈H):Over m rs p H A0 (Qn p u A w)/\(u≠w->BR (Al (Qn p u A w) (u,w)) (Aq (Al A0 (u,p)) (Al A0 (p,w)))):=by
 unfold Qn;by_cases e:u=w
 ·rw[if_pos e];exact⟨h,λ z=>(z e).elim⟩
 ·rw[if_neg e];have e1:=h.sm u p (.inr hp);have e2:=h.sm p w (.inl hp);refine⟨⟨h.ok.lay ⟨e,hH u hu,hH w hw⟩,h.sd.lay λ c hc=>?_,λ q=>An (U9 _ _ _ _ _) (h.le q),λ x y cb=>?_⟩,λ _=>?_⟩
  ·obtain⟨a,b,ha,hb,rfl⟩:=F3 hc;exact (h.sd _ _ _ ha).trans (h.sd _ _ _ hb)
  ·rw[GA,if_neg (λ z=>by cases z;exact cb.elim (λ q=>q hu) λ q=>q hw)];exact h.sm x y cb
  ·rw[GA,if_pos rfl,e1,e2];exact EB _ _
theorem iW {p u:Int}{A:LA}{w:Int}(q:Int×Int):BR (Al (Qn p u A w) q) (Al A q):=by
 unfold Qn;split
 ·exact C6 _
 ·exact U9 _ _ _ _ _
theorem iX {p u:Int}(q:Int×Int):∀(H:List Int) (A:LA),BR (Al (H.foldl (Qn p u) A) q) (Al A q)
 |[],A=>C6 _
 |w::H,A=>An (iX q H (Qn p u A w)) (iW q)
theorem mK {m:Nat}{rs:List Road}{p:Int}{H:List Int}{A0 A:LA}(hp:p∉H)(hH:∀x∈H,0<=x/\x<m)(h:Over m rs p H A0 A){u:Int}(hu:u∈H):Over m rs p H A0 (gL p H A u)/\∀w∈H,u≠w->BR (Al (gL p H A u) (u,w)) (Aq (Al A0 (u,p)) (Al A0 (p,w))):=by
 unfold gL;have:=JF (L:=H) (pre:=[]) (f:=Qn p u) (b:=A) (λ W A=>Over m rs p H A0 A/\∀w∈W,u≠w->BR (Al A (u,w)) (Aq (Al A0 (u,p)) (Al A0 (p,w)))) ⟨h,λ w hw=>by cases hw⟩ λ w hw W B hB=>by
  obtain⟨b1,b2⟩:=hB;obtain⟨c1,c2⟩:=WU hp hH b1 hu hw;refine⟨c1,λ x hx ae=>?_⟩;rcases zv.mp hx with hx|hx
  ·exact An (iW _) (b2 x hx ae)
  ·rw[zh.mp hx] at ae ⊢;exact c2 ae
 exact this
theorem Zj {m:Nat}{rs:List Road}{p:Int}{H:List Int}{A:LA}(hp:p∉H)(hH:∀x∈H,0<=x/\x<m)(h1:F9 m A)(h2:gM rs A):Over m rs p H A (mJ A p H)/\∀u∈H,∀w∈H,u≠w->BR (Al (mJ A p H) (u,w)) (Aq (Al A (u,p)) (Al A (p,w))):=by
 unfold mJ;have:=JF (L:=H) (pre:=[]) (f:=gL p H) (b:=A) (λ U B=>Over m rs p H A B/\∀u∈U,∀w∈H,u≠w->BR (Al B (u,w)) (Aq (Al A (u,p)) (Al A (p,w)))) ⟨⟨h1,h2,λ q=>C6 _,λ x y _=>rfl⟩,λ u hu=>by cases hu⟩ λ u hu U B hB=>by
  obtain⟨b1,b2⟩:=hB;obtain⟨c1,c2⟩:=mK hp hH b1 hu;refine⟨c1,λ x hx w hw ae=>?_⟩;rcases zv.mp hx with hx|hx
  ·exact An (iX _ H B) (b2 x hx w hw ae)
  ·rw[zh.mp hx] at ae ⊢;exact c2 w hw ae
 exact this
theorem Qo {m:Nat}{rs:List Road}(As:∀r∈rs,Hs m r/\r.a≠r.b):F9 m (lay0 rs)/\gM rs (lay0 rs)/\∀r∈rs,BR (Al (lay0 rs) (r.a,r.b)) (C7 r):=by
 unfold lay0;have:=JF (L:=rs) (pre:=[]) (f:=λ A r=>layA A (r.a,r.b) (C7 r) none) (b:=[]) (λ W A=>F9 m A/\gM rs A/\∀r∈W,BR (Al A (r.a,r.b)) (C7 r)) ⟨⟨by simp,λ p hp=>by cases hp⟩,⟨(λ _ _ _ h=>by cases h),λ r hr=>by cases hr⟩⟩ λ r hr W B hB=>by
  obtain⟨b1,b2,b3⟩:=hB;obtain⟨o1,o2⟩:=As r hr;refine⟨b1.lay ⟨o2,⟨o1.a0,o1.a1⟩,o1.b0,o1.b1⟩,b2.lay λ c hc=>?_,λ x hx=>?_⟩
  ·obtain⟨l,hl,rfl⟩:=Jz hc;exact Wk.one hr hl
  ·rcases zv.mp hx with hx|hx
   ·exact An (U9 _ _ _ _ _) (b3 x hx)
   ·rw[zh.mp hx,GA,if_pos rfl];exact EB _ _
 exact this
noncomputable def DM:List Int->Int->Nat
 |[],_=>0
 |a::l,x=>if a=x then 0 else DM l x+1
theorem Vv:∀ {pre post:List Int}{p:Int},p∉pre->DM (pre++p::post) p=pre.length
 |[],post,p,_=>by simp[DM]
 |a::pre,post,p,h=>by
  rw[zp,not_or] at h;rw[zb1,DM,if_neg (zX h.1),Vv h.2];rfl
theorem Ub:∀ {pre post:List Int}{x:Int},x∈pre->DM (pre++post) x<pre.length
 |a::pre,post,x,h=>by
  rw[zb1,DM];by_cases e:a=x
  ·rw[if_pos e];simp
  ·rw[if_neg e,zl];have:=Ub (post:=post) ((zp.mp h).resolve_left (zX e));omega
theorem Qp:∀ {pre post:List Int}{x:Int},x∉pre->pre.length<=DM (pre++post) x
 |[],post,x,_=>zJ _
 |a::pre,post,x,h=>by
  rw[zp,not_or] at h;rw[zb1,DM,if_neg (zX h.1),zl];have:=Qp (post:=post) h.2;omega
theorem Qq:∀ {L:List Int}{x y:Int},x∈L->y∈L->DM L x=DM L y->x=y
 |a::l,x,y,hx,hy,e=>by
  rw[DM,DM] at e;by_cases h1:a=x
  ·by_cases h2:a=y
   ·rw[<-h1,<-h2]
   ·rw[if_pos h1,if_neg h2] at e;omega
  ·by_cases h2:a=y
   ·rw[if_neg h1,if_pos h2] at e;omega
   ·rw[if_neg h1,if_neg h2] at e;exact Qq ((zp.mp hx).resolve_left (zX h1)) ((zp.mp hy).resolve_left (zX h2)) (by omega)
theorem Uc {L:List Int}{x:Int}(h:DM L x<L.length):x∈L:=by
 refine zar λ hn=>?_;have:=Qp (pre:=L) (post:=[]) hn;rw[zR] at this;omega
theorem Zk:∀(L:List Int) (x:Int),DM L x<=L.length
 |[],_=>zx _
 |a::l,x=>by
  rw[DM,zl];split
  ·omega
  ·have:=Zk l x;omega
theorem KN:∀ {L:List Int}{p:Int},p∈L->∃pre post,L=pre++p::post/\p∉pre
 |a::l,p,h=>by
  by_cases ha:a=p
  ·subst ha;exact⟨[],l,rfl,by simp⟩
  ·obtain⟨pre,post,e2,hn⟩:=KN ((zp.mp h).resolve_left (zX ha));exact⟨a::pre,post,by rw[zb1,<-e2],by simp[zX ha,hn]⟩
theorem Zl {L:List Int}{p:Int}(h:DM L p<L.length):∃pre post,L=pre++p::post/\p∉pre/\∀x,DM L p<DM L x->x∈L->x∈post:=by
 obtain⟨pre,post,e,hn⟩:=KN (Uc h);refine⟨pre,post,e,hn,λ x hr hx=>?_⟩;subst e;rw[Vv hn] at hr;rcases zv.mp hx with hx|hx
 ·have:=Ub (post:=p::post) hx;omega
 ·rcases zp.mp hx with rfl|hx
  ·rw[Vv hn] at hr;omega
  ·exact hx
theorem mL {m:Nat}{rs:List Road}{L:List Int}(hL:L.Nodup)(hr:∀x∈L,0<=x/\x<m):∀(post pre:List Int) (A:LA),L=pre++post->F9 m A->gM rs A->(∀r∈rs,BR (Al A (r.a,r.b)) (C7 r))->
 (∀pa p pb,L=pa++p::pb->pa.length<pre.length->∀x∈pb,∀y∈pb,x≠y->BR (Al A (x,y)) (Aq (Al A (x,p)) (Al A (p,y))))->
 F9 m (Ua A post)/\gM rs (Ua A post)/\(∀r∈rs,BR (Al (Ua A post) (r.a,r.b)) (C7 r))/\∀pa p pb,L=pa++p::pb->∀x∈pb,∀y∈pb,x≠y->BR (Al (Ua A post) (x,y)) (Aq (Al (Ua A post) (x,p)) (Al (Ua A post) (p,y))):=by
 intro post;induction post with
 |nil =>
  intro pre A e h1 h2 h3 h4;rw[zR] at e;refine⟨h1,h2,h3,λ pa p pb e2=>h4 pa p pb e2 ?_⟩;rw[<-e,e2,zC,zl];omega
 |cons p post ih =>
  intro pre A e h1 h2 h3 h4;rw[Ua];have hn:(pre++p::post).Nodup:=e▸hL;rw[zA,zV] at hn;have bt:∀x∈post,0<=x/\x<m:=λ x hx=>hr x (by rw[e];simp[hx]);obtain⟨o,ov⟩:=Zj (p:=p) hn.2.1.1 bt h1 h2;refine ih (pre++[p]) (mJ A p post) (by rw[e];simp) o.ok o.sd (λ r bi=>An (o.le _) (h3 r bi)) λ pa q pb e2 ah x hx y hy ae=>?_;rw[zC,yJ] at ah;by_cases hq:pa.length<pre.length
  ·-- an lh one
   have t8:q∉post:=λ b6=>by
    have e3:pre++p::post=pa++q::pb:=by rw[<-e,e2]
    have q1:q∈pre:=by
     have:=congrArg (λ l=>l[pa.length]?) e3;rw[yN hq,za4 (zx _),Nat.sub_self] at this;exact zk this
    exact hn.2.2 q q1 q (ze _ b6) rfl
   rw[o.sm x q (.inr t8),o.sm q y (.inl t8)];exact An (o.le _) (h4 pa q pb e2 hq x hx y hy ae)
  ·have au:pa.length=pre.length:=by omega
   have e3:pa++q::pb=pre++p::post:=by rw[<-e2,e]
   obtain⟨rfl,e4⟩:=List.append_inj e3 au;cases e4;rw[o.sm x p (.inr hn.2.1.1),o.sm p y (.inl hn.2.1.1)];exact ov x hx y hy ae
theorem N8 {m:Nat}{rs:List Road}{L:List Int}(hL:L.Perm (B2 m))(As:∀r∈rs,Hs m r/\r.a≠r.b):F9 m (BW rs L)/\WO m rs (DM L) (λ x y=>Al (BW rs L) (x,y)):=by
 have ge:L.Nodup:=Ip hL;obtain⟨a1,a2,a3⟩:=Qo As;obtain⟨b1,b2,b3,b4⟩:=mL ge (λ x hx=>(BV hL).mp hx) L [] (lay0 rs) rfl a1 a2 a3 (λ pa p pb _ h=>by simp at h);refine⟨b1,λ x y c h=>?_,b3,λ p x y ae h1 h2=>?_,λ x y x0 x1 y0 y1 e=>Qq ((BV hL).mpr ⟨x0,x1⟩) ((BV hL).mpr ⟨y0,y1⟩) e,λ x y c h=>Wk.nn (λ r hr=>(As r hr).1) h⟩
 ·have hm:(x,y)∈(Ua (lay0 rs) L).map zQ:=by
   rw[<-Hv];unfold Al at h;cases q:AK (BW rs L) (x,y) with
   |none=>rw[q] at h;cases h
   |some z=>unfold BW at q;rw[q];rfl
  have:=b1.rg _ hm;exact⟨b2 _ _ _ h,this.1,this.2.1,this.2.2⟩
 ·have aT:∀ {x y:Int} {c:Int×Int},Al (BW rs L) (x,y)=some c->x∈L/\y∈L:=fun {x y c} h=>by
   have hm:(x,y)∈(Ua (lay0 rs) L).map zQ:=by
    rw[<-Hv];unfold Al at h;cases q:AK (BW rs L) (x,y) with
    |none=>rw[q] at h;cases h
    |some z=>unfold BW at q;rw[q];rfl
   have:=b1.rg _ hm;exact⟨(BV hL).mpr this.2.1,(BV hL).mpr this.2.2⟩
  have au:DM L p<L.length:=zz h1 (Zk L x);obtain⟨pre,post,e,hn,d8⟩:=Zl au;cases q1:Al (BW rs L) (x,p) with
  |none=>cases Al (BW rs L) (x,y)<;>exact trivial
  |some c1 =>
   cases q2:Al (BW rs L) (p,y) with
   |none=>cases Al (BW rs L) (x,y)<;>exact trivial
   |some c2 =>
    have r:=b4 pre p post e x (d8 x h1 (aT q1).1) y (d8 y h2 (aT q2).2) ae;rw[<-q1,<-q2];exact r
noncomputable abbrev CA:=List ((Int×Int)×(Int×Int))
noncomputable def M4 (C:CA):D:=.Bl true (C.map λ kv=>pD kv.1) (C.map λ kv=>cst (some kv.2))
noncomputable def sE (C:CA):OT:=.Bl true (C.map λ kv=>pD kv.1) ((C.map λ kv=>cst (some kv.2)).map .sh)
noncomputable abbrev RA:=List (Int×(Int×Int))
noncomputable def Zm (R:RA):D:=.Bl false (R.map λ kv=>D.int kv.1) (R.map λ kv=>cst (some kv.2))
noncomputable def ZU (R:RA):OT:=.Bl false (R.map λ kv=>D.int kv.1) ((R.map λ kv=>cst (some kv.2)).map .sh)
theorem Qr (A:LA):er (IC A)=KL A:=Il
theorem Qs (C:CA):er (sE C)=M4 C:=Il
theorem Qt (R:RA):er (ZU R)=Zm R:=Il
theorem Km (i:Int):keyOk false (.int i)=true:=rfl
theorem Qu (A:LA)(p:Int×Int)(neg:Bool):IY neg (pD p) (KL A)=.ok (.bl (if neg=true then !(AK A p).isSome else (AK A p).isSome)):=by
 unfold KL IY;dsimp only;rw[if_pos (Gv p),JD Gu]
theorem Qv {A:LA}{p:Int×Int}{v:(Int×Int)×Option Int}(h:AK A p=some v):AX (KL A) (pD p)=.ok (WS v):=by
 unfold KL AX;dsimp only;rw[if_pos (Gv p),Gz Gu,h];rfl
theorem mM (C:CA)(p:Int×Int)(neg:Bool):IY neg (pD p) (M4 C)=.ok (.bl (if neg=true then !(AK C p).isSome else (AK C p).isSome)):=by
 unfold M4 IY;dsimp only;rw[if_pos (Gv p),JD Gu]
theorem mN {C:CA}{p:Int×Int}{c:Int×Int}(h:AK C p=some c):AX (M4 C) (pD p)=.ok (cst (some c)):=by
 unfold M4 AX;dsimp only;rw[if_pos (Gv p),Gz (vf:=λ c=>cst (some c)) Gu,h];rfl
theorem mO (C:CA)(p:Int×Int):Pb (M4 C) (.ok (pD p))=.ok (cst (AK C p)):=by
 unfold M4 Pb;simp only[M.A7];rw[if_pos (Gv p),Gz (vf:=λ c=>cst (some c)) Gu];cases AK C p<;>rfl
theorem mP (R:RA)(p:Int)(neg:Bool):IY neg (.int p) (Zm R)=.ok (.bl (if neg=true then !(AK R p).isSome else (AK R p).isSome)):=by
 unfold Zm IY;dsimp only;rw[if_pos (Km p),JD (kf:=D.int) JE]
theorem mQ {R:RA}{p:Int}{c:Int×Int}(h:AK R p=some c):AX (Zm R) (.int p)=.ok (cst (some c)):=by
 unfold Zm AX;dsimp only;rw[if_pos (Km p),Gz (kf:=D.int) (vf:=λ c=>cst (some c)) JE,h];rfl
theorem Zn (R:RA)(p:Int):Pb (Zm R) (.ok (.int p))=.ok (cst (AK R p)):=by
 unfold Zm Pb;simp only[M.A7];rw[if_pos (Km p),Gz (kf:=D.int) (vf:=λ c=>cst (some c)) JE];cases AK R p<;>rfl
theorem Zo (A:LA)(p:Int×Int)(v:(Int×Int)×Option Int):putD (A.map λ kv=>pD kv.1) (A.map λ kv=>WS kv.2) (pD p) (WS v)=((Dt A p v).map (λ kv=>pD kv.1),(Dt A p v).map λ kv=>WS kv.2):=N7 Gu A p v
theorem mR (R:RA)(p:Int)(c:Int×Int):putD (R.map λ kv=>D.int kv.1) (R.map λ kv=>cst (some kv.2)) (.int p) (cst (some c))=((Dt R p c).map (λ kv=>D.int kv.1),(Dt R p c).map λ kv=>cst (some kv.2)):=N7 (kf:=D.int) (vf:=λ c=>cst (some c)) JE R p c
theorem Vw {α:Type}(k v:α->D):∀l:List α,Wz (l.map λ x=>.tup [k x,v x])=some (l.map λ x=>(k x,v x))
 |[]=>rfl
 |x::l=>by rw[zf,Wz,Vw k v l];rfl
theorem iY:∀(C C0:CA),((C0++C).map zQ).Nodup->(C.map λ kv=>(pD kv.1,cst (some kv.2))).foldl (λ z kv=>putD z.1 z.2 kv.1 kv.2) (C0.map (λ kv=>pD kv.1),C0.map λ kv=>cst (some kv.2))=((C0++C).map (λ kv=>pD kv.1),(C0++C).map λ kv=>cst (some kv.2))
 |[],C0,_=>by simp
 |kv::C,C0,hn=>by
  obtain⟨p,c⟩:=kv;rw[zf,zM];dsimp only;have h0:AK C0 p=none:=by
   rw[Zf];intro hm;rw[zG,zA] at hn;exact hn.2.2 p hm p (by simp) rfl
  have e:Dt C0 p c=C0++[(p,c)]:=by unfold Dt;rw[h0];rfl
  rw[N7 (vf:=λ c=>cst (some c)) Gu,e,iY C (C0++[(p,c)]) (by rw[yP];exact hn),yP];rfl
theorem mS {C:CA}(hn:(C.map zQ).Nodup)(hl:C.length<=1000):fP (.lst (C.map λ kv=>.tup [pD kv.1,cst (some kv.2)]))=.ok (sE C):=by
 unfold fP;dsimp only;rw[Vw (λ kv:(Int×Int)×(Int×Int)=>pD kv.1) (λ kv=>cst (some kv.2))];dsimp only;have e:=iY C [] hn;rw[if_pos ⟨by rw[zc];exact hl,by rw[List.all_map];exact List.all_eq_true.mpr λ x _=>rfl⟩];have e2:rZ (C.map λ kv=>(pD kv.1,cst (some kv.2)))=(C.map (λ kv=>pD kv.1),C.map λ kv=>cst (some kv.2)):=e;rw[e2];rfl
noncomputable def Bb (m:Nat)(rs:List Road)(L:List Int)(A:LA)(K:List (Int×Int)):D:=.ins "Ladder" ["own_map","own_order","laid","kept_ones"] [Ap m rs,.lst (L.map D.int),KL A,.lst (K.map pD)]
structure CO (m:Nat)(rs:List Road)(L:List Int)(A:LA)(K:List (Int×Int)):Prop where
 m1:1<=m
 m2:m<=16
 rl:rs.length<=60
 ok:∀r∈rs,Hs m r/\r.a≠r.b
 pm:L.Perm (B2 m)
 la:A=BW rs L
 kn:K.Nodup
 km:∀p,p∈K↔∃c,Al A p=some c/\Cm rs p.1 p.2 (some c)
theorem CO.vF {m:Nat}{rs:List Road}{L:List Int}{A:LA}{K:List (Int×Int)}(h:CO m rs L A K):F9 m A:=by
 rw[h.la];exact (N8 h.pm h.ok).1
theorem CO.mI {m:Nat}{rs:List Road}{L:List Int}{A:LA}{K:List (Int×Int)}(h:CO m rs L A K):WO m rs (DM L) (λ x y=>Al A (x,y)):=by
 rw[h.la];exact (N8 h.pm h.ok).2
theorem F6 {A:LA}{p:Int×Int}{c:Int×Int}(h:Al A p=some c):p∈A.map zQ:=by
 rw[<-Hv];unfold Al at h;cases q:AK A p with
 |none=>rw[q] at h;cases h
 |some z=>rfl
theorem CO.ZR {m:Nat}{rs:List Road}{L:List Int}{A:LA}{K:List (Int×Int)}(h:CO m rs L A K){p:Int×Int}(hp:p∈K):p.1≠p.2/\(0<=p.1/\p.1<m)/\0<=p.2/\p.2<m:=by
 obtain⟨c,hc,_⟩:=(h.km p).mp hp;exact h.vF.rg p (F6 hc)
theorem CO.kl {m:Nat}{rs:List Road}{L:List Int}{A:LA}{K:List (Int×Int)}(h:CO m rs L A K):K.length<1000:=
 Cg.len (m:=m) ⟨h.kn,λ x hx=>(h.ZR hx).1 rfl,λ q hq=>⟨(h.ZR hq).2.1,(h.ZR hq).2.2⟩⟩ (by have:=h.m2;omega)
noncomputable def R6 (A:LA)(K:List (Int×Int)):CA:=K.map λ p=>(p,(Al A p).getD (0,0))
theorem Si (A:LA)(K:List (Int×Int)):(R6 A K).map zQ=K:=by
 unfold R6;rw[zH];exact (za2 λ p _=>rfl).trans (List.map_id K)
theorem CO.kept {m:Nat}{rs:List Road}{L:List Int}{A:LA}{K:List (Int×Int)}(h:CO m rs L A K):Kept rs (λ x y=>Al A (x,y)) (λ x y=>AK (R6 A K) (x,y)):=λ x y c=>by
 have hn:((R6 A K).map zQ).Nodup:=by rw[Si];exact h.kn
 constructor
 ·intro hf;have hm:=U8 hf;unfold R6 at hm;obtain⟨p,hp,e⟩:=z6.mp hm;obtain⟨c',hc,gj⟩:=(h.km p).mp hp;rw[hc] at e;cases e;exact⟨hc,gj⟩
 ·rintro ⟨h1,h2⟩;refine Zg hn ?_;unfold R6;exact z6.mpr ⟨(x,y),(h.km (x,y)).mpr ⟨c,h1,h2⟩,by rw[show Al A (x,y)=some c from h1];rfl⟩
noncomputable def wD (C:CA):CA:=C.map λ kv=>((kv.1.2,kv.1.1),kv.2)
theorem uE (p q:Int×Int):YU (cst (some p)) (cst (some q))=.ok (.bl (decide (p.1<q.1\/(p.1=q.1/\p.2<q.2)))):=by
 rw[<-EL];rfl
theorem Ud {m:M Out}{t r:OT}(h:WP m (λ ρ=>Gp ρ=some t/\OT.sh .AA=r) (λ o=>match o with | .EV r' ρ=>Gp ρ=some t/\r'=r | _=>False) (λ _=>False)):Ec m=.ok (t,r):=by
 cases m with
 |bad|ex x=>exact h.elim
 |ok o =>
  cases o with
  |next ρ=>obtain⟨h1,h2⟩:=(show Gp ρ=some t/\OT.sh .AA=r from h);unfold Ec;dsimp only;rw[h1,<-h2]
  |EV r' ρ=>obtain⟨h1,h2⟩:=(show Gp ρ=some t/\r'=r from h);unfold Ec;dsimp only;rw[h1,<-h2]
  |ret d|CI d|brk d|cont d=>exact h.elim
theorem Kn {F:OT->List D->M (OT×OT)}{ρ:Ac}{p:Option Nat}{t t2 r:OT}{ax:List D}{i:Nat}(h:ρ[i]?=some (some (.ow (.tree p t))))(hN:YC t=true)(hF:F t ax=.ok (t2,r)):RP i F ρ [] ax=.ok (ρ.set i (some (toCl p t2)),r):=by
 rw[YD h rfl rfl hN hF,Dm]
theorem DQ {A:LA}{p:Option Nat}{ρ:Ac}:FU 0 (some (.ow (.tree p (IC A)))::ρ) []=.ok (true,A.map (λ kv=>pD kv.1),A.map λ kv=>WS kv.2):=D7
theorem Hw {R:RA}{p:Option Nat}{ρ:Ac}:FU 0 (some (.ow (.tree p (ZU R)))::ρ) []=.ok (false,R.map (λ kv=>D.int kv.1),R.map λ kv=>cst (some kv.2)):=D7
theorem F9.ov {m:Nat}{A:LA}(h:F9 m A){p u w:Int}(hu:0<=u/\u<m)(hw:0<=w/\w<m):F9 m (Qn p u A w):=by
 unfold Qn;split
 ·exact h
 ·rename_i e;exact h.lay ⟨e,hu,hw⟩
theorem F9.ou {m:Nat}{p u:Int}(hu:0<=u/\u<m):∀ {H:List Int}{A:LA},F9 m A->(∀x∈H,0<=x/\x<m)->F9 m (H.foldl (Qn p u) A)
 |[],A,h,_=>h
 |w::H,A,h,hH=>by
  have r:=F9.ou (A:=Qn p u A w) (H:=H) (p:=p) hu (h.ov hu (hH w zd)) λ x hx=>hH x (ze _ hx);exact r
theorem Eg {α β:Type}{f:β->α->β}{l:List α}{i:Nat}{x:α}{b:β}(h:l[i]?=some x):(l.take (i+1)).foldl f b=f ((l.take i).foldl f b) x:=by
 rw[yL,h,Option.toList_some,List.foldl_append];rfl
theorem F9.lo {m:Nat}{p:Int}{H0:List Int}(h0:∀x∈H0,0<=x/\x<m):∀ {H:List Int}{A:LA},F9 m A->(∀x∈H,0<=x/\x<m)->F9 m (H.foldl (gL p H0) A)
 |[],A,h,_=>h
 |w::H,A,h,hH=>by
  have r:=F9.lo (p:=p) (A:=gL p H0 A w) (H:=H) h0 (F9.ou (hH w zd) h h0) λ x hx=>hH x (ze _ hx);exact r
theorem M5 (c:Co):O5 (.ok (.sh (cst c)))=.ok (.sh (cst c)):=by
 cases c<;>rfl
def uF (a b:List Co×Bool):Prop:=b.2=true/\(a.2=false\/(a.2=true/\NU ltN a.1 b.1))
theorem mT (x:List Co):Acc uF (x,false):=.intro _ λ y h=>by cases h.1
theorem mU (x:List Co):Acc uF (x,true):=by
 have:=WC x;induction this with
 |intro x _ ih =>
  refine .intro _ λ y h=>?_;obtain⟨y,b⟩:=y;rcases h.2 with e|⟨e,h2⟩
  ·dsimp only at e;subst e;exact mT y
  ·dsimp only at e;subst e;exact ih y h2
theorem Ue (n:Nat):BN 0 n=(B2 n).map D.int:=by rw[Fm,N4]
theorem Gy.vG {m:Nat}{r:Road}(h:Gy m r):Hs m r/\r.a≠r.b:=⟨⟨h.a0,h.a1,h.b0,h.b1,λ l hl=>(h.l0 l hl).1⟩,h.ab⟩
def KP (rs:List Road)(A:LA)(p:Int×Int):Prop:=∃c,Al A p=some c/\Cm rs p.1 p.2 (some c)
noncomputable def qX (A:LA)(cs:List Co)(u w:Int):Bool:=match Al A (u,w) with
 |none=>false
 |some c=>decide (some c=atC cs w)
theorem Zp {m s:Nat}{rs:List Road}{cs:List Co}{A:LA}(hR:Right m s rs cs)(As:∀r∈rs,Hs m r){w:Int}(h0:0<=w)(h1:w<m):qX A cs s w=true↔KP rs A (s,w):=by
 have hm:=hR.iT As h0 h1;unfold qX KP;cases q:Al A ((s:Int),w) with
 |none=>simp
 |some c =>
  dsimp only;constructor
  ·intro h;have e:=of_decide_eq_true h;exact⟨c,rfl,e▸hm⟩
  ·rintro ⟨c',e,h⟩;cases e;exact decide_eq_true (h.Ci hm)
theorem mV {m:Nat}{rs:List Road}{A:LA}{K:List (Int×Int)}(hA:F9 m A)(hm:m<=20)(hn:K.Nodup)(hK:∀p∈K,KP rs A p):K.length<1000:=by
 have hr:∀p∈K,p.1≠p.2/\(0<=p.1/\p.1<m)/\0<=p.2/\p.2<m:=λ p hp=>by
  obtain⟨c,hc,_⟩:=hK p hp;exact hA.rg p (F6 hc)
 exact Cg.len (m:=m) ⟨hn,λ x hx=>(hr _ hx).1 rfl,λ q hq=>⟨(hr q hq).2.1,(hr q hq).2.2⟩⟩ hm
theorem Hx:∀ds:List D,(∀d∈ds,GX d=true)->Ea (ds.map .sh)=true
 |[],_=>rfl
 |d::ds,h=>by
  rw[zf,Ea,EZ,h d zd,Hx ds λ x hx=>h x (ze _ hx)];rfl
theorem N9 {ds:List D}(h:∀d∈ds,GX d=true):O5 (.ok (.lst (ds.map .sh)))=.ok (.lst (ds.map .sh)):=by
 unfold O5;simp only[M.A7];rw[EZ,Hx ds h];rfl
theorem Zq (L:List Int):O5 (.ok (.lst ((L.map D.int).map .sh)))=.ok (.lst ((L.map D.int).map .sh)):=N9 λ d hd=>by
 obtain⟨x,_,rfl⟩:=z6.mp hd;rfl
theorem gN (K:List (Int×Int)):O5 (.ok (.lst ((K.map pD).map .sh)))=.ok (.lst ((K.map pD).map .sh)):=N9 λ d hd=>by
 obtain⟨x,_,rfl⟩:=z6.mp hd;exact Z7 x
theorem Zr (cs:List Co):O5 (.ok (.lst ((cs.map cst).map .sh)))=.ok (.lst ((cs.map cst).map .sh)):=N9 λ d hd=>by
 obtain⟨x,_,rfl⟩:=z6.mp hd;exact Qh x
theorem mW (v:(Int×Int)×Option Int):GX (WS v)=true:=by
 obtain⟨c,l⟩:=v;cases l<;>rfl
theorem gO (A:LA):O5 (.ok (IC A))=.ok (IC A):=by
 unfold O5 IC;simp only[M.A7];rw[EZ,Hx _ λ d hd=>by
  obtain⟨x,_,rfl⟩:=z6.mp hd;exact mW x.2]
 rfl
theorem Qw {L:List Int}(hn:L.Nodup){i:Nat}{x:Int}(h:L[i]?=some x):DM L x=i:=by
 have ah:=(zw.mp h).1;have e:L=L.take i++x::L.drop (i+1):=by
  have h2:L.drop i=x::L.drop (i+1):=by
   rw[zaw ah];rw[zi ah] at h;rw[zD h]
  rw[<-h2,yY]
 have hx:x∉L.take i:=λ hm=>by
  rw[e,zA] at hn;exact hn.2.2 x hm x zd rfl
 rw[e,Vv hx,yA];omega
theorem Vx {L:List Int}(hn:L.Nodup){i:Nat}{y:Int}(h:y∈L.drop i):i<=DM L y:=by
 have hy:y∉L.take i:=λ hm=>by
  rw[<-yY i L,zA] at hn;exact hn.2.2 y hm y h rfl
 have h1:=Qp (pre:=L.take i) (post:=L.drop i) hy;rw[yY,yA] at h1;have h2:L.drop i≠[]:=λ e=>by rw[e] at h;cases h
 have h3:i<L.length:=by
  rw[Ne,List.drop_eq_nil_iff] at h2;omega
 omega
theorem gQ {L:List Int}{i:Nat}{y:Int}(h:y∈L)(hr:i<=DM L y):y∈L.drop i:=by
 rw[<-yY i L] at h;rcases zv.mp h with h|h
 ·have h1:=Ub (post:=L.drop i) h;rw[yY,yA] at h1;omega
 ·exact h
structure R7 (L:List Int)(C:CA)(s:Int)(i:Nat)(R:RA):Prop where
 nd:(R.map zQ).Nodup
 rg:∀k∈R.map zQ,k∈L
 st:BR (AK R s) (some (0,0))
 sd:∀y c,AK R y=some c->Oa (λ x y=>AK C (x,y)) (DM L) s y c
 cl:∀x y,DM L x<i->DM L x<DM L y->BR (AK R y) (Aq (AK R x) (AK C (x,y)))
structure iZ (L:List Int)(C:CA)(s:Int)(i:Nat)(x:Int)(c0:Int×Int)(W:List Int)(R0 R:RA):Prop where
 nd:(R.map zQ).Nodup
 rg:∀k∈R.map zQ,k∈L
 sd:∀y c,AK R y=some c->Oa (λ x y=>AK C (x,y)) (DM L) s y c
 le:∀y,BR (AK R y) (AK R0 y)
 sm:∀y,DM L y<=i->AK R y=AK R0 y
 cw:∀y∈W,BR (AK R y) (Aq (some c0) (AK C (x,y)))
theorem iZ.put {L:List Int}{C:CA}{s:Int}{i:Nat}{x:Int}{c0:Int×Int}{W:List Int}{R0 R:RA}(h:iZ L C s i x c0 W R0 R){y:Int}{d v:Int×Int}(hy:y∈L)(hr:i<DM L y)(hx:DM L x=i)(pd:AK R0 x=some c0)(hd:AK C (x,y)=some d)(hv:DF (AK R y) (some (c0.1+d.1,c0.2+d.2))=some v):iZ L C s i x c0 (W++[y]) R0 (Dt R y v):=by
 have hle:BR (some v) (AK R y):=hv▸EA _ _;refine⟨Kl h.nd,λ k hk=>(N6 hk).elim (h.rg k) λ e=>e▸hy,λ z c hz=>?_,λ z=>?_,λ z hz=>?_,λ z hz=>?_⟩
 ·rw[Hu] at hz;split at hz
  ·rename_i e;subst e;cases hz;rcases Bo (AK R z) (some (c0.1+d.1,c0.2+d.2)) with ⟨e,_⟩|⟨e,_⟩
   ·rw[hv] at e;exact h.sd z _ e.symm
   ·rw[hv] at e;cases e;have ar:=h.sd x c0 (by rw[h.sm x (by omega)];exact pd);exact .snoc ar (by omega) hd
  ·exact h.sd z c hz
 ·rw[Hu];split
  ·rename_i e;subst e;exact An hle (h.le z)
  ·exact h.le z
 ·rw[Hu,if_neg (λ e=>by subst e;omega)];exact h.sm z hz
 ·rw[Hu];split
  ·rename_i e;subst e;rw[hd];exact hv▸EB _ _
  ·rename_i e;rcases zv.mp hz with hz|hz
   ·exact h.cw z hz
   ·exact (e (zh.mp hz)).elim
theorem iZ.skip {L:List Int}{C:CA}{s:Int}{i:Nat}{x:Int}{c0:Int×Int}{W:List Int}{R0 R:RA}(h:iZ L C s i x c0 W R0 R){y:Int}(hd:AK C (x,y)=none):iZ L C s i x c0 (W++[y]) R0 R:=
 ⟨h.nd,h.rg,h.sd,h.le,h.sm,λ z hz=>by
  rcases zv.mp hz with hz|hz
  ·exact h.cw z hz
  ·rw[zh.mp hz,hd];cases AK R y<;>exact trivial⟩
theorem R7.go {L:List Int}{C:CA}{s:Int}{i:Nat}{x:Int}{c0:Int×Int}{R0 R:RA}(hC:∀p c,AK C p=some c->p.2∈L)(h0:R7 L C s i R0)(hx:L[i]?=some x)(hn:L.Nodup)(hc:AK R0 x=some c0)(h:iZ L C s i x c0 (L.drop (i+1)) R0 R):R7 L C s (i+1) R:=by
 have qa:=Qw hn hx;refine⟨h.nd,h.rg,An (h.le s) h0.st,h.sd,λ u y hu hy=>?_⟩;by_cases e:DM L u<i
 ·rw[h.sm u (by omega)];exact An (h.le y) (h0.cl u y e hy)
 ·have e2:DM L u=i:=by omega
  have hi:=(zw.mp hx).1;have li:u∈L:=Uc (by omega);have eu:u=x:=Qq li (zk hx) (by omega);subst eu;rw[h.sm u (by omega),hc];cases q:AK C (u,y) with
  |none=>cases AK R y<;>exact trivial
  |some d =>
   have:=h.cw y (gQ (hC _ _ q) (by omega));rw[q] at this;exact this
theorem R7.skip {L:List Int}{C:CA}{s:Int}{i:Nat}{x:Int}{R:RA}(h0:R7 L C s i R)(hx:L[i]?=some x)(hn:L.Nodup)(hc:AK R x=none):R7 L C s (i+1) R:=by
 have qa:=Qw hn hx;refine⟨h0.nd,h0.rg,h0.st,h0.sd,λ u y hu hy=>?_⟩;by_cases e:DM L u<i
 ·exact h0.cl u y e hy
 ·have hi:=(zw.mp hx).1;have eu:u=x:=Qq (Uc (by omega)) (zk hx) (by omega);subst eu;rw[hc];cases AK C (u,y)<;>cases AK R y<;>exact trivial
theorem R7.start {L:List Int}{C:CA}{s:Int}(hs:s∈L):R7 L C s 0 [(s,(0,0))]:=by
 refine⟨by simp,λ k hk=>by simp at hk;rw[hk];exact hs,by simp[AK,BR],λ y c h=>?_,λ x y h=>by omega⟩;simp only[AK] at h;split at h
 ·rename_i e;subst e;cases h;exact .nil
 ·cases h
theorem R7.wF {m:Nat}{L:List Int}{C:CA}{s:Int}{R:RA}(h:R7 L C s L.length R)(hC:∀p c,AK C p=some c->p.1∈L/\p.2∈L):sC (DM L) (λ x y=>AK C (x,y)) s (AK R):=by
 refine⟨h.st,λ x y hr=>?_,h.sd⟩;cases q:AK C (x,y) with
 |none=>cases AK R x<;>cases AK R y<;>exact trivial
 |some d =>
  have hx:DM L x<L.length:=zz hr (Zk L y);have:=h.cl x y hx hr;rw[q] at this;exact this
structure Zs (m:Nat)(L:List Int)(C:CA)(s:Int)(R:RA)(W:List Int)(T:List Co):Prop where
 len:T.length=m
 no:∀x:Int,0<=x->x<m->x∉W->atC T x=none
 top:∀x∈W,BR (atC T x) (AK R x)
 cl:∀x∈W,∀y∈W,DM L y<DM L x->BR (atC T y) (Aq (atC T x) (AK C (x,y)))
 sd:∀(x:Int) c,0<=x->x<m->atC T x=some c->∃t n c1 c2,Oa (λ x y=>AK C (x,y)) (DM L) s t c1/\Sf (λ x y=>AK C (x,y)) (DM L) t n x c2/\c=(c1.1+c2.1,c1.2+c2.2)
theorem Zs.step {m:Nat}{L:List Int}{C:CA}{s:Int}{R:RA}{W:List Int}{T:List Co}(hR:∀y c,AK R y=some c->Oa (λ x y=>AK C (x,y)) (DM L) s y c)(h:Zs m L C s R W T){y:Int}(qb:0<=y)(wy:y<m)(qd:y∉W)(hW:∀x∈W,(0<=x/\x<m)/\DM L y<DM L x):
 Zs m L C s R (W++[y]) (T.set y.toNat (Fu (AK R y::W.map λ x=>Aq (atC T x) (AK C (x,y))))):=by
 obtain⟨v,hv⟩:∃v,v=Fu (AK R y::W.map λ x=>Aq (atC T x) (AK C (x,y))):=⟨_,rfl⟩;rw[<-hv];have ba:∀i:Int,0<=i->atC (T.set y.toNat v) i=if i=y then v else atC T i:=λ i hi=>Ht qb hi (by rw[h.len];exact wy)
 have cb:∀x∈W,x≠y:=λ x hx e=>qd (e▸hx);refine⟨by rw[yC];exact h.len,λ x h0 h1 hx=>?_,λ x hx=>?_,λ x hx z hz hr=>?_,λ x c h0 h1 hx=>?_⟩
 ·rw[zv,not_or] at hx;rw[ba x h0,if_neg (λ e=>hx.2 (zh.mpr e))];exact h.no x h0 h1 hx.1
 ·rcases zv.mp hx with hx|hx
  ·rw[ba x (hW x hx).1.1,if_neg (cb x hx)];exact h.top x hx
  ·have e:=zh.mp hx;subst e;rw[ba x qb,if_pos rfl,hv];exact LY zd
 ·rcases zv.mp hx with ar|ar
  ·rcases zv.mp hz with bf|bf
   ·rw[ba x (hW x ar).1.1,if_neg (cb x ar),ba z (hW z bf).1.1,if_neg (cb z bf)];exact h.cl x ar z bf hr
   ·have e:=zh.mp bf;rw[e] at hr ⊢;rw[ba x (hW x ar).1.1,if_neg (cb x ar),ba y qb,if_pos rfl,hv];exact LY (ze _ (z6.mpr ⟨x,ar,rfl⟩))
  ·have e:=zh.mp ar;rw[e] at hr;rcases zv.mp hz with bf|bf
   ·have:=(hW z bf).2;omega
   ·rw[zh.mp bf] at hr;omega
 ·rw[ba x h0] at hx;split at hx
  ·rename_i e;subst e;rw[hv] at hx;rcases Jx (AK R x::W.map λ z=>Aq (atC T z) (AK C (z,x))) with e|e
   ·rw[e] at hx;cases hx
   ·rw[hx] at e;rcases zp.mp e with e|e
    ·exact⟨x,0,c,(0,0),hR x c e.symm,.nil,by simp⟩
    ·obtain⟨z,hz,e⟩:=z6.mp e;obtain⟨p,q,e1,e2,rfl⟩:=F3 e;obtain⟨t,n,c1,c2,g1,g2,rfl⟩:=h.sd z p (hW z hz).1.1 (hW z hz).1.2 e1;exact⟨t,n+1,c1,_,g1,.snoc g2 (hW z hz).2 e2,by simp only[zav]⟩
  ·exact h.sd x c h0 h1 hx
theorem Zs.start {m:Nat}{L:List Int}{C:CA}{s:Int}{R:RA}:Zs m L C s R [] (zu m none):=by
 have d0:∀x:Int,atC (zu m none) x=none:=λ x=>by
  unfold atC;rw[zy,za1];split<;>rfl
 exact⟨by simp,λ x _ _ _=>d0 x,(λ x hx=>by cases hx),(λ x hx=>by cases hx),λ x c _ _ h=>by rw[d0] at h;cases h⟩
theorem mX {a b g i:Int}(ha:0<=a/\a<NV)(hb:0<=b/\b<NV)(hg:0<=g/\g<NV)(h0:0<=i)(h1:i<8):∃l:Option Int,AX (.lst [.AA,.int 0,.int 0,.int 1,.int a,.int b,.int g,.int g]) (.int i)=.ok (G3 l)/\∀z,l=some z->0<=z/\z<NV:=by
 have ht:=Ql;have hi:i=0\/i=1\/i=2\/i=3\/i=4\/i=5\/i=6\/i=7:=by omega
 rcases hi with rfl|rfl|rfl|rfl|rfl|rfl|rfl|rfl
 ·exact⟨none,rfl,λ z e=>by cases e⟩
 ·exact⟨some 0,rfl,λ z e=>by cases e;omega⟩
 ·exact⟨some 0,rfl,λ z e=>by cases e;omega⟩
 ·exact⟨some 1,rfl,λ z e=>by cases e;omega⟩
 ·exact⟨some a,rfl,λ z e=>by cases e;exact ha⟩
 ·exact⟨some b,rfl,λ z e=>by cases e;exact hb⟩
 ·exact⟨some g,rfl,λ z e=>by cases e;exact hg⟩
 ·exact⟨some g,rfl,λ z e=>by cases e;exact hg⟩
theorem mY {a b i:Int}(ha:0<=a/\a<NV)(hb:0<=b/\b<NV)(h0:0<=i)(h1:i<2):∃w:Int,AX (.lst [.int a,.int b]) (.int i)=.ok (.int w)/\0<=w/\w<NV:=by
 have hi:i=0\/i=1:=by omega
 rcases hi with rfl|rfl
 ·exact⟨a,rfl,ha⟩
 ·exact⟨b,rfl,hb⟩
theorem gR {α:Type}{a b c d e f g h:D}{x y:α}:(if [a,b,c,d,e,f,g,h].length<=1000 then x else y)=x:=if_pos (by simp)
theorem Vy (r:Road):dp (.ok (Be r))=.ok (Be r):=by
 obtain⟨a,b,l,w⟩:=r;cases l<;>rfl
theorem Na (i:Int):dp (.ok (.int i))=.ok (.int i):=rfl
theorem Ug {ρ:Ac}{i m:Nat}{ac:List (List Co)}{x y:Int}(h:ρ[i]?=some (some (.ow (.rows (Ar ac)))))(hM:M2 m ac)(h0:0<=x)(h1:x<m)(h2:0<=y)(h3:y<m):eA i ρ (.ok (.int x)) (.ok (.int y))=.ok (cst (at2 ac x y)):=by
 unfold eA;rw[h];simp only[M.A7];rw[Sa hM h0 h1];exact fY hM h0 h1 h2 h3
theorem gU {ρ:Ac}{i m:Nat}{ac:List (List Co)}{x y:Int}{v:Co}(h:ρ[i]?=some (some (.ow (.rows (Ar ac)))))(hM:M2 m ac)(h0:0<=x)(h1:x<m)(h2:0<=y)(h3:y<m):V2 i ρ (.ok (.int x)) (.ok (.int y)) (cst v)=.ok (.next (ρ.set i (some (.ow (.rows (Ar (put2 ac x y v))))))):=by
 unfold V2;rw[h];simp only[M.A7];rw[Sa hM h0 h1];exact fZ hM h0 h1 h2 h3 i ρ v
theorem Sj:∀(n:Nat) (B:List (Int×Int)) (L:List Int),L.length=n->(Ta n B L).Perm L
 |0,B,L,h=>by rw[List.length_eq_zero_iff.mp h];exact .refl _
 |n+1,B,L,h=>by
  have ae:L≠[]:=λ e=>by rw[e] at h;cases h
  have hm:=(Ph (B:=B) ae).1;rw[Ta,if_neg ae];refine List.Perm.trans ?_ (List.perm_cons_erase hm).symm;exact (Sj n _ _ (by rw[List.length_erase_of_mem hm,h];rfl)).cons _
theorem gW (cs:List Co):Pl 16 (.lst (cs.map cst)):=(My (n:=1) λ d hd=>by
 obtain⟨c,_,rfl⟩:=z6.mp hd;exact Ki (n:=0) c).le (by decide)
noncomputable def CP (gt:D->Ac->M Ac)(ft:Ac->M Bool)(fn:Ac->M OT):List D->Ac->M (List OT)
 |[],_=>.ok []
 |d::r,ρ=>match gt d ρ with
  | .ok ρ1=>(match ft ρ1 with
   | .ok true=>(match fn ρ1 with
    | .ok t=>(match CP gt ft fn r ρ with
     | .ok ts=>.ok (t::ts)
     |_=>.bad)
    |_=>.bad)
   | .ok false=>CP gt ft fn r ρ
   |_=>.bad)
  |_=>.bad
noncomputable def Ko (m:M (List OT)):M OT:=match m with | .ok ts=>.ok (.lst ts) | _=>.bad
theorem Au.snoc {K:za}{H:Hp}{P:Addr->Prop}:∀ {xs:List V}{ts:List OT}{fp fq:List Addr}{v:V}{t:OT},Au K H P xs ts fp->C4 K H P v t fq->Au K H P (xs++[v]) (ts++[t]) (fp++fq)
 |_,_,_,fq,v,t,.nil,o=>by
  have z:Au K H P [v] [t] (fq++[]):=.cons o .nil;rw[zR] at z;exact z
 |_,_,_,fq,v,t,.cons a r,o=>by
  rw[yP];exact .cons a (Au.snoc r o)
theorem TX.uG {K:za}{WX:Str->Hp->Prop}{P:Addr->Prop}{H H1:Hp}{Q:VK}{xs:List V}{ts:List OT}{fp:List Addr}(h:TX K WX P H Q (.ok (.lst ts)))(s1:Ad H H1)(n1:∀a∈fp,H a=none)(nd:fp.Nodup)(hP:∀a,P a->Dq H1 a)(o1:Au K H1 (PU P fp) xs ts fp):∀p,H1 p=none->Q (.ref p) (upd H1 p (.lst xs)):=λ p hp=>by
 have ae:∀a∈fp,a≠p:=λ a ha z=>(o1.BS a ha).no (by rw[z];exact hp);exact h _ (p::fp) _ (s1.trans (AJ hp _)) (λ a ha=>(zp.mp ha).elim (λ z=>by rw[z];exact CD s1 hp) (n1 a)) (zV.mpr ⟨λ z=>ae p z rfl,nd⟩) (.lst Ao (o1.move (Yr hp (Lz hP o1)) λ a ha=>Ah (ae a ha)))
theorem GB {α:Type}{ρ:Ac}{gt:D->Ac->M Ac}{ft:Ac->M Bool}{fn:Ac->M OT}{g:α->D}(f:α->OT):∀ {l:List α},(∀x∈l,∃ρ1,gt (g x) ρ=.ok ρ1/\ft ρ1=.ok true/\fn ρ1=.ok (f x))->CP gt ft fn (l.map g) ρ=.ok (l.map f)
 |[],_=>rfl
 |x::r,h=>by
  obtain⟨ρ1,h1,h2,h3⟩:=h x (.head _);rw[zf,CP,h1];dsimp only;rw[h2];dsimp only;rw[h3];dsimp only;rw[GB f λ y hy=>h y (.tail _ hy)];rfl
section
variable {X:Cx}{WX:Str->Hp->Prop}{c:Bool}{P0:Et}{P:Addr->Prop}{H:Hp}{σ:St}{ρ:Ac}{a b e tg iter:Expr}{f g:Ac->M D}{ft:Ac->M Bool}{pos:Pos}{gt:D->Ac->M Ac}{fi:Ac->M (List D)}
theorem Vz {μ:List (Option Nat)}{wi:TI}{gg:TG}{tc:Shared->Hp->Addr->List Addr->TT}{te:Shared->Hp->Addr->List Addr->TE}{fn:Ac->M OT}
 (i2:∀P0 P σ H R ρ,Ak X.K P0 P H σ ρ->(match fi ρ with | .ok ds=>∀J H',Ad H H'->Yb X.K J P H' ds->R J H' | .ex x=>∀H',Ad H H'->WX x H' | .bad=>False)->wi σ H R)
 (g2:∀P0 P σ H Q ρ v d,Ak X.K P0 P H σ ρ->BK X.K (del H P) v d->gG X.K P0 P H Q (gt d ρ)->gg v σ H Q)
 (t2:∀s H' C ex P0 P σ H Q ρ,Ak X.K P0 P H σ ρ->gT (λ _ _=>False) H Q (ft ρ)->tc s H' C ex σ H Q)
 (e2:∀s H' C ex P0 P σ H Q ρ,Ak X.K P0 P H σ ρ->TX X.K (λ _ _=>False) P H Q (fn ρ)->te s H' C ex σ H Q) {Q:VK}
 (E:Ak X.K P0 P H σ ρ) (h:TX X.K WX P H Q ((fi ρ).bind λ ds=>if ds.length<=1000 then Ko (CP gt ft fn ds (B4 μ ρ)) else .bad)):Rz wi μ gg tc te σ H Q:=by
 refine i2 P0 P σ H _ ρ E ?_;cases q:fi ρ with
 |bad|ex x=>rw[q] at h;exact h
 |ok ds =>
  rw[q] at h;simp only[M.A7] at h;by_cases hd:¬ ds.length<=1000
  ·rw[if_neg hd] at h;exact h.elim
  have hd:ds.length<=1000:=by omega
  rw[if_pos hd] at h;intro J H1 s1 ok s C ex;cases qc:CP gt ft fn ds (B4 μ ρ) with
  |bad|ex x=>rw[qc] at h;exact h.elim
  |ok total =>
   rw[qc] at h;unfold Ko at h;dsimp only at h;have E1:=E.same s1;refine⟨λ i m ys H2=>m=ds.length-i/\i<=ds.length/\ys.length<=i/\Ad H1 H2/\∃ts fp rest,Au X.K H2 (PU P fp) ys ts fp/\(∀a∈fp,H1 a=none)/\fp.Nodup/\CP gt ft fn (ds.drop i) (B4 μ ρ)=.ok rest/\ts++rest=total,
    ⟨ds.length,by simp,zJ _,zx _,Ad.refl _,[],[],total,.nil,(λ a ha=>by cases ha),yM,by rw[List.drop_zero];exact qc,rfl⟩,?_⟩
   rintro i m ys H2 ⟨rfl,hi,hy,s2,ts,fp,rest,bK,bG,ge,ag,aD⟩;have t9:Ak X.K P0 (PU P fp) H2 σ ρ:=E1.more s2 Ic (Lz (E1.same s2).BS bK) (Bz s2 bG);by_cases ah:i<ds.length
   ·refine .inr ⟨ok.go i (PU P fp) H2 (Bz s2 bG) ah,Nat.lt_of_le_of_lt hy (AE (by omega)),λ aU H'=>i+1<=ds.length/\aU.length<=i+1/\Ad H1 H'/\∃ts fp rest,Au X.K H' (PU P fp) aU ts fp/\(∀a∈fp,H1 a=none)/\fp.Nodup/\CP gt ft fn (ds.drop (i+1)) (B4 μ ρ)=.ok rest/\ts++rest=total,λ aU H' hq=>⟨ds.length-(i+1),by omega,rfl,hq.1,hq.2.1,hq.2.2.1,hq.2.2.2⟩,λ v H3 y=>?_⟩;obtain⟨s3,hv⟩:=ok.cF i (PU P fp) H2 v H3 ds[i] (Bz s2 bG) t9.BS (zi ah) y;rw[Gg ah,CP] at ag;have E3:=(t9.same s3).block μ;have mv:∀ {Ha Hb:Hp},Ad Ha Hb->Au X.K Ha (PU P fp) ys ts fp->Au X.K Hb (PU P fp) ys ts fp:=fun {Ha Hb} ub o=>o.move ub.del λ a ha=>by
     obtain⟨o',z,_⟩:=o.BS a ha;rw[z];exact ub _ _ z
    refine g2 P0 (PU P fp) _ H3 _ (B4 μ ρ) v ds[i] E3 hv ?_;cases q1:gt ds[i] (B4 μ ρ) with
    |bad|ex x=>rw[q1] at ag;cases ag
    |ok ρ1 =>
     rw[q1] at ag;dsimp only at ag;intro σ4 E4;refine t2 s H1 C ex P0 (PU P fp) σ4 H3 _ ρ1 E4 ?_;cases q2:ft ρ1 with
     |bad|ex x=>rw[q2] at ag;cases ag
     |ok k =>
      rw[q2] at ag;intro H5 s5;cases k with
      |false =>
       dsimp only at ag;simp only[z8,if_false];exact⟨ah,by omega,(s2.trans s3).trans s5,ts,fp,rest,mv s5 (mv s3 bK),bG,ge,ag,aD⟩
      |true =>
       dsimp only at ag;simp only[if_true];refine e2 s H1 C ex P0 (PU P fp) σ4 H5 _ ρ1 (E4.same s5) ?_;cases q3:fn ρ1 with
       |bad|ex x=>rw[q3] at ag;cases ag
       |ok y' =>
        rw[q3] at ag;dsimp only at ag;cases q4:CP gt ft fn (ds.drop (i+1)) (B4 μ ρ) with
        |bad|ex x=>rw[q4] at ag;cases ag
        |ok i7 =>
         rw[q4] at ag;cases ag;intro w fq H6 s6 n6 wz o6;have hs:=mv s5 (mv s3 bK);have dj:∀a∈fp,a∉fq:=λ a ha hb=>(hs.BS a ha).no (n6 a hb);have eP:PU (PU P fp) fq=PU P (fp++fq):=by
          funext a;simp only[PU,zv,or_assoc]
         have sm:Ad (del H5 (PU P fp)) (del H6 (PU P (fp++fq))):=by rw[<-eP];exact Bz s6 n6
         refine⟨ah,by rw[zC,yJ];omega,((s2.trans s3).trans s5).trans s6,ts++[y'],fp++fq,i7,(hs.move sm λ a ha=>?_).snoc (by rw[<-eP];exact o6),λ a ha=>?_,zA.mpr ⟨ge,wz,λ a ha b hb z=>dj a ha (by rw[z];exact hb)⟩,rfl,?_⟩
         ·obtain⟨o',z,_⟩:=hs.BS a ha;rw[z];exact s6 _ _ z
         ·rcases zv.mp ha with ha|ha
          ·exact bG a ha
          ·exact CD ((s2.trans s3).trans s5) (n6 a ha)
         ·rw[yP];exact aD
   ·have e:i=ds.length:=by omega
    subst e;rw[zb0,CP] at ag;cases ag;rw[zR] at aD;subst aD;exact .inl ⟨ok.stop _ (PU P fp) H2 (Bz s2 bG) (zx _),λ D0 hn=>h.uG (s1.trans s2) (λ a ha=>CD s1 (bG a ha)) ge (E1.same s2).BS bK D0 hn⟩
theorem Zt {scope:Scope}{NB:List Str}{ifs:List Expr}{elt:Expr}{fn:Ac->M OT}(μ:List (Option Nat))(hc:X.calm=true)(hi:DI X WX tg iter fi)(a4:Ff scope X.env.scope=true)(aW:Ml X.N NB scope μ=true)(hg:iK X scope NB μ tg gt)
 (ht:∀s H C ex,lE (blockOf X s H scope C NB ex) ifs ft) (he:∀s H C ex,DN (blockOf X s H scope C NB ex) (λ _ _=>False) elt fn) (hs:∀x,foldedSetIterable iter X.env x=pure x:=by intro _;rfl):
 DN X WX (.ListComp elt [⟨tg,iter,ifs,0⟩] scope pos) (λ ρ=>(fi ρ).bind λ ds=>if ds.length<=1000 then Ko (CP gt ft fn ds (B4 μ ρ)) else .bad):=by
 obtain⟨wi,i1,i2⟩:=hi;obtain⟨gg,g1,gk,g2⟩:=hg;refine⟨_,UO hc i1 a4 aW gk (λ s H C ex=>⟨g1 s H C ex,(zb (ht s H C ex)).1,(zb (he s H C ex)).1⟩) hs,λ P0 P σ H Q ρ E h=>?_⟩;exact Vz i2 g2 (λ s H' C ex P0 P σ H Q ρ E h=>(zb (ht s H' C ex)).2 P0 P σ H Q ρ E h) (λ s H' C ex P0 P σ H Q ρ E h=>(zb (he s H' C ex)).2 P0 P σ H Q ρ E h) E h
end
noncomputable def vH (K:za)(a b:Addr):It:=
 ⟨λ i H=>∃xs ys x y,CJ K H a xs/\CJ K H b ys/\xs[i]?=some x/\ys[i]?=some y,
  λ i H v H'=>∃p x y,H p=none/\v=.ref p/\(∀xs,CJ K H a xs->xs[i]?=some x)/\(∀ys,CJ K H b ys->ys[i]?=some y)/\H'=upd H p (.tup [x,y]),
  λ i H=>∃xs ys,CJ K H a xs/\CJ K H b ys/\(xs.length<=i\/ys.length<=i)⟩
theorem Nb {X:Cx}{pins:List (Addr×Obj)}{σ:St}{H H':Hp}{s:Shared}{h':Heap}{t':Nat}{fp:List Addr}(I:Inv X pins σ H s)(hf:∀b∈fp,K1 X pins H b)(k:∀b o,b∉fp->s.heap.get? b=some o->h'.get? b=some o)
 (hH:∀b u,H b=some u->H' b=some u) (hn:∀b o,s.heap.get? b=some o->H b=none->H' b=none) (ok:FR X.prog X.w H' h'):Inv X pins σ H' {s with heap:=h',toks:=t' }:=by
 refine I.step (g':=s.gens) (d':=s.drawn) (ch:=fp) (λ b hb=>⟨(hf b hb).2.2.2.1,(hf b hb).2.1,(hf b hb).2.2.2.2.1,(hf b hb).2.2.2.2.2⟩) (λ b o _ _ hc q _=>k b o hc q) (λ b o _ _ hc q _=>⟨o.slots,k b o hc q⟩)
  (λ b o _ q n=>hn b o q n) (λ b o hc q=>⟨o,k b o hc q⟩) (λ b xs q=>hH b _ q) (λ b o u q=>hH b _ q) (λ b ps q=>⟨#[],by rw[hH b _ q];simp⟩) (λ m hm=>?_) ok I.bare
 obtain⟨o,es,ep,ho,r⟩:=hm;exact⟨o,es,ep,k _ o (λ z=>(hf _ z).2.1 rfl) ho,r⟩
theorem Zu {P:Program}{w:World}{K:za}{aM:List Expr}{x1}{aF:Pos}(a b z TI TO i1 i2:Addr)(D:ZipApart z TI TO i1 i2 a b):
 Turn P w K (.Tuple aM x1 aF) (vH K a b) [z,TI,TO,i1,i2] z (λ i h=>IsZip h z TI TO .none/\IsPair h TI (.ref i1) (.ref i2)/\(∃x y,IsPair h TO x y)/\h.IsListIter i1 a i/\h.IsListIter i2 b i) where
 mem:=by simp
 obj:=λ i h st c hc=>by
  obtain⟨h1,h2,⟨x,y,h3⟩,⟨o4,h4,c4,d4⟩,⟨o5,h5,c5,d5⟩⟩:=st;simp only[zp,List.not_mem_nil,or_false] at hc;rcases hc with rfl|rfl|rfl|rfl|rfl
  ·exact⟨_,h1,λ v z=>by cases z⟩
  ·exact⟨_,h2,λ v z=>by cases z⟩
  ·exact⟨_,h3,λ v z=>by cases z⟩
  ·exact⟨o4,h4,λ v z=>by rw[d4] at z;cases z⟩
  ·exact⟨o5,h5,λ v z=>by rw[d5] at z;cases z⟩
 keep:=λ i h h' st k=>⟨k z (by simp) _ st.1,k TI (by simp) _ st.2.1,let ⟨x,y,q⟩:=st.2.2.1;⟨x,y,k TO (by simp) _ q⟩,st.2.2.2.1.at λ o e=>k i1 (by simp) o e,st.2.2.2.2.at λ o e=>k i2 (by simp) o e⟩
 item:=by
  intro X hP hw hK hc i pins s σ H E I hf st hg;subst hP hw hK;obtain⟨xs,ys,x,y,hq,b6,hx,hy⟩:=hg;obtain⟨hz,jf,⟨oa,ob,lm⟩,ln,lp⟩:=st;obtain⟨aa,rv,p,w4⟩:=I.list hq;obtain⟨its',aJ,p',qe⟩:=I.list b6;obtain⟨u,hu,ru⟩:=rv.get hx;obtain⟨u',aj,w5⟩:=aJ.get hy;refine wpAny_pyNext_zip_item D hz jf lm ln lp p.isList p'.isList (x:=u) (y:=u') (by simpa using hu) (by simpa using aj) λ h1 bf qg w6 uc ht hsz hk=>?_;refine⟨_,rfl,wpAny_letOwnedTupleGo_zip (s:={s with heap:=h1}) bf λ h2 i8 aK=>?_⟩;have aA:zag z h1 h2:=aK;have lt:∀c∈[z,TI,TO,i1,i2],s.heap.objs.size≠c:=λ c hc=>by
   simp only[zp,List.not_mem_nil,or_false] at hc;rcases hc with rfl|rfl|rfl|rfl|rfl
   ·exact zah (zr hz)
   ·exact zah (zr jf)
   ·exact zah (zr lm)
   ·obtain⟨o,ho,_⟩:=ln;exact zah (zr ho)
   ·obtain⟨o,ho,_⟩:=lp;exact zah (zr ho)
  have kk:∀c o,c∉[z,TI,TO,i1,i2]->s.heap.get? c=some o->h2.get? c=some o:=λ c o hc q =>
   (aA.2 c λ w=>hc (by simp[w])).trans (hk c o (λ w=>hc (by simp[w])) (λ w=>hc (by simp[w])) (λ w=>hc (by simp[w])) (λ w=>hc (by simp[w])) q)
  have I1:Inv X pins σ H {s with heap:=h2,toks:=s.toks}:=Nb I hf kk (λ _ _ q=>q) (λ _ _ _ q=>q) λ c v q=>(I.As c v q).NW (λ d v' hd w=>kk d v' (λ m=>by
   have e0:=(hf d m).1;rcases hd with e|e
   ·subst e;rw[e0] at q;cases q
   ·rw[e0] at e;cases e) w) (λ _ w=>w) λ _ _ w=>w
  have tup:h2.get? s.heap.objs.size=some {cls:=.type "tuple",data:=.seq #[u,u']}:=(aA.2 _ (lt z (by simp))).trans ht;have nH:H s.heap.objs.size=none:=I.As.fresh (zx _);have vv:Vals [x,y] [u,u']:=.cons ru (.cons w5 .nil);have fj:FR X.prog X.w (upd H s.heap.objs.size (.tup [x,y])) h2:=I1.As.adopt nH ⟨by show 2<=sizeLine;decide,_,vv,⟨_,tup,rfl,_,rfl⟩⟩;have I2:Inv X pins σ (upd H s.heap.objs.size (.tup [x,y])) {s with heap:=h2,toks:=s.toks}:=Nb I hf kk (λ b v q=>by rw[Ah (Av q nH)];exact q) (λ b o q n=>by rw[Ah (zB (zr q))];exact n) fj;refine⟨.ref s.heap.objs.size,_,I2,rfl,⟨_,x,y,nH,rfl,(λ zs ip=>by rw[I.DU ip hq];exact hx),(λ zs ip=>by rw[I.DU ip b6];exact hy),rfl⟩,⟨i8,(aA.2 TI D.TIz).trans (hk _ _ D.TIz D.TITO D.TIi1 D.TIi2 jf),⟨_,_,(aA.2 TO D.TOz).trans qg⟩,w6.at λ o q=>(aA.2 i1 D.i1z).trans q,uc.at λ o q=>(aA.2 i2 D.i2z).trans q⟩,λ c hc=>?_⟩;rw[Ah (zX (lt c hc))];exact (hf c hc).1
 done:=by
  intro X hP hw hK hc i pins s σ H E I hf st hg;subst hP hw hK;obtain⟨xs,ys,hq,b6,hx⟩:=hg;obtain⟨hz,jf,⟨oa,ob,lm⟩,ln,lp⟩:=st;obtain⟨aa,rv,p,w4⟩:=I.list hq;obtain⟨its',aJ,p',qe⟩:=I.list b6;have hl:=rv.length;have bz:=aJ.length;refine wpAny_pyNext_zip_end (I.ok.hd hc) D hz jf lm ln lp p.isList p'.isList (hx.elim (λ h=>.inl (by simp;omega)) λ h=>.inr (by simp;omega)) λ h' hk=>⟨rfl,?_⟩;have kk:∀c o,c∉[z,TI,TO,i1,i2]->s.heap.get? c=some o->h'.get? c=some o:=λ c o hc q=>hk c o (λ w=>hc (by simp[w])) (λ w=>hc (by simp[w])) (λ w=>hc (by simp[w])) (λ w=>hc (by simp[w])) q;exact Nb (t':=s.toks) I hf kk (λ _ _ q=>q) (λ _ _ _ q=>q) λ c v q=>(I.As c v q).NW (λ d v' hd w=>kk d v' (λ m=>by
   have e0:=(hf d m).1;rcases hd with e|e
   ·subst e;rw[e0] at q;cases q
   ·rw[e0] at e;cases e) w) (λ _ w=>w) λ _ _ w=>w
 self:=λ _ _ _ _ _ st h=>wpAny_pyIter_zip st.1 h
section
variable {X:Cx}{WX:Str->Hp->Prop}{tg a b:Expr}{f g:Ac->M D}{pos p:Pos}{te:TE}
noncomputable def uH (K:za)(ta:TA):TI:=λ σ H R=>ta σ H λ vs H1=>∃a b xs ys,vs=[.ref a,.ref b]/\CJ K H1 a xs/\CJ K H1 b ys/\R (vH K a b) H1
theorem mZ {aM:List Expr}{x1}{aF:Pos}{ta:TA}(hg:Gl X "zip")(hm:X.mg "zip" = none)(ha:PA X [a,b] ta)(hb:bootBuiltins "zip" = some (.type "zip"):=by decide +kernel)(hs:starEach [a,b] X.env=(false,eval a X.env)::starEach [b] X.env:=by rfl)(aK:(backTo pos (starEach [b] X.env)).any (·.1)=false:=by rfl):
 PI X (.Tuple aM x1 aF) (.Call (.Name "zip" p) [a,b] [] pos) (uH X.K ta):=by
 intro pins s σ H R I h;refine Call_ (Dr I hg hm hb (zY (Bg (ha pos pins s σ H _ I h) λ us s1 ⟨vs,H1,I1,r1,q1⟩=>?_) hs aK));obtain⟨j,k,xs,ys,e,hq,b6,q⟩:=q1;subst e;cases r1 with
 |cons r rr =>
  cases rr with
  |cons r' rr =>
   cases rr;cases r;cases r';obtain⟨aa,rv,p,hz⟩:=I1.list hq;obtain⟨its',aJ,p',sr⟩:=I1.list b6;refine call_zip_2 p.isList p'.isList λ h' z1 z2 z3 z4 z5 hsz hk=>?_;refine wpAny_pyIter_zip (s:={s1 with heap:=h' }) z1 ?_;have I2:Inv X pins σ H1 {s1 with heap:=h' }:=I1.kept (t':=s1.toks) hk;have lj:j<s1.heap.objs.size:=let ⟨_,e,_⟩:=p.isList;zr e;have lk:k<s1.heap.objs.size:=let ⟨_,e,_⟩:=p'.isList;zr e;have D:ZipApart (s1.heap.objs.size+4) (s1.heap.objs.size+2) (s1.heap.objs.size+3) s1.heap.objs.size (s1.heap.objs.size+1) j k:=by
    constructor<;>intro z<;>simp only[Addr] at * <;>omega
   refine⟨_,[s1.heap.objs.size+4,s1.heap.objs.size+2,s1.heap.objs.size+3,s1.heap.objs.size,s1.heap.objs.size+1],_,_,H1,rfl,I2,Zu j k _ _ _ _ _ D,⟨z1,z2,⟨_,_,z3⟩,z4,z5⟩,λ c hc=>?_,q⟩;have le:s1.heap.objs.size<=c:=by
    simp only[zp,List.not_mem_nil,or_false] at hc;rcases hc with rfl|rfl|rfl|rfl|rfl<;>simp only[Addr] at * <;>omega
   exact I1.VM le (I1.As.fresh le)
noncomputable def JG:List D->List D->List D
 |x::xs,y::ys=>.tup [x,y]::JG xs ys
 |_,_=>[]
theorem Nc:∀xs ys:List D,(JG xs ys).length=min xs.length ys.length
 |[],_=>by rw[JG];simp;nofun
 |x::xs,[]=>by rw[JG];simp;nofun
 |x::xs,y::ys=>by rw[JG,zl,Nc xs ys,zl,zl];omega
theorem Sk:∀ {xs ys:List D}{i:Nat}{d:D},(JG xs ys)[i]?=some d->∃x y,xs[i]?=some x/\ys[i]?=some y/\d=.tup [x,y]
 |[],ys,i,d,h=>by rw[JG] at h;cases h;nofun
 |x::xs,[],i,d,h=>by rw[JG] at h;cases h;nofun
 |x::xs,y::ys,0,d,h=>by rw[JG,zW] at h;cases h;exact⟨x,y,rfl,rfl,rfl⟩
 |x::xs,y::ys,i+1,d,h=>by rw[JG,zI] at h;exact Sk (xs:=xs) (ys:=ys) (i:=i) h
theorem nA {aM:List Expr}{x1}{aF:Pos}(hg:Gl X "zip")(hm:X.mg "zip" = none)(ha:DE X WX true a f)(a8:DE X WX true b g)(hb:bootBuiltins "zip" = some (.type "zip"):=by decide +kernel)(hs:starEach [a,b] X.env=(false,eval a X.env)::starEach [b] X.env:=by rfl)(w9:starEach [b] X.env=[(false,eval b X.env)]:=by rfl)(aK:(backTo pos (starEach [b] X.env)).any (·.1)=false:=by rfl):
 DI X WX (.Tuple aM x1 aF) (.Call (.Name "zip" p) [a,b] [] pos) (λ ρ=>(f ρ).bind λ d=>(g ρ).bind λ e=>match d,e with | .lst xs,.lst ys=>.ok (JG xs ys)|_,_=>.bad):=by
 obtain⟨ta,a1,a2⟩:=ha;obtain⟨tb,b1,b2⟩:=a8;refine⟨_,mZ hg hm (Ba a1 (Ba b1 C5 w9) hs) hb hs aK,λ P0 P σ H R ρ E h=>?_⟩;dsimp only at h;refine a2 P0 P σ H _ ρ E ?_;cases q:f ρ with
 |bad|ex x=>rw[q] at h;exact h
 |ok d =>
  rw[q] at h;intro v H1 s1 hv;refine b2 P0 P σ H1 _ ρ (E.same s1) ?_;cases q2:g ρ with
  |bad=>rw[q2] at h;exact h
  |ex x=>rw[q2] at h;exact λ H' s=>h H' (s1.trans s)
  |ok e =>
   rw[q2] at h;intro v2 H2 s2 nq;have mi:=hv.mono s2.del;cases d with
   |lst ds =>
    cases e with
    |lst es =>
     cases mi with
     | @lst j xs _ jg hl =>
      cases nq with
      | @lst k ys _ de bz =>
       have jh:=hl.length;have wE:=bz.length;refine⟨j,k,xs,ys,rfl,jg.AN,de.AN,h _ H2 (s1.trans s2) ⟨λ i P' H' s hi=>?_,λ i P' H' s hi=>?_,λ i P' H' v dr d s ht hd y=>?_⟩⟩
       ·rw[Nc] at hi;obtain⟨x,hx,_⟩:=hl.get (zi (show i<ds.length by omega));obtain⟨y,hy,_⟩:=bz.get (zi (show i<es.length by omega));exact⟨xs,ys,x,y,(s.seq jg).AN,(s.seq de).AN,hx,hy⟩
       ·rw[Nc] at hi;exact⟨xs,ys,(s.seq jg).AN,(s.seq de).AN,by omega⟩
       ·obtain⟨pa,x,y',hn,rfl,y1,y2,rfl⟩:=y;obtain⟨dx,dy,wG,wH,rfl⟩:=Sk hd;obtain⟨x',n5,wI⟩:=hl.get wG;obtain⟨yr,qh,wJ⟩:=bz.get wH;have e1:=y1 xs (s.seq jg).AN;have e2:=y2 ys (s.seq de).AN;rw[n5] at e1;rw[qh] at e2;cases e1;cases e2;have sn:=AJ hn (HO.tup [x,y']);have np:¬ P' pa:=λ z=>(ht pa z).no hn;refine⟨sn,.tup (a:=pa) (by rw[Aw np];exact Ao) (.cons ((wI.mono s).mono sn.del) (.cons ((wJ.mono s).mono sn.del) .nil))⟩
    |_=>exact h.elim
   |_=>exact h.elim
end
theorem Sl {α:Type}(f g:α->D):∀l:List α,JG (l.map f) (l.map g)=l.map λ x=>D.tup [f x,g x]
 |[]=>rfl
 |x::r=>by rw[zf,zf,JG,Sl f g r,zf]
section
variable {X:Cx}{WX:Str->Hp->Prop}{a:Expr}{i:Nat}{fp:Ac->M (List Nat)}{pos:Pos}
theorem WV (ha:DP X WX a i fp){apos ad:Pos}(aR:swapsWith (.Call (.Attribute a "clear" apos) [] [] ad) none pos.line X.env=pure false:=by rfl)
 (ao:attributeBase a "clear" X.env (eval a X.env)=eval a X.env:=by rfl) (aq:(apos.endLine==ad.line)=true:=by rfl):
 DS X WX (.Expr (.Call (.Attribute a "clear" apos) [] [] ad) pos) (λ ρ=>(fp ρ).bind λ π=>(CG i ρ π).bind λ _=>EJ i ρ π (.lst [])):=by
 obtain⟨ta,a1,a2⟩:=ha;refine⟨_,Ex (kP yQ PySem.F.slot_list_clear PySem.F.type_list_clear XN a1 ao aq) aR,λ P0 P σ H Z ρ E h=>?_⟩;dsimp only at h;refine a2 P0 P σ H _ ρ E ?_;cases q:fp ρ with
 |bad=>rw[q] at h;exact h
 |ex x=>rw[q] at h;exact λ H' s=>h H' P (E.tr s)
 |ok π =>
  rw[q] at h;simp only[M.A7] at h;intro v t1 H1 s1 pl;have E1:=E.same s1;cases q1:CG i ρ π with
  |bad=>rw[q1] at h;exact h.elim
  |ex x=>unfold CG at q1;split at q1<;>cases q1
  |ok ts =>
   rw[q1] at h;simp only[M.A7] at h;obtain⟨rfl,l,xs,fq,rfl,hl,ol,nl,sB⟩:=pl.lst E1 q1;refine⟨.inl ⟨rfl,xs,.of hl⟩,l,xs,rfl,rfl,hl,?_⟩;obtain⟨c,p,t0,g1,g2,E3,t3⟩:=E1.lM pl hl ol (us:=[]) (ys:=[]) .nil yM (by simp) (λ b hb=>by cases hb);rw[Fq g1 g2] at h;exact h _ _ _ ((E.tr s1).trans t3) E3
end
section
variable {X:Cx}{WX:Str->Hp->Prop}{tg iter:Expr}{ft:Ac->M Bool}{pos:Pos}{gt:D->Ac->M Ac}{fi:Ac->M (List D)}
theorem Zv {scope:Scope}{NB:List Str}{ifs:List Expr}{elt:Expr}{fn:Ac->M OT}(i:Nat){x:Str}{px am:Pos}(μ:List (Option Nat))(hN:X.N.Nodup)(fg:X.N[i]?=some x)(hx:Loc X.env.scope x)(hc:X.calm=true)(hi:DI X WX tg iter fi)(a4:Ff scope X.env.scope=true)(aW:Ml X.N NB scope μ=true)(hg:iK X scope NB μ tg gt)
 (ht:∀s H C ex,lE (blockOf X s H scope C NB ex) ifs ft) (he:∀s H C ex,DN (blockOf X s H scope C NB ex) (λ _ _=>False) elt fn)
 (aR:swapsWith (.ListComp elt [⟨tg,iter,ifs,0⟩] scope pos) (some (.Name x px)) am.line X.env=pure true:=by rfl) (hs:∀x,foldedSetIterable iter X.env x=pure x:=by intro _;rfl) (hf:X.fn x=true\/X.env.scope.names.lookup x=some .local:=by first|exact .inl rfl|exact .inr rfl|assumption):
 DS X WX (.Assign [.Name x px] (.ListComp elt [⟨tg,iter,ifs,0⟩] scope pos) am) (λ ρ=>(O5 ((fi (Dn ρ)).bind λ ds=>if ds.length<=1000 then Ko (CP gt ft fn ds (B4 μ (Dn ρ))) else .bad)).bind (O6 i ρ)):=by
 obtain⟨wi,i1,i2⟩:=hi;obtain⟨gg,g1,gk,g2⟩:=hg;refine⟨_,PY hN fg hx hc i1 a4 aW gk (λ s H C ex=>⟨g1 s H C ex,(zb (ht s H C ex)).1,(zb (he s H C ex)).1⟩) aR hs hf,λ P0 P σ H Z ρ E h=>?_⟩;refine Vz (P0:=P0) (P:=P0) i2 g2 (λ s H' C ex P0 P σ H Q ρ E h=>(zb (ht s H' C ex)).2 P0 P σ H Q ρ E h) (λ s H' C ex P0 P σ H Q ρ E h=>(zb (he s H' C ex)).2 P0 P σ H Q ρ E h) E.low ?_;dsimp only at h;revert h;cases ((fi (Dn ρ)).bind λ ds=>if ds.length<=1000 then Ko (CP gt ft fn ds (B4 μ (Dn ρ))) else .bad) with
 |bad=>exact λ h=>h
 |ex y=>exact λ h H' s=>h H' P (E.tr s)
 |ok t =>
  unfold O5;simp only[M.A7];by_cases hf:EZ t=true
  ·rw[if_pos hf];exact λ h v fp H' s hn nd o=>Yv E s hn nd (o.clean (Gn (E.same s).BS o) hf) h
  ·rw[if_neg hf];exact λ h=>h.elim
end
theorem qY {α:Type}(l:List α):Wd [.lst (l.map λ _=>D.bl true)]=.ok (.bl true):=by
 have e:(l.map λ _=>D.bl true)=(l.map λ _=>true).map D.bl:=by rw[zH];rfl
 rw[e,Gx];simp
noncomputable def EM (F:List (List D)):OT:=.lst (F.map λ ds=>.lst (ds.map .sh))
noncomputable def Ew (F:List (List D)):Cl:=toCl none (EM F)
theorem VA:∀F:List (List D),RC (F.map λ ds=>OT.lst (ds.map .sh))=F.map D.lst
 |[]=>by simp[RC]
 |ds::r=>by rw[zf,RC,VA r,Im,zf]
theorem Qx (F:List (List D)):er (EM F)=.lst (F.map D.lst):=by unfold EM;rw[er,VA]
theorem Eh (F:List (List D)):treeOf (Ew F)=some (none,EM F):=RN _ _
theorem JH (F:List (List D)):IT (Ew F)=.val (.lst (F.map D.lst)):=by rw[Wj (Eh F),Qx]
theorem Sn {i:Nat}{ρ:Ac}{F:List (List D)}:O6 i ρ (EM F)=.ok (.next (ρ.set i (some (Ew F)))):=rfl
theorem qZ {i:Nat}{o:Option Cl}{ρ:Ac}{π:List Nat}{d:D}:Wl (i+1) (o::ρ) π d=Wl i ρ π d:=rfl
section
variable {F:List (List D)}{ρ:Ac}{k:Nat}{ds:List D}{d:D}
theorem Qy:R5 0 (some (Ew F)::ρ) []=some (EM F):=by
 unfold R5;simp only[zW,Eh,MI]
theorem So:O7 0 (some (Ew F)::ρ)=.ok []:=by unfold O7;rw[Qy]
theorem Zw (h:F[k]?=some ds):Wl 0 (some (Ew F)::ρ) [] (.int (k:Int))=.ok [k]:=by
 have hk:k<F.length:=(zw.mp h).1;unfold Wl;rw[Qy];unfold EM;dsimp only;unfold Lc;rw[zc,if_pos (by omega),if_pos (by omega)];rfl
theorem VB (h:F[k]?=some ds):(kids (EM F))[k]?=some (.lst (ds.map .sh)):=by
 unfold EM;rw[kids,z7,h];rfl
theorem WW (h:F[k]?=some ds):CG 0 (some (Ew F)::ρ) [k]=.ok (ds.map .sh):=by
 unfold CG R5;simp only[zW,Eh];rw[OV (VB h),MI]
theorem Uh:CG 0 (some (Ew F)::ρ) []=.ok (F.map λ ds=>OT.lst (ds.map .sh)):=by unfold CG;rw[Qy];rfl
theorem Zx (h:F[k]?=some ds):EJ 0 (some (Ew F)::ρ) [k] (.lst (ds.map .sh++[.sh d]))=.ok (.next (some (Ew (F.set k (ds++[d])))::ρ)):=by
 unfold EJ;simp only[zW,Eh];rw[OW (VB h),Dm,zt];have e:GY (EM F) ((kids (EM F)).set k (.lst (ds.map .sh++[.sh d])))=EM (F.set k (ds++[d])):=by
  unfold EM;rw[kids,GY,zan,zG];rfl
 rw[e];rfl
theorem WY:EJ 0 (some (Ew F)::ρ) [] (.lst [])=.ok (.next (some (.own [])::ρ)):=by
 unfold EJ;simp only[zW,Eh,Dm,zt];rfl
end
theorem Pk:∀ {F:List (List D)},(∀ds∈F,∀d∈ds,GX d=true)->Ea (F.map λ ds=>OT.lst (ds.map .sh))=true
 |[],_=>by simp[Ea]
 |ds::r,h=>by
  rw[zf,Ea,EZ,Hx ds (h ds zd),Pk λ x hx=>h x (ze _ hx)];rfl
theorem gY {F:List (List D)}(h:∀ds∈F,∀d∈ds,GX d=true):O5 (.ok (EM F))=.ok (EM F):=by
 unfold O5 EM;simp only[M.A7];rw[EZ,Pk h];rfl
theorem gZ {α:Type}(F:List α)(k:Nat)(x:α):(F.set k x).take k++(F.set k x).drop (k+1)=F.take k++F.drop (k+1):=by
 rw[List.take_set_of_le (zx k),List.drop_set_of_lt (Nat.lt_succ_self k)]
theorem WZ {m:Nat}{r:Road}(h:Gy m r):Gy m (Dy r):=⟨h.b0,h.b1,h.a0,h.a1,λ e=>h.ab e.symm,h.l0,h.w0,h.w1⟩
noncomputable def HD (m:Nat)(ac:List (List Co)):List (List Co):=(yD m).map λ u:Nat=>ac.map λ R=>atC R (u:Int)
theorem X0 {m:Nat}{ac:List (List Co)}(h:M2 m ac):M2 m (HD m ac):=⟨by unfold HD;rw[zc,List.length_range],λ R hR=>by
 obtain⟨u,_,rfl⟩:=z6.mp hR;rw[zc,h.len]⟩
theorem Zy {m:Nat}{ac:List (List Co)}(h:M2 m ac){x y:Int}(h0:0<=x)(h1:x<m)(h2:0<=y)(h3:y<m):at2 (HD m ac) x y=at2 ac y x:=by
 obtain⟨a,rfl⟩:∃a:Nat,(a:Int)=x:=⟨x.toNat,by omega⟩;have g:=(h.get h2 h3).1;unfold at2 HD;rw[yF,zy (l:=List.map _ _),z7,List.getElem?_range (by omega)];simp only[yW,Option.getD_some];unfold atC;rw[zy,z7,g];rfl
end L2
set_option maxHeartbeats 4000000
namespace cu
open PySem L2
noncomputable def top (i:Nat):Stmt:=PySem.Challenge.pw_nodeladder_k52_tables.main.body.getD i (.Pass ⟨0,0,0,0⟩)
noncomputable abbrev F7:Stmt:=top 7
theorem JI:Ag ["thing","bound"] ["thing","bound"] (A4 F7):=⟨rfl,rfl,rfl,by decide +kernel,rfl,by decide +kernel,by decide +kernel⟩
noncomputable abbrev JJ:Stmt:=top 8
theorem Ob:Ag ["thing"] ["thing"] (A4 JJ):=⟨rfl,rfl,rfl,by decide +kernel,rfl,by decide +kernel,by decide +kernel⟩
noncomputable abbrev Pm:Stmt:=top 9
theorem Ui:Ag ["thing","many"] ["thing","many"] (A4 Pm):=⟨rfl,rfl,rfl,by decide +kernel,rfl,by decide +kernel,by decide +kernel⟩
noncomputable abbrev Sq:Stmt:=top 10
theorem Kq:Ag ["thing","many","roads"] ["thing"] (A4 Sq):=⟨rfl,rfl,rfl,by decide +kernel,rfl,by decide +kernel,by decide +kernel⟩
noncomputable abbrev Pn:Stmt:=top 11
theorem Uj:Ag ["thing"] ["thing"] (A4 Pn):=⟨rfl,rfl,rfl,by decide +kernel,rfl,by decide +kernel,by decide +kernel⟩
noncomputable abbrev VC:Stmt:=top 12
theorem Zz:Ag ["one","other"] ["one","other"] (A4 VC):=⟨rfl,rfl,rfl,by decide +kernel,rfl,by decide +kernel,by decide +kernel⟩
noncomputable abbrev VD:Stmt:=top 13
theorem ZA:Ag ["some"] ["some"] (A4 VD):=⟨rfl,rfl,rfl,by decide +kernel,rfl,by decide +kernel,by decide +kernel⟩
noncomputable abbrev KO:Stmt:=top 14
theorem Qz:Ag ["road"] ["road"] (A4 KO):=⟨rfl,rfl,rfl,by decide +kernel,rfl,by decide +kernel,by decide +kernel⟩
noncomputable abbrev JK:Stmt:=top 16
theorem Oc:Ag ["ladder"] ["ladder"] (A4 JK):=⟨rfl,rfl,rfl,by decide +kernel,rfl,by decide +kernel,by decide +kernel⟩
noncomputable abbrev Po:Stmt:=top 17
theorem Dc:Ag ["order","costs","place","reached","rank","lower","higher","cost"] ["order","costs","place"] (A4 Po):=⟨rfl,rfl,rfl,by decide +kernel,rfl,by decide +kernel,by decide +kernel⟩
noncomputable abbrev VE:Stmt:=top 19
theorem F8:Ag ["order","costs","place","reached","told","higher","lower","over"] ["order","costs","place"] (A4 VE):=⟨rfl,rfl,rfl,by decide +kernel,rfl,by decide +kernel,by decide +kernel⟩
noncomputable abbrev KQ:Stmt:=top 20
theorem QA:Ag ["ladder","start"] ["ladder","start"] (A4 KQ):=⟨rfl,rfl,rfl,by decide +kernel,rfl,by decide +kernel,by decide +kernel⟩
noncomputable abbrev Nd:Stmt:=top 21
theorem Sr:Ag ["costs","places"] ["costs","places"] (A4 Nd):=⟨rfl,rfl,rfl,by decide +kernel,rfl,by decide +kernel,by decide +kernel⟩
noncomputable abbrev VF:Stmt:=top 22
theorem ZC:Ag ["ladder","starts","goals"] ["ladder","starts","goals"] (A4 VF):=⟨rfl,rfl,rfl,by decide +kernel,rfl,by decide +kernel,by decide +kernel⟩
noncomputable abbrev HE:Stmt:=top 24
theorem Nf:Ag ["laid","pair"] ["laid","pair"] (A4 HE):=⟨rfl,rfl,rfl,by decide +kernel,rfl,by decide +kernel,by decide +kernel⟩
noncomputable abbrev jA:Stmt:=top 25
theorem nB:Ag ["laid","pair","cost","middle"] ["laid","pair","cost","middle"] (A4 jA):=⟨rfl,rfl,rfl,by decide +kernel,rfl,by decide +kernel,by decide +kernel⟩
noncomputable abbrev Ng:Stmt:=top 26
theorem EC:Ag ["laid","place","higher","u","w","cost"] ["laid","place","higher"] (A4 Ng):=⟨rfl,rfl,rfl,by decide +kernel,rfl,by decide +kernel,by decide +kernel⟩
noncomputable abbrev KR:Stmt:=top 27
theorem CQ:Ag ["net","order","laid","road","rank","place"] ["net","order"] (A4 KR):=⟨rfl,rfl,rfl,by decide +kernel,rfl,by decide +kernel,by decide +kernel⟩
noncomputable abbrev Nh:Stmt:=top 29
theorem Ss:Ag ["net","thing"] ["net","thing"] (A4 Nh):=⟨rfl,rfl,rfl,by decide +kernel,rfl,by decide +kernel,by decide +kernel⟩
noncomputable abbrev FV:Stmt:=top 30
theorem Kr:Ag ["net","thing"] ["net","thing"] (A4 FV):=⟨rfl,rfl,rfl,by decide +kernel,rfl,by decide +kernel,by decide +kernel⟩
noncomputable abbrev JL:Stmt:=top 31
theorem EN:Ag ["net","bows","road"] ["net"] (A4 JL):=⟨rfl,rfl,rfl,by decide +kernel,rfl,by decide +kernel,by decide +kernel⟩
noncomputable abbrev GC:Stmt:=top 32
theorem BX:Ag ["bows","left","place","ahead","behind","missing","u"] ["bows","left","place"] (A4 GC):=⟨rfl,rfl,rfl,by decide +kernel,rfl,by decide +kernel,by decide +kernel⟩
noncomputable abbrev Ni:Stmt:=top 33
theorem Su:Ag ["bows","left"] ["bows","left"] (A4 Ni):=⟨rfl,rfl,rfl,by decide +kernel,rfl,by decide +kernel,by decide +kernel⟩
noncomputable abbrev Sv:Stmt:=top 34
theorem DR:Ag ["net","bows","left","order","place","bow"] ["net"] (A4 Sv):=⟨rfl,rfl,rfl,by decide +kernel,rfl,by decide +kernel,by decide +kernel⟩
noncomputable abbrev JM:Stmt:=top 36
theorem Bw:Ag ["net","start","costs","changed","road","cost"] ["net","start"] (A4 JM):=⟨rfl,rfl,rfl,by decide +kernel,rfl,by decide +kernel,by decide +kernel⟩
noncomputable abbrev ED:Stmt:=top 38
theorem Iq:Ag ["net","order"] ["net","order"] (A4 ED):=⟨rfl,rfl,rfl,by decide +kernel,rfl,by decide +kernel,by decide +kernel⟩
noncomputable abbrev KS:Stmt:=top 39
theorem DJ:Ag ["net","laid","kept","u","costs"] ["net","laid"] (A4 KS):=⟨rfl,rfl,rfl,by decide +kernel,rfl,by decide +kernel,by decide +kernel⟩
noncomputable abbrev AB:Stmt:=inClass (top 40) 0
theorem Ir:Ag ["self","net","order"] ["self","net","order"] (A4 AB):=⟨rfl,rfl,rfl,by decide +kernel,rfl,by decide +kernel,by decide +kernel⟩
noncomputable abbrev GD:Stmt:=inClass (top 40) 2
theorem Lj:Ag ["self"] ["self"] (A4 GD):=⟨rfl,rfl,rfl,by decide +kernel,rfl,by decide +kernel,by decide +kernel⟩
noncomputable abbrev Dp:Stmt:=inClass (top 40) 4
theorem D1:Ag ["self","u","w","many"] ["self","u","w"] (A4 Dp):=⟨rfl,rfl,rfl,by decide +kernel,rfl,by decide +kernel,by decide +kernel⟩
noncomputable abbrev HF:Stmt:=inClass (top 40) 5
theorem Nj:Ag ["self","u","w"] ["self","u","w"] (A4 HF):=⟨rfl,rfl,rfl,by decide +kernel,rfl,by decide +kernel,by decide +kernel⟩
noncomputable abbrev HG:Stmt:=inClass (top 40) 8
theorem Nk:Ag ["self"] ["self"] (A4 HG):=⟨rfl,rfl,rfl,by decide +kernel,rfl,by decide +kernel,by decide +kernel⟩
noncomputable abbrev HH:Stmt:=top 42
theorem Nl:Ag ["_law_script","_law_k"] ["_law_script","_law_k"] (A4 HH):=⟨rfl,rfl,rfl,by decide +kernel,rfl,by decide +kernel,by decide +kernel⟩
noncomputable abbrev Pp:Stmt:=top 43
theorem Nm:Ag ["_law_cell","_law_k","_law_number"] ["_law_cell","_law_k"] (A4 Pp):=⟨rfl,rfl,rfl,by decide +kernel,rfl,by decide +kernel,by decide +kernel⟩
noncomputable abbrev KU:Stmt:=top 44
theorem QB:Ag ["_law_cell","_law_k"] ["_law_cell","_law_k"] (A4 KU):=⟨rfl,rfl,rfl,by decide +kernel,rfl,by decide +kernel,by decide +kernel⟩
noncomputable abbrev KW:Stmt:=top 45
theorem QC:Ag ["_law_found"] ["_law_found"] (A4 KW):=⟨rfl,rfl,rfl,by decide +kernel,rfl,by decide +kernel,by decide +kernel⟩
noncomputable abbrev HI:Stmt:=top 46
theorem Nn:Ag ["_law_found"] ["_law_found"] (A4 HI):=⟨rfl,rfl,rfl,by decide +kernel,rfl,by decide +kernel,by decide +kernel⟩
noncomputable abbrev FX:Stmt:=top 47
theorem Ks:Ag ["_law_found","_law_many"] ["_law_found","_law_many"] (A4 FX):=⟨rfl,rfl,rfl,by decide +kernel,rfl,by decide +kernel,by decide +kernel⟩
noncomputable abbrev KY:Stmt:=top 48
theorem Bf:Ag ["_law_cells","_law_many","_law_roads_here","_law_k","_law_mixed","_law_great_here","_law_one","_law_other","_law_small","_law_length"] ["_law_cells","_law_many"] (A4 KY):=⟨rfl,rfl,rfl,by decide +kernel,rfl,by decide +kernel,by decide +kernel⟩
noncomputable abbrev KZ:Stmt:=top 49
theorem Fv:Ag ["_law_cell","_law_many","_law_order_here","_law_place"] ["_law_cell","_law_many"] (A4 KZ):=⟨rfl,rfl,rfl,by decide +kernel,rfl,by decide +kernel,by decide +kernel⟩
noncomputable abbrev L0:Stmt:=top 50
theorem QD:Ag ["_law_one","_law_other"] ["_law_one","_law_other"] (A4 L0):=⟨rfl,rfl,rfl,by decide +kernel,rfl,by decide +kernel,by decide +kernel⟩
noncomputable abbrev L1:Stmt:=top 51
theorem QE:Ag ["_law_some"] ["_law_some"] (A4 L1):=⟨rfl,rfl,rfl,by decide +kernel,rfl,by decide +kernel,by decide +kernel⟩
noncomputable abbrev Np:Stmt:=top 52
theorem Sw:Ag ["_law_road"] ["_law_road"] (A4 Np):=⟨rfl,rfl,rfl,by decide +kernel,rfl,by decide +kernel,by decide +kernel⟩
noncomputable abbrev L3:Stmt:=top 53
theorem Bs:Ag ["_law_roads_here","_law_many","_law_costs_here","_law_u","_law_v","_law_row","_law_road","_law_w"] ["_law_roads_here","_law_many"] (A4 L3):=⟨rfl,rfl,rfl,by decide +kernel,rfl,by decide +kernel,by decide +kernel⟩
noncomputable abbrev JN:Stmt:=top 54
theorem Od:Ag ["_law_cell","_law_many","_law_k"] ["_law_cell","_law_many","_law_k"] (A4 JN):=⟨rfl,rfl,rfl,by decide +kernel,rfl,by decide +kernel,by decide +kernel⟩
noncomputable abbrev L4:Stmt:=top 55
theorem Fw:Ag ["_law_found","_law_costs_here","_law_starts","_law_goals","_law_row","_law_start"] ["_law_found","_law_costs_here","_law_starts","_law_goals"] (A4 L4):=⟨rfl,rfl,rfl,by decide +kernel,rfl,by decide +kernel,by decide +kernel⟩
noncomputable abbrev Pq:Stmt:=top 56
theorem Ct:Ag ["_law_script","_law_first","_law_many","_law_roads_here","_law_order_here","_law_ladder","_law_costs_here","_law_starts","_law_goals","_law_handed","_law_found","_law_k","_law_other","_law_kept"] ["_law_script"] (A4 Pq):=⟨rfl,rfl,rfl,by decide +kernel,rfl,by decide +kernel,by decide +kernel⟩
structure Txt (K:za)(mg:Str->Option Value):Prop where
 Kt:AH K mg "is_whole_below" F7 ["thing","bound"]
 QF:AH K mg "is_measure" JJ ["thing"]
 X1:AH K mg "is_road" Pm ["thing","many"]
 ZD:AH K mg "is_map" Sq ["thing"]
 X2:AH K mg "checked" Pn ["thing"]
 hV:AH K mg "added" VC ["one","other"]
 hX:AH K mg "least" VD ["some"]
 Sx:AH K mg "road_cost" KO ["road"]
 QG:AH K mg "kept_costs" JK ["ladder"]
 X3:AH K mg "climbed" Po ["order","costs","place"]
 hZ:AH K mg "swept" VE ["order","costs","place"]
 Sy:AH K mg "costs_out" KQ ["ladder","start"]
 Uk:AH K mg "costs_at" Nd ["costs","places"]
 iA:AH K mg "table" VF ["ladder","starts","goals"]
 Oe:AH K mg "cost_so_far" HE ["laid","pair"]
 rA:AH K mg "lay" jA ["laid","pair","cost","middle"]
 Ul:AH K mg "lay_over" Ng ["laid","place","higher"]
 Sz:AH K mg "laid_arcs" KR ["net","order"]
 Um:AH K mg "is_order" Nh ["net","thing"]
 Lk:AH K mg "checked_order" FV ["net","thing"]
 QH:AH K mg "first_bows" JL ["net"]
 Nq:AH K mg "missing_bows" GC ["bows","left","place"]
 Uo:AH K mg "lightest" Ni ["bows","left"]
 ZE:AH K mg "ranked" Sv ["net"]
 QI:AH K mg "costs_from" JM ["net","start"]
 JO:AH K mg "order_or_ranked" ED ["net","order"]
 SA:AH K mg "kept_arcs" KS ["net","laid"]
 JP:U5 K mg "Ladder" "Ladder.__init__" AB ["self","net","order"]
 Nr:P6 K "Ladder" "order" "Ladder.order" GD ["self"]
 GF:P6 K "Ladder" "checked_arc" "Ladder.checked_arc" Dp ["self","u","w"]
 Of:P6 K "Ladder" "cost" "Ladder.cost" HF ["self","u","w"]
 Og:P6 K "Ladder" "kept" "Ladder.kept" HG ["self"]
 Oh:AH K mg "_law_cell_at" HH ["_law_script","_law_k"]
 X4:AH K mg "_law_mix" Pp ["_law_cell","_law_k"]
 SD:AH K mg "_law_great" KU ["_law_cell","_law_k"]
 SE:AH K mg "_law_whole" KW ["_law_found"]
 Oi:AH K mg "_law_is_cost" HI ["_law_found"]
 Ll:AH K mg "_law_are_costs" FX ["_law_found","_law_many"]
 SF:AH K mg "_law_roads" KY ["_law_cells","_law_many"]
 SG:AH K mg "_law_order" KZ ["_law_cell","_law_many"]
 SH:AH K mg "_law_added" L0 ["_law_one","_law_other"]
 SI:AH K mg "_law_least" L1 ["_law_some"]
 Up:AH K mg "_law_open" Np ["_law_road"]
 SJ:AH K mg "_law_costs" L3 ["_law_roads_here","_law_many"]
 QJ:AH K mg "_law_places" JN ["_law_cell","_law_many","_law_k"]
 SK:AH K mg "_law_right" L4 ["_law_found","_law_costs_here","_law_starts","_law_goals"]
 vI:AH K mg "law" Pq ["_law_script"]
 ZF:mg "all" = none
 ZG:mg "bool" = none
 nE:mg "dict" = none
 L5:mg "enumerate" = none
 ZH:mg "int" = none
 AZ:mg "isinstance" = none
 Dz:mg "len" = none
 Cu:mg "list" = none
 ZI:mg "min" = none
 Cb:mg "range" = none
 Uq:mg "reversed" = none
 ZJ:mg "sorted" = none
 M6:mg "tuple" = none
 rB:mg "zip" = none
 Ei:HC K "Ladder" "kept_ones"
 Di:HC K "Ladder" "laid"
 BH:HC K "Ladder" "own_map"
 Cv:HC K "Ladder" "own_order"
local macro_rules | `(tactic| simp_arith [$xs,*])=>`(tactic| simp only [rS,rT,LU,List.set_cons_zero,List.set_cons_succ,M.A7,H9,GZ,IU,Jd,Je,Jf,LJ,Il,Im,RU,J4,J5,Hd,V5,LG,LH,J6,eY,He,Hf,Fs,Qd,D7,Qe,J7,J8,Hg,V8,J3,Dm,toCl_list,toCl_listP,toCl_dct,LK,Jg,Jh,Ji,Jj,LL,Jk,Jl,Jm,nO,qG,J9,V9,Ja,Va,Jb,Jc,LI,Vb,rV,rW,fB,fC,fD,fE,fF,fG,toCl_nil,IR,J0,OI,Qf,Hh,LM,LN,Jn,Jo,LO,LP,LQ,LR,LS,Jp,Jq,Js,Jt,Hi,Hj,Hk,Hl,Hm,Ju,Hn,Ho,Vc,Vd,Ve,Vf,Vg,Hq,ite_tt,ite_ff,Bool.not_true,Bool.not_false,List.getElem?_cons_zero,List.getElem?_cons_succ,F5,Gx,JA,fA,gB,eZ,gE,gF,gH,M3,Qr,Qs,Qt,DQ,Hw,M5,Qi,gR,Vy,Na,$xs,*])
variable {P:Program}{w:World}{K:za}{mg:Str->Option Value}{base:Heap}
theorem CS:∃F:List D->M OT,(∀ {P w K mg base},Txt K mg->BM P w K mg base "is_whole_below" 1 2 F)/\(∀i n:Int,0<=i->i<n->F [.int i,.int n]=.ok (.sh (.bl true))):=by
 refine⟨_,λ T=>AD (k:=0) T.Kt JI _ (λ f B5 A outer s H E hr=>(A6 (Aj (AO (Mv (E5 (RF _) rfl T.AZ rfl T.ZH (by decide +kernel) (A1 0 (pv 0))) (Mv (Y4 (E5 (OL _) rfl T.AZ rfl T.ZG (by decide +kernel) (A1 0 (pv 0)))) (Ka (W6 oU iB A5 (A1 0 (pv 0)) (A1 1 (pv 1)))))))))),?_⟩;intro i n h0 h1;have e0:AF ["thing","bound"] [.int i,.int n]=[some (.val (.int i)),some (.val (.int n))]:=rfl;rw[e0];refine Bj ?_;have a:=decide_eq_true h0;have b:=decide_eq_true h1;simp_arith[F5,a,b,Fp];rfl
noncomputable def FY:List D->M OT:=zg CS
theorem B0:Txt K mg->BM P w K mg base "is_whole_below" 1 2 FY:=(zb CS).1
theorem B1:∀i n:Int,0<=i->i<n->FY [.int i,.int n]=.ok (.sh (.bl true)):=(zb CS).2
theorem EO:∃F:List D->M OT,(∀ {P w K mg base},Txt K mg->BM P w K mg base "is_measure" 2 1 F)/\(∀i:Int,0<=i->i<NV->F [.int i]=.ok (.sh (.bl true))):=by
 refine⟨_,λ T=>AD (k:=1) T.QF Ob _ (λ f B5 A outer s H E hr=>(A6 (Aj (Aa A9.toXCall (B0 T) (hr.mono (by decide)) rfl (A2 (A1 0 (pv 0)) (A2 (Y1 A5 A5) A8)) rfl)))),?_⟩;intro i h0 h1;have e0:AF ["thing"] [.int i]=[some (.val (.int i))]:=rfl;rw[e0];have h:=B1 i NV h0 h1;refine Bj ?_;simp_arith[iV,h];rfl
noncomputable def L6:List D->M OT:=zg EO
theorem HJ:Txt K mg->BM P w K mg base "is_measure" 2 1 L6:=(zb EO).1
theorem HK:∀i:Int,0<=i->i<NV->L6 [.int i]=.ok (.sh (.bl true)):=(zb EO).2
theorem Iv:∃F:List D->M OT,(∀ {P w K mg base},Txt K mg->BM P w K mg base "is_road" 3 2 F)/\(∀(m:Nat) (r:Road),Gy m r->F [Be r,.int m]=.ok (.sh (.bl true))):=by
 refine⟨_,λ T=>AD (k:=2) T.X1 Ui _ (λ f B5 A outer s H E hr=>(A3 (B8 (DW.dt (Dw (BY (BF (c:=true) (E5 (I9 _) rfl T.AZ rfl T.M6 (by decide +kernel) (A1 0 (pv 0))))) (Cr (FT (c:=true) (AU hr 16 (by decide)) (Cd rfl T.Dz (A1 0 (pv 0))) A5)))) (A6 (Aj (AO Cj))) Ax) (A3 (B8 (DW.dt (Dw (BY (BF (c:=true) (Ae (Aa A9.toXCall (B0 T) (hr.mono (by decide)) rfl (A2 (Ab (AU hr 16 (by decide)) (A1 0 (pv 0)) A5) (A2 (A1 1 (pv 1)) A8)) rfl)))) (Cr (BY (BF (c:=true) (Ae (Aa A9.toXCall (B0 T) (hr.mono (by decide)) rfl (A2 (Ab (AU hr 16 (by decide)) (A1 0 (pv 0)) A5) (A2 (A1 1 (pv 1)) A8)) rfl))))))) (A6 (Aj (AO Cj))) Ax) (A3 (B8 (OJ (c:=true) (AU hr 16 (by decide)) (Ab (AU hr 16 (by decide)) (A1 0 (pv 0)) A5) (Ab (AU hr 16 (by decide)) (A1 0 (pv 0)) A5)) (A6 (Aj (AO Cj))) Ax) (A6 (Aj (AO (Mv (iH (Y3 (Ab (AU hr 16 (by decide)) (A1 0 (pv 0)) A5)) (Ka (Ae (Aa A9.toXCall (HJ T) (hr.mono (by decide)) rfl (A2 (Ab (AU hr 16 (by decide)) (A1 0 (pv 0)) A5) A8) rfl)))) (Ka (Ae (Aa A9.toXCall (HJ T) (hr.mono (by decide)) rfl (A2 (Ab (AU hr 16 (by decide)) (A1 0 (pv 0)) A5) A8) rfl))))))))))),?_⟩;intro m r ok;have e0:AF ["thing","many"] [Be r,.int m]=[some (.val (Be r)),some (.val (.int m))]:=rfl;rw[e0];refine Bj ?_;have i0:AX (Be r) (.int 0)=.ok (.int r.a):=rfl;have i1:AX (Be r) (.int 1)=.ok (.int r.b):=rfl;have i2:AX (Be r) (.int 2)=.ok (G3 r.l):=rfl;have i3:AX (Be r) (.int 3)=.ok (.int r.w):=rfl;have ha:=B1 r.a m ok.a0 ok.a1;have hb:=B1 r.b m ok.b0 ok.b1;have hw:=HK r.w ok.w0 ok.w1;apply wp_step
 ·rfl
 apply wp_step
 ·simp_arith[i0,i1,ha,hb,Fp];rfl
 apply wp_step
 ·simp_arith[i0,i1,decide_eq_false ok.ab];rfl
 simp_arith[i2,i3,hw];cases q:r.l with
 |none=>rfl
 |some z =>
  have hl:=HK z (ok.l0 z q).1 (ok.l0 z q).2;have e:G3 (some z)=.int z:=rfl;simp_arith[e,hl];rfl
noncomputable def SM:List D->M OT:=zg Iv
theorem Ur:Txt K mg->BM P w K mg base "is_road" 3 2 SM:=(zb Iv).1
theorem Us:∀(m:Nat) (r:Road),Gy m r->SM [Be r,.int m]=.ok (.sh (.bl true)):=(zb Iv).2
theorem Ku:∃F:List D->M OT,(∀ {P w K mg base},Txt K mg->BM P w K mg base "is_map" 4 1 F)/\(∀(m:Nat) (rs:List Road),1<=m->m<=16->rs.length<=60->(∀r∈rs,Gy m r)->F [Ap m rs]=.ok (.sh (.bl true))):=by
 refine⟨_,λ T=>AD (k:=3) T.ZD Kq _ (λ f B5 A outer s H E hr=>(A3 (B8 (DW.dt (Dw (BY (BF (c:=true) (E5 (I9 _) rfl T.AZ rfl T.M6 (by decide +kernel) (A1 0 (pv 0))))) (Cr (FT (c:=true) (AU hr 16 (by decide)) (Cd rfl T.Dz (A1 0 (pv 0))) A5)))) (A6 (Aj (AO Cj))) Ax) (A3 (AV 1 Kq.nd rfl (Or.inr rfl) (Ab (AU hr 16 (by decide)) (A1 0 (pv 0)) A5)) (A3 (AV 2 Kq.nd rfl (zT rfl) (Ab (AU hr 16 (by decide)) (A1 0 (pv 0)) A5)) (A3 (B8 (DW.dt (Dw (BY (BF (c:=true) (Ae (Aa A9.toXCall (B0 T) (hr.mono (by decide)) rfl (A2 (A1 1 (pv 1)) (A2 A5 A8)) rfl)))) (Cr (OJ (c:=true) (AU hr 16 (by decide)) (A1 1 (pv 1)) A5)))) (A6 (Aj (AO Cj))) Ax) (A3 (B8 (DW.dt (Dw (BY (BF (c:=true) (E5 (GQ _) rfl T.AZ rfl T.Cu (by decide +kernel) (A1 2 (pv 2))))) (Cr (UR (c:=true) (Cd rfl T.Dz (A1 2 (pv 2))) A5)))) (A6 (Aj (AO Cj))) Ax) (A6 (Aj (AO (TR rfl rfl T.ZF (Ae (BB (NB:=["road","many"]) [none,some 1] rfl (AI (A1 2 (pv 2))) rfl rfl (AY 0 (by decide) rfl rfl rfl) (λ _ _ _ _=>BP) (λ _ _ _ _=>(Ae (Bn (Aa (AW rfl).toXCall (Ur T) (hr.mono (by decide)) rfl (A2 (A1 0 (pv 0)) (A2 (A1 1 (pv 1)) A8)) rfl)))))))))))))))),?_⟩;intro m rs h1 h2 hl As;have e0:AF ["thing","many","roads"] [Ap m rs]=[some (.val (Ap m rs)),none,none]:=rfl;rw[e0];refine Bj ?_;have i0:AX (Ap m rs) (.int 0)=.ok (.int m):=rfl;have i1:AX (Ap m rs) (.int 1)=.ok (.lst (rs.map Be)):=rfl;have hn:=B1 m 17 (by omega) (by omega);have hm:decide ((m:Int)=0)=false:=decide_eq_false (by omega);have gi:decide ((60:Int)<((rs.map Be).length:Int))=false:=decide_eq_false (by rw[zc];omega);have a6:(rs.map Be).length<=1000:=by rw[zc];omega
 apply wp_step
 ·rfl
 apply wp_step
 ·simp_arith[i0];rfl
 apply wp_step
 ·simp_arith[i1];rfl
 apply wp_step
 ·simp_arith[hn,hm,Fp];rfl
 apply wp_step
 ·simp_arith[gi,Fp];rfl
 simp_arith[if_pos a6];rw[B6 (λ _:Road=>D.bl true) (λ r hr=>⟨_,rfl,rfl,by
  have:=Us m r (As r hr);simp_arith[this]⟩)]
 simp_arith[qY];rfl
noncomputable def VG:List D->M OT:=zg Ku
theorem X5:Txt K mg->BM P w K mg base "is_map" 4 1 VG:=(zb Ku).1
theorem X6:∀(m:Nat) (rs:List Road),1<=m->m<=16->rs.length<=60->(∀r∈rs,Gy m r)->VG [Ap m rs]=.ok (.sh (.bl true)):=(zb Ku).2
theorem Iw:∃F:List D->M OT,(∀ {P w K mg base},Txt K mg->BM P w K mg base "checked" 5 1 F)/\(∀(m:Nat) (rs:List Road),1<=m->m<=16->rs.length<=60->(∀r∈rs,Gy m r)->F [Ap m rs]=.ok (.tup [.sh (.int m),.lst ((rs.map Be).map .sh)])):=by
 refine⟨_,λ T=>AD (k:=4) T.X2 Uj _ (λ f B5 A outer s H E hr=>(A3 (B8 (BY (BF (c:=true) (Ae (Aa A9.toXCall (X5 T) (hr.mono (by decide)) rfl (A2 (A1 0 (pv 0)) A8) rfl)))) (A6 TM) Ax) (A6 (Aj (lK (RM (AO (Ab (AU hr 16 (by decide)) (A1 0 (pv 0)) A5)) (RM (BB (NB:=["road"]) [none] rfl (AI (Ab (AU hr 16 (by decide)) (A1 0 (pv 0)) A5)) rfl rfl (AY 0 (by decide) rfl rfl rfl) (λ _ _ _ _=>BP) (λ _ _ _ _=>(Y7 rfl T.M6 (A1 0 (pv 0))))) Fo))))))),?_⟩;intro m rs h1 h2 hl As;have e0:AF ["thing"] [Ap m rs]=[some (.val (Ap m rs))]:=rfl;rw[e0];have h1:=X6 m rs h1 h2 hl As;have n0:AX (Ap m rs) (.int 0)=.ok (.int m):=rfl;have n1:AX (Ap m rs) (.int 1)=.ok (.lst (rs.map Be)):=rfl;have a6:(rs.map Be).length<=1000:=by rw[zc];omega
 refine Bj ?_;apply wp_step
 ·simp_arith[h1,Fp];rfl
 simp_arith[n0,n1,if_pos a6];rw[B6 Be (λ r hr=>⟨_,rfl,rfl,rfl⟩)];simp_arith[];exact⟨_,rfl,rfl⟩
noncomputable def SN:List D->M OT:=zg Iw
theorem Ut:Txt K mg->BM P w K mg base "checked" 5 1 SN:=(zb Iw).1
theorem Uu:∀(m:Nat) (rs:List Road),1<=m->m<=16->rs.length<=60->(∀r∈rs,Gy m r)->SN [Ap m rs]=.ok (.tup [.sh (.int m),.lst ((rs.map Be).map .sh)]):=(zb Iw).2
theorem Nt:∃F:List D->M OT,(∀ {P w K mg base},Txt K mg->BM P w K mg base "added" 1 2 F)/\(∀a b:Co,F [cst a,cst b]=.ok (.sh (cst (Aq a b)))):=by
 refine⟨_,λ T=>AD (k:=0) T.hV Zz _ (λ f B5 A outer s H E hr=>(A3 (B8 (DW.dt (Dw (I0 (c:=true) (A1 0 (pv 0))) (Cr (I0 (c:=true) (A1 1 (pv 1)))))) (A6 (Aj (AO D5))) Ax) (A6 (Aj (AO (AL (A2 (BC (Ab (AU hr 16 (by decide)) (A1 0 (pv 0)) A5) (Ab (AU hr 16 (by decide)) (A1 1 (pv 1)) A5)) (A2 (BC (Ab (AU hr 16 (by decide)) (A1 0 (pv 0)) A5) (Ab (AU hr 16 (by decide)) (A1 1 (pv 1)) A5)) A8)))))))),?_⟩;intro a b;rcases a with _|⟨a1,a2⟩<;>rcases b with _|⟨b1,b2⟩<;>rfl
noncomputable def ZK:List D->M OT:=zg Nt
theorem JQ:Txt K mg->BM P w K mg base "added" 1 2 ZK:=(zb Nt).1
theorem JR:∀a b:Co,ZK [cst a,cst b]=.ok (.sh (cst (Aq a b))):=(zb Nt).2
theorem Nu:∃F:List D->M OT,(∀ {P w K mg base},Txt K mg->BM P w K mg base "least" 1 1 F)/\(∀cs:List Co,cs.length<=1000->F [.lst (cs.map cst)]=.ok (.sh (cst (Fu cs)))):=by
 refine⟨_,λ T=>AD (k:=0) T.hX ZA _ (λ f B5 A outer s H E hr=>(A6 (Aj (AO (UW rfl (AU hr 1 (by decide)) rfl T.ZI (Ae (BB (NB:=["cost"]) [none] rfl (AI (A1 0 (pv 0))) rfl rfl (AY 0 (by decide) rfl rfl rfl) (λ _ _ _ _=>GW (Lu (c:=true) (A1 0 (pv 0)))) (λ _ _ _ _=>(A1 0 (pv 0))))) D5))))),?_⟩;intro cs hc;have e0:∀x:D,AF ["some"] [x]=[some (.val x)]:=λ x=>rfl;rw[e0];refine Bj ?_;have hl:(cs.map cst).length<=1000:=by rw[zc];exact hc
 have wK:=S5 cs;have qi:=Vq cs;simp_arith[if_pos hl];rw[Gs];simp_arith[qi];rfl
noncomputable def QK:List D->M OT:=zg Nu
theorem Nv:Txt K mg->BM P w K mg base "least" 1 1 QK:=(zb Nu).1
theorem Nw:∀cs:List Co,cs.length<=1000->QK [.lst (cs.map cst)]=.ok (.sh (cst (Fu cs))):=(zb Nu).2
theorem Fx:∃F:List D->M OT,(∀ {P w K mg base},Txt K mg->BM P w K mg base "road_cost" 1 1 F)/\(∀r:Road,F [Be r]=.ok (.sh (cst (C7 r)))):=by
 refine⟨_,λ T=>AD (k:=0) T.Sx Qz _ (λ f B5 A outer s H E hr=>(A3 (B8 (I0 (c:=true) (Ab (AU hr 16 (by decide)) (A1 0 (pv 0)) A5)) (A6 (Aj (AO D5))) Ax) (A6 (Aj (AO (AL (A2 (Ab (AU hr 16 (by decide)) (A1 0 (pv 0)) A5) (A2 A5 A8)))))))),?_⟩;intro r;obtain⟨a,b,l,w⟩:=r;cases l<;>rfl
noncomputable def Nx:List D->M OT:=zg Fx
theorem Fy:Txt K mg->BM P w K mg base "road_cost" 1 1 Nx:=(zb Fx).1
theorem Fz:∀r:Road,Nx [Be r]=.ok (.sh (cst (C7 r))):=(zb Fx).2
theorem C1:∃F:List D->M OT,(∀ {P w K mg base},Txt K mg->Io P w K mg base "Ladder" "checked_arc" 2 3 F)/\(∀(m:Nat) (rs:List Road) (L:List Int) (A:LA) (K:List (Int×Int)) (u w:Int),0<=u->u<m->0<=w->w<m->(AK A (u,w)).isSome=true->F [Bb m rs L A K,.int u,.int w]=.ok (.sh (pD (u,w)))):=by
 refine⟨_,λ T=>LV (k:=1) T.GF D1 _ (λ f B5 A outer s H E hr=>(A3 (AV 3 D1.nd rfl (zT rfl) (Ab (AU hr 16 (by decide)) (EK ["Ladder"] (Br T.BH C3) (A1 0 (pv 0))) A5)) (A3 (B8 (DW.dt (Dw (BY (BF (c:=true) (Ae (Aa A9.toXCall (B0 T) (hr.mono (by decide)) rfl (A2 (A1 1 (pv 1)) (A2 (A1 3 (pv 3)) A8)) rfl)))) (Dw (BY (BF (c:=true) (Ae (Aa A9.toXCall (B0 T) (hr.mono (by decide)) rfl (A2 (A1 2 (pv 2)) (A2 (A1 3 (pv 3)) A8)) rfl)))) (Cr (LC (c:=true) (AU hr 16 (by decide)) (AL (A2 (A1 1 (pv 1)) (A2 (A1 2 (pv 2)) A8))) (EK ["Ladder"] (Br T.Di C3) (A1 0 (pv 0)))))))) (A6 TM) Ax) (A6 (Aj (AO (AL (A2 (A1 1 (pv 1)) (A2 (A1 2 (pv 2)) A8))))))))),?_⟩;intro m rs L A K u w u0 u1 w0 w1 hf;have e0:AF ["self","u","w","many"] [Bb m rs L A K,.int u,.int w]=[some (.val (Bb m rs L A K)),some (.val (.int u)),some (.val (.int w)),none]:=rfl;rw[e0];refine Bj ?_;have f1:O9 ["Ladder"] "own_map" (Bb m rs L A K)=.ok (Ap m rs):=rfl;have f2:O9 ["Ladder"] "laid" (Bb m rs L A K)=.ok (KL A):=rfl;have n0:AX (Ap m rs) (.int 0)=.ok (.int m):=rfl;have h1:=B1 u m u0 u1;have h2:=B1 w m w0 w1;have hp:D.tup [.int u,.int w]=pD (u,w):=rfl;have hm:=Qu A (u,w) true;rw[hf] at hm;apply wp_step
 ·simp_arith[f1,n0];rfl
 apply wp_step
 ·simp_arith[h1,h2,f2,hp,hm,Fp];rfl
 rfl
noncomputable def Bc:List D->M OT:=zg C1
theorem G4:Txt K mg->Io P w K mg base "Ladder" "checked_arc" 2 3 Bc:=(zb C1).1
theorem G5:∀(m:Nat) (rs:List Road) (L:List Int) (A:LA) (K:List (Int×Int)) (u w:Int),0<=u->u<m->0<=w->w<m->(AK A (u,w)).isSome=true->Bc [Bb m rs L A K,.int u,.int w]=.ok (.sh (pD (u,w))):=(zb C1).2
theorem Ej:∃F:List D->M OT,(∀ {P w K mg base},Txt K mg->Io P w K mg base "Ladder" "cost" 3 3 F)/\(∀(m:Nat) (rs:List Road) (L:List Int) (A:LA) (K:List (Int×Int)) (u w:Int) (c:Int×Int),F9 m A->Al A (u,w)=some c->F [Bb m rs L A K,.int u,.int w]=.ok (.sh (cst (some c)))):=by
 refine⟨_,λ T=>LV (k:=2) T.Of Nj _ (λ f B5 A outer s H E hr=>(A6 (Aj (AO (Ab (AU hr 16 (by decide)) (Ab (AU hr 16 (by decide)) (EK ["Ladder"] (Br T.Di C3) (A1 0 (pv 0))) (Ae (Vj (k:=2) [("Ladder",Bc)] A9.toXCall (Jw (by decide) (G4 T) LX) (hr.mono (by decide)) (A1 0 (pv 0)) (A2 (A1 1 (pv 1)) (A2 (A1 2 (pv 2)) A8)) rfl))) A5))))),?_⟩;intro m rs L A K u w c hA hc;have e0:AF ["self","u","w"] [Bb m rs L A K,.int u,.int w]=[some (.val (Bb m rs L A K)),some (.val (.int u)),some (.val (.int w))]:=rfl;rw[e0];refine Bj ?_;have f2:O9 ["Ladder"] "laid" (Bb m rs L A K)=.ok (KL A):=rfl;have hk:=hA.rg _ (F6 hc);obtain⟨v,hv⟩:∃v,AK A (u,w)=some (c,v):=by
  unfold Al at hc;cases q:AK A (u,w) with
  |none=>rw[q] at hc;cases hc
  |some z=>rw[q] at hc;obtain⟨z1,z2⟩:=z;cases hc;exact⟨z2,rfl⟩
 have h1:=G5 m rs L A K u w hk.2.1.1 hk.2.1.2 hk.2.2.1 hk.2.2.2 (by rw[hv];rfl);have hi:=Qv hv;have h0:AX (WS (c,v)) (.int 0)=.ok (cst (some c)):=rfl;have hs:Lh [("Ladder",Bc)] "checked_arc" (Bb m rs L A K)=.ok Bc:=rfl;simp_arith[f2,hs,h1,hi,h0];rfl
noncomputable def CT:List D->M OT:=zg Ej
theorem Ny:Txt K mg->Io P w K mg base "Ladder" "cost" 3 3 CT:=(zb Ej).1
theorem Nz:∀(m:Nat) (rs:List Road) (L:List Int) (A:LA) (K:List (Int×Int)) (u w:Int) (c:Int×Int),F9 m A->Al A (u,w)=some c->CT [Bb m rs L A K,.int u,.int w]=.ok (.sh (cst (some c))):=(zb Ej).2
theorem Ek:∃F:List D->M OT,(∀ {P w K mg base},Txt K mg->Io P w K mg base "Ladder" "kept" 1 1 F)/\(∀(m:Nat) (rs:List Road) (L:List Int) (A:LA) (K:List (Int×Int)),F [Bb m rs L A K]=.ok (.lst ((K.map pD).map .sh))):=by
 refine⟨_,λ T=>LV (k:=0) T.Og Nk _ (λ f B5 A outer s H E hr=>(A6 (Aj (DD rfl T.Cu (EK ["Ladder"] (Br T.Ei C3) (A1 0 (pv 0))))))),?_⟩;intro m rs L A K;rfl
noncomputable def CU:List D->M OT:=zg Ek
theorem NA:Txt K mg->Io P w K mg base "Ladder" "kept" 1 1 CU:=(zb Ek).1
theorem NC:∀(m:Nat) (rs:List Road) (L:List Int) (A:LA) (K:List (Int×Int)),CU [Bb m rs L A K]=.ok (.lst ((K.map pD).map .sh)):=(zb Ek).2
theorem EQ:∃F:List D->M OT,(∀ {P w K mg base},Txt K mg->BM P w K mg base "kept_costs" 4 1 F)/\(∀(m:Nat) (rs:List Road) (L:List Int) (A:LA) (K:List (Int×Int)),CO m rs L A K->F [Bb m rs L A K]=.ok (sE (R6 A K))):=by
 refine⟨_,λ T=>AD (k:=3) T.QG Oc _ (λ f B5 A outer s H E hr=>(A6 (Aj (YT rfl (AU hr 16 (by decide)) rfl T.nE (Ae (BB (NB:=["u","w","ladder"]) [none,none,some 0] rfl (AI (Ae (S0 (k:=1) [("Ladder",CU)] A9.toXCall (Jw (by decide) (NA T) LX) (hr.mono (by decide)) (A1 0 (pv 0))))) rfl rfl (eX (n:=2) rfl (P5 0 (by decide) rfl rfl rfl (P5 1 (by decide) rfl rfl rfl YI))) (λ _ _ _ _=>BP) (λ _ _ _ _=>(AL (A2 (AL (A2 (A1 0 (pv 0)) (A2 (A1 1 (pv 1)) A8))) (A2 (Ae (Bn (Vj (k:=3) [("Ladder",CT)] (AW rfl).toXCall (Jw (by decide) (Ny T) LX) (hr.mono (by decide)) (A1 2 (pv 2)) (A2 (A1 0 (pv 0)) (A2 (A1 1 (pv 1)) A8)) rfl))) A8)))))))))),?_⟩;intro m rs L A K ok;have e0:AF ["ladder"] [Bb m rs L A K]=[some (.val (Bb m rs L A K))]:=rfl;rw[e0];refine Bj ?_;have hs:Lh [("Ladder",CU)] "kept" (Bb m rs L A K)=.ok CU:=rfl;have aK:Lh [("Ladder",CT)] "cost" (Bb m rs L A K)=.ok CT:=rfl;have hk:=NC m rs L A K;have hl:(K.map pD).length<=1000:=by rw[zc];have:=ok.kl;omega
 have hn:((R6 A K).map zQ).Nodup:=by rw[Si];exact ok.kn
 have hd:=mS (C:=R6 A K) hn (by simp only[R6,zc];have:=ok.kl;omega);simp_arith[hs,hk,if_pos hl];rw[B6 (λ p=>D.tup [pD p,cst (some ((Al A p).getD (0,0)))]) (λ p hp=>⟨_,rfl,rfl,by
  obtain⟨c,hc,_⟩:=(ok.km p).mp hp;have h1:=Nz m rs L A K p.1 p.2 c ok.vF hc;simp_arith[aK,h1];rw[hc];rfl⟩)]
 have e1:(K.map λ p=>D.tup [pD p,cst (some ((Al A p).getD (0,0)))])=(R6 A K).map λ kv=>D.tup [pD kv.1,cst (some kv.2)]:=by
  simp only[wD,R6,zH];rfl
 rw[e1];simp_arith[hd];exact⟨_,rfl,rfl⟩
noncomputable def L7:List D->M OT:=zg EQ
theorem Oj:Txt K mg->BM P w K mg base "kept_costs" 4 1 L7:=(zb EQ).1
theorem Ol:∀(m:Nat) (rs:List Road) (L:List Int) (A:LA) (K:List (Int×Int)),CO m rs L A K->L7 [Bb m rs L A K]=.ok (sE (R6 A K)):=(zb EQ).2
theorem Iy:∃F:List D->M OT,(∀ {P w K mg base},Txt K mg->BM P w K mg base "climbed" 2 3 F)/\(∀(m:Nat) (L:List Int) (C:CA) (s:Int),m<=20->L.Perm (B2 m)->s∈L->(∀p c,AK C p=some c->p.1∈L/\p.2∈L)->∃R:RA,F [.lst (L.map D.int),M4 C,.int s]=.ok (ZU R)/\R7 L C s L.length R):=by
 refine⟨_,λ T=>AD (k:=1) T.X3 Dc _ (λ f B5 A outer s H E hr=>(A3 (BQ 3 Dc.nd rfl (zT rfl) (YV (A1 2 (pv 2)) (AL (A2 A5 (A2 A5 A8))))) (A3 (Bu A9.toXCall.own rfl (US rfl T.L5 (A1 0 (pv 0))) (TH (n:=2) rfl (EW (AS 4 Dc.nd rfl (zT rfl)) (EW (AS 5 Dc.nd rfl (zT rfl)) Q3))) (A6 (B8 (Ie (MO (c:=true) (AU hr 16 (by decide)) (A1 5 (pv 5)) (A1 3 (pv 3)))) (A6 (Bu A9.toXCall.own rfl (AI (Ae (Ed (A1 0 (pv 0)) (Ez (BC (A1 4 (pv 4)) A5)) GR))) (AS 6 Dc.nd rfl (zT rfl)) (A6 (B8 (MO (c:=true) (AU hr 16 (by decide)) (AL (A2 (A1 5 (pv 5)) (A2 (A1 6 (pv 6)) A8))) (A1 1 (pv 1))) (A3 (AV 7 Dc.nd rfl (zT rfl) (Ae (Eb (Aa A9.toXCall (JQ T) (hr.mono (by decide)) rfl (A2 (Ab (AU hr 16 (by decide)) (A1 3 (pv 3)) (A1 5 (pv 5))) (A2 (Ab (AU hr 16 (by decide)) (A1 1 (pv 1)) (AL (A2 (A1 5 (pv 5)) (A2 (A1 6 (pv 6)) A8)))) A8)) rfl)))) (A6 (LF (AU hr 16 (by decide)) (BA 3 (pv 3)) (A1 6 (pv 6)) (Ae (Eb (Aa A9.toXCall (Nv T) (hr.mono (by decide)) rfl (A2 (EH (A2 (MY (AU hr 16 (by decide)) (A1 3 (pv 3)) (A1 6 (pv 6))) (A2 (A1 7 (pv 7)) A8))) A8) rfl)))))) Ax)))) Ax))) (A6 (CM 3 (pv 3)))))),?_⟩;intro m L C s hm hL hs hC;have hn:=Ip hL;have hlen:=JB hL;have e0:AF ["order","costs","place","reached","rank","lower","higher","cost"] [.lst (L.map D.int),M4 C,.int s]=[some (.val (.lst (L.map D.int))),some (.val (M4 C)),some (.val (.int s)),none,none,none,none,none]:=rfl;rw[e0];refine (λ h:∃t,_/\∃R:RA,t=ZU R/\R7 L C s L.length R=>by
  obtain⟨t,h1,R,rfl,h2⟩:=h;exact⟨R,h1,h2⟩) (KI ?_)
 refine wp_step (ρ':=[some (.val (.lst (L.map D.int))),some (.val (M4 C)),some (.val (.int s)),some (.ow (.tree none (ZU [(s,(0,0))]))),none,none,none,none]) (by rfl) ?_;refine BZ (I:=λ ρ=>∃(R:RA) (s4 s5 s6 s7:Option Cl),ρ=[some (.val (.lst (L.map D.int))),some (.val (M4 C)),some (.val (.int s)),some (.ow (.tree none (ZU R))),s4,s5,s6,s7]/\R7 L C s L.length R) ?_ ?_
 ·simp_arith[];refine Bv (λ i ρ=>i<=L.length/\∃(R:RA) (s4 s5 s6 s7:Option Cl),ρ=[some (.val (.lst (L.map D.int))),some (.val (M4 C)),some (.val (.int s)),some (.ow (.tree none (ZU R))),s4,s5,s6,s7]/\R7 L C s i R) ⟨zJ _,_,none,none,none,none,rfl,R7.start hs⟩ ?_ ?_
  ·rintro i d ρ hd ⟨hi,R,s4,s5,s6,s7,rfl,hR⟩;obtain⟨d',aH,rfl⟩:=Kc hd;obtain⟨x,hx,rfl⟩:=BG aH;have ah:=(zw.mp hx).1;rw[Nat.zero_add];refine⟨_,rfl,?_⟩;have df:=mP R x false;have qa:=Qw hn hx;cases q:AK R x with
   |none =>
    rw[q] at df;refine Bi (ρ':=_) (by simp_arith[df];rfl) ⟨ah,R,_,_,_,_,rfl,hR.skip hx hn q⟩
   |some c0 =>
    rw[q] at df;have sl:ZT (some ((i:Int)+1)) none (.lst (L.map D.int))=.ok (.lst (((L.drop (i+1)).map D.int).map .sh)):=by rw[List.map_drop];exact Jr _ (i+1)
    simp_arith[df,sl,if_true,Option.isSome_some,z8,if_false];refine Bv (λ j ρ=>j<=(L.drop (i+1)).length/\∃(R':RA) (s6 s7:Option Cl),ρ=[some (.val (.lst (L.map D.int))),some (.val (M4 C)),some (.val (.int s)),some (.ow (.tree none (ZU R'))),some (.val (.int i)),some (.val (.int x)),s6,s7]/\iZ L C s i x c0 ((L.drop (i+1)).take j) R R') ⟨zJ _,R,s6,s7,rfl,hR.nd,hR.rg,hR.sd,λ y=>C6 _,λ y _=>rfl,λ y hy=>by rw[List.take_zero] at hy;cases hy⟩ ?_ ?_
    ·rintro j d ρ hd ⟨hj,R',s6,s7,rfl,hI⟩;obtain⟨y,hy,rfl⟩:=BG hd;have ji:=(zw.mp hy).1;have ue:=zk hy;have wL:y∈L:=List.mem_of_mem_drop ue;have g9:i<DM L y:=Vx hn ue;have et:(L.drop (i+1)).take (j+1)=(L.drop (i+1)).take j++[y]:=by rw[yL,hy];rfl
     refine⟨_,rfl,?_⟩;rw[et];have t1:∀a b:Int,D.tup [.int a,.int b]=pD (a,b):=λ a b=>rfl;have lq:=mM C (x,y) false;cases q2:AK C (x,y) with
     |none =>
      rw[q2] at lq;refine Bi (ρ':=_) (by simp_arith[t1,lq];rfl) ⟨ji,R',_,_,rfl,hI.skip q2⟩
     |some dd =>
      rw[q2] at lq;have ar:AK R' x=some c0:=by rw[hI.sm x (by omega)];exact q
      have i1:=mQ ar;have i2:=mN q2;have h1:=JR (some c0) (some dd);have g1:=Zn R' y;obtain⟨v,hv⟩:∃v,DF (AK R' y) (some (c0.1+dd.1,c0.2+dd.2))=some v:=by
       cases AK R' y with
       |none|some z=>exact⟨_,rfl⟩
      have h2:QK [.lst [cst (AK R' y),cst (some (c0.1+dd.1,c0.2+dd.2))]]=.ok (.sh (cst (DF (AK R' y) (some (c0.1+dd.1,c0.2+dd.2))))):=Nw [AK R' y,some (c0.1+dd.1,c0.2+dd.2)] (by simp);rw[hv] at h2;have a7:=hI.put wL g9 qa q q2 hv;have hl:(R'.map λ kv=>D.int kv.1).length<1000:=by
       have:=Kk hI.nd hI.rg;rw[zc] at this ⊢;omega
      have h7:∀z:Int,keyOk false (.int z)=true:=λ z=>rfl;have ha:Aq (some c0) (some dd)=some (c0.1+dd.1,c0.2+dd.2):=rfl;rw[ha] at h1;simp_arith[t1,lq,if_true,Option.isSome_some,z8,if_false];apply wp_step
      ·simp_arith[t1,i1,i2,h1];rfl
      refine Bi (ρ':=[some (.val (.lst (L.map D.int))),some (.val (M4 C)),some (.val (.int s)),some (.ow (.tree none (ZU (Dt R' y v)))),some (.val (.int i)),some (.val (.int x)),some (.val (.int y)),some (.val (cst (some (c0.1+dd.1,c0.2+dd.2))))]) (by
       simp_arith[g1,h2,h7,hl,and_self,if_true,mR];rfl) ⟨ji,_,_,_,rfl,a7⟩
    ·rintro ρ ⟨_,R',s6,s7,rfl,hI⟩;rw[zc,yK] at hI;exact⟨ah,R',_,_,s6,s7,rfl,hR.go (λ p c h=>(hC p c h).2) hx hn q hI⟩
  ·rintro ρ ⟨_,R,s4,s5,s6,s7,rfl,hR⟩;rw[GU,zc] at hR;exact⟨R,s4,s5,s6,s7,rfl,hR⟩
 ·rintro ρ ⟨R,s4,s5,s6,s7,rfl,hR⟩;exact⟨_,rfl,R,rfl,hR⟩
noncomputable def SO:List D->M OT:=zg Iy
theorem Uv:Txt K mg->BM P w K mg base "climbed" 2 3 SO:=(zb Iy).1
theorem Uw:∀(m:Nat) (L:List Int) (C:CA) (s:Int),m<=20->L.Perm (B2 m)->s∈L->(∀p c,AK C p=some c->p.1∈L/\p.2∈L)->∃R:RA,SO [.lst (L.map D.int),M4 C,.int s]=.ok (ZU R)/\R7 L C s L.length R:=(zb Iy).2
theorem ND:∃F:List D->M OT,(∀ {P w K mg base},Txt K mg->BM P w K mg base "swept" 3 3 F)/\(∀(m:Nat) (L:List Int) (C:CA) (s:Int),m<=20->L.Perm (B2 m)->s∈L->(∀p c,AK C p=some c->p.1∈L/\p.2∈L)->∃(R:RA) (T:List Co),F [.lst (L.map D.int),M4 C,.int s]=.ok (.lst ((T.map cst).map .sh))/\R7 L C s L.length R/\Zs m L C s R L.reverse T):=by
 refine⟨_,λ T=>AD (k:=2) T.hZ F8 _ (λ f B5 A outer s H E hr=>(A3 (AV 3 F8.nd rfl (zT rfl) (Ae (Aa A9.toXCall (Uv T) (hr.mono (by decide)) rfl (A2 (A1 0 (pv 0)) (A2 (A1 1 (pv 1)) (A2 (A1 2 (pv 2)) A8))) rfl))) (A3 (BQ 4 F8.nd rfl (Or.inr rfl) (U3 D5 (Cd rfl T.Dz (A1 0 (pv 0))))) (A3 (BQ 5 F8.nd rfl (zT rfl) (Kf Fo)) (A3 (Bu A9.toXCall.own rfl (lY rfl T.Uq (A1 0 (pv 0))) (AS 6 F8.nd rfl (Or.inr rfl)) (A3 (Yz (NB:=["high","told","costs","lower"]) 7 [none,some 4,some 1,some 6] F8.nd rfl (zT rfl) rfl (AI (A1 5 (pv 5))) rfl rfl (AY 0 (by decide) rfl rfl rfl) (λ _ _ _ _=>BP) (λ _ _ _ _=>(Ae (Bn (Aa (AW rfl).toXCall (JQ T) (hr.mono (by decide)) rfl (A2 (Ab (AU hr 16 (by decide)) (A1 1 (pv 1)) (A1 0 (pv 0))) (A2 (MY (AU hr 16 (by decide)) (A1 2 (pv 2)) (AL (A2 (A1 0 (pv 0)) (A2 (A1 3 (pv 3)) A8)))) A8)) rfl))))) (A3 (MB 4 (pv 4) (Ae (Eb (Aa A9.toXCall (Nv T) (hr.mono (by decide)) rfl (A2 (Ae (Qc (EH (A2 (MY (AU hr 16 (by decide)) (A1 3 (pv 3)) (A1 6 (pv 6))) A8)) (A1 7 (pv 7)))) A8) rfl))) (A1 6 (pv 6))) (A6 (GS 5 (pv 5) (A1 6 (pv 6))))))) (A6 (CM 4 (pv 4)))))))),?_⟩;intro m L C s hm hL hs hC;have hn:=Ip hL;have hlen:=JB hL;obtain⟨R,hF,hR⟩:=Uw m L C s hm hL hs hC;have e0:AF ["order","costs","place","reached","told","higher","lower","over"] [.lst (L.map D.int),M4 C,.int s]=[some (.val (.lst (L.map D.int))),some (.val (M4 C)),some (.val (.int s)),none,none,none,none,none]:=rfl;rw[e0];refine (λ h:∃t,_/\∃T:List Co,t=.lst ((T.map cst).map .sh)/\Zs m L C s R L.reverse T=>by
  obtain⟨t,h1,T,rfl,h2⟩:=h;exact⟨R,T,h1,hR,h2⟩) (KI ?_)
 have qj:((L.map D.int).length:Int)=(m:Int):=by rw[zc,hlen]
 have bj:=MU (d:=.AA) (n:=m) (by omega);have cg:zu m D.AA=(zu m (none:Co)).map cst:=by rw[List.map_replicate];rfl
 rw[cg] at bj;apply wp_step
 ·simp_arith[hF];rfl
 try simp only[zt,zo]
 apply wp_step
 ·simp_arith[qj,bj];rfl
 try simp only[zt,zo]
 apply wp_step
 ·rfl
 try simp only[zt,zo]
 refine BZ (I:=λ ρ=>∃(T:List Co) (s5 s6 s7:Option Cl),ρ=[some (.val (.lst (L.map D.int))),some (.val (M4 C)),some (.val (.int s)),some (.val (Zm R)),some (.own (T.map cst)),s5,s6,s7]/\Zs m L C s R L.reverse T) ?_ ?_
 ·have qk:(L.map D.int).reverse=L.reverse.map D.int:=by rw[List.map_reverse]
  simp_arith[qk];refine Bv (λ i ρ=>i<=L.reverse.length/\∃(T:List Co) (s6 s7:Option Cl),ρ=[some (.val (.lst (L.map D.int))),some (.val (M4 C)),some (.val (.int s)),some (.val (Zm R)),some (.own (T.map cst)),some (.own ((L.reverse.take i).map D.int)),s6,s7]/\Zs m L C s R (L.reverse.take i) T) ⟨zJ _,_,none,none,rfl,Zs.start⟩ ?_ ?_
  ·rintro i d ρ hd ⟨hi,T,s6,s7,rfl,hT⟩;obtain⟨y,hy,rfl⟩:=BG hd;have ah:=(zw.mp hy).1;have g9:=(BV hL).mp (List.mem_reverse.mp (zk hy));have et:L.reverse.take (i+1)=L.reverse.take i++[y]:=by rw[yL,hy];rfl
   rw[yO] at ah;have wM:L[L.length-1-i]?=some y:=by rw[List.getElem?_reverse ah] at hy;exact hy
   have yt:=Qw hn wM;have ql:∀x∈L.reverse.take i,(0<=x/\x<m)/\DM L y<DM L x:=λ x hx=>by
    have wN:=List.mem_reverse.mp (y8 hx);refine⟨(BV hL).mp wN,?_⟩;rw[List.take_reverse,List.mem_reverse] at hx;have:=Vx hn hx;omega
   have qd:y∉L.reverse.take i:=λ hx=>by have:=(ql y hx).2;omega
   have uf:=hT.len;refine⟨_,rfl,?_⟩;have gi:((L.reverse.take i).map D.int).length<=1000:=by rw[zc,yA,yO];omega
   have t1:∀a b:Int,D.tup [.int a,.int b]=pD (a,b):=λ a b=>rfl;have g1:=Zn R y;obtain⟨vs,aB⟩:∃vs:List Co,vs=(L.reverse.take i).map λ x=>Aq (atC T x) (AK C (x,y)):=⟨_,rfl⟩;apply wp_step
   ·simp_arith[if_pos gi];rw[B6 (λ x=>cst (Aq (atC T x) (AK C (x,y)))) (λ x hx=>⟨_,rfl,rfl,by
     have ug:=(ql x hx).1;have x1:AX (.lst (T.map cst)) (.int x)=.ok (cst (atC T x)):=CN ug.1 (by rw[uf];exact ug.2);have g2:=mO C (x,y);have h1:=JR (atC T x) (AK C (x,y));simp_arith[t1,x1,g2,h1]⟩)]
    have ev:(L.reverse.take i).map (λ x=>cst (Aq (atC T x) (AK C (x,y))))=vs.map cst:=by rw[aB,zH];rfl
    rw[ev];have dv:=Zr vs;simp_arith[dv];rfl
   try simp only[zt,zo]
   have au:MJ (.lst [cst (AK R y)]) (.lst (vs.map cst))=.ok (.lst (((AK R y::vs).map cst).map .sh)):=Qk (by rw[aB,zc,zc,yA,yO,yJ];omega);have h3:=Nw (AK R y::vs) (by rw[aB,zl,zc,yA,yO];omega);have a7:=JC (i:=4) (ρ:=[some (.val (.lst (L.map D.int))),some (.val (M4 C)),some (.val (.int s)),some (.val (Zm R)),some (.own (T.map cst)),some (.own ((L.reverse.take i).map D.int)),some (.val (.int y)),some (.own (vs.map cst))]) (d:=cst (Fu (AK R y::vs))) (p:=y) rfl g9.1 (by rw[zc,uf];exact g9.2);have bc:(T.map cst).set y.toNat (cst (Fu (AK R y::vs)))=(T.set y.toNat (Fu (AK R y::vs))).map cst:=by rw[zan]
   rw[bc] at a7;apply wp_step
   ·simp_arith[g1,au,h3,a7];rfl
   try simp only[zt,zo]
   have wO:((L.reverse.take i).map D.int).length<1000:=by rw[zc,yA,yO];omega
   refine Bi (ρ':=[some (.val (.lst (L.map D.int))),some (.val (M4 C)),some (.val (.int s)),some (.val (Zm R)),some (.own ((T.set y.toNat (Fu (AK R y::vs))).map cst)),some (.own ((L.reverse.take (i+1)).map D.int)),some (.val (.int y)),some (.own (vs.map cst))]) (by simp_arith[if_pos wO,et,zG,zf,zaf]) ⟨by rw[yO];exact ah,_,_,_,rfl,?_⟩;rw[et,aB];exact hT.step hR.sd g9.1 g9.2 qd ql
  ·rintro ρ ⟨_,T,s6,s7,rfl,hT⟩;rw[zc,yK] at hT;exact⟨T,_,s6,s7,rfl,hT⟩
 ·rintro ρ ⟨T,s5,s6,s7,rfl,hT⟩;exact⟨_,rfl,T,rfl,hT⟩
noncomputable def ZL:List D->M OT:=zg ND
theorem ZM:Txt K mg->BM P w K mg base "swept" 3 3 ZL:=(zb ND).1
theorem ZN:∀(m:Nat) (L:List Int) (C:CA) (s:Int),m<=20->L.Perm (B2 m)->s∈L->(∀p c,AK C p=some c->p.1∈L/\p.2∈L)->∃(R:RA) (T:List Co),ZL [.lst (L.map D.int),M4 C,.int s]=.ok (.lst ((T.map cst).map .sh))/\R7 L C s L.length R/\Zs m L C s R L.reverse T:=(zb ND).2
theorem ER:∃F:List D->M OT,(∀ {P w K mg base},Txt K mg->BM P w K mg base "costs_from" 2 2 F)/\(∀(m s:Nat) (rs:List Road),s<m->m<=900->(∀r∈rs,Hs m r)->∃cs:List Co,Right m s rs cs/\F [Ap m rs,.int s]=.ok (.lst ((cs.map cst).map .sh))):=by
 refine⟨_,λ T=>AD (k:=1) T.QI Bw _ (λ f B5 A outer s H E hr=>(A3 (BQ 2 Bw.nd rfl (zT rfl) (U3 D5 (Ab (AU hr 16 (by decide)) (A1 0 (pv 0)) A5))) (A3 (MB 2 (pv 2) (AL (A2 A5 (A2 A5 A8))) (A1 1 (pv 1))) (A3 (AV 3 Bw.nd rfl (zT rfl) Cj) (A3 (RJ A9.toXCall.own (BF (c:=true) (A1 3 (pv 3))) (A3 (AV 3 Bw.nd rfl (zT rfl) Cj) (A6 (Bu A9.toXCall.own rfl (AI (Ab (AU hr 16 (by decide)) (A1 0 (pv 0)) A5)) (AS 4 Bw.nd rfl (zT rfl)) (A3 (AV 5 Bw.nd rfl (zT rfl) (Ae (Eb (Aa A9.toXCall (Nv T) (hr.mono (by decide)) rfl (A2 (EH (A2 (Ab (AU hr 16 (by decide)) (A1 2 (pv 2)) (Ab (AU hr 16 (by decide)) (A1 4 (pv 4)) A5)) (A2 (Ae (Aa A9.toXCall (JQ T) (hr.mono (by decide)) rfl (A2 (Ab (AU hr 16 (by decide)) (A1 2 (pv 2)) (Ab (AU hr 16 (by decide)) (A1 4 (pv 4)) A5)) (A2 (Ae (Aa A9.toXCall (Fy T) (hr.mono (by decide)) rfl (A2 (A1 4 (pv 4)) A8) rfl)) A8)) rfl)) A8))) A8) rfl)))) (A6 (B8 (Ie (FT (c:=true) (AU hr 16 (by decide)) (A1 5 (pv 5)) (Ab (AU hr 16 (by decide)) (A1 2 (pv 2)) (Ab (AU hr 16 (by decide)) (A1 4 (pv 4)) A5)))) (A3 (MB 2 (pv 2) (A1 5 (pv 5)) (Ab (AU hr 16 (by decide)) (A1 4 (pv 4)) A5)) (A6 (AV 3 Bw.nd rfl (zT rfl) Cj))) Ax))))))) (A6 (CM 2 (pv 2)))))))),?_⟩;intro m s rs hs hm As;have e0:AF ["net","start","costs","changed","road","cost"] [Ap m rs,.int s]=[some (.val (Ap m rs)),some (.val (.int s)),none,none,none,none]:=rfl;rw[e0];refine (λ h:∃t,_/\∃cs:List Co,Right m s rs cs/\t=.lst ((cs.map cst).map .sh)=>by
  obtain⟨t,h1,cs,h2,rfl⟩:=h;exact⟨cs,h2,h1⟩) (KI ?_)
 have n0:AX (Ap m rs) (.int 0)=.ok (.int m):=rfl;have n1:AX (Ap m rs) (.int 1)=.ok (.lst (rs.map Be)):=rfl;have bj:=MU (d:=.AA) (n:=m) (by omega);have cg:zu m D.AA=(zu m (none:Co)).map cst:=by rw[List.map_replicate];rfl
 rw[cg] at bj;apply wp_step
 ·simp_arith[n0,bj];rfl
 try simp only[zt,zo]
 have a7:=JC (i:=2) (ρ:=[some (.val (Ap m rs)),some (.val (.int s)),some (.own ((zu m (none:Co)).map cst)),none,none,none]) (d:=.tup [.int 0,.int 0]) (p:=(s:Int)) rfl (by omega) (by rw[zc,zao];omega);have bc:((zu m (none:Co)).map cst).set (s:Int).toNat (.tup [.int 0,.int 0])=((zu m none).set s (some (0,0))).map cst:=by rw[yF,zan];rfl
 rw[bc] at a7;apply wp_step
 ·simp_arith[a7];rfl
 try simp only[zt,zo]
 apply wp_step
 ·rfl
 try simp only[zt,zo]
 refine BZ (I:=λ ρ=>∃(cs:List Co) (s3 s4 s5:Option Cl),ρ=[some (.val (Ap m rs)),some (.val (.int s)),some (.own (cs.map cst)),s3,s4,s5]/\Right m s rs cs) ?_ ?_
 ·refine RS (lt:=uF) (λ z ρ=>∃(s4 s5:Option Cl),ρ=[some (.val (Ap m rs)),some (.val (.int s)),some (.own (z.1.map cst)),some (.val (.bl z.2)),s4,s5]/\Good m s rs z.1/\(z.2=false->Right m s rs z.1)) (mU _) ⟨none,none,rfl,N2 rs hs,λ e=>by cases e⟩ ?_;rintro ⟨cs,b⟩ ρ ⟨s4,s5,rfl,g,hR⟩;cases b with
  |false=>exact .inl ⟨rfl,cs,_,s4,s5,rfl,hR rfl⟩
  |true =>
   refine .inr ⟨rfl,?_⟩;apply wp_step
   ·rfl
   try simp only[zt,zo]
   simp_arith[n1];refine Bv (λ i ρ=>∃(az:List Co) (ch:Bool) (s4 s5:Option Cl),ρ=[some (.val (Ap m rs)),some (.val (.int s)),some (.own (az.map cst)),some (.val (.bl ch)),s4,s5]/\Good m s rs az/\(ch=true->NU ltN az cs)/\(ch=false->az=cs/\∀r∈rs.take i,DF (atC cs r.b) (Aq (atC cs r.a) (C7 r))=atC cs r.b)) ⟨cs,false,s4,s5,rfl,g,(λ h=>by cases h),λ _=>⟨rfl,λ r hr=>by rw[List.take_zero] at hr;cases hr⟩⟩ ?_ ?_
   ·rintro i d ρ hd ⟨az,ch,s4,s5,rfl,g1,h1,h2⟩;obtain⟨r,hq,rfl⟩:=BG hd;have hr:=zk hq;have ok:=As r hr;obtain⟨g2,_,g4,g5⟩:=WD g1 hr As;have bL:r.b<az.length:=by rw[g1.len];exact ok.b1
    have wP:r.a<az.length:=by rw[g1.len];exact ok.a1
    have r0:AX (Be r) (.int 0)=.ok (.int r.a):=rfl;have r1:AX (Be r) (.int 1)=.ok (.int r.b):=rfl;have x0:AX (.lst (az.map cst)) (.int r.a)=.ok (cst (atC az r.a)):=CN ok.a0 wP;have x1:AX (.lst (az.map cst)) (.int r.b)=.ok (cst (atC az r.b)):=CN ok.b0 bL;have wQ:=Fz r;have qm:=JR (atC az r.a) (C7 r);have hle:QK [.lst [cst (atC az r.b),cst (Aq (atC az r.a) (C7 r))]]=.ok (.sh (cst (DF (atC az r.b) (Aq (atC az r.a) (C7 r))))):=Nw [atC az r.b,Aq (atC az r.a) (C7 r)] (by simp);have ae:=fW (DF (atC az r.b) (Aq (atC az r.a) (C7 r))) (atC az r.b);refine⟨_,rfl,?_⟩;apply wp_step
    ·simp_arith[r0,r1,x0,x1,wQ,qm,hle];rfl
    try simp only[zt,zo]
    by_cases hc:DF (atC az r.b) (Aq (atC az r.a) (C7 r))=atC az r.b
    ·rw[decide_eq_true hc] at ae;refine Bi (ρ':=_) (by simp_arith[r1,x1,ae];rfl) ⟨az,ch,_,_,rfl,g1,h1,λ hf=>?_⟩;obtain⟨e1,e2⟩:=h2 hf;subst e1;refine⟨rfl,λ r' bi=>?_⟩;rw[yL,hq] at bi;rcases zv.mp bi with bi|bi
     ·exact e2 r' bi
     ·have:r'=r:=by simpa using bi
      rw[this];exact hc
    ·rw[decide_eq_false hc] at ae;have a7:=JC (i:=2) (ρ:=[some (.val (Ap m rs)),some (.val (.int s)),some (.own (az.map cst)),some (.val (.bl ch)),some (.val (Be r)),some (.val (cst (DF (atC az r.b) (Aq (atC az r.a) (C7 r)))))]) (d:=cst (DF (atC az r.b) (Aq (atC az r.a) (C7 r)))) (p:=r.b) rfl ok.b0 (by rw[zc];exact bL);have bc:(az.map cst).set r.b.toNat (cst (DF (atC az r.b) (Aq (atC az r.a) (C7 r))))=(D9 r az).map cst:=by unfold D9;rw[zan]
     rw[bc] at a7;simp_arith[r1,x1,ae,if_true];apply wp_step
     ·simp_arith[r1,a7];rfl
     refine Bi (ρ':=_) rfl ⟨D9 r az,true,_,_,rfl,g2,λ _=>?_,λ hf=>by cases hf⟩;cases ch with
     |false=>obtain⟨e1,_⟩:=h2 rfl;subst e1;exact g5 hc
     |true=>exact NU.trans ltN WB (g5 hc) (h1 rfl)
   ·rintro ρ' ⟨az,ch,s4,s5,rfl,g1,h1,h2⟩;cases ch with
    |true=>exact⟨(az,true),⟨rfl,.inr ⟨rfl,h1 rfl⟩⟩,s4,s5,rfl,g1,λ e=>by cases e⟩
    |false =>
     obtain⟨e1,e2⟩:=h2 rfl;subst e1;rw[zc,yK] at e2;exact⟨(az,false),⟨rfl,.inl rfl⟩,s4,s5,rfl,g1,λ _=>right_of g1 e2⟩
 ·rintro ρ' ⟨cs,s3,s4,s5,rfl,hR⟩;exact⟨_,rfl,cs,hR,rfl⟩
noncomputable def L8:List D->M OT:=zg ER
theorem Om:Txt K mg->BM P w K mg base "costs_from" 2 2 L8:=(zb ER).1
theorem HL:∀(m s:Nat) (rs:List Road),s<m->m<=900->(∀r∈rs,Hs m r)->∃cs:List Co,Right m s rs cs/\L8 [Ap m rs,.int s]=.ok (.lst ((cs.map cst).map .sh)):=(zb ER).2
theorem Du:∃F:List D->M OT,(∀ {P w K mg base},Txt K mg->Io P w K mg base "Ladder" "order" 1 1 F)/\(∀(m:Nat) (rs:List Road) (L:List Int) (A:LA) (K:List (Int×Int)),F [Bb m rs L A K]=.ok (.lst ((L.map D.int).map .sh))):=by
 refine⟨_,λ T=>LV (k:=0) T.Nr Lj _ (λ f B5 A outer s H E hr=>(A6 (Aj (DD rfl T.Cu (EK ["Ladder"] (Br T.Cv C3) (A1 0 (pv 0))))))),?_⟩;intro m rs L A K;rfl
noncomputable def Cn:List D->M OT:=zg Du
theorem Lm:Txt K mg->Io P w K mg base "Ladder" "order" 1 1 Cn:=(zb Du).1
theorem Ln:∀(m:Nat) (rs:List Road) (L:List Int) (A:LA) (K:List (Int×Int)),Cn [Bb m rs L A K]=.ok (.lst ((L.map D.int).map .sh)):=(zb Du).2
theorem FA:∃F:List D->M OT,(∀ {P w K mg base},Txt K mg->BM P w K mg base "costs_out" 5 2 F)/\(∀(m:Nat) (rs:List Road) (L:List Int) (A:LA) (K:List (Int×Int)) (s:Nat),CO m rs L A K->s<m->∃T:List Co,F [Bb m rs L A K,.int s]=.ok (.lst ((T.map cst).map .sh))/\T.length=m/\∀w:Int,0<=w->w<m->Cm rs s w (atC T w)):=by
 refine⟨_,λ T=>AD (k:=4) T.Sy QA _ (λ f B5 A outer s H E hr=>(A6 (Aj (Aa A9.toXCall (ZM T) (hr.mono (by decide)) rfl (A2 (Ae (S0 (k:=1) [("Ladder",Cn)] A9.toXCall (Jw (by decide) (Lm T) LX) (hr.mono (by decide)) (A1 0 (pv 0)))) (A2 (Ae (Aa A9.toXCall (Oj T) (hr.mono (by decide)) rfl (A2 (A1 0 (pv 0)) A8) rfl)) (A2 (A1 1 (pv 1)) A8))) rfl)))),?_⟩;intro m rs L A K s ok hs;have hm:=ok.m2;have e0:AF ["ladder","start"] [Bb m rs L A K,.int s]=[some (.val (Bb m rs L A K)),some (.val (.int s))]:=rfl;rw[e0];have h1:=Ol m rs L A K ok;have h2:=Ln m rs L A K;have qo:Lh [("Ladder",Cn)] "order" (Bb m rs L A K)=.ok Cn:=rfl;have wR:(s:Int)∈L:=(BV ok.pm).mpr ⟨by omega,by omega⟩;have qq:∀p c,AK (R6 A K) p=some c->p.1∈L/\p.2∈L:=λ p c h=>by
  have hm:=U8 h;unfold R6 at hm;obtain⟨q,hq,e⟩:=z6.mp hm;cases e;have:=ok.ZR hq;exact⟨(BV ok.pm).mpr this.2.1,(BV ok.pm).mpr this.2.2⟩
 have hC:∀p c,AK (R6 A K) p=some c->p.1∈L/\p.2∈L:=λ p c h=>by
  exact qq p c h
 obtain⟨R,T,hF,hR,hT⟩:=ZN m L (R6 A K) s (by omega) ok.pm wR hC;refine⟨T,Bj ?_,hT.len,λ w h0 h1=>?_⟩
 ·simp_arith[qo,h2,h1,hF];exact⟨_,rfl,rfl⟩
 ·have hU:=hR.wF (m:=m) hC;have aL:∀x:Int,0<=x->x<m->x∈L.reverse:=λ x a b=>List.mem_reverse.mpr ((BV ok.pm).mpr ⟨a,b⟩);obtain⟨T',uh⟩:∃T':Int->Co,T'=λ x:Int=>if 0<=x/\x<(m:Int) then atC T x else none:=⟨_,rfl⟩
  have jj:∀x:Int,0<=x->x<m->T' x=atC T x:=λ x a b=>by rw[uh];exact if_pos ⟨a,b⟩
  have hS:sD (DM L) (λ x y=>AK (R6 A K) (x,y)) s (AK R) T' m:=⟨λ x a b=>by rw[jj x a b];exact hT.top x (aL x a b),λ x y a b c d hr=>by rw[jj x a b,jj y c d];exact hT.cl x (aL x a b) y (aL y c d) hr,λ x c hx=>by
   have af:0<=x/\x<m:=by
    refine zar λ hn=>?_;rw[uh] at hx;dsimp only at hx;rw[if_neg hn] at hx;cases hx
   rw[jj x af.1 af.2] at hx;exact hT.sd x c af.1 af.2 hx⟩
  obtain⟨cs,wS,_⟩:=HL m s rs hs (by omega) (λ r hr=>(ok.ok r hr).1);have gj:=wS.iT (λ r hr=>(ok.ok r hr).1) h0 h1;have q:=WQ (s:=(s:Int)) (w:=w) ok.mI ok.kept ⟨by omega,by omega⟩ hU hS gj;rw[jj w h0 h1] at q;exact q
noncomputable def NE:List D->M OT:=zg FA
theorem QL:Txt K mg->BM P w K mg base "costs_out" 5 2 NE:=(zb FA).1
theorem QM:∀(m:Nat) (rs:List Road) (L:List Int) (A:LA) (K:List (Int×Int)) (s:Nat),CO m rs L A K->s<m->∃T:List Co,NE [Bb m rs L A K,.int s]=.ok (.lst ((T.map cst).map .sh))/\T.length=m/\∀w:Int,0<=w->w<m->Cm rs s w (atC T w):=(zb FA).2
theorem GG:∃F:List D->M OT,(∀ {P w K mg base},Txt K mg->BM P w K mg base "costs_at" 1 2 F)/\(∀(T:List Co) (gs:List Int),gs.length<=900->(∀g∈gs,0<=g/\g<T.length)->F [.lst (T.map cst),.lst (gs.map D.int)]=.ok (.lst ((gs.map λ g=>cst (atC T g)).map .sh))):=by
 refine⟨_,λ T=>AD (k:=0) T.Uk Sr _ (λ f B5 A outer s H E hr=>(A6 (Aj (BB (NB:=["place","costs"]) [none,some 0] rfl (AI (A1 1 (pv 1))) rfl rfl (AY 0 (by decide) rfl rfl rfl) (λ _ _ _ _=>BP) (λ _ _ _ _=>(Ab (AU hr 16 (by decide)) (A1 1 (pv 1)) (A1 0 (pv 0)))))))),?_⟩;intro T gs hl hg;have e0:AF ["costs","places"] [.lst (T.map cst),.lst (gs.map D.int)]=[some (.val (.lst (T.map cst))),some (.val (.lst (gs.map D.int)))]:=rfl;rw[e0];refine Bj ?_;have a6:(gs.map D.int).length<=1000:=by rw[zc];omega
 simp_arith[if_pos a6];rw[B6 (λ g=>cst (atC T g)) (λ g bI=>⟨_,rfl,rfl,by
  have x1:AX (.lst (T.map cst)) (.int g)=.ok (cst (atC T g)):=CN (hg g bI).1 (hg g bI).2;simp_arith[x1]⟩)]
 exact⟨_,rfl,rfl⟩
noncomputable def Pr:List D->M OT:=zg GG
theorem SQ:Txt K mg->BM P w K mg base "costs_at" 1 2 Pr:=(zb GG).1
theorem SR:∀(T:List Co) (gs:List Int),gs.length<=900->(∀g∈gs,0<=g/\g<T.length)->Pr [.lst (T.map cst),.lst (gs.map D.int)]=.ok (.lst ((gs.map λ g=>cst (atC T g)).map .sh)):=(zb GG).2
theorem NF:∃F:List D->M OT,(∀ {P w K mg base},Txt K mg->BM P w K mg base "table" 6 3 F)/\(∀(m:Nat) (rs:List Road) (L:List Int) (A:LA) (K:List (Int×Int)) (C:Int->Int->Co) (ss gs:List Int),CO m rs L A K->(∀x y:Int,0<=x->x<m->0<=y->y<m->Cm rs x y (C x y))->ss.length<=900->gs.length<=900->(∀s∈ss,0<=s/\s<m)->(∀g∈gs,0<=g/\g<m)->F [Bb m rs L A K,.lst (ss.map D.int),.lst (gs.map D.int)]=.ok (.lst (ss.map λ s=>.lst ((gs.map λ g=>cst (C s g)).map .sh)))):=by
 refine⟨_,λ T=>AD (k:=5) T.iA ZC _ (λ f B5 A outer s H E hr=>(A6 (Aj (Zt (NB:=["start","goals","ladder"]) [none,some 2,some 0] rfl (AI (A1 1 (pv 1))) rfl rfl (AY 0 (by decide) rfl rfl rfl) (λ _ _ _ _=>BP) (λ _ _ _ _=>(Bn (Aa (AW rfl).toXCall (SQ T) (hr.mono (by decide)) rfl (A2 (Ae (Aa (AW rfl).toXCall (QL T) (hr.mono (by decide)) rfl (A2 (A1 2 (pv 2)) (A2 (A1 0 (pv 0)) A8)) rfl)) (A2 (A1 1 (pv 1)) A8)) rfl))))))),?_⟩;intro m rs L A K C ss gs ok hC wT ui hs hg;have e0:AF ["ladder","starts","goals"] [Bb m rs L A K,.lst (ss.map D.int),.lst (gs.map D.int)]=[some (.val (Bb m rs L A K)),some (.val (.lst (ss.map D.int))),some (.val (.lst (gs.map D.int)))]:=rfl;rw[e0];refine Bj ?_;have a6:(ss.map D.int).length<=1000:=by rw[zc];omega
 simp_arith[if_pos a6];rw[GB (λ s=>OT.lst ((gs.map λ g=>cst (C s g)).map .sh)) (λ s aI=>⟨_,rfl,rfl,by
  obtain⟨s',rfl⟩:∃s':Nat,(s':Int)=s:=⟨s.toNat,by have:=hs s aI;omega⟩;obtain⟨T,g1,l1,t1⟩:=QM m rs L A K s' ok (by have:=hs _ aI;omega);have h2:=SR T gs ui λ g bI=>⟨(hg g bI).1,by rw[l1];exact (hg g bI).2⟩;have e:gs.map (λ g=>cst (atC T g))=gs.map λ g=>cst (C s' g):=za2 λ g bI=>by rw[(t1 g (hg g bI).1 (hg g bI).2).Ci (hC s' g (by omega) (by have:=hs _ aI;omega) (hg g bI).1 (hg g bI).2)]
  rw[e] at h2;simp_arith[g1,h2]⟩)]
 exact⟨_,rfl,rfl⟩
noncomputable def QN:List D->M OT:=zg NF
theorem table_at:Txt K mg->BM P w K mg base "table" 6 3 QN:=(zb NF).1
theorem SS:∀(m:Nat) (rs:List Road) (L:List Int) (A:LA) (K:List (Int×Int)) (C:Int->Int->Co) (ss gs:List Int),CO m rs L A K->(∀x y:Int,0<=x->x<m->0<=y->y<m->Cm rs x y (C x y))->ss.length<=900->gs.length<=900->(∀s∈ss,0<=s/\s<m)->(∀g∈gs,0<=g/\g<m)->QN [Bb m rs L A K,.lst (ss.map D.int),.lst (gs.map D.int)]=.ok (.lst (ss.map λ s=>.lst ((gs.map λ g=>cst (C s g)).map .sh))):=(zb NF).2
theorem El:∃F:List D->M OT,(∀ {P w K mg base},Txt K mg->BM P w K mg base "cost_so_far" 1 2 F)/\(∀(A:LA) (p:Int×Int),F [KL A,pD p]=.ok (.sh (cst (Al A p)))):=by
 refine⟨_,λ T=>AD (k:=0) T.Oe Nf _ (λ f B5 A outer s H E hr=>(A3 (B8 (LC (c:=true) (AU hr 16 (by decide)) (A1 1 (pv 1)) (A1 0 (pv 0))) (A6 (Aj (AO D5))) Ax) (A6 (Aj (AO (Ab (AU hr 16 (by decide)) (Ab (AU hr 16 (by decide)) (A1 0 (pv 0)) (A1 1 (pv 1))) A5)))))),?_⟩;intro A p;have e0:AF ["laid","pair"] [KL A,pD p]=[some (.val (KL A)),some (.val (pD p))]:=rfl;rw[e0];refine Bj ?_;have hm:=Qu A p true;unfold Al;cases q:AK A p with
 |none =>
  rw[q] at hm;simp_arith[hm,Fp];rfl
 |some v =>
  rw[q] at hm;have hi:=Qv q;have h0:AX (WS v) (.int 0)=.ok (cst (some v.1)):=rfl;apply wp_step
  ·simp_arith[hm,Fp];rfl
  simp_arith[hi,h0];rfl
noncomputable def JS:List D->M OT:=zg El
theorem GH:Txt K mg->BM P w K mg base "cost_so_far" 1 2 JS:=(zb El).1
theorem GI:∀(A:LA) (p:Int×Int),JS [KL A,pD p]=.ok (.sh (cst (Al A p))):=(zb El).2
theorem Ux:∃F:OT->List D->M (OT×OT),(∀ {P w K mg base},Txt K mg->OY P w K mg base "lay" 1 4 F)/\(∀(A:LA) (p:Int×Int) (c:Co) (mid:Option Int),A.length<1000->F (IC A) [pD p,cst c,G3 mid]=.ok (IC (layA A p c mid),.sh .AA)):=by
 refine⟨_,λ T=>RO (k:=0) T.rA nB _ (λ f B5 A outer s H E hr=>(A6 (B8 (Ie (DW.dt (Mu (Lu (c:=true) (A1 2 (pv 2))) (Lw (DW.dt (Dw (LC (c:=true) (AU hr 16 (by decide)) (A1 1 (pv 1)) (A1 0 (pv 0))) (Cr (lW (c:=true) (AU hr 16 (by decide)) (A1 2 (pv 2)) (Ab (AU hr 16 (by decide)) (Ab (AU hr 16 (by decide)) (A1 0 (pv 0)) (A1 1 (pv 1))) A5))))))))) (A6 (LF (AU hr 16 (by decide)) (BA 0 (pv 0)) (A1 1 (pv 1)) (AL (A2 (A1 2 (pv 2)) (A2 (A1 3 (pv 3)) A8))))) Ax))),?_⟩;intro A p c mid hA;have e0:CY ["laid","pair","cost","middle"] (IC A) [pD p,cst c,G3 mid]=[some (.ow (.tree (some 0) (IC A))),some (.val (pD p)),some (.val (cst c)),some (.val (G3 mid))]:=rfl;rw[e0];refine Ud ?_;have hm:=Qu A p true;have uj:∀c:Int×Int,D.tup [cst (some c),G3 mid]=WS (c,mid):=λ c=>rfl;have hl:(A.map λ kv=>pD kv.1).length<1000:=by rw[zc];exact hA
 have h7:keyOk true (pD p)=true:=rfl;have ah:∀v,(List.map (λ kv=>pD kv.1) (Dt A p v))=(List.map (λ kv=>pD kv.1) (Dt A p v)):=λ _=>rfl;cases c with
 |none =>
  refine Bi (ρ':=_) (by simp_arith[cst,D6];rfl) ⟨rfl,rfl⟩
 |some c =>
  have ce:D6 (cst (some c))=false:=rfl;cases q:AK A p with
  |none =>
   rw[q] at hm;have el:layA A p (some c) mid=Dt A p (c,mid):=by unfold layA;dsimp only;rw[q]
   rw[el];refine Bi (ρ':=[some (.ow (.tree (some 0) (IC (Dt A p (c,mid))))),some (.val (pD p)),some (.val (cst (some c))),some (.val (G3 mid))]) (by
    simp_arith[ce,hm,Fp,DQ,uj,if_pos (And.intro h7 hl),Zo,h7,hl,and_self,if_true];rfl) ⟨rfl,rfl⟩
  |some z =>
   rw[q] at hm;have hi:=Qv q;have h0:AX (WS z) (.int 0)=.ok (cst (some z.1)):=rfl;have hx:=uE c z.1;by_cases hc:c.1<z.1.1\/(c.1=z.1.1/\c.2<z.1.2)
   ·have el:layA A p (some c) mid=Dt A p (c,mid):=by unfold layA;dsimp only;rw[q];dsimp only;rw[if_pos hc]
    rw[decide_eq_true hc] at hx;rw[el];refine Bi (ρ':=[some (.ow (.tree (some 0) (IC (Dt A p (c,mid))))),some (.val (pD p)),some (.val (cst (some c))),some (.val (G3 mid))]) (by
     simp_arith[ce,hm,hi,h0,hx,Fp,DQ,uj,if_pos (And.intro h7 hl),Zo,h7,hl,and_self,if_true];rfl) ⟨rfl,rfl⟩
   ·have el:layA A p (some c) mid=A:=by unfold layA;dsimp only;rw[q];dsimp only;rw[if_neg hc]
    rw[decide_eq_false hc] at hx;rw[el];refine Bi (ρ':=_) (by simp_arith[ce,hm,hi,h0,hx,Fp];rfl) ⟨rfl,rfl⟩
noncomputable def rC:OT->List D->M (OT×OT):=zg Ux
theorem ZO:Txt K mg->OY P w K mg base "lay" 1 4 rC:=(zb Ux).1
theorem ZP:∀(A:LA) (p:Int×Int) (c:Co) (mid:Option Int),A.length<1000->rC (IC A) [pD p,cst c,G3 mid]=.ok (IC (layA A p c mid),.sh .AA):=(zb Ux).2
theorem GJ:∃F:OT->List D->M (OT×OT),(∀ {P w K mg base},Txt K mg->OY P w K mg base "lay_over" 2 3 F)/\(∀(m:Nat) (A:LA) (p:Int) (H:List Int),m<=20->F9 m A->(∀x∈H,0<=x/\x<m)->F (IC A) [.int p,.lst (H.map D.int)]=.ok (IC (mJ A p H),.sh .AA)):=by
 refine⟨_,λ T=>RO (k:=1) T.Ul EC _ (λ f B5 A outer s H E hr=>(A6 (Bu A9.toXCall.own rfl (AI (A1 2 (pv 2))) (AS 3 EC.nd rfl (zT rfl)) (A6 (Bu A9.toXCall.own rfl (AI (A1 2 (pv 2))) (AS 4 EC.nd rfl (zT rfl)) (A6 (B8 (FT (c:=true) (AU hr 16 (by decide)) (A1 3 (pv 3)) (A1 4 (pv 4))) (A3 (AV 5 EC.nd rfl (zT rfl) (Ae (Eb (Aa A9.toXCall (JQ T) (hr.mono (by decide)) rfl (A2 (Ae (Aa A9.toXCall (GH T) (hr.mono (by decide)) rfl (A2 (A1 0 (pv 0)) (A2 (AL (A2 (A1 3 (pv 3)) (A2 (A1 1 (pv 1)) A8))) A8)) rfl)) (A2 (Ae (Aa A9.toXCall (GH T) (hr.mono (by decide)) rfl (A2 (A1 0 (pv 0)) (A2 (AL (A2 (A1 1 (pv 1)) (A2 (A1 4 (pv 4)) A8))) A8)) rfl)) A8)) rfl)))) (A6 (MQ (YE A9.toXCall (ZO T) (hr.mono (by decide)) rfl (BA 0 (pv 0)) (A2 (AL (A2 (A1 3 (pv 3)) (A2 (A1 4 (pv 4)) A8))) (A2 (A1 5 (pv 5)) (A2 (A1 1 (pv 1)) A8))) rfl)))) Ax))))))),?_⟩;intro m A p H hm hA hH;have e0:CY ["laid","place","higher","u","w","cost"] (IC A) [.int p,.lst (H.map D.int)]=[some (.ow (.tree (some 0) (IC A))),some (.val (.int p)),some (.val (.lst (H.map D.int))),none,none,none]:=rfl;rw[e0];refine Ud ?_;simp_arith[];refine Bv (λ i ρ=>∃s3 s4 s5:Option Cl,ρ=[some (.ow (.tree (some 0) (IC ((H.take i).foldl (gL p H) A)))),some (.val (.int p)),some (.val (.lst (H.map D.int))),s3,s4,s5]) ⟨none,none,none,rfl⟩ ?_ ?_
 ·rintro i d ρ hd ⟨s3,s4,s5,rfl⟩;obtain⟨u,hu,rfl⟩:=BG hd;have li:=hH u (zk hu);refine⟨_,rfl,?_⟩;obtain⟨B,hB⟩:∃B,B=(H.take i).foldl (gL p H) A:=⟨_,rfl⟩;have gl:F9 m B:=by rw[hB];exact F9.lo hH hA λ x hx=>hH x (y8 hx)
  rw[<-hB,Eg hu,<-hB];simp_arith[];refine Bv (λ j ρ=>∃s4 s5:Option Cl,ρ=[some (.ow (.tree (some 0) (IC ((H.take j).foldl (Qn p u) B)))),some (.val (.int p)),some (.val (.lst (H.map D.int))),some (.val (.int u)),s4,s5]) ⟨s4,s5,rfl⟩ ?_ ?_
  ·rintro j d ρ hd ⟨s4,s5,rfl⟩;obtain⟨w,hw,rfl⟩:=BG hd;have yu:=hH w (zk hw);refine⟨_,rfl,?_⟩;obtain⟨C,hC⟩:∃C,C=(H.take j).foldl (Qn p u) B:=⟨_,rfl⟩;have qr:F9 m C:=by rw[hC];exact F9.ou li gl λ x hx=>hH x (y8 hx)
   rw[Eg hw,<-hC];by_cases e:u=w
   ·have ev:Qn p u C w=C:=by unfold Qn;rw[if_pos e]
    rw[ev];refine Bi (ρ':=_) (by simp_arith[decide_eq_true e];rfl) ⟨_,_,rfl⟩
   ·have ev:Qn p u C w=layA C (u,w) (Aq (Al C (u,p)) (Al C (p,w))) (some p):=by unfold Qn;rw[if_neg e]
    rw[ev];have h1:=GI C (u,p);have h2:=GI C (p,w);have h3:=JR (Al C (u,p)) (Al C (p,w));have h4:=ZP C (u,w) (Aq (Al C (u,p)) (Al C (p,w))) (some p) (qr.len hm);have t1:∀a b:Int,D.tup [.int a,.int b]=pD (a,b):=λ a b=>rfl;have t2:G3 (some p)=.int p:=rfl;rw[t2] at h4;have h5:=Kn (ρ:=[some (.ow (.tree (some 0) (IC C))),some (.val (.int p)),some (.val (.lst (H.map D.int))),some (.val (.int u)),some (.val (.int w)),some (.val (cst (Aq (Al C (u,p)) (Al C (p,w)))))]) (i:=0) rfl rfl h4;simp_arith[decide_eq_false e,if_true];apply wp_step
    ·simp_arith[t1,h1,h2,h3];rfl
    refine Bi (ρ':=_) (by simp_arith[t1,h5];rfl) ⟨_,_,rfl⟩
  ·rintro ρ ⟨s4,s5,rfl⟩;rw[zc,yK];exact⟨_,s4,s5,rfl⟩
 ·rintro ρ ⟨s3,s4,s5,rfl⟩;rw[zc,yK];exact⟨rfl,trivial⟩
noncomputable def Pt:OT->List D->M (OT×OT):=zg GJ
theorem SU:Txt K mg->OY P w K mg base "lay_over" 2 3 Pt:=(zb GJ).1
theorem SV:∀(m:Nat) (A:LA) (p:Int) (H:List Int),m<=20->F9 m A->(∀x∈H,0<=x/\x<m)->Pt (IC A) [.int p,.lst (H.map D.int)]=.ok (IC (mJ A p H),.sh .AA):=(zb GJ).2
theorem FC:∃F:List D->M OT,(∀ {P w K mg base},Txt K mg->BM P w K mg base "laid_arcs" 3 2 F)/\(∀(m:Nat) (rs:List Road) (L:List Int),m<=20->L.Perm (B2 m)->(∀r∈rs,Hs m r/\r.a≠r.b)->F [Ap m rs,.lst (L.map D.int)]=.ok (IC (BW rs L))):=by
 refine⟨_,λ T=>AD (k:=2) T.Sz CQ _ (λ f B5 A outer s H E hr=>(A3 (BQ 2 CQ.nd rfl (zT rfl) (RQ true)) (A3 (Bu A9.toXCall.own rfl (AI (Ab (AU hr 16 (by decide)) (A1 0 (pv 0)) A5)) (AS 3 CQ.nd rfl (zT rfl)) (A6 (MQ (YE A9.toXCall (ZO T) (hr.mono (by decide)) rfl (BA 2 (pv 2)) (A2 (AL (A2 (Ab (AU hr 16 (by decide)) (A1 3 (pv 3)) A5) (A2 (Ab (AU hr 16 (by decide)) (A1 3 (pv 3)) A5) A8))) (A2 (Ae (Aa A9.toXCall (Fy T) (hr.mono (by decide)) rfl (A2 (A1 3 (pv 3)) A8) rfl)) (A2 D5 A8))) rfl)))) (A3 (Bu A9.toXCall.own rfl (US rfl T.L5 (A1 1 (pv 1))) (TH (n:=2) rfl (EW (AS 4 CQ.nd rfl (zT rfl)) (EW (AS 5 CQ.nd rfl (zT rfl)) Q3))) (A6 (MQ (YE A9.toXCall (SU T) (hr.mono (by decide)) rfl (BA 2 (pv 2)) (A2 (A1 5 (pv 5)) (A2 (Ae (Ed (A1 1 (pv 1)) (Ez (BC (A1 4 (pv 4)) A5)) GR)) A8)) rfl)))) (A6 (CM 2 (pv 2))))))),?_⟩;intro m rs L hm hL As;have e0:AF ["net","order","laid","road","rank","place"] [Ap m rs,.lst (L.map D.int)]=[some (.val (Ap m rs)),some (.val (.lst (L.map D.int))),none,none,none,none]:=rfl;rw[e0];refine Bj ?_;have n1:AX (Ap m rs) (.int 1)=.ok (.lst (rs.map Be)):=rfl;apply wp_step
 ·rfl
 try simp only[zt,zo]
 have gm:∀i,i<=rs.length->F9 m ((rs.take i).foldl (λ A r=>layA A (r.a,r.b) (C7 r) none) []):=λ i hi=>by
  have:=(Qo (m:=m) (rs:=rs.take i) λ r hr=>As r (y8 hr)).1;exact this
 refine BZ (I:=λ ρ=>∃s3 s4 s5:Option Cl,ρ=[some (.val (Ap m rs)),some (.val (.lst (L.map D.int))),some (.ow (.tree none (IC (lay0 rs)))),s3,s4,s5]) ?_ ?_
 ·simp_arith[n1];refine Bv (λ i ρ=>i<=rs.length/\∃s3 s4 s5:Option Cl,ρ=[some (.val (Ap m rs)),some (.val (.lst (L.map D.int))),some (.ow (.tree none (IC ((rs.take i).foldl (λ A r=>layA A (r.a,r.b) (C7 r) none) [])))),s3,s4,s5]) ⟨zJ _,none,none,none,rfl⟩ ?_ ?_
  ·rintro i d ρ hd ⟨hi,s3,s4,s5,rfl⟩;obtain⟨r,hr,rfl⟩:=BG hd;have ah:=(zw.mp hr).1;refine⟨_,rfl,?_⟩;rw[Eg hr];obtain⟨B,hB⟩:∃B,B=(rs.take i).foldl (λ A r=>layA A (r.a,r.b) (C7 r) none) []:=⟨_,rfl⟩;have gl:F9 m B:=by rw[hB];exact gm i hi
   rw[<-hB];have i0:AX (Be r) (.int 0)=.ok (.int r.a):=rfl;have i1:AX (Be r) (.int 1)=.ok (.int r.b):=rfl;have h1:=Fz r;have h2:=ZP B (r.a,r.b) (C7 r) none (gl.len hm);have t1:∀a b:Int,D.tup [.int a,.int b]=pD (a,b):=λ a b=>rfl;have t2:G3 none=.AA:=rfl;rw[t2] at h2;have h5:=Kn (ρ:=[some (.val (Ap m rs)),some (.val (.lst (L.map D.int))),some (.ow (.tree none (IC B))),some (.val (Be r)),s4,s5]) (i:=2) rfl rfl h2;refine Bi (ρ':=_) (by simp_arith[i0,i1,h1,t1,h5];rfl) ⟨ah,_,_,_,rfl⟩
  ·rintro ρ ⟨_,s3,s4,s5,rfl⟩;rw[zc,yK];exact⟨s3,s4,s5,rfl⟩
 ·rintro ρ ⟨s3,s4,s5,rfl⟩;have qj:=Qo As;refine BZ (I:=λ ρ=>∃s3 s4 s5:Option Cl,ρ=[some (.val (Ap m rs)),some (.val (.lst (L.map D.int))),some (.ow (.tree none (IC (BW rs L)))),s3,s4,s5]) ?_ ?_
  ·simp_arith[];refine Bv (λ i ρ=>i<=L.length/\∃(G:LA) (s3 s4 s5:Option Cl),ρ=[some (.val (Ap m rs)),some (.val (.lst (L.map D.int))),some (.ow (.tree none (IC G))),s3,s4,s5]/\F9 m G/\Ua G (L.drop i)=Ua (lay0 rs) L) ⟨zJ _,lay0 rs,s3,s4,s5,rfl,qj.1,rfl⟩ ?_ ?_
   ·rintro i d ρ hd ⟨hi,G,s3,s4,s5,rfl,hG,jk⟩;obtain⟨d',aH,rfl⟩:=Kc hd;obtain⟨p,hp,rfl⟩:=BG aH;have ah:=(zw.mp hp).1;rw[Nat.zero_add];refine⟨_,rfl,?_⟩;have bt:∀x∈L.drop (i+1),0<=x/\x<m:=λ x hx=>(BV hL).mp (List.mem_of_mem_drop hx);have ed:L.drop i=p::L.drop (i+1):=by
     rw[zaw ah];rw[zi ah] at hp;rw[zD hp]
    rw[ed,Ua] at jk;have h2:=SV m G p (L.drop (i+1)) hm hG bt;have sl:ZT (some ((i:Int)+1)) none (.lst (L.map D.int))=.ok (.lst (((L.drop (i+1)).map D.int).map .sh)):=by rw[List.map_drop];exact Jr _ (i+1)
    have h5:=Kn (ρ:=[some (.val (Ap m rs)),some (.val (.lst (L.map D.int))),some (.ow (.tree none (IC G))),s3,some (.val (.int i)),some (.val (.int p))]) (i:=2) rfl rfl h2;refine Bi (ρ':=_) (by simp_arith[sl,h5];rfl) ⟨ah,_,_,_,_,rfl,F9.lo bt hG bt,jk⟩
   ·rintro ρ ⟨_,G,s3,s4,s5,rfl,hG,jk⟩;rw[GU,zc,zb0,Ua] at jk;exact⟨s3,s4,s5,by rw[jk];rfl⟩
  ·rintro ρ ⟨s3,s4,s5,rfl⟩;exact⟨_,rfl,rfl⟩
noncomputable def NG:List D->M OT:=zg FC
theorem QO:Txt K mg->BM P w K mg base "laid_arcs" 3 2 NG:=(zb FC).1
theorem QP:∀(m:Nat) (rs:List Road) (L:List Int),m<=20->L.Perm (B2 m)->(∀r∈rs,Hs m r/\r.a≠r.b)->NG [Ap m rs,.lst (L.map D.int)]=.ok (IC (BW rs L)):=(zb FC).2
theorem GL:∃F:List D->M OT,(∀ {P w K mg base},Txt K mg->BM P w K mg base "is_order" 2 2 F)/\(∀(m:Nat) (x:D) (L:List Int),m<=60->L.Perm (B2 m)->F [.tup [.int m,x],.lst (L.map .int)]=.ok (.sh (.bl true))):=by
 refine⟨_,λ T=>AD (k:=1) T.Um Ss _ (λ f B5 A outer s H E hr=>(A3 (B8 (DW.dt (Dw (BY (BF (c:=true) (E5 (GQ _) rfl T.AZ rfl T.Cu (by decide +kernel) (A1 1 (pv 1))))) (Cr (FT (c:=true) (AU hr 16 (by decide)) (Cd rfl T.Dz (A1 1 (pv 1))) (Ab (AU hr 16 (by decide)) (A1 0 (pv 0)) A5))))) (A6 (Aj (AO Cj))) Ax) (A3 (B8 (BY (BF (c:=true) (TR rfl rfl T.ZF (Ae (BB (NB:=["place","net"]) [none,some 0] rfl (AI (A1 1 (pv 1))) rfl rfl (AY 0 (by decide) rfl rfl rfl) (λ _ _ _ _=>BP) (λ _ _ _ _=>(Ae (Bn (Aa (AW rfl).toXCall (B0 T) (hr.mono (by decide)) rfl (A2 (A1 0 (pv 0)) (A2 (Ab (AU hr 16 (by decide)) (A1 1 (pv 1)) A5) A8)) rfl))))))))) (A6 (Aj (AO Cj))) Ax) (A6 (Aj (AO (iG (AU hr 16 (by decide)) (Ae (Wv rfl rfl T.ZJ (A1 1 (pv 1)))) (Ae (J2 rfl rfl T.Cu rfl T.Cb (Ab (AU hr 16 (by decide)) (A1 0 (pv 0)) A5)))))))))),?_⟩;intro m x L hm hL;have e0:AF ["net","thing"] [.tup [.int m,x],.lst (L.map .int)]=[some (.val (.tup [.int m,x])),some (.val (.lst (L.map .int)))]:=rfl;rw[e0];have n0:AX (.tup [.int m,x]) (.int 0)=.ok (.int m):=rfl;refine Bj ?_;have hlen:=JB hL;have h1:decide (((L.map D.int).length:Int)=(m:Int))=true:=decide_eq_true (by rw[zc];omega);have hl:(L.map D.int).length<=1000:=by rw[zc];omega
 have hs:=Wu (ns:=L) (by omega);have h3:=Qb (n:=m) (by omega);rw[N4] at h3;have e:decide (Gq L=B2 m)=true:=decide_eq_true (WM.mpr hL);apply wp_step
 ·simp_arith[n0,h1];rfl
 apply wp_step
 ·simp_arith[if_pos hl];rw[B6 (λ _:Int=>D.bl true) (λ j hj=>⟨_,rfl,rfl,by
   have uc:=Gw.mp (hL.mem_iff.mp hj);have:=B1 j m (by omega) (by omega);simp_arith[n0,this]⟩)]
  simp_arith[qY];rfl
 simp_arith[n0,hs,h3,Za,e];rfl
noncomputable def Pu:List D->M OT:=zg GL
theorem SW:Txt K mg->BM P w K mg base "is_order" 2 2 Pu:=(zb GL).1
theorem SX:∀(m:Nat) (x:D) (L:List Int),m<=60->L.Perm (B2 m)->Pu [.tup [.int m,x],.lst (L.map .int)]=.ok (.sh (.bl true)):=(zb GL).2
theorem Dd:∃F:List D->M OT,(∀ {P w K mg base},Txt K mg->BM P w K mg base "checked_order" 3 2 F)/\(∀(m:Nat) (x:D) (L:List Int),m<=60->L.Perm (B2 m)->F [.tup [.int m,x],.lst (L.map .int)]=.ok (.lst ((L.map D.int).map .sh))):=by
 refine⟨_,λ T=>AD (k:=2) T.Lk Kr _ (λ f B5 A outer s H E hr=>(A3 (B8 (BY (BF (c:=true) (Ae (Aa A9.toXCall (SW T) (hr.mono (by decide)) rfl (A2 (A1 0 (pv 0)) (A2 (A1 1 (pv 1)) A8)) rfl)))) (A6 TM) Ax) (A6 (Aj (DD rfl T.Cu (A1 1 (pv 1))))))),?_⟩;intro m x L hm hL;have e0:AF ["net","thing"] [.tup [.int m,x],.lst (L.map .int)]=[some (.val (.tup [.int m,x])),some (.val (.lst (L.map .int)))]:=rfl;rw[e0];have h1:=SX m x L hm hL;refine Bj ?_;apply wp_step
 ·simp_arith[h1];rfl
 simp_arith[];exact⟨_,rfl,rfl⟩
noncomputable def Em:List D->M OT:=zg Dd
theorem Kv:Txt K mg->BM P w K mg base "checked_order" 3 2 Em:=(zb Dd).1
theorem Kw:∀(m:Nat) (x:D) (L:List Int),m<=60->L.Perm (B2 m)->Em [.tup [.int m,x],.lst (L.map .int)]=.ok (.lst ((L.map D.int).map .sh)):=(zb Dd).2
theorem ES:∃F:List D->M OT,(∀ {P w K mg base},Txt K mg->BM P w K mg base "first_bows" 2 1 F)/\(∀(m:Nat) (rs:List Road),m<=20->(∀r∈rs,Hs m r/\r.a≠r.b)->F [Ap m rs]=.ok (.Bl true ((By rs).map pD) ((CZ (By rs)).map .sh))):=by
 refine⟨_,λ T=>AD (k:=1) T.QH EN _ (λ f B5 A outer s H E hr=>(A3 (BQ 1 EN.nd rfl (zT rfl) (RQ true)) (A3 (Bu A9.toXCall.own rfl (AI (Ab (AU hr 16 (by decide)) (A1 0 (pv 0)) A5)) (AS 2 EN.nd rfl (zT rfl)) (A6 (B8 (Lu (c:=true) (Ae (Aa A9.toXCall (Fy T) (hr.mono (by decide)) rfl (A2 (A1 2 (pv 2)) A8) rfl))) (A6 (LF (AU hr 16 (by decide)) (BA 1 (pv 1)) (AL (A2 (Ab (AU hr 16 (by decide)) (A1 2 (pv 2)) A5) (A2 (Ab (AU hr 16 (by decide)) (A1 2 (pv 2)) A5) A8))) Cj)) Ax))) (A6 (CM 1 (pv 1)))))),?_⟩;intro m rs hm As;have e0:AF ["net","bows","road"] [Ap m rs]=[some (.val (Ap m rs)),none,none]:=rfl;rw[e0];refine Bj ?_;apply wp_step
 ·rfl
 have n1:AX (Ap m rs) (.int 1)=.ok (.lst (rs.map Be)):=rfl;refine BZ (I:=λ ρ=>∃s2,ρ=[some (.val (Ap m rs)),some (.ow (.tree none (.Bl true ((By rs).map pD) ((CZ (By rs)).map .sh)))),s2]) ?_ ?_
 ·simp_arith[n1];refine Bv (λ i ρ=>∃s2,ρ=[some (.val (Ap m rs)),some (.ow (.tree none (.Bl true ((By (rs.take i)).map pD) ((CZ (By (rs.take i))).map .sh)))),s2]) ⟨none,rfl⟩ ?_ ?_
  ·rintro i d ρ hd ⟨s2,rfl⟩;rw[z7] at hd;cases hq:rs[i]? with
   |none=>rw[hq] at hd;cases hd
   |some r =>
    rw[hq] at hd;cases hd;have hr:=zk hq;have et:rs.take (i+1)=rs.take i++[r]:=by rw[yL,hq];rfl
    have eb:By (rs.take (i+1))=(match r.l with|none=>By (rs.take i)|some _=>Kj (By (rs.take i)) (r.a,r.b)):=by
     unfold By;rw[et,List.foldl_append];rfl
    have wU:=Sd (m:=m) (rs:=rs.take i) λ r' h'=>As r' (y8 h');have hlen:=wU.len hm;have h1:=Fz r;refine⟨_,rfl,?_⟩;cases hl:r.l with
    |none =>
     have e1:C7 r=none:=by unfold C7;rw[hl]
     rw[hl] at eb;rw[e1] at h1;simp_arith[h1,cst,D6];exact⟨_,by rw[eb]⟩
    |some l =>
     have e1:C7 r=some (l,1):=by unfold C7;rw[hl]
     rw[hl] at eb;rw[e1] at h1;have i0:AX (Be r) (.int 0)=.ok (.int r.a):=rfl;have i1:AX (Be r) (.int 1)=.ok (.int r.b):=rfl;have kk:keyOk true (D.tup [.int r.a,.int r.b])=true/\((By (rs.take i)).map pD).length<1000:=⟨rfl,by rw[zc];exact hlen⟩;have pp:putD ((By (rs.take i)).map pD) (CZ (By (rs.take i))) (D.tup [.int r.a,.int r.b]) (.bl true)=_:=Vu (By (rs.take i)) (r.a,r.b);simp_arith[h1,cst,D6,Bool.not_false,if_true,i0,i1,if_pos kk,pp];exact⟨_,by rw[eb]⟩
  ·rintro ρ ⟨s2,rfl⟩;rw[zc,yK];exact⟨s2,rfl⟩
 ·rintro ρ ⟨s2,rfl⟩;exact⟨_,rfl,rfl⟩
noncomputable def L9:List D->M OT:=zg ES
theorem Oo:Txt K mg->BM P w K mg base "first_bows" 2 1 L9:=(zb ES).1
theorem Oq:∀(m:Nat) (rs:List Road),m<=20->(∀r∈rs,Hs m r/\r.a≠r.b)->L9 [Ap m rs]=.ok (.Bl true ((By rs).map pD) ((CZ (By rs)).map .sh)):=(zb ES).2
theorem Dv:∃F:List D->M OT,(∀ {P w K mg base},Txt K mg->BM P w K mg base "missing_bows" 1 3 F)/\(∀(B:List (Int×Int)) (vs:List D) (L:List Int) (v:Int),L.length<=30->F [.Bl true (B.map pD) vs,.lst (L.map .int),.int v]=.ok (.lst (((B7 B L v).map pD).map .sh))):=by
 refine⟨_,λ T=>AD (k:=0) T.Nq BX _ (λ f B5 A outer s H E hr=>(A3 (UT (NB:=["u","bows","place"]) 3 [none,some 0,some 2] BX.nd rfl (zT rfl) rfl (AI (A1 1 (pv 1))) rfl rfl (AY 0 (by decide) rfl rfl rfl) (λ _ _ _ _=>GW (MO (c:=true) (AU hr 16 (by decide)) (AL (A2 (A1 0 (pv 0)) (A2 (A1 2 (pv 2)) A8))) (A1 1 (pv 1)))) (λ _ _ _ _=>(A1 0 (pv 0)))) (A3 (UT (NB:=["w","bows","place"]) 4 [none,some 0,some 2] BX.nd rfl (zT rfl) rfl (AI (A1 1 (pv 1))) rfl rfl (AY 0 (by decide) rfl rfl rfl) (λ _ _ _ _=>GW (MO (c:=true) (AU hr 16 (by decide)) (AL (A2 (A1 2 (pv 2)) (A2 (A1 0 (pv 0)) A8))) (A1 1 (pv 1)))) (λ _ _ _ _=>(A1 0 (pv 0)))) (A3 (BQ 5 BX.nd rfl (zT rfl) (Kf Fo)) (A3 (Bu A9.toXCall.own rfl (AI (A1 3 (pv 3))) (AS 6 BX.nd rfl (Or.inr rfl)) (A6 (YB (BA 5 (pv 5)) (by exact (BB (NB:=["w","u","bows"]) [none,some 6,some 0] rfl (AI (A1 4 (pv 4))) rfl rfl (AY 0 (by decide) rfl rfl rfl) (λ _ _ _ _=>GW (DW.dt (Mu (FT (c:=true) (AU hr 16 (by decide)) (A1 1 (pv 1)) (A1 0 (pv 0))) (Lw (LC (c:=true) (AU hr 16 (by decide)) (AL (A2 (A1 1 (pv 1)) (A2 (A1 0 (pv 0)) A8))) (A1 2 (pv 2))))))) (λ _ _ _ _=>(AL (A2 (A1 1 (pv 1)) (A2 (A1 0 (pv 0)) A8))))))))) (A6 (CM 5 (pv 5)))))))),?_⟩;intro B vs L v hl;have e0:AF ["bows","left","place","ahead","behind","missing","u"] [.Bl true (B.map pD) vs,.lst (L.map .int),.int v]=[some (.val (.Bl true (B.map pD) vs)),some (.val (.lst (L.map .int))),some (.val (.int v)),none,none,none,none]:=rfl;rw[e0];refine Bj ?_;have hL:(L.map D.int).length<=1000:=by rw[zc];omega
 apply wp_step
 ·simp_arith[if_pos hL];rw[D8 (λ u=>decide ((u,v)∈B)) D.int (λ u hu=>⟨_,rfl,by simp[rS,rT,LU,zt,zo,M.A7,H9,GZ,IU,Jd,Je,Jf,LJ,Il,Im,RU,J4,J5,Hd,V5,LG,LH,J6,eY,He,Hf,Fs,Qd,D7,Qe,J7,J8,Hg,V8,J3,Dm,toCl_list,toCl_listP,toCl_dct,LK,Jg,Jh,Ji,Jj,LL,Jk,Jl,Jm,nO,qG,J9,V9,Ja,Va,Jb,Jc,LI,Vb,rV,rW,fB,fC,fD,fE,fF,fG,toCl_nil,IR,J0,OI,Qf,Hh,LM,LN,Jn,Jo,LO,LP,LQ,LR,LS,Jp,Jq,Js,Jt,Hi,Hj,Hk,Hl,Hm,Ju,Hn,Ho,Vc,Vd,Ve,Vf,Vg,Hq,ite_tt,ite_ff,Bool.not_true,Bool.not_false,zW,zI,F5,Gx,JA,fA,gB,eZ,gE,gF,gH,M3,Qr,Qs,Qt,DQ,Hw,M5,Qi,gR,Vy,Na,Qj],λ _=>by simp_arith[]⟩)];simp_arith[];rfl
 apply wp_step
 ·simp_arith[if_pos hL];rw[D8 (λ w=>decide ((v,w)∈B)) D.int (λ u hu=>⟨_,rfl,by simp[rS,rT,LU,zt,zo,M.A7,H9,GZ,IU,Jd,Je,Jf,LJ,Il,Im,RU,J4,J5,Hd,V5,LG,LH,J6,eY,He,Hf,Fs,Qd,D7,Qe,J7,J8,Hg,V8,J3,Dm,toCl_list,toCl_listP,toCl_dct,LK,Jg,Jh,Ji,Jj,LL,Jk,Jl,Jm,nO,qG,J9,V9,Ja,Va,Jb,Jc,LI,Vb,rV,rW,fB,fC,fD,fE,fF,fG,toCl_nil,IR,J0,OI,Qf,Hh,LM,LN,Jn,Jo,LO,LP,LQ,LR,LS,Jp,Jq,Js,Jt,Hi,Hj,Hk,Hl,Hm,Ju,Hn,Ho,Vc,Vd,Ve,Vf,Vg,Hq,ite_tt,ite_ff,Bool.not_true,Bool.not_false,zW,zI,F5,Gx,JA,fA,gB,eZ,gE,gF,gH,M3,Qr,Qs,Qt,DQ,Hw,M5,Qi,gR,Vy,Na,Qj],λ _=>by simp_arith[]⟩)];simp_arith[];rfl
 apply wp_step
 ·rfl
 try simp only[zt,zo]
 have uk:((L.filter λ w=>decide ((v,w)∈B)).map D.int).length<=1000:=by rw[zc];exact yG (List.length_filter_le _ _) (by omega)
 have hlen:=WJ B L v;have jg:L.length*L.length<=30*30:=Nat.mul_le_mul hl hl;generalize hA:L.filter (λ u=>decide ((u,v)∈B))=A;generalize hW:L.filter (λ w=>decide ((v,w)∈B))=W at uk ⊢;obtain⟨G,hG⟩:∃G:Int->List (Int×Int),G=λ u=>((W.filter λ w=>decide (u≠w) && !decide ((u,w)∈B)).map λ w=>(u,w)):=⟨_,rfl⟩;have d9:B7 B L v=A.flatMap G:=by unfold B7;rw[hA,hW,hG]
 refine BZ (I:=λ ρ=>∃s6,ρ=[some (.val (.Bl true (B.map pD) vs)),some (.val (.lst (L.map .int))),some (.val (.int v)),some (.val (.lst (A.map .int))),some (.val (.lst (W.map .int))),some (.own ((A.flatMap G).map pD)),s6]) ?_ ?_
 ·simp_arith[];refine Bv (λ i ρ=>∃s6,ρ=[some (.val (.Bl true (B.map pD) vs)),some (.val (.lst (L.map .int))),some (.val (.int v)),some (.val (.lst (A.map .int))),some (.val (.lst (W.map .int))),some (.own (((A.take i).flatMap G).map pD)),s6]) ⟨none,rfl⟩ ?_ ?_
  ·rintro i d ρ hd ⟨s6,rfl⟩;obtain⟨u,hu,rfl⟩:=BG hd;have et:A.take (i+1)=A.take i++[u]:=by rw[yL,hu];rfl
   refine⟨_,rfl,?_⟩;have hb:(((A.take i).flatMap G).map pD).length+((G u).map pD).length<=1000:=by
    have h1:((A.take (i+1)).flatMap G).length<=(A.flatMap G).length:=by
     conv=>rhs;rw[<-yY (i+1) A,List.flatMap_append,zC]
     omega
    rw[et,List.flatMap_append,zC] at h1;rw[d9] at hlen;simp only[List.flatMap_cons,List.flatMap_nil,zR] at h1;rw[zc,zc];omega
   have j8:(((W.filter λ w=>decide (u≠w) && !decide ((u,w)∈B)).map λ w=>(u,w)).map pD)=(W.filter λ w=>decide (u≠w) && !decide ((u,w)∈B)).map λ w=>D.tup [.int u,.int w]:=by rw[zH];rfl
   refine Bi (ρ':=[some (.val (.Bl true (B.map pD) vs)),some (.val (.lst (L.map .int))),some (.val (.int v)),some (.val (.lst (A.map .int))),some (.val (.lst (W.map .int))),some (.own (((A.take (i+1)).flatMap G).map pD)),some (.val (.int u))]) ?_ ⟨_,rfl⟩;simp_arith[if_pos uk];rw[D8 (λ w=>decide (u≠w) && !decide ((u,w)∈B)) (λ w=>D.tup [.int u,.int w]) (λ w hw=>⟨_,rfl,by
    simp[rS,rT,LU,zt,zo,M.A7,H9,GZ,IU,Jd,Je,Jf,LJ,Il,Im,RU,J4,J5,Hd,V5,LG,LH,J6,eY,He,Hf,Fs,Qd,D7,Qe,J7,J8,Hg,V8,J3,Dm,toCl_list,toCl_listP,toCl_dct,LK,Jg,Jh,Ji,Jj,LL,Jk,Jl,Jm,nO,qG,J9,V9,Ja,Va,Jb,Jc,LI,Vb,rV,rW,fB,fC,fD,fE,fF,fG,toCl_nil,IR,J0,OI,Qf,Hh,LM,LN,Jn,Jo,LO,LP,LQ,LR,LS,Jp,Jq,Js,Jt,Hi,Hj,Hk,Hl,Hm,Ju,Hn,Ho,Vc,Vd,Ve,Vf,Vg,Hq,ite_tt,ite_ff,Bool.not_true,Bool.not_false,zW,zI,F5,Gx,JA,fA,gB,eZ,gE,gF,gH,M3,Qr,Qs,Qt,DQ,Hw,M5,Qi,gR,Vy,Na,Qj,Xe,IB,AG,Ay];by_cases h:u=w<;>simp[h],λ _=>by simp_arith[]⟩)]
   rw[<-j8];have wV:((W.filter λ w=>decide (u≠w) && !decide ((u,w)∈B)).map λ w=>(u,w))=G u:=by rw[hG]
   rw[wV];simp_arith[if_pos hb];rw[et,List.flatMap_append,List.flatMap_cons,List.flatMap_nil,zR,<-zG]
  ·rintro ρ ⟨s6,rfl⟩;rw[zc,yK];exact⟨s6,rfl⟩
 ·rintro ρ ⟨s6,rfl⟩;rw[d9];exact⟨_,rfl,rfl⟩
noncomputable def HM:List D->M OT:=zg Dv
theorem FZ:Txt K mg->BM P w K mg base "missing_bows" 1 3 HM:=(zb Dv).1
theorem G0:∀(B:List (Int×Int)) (vs:List D) (L:List Int) (v:Int),L.length<=30->HM [.Bl true (B.map pD) vs,.lst (L.map .int),.int v]=.ok (.lst (((B7 B L v).map pD).map .sh)):=(zb Dv).2
theorem GN:∃F:List D->M OT,(∀ {P w K mg base},Txt K mg->BM P w K mg base "lightest" 2 2 F)/\(∀(B:List (Int×Int)) (vs:List D) (L:List Int),L≠[]->L.length<=30->F [.Bl true (B.map pD) vs,.lst (L.map .int)]=.ok (.sh (.int (Bm B L)))):=by
 refine⟨_,λ T=>AD (k:=1) T.Uo Su _ (λ f B5 A outer s H E hr=>(A6 (Aj (AO (Ab (AU hr 16 (by decide)) (eS rfl (AU hr 16 (by decide)) rfl T.ZI (Ae (BB (NB:=["place","bows","left"]) [none,some 0,some 1] rfl (AI (A1 1 (pv 1))) rfl rfl (AY 0 (by decide) rfl rfl rfl) (λ _ _ _ _=>BP) (λ _ _ _ _=>(AL (A2 (Cd rfl T.Dz (Ae (Bn (Aa (AW rfl).toXCall (FZ T) (hr.mono (by decide)) rfl (A2 (A1 1 (pv 1)) (A2 (A1 2 (pv 2)) (A2 (A1 0 (pv 0)) A8))) rfl)))) (A2 (A1 0 (pv 0)) A8))))))) A5))))),?_⟩;intro B vs L ae hl;have e0:AF ["bows","left"] [.Bl true (B.map pD) vs,.lst (L.map .int)]=[some (.val (.Bl true (B.map pD) vs)),some (.val (.lst (L.map .int)))]:=rfl;rw[e0];refine Bj ?_;have hL:(L.map D.int).length<=1000:=by rw[zc];omega
 simp_arith[if_pos hL];rw[B6 (λ p=>D.tup ([((B7 B L p).length:Int),p].map D.int)) (λ p hp=>⟨_,rfl,rfl,by
  have h1:=G0 B vs L p hl;simp_arith[h1,W7,zc,zf,zaf]⟩)]
 simp_arith[V4];rw[Pf];have hb:=WK (λ p=>D.tup ([((B7 B L p).length:Int),p].map D.int)) (L.map λ p=>(p,[((B7 B L p).length:Int),p]));rw[zH] at hb;have e2:((λ b:Int×List Int=>(D.tup ([((B7 B L b.1).length:Int),b.1].map D.int),b.2)) ∘ λ p=>(p,[((B7 B L p).length:Int),p]))=λ p=>(D.tup ([((B7 B L p).length:Int),p].map D.int),[((B7 B L p).length:Int),p]):=rfl;rw[e2] at hb;dsimp only;rw[hb];unfold Bm;cases q:B3 (L.map λ p=>(p,[((B7 B L p).length:Int),p])) with
 |none=>exact (MR (λ z=>ae (List.map_eq_nil_iff.mp z)) q).elim
 |some k =>
  simp only[yW,M.A7];rfl
noncomputable def Pw:List D->M OT:=zg GN
theorem SY:Txt K mg->BM P w K mg base "lightest" 2 2 Pw:=(zb GN).1
theorem T4:∀(B:List (Int×Int)) (vs:List D) (L:List Int),L≠[]->L.length<=30->Pw [.Bl true (B.map pD) vs,.lst (L.map .int)]=.ok (.sh (.int (Bm B L))):=(zb GN).2
theorem Kx:∃F:List D->M OT,(∀ {P w K mg base},Txt K mg->BM P w K mg base "ranked" 3 1 F)/\(∀(m:Nat) (rs:List Road),m<=20->(∀r∈rs,Hs m r/\r.a≠r.b)->F [Ap m rs]=.ok (.lst (((Ta m (By rs) (B2 m)).map D.int).map .sh))):=by
 refine⟨_,λ T=>AD (k:=2) T.ZE DR _ (λ f B5 A outer s H E hr=>(A3 (BQ 1 DR.nd rfl (zT rfl) (Aa A9.toXCall (Oo T) (hr.mono (by decide)) rfl (A2 (A1 0 (pv 0)) A8) rfl)) (A3 (BQ 2 DR.nd rfl (zT rfl) (J2 rfl rfl T.Cu rfl T.Cb (Ab (AU hr 16 (by decide)) (A1 0 (pv 0)) A5))) (A3 (BQ 3 DR.nd rfl (zT rfl) (Kf Fo)) (A3 (RJ A9.toXCall.own (Ie (BF (c:=true) (A1 2 (pv 2)))) (A3 (AV 4 DR.nd rfl (zT rfl) (Ae (Eb (Aa A9.toXCall (SY T) (hr.mono (by decide)) rfl (A2 (A1 1 (pv 1)) (A2 (A1 2 (pv 2)) A8)) rfl)))) (A3 (Bu A9.toXCall.own rfl (AI (Ae (Eb (Aa A9.toXCall (FZ T) (hr.mono (by decide)) rfl (A2 (A1 1 (pv 1)) (A2 (A1 2 (pv 2)) (A2 (A1 4 (pv 4)) A8))) rfl)))) (AS 5 DR.nd rfl (zT rfl)) (A6 (LF (AU hr 16 (by decide)) (BA 1 (pv 1)) (A1 5 (pv 5)) Cj))) (A3 (Wr (BA 2 (pv 2)) (A1 4 (pv 4))) (A6 (GS 3 (pv 3) (A1 4 (pv 4)))))))) (A6 (CM 3 (pv 3)))))))),?_⟩;intro m rs hm As;have e0:AF ["net","bows","left","order","place","bow"] [Ap m rs]=[some (.val (Ap m rs)),none,none,none,none,none]:=rfl;rw[e0];refine Bj ?_;have h1:=Oq m rs hm As;have n0:AX (Ap m rs) (.int 0)=.ok (.int m):=rfl;have h2:=Qb (n:=m) (by omega);rw[N4] at h2;apply wp_step
 ·simp_arith[h1];rfl
 apply wp_step
 ·simp_arith[n0,h2];rfl
 apply wp_step
 ·rfl
 try simp only[zt,zo]
 refine BZ (I:=λ ρ=>∃s1 s2 s4 s5,ρ=[some (.val (Ap m rs)),s1,s2,some (.own ((Ta m (By rs) (B2 m)).map D.int)),s4,s5]) ?_ ?_
 ·refine RS (lt:=λ a b:Nat=>a<b) (λ n ρ=>∃(B:List (Int×Int)) (L O:List Int) (s4 s5:Option Cl),ρ=[some (.val (Ap m rs)),some (.ow (.tree none (.Bl true (B.map pD) ((CZ B).map .sh)))),some (.own (L.map D.int)),some (.own (O.map D.int)),s4,s5]/\L.length=n/\n+O.length=m/\Cg m B/\(∀p∈L,0<=p/\p<(m:Int))/\O++Ta n B L=Ta m (By rs) (B2 m)) (Nat.lt_wfRel.wf.apply m) ⟨By rs,B2 m,[],none,none,rfl,F4 m,by simp,Sd As,λ p hp=>Gw.mp hp,rfl⟩ ?_;rintro n ρ ⟨B,L,O,s4,s5,rfl,hn,hO,hB,hL,dh⟩;by_cases jl:L=[]
  ·subst jl;left;have:n=0:=by simpa using hn.symm
   subst this;rw[Ta,zR] at dh;exact⟨rfl,⟨_,_,_,_,by rw[dh]⟩⟩
  ·right;have jm:L.length<=30:=by omega
   have q1:=T4 B (CZ B) L jl jm;have q2:=G0 B (CZ B) L (Bm B L) jm;obtain⟨aT,_⟩:=Ph (B:=B) jl;have wW:0<L.length:=List.length_pos_of_mem aT;obtain⟨n',rfl⟩:∃n',n=n'+1:=⟨n-1,by omega⟩;rw[Ta,if_neg jl] at dh;constructor
   ·simp_arith[YJ];cases L with
    |nil=>exact (jl rfl).elim
    |cons x r=>rfl
   apply wp_step
   ·simp_arith[q1,lT fI];rfl
   try simp only[zt,zo]
   have d0:IS ((B7 B L (Bm B L)).map pD)=true:=RV Z7 _;refine BZ (I:=λ ρ=>∃s5,ρ=[some (.val (Ap m rs)),some (.ow (.tree none (.Bl true ((Ce B (B7 B L (Bm B L))).map pD) ((CZ (Ce B (B7 B L (Bm B L)))).map .sh)))),some (.own (L.map D.int)),some (.own (O.map D.int)),some (.val (.int (Bm B L))),s5]) ?_ ?_
   ·simp_arith[q2,fH d0];refine Bv (λ i ρ=>∃s5,ρ=[some (.val (Ap m rs)),some (.ow (.tree none (.Bl true ((Ce B ((B7 B L (Bm B L)).take i)).map pD) ((CZ (Ce B ((B7 B L (Bm B L)).take i))).map .sh)))),some (.own (L.map D.int)),some (.own (O.map D.int)),some (.val (.int (Bm B L))),s5]) ⟨s5,rfl⟩ ?_ ?_
    ·rintro i d ρ hd ⟨s5,rfl⟩;obtain⟨p,hp,rfl⟩:=BG hd;refine⟨_,rfl,?_⟩;have wX:Cg m (Ce B ((B7 B L (Bm B L)).take i)):=hB.Ce λ q hq=>by
      have:=Pg (y8 hq);exact⟨this.2.2,hL _ this.1,hL _ this.2.1⟩
     have kk:keyOk true (pD p)=true/\((Ce B ((B7 B L (Bm B L)).take i)).map pD).length<1000:=⟨rfl,by rw[zc];exact wX.len hm⟩;have et:(B7 B L (Bm B L)).take (i+1)=(B7 B L (Bm B L)).take i++[p]:=by rw[yL,hp];rfl
     have ea:Ce B ((B7 B L (Bm B L)).take (i+1))=Kj (Ce B ((B7 B L (Bm B L)).take i)) p:=by
      unfold Ce;rw[et,List.foldl_append];rfl
     simp_arith[if_pos kk,Vu];exact⟨_,by rw[ea]⟩
    ·rintro ρ ⟨s5,rfl⟩;rw[zc,yK];exact⟨s5,rfl⟩
   ·rintro ρ ⟨s5,rfl⟩;have wY:(O.map D.int).length<1000:=by rw[zc];omega
    apply wp_step
    ·simp_arith[EX,if_pos aT];rfl
    refine Bi (ρ':=[some (.val (Ap m rs)),some (.ow (.tree none (.Bl true ((Ce B (B7 B L (Bm B L))).map pD) ((CZ (Ce B (B7 B L (Bm B L)))).map .sh)))),some (.own ((L.erase (Bm B L)).map D.int)),some (.own ((O++[Bm B L]).map D.int)),some (.val (.int (Bm B L))),s5]) ?_ ?_
    ·simp_arith[if_pos wY,zG,zf,zaf]
    ·have hlen:=List.length_erase_of_mem aT;refine⟨n',by omega,_,_,_,_,_,rfl,by omega,by rw[zC];simp;omega,hB.Ce λ q hq=>?_,λ p hp=>hL p (List.mem_of_mem_erase hp),?_⟩
     ·have:=Pg hq;exact⟨this.2.2,hL _ this.1,hL _ this.2.1⟩
     ·rw[yP];exact dh
 ·rintro ρ ⟨s1,s2,s4,s5,rfl⟩;exact⟨_,rfl,rfl⟩
noncomputable def VH:List D->M OT:=zg Kx
theorem X7:Txt K mg->BM P w K mg base "ranked" 3 1 VH:=(zb Kx).1
theorem X8:∀(m:Nat) (rs:List Road),m<=20->(∀r∈rs,Hs m r/\r.a≠r.b)->VH [Ap m rs]=.ok (.lst (((Ta m (By rs) (B2 m)).map D.int).map .sh)):=(zb Kx).2
theorem Cw:∃F:List D->M OT,(∀ {P w K mg base},Txt K mg->BM P w K mg base "order_or_ranked" 4 2 F)/\(∀(m:Nat) (rs:List Road),m<=20->(∀r∈rs,Hs m r/\r.a≠r.b)->(∀L:List Int,L.Perm (B2 m)->F [Ap m rs,.lst (L.map .int)]=.ok (.lst ((L.map D.int).map .sh)))/\F [Ap m rs,.AA]=.ok (.lst (((Ta m (By rs) (B2 m)).map D.int).map .sh))):=by
 refine⟨_,λ T=>AD (k:=3) T.JO Iq _ (λ f B5 A outer s H E hr=>(A3 (B8 (I0 (c:=true) (A1 1 (pv 1))) (A6 (Aj (Aa A9.toXCall (X7 T) (hr.mono (by decide)) rfl (A2 (A1 0 (pv 0)) A8) rfl))) Ax) (A6 (Aj (Aa A9.toXCall (Kv T) (hr.mono (by decide)) rfl (A2 (A1 0 (pv 0)) (A2 (A1 1 (pv 1)) A8)) rfl))))),?_⟩;intro m rs hm As;have h1:=X8 m rs hm As;refine⟨λ L hL=>?_,?_⟩
 ·have h2:Em [Ap m rs,.lst (L.map .int)]=.ok (.lst ((L.map D.int).map .sh)):=Kw m (.lst (rs.map Be)) L (by omega) hL;have e0:AF ["net","order"] [Ap m rs,.lst (L.map .int)]=[some (.val (Ap m rs)),some (.val (.lst (L.map .int)))]:=rfl;rw[e0];refine Bj ?_;apply wp_step
  ·rfl
  simp_arith[h2];exact⟨_,rfl,rfl⟩
 ·have e0:AF ["net","order"] [Ap m rs,.AA]=[some (.val (Ap m rs)),some (.val .AA)]:=rfl;rw[e0];refine Bj ?_;simp_arith[D6,h1];exact⟨_,rfl,rfl⟩
noncomputable def Cc:List D->M OT:=zg Cw
theorem Iz:Txt K mg->BM P w K mg base "order_or_ranked" 4 2 Cc:=(zb Cw).1
theorem En:∀(m:Nat) (rs:List Road),m<=20->(∀r∈rs,Hs m r/\r.a≠r.b)->(∀L:List Int,L.Perm (B2 m)->Cc [Ap m rs,.lst (L.map .int)]=.ok (.lst ((L.map D.int).map .sh)))/\Cc [Ap m rs,.AA]=.ok (.lst (((Ta m (By rs) (B2 m)).map D.int).map .sh)):=(zb Cw).2
theorem FD:∃F:List D->M OT,(∀ {P w K mg base},Txt K mg->BM P w K mg base "kept_arcs" 3 2 F)/\(∀(m:Nat) (rs:List Road) (A:LA),m<=20->(∀r∈rs,Hs m r)->F9 m A->∃K:List (Int×Int),F [Ap m rs,KL A]=.ok (.lst ((K.map pD).map .sh))/\K.Nodup/\∀p,p∈K↔KP rs A p):=by
 refine⟨_,λ T=>AD (k:=2) T.SA DJ _ (λ f B5 A outer s H E hr=>(A3 (BQ 2 DJ.nd rfl (zT rfl) (Kf Fo)) (A3 (Bu A9.toXCall.own rfl (BE (c:=true) rfl T.Cb (Ab (AU hr 16 (by decide)) (A1 0 (pv 0)) A5)) (AS 3 DJ.nd rfl (Or.inr rfl)) (A3 (AV 4 DJ.nd rfl (Or.inr rfl) (Ae (Aa A9.toXCall (Om T) (hr.mono (by decide)) rfl (A2 (A1 0 (pv 0)) (A2 (A1 3 (pv 3)) A8)) rfl))) (A6 (YB (BA 2 (pv 2)) (by exact (BB (NB:=["w","u","laid","costs"]) [none,some 3,some 1,some 4] rfl (BE (c:=true) rfl T.Cb (Ab (AU hr 16 (by decide)) (A1 0 (pv 0)) A5)) rfl rfl (AY 0 (by decide) rfl rfl rfl) (λ _ _ _ _=>GW (DW.dt (Mu (MO (c:=true) (AU hr 16 (by decide)) (AL (A2 (A1 1 (pv 1)) (A2 (A1 0 (pv 0)) A8))) (A1 2 (pv 2))) (Lw (OJ (c:=true) (AU hr 16 (by decide)) (Ab (AU hr 16 (by decide)) (Ab (AU hr 16 (by decide)) (A1 2 (pv 2)) (AL (A2 (A1 1 (pv 1)) (A2 (A1 0 (pv 0)) A8)))) A5) (Ab (AU hr 16 (by decide)) (A1 3 (pv 3)) (A1 0 (pv 0)))))))) (λ _ _ _ _=>(AL (A2 (A1 1 (pv 1)) (A2 (A1 0 (pv 0)) A8)))))))))) (A6 (CM 2 (pv 2)))))),?_⟩;intro m rs A hm As hA;have e0:AF ["net","laid","kept","u","costs"] [Ap m rs,KL A]=[some (.val (Ap m rs)),some (.val (KL A)),none,none,none]:=rfl;rw[e0];refine (λ h:∃t,_/\∃K:List (Int×Int),t=.lst ((K.map pD).map .sh)/\K.Nodup/\∀p,p∈K↔KP rs A p=>by
  obtain⟨t,h1,K,rfl,h2⟩:=h;exact⟨K,h1,h2⟩) (KI ?_)
 have n0:AX (Ap m rs) (.int 0)=.ok (.int m):=rfl;have hr:Q4 (.int (m:Int))=.ok ((B2 m).map D.int):=by rw[E6 (by omega),Ue]
 have hl:((B2 m).map D.int).length<=1000:=by rw[zc,F4];omega
 apply wp_step
 ·rfl
 try simp only[zt,zo]
 refine BZ (I:=λ ρ=>∃(K:List (Int×Int)) (s3 s4:Option Cl),ρ=[some (.val (Ap m rs)),some (.val (KL A)),some (.own (K.map pD)),s3,s4]/\K.Nodup/\∀p,p∈K↔KP rs A p) ?_ ?_
 ·simp_arith[n0,hr];refine Bv (λ i ρ=>i<=m/\∃(K:List (Int×Int)) (s3 s4:Option Cl),ρ=[some (.val (Ap m rs)),some (.val (KL A)),some (.own (K.map pD)),s3,s4]/\K.Nodup/\∀p,p∈K↔(p.1<i/\KP rs A p)) ⟨zJ _,[],none,none,rfl,yM,λ p=>⟨(λ h=>by cases h),λ h=>by
   obtain⟨c,hc,_⟩:=h.2;have:=(hA.rg p (F6 hc)).2.1;omega⟩⟩ ?_ ?_
  ·rintro i d ρ hd ⟨hi,K,s3,s4,rfl,hn,hK⟩;obtain⟨u,hu,rfl⟩:=BG hd;have ah:i<m:=by have:=(zw.mp hu).1;rw[F4] at this;exact this
   have eu:u=(i:Int):=by
    unfold B2 at hu;rw[z7,List.getElem?_range ah] at hu;exact (zD hu).symm
   subst eu;obtain⟨cs,hR,hF⟩:=HL m i rs ah (by omega) As;refine⟨_,rfl,?_⟩;apply wp_step
   ·simp_arith[hF];rfl
   try simp only[zt,zo]
   obtain⟨W,hW⟩:∃W,W=(B2 m).filter λ w=>qX A cs i w:=⟨_,rfl⟩;have ul:∀w,w∈W↔KP rs A ((i:Int),w):=λ w=>by
    rw[hW,yI,Gw];constructor
    ·rintro ⟨hw,h⟩;exact (Zp hR As hw.1 hw.2).mp h
    ·intro h;obtain⟨c,hc,_⟩:=id h;have:=(hA.rg _ (F6 hc)).2.2;exact⟨this,(Zp hR As this.1 this.2).mpr h⟩
   have wZ:W.Nodup:=by rw[hW];exact (N5 m).filter _
   have aE:(K++W.map λ w=>((i:Int),w)).Nodup:=by
    rw[zA];refine⟨hn,List.pairwise_map.mpr (wZ.imp fun {a b} lr e=>lr (by cases e;rfl)),λ x hx y hy e=>?_⟩;subst e;obtain⟨w,_,rfl⟩:=z6.mp hy;have:=(hK _).mp hx;simp at this
   have um:∀p,p∈K++W.map (λ w=>((i:Int),w))↔(p.1<((i+1:Nat):Int)/\KP rs A p):=λ p=>by
    rw[zv,hK];constructor
    ·rintro (h|h)
     ·exact⟨by have:=h.1;omega,h.2⟩
     ·obtain⟨w,hw,rfl⟩:=z6.mp h;exact⟨by dsimp only;omega,(ul w).mp hw⟩
    ·rintro ⟨h1,h2⟩;by_cases e:p.1<(i:Int)
     ·exact .inl ⟨e,h2⟩
     ·have e2:p.1=(i:Int):=by omega
      obtain⟨p1,p2⟩:=p;dsimp only at e2;subst e2;exact .inr (z6.mpr ⟨p2,(ul p2).mpr h2,rfl⟩)
   have hlen:=mV hA hm aE λ p hp=>((um p).mp hp).2;have hb:(K.map pD).length+((W.map λ w=>((i:Int),w)).map pD).length<=1000:=by
    rw[zC] at hlen;rw[zc,zc];omega
   refine Bi (ρ':=[some (.val (Ap m rs)),some (.val (KL A)),some (.own ((K++W.map λ w=>((i:Int),w)).map pD)),some (.val (.int i)),some (.val (.lst (cs.map cst)))]) ?_ ⟨ah,_,_,_,rfl,aE,um⟩;have t1:∀a b:Int,D.tup [.int a,.int b]=pD (a,b):=λ a b=>rfl;simp_arith[n0,hr,if_pos hl];rw[D8 (λ w=>qX A cs i w) (λ w=>pD ((i:Int),w)) (λ w hw=>⟨_,rfl,by
    have uo:=Gw.mp hw;have x1:AX (.lst (cs.map cst)) (.int w)=.ok (cst (atC cs w)):=CN uo.1 (by rw[hR.1];exact uo.2);have df:=Qu A ((i:Int),w) false;unfold qX Al;cases q:AK A ((i:Int),w) with
    |none =>
     rw[q] at df;simp_arith[t1,df];rfl
    |some v =>
     rw[q] at df;have hit:=Qv q;have h0:AX (WS v) (.int 0)=.ok (cst (some v.1)):=rfl;have he:=fX (some v.1) (atC cs w);simp_arith[t1,df,hit,h0,x1,he];rfl,λ _=>by simp_arith[t1]⟩)]
   rw[<-hW];have ew:W.map (λ w=>pD ((i:Int),w))=(W.map λ w=>((i:Int),w)).map pD:=by rw[zH];rfl
   rw[ew];simp_arith[if_pos hb];rw[<-zG]
  ·rintro ρ ⟨_,K,s3,s4,rfl,hn,hK⟩;refine⟨K,s3,s4,rfl,hn,λ p=>(hK p).trans ⟨λ h=>h.2,λ h=>⟨?_,h⟩⟩⟩;obtain⟨c,hc,_⟩:=h;have:=(hA.rg p (F6 hc)).2.1;rw[zc,F4];omega
 ·rintro ρ ⟨K,s3,s4,rfl,hn,hK⟩;exact⟨_,rfl,K,rfl,hn,hK⟩
noncomputable def NH:List D->M OT:=zg FD
theorem QQ:Txt K mg->BM P w K mg base "kept_arcs" 3 2 NH:=(zb FD).1
theorem QR:∀(m:Nat) (rs:List Road) (A:LA),m<=20->(∀r∈rs,Hs m r)->F9 m A->∃K:List (Int×Int),NH [Ap m rs,KL A]=.ok (.lst ((K.map pD).map .sh))/\K.Nodup/\∀p,p∈K↔KP rs A p:=(zb FD).2
theorem Cy:∃F:OT->List D->M (OT×OT),(∀ {P w K mg base},Txt K mg->Pc P w K mg base "Ladder" 6 3 F)/\(∀(m:Nat) (rs:List Road) (o:D) (L:List Int),1<=m->m<=16->rs.length<=60->(∀r∈rs,Gy m r)->L.Perm (B2 m)->(o=.lst (L.map D.int)\/(o=.AA/\L=Ta m (By rs) (B2 m)))->∃(A:LA) (K:List (Int×Int)),CO m rs L A K/\∃t,F (.ins "Ladder" [] []) [Ap m rs,o]=.ok (t,.sh .AA)/\er t=Bb m rs L A K):=by
 refine⟨_,λ T=>YY (k:=5) T.JP Ir _ (λ f B5 A outer s H E hr=>(A3 (LW ["Ladder"] (Br T.BH C3) (BA 0 (pv 0)) (Ae (Aa A9.toXCall (Ut T) (hr.mono (by decide)) rfl (A2 (A1 1 (pv 1)) A8) rfl))) (A3 (LW ["Ladder"] (Br T.Cv C3) (BA 0 (pv 0)) (Ae (Eb (Aa A9.toXCall (Iz T) (hr.mono (by decide)) rfl (A2 (EK ["Ladder"] (Br T.BH C3) (A1 0 (pv 0))) (A2 (A1 2 (pv 2)) A8)) rfl)))) (A3 (LW ["Ladder"] (Br T.Di C3) (BA 0 (pv 0)) (Ae (Eb (Aa A9.toXCall (QO T) (hr.mono (by decide)) rfl (A2 (EK ["Ladder"] (Br T.BH C3) (A1 0 (pv 0))) (A2 (EK ["Ladder"] (Br T.Cv C3) (A1 0 (pv 0))) A8)) rfl)))) (A6 (LW ["Ladder"] (Br T.Ei C3) (BA 0 (pv 0)) (Ae (Eb (Aa A9.toXCall (QQ T) (hr.mono (by decide)) rfl (A2 (EK ["Ladder"] (Br T.BH C3) (A1 0 (pv 0))) (A2 (EK ["Ladder"] (Br T.Di C3) (A1 0 (pv 0))) A8)) rfl))))))))),?_⟩;intro m rs o L bM b8 ci du hL ho;have As:∀r∈rs,Hs m r/\r.a≠r.b:=λ r hr=>(du r hr).vG;have h1:=Uu m rs bM b8 ci du;have h2:Cc [Ap m rs,o]=.ok (.lst ((L.map D.int).map .sh)):=by
  rcases ho with rfl|⟨rfl,rfl⟩
  ·exact (En m rs (by omega) As).1 L hL
  ·exact (En m rs (by omega) As).2
 have h3:=QP m rs L (by omega) hL As;have hA:=(N8 hL As).1;obtain⟨K,h4,hn,hK⟩:=QR m rs (BW rs L) (by omega) (λ r hr=>(As r hr).1) hA;refine⟨BW rs L,K,⟨bM,b8,ci,As,hL,rfl,hn,hK⟩,.ins "Ladder" ["own_map","own_order","laid","kept_ones"] [.sh (Ap m rs),.sh (.lst (L.map D.int)),.sh (KL (BW rs L)),.sh (.lst (K.map pD))],?_,rfl⟩;have e0:CY ["self","net","order"] (.ins "Ladder" [] []) [Ap m rs,o]=[some (.ow (.tree (some 0) (.ins "Ladder" [] []))),some (.val (Ap m rs)),some (.val o)]:=rfl;rw[e0];refine Ud ?_;have e1:er (.tup [.sh (.int m),.lst ((rs.map Be).map .sh)])=Ap m rs:=by rw[gD,RU,Im];rfl
 have T:∀(ns:List Str) (ds:List D),er (.ins "Ladder" ns (ds.map .sh))=.ins "Ladder" ns ds:=λ ns ds=>by rw[er,Ii]
 have T1:=T ["own_map"] [Ap m rs];have T2:=T ["own_map","own_order"] [Ap m rs,.lst (L.map D.int)];have T3:=T ["own_map","own_order","laid"] [Ap m rs,.lst (L.map D.int),KL (BW rs L)];simp only[zf,zaf] at T1 T2 T3;have d1:=Zq L;have d2:=gO (BW rs L);have d3:=gN K;have f1:O9 ["Ladder"] "own_map" (.ins "Ladder" ["own_map"] [Ap m rs])=.ok (Ap m rs):=rfl;have f2:O9 ["Ladder"] "own_map" (.ins "Ladder" ["own_map","own_order"] [Ap m rs,.lst (L.map D.int)])=.ok (Ap m rs):=rfl;have f3:O9 ["Ladder"] "own_order" (.ins "Ladder" ["own_map","own_order"] [Ap m rs,.lst (L.map D.int)])=.ok (.lst (L.map D.int)):=rfl;have f4:O9 ["Ladder"] "own_map" (.ins "Ladder" ["own_map","own_order","laid"] [Ap m rs,.lst (L.map D.int),KL (BW rs L)])=.ok (Ap m rs):=rfl;have f5:O9 ["Ladder"] "laid" (.ins "Ladder" ["own_map","own_order","laid"] [Ap m rs,.lst (L.map D.int),KL (BW rs L)])=.ok (KL (BW rs L)):=rfl;refine wp_step (ρ':=[some (.ow (.tree (some 0) (.ins "Ladder" ["own_map"] [.sh (Ap m rs)]))),some (.val (Ap m rs)),some (.val o)]) (by simp_arith[h1,e1];rfl) ?_;refine wp_step (ρ':=[some (.ow (.tree (some 0) (.ins "Ladder" ["own_map","own_order"] [.sh (Ap m rs),.sh (.lst (L.map D.int))]))),some (.val (Ap m rs)),some (.val o)]) (by simp_arith[T1,f1,h2,d1];rfl) ?_;refine wp_step (ρ':=[some (.ow (.tree (some 0) (.ins "Ladder" ["own_map","own_order","laid"] [.sh (Ap m rs),.sh (.lst (L.map D.int)),.sh (KL (BW rs L))]))),some (.val (Ap m rs)),some (.val o)]) (by simp_arith[T2,f2,f3,h3,d2];rfl) ?_;refine Bi (ρ':=[some (.ow (.tree (some 0) (.ins "Ladder" ["own_map","own_order","laid","kept_ones"] [.sh (Ap m rs),.sh (.lst (L.map D.int)),.sh (KL (BW rs L)),.sh (.lst (K.map pD))]))),some (.val (Ap m rs)),some (.val o)]) (by simp_arith[T3,f4,f5,h4,d3];rfl) ⟨rfl,rfl⟩
noncomputable def BI:OT->List D->M (OT×OT):=zg Cy
theorem Cz:Txt K mg->Pc P w K mg base "Ladder" 6 3 BI:=(zb Cy).1
theorem CB:∀(m:Nat) (rs:List Road) (o:D) (L:List Int),1<=m->m<=16->rs.length<=60->(∀r∈rs,Gy m r)->L.Perm (B2 m)->(o=.lst (L.map D.int)\/(o=.AA/\L=Ta m (By rs) (B2 m)))->∃(A:LA) (K:List (Int×Int)),CO m rs L A K/\∃t,BI (.ins "Ladder" [] []) [Ap m rs,o]=.ok (t,.sh .AA)/\er t=Bb m rs L A K:=(zb Cy).2
theorem Eo:∃F:List D->M OT,(∀ {P w K mg base},Txt K mg->BM P w K mg base "_law_cell_at" 1 2 F)/\(∀(ns:List Int) (k:Nat),(∀n∈ns,Sm n)->∃v:Int,Sm v/\F [.lst (ns.map D.int),.int k]=.ok (.sh (.int v))):=by
 refine⟨_,λ T=>AD (k:=0) T.Oh Nl _ (λ f B5 A outer s H E hr=>(A3 (B8 (pX (c:=true) (A1 1 (pv 1)) (Cd rfl T.Dz (A1 0 (pv 0)))) (A6 (Aj (AO (Ab (AU hr 16 (by decide)) (A1 0 (pv 0)) (A1 1 (pv 1)))))) Ax) (A6 (Aj (AO A5))))),?_⟩;intro ns k aI;have e0:AF ["_law_script","_law_k"] [.lst (ns.map D.int),.int k]=[some (.val (.lst (ns.map D.int))),some (.val (.int k))]:=rfl;rw[e0];by_cases hk:(k:Int)<((ns.map D.int).length:Int)
 ·have up:=hk;rw[zc] at up;have i1:AX (.lst (ns.map D.int)) (.int k)=.ok (.int (ns[k]'(by omega))):=Jy (by omega) (by rw[yF];exact zi _);refine⟨ns[k]'(by omega),aI _ (List.getElem_mem _),Bj ?_⟩;simp_arith[decide_eq_true hk,i1];rfl
 ·refine⟨0,by unfold Sm;decide,Bj ?_⟩;simp_arith[decide_eq_false hk];rfl
noncomputable def CV:List D->M OT:=zg Eo
theorem C8:Txt K mg->BM P w K mg base "_law_cell_at" 1 2 CV:=(zb Eo).1
theorem Ep:∀(ns:List Int) (k:Nat),(∀n∈ns,Sm n)->∃v:Int,Sm v/\CV [.lst (ns.map D.int),.int k]=.ok (.sh (.int v)):=(zb Eo).2
theorem IA:∃F:List D->M OT,(∀ {P w K mg base},Txt K mg->BM P w K mg base "_law_mix" 1 2 F)/\(∀c k:Int,0<=k->k<=1000->∃v:Int,0<=v/\F [.int c,.int k]=.ok (.sh (.int v))):=by
 refine⟨_,λ T=>AD (k:=0) T.X4 Nm _ (λ f B5 A outer s H E hr=>(A3 (AV 2 Nm.nd rfl (zT rfl) (BD (BC (BC (BC (Fn (A1 0 (pv 0)) A5) (Fn (Fn (A1 1 (pv 1)) (A1 1 (pv 1))) A5)) (Fn A5 (A1 1 (pv 1)))) A5) A5)) (A6 (Aj (AO (BD (Fn (A1 2 (pv 2)) (A1 2 (pv 2))) A5)))))),?_⟩;intro c k h0 h1;have e0:AF ["_law_cell","_law_k","_law_number"] [.int c,.int k]=[some (.val (.int c)),some (.val (.int k)),none]:=rfl;rw[e0];have m1:HB (.int c) (.int 48271)=.ok (.int (c*48271)):=E8 (.inr (.inr (.inr (by decide))));have m2:HB (.int k) (.int k)=.ok (.int (k*k)):=E8 (.inr (.inr (.inr ⟨by omega,by omega⟩)));have m3:HB (.int (k*k)) (.int 69621)=.ok (.int (k*k*69621)):=E8 (.inr (.inr (.inr (by decide))));have m4:HB (.int 11) (.int k)=.ok (.int (11*k)):=E8 (.inr (.inr (.inr ⟨by omega,by omega⟩)));have q1:DB (.int (c*48271+k*k*69621+11*k+1)) (.int 2147483647)=.ok (.int ((c*48271+k*k*69621+11*k+1)%2147483647)):=AR (by decide);obtain⟨x,hx⟩:∃x,x=(c*48271+k*k*69621+11*k+1)%2147483647:=⟨_,rfl⟩;have x0:0<=x:=by omega
 have x1:x<2147483647:=by omega
 have m5:HB (.int x) (.int x)=.ok (.int (x*x)):=E8 (.inr (.inr (.inr ⟨by omega,by omega⟩)));have q2:DB (.int (x*x)) (.int 2147483629)=.ok (.int (x*x%2147483629)):=AR (by decide);refine⟨x*x%2147483629,zae _ (by decide),Bj ?_⟩;rw[<-hx] at q1;apply wp_step
 ·simp_arith[m1,m2,m3,m4,q1];rfl
 simp_arith[m5,q2];rfl
noncomputable def JT:List D->M OT:=zg IA
theorem De:Txt K mg->BM P w K mg base "_law_mix" 1 2 JT:=(zb IA).1
theorem Df:∀c k:Int,0<=k->k<=1000->∃v:Int,0<=v/\JT [.int c,.int k]=.ok (.sh (.int v)):=(zb IA).2
theorem FE:∃F:List D->M OT,(∀ {P w K mg base},Txt K mg->BM P w K mg base "_law_great" 1 2 F)/\(∀c k:Int,Sm c->0<=k->k<=100->∃v:Int,(0<=v/\v<NV)/\F [.int c,.int k]=.ok (.sh (.int v))):=by
 refine⟨_,λ T=>AD (k:=0) T.SD QB _ (λ f B5 A outer s H E hr=>(A6 (Aj (AO (BD (Fn (BC (BC (A1 0 (pv 0)) (Fn (A1 1 (pv 1)) (A1 1 (pv 1)))) A5) A5) (Y1 A5 A5)))))),?_⟩;intro c k hs h0 h1;have ht:=Ql;have e0:AF ["_law_cell","_law_k"] [.int c,.int k]=[some (.val (.int c)),some (.val (.int k))]:=rfl;rw[e0];have m2:HB (.int k) (.int k)=.ok (.int (k*k)):=E8 (.inr (.inr (.inr ⟨by omega,by omega⟩)));have hk:0<=k*k:=Int.mul_nonneg h0 h0;have up:k*k<=100*100:=Int.mul_le_mul h1 h1 h0 (by decide);have hb:PySem.Builtin.Int.intBits (c+(k*k+1))<=2^20+1:=Wf hs (by omega);have m3:HB (.int (c+(k*k+1))) (.int 5172390846617502938471650293846571029384756102938477)=.ok (.int ((c+(k*k+1))*5172390846617502938471650293846571029384756102938477)):=E8 (.inl ⟨hb,bits_le (by decide)⟩);rw[<-zav] at m3;refine⟨(c+k*k+1)*5172390846617502938471650293846571029384756102938477%NV,⟨zae _ (by omega),za6 _ (by omega)⟩,Bj ?_⟩;simp_arith[m2,m3,iV,gC];rfl
noncomputable def NI:List D->M OT:=zg FE
theorem QS:Txt K mg->BM P w K mg base "_law_great" 1 2 NI:=(zb FE).1
theorem QT:∀c k:Int,Sm c->0<=k->k<=100->∃v:Int,(0<=v/\v<NV)/\NI [.int c,.int k]=.ok (.sh (.int v)):=(zb FE).2
theorem FF:∃F:List D->M OT,(∀ {P w K mg base},Txt K mg->BM P w K mg base "_law_whole" 1 1 F)/\(∀i:Int,F [.int i]=.ok (.sh (.bl true))):=by
 refine⟨_,λ T=>AD (k:=0) T.SE QC _ (λ f B5 A outer s H E hr=>(A6 (Aj (AO (Mv (E5 (RF _) rfl T.AZ rfl T.ZH (by decide +kernel) (A1 0 (pv 0))) (Ka (Y4 (E5 (OL _) rfl T.AZ rfl T.ZG (by decide +kernel) (A1 0 (pv 0)))))))))),?_⟩;intro i;rfl
noncomputable def NJ:List D->M OT:=zg FF
theorem JU:Txt K mg->BM P w K mg base "_law_whole" 1 1 NJ:=(zb FF).1
theorem JV:∀i:Int,NJ [.int i]=.ok (.sh (.bl true)):=(zb FF).2
theorem Er:∃F:List D->M OT,(∀ {P w K mg base},Txt K mg->BM P w K mg base "_law_is_cost" 2 1 F)/\(∀a b:Int,F [.tup [.int a,.int b]]=.ok (.sh (.bl true))):=by
 refine⟨_,λ T=>AD (k:=1) T.Oi Nn _ (λ f B5 A outer s H E hr=>(A3 (B8 (DW.dt (Dw (BY (BF (c:=true) (E5 (I9 _) rfl T.AZ rfl T.M6 (by decide +kernel) (A1 0 (pv 0))))) (Cr (FT (c:=true) (AU hr 16 (by decide)) (Cd rfl T.Dz (A1 0 (pv 0))) A5)))) (A6 (Aj (AO Cj))) Ax) (A6 (Aj (AO (Mv (Ae (Aa A9.toXCall (JU T) (hr.mono (by decide)) rfl (A2 (Ab (AU hr 16 (by decide)) (A1 0 (pv 0)) A5) A8) rfl)) (Ka (Ae (Aa A9.toXCall (JU T) (hr.mono (by decide)) rfl (A2 (Ab (AU hr 16 (by decide)) (A1 0 (pv 0)) A5) A8) rfl))))))))),?_⟩;intro a b;have e0:AF ["_law_found"] [.tup [.int a,.int b]]=[some (.val (.tup [.int a,.int b]))]:=rfl;rw[e0];refine Bj ?_;have h1:=JV a;have h2:=JV b;have i0:AX (.tup [.int a,.int b]) (.int 0)=.ok (.int a):=rfl;have i1:AX (.tup [.int a,.int b]) (.int 1)=.ok (.int b):=rfl;apply wp_step
 ·rfl
 simp_arith[i0,i1,h1,h2,Fp];rfl
noncomputable def FG:List D->M OT:=zg Er
theorem NK:Txt K mg->BM P w K mg base "_law_is_cost" 2 1 FG:=(zb Er).1
theorem NL:∀a b:Int,FG [.tup [.int a,.int b]]=.ok (.sh (.bl true)):=(zb Er).2
theorem Dg:∃F:List D->M OT,(∀ {P w K mg base},Txt K mg->BM P w K mg base "_law_are_costs" 3 2 F)/\(∀(cs:List Co) (m:Nat),cs.length=m->m<=1000->F [.lst (cs.map cst),.int m]=.ok (.sh (.bl true))):=by
 refine⟨_,λ T=>AD (k:=2) T.Ll Ks _ (λ f B5 A outer s H E hr=>(A3 (B8 (DW.dt (Dw (BY (BF (c:=true) (E5 (GQ _) rfl T.AZ rfl T.Cu (by decide +kernel) (A1 0 (pv 0))))) (Cr (FT (c:=true) (AU hr 16 (by decide)) (Cd rfl T.Dz (A1 0 (pv 0))) (A1 1 (pv 1)))))) (A6 (Aj (AO Cj))) Ax) (A6 (Aj (AO (TR rfl rfl T.ZF (Ae (BB (NB:=["_law_cost"]) [none] rfl (AI (A1 0 (pv 0))) rfl rfl (AY 0 (by decide) rfl rfl rfl) (λ _ _ _ _=>BP) (λ _ _ _ _=>(iH (Y3 (A1 0 (pv 0))) (Ka (Ae (Bn (Aa (AW rfl).toXCall (NK T) (hr.mono (by decide)) rfl (A2 (A1 0 (pv 0)) A8) rfl)))))))))))))),?_⟩;intro cs m hm hl;have e0:AF ["_law_found","_law_many"] [.lst (cs.map cst),.int m]=[some (.val (.lst (cs.map cst))),some (.val (.int m))]:=rfl;rw[e0];refine Bj ?_;have a6:(cs.map cst).length<=1000:=by rw[zc];omega
 have xa:((cs.map cst).length:Int)=(m:Int):=by rw[zc,hm]
 apply wp_step
 ·simp_arith[xa,decide_true];rfl
 simp_arith[if_pos a6];rw[B6 (λ _=>D.bl true) (λ c hc=>⟨_,rfl,rfl,by
  cases c with
  |none=>rfl
  |some p =>
   have h1:FG [cst (some p)]=.ok (.sh (.bl true)):=NL p.1 p.2;have ce:D6 (cst (some p))=false:=rfl;simp_arith[ce,h1,Fp];try rfl⟩)]
 have e1:(cs.map λ _=>D.bl true)=(cs.map λ _=>true).map D.bl:=by rw[zH];rfl
 have e2:(cs.map λ _=>true).all id=true:=by rw[List.all_eq_true];intro x hx;obtain⟨_,_,rfl⟩:=z6.mp hx;rfl
 simp_arith[e1,e2];rfl
noncomputable def Es:List D->M OT:=zg Dg
theorem Ky:Txt K mg->BM P w K mg base "_law_are_costs" 3 2 Es:=(zb Dg).1
theorem Kz:∀(cs:List Co) (m:Nat),cs.length=m->m<=1000->Es [.lst (cs.map cst),.int m]=.ok (.sh (.bl true)):=(zb Dg).2
theorem FH:∃F:List D->M OT,(∀ {P w K mg base},Txt K mg->BM P w K mg base "_law_roads" 2 2 F)/\(∀(cells:List Int) (m:Nat),1<=m->m<=16->cells.length<=60->(∀c∈cells,Sm c)->∃rs:List Road,rs.length<=cells.length/\(∀r∈rs,Gy m r)/\F [.lst (cells.map D.int),.int m]=.ok (.lst ((rs.map Be).map .sh))):=by
 refine⟨_,λ T=>AD (k:=1) T.SF Bf _ (λ f B5 A outer s H E hr=>(A3 (BQ 2 Bf.nd rfl (zT rfl) (Kf Fo)) (A3 (Bu A9.toXCall.own rfl (BE (c:=true) rfl T.Cb (Cd rfl T.Dz (A1 0 (pv 0)))) (AS 3 Bf.nd rfl (zT rfl)) (A3 (AV 4 Bf.nd rfl (zT rfl) (Ae (Aa A9.toXCall (De T) (hr.mono (by decide)) rfl (A2 (Ab (AU hr 16 (by decide)) (A1 0 (pv 0)) (A1 3 (pv 3))) (A2 (A1 3 (pv 3)) A8)) rfl))) (A3 (AV 5 Bf.nd rfl (zT rfl) (Ae (Aa A9.toXCall (QS T) (hr.mono (by decide)) rfl (A2 (Ab (AU hr 16 (by decide)) (A1 0 (pv 0)) (A1 3 (pv 3))) (A2 (A1 3 (pv 3)) A8)) rfl))) (A6 (B8 (Ie (DW.dt (Mu (UR (c:=true) (A1 1 (pv 1)) A5) (Mu (UR (c:=true) (Cd rfl T.Dz (A1 2 (pv 2))) A5) (Lw (OJ (c:=true) (AU hr 16 (by decide)) (BD (A1 4 (pv 4)) A5) A5)))))) (A6 (GS 2 (pv 2) (UZ (Ys (c:=true) (Ab (AU hr 16 (by decide)) (A1 2 (pv 2)) (BD (Fj (A1 4 (pv 4)) A5) (Cd rfl T.Dz (A1 2 (pv 2))))))))) (A6 (B8 (UR (c:=true) (A1 1 (pv 1)) A5) (A3 (AV 6 Bf.nd rfl (zT rfl) (BD (Fj (A1 4 (pv 4)) A5) (A1 1 (pv 1)))) (A3 (AV 7 Bf.nd rfl (zT rfl) (BD (BC (BC (A1 6 (pv 6)) A5) (BD (Fj (A1 4 (pv 4)) A5) (lA (A1 1 (pv 1)) A5))) (A1 1 (pv 1)))) (A3 (AV 8 Bf.nd rfl (zT rfl) (Fj (A1 4 (pv 4)) A5)) (A3 (AV 9 Bf.nd rfl (zT rfl) (Ab (AU hr 16 (by decide)) (EH (A2 D5 (A2 A5 (A2 A5 (A2 A5 (A2 (BD (A1 8 (pv 8)) A5) (A2 (BD (A1 8 (pv 8)) A5) (A2 (A1 5 (pv 5)) (A2 (A1 5 (pv 5)) A8))))))))) (BD (Fj (A1 4 (pv 4)) A5) A5))) (A6 (GS 2 (pv 2) (AL (A2 (A1 6 (pv 6)) (A2 (A1 7 (pv 7)) (A2 (A1 9 (pv 9)) (A2 (Ab (AU hr 16 (by decide)) (EH (A2 (BD (A1 8 (pv 8)) A5) (A2 (A1 5 (pv 5)) A8))) (BD (A1 4 (pv 4)) A5)) A8))))))))))) Ax))))))) (A6 (CM 2 (pv 2)))))),?_⟩;intro cells m bM b8 hl aI;have ht:=Ql;have e0:AF ["_law_cells","_law_many","_law_roads_here","_law_k","_law_mixed","_law_great_here","_law_one","_law_other","_law_small","_law_length"] [.lst (cells.map D.int),.int m]=[some (.val (.lst (cells.map D.int))),some (.val (.int m)),none,none,none,none,none,none,none,none]:=rfl;rw[e0];refine (λ h:∃t,_/\∃rs:List Road,t=.lst ((rs.map Be).map .sh)/\rs.length<=cells.length/\(∀r∈rs,Gy m r)=>by
  obtain⟨t,h1,rs,rfl,h2,h3⟩:=h;exact⟨rs,h2,h3,h1⟩) (KI ?_)
 have hr:Q4 (.int ((cells.map D.int).length:Int))=.ok (BN 0 cells.length):=by rw[zc];exact E6 (by omega)
 apply wp_step
 ·rfl
 try simp only[zt,zo]
 refine BZ (I:=λ ρ=>∃(rs:List Road) (s3 s4 s5 s6 s7 s8 s9:Option Cl),ρ=[some (.val (.lst (cells.map D.int))),some (.val (.int m)),some (.own (rs.map Be)),s3,s4,s5,s6,s7,s8,s9]/\rs.length<=cells.length/\∀r∈rs,Gy m r) ?_ ?_
 ·simp_arith[hr];refine Bv (λ i ρ=>i<=60/\∃(rs:List Road) (s3 s4 s5 s6 s7 s8 s9:Option Cl),ρ=[some (.val (.lst (cells.map D.int))),some (.val (.int m)),some (.own (rs.map Be)),s3,s4,s5,s6,s7,s8,s9]/\rs.length<=i/\∀r∈rs,Gy m r) ⟨by omega,[],none,none,none,none,none,none,none,rfl,by simp,λ r hr=>by cases hr⟩ ?_ ?_
  ·rintro i d ρ hd ⟨_,rs,s3,s4,s5,s6,s7,s8,s9,rfl,ci,As⟩;obtain⟨aH,hi⟩:=BO hd;rw[Int.zero_add] at aH;subst aH;have hq:cells[i]?=some cells[i]:=zi hi;have ag:=aI _ (List.getElem_mem hi);have x1:AX (.lst (cells.map D.int)) (.int (i:Int))=.ok (.int cells[i]):=Jy (by omega) (by rw[yF];exact hq);obtain⟨v,v0,hv⟩:=Df cells[i] i (by omega) (by omega);obtain⟨g,g0,hg⟩:=QT cells[i] i ag (by omega) (by omega);have cj:(rs.map Be).length<1000:=by rw[zc];omega
   refine⟨_,rfl,?_⟩;apply wp_step
   ·simp_arith[x1,hv];rfl
   try simp only[zt,zo]
   apply wp_step
   ·simp_arith[x1,hg];rfl
   try simp only[zt,zo]
   have d7:IL (.int v) (.int 7)=.ok (.int (v / 7)):=DL ⟨by decide,by decide⟩;have q7:DB (.int v) (.int 7)=.ok (.int (v%7)):=AR (by decide);by_cases hm:(1:Int)<(m:Int)
   ·have jn:(0:Int)<(m:Int):=by omega
    have jo:(0:Int)<(m:Int)-1:=by omega
    by_cases hz:(0:Int)<((rs.map Be).length:Int)/\v%7=3
    ·have hlen:0<(rs.map Be).length:=by omega
     obtain⟨p1,y,hy,p2⟩:=Zc hlen (show 0<=v / 7 by omega);obtain⟨r,bi,rfl⟩:=z6.mp hy;refine Bi (ρ':=[some (.val (.lst (cells.map D.int))),some (.val (.int m)),some (.own ((rs++[r]).map Be)),some (.val (.int i)),some (.val (.int v)),some (.val (.int g)),s6,s7,s8,s9]) ?_ ⟨by omega,rs++[r],_,_,_,_,_,_,_,rfl,by simp;omega,λ r2 jp=>by
      rcases zv.mp jp with h|h
      ·exact As r2 h
      ·rw[zh.mp h];exact As r bi⟩
     simp_arith[decide_eq_true hm,decide_eq_true hz.1,q7,decide_eq_true hz.2,d7,p1,p2,if_pos cj,if_true];rw[zG];rfl
    ·obtain⟨o,ho⟩:∃o,o=v / 7%(m:Int):=⟨_,rfl⟩;obtain⟨o',bm⟩:∃o',o'=(o+1+v / 112%((m:Int)-1))%(m:Int):=⟨_,rfl⟩;have o0:0<=o:=by rw[ho];exact zae _ (by omega)
     have o1:o<m:=by rw[ho];exact za6 _ jn
     have p0:0<=o':=by rw[bm];exact zae _ (by omega)
     have p1:o'<m:=by rw[bm];exact za6 _ jn
     have s0:0<=v / 112%((m:Int)-1):=zae _ (by omega);have s1:v / 112%((m:Int)-1)<(m:Int)-1:=za6 _ jo;have lr:o≠o':=by
      have:=lU (a:=o) (s:=1+v / 112%((m:Int)-1)) (m:=m) o0 o1 (by omega) (by omega);rw[bm,zav];exact λ z=>this z.symm
     have jq:IL (.int v) (.int 112)=.ok (.int (v / 112)):=DL ⟨by decide,by decide⟩;have dL:IL (.int v) (.int 8064)=.ok (.int (v / 8064)):=DL ⟨by decide,by decide⟩;have ee:IL (.int v) (.int 1008)=.ok (.int (v / 1008)):=DL ⟨by decide,by decide⟩;have q1:DB (.int (v / 7)) (.int (m:Int))=.ok (.int o):=by rw[ho];exact AR jn
     have q2:DB (.int (v / 112)) (.int ((m:Int)-1))=.ok (.int (v / 112%((m:Int)-1))):=AR jo;have q3:DB (.int (o+1+v / 112%((m:Int)-1))) (.int (m:Int))=.ok (.int o'):=by rw[bm];exact AR jn
     have q4:DB (.int (v / 8064)) (.int 3)=.ok (.int (v / 8064%3)):=AR (by decide);have q5:DB (.int (v / 8064)) (.int 100)=.ok (.int (v / 8064%100)):=AR (by decide);have q6:DB (.int (v / 1008)) (.int 8)=.ok (.int (v / 1008%8)):=AR (by decide);have q8:DB (.int (v / 8064)) (.int 5)=.ok (.int (v / 8064%5)):=AR (by decide);have q9:DB (.int v) (.int 2)=.ok (.int (v%2)):=AR (by decide);obtain⟨l,au,l0⟩:=mX (a:=v / 8064%3) (b:=v / 8064%100) (g:=g) (i:=v / 1008%8) (by omega) (by omega) g0 (by omega) (by omega);obtain⟨w,uq,w0⟩:=mY (a:=v / 8064%5) (b:=g) (i:=v%2) (by omega) g0 (by omega) (by omega);have ur:D.tup [.int o,.int o',G3 l,.int w]=Be ⟨o,o',l,w⟩:=rfl;rcases Classical.em ((0:Int)<((rs.map Be).length:Int)) with bf|bf
     ·have i8:¬ v%7=3:=λ z=>hz ⟨bf,z⟩;simp_arith[decide_eq_true hm,decide_eq_true bf,q7,decide_eq_false i8,z8,if_false,if_true];apply wp_step
      ·simp_arith[d7,q1];rfl
      apply wp_step
      ·simp_arith[jq,q2,q3];rfl
      apply wp_step
      ·simp_arith[dL];rfl
      apply wp_step
      ·simp_arith[q4,q5,ee,q6,au];rfl
      refine Bi (ρ':=[some (.val (.lst (cells.map D.int))),some (.val (.int m)),some (.own ((rs++[(⟨o,o',l,w⟩:Road)]).map Be)),some (.val (.int i)),some (.val (.int v)),some (.val (.int g)),some (.val (.int o)),some (.val (.int o')),some (.val (.int (v / 8064))),some (.val (G3 l))]) (by simp_arith[q8,q9,uq,ur,if_pos cj,zG,zf,zaf]) ⟨by omega,_,_,_,_,_,_,_,_,rfl,by simp;omega,λ r2 jp=>by
       rcases zv.mp jp with h|h
       ·exact As r2 h
       ·rw[zh.mp h];exact⟨o0,o1,p0,p1,lr,l0,w0.1,w0.2⟩⟩
     ·simp_arith[decide_eq_true hm,decide_eq_false bf,z8,if_false,if_true];apply wp_step
      ·simp_arith[d7,q1];rfl
      apply wp_step
      ·simp_arith[jq,q2,q3];rfl
      apply wp_step
      ·simp_arith[dL];rfl
      apply wp_step
      ·simp_arith[q4,q5,ee,q6,au];rfl
      refine Bi (ρ':=[some (.val (.lst (cells.map D.int))),some (.val (.int m)),some (.own ((rs++[(⟨o,o',l,w⟩:Road)]).map Be)),some (.val (.int i)),some (.val (.int v)),some (.val (.int g)),some (.val (.int o)),some (.val (.int o')),some (.val (.int (v / 8064))),some (.val (G3 l))]) (by simp_arith[q8,q9,uq,ur,if_pos cj,zG,zf,zaf]) ⟨by omega,_,_,_,_,_,_,_,_,rfl,by simp;omega,λ r2 jp=>by
       rcases zv.mp jp with h|h
       ·exact As r2 h
       ·rw[zh.mp h];exact⟨o0,o1,p0,p1,lr,l0,w0.1,w0.2⟩⟩
   ·refine Bi (ρ':=_) (by simp_arith[decide_eq_false hm];rfl) ⟨by omega,rs,_,_,_,_,_,_,_,rfl,by omega,As⟩
  ·rintro ρ ⟨_,rs,s3,s4,s5,s6,s7,s8,s9,rfl,ci,As⟩;rw[Bh] at ci;exact⟨rs,s3,s4,s5,s6,s7,s8,s9,rfl,ci,As⟩
 ·rintro ρ ⟨rs,s3,s4,s5,s6,s7,s8,s9,rfl,ci,As⟩;exact⟨_,rfl,rs,rfl,ci,As⟩
noncomputable def NM:List D->M OT:=zg FH
theorem QU:Txt K mg->BM P w K mg base "_law_roads" 2 2 NM:=(zb FH).1
theorem QV:∀(cells:List Int) (m:Nat),1<=m->m<=16->cells.length<=60->(∀c∈cells,Sm c)->∃rs:List Road,rs.length<=cells.length/\(∀r∈rs,Gy m r)/\NM [.lst (cells.map D.int),.int m]=.ok (.lst ((rs.map Be).map .sh)):=(zb FH).2
theorem FI:∃F:List D->M OT,(∀ {P w K mg base},Txt K mg->BM P w K mg base "_law_order" 2 2 F)/\(∀(c:Int) (m:Nat),m<=60->∃L:List Int,L.Perm (B2 m)/\F [.int c,.int m]=.ok (.lst ((L.map D.int).map .sh))):=by
 refine⟨_,λ T=>AD (k:=1) T.SG Fv _ (λ f B5 A outer s H E hr=>(A3 (BQ 2 Fv.nd rfl (zT rfl) (Kf Fo)) (A3 (Bu A9.toXCall.own rfl (BE (c:=true) rfl T.Cb (A1 1 (pv 1))) (AS 3 Fv.nd rfl (zT rfl)) (A6 (Wi 2 (pv 2) (BD (Ae (Aa A9.toXCall (De T) (hr.mono (by decide)) rfl (A2 (A1 0 (pv 0)) (A2 (BC A5 (A1 3 (pv 3))) A8)) rfl)) (BC (A1 3 (pv 3)) A5)) (A1 3 (pv 3))))) (A6 (CM 2 (pv 2)))))),?_⟩;intro c m hm;have e0:AF ["_law_cell","_law_many","_law_order_here","_law_place"] [.int c,.int m]=[some (.val (.int c)),some (.val (.int m)),none,none]:=rfl;rw[e0];refine (λ h:∃t,_/\∃L:List Int,t=OT.lst ((L.map D.int).map .sh)/\L.Perm (B2 m)=>by
  obtain⟨t,h1,L,rfl,h2⟩:=h;exact⟨L,h2,h1⟩) (KI ?_)
 have hr:=E6 (n:=m) (by omega);apply wp_step
 ·rfl
 try simp only[zt,zo]
 refine BZ (I:=λ ρ=>∃(L:List Int) (s3:Option Cl),ρ=[some (.val (.int c)),some (.val (.int m)),some (.own (L.map D.int)),s3]/\L.Perm (B2 m)) ?_ ?_
 ·simp_arith[hr];refine Bv (λ i ρ=>i<=m/\∃(L:List Int) (s3:Option Cl),ρ=[some (.val (.int c)),some (.val (.int m)),some (.own (L.map D.int)),s3]/\L.Perm (B2 i)) ⟨zJ _,[],none,rfl,.refl _⟩ ?_ ?_
  ·rintro i d ρ hd ⟨_,L,s3,rfl,hL⟩;obtain⟨aH,hi⟩:=BO hd;rw[Int.zero_add] at aH;subst aH;have hlen:=JB hL;refine⟨_,rfl,?_⟩;obtain⟨v,v0,hv⟩:=Df c (40+i) (by omega) (by omega);have bM:DB (.int v) (.int ((i:Int)+1))=.ok (.int (v%((i:Int)+1))):=AR (by omega);have b0:0<=v%((i:Int)+1):=zae _ (by omega);have b1:v%((i:Int)+1)<(i:Int)+1:=za6 _ (by omega);refine Bi (ρ':=[some (.val (.int c)),some (.val (.int m)),some (.own ((L.take (v%((i:Int)+1)).toNat++(i:Int)::L.drop (v%((i:Int)+1)).toNat).map D.int)),some (.val (.int i))]) ?_ ⟨by omega,_,_,rfl,WN hL _⟩;simp_arith[hv,bM];rw[if_pos ⟨b0,by rw[zc];omega,by rw[zc];omega⟩];simp only[zG,zf,List.map_take,List.map_drop];rfl
  ·rintro ρ ⟨_,L,s3,rfl,hL⟩;exact⟨L,s3,rfl,by rw[Bh] at hL;exact hL⟩
 ·rintro ρ ⟨L,s3,rfl,hL⟩;exact⟨_,rfl,L,rfl,hL⟩
noncomputable def NO:List D->M OT:=zg FI
theorem QW:Txt K mg->BM P w K mg base "_law_order" 2 2 NO:=(zb FI).1
theorem QX:∀(c:Int) (m:Nat),m<=60->∃L:List Int,L.Perm (B2 m)/\NO [.int c,.int m]=.ok (.lst ((L.map D.int).map .sh)):=(zb FI).2
theorem FJ:∃F:List D->M OT,(∀ {P w K mg base},Txt K mg->BM P w K mg base "_law_added" 1 2 F)/\(∀a b:Co,F [cst a,cst b]=.ok (.sh (cst (Aq a b)))):=by
 refine⟨_,λ T=>AD (k:=0) T.SH QD _ (λ f B5 A outer s H E hr=>(A3 (B8 (DW.dt (Dw (I0 (c:=true) (A1 0 (pv 0))) (Cr (I0 (c:=true) (A1 1 (pv 1)))))) (A6 (Aj (AO D5))) Ax) (A6 (Aj (AO (AL (A2 (BC (Ab (AU hr 16 (by decide)) (A1 0 (pv 0)) A5) (Ab (AU hr 16 (by decide)) (A1 1 (pv 1)) A5)) (A2 (BC (Ab (AU hr 16 (by decide)) (A1 0 (pv 0)) A5) (Ab (AU hr 16 (by decide)) (A1 1 (pv 1)) A5)) A8)))))))),?_⟩;intro a b;rcases a with _|⟨a1,a2⟩<;>rcases b with _|⟨b1,b2⟩<;>rfl
noncomputable def NP:List D->M OT:=zg FJ
theorem QY:Txt K mg->BM P w K mg base "_law_added" 1 2 NP:=(zb FJ).1
theorem QZ:∀a b:Co,NP [cst a,cst b]=.ok (.sh (cst (Aq a b))):=(zb FJ).2
theorem FK:∃F:List D->M OT,(∀ {P w K mg base},Txt K mg->BM P w K mg base "_law_least" 1 1 F)/\(∀cs:List Co,cs.length<=1000->F [.lst (cs.map cst)]=.ok (.sh (cst (Fu cs)))):=by
 refine⟨_,λ T=>AD (k:=0) T.SI QE _ (λ f B5 A outer s H E hr=>(A6 (Aj (AO (UW rfl (AU hr 1 (by decide)) rfl T.ZI (Ae (BB (NB:=["_law_cost"]) [none] rfl (AI (A1 0 (pv 0))) rfl rfl (AY 0 (by decide) rfl rfl rfl) (λ _ _ _ _=>GW (Lu (c:=true) (A1 0 (pv 0)))) (λ _ _ _ _=>(A1 0 (pv 0))))) D5))))),?_⟩;intro cs hc;have e0:∀x:D,AF ["_law_some"] [x]=[some (.val x)]:=λ x=>rfl;rw[e0];refine Bj ?_;have hl:(cs.map cst).length<=1000:=by rw[zc];exact hc
 have wK:=S5 cs;have qi:=Vq cs;simp_arith[if_pos hl];rw[Gs];simp_arith[qi];rfl
noncomputable def FL:List D->M OT:=zg FK
theorem JW:Txt K mg->BM P w K mg base "_law_least" 1 1 FL:=(zb FK).1
theorem JX:∀cs:List Co,cs.length<=1000->FL [.lst (cs.map cst)]=.ok (.sh (cst (Fu cs))):=(zb FK).2
theorem GO:∃F:List D->M OT,(∀ {P w K mg base},Txt K mg->BM P w K mg base "_law_open" 1 1 F)/\(∀r:Road,F [Be r]=.ok (.sh (cst (C7 r)))):=by
 refine⟨_,λ T=>AD (k:=0) T.Up Sw _ (λ f B5 A outer s H E hr=>(A3 (B8 (I0 (c:=true) (Ab (AU hr 16 (by decide)) (A1 0 (pv 0)) A5)) (A6 (Aj (AO D5))) Ax) (A6 (Aj (AO (AL (A2 (Ab (AU hr 16 (by decide)) (A1 0 (pv 0)) A5) (A2 A5 A8)))))))),?_⟩;intro r;obtain⟨a,b,l,w⟩:=r;cases l<;>rfl
noncomputable def Px:List D->M OT:=zg GO
theorem T5:Txt K mg->BM P w K mg base "_law_open" 1 1 Px:=(zb GO).1
theorem T6:∀r:Road,Px [Be r]=.ok (.sh (cst (C7 r))):=(zb GO).2
theorem FN:∃F:List D->M OT,(∀ {P w K mg base},Txt K mg->BM P w K mg base "_law_costs" 2 2 F)/\(∀(m:Nat) (rs:List Road),m<=900->rs.length<=900->(∀r∈rs,Hs m r)->∃ac:List (List Co),M2 m ac/\(∀x y:Int,0<=x->x<m->0<=y->y<m->Cm rs x y (at2 ac x y))/\∃t,F [.lst (rs.map Be),.int m]=.ok t/\er t=.lst ((Ar ac).map D.lst)):=by
 refine⟨_,λ T=>AD (k:=1) T.SJ Bs _ (λ f B5 A outer s H E hr=>(A3 (dY 2 Bs.nd rfl (zT rfl)) (A3 (Bu A9.toXCall.own rfl (BE (c:=true) rfl T.Cb (A1 1 (pv 1))) (AS 3 Bs.nd rfl (zT rfl)) (A3 (BQ 5 Bs.nd rfl (zT rfl) (U3 D5 (A1 1 (pv 1)))) (A3 (MB 5 (pv 5) (AL (A2 A5 (A2 A5 A8))) (A1 3 (pv 3))) (A3 (Bu A9.toXCall.own rfl (AI (A1 0 (pv 0))) (AS 6 Bs.nd rfl (zT rfl)) (A6 (B8 (OJ (c:=true) (AU hr 16 (by decide)) (Ab (AU hr 16 (by decide)) (A1 6 (pv 6)) A5) (A1 3 (pv 3))) (A6 (MB 5 (pv 5) (Ae (Eb (Aa A9.toXCall (JW T) (hr.mono (by decide)) rfl (A2 (EH (A2 (Ab (AU hr 16 (by decide)) (A1 5 (pv 5)) (Ab (AU hr 16 (by decide)) (A1 6 (pv 6)) A5)) (A2 (Ae (Aa A9.toXCall (T5 T) (hr.mono (by decide)) rfl (A2 (A1 6 (pv 6)) A8) rfl)) A8))) A8) rfl))) (Ab (AU hr 16 (by decide)) (A1 6 (pv 6)) A5))) Ax))) (A6 (dZ 2 5 (pv 2) (pv 5))))))) (A3 (Bu A9.toXCall.own rfl (BE (c:=true) rfl T.Cb (A1 1 (pv 1))) (AS 4 Bs.nd rfl (zT rfl)) (A6 (Bu A9.toXCall.own rfl (BE (c:=true) rfl T.Cb (A1 1 (pv 1))) (AS 3 Bs.nd rfl (zT rfl)) (A6 (Bu A9.toXCall.own rfl (BE (c:=true) rfl T.Cb (A1 1 (pv 1))) (AS 7 Bs.nd rfl (zT rfl)) (A6 (eE 2 (pv 2) (Ae (Aa A9.toXCall (JW T) (hr.mono (by decide)) rfl (A2 (EH (A2 (TU 2 (pv 2) (A1 3 (pv 3)) (A1 7 (pv 7))) (A2 (Ae (Aa A9.toXCall (QY T) (hr.mono (by decide)) rfl (A2 (TU 2 (pv 2) (A1 3 (pv 3)) (A1 4 (pv 4))) (A2 (TU 2 (pv 2) (A1 4 (pv 4)) (A1 7 (pv 7))) A8)) rfl)) A8))) A8) rfl)) (A1 3 (pv 3)) (A1 7 (pv 7))))))))) (A6 (CM 2 (pv 2))))))),?_⟩;intro m rs hm ci As;have e0:AF ["_law_roads_here","_law_many","_law_costs_here","_law_u","_law_v","_law_row","_law_road","_law_w"] [.lst (rs.map Be),.int m]=[some (.val (.lst (rs.map Be))),some (.val (.int m)),none,none,none,none,none,none]:=rfl;rw[e0];refine (λ h:∃t,_/\∃ac:List (List Co),M2 m ac/\(∀x y:Int,0<=x->x<m->0<=y->y<m->Cm rs x y (at2 ac x y))/\er t=.lst ((Ar ac).map D.lst)=>by
  obtain⟨t,h1,ac,h2,h3,h4⟩:=h;exact⟨ac,h2,h3,t,h1,h4⟩) (KI ?_)
 have di:=E6 (n:=m) (by omega);refine wp_step (ρ':=[some (.val (.lst (rs.map Be))),some (.val (.int m)),some (.ow (.rows [])),none,none,none,none,none]) rfl ?_;refine BZ (I:=λ ρ=>∃(ac:List (List Co)) (s3 s5 s6:Option Cl),ρ=[some (.val (.lst (rs.map Be))),some (.val (.int m)),some (.ow (.rows (Ar ac))),s3,none,s5,s6,none]/\ac.length=m/\∀u:Nat,u<m->N3 m rs u rs.length (ac.getD u [])) ?_ ?_
 ·simp_arith[di];refine Bv (λ i ρ=>∃(ac:List (List Co)) (s3 s5 s6:Option Cl),ρ=[some (.val (.lst (rs.map Be))),some (.val (.int m)),some (.ow (.rows (Ar ac))),s3,none,s5,s6,none]/\ac.length=i/\∀u:Nat,u<i->N3 m rs u rs.length (ac.getD u [])) ⟨[],none,none,none,rfl,rfl,λ u h=>by omega⟩ ?_ ?_
  ·rintro i d ρ hd ⟨ac,s3,s5,s6,rfl,bB,bd⟩;obtain⟨aH,hi⟩:=BO hd;rw[Int.zero_add] at aH;subst aH;refine⟨_,rfl,?_⟩;have bj:=MU (d:=.AA) (n:=m) (by omega);have cg:zu m D.AA=(zu m (none:Co)).map cst:=by rw[List.map_replicate];rfl
   rw[cg] at bj;apply wp_step
   ·simp_arith[bj];rfl
   try simp only[zt,zo]
   have a7:=JC (i:=5) (ρ:=[some (.val (.lst (rs.map Be))),some (.val (.int m)),some (.ow (.rows (Ar ac))),some (.val (.int i)),none,some (.own ((zu m (none:Co)).map cst)),s6,none]) (d:=.tup [.int 0,.int 0]) (p:=(i:Int)) rfl (by omega) (by rw[zc,zao];omega);have bc:((zu m (none:Co)).map cst).set (i:Int).toNat (.tup [.int 0,.int 0])=((zu m none).set i (some (0,0))).map cst:=by rw[yF,zan];rfl
   rw[bc] at a7;apply wp_step
   ·simp_arith[a7];rfl
   try simp only[zt,zo]
   refine BZ (I:=λ ρ=>∃(R:List Co) (s6:Option Cl),ρ=[some (.val (.lst (rs.map Be))),some (.val (.int m)),some (.ow (.rows (Ar ac))),some (.val (.int i)),none,some (.own (R.map cst)),s6,none]/\N3 m rs i rs.length R) ?_ ?_
   ·simp_arith[];refine Bv (λ j ρ=>∃(R:List Co) (s6:Option Cl),ρ=[some (.val (.lst (rs.map Be))),some (.val (.int m)),some (.ow (.rows (Ar ac))),some (.val (.int i)),none,some (.own (R.map cst)),s6,none]/\N3 m rs i j R) ⟨_,s6,rfl,WI rs hi⟩ ?_ ?_
    ·rintro j d ρ hd ⟨R,s6,rfl,g⟩;obtain⟨r,hq,rfl⟩:=BG hd;have hr:=zk hq;have ok:=As r hr;have r0:AX (Be r) (.int 0)=.ok (.int r.a):=rfl;have r1:AX (Be r) (.int 1)=.ok (.int r.b):=rfl;have bL:r.b<R.length:=by rw[g.len];exact ok.b1
     have x1:AX (.lst (R.map cst)) (.int r.b)=.ok (cst (atC R r.b)):=CN ok.b0 bL;have xb:=T6 r;have hle:FL [.lst [cst (atC R r.b),cst (C7 r)]]=.ok (.sh (cst (DF (atC R r.b) (C7 r)))):=JX [atC R r.b,C7 r] (by simp);refine⟨_,rfl,?_⟩;by_cases hu:r.a=(i:Int)
     ·have a7:=JC (i:=5) (ρ:=[some (.val (.lst (rs.map Be))),some (.val (.int m)),some (.ow (.rows (Ar ac))),some (.val (.int i)),none,some (.own (R.map cst)),some (.val (Be r)),none]) (d:=cst (DF (atC R r.b) (C7 r))) (p:=r.b) rfl ok.b0 (by rw[zc];exact bL);have bc:(R.map cst).set r.b.toNat (cst (DF (atC R r.b) (C7 r)))=(R.set r.b.toNat (DF (atC R r.b) (C7 r))).map cst:=by rw[zan]
      rw[bc] at a7;refine Bi (ρ':=[some (.val (.lst (rs.map Be))),some (.val (.int m)),some (.ow (.rows (Ar ac))),some (.val (.int i)),none,some (.own ((R.set r.b.toNat (DF (atC R r.b) (C7 r))).map cst)),some (.val (Be r)),none]) (by simp_arith[r0,r1,decide_eq_true hu,x1,xb,hle,a7];rfl) ⟨_,_,rfl,Z5 g hq hu As⟩
     ·refine Bi (ρ':=_) (by simp_arith[r0,decide_eq_false hu];rfl) ⟨_,_,rfl,Z4 g hq hu⟩
    ·rintro ρ ⟨R,s6,rfl,g⟩;rw[zc] at g;exact⟨R,s6,rfl,g⟩
   ·rintro ρ ⟨R,s6,rfl,g⟩;have hl:(Ar ac).length<1000/\2≠5:=⟨by unfold Ar;rw[zc];omega,by decide⟩;refine Bi (ρ':=[some (.val (.lst (rs.map Be))),some (.val (.int m)),some (.ow (.rows (Ar (ac++[R])))),some (.val (.int i)),none,none,s6,none]) ?_ ⟨_,_,_,_,rfl,by simp[bB],λ u hu=>?_⟩
    ·simp only[Yn,zW,zI,if_pos hl,zt,zo];unfold Ar;rw[zG];rfl
    ·by_cases h:u=i
     ·subst h;have e:(ac++[R]).getD u []=R:=by rw[zy,za4 (by omega)];simp[bB]
      rw[e];exact g
     ·have e:(ac++[R]).getD u []=ac.getD u []:=by rw[zy,yN (by omega),zy]
      rw[e];exact bd u (by omega)
  ·rintro ρ ⟨ac,s3,s5,s6,rfl,bB,bd⟩;rw[Bh] at bB bd;exact⟨ac,s3,s5,s6,rfl,bB,bd⟩
 rintro ρ ⟨ac,s3,s5,s6,rfl,bB,bd⟩;have hM:M2 m ac:=⟨bB,λ R hR=>by
  obtain⟨u,hu,e⟩:=List.getElem_of_mem hR;have:=(bd u (by omega)).len;rw[zy,zi hu] at this;rw[<-e];exact this⟩
 have hF:=Z6 hM As bd;refine BZ (I:=λ ρ=>∃(ac:List (List Co)) (s3 s4 s5 s6 s7:Option Cl),ρ=[some (.val (.lst (rs.map Be))),some (.val (.int m)),some (.ow (.rows (Ar ac))),s3,s4,s5,s6,s7]/\M2 m ac/\FW m m rs (at2 ac)) ?_ ?_
 ·simp_arith[di];refine Bv (λ k ρ=>∃(ac:List (List Co)) (s3 s4 s5 s6 s7:Option Cl),ρ=[some (.val (.lst (rs.map Be))),some (.val (.int m)),some (.ow (.rows (Ar ac))),s3,s4,s5,s6,s7]/\M2 m ac/\FW m k rs (at2 ac)) ⟨ac,s3,none,s5,s6,none,rfl,hM,hF⟩ ?_ ?_
  ·rintro k d ρ hd ⟨aw,s3,s4,s5,s6,s7,rfl,xc,jr⟩;obtain⟨aH,hk⟩:=BO hd;rw[Int.zero_add] at aH;subst aH;refine⟨_,rfl,?_⟩;have k0:(0:Int)<=k:=by omega
   have k1:(k:Int)<m:=by omega
   have oc:=S8 jr hk;have orr:=S9 jr hk;simp_arith[di];refine Bv (λ u ρ=>∃(ac:List (List Co)) (s3 s5 s6 s7:Option Cl),ρ=[some (.val (.lst (rs.map Be))),some (.val (.int m)),some (.ow (.rows (Ar ac))),s3,some (.val (.int k)),s5,s6,s7]/\M2 m ac/\∀x y:Int,0<=x->x<m->0<=y->y<m->at2 ac x y=if x<u then over k (at2 aw) x y else at2 aw x y) ⟨aw,s3,s5,s6,s7,rfl,xc,λ x y h0 h1 h2 h3=>by rw[if_neg (by omega)]⟩ ?_ ?_
   ·rintro u d ρ hd ⟨bv,s3,s5,s6,s7,rfl,gn,ls⟩;obtain⟨aH,hu⟩:=BO hd;rw[Int.zero_add] at aH;subst aH;have u0:(0:Int)<=u:=by omega
    have u1:(u:Int)<m:=by omega
    refine⟨_,rfl,?_⟩;simp_arith[di];refine Bv (λ w ρ=>∃(ac:List (List Co)) (s5 s6 s7:Option Cl),ρ=[some (.val (.lst (rs.map Be))),some (.val (.int m)),some (.ow (.rows (Ar ac))),some (.val (.int u)),some (.val (.int k)),s5,s6,s7]/\M2 m ac/\∀x y:Int,0<=x->x<m->0<=y->y<m->at2 ac x y=if x<u\/(x=u/\y<w) then over k (at2 aw) x y else at2 aw x y) ⟨bv,s5,s6,s7,rfl,gn,λ x y h0 h1 h2 h3=>by
     rw[ls x y h0 h1 h2 h3];by_cases h:x<u
     ·rw[if_pos h,if_pos (.inl h)]
     ·rw[if_neg h,if_neg (by omega)]⟩ ?_ ?_
    ·rintro w d ρ hd ⟨aO,s5,s6,s7,rfl,gp,gq⟩;obtain⟨aH,hw⟩:=BO hd;rw[Int.zero_add] at aH;subst aH;have w0:(0:Int)<=w:=by omega
     have w1:(w:Int)<m:=by omega
     have a1:at2 aO u w=at2 aw u w:=by rw[gq u w u0 u1 w0 w1,if_neg (by omega)]
     have a2:at2 aO u k=at2 aw u k:=by
      rw[gq u k u0 u1 k0 k1];split
      ·exact oc u
      ·rfl
     have a3:at2 aO k w=at2 aw k w:=by
      rw[gq k w k0 k1 w0 w1];split
      ·exact orr w
      ·rfl
     obtain⟨xf,hP⟩:=gp.put u0 u1 w0 w1 (over k (at2 aw) u w);obtain⟨R0,yv⟩:∃R0:Ac,R0=[some (.val (.lst (rs.map Be))),some (.val (.int m)),some (.ow (.rows (Ar aO))),some (.val (.int u)),some (.val (.int k)),s5,s6,some (.val (.int w))]:=⟨_,rfl⟩;have c1:=Ug (ρ:=[some (.val (.lst (rs.map Be))),some (.val (.int m)),some (.ow (.rows (Ar aO))),some (.val (.int u)),some (.val (.int k)),s5,s6,some (.val (.int w))]) (i:=2) rfl gp u0 u1 w0 w1;have c2:=Ug (ρ:=[some (.val (.lst (rs.map Be))),some (.val (.int m)),some (.ow (.rows (Ar aO))),some (.val (.int u)),some (.val (.int k)),s5,s6,some (.val (.int w))]) (i:=2) rfl gp u0 u1 k0 k1;have c3:=Ug (ρ:=[some (.val (.lst (rs.map Be))),some (.val (.int m)),some (.ow (.rows (Ar aO))),some (.val (.int u)),some (.val (.int k)),s5,s6,some (.val (.int w))]) (i:=2) rfl gp k0 k1 w0 w1;rw[a1] at c1;rw[a2] at c2;rw[a3] at c3;have qm:=QZ (at2 aw u k) (at2 aw k w);have hle:FL [.lst [cst (at2 aw u w),cst (Aq (at2 aw u k) (at2 aw k w))]]=.ok (.sh (cst (over k (at2 aw) u w))):=JX [at2 aw u w,Aq (at2 aw u k) (at2 aw k w)] (by simp);have pj:=gU (ρ:=[some (.val (.lst (rs.map Be))),some (.val (.int m)),some (.ow (.rows (Ar aO))),some (.val (.int u)),some (.val (.int k)),s5,s6,some (.val (.int w))]) (i:=2) (v:=over k (at2 aw) u w) rfl gp u0 u1 w0 w1;refine⟨_,rfl,?_⟩;refine Bi (ρ':=[some (.val (.lst (rs.map Be))),some (.val (.int m)),some (.ow (.rows (Ar (put2 aO u w (over k (at2 aw) u w))))),some (.val (.int u)),some (.val (.int k)),s5,s6,some (.val (.int w))]) (by simp_arith[c1,c2,c3,qm,hle,pj]) ⟨_,_,_,_,rfl,xf,λ x y h0 h1 h2 h3=>?_⟩;rw[hP x y h0 h2];by_cases h:x=u/\y=w
     ·rw[if_pos h,if_pos (by omega),h.1,h.2]
     ·rw[if_neg h,gq x y h0 h1 h2 h3];by_cases h':x<u\/(x=u/\y<w)
      ·rw[if_pos h',if_pos (by omega)]
      ·rw[if_neg h',if_neg (by omega)]
    ·rintro ρ ⟨aO,s5,s6,s7,rfl,gp,gq⟩;rw[Bh] at gq;refine⟨aO,_,_,_,_,rfl,gp,λ x y h0 h1 h2 h3=>?_⟩;rw[gq x y h0 h1 h2 h3];by_cases h:x<u\/(x=u/\y<m)
     ·rw[if_pos h,if_pos (by omega)]
     ·rw[if_neg h,if_neg (by omega)]
   ·rintro ρ ⟨bv,s3,s5,s6,s7,rfl,gn,ls⟩;rw[Bh] at ls;refine⟨bv,_,_,_,_,_,rfl,gn,(Z3 jr hk).congr (by omega) As λ x y h0 h1 h2 h3=>?_⟩;rw[ls x y h0 h1 h2 h3,if_pos h1]
  ·rintro ρ ⟨bv,s3,s4,s5,s6,s7,rfl,gn,h8⟩;rw[Bh] at h8;exact⟨bv,s3,s4,s5,s6,s7,rfl,gn,h8⟩
 ·rintro ρ ⟨bv,s3,s4,s5,s6,s7,rfl,gn,h8⟩;refine⟨_,rfl,bv,gn,λ x y h0 h1 h2 h3=>mF h8 As h0 h1 h2 h3,?_⟩;rw[er,Q0,zH];congr 1;refine za2 λ R _=>?_;dsimp only [Function.comp];rw[Im]
noncomputable def NQ:List D->M OT:=zg FN
theorem R3:Txt K mg->BM P w K mg base "_law_costs" 2 2 NQ:=(zb FN).1
theorem R4:∀(m:Nat) (rs:List Road),m<=900->rs.length<=900->(∀r∈rs,Hs m r)->∃ac:List (List Co),M2 m ac/\(∀x y:Int,0<=x->x<m->0<=y->y<m->Cm rs x y (at2 ac x y))/\∃t,NQ [.lst (rs.map Be),.int m]=.ok t/\er t=.lst ((Ar ac).map D.lst):=(zb FN).2
theorem ET:∃F:List D->M OT,(∀ {P w K mg base},Txt K mg->BM P w K mg base "_law_places" 2 3 F)/\(∀(c:Int) (m:Nat) (k:Int),1<=m->0<=k->k<=100->∃ps:List Int,ps.length<=7/\(∀p∈ps,0<=p/\p<m)/\F [.int c,.int m,.int k]=.ok (.lst ((ps.map D.int).map .sh))):=by
 refine⟨_,λ T=>AD (k:=1) T.QJ Od _ (λ f B5 A outer s H E hr=>(A6 (Aj (BB (NB:=["_law_j","_law_many","_law_cell","_law_k"]) [none,some 1,some 0,some 2] rfl (BE (c:=true) rfl T.Cb (BD (Fj (Ae (Aa A9.toXCall (De T) (hr.mono (by decide)) rfl (A2 (A1 0 (pv 0)) (A2 (A1 2 (pv 2)) A8)) rfl)) A5) A5)) rfl rfl (AY 0 (by decide) rfl rfl rfl) (λ _ _ _ _=>BP) (λ _ _ _ _=>(BD (Ae (Bn (Aa (AW rfl).toXCall (De T) (hr.mono (by decide)) rfl (A2 (A1 2 (pv 2)) (A2 (BC (A1 3 (pv 3)) (A1 0 (pv 0))) A8)) rfl))) (A1 1 (pv 1)))))))),?_⟩;intro c m k hm h0 h1;have e0:AF ["_law_cell","_law_many","_law_k"] [.int c,.int m,.int k]=[some (.val (.int c)),some (.val (.int m)),some (.val (.int k))]:=rfl;rw[e0];obtain⟨v,v0,hv⟩:=Df c k h0 (by omega);have xg:IL (.int v) (.int 64)=.ok (.int (v / 64)):=DL ⟨by decide,by decide⟩;have q8:DB (.int (v / 64)) (.int 8)=.ok (.int (v / 64%8)):=AR (by decide);obtain⟨n,hn⟩:∃n:Nat,(n:Int)=v / 64%8:=⟨(v / 64%8).toNat,by omega⟩;rw[<-hn] at q8;have hr:Q4 (.int (n:Int))=.ok (BN 0 n):=E6 (by omega);have ut:∀j:Nat,j<n->∃p:Int,(0<=p/\p<m)/\∃u:Int,JT [.int c,.int (k+j)]=.ok (.sh (.int u))/\DB (.int u) (.int (m:Int))=.ok (.int p):=λ j hj=>by
  obtain⟨u,u0,hu⟩:=Df c (k+j) (by omega) (by omega);exact⟨u%m,⟨zae _ (by omega),za6 _ (by omega)⟩,u,hu,AR (by omega)⟩
 obtain⟨f,hf⟩:∃f:Nat->Int,∀j:Nat,j<n->(0<=f j/\f j<m)/\∃u:Int,JT [.int c,.int (k+j)]=.ok (.sh (.int u))/\DB (.int u) (.int (m:Int))=.ok (.int (f j)):=⟨λ j=>if h:j<n then zg (ut j h) else 0,λ j hj=>by
  dsimp only;rw[dif_pos hj];exact zb (ut j hj)⟩
 refine⟨(yD n).map f,by rw[zc,List.length_range];omega,λ p hp=>?_,Bj ?_⟩
 ·obtain⟨j,hj,rfl⟩:=z6.mp hp;exact (hf j (zaj.mp hj)).1
 have er:BN 0 n=(yD n).map λ j:Nat=>D.int (j:Int):=Fm n;have a6:((yD n).map λ j:Nat=>D.int (j:Int)).length<=1000:=by rw[zc,List.length_range];omega
 simp_arith[hv,xg,q8,hr,er,if_pos a6];rw[B6 (λ j:Nat=>D.int (f j)) (λ j hj=>⟨_,rfl,rfl,by
  obtain⟨_,u,h1,h2⟩:=hf j (zaj.mp hj);simp_arith[h1,h2]⟩)]
 exact⟨_,rfl,by rw[zH,zH,zH];rfl⟩
noncomputable def La:List D->M OT:=zg ET
theorem HN:Txt K mg->BM P w K mg base "_law_places" 2 3 La:=(zb ET).1
theorem HP:∀(c:Int) (m:Nat) (k:Int),1<=m->0<=k->k<=100->∃ps:List Int,ps.length<=7/\(∀p∈ps,0<=p/\p<m)/\La [.int c,.int m,.int k]=.ok (.lst ((ps.map D.int).map .sh)):=(zb ET).2
theorem FO:∃F:List D->M OT,(∀ {P w K mg base},Txt K mg->BM P w K mg base "_law_right" 4 4 F)/\(∀(m:Nat) (ac:List (List Co)) (ss gs:List Int),M2 m ac->m<=900->ss.length<=900->gs.length<=900->(∀s∈ss,0<=s/\s<m)->(∀g∈gs,0<=g/\g<m)->F [.lst (ss.map λ s=>.lst (gs.map λ g=>cst (at2 ac s g))),.lst ((Ar ac).map D.lst),.lst (ss.map D.int),.lst (gs.map D.int)]=.ok (.sh (.bl true))):=by
 refine⟨_,λ T=>AD (k:=3) T.SK Fw _ (λ f B5 A outer s H E hr=>(A3 (B8 (DW.dt (Dw (BY (BF (c:=true) (E5 (GQ _) rfl T.AZ rfl T.Cu (by decide +kernel) (A1 0 (pv 0))))) (Cr (FT (c:=true) (AU hr 16 (by decide)) (Cd rfl T.Dz (A1 0 (pv 0))) (Cd rfl T.Dz (A1 2 (pv 2))))))) (A6 (Aj (AO Cj))) Ax) (A3 (Bu A9.toXCall.own rfl (nA rfl T.rB (A1 0 (pv 0)) (A1 2 (pv 2))) (TH (n:=2) rfl (EW (AS 4 Fw.nd rfl (zT rfl)) (EW (AS 5 Fw.nd rfl (Or.inr rfl)) Q3))) (A6 (B8 (DW.dt (Dw (BY (BF (c:=true) (Ae (Aa A9.toXCall (Ky T) (hr.mono (by decide)) rfl (A2 (A1 4 (pv 4)) (A2 (Cd rfl T.Dz (A1 3 (pv 3))) A8)) rfl)))) (Cr (FT (c:=true) (AU hr 16 (by decide)) (A1 4 (pv 4)) (Ae (BB (NB:=["_law_goal","_law_costs_here","_law_start"]) [none,some 1,some 5] rfl (AI (A1 3 (pv 3))) rfl rfl (AY 0 (by decide) rfl rfl rfl) (λ _ _ _ _=>BP) (λ _ _ _ _=>(Ab (AU hr 16 (by decide)) (Ab (AU hr 16 (by decide)) (A1 1 (pv 1)) (A1 2 (pv 2))) (A1 0 (pv 0)))))))))) (A6 (Aj (AO Cj))) Ax))) (A6 (Aj (AO Cj)))))),?_⟩;intro m ac ss gs hM hm wT ui hs hg;have e0:AF ["_law_found","_law_costs_here","_law_starts","_law_goals","_law_row","_law_start"] [.lst (ss.map λ s=>.lst (gs.map λ g=>cst (at2 ac s g))),.lst ((Ar ac).map D.lst),.lst (ss.map D.int),.lst (gs.map D.int)]=[some (.val (.lst (ss.map λ s=>.lst (gs.map λ g=>cst (at2 ac s g))))),some (.val (.lst ((Ar ac).map D.lst))),some (.val (.lst (ss.map D.int))),some (.val (.lst (gs.map D.int))),none,none]:=rfl;rw[e0];refine Bj ?_;have bd:∀s:Int,0<=s->s<m->AX (.lst ((Ar ac).map D.lst)) (.int s)=.ok (.lst ((ac.getD s.toNat []).map cst)):=λ s h0 h1=>by
  have e:=(hM.get h0 h1).1;have e2:(Ar ac)[s.toNat]?=some ((ac.getD s.toNat []).map cst):=by unfold Ar;rw[z7,e];rfl
  exact Jy h0 e2
 have xh:∀x y:Int,0<=x->x<m->0<=y->y<m->AX (.lst ((ac.getD x.toNat []).map cst)) (.int y)=.ok (cst (at2 ac x y)):=λ x y a b c d=>CN c (by rw[(hM.get a b).2];exact d);have jh:((ss.map λ s=>D.lst (gs.map λ g=>cst (at2 ac s g))).length:Int)=((ss.map D.int).length:Int):=by rw[zc,zc]
 have ez:JG (ss.map λ s=>D.lst (gs.map λ g=>cst (at2 ac s g))) (ss.map D.int)=ss.map λ s=>D.tup [.lst (gs.map λ g=>cst (at2 ac s g)),.int s]:=Sl _ _ ss;apply wp_step
 ·simp_arith[jh,decide_true];rfl
 refine BZ (I:=λ ρ=>∃s4 s5:Option Cl,ρ=[some (.val (.lst (ss.map λ s=>.lst (gs.map λ g=>cst (at2 ac s g))))),some (.val (.lst ((Ar ac).map D.lst))),some (.val (.lst (ss.map D.int))),some (.val (.lst (gs.map D.int))),s4,s5]) ?_ ?_
 ·simp_arith[ez];refine Bv (λ i ρ=>∃s4 s5:Option Cl,ρ=[some (.val (.lst (ss.map λ s=>.lst (gs.map λ g=>cst (at2 ac s g))))),some (.val (.lst ((Ar ac).map D.lst))),some (.val (.lst (ss.map D.int))),some (.val (.lst (gs.map D.int))),s4,s5]) ⟨none,none,rfl⟩ ?_ ?_
  ·rintro i d ρ hd ⟨s4,s5,rfl⟩;obtain⟨s,hq,rfl⟩:=BG hd;have aI:=hs s (zk hq);refine⟨_,rfl,?_⟩;have uu:=Kz (gs.map λ g=>at2 ac s g) gs.length (by rw[zc]) (by omega);rw[zH] at uu;have qt:Es [.lst (gs.map λ g=>cst (at2 ac s g)),.int ((gs.map D.int).length:Int)]=.ok (.sh (.bl true)):=by rw[zc];exact uu
   have a6:(gs.map D.int).length<=1000:=by rw[zc];omega
   have ae:Xe 16 (.lst (gs.map λ g=>cst (at2 ac s g))) (.lst (gs.map λ g=>cst (at2 ac s g)))=.ok (.bl false):=by
    have:=Mz (gW (gs.map λ g=>at2 ac s g));rw[zH] at this;exact this
   refine Bi (ρ':=[some (.val (.lst (ss.map λ s=>.lst (gs.map λ g=>cst (at2 ac s g))))),some (.val (.lst ((Ar ac).map D.lst))),some (.val (.lst (ss.map D.int))),some (.val (.lst (gs.map D.int))),some (.val (.lst (gs.map λ g=>cst (at2 ac s g)))),some (.val (.int s))]) (by
    simp_arith[qt,Fp,if_pos a6];rw[B6 (λ g=>cst (at2 ac s g)) (λ g bI=>⟨_,rfl,rfl,by
     have r1:=bd s aI.1 aI.2;have x1:=xh s g aI.1 aI.2 (hg g bI).1 (hg g bI).2;simp_arith[r1,x1]⟩)]
    simp_arith[ae];try rfl) ⟨_,_,rfl⟩
  ·rintro ρ ⟨s4,s5,rfl⟩;exact⟨s4,s5,rfl⟩
 ·rintro ρ ⟨s4,s5,rfl⟩;rfl
noncomputable def NR:List D->M OT:=zg FO
theorem FQ:Txt K mg->BM P w K mg base "_law_right" 4 4 NR:=(zb FO).1
theorem JY:∀(m:Nat) (ac:List (List Co)) (ss gs:List Int),M2 m ac->m<=900->ss.length<=900->gs.length<=900->(∀s∈ss,0<=s/\s<m)->(∀g∈gs,0<=g/\g<m)->NR [.lst (ss.map λ s=>.lst (gs.map λ g=>cst (at2 ac s g))),.lst ((Ar ac).map D.lst),.lst (ss.map D.int),.lst (gs.map D.int)]=.ok (.sh (.bl true)):=(zb FO).2
theorem Uy:∃F:List D->M D,(∀ {P w K mg base f fd},Txt K mg->Xc K "law" "law" Pq f fd->Ds P w K mg base cW 8 f fd ["_law_script"] (TK K 1 F))/\(∀ns:List Int,ns.length<=63->(∀n∈ns,Sm n)->F [.lst (ns.map D.int)]=.ok (.bl true)):=by
 refine⟨_,fun {P w K mg base f fd} T F=>qA (k:=7) F Ct _ (λ B5 A outer s H E hr=>(A3 (AV 1 Ct.nd rfl (zT rfl) (Ae (Bn (Aa (AW rfl).toXCall (De T) (hr.mono (by decide)) rfl (A2 (Ae (Aa (AW rfl).toXCall (C8 T) (hr.mono (by decide)) rfl (A2 (A1 0 (pv 0)) (A2 A5 A8)) rfl)) (A2 A5 A8)) rfl)))) (A3 (AV 2 Ct.nd rfl (zT rfl) (Ab (AU hr 16 (by decide)) (EH (A2 (BC A5 (BD (A1 1 (pv 1)) A5)) (A2 (BC A5 (BD (A1 1 (pv 1)) A5)) A8))) (dU rfl T.ZH (iG (AU hr 16 (by decide)) (BD (Fj (A1 1 (pv 1)) A5) A5) A5)))) (A3 (AV 3 Ct.nd rfl (zT rfl) (Ae (Bn (Aa (AW rfl).toXCall (QU T) (hr.mono (by decide)) rfl (A2 (Ae (Ed (A1 0 (pv 0)) (Ez A5) (Ez A5))) (A2 (A1 2 (pv 2)) A8)) rfl)))) (A3 (AV 4 Ct.nd rfl (zT rfl) (Ae (Bn (Aa (AW rfl).toXCall (QW T) (hr.mono (by decide)) rfl (A2 (Ae (Aa (AW rfl).toXCall (C8 T) (hr.mono (by decide)) rfl (A2 (A1 0 (pv 0)) (A2 A5 A8)) rfl)) (A2 (A1 2 (pv 2)) A8)) rfl)))) (A3 (AV 5 Ct.nd rfl (zT rfl) (Ae (Bn (Vk (AW rfl).toXCall (Cz T).vC (hr.mono (by decide)) rfl (A2 (AL (A2 (A1 2 (pv 2)) (A2 (Ae (DD rfl T.Cu (A1 3 (pv 3)))) A8))) (A2 (Ae (DD rfl T.Cu (A1 4 (pv 4)))) A8)) rfl)))) (A3 (B8 (OJ (c:=true) (AU hr 16 (by decide)) (BD (Ae (Bn (Aa (AW rfl).toXCall (De T) (hr.mono (by decide)) rfl (A2 (Ae (Aa (AW rfl).toXCall (C8 T) (hr.mono (by decide)) rfl (A2 (A1 0 (pv 0)) (A2 A5 A8)) rfl)) (A2 A5 A8)) rfl))) A5) A5) (A6 (AV 5 Ct.nd rfl (zT rfl) (Ae (Bn (YZ (AW rfl).toXCall (Cz T) (hr.mono (by decide)) rfl (A2 (AL (A2 (A1 2 (pv 2)) (A2 (Ae (DD rfl T.Cu (A1 3 (pv 3)))) A8))) A8) rfl))))) Ax) (A3 (AV 6 Ct.nd rfl (Or.inr rfl) (Ae (Bn (Aa (AW rfl).toXCall (R3 T) (hr.mono (by decide)) rfl (A2 (A1 3 (pv 3)) (A2 (A1 2 (pv 2)) A8)) rfl)))) (A3 (AV 7 Ct.nd rfl (zT rfl) (Ae (Bn (Aa (AW rfl).toXCall (HN T) (hr.mono (by decide)) rfl (A2 (Ae (Aa (AW rfl).toXCall (C8 T) (hr.mono (by decide)) rfl (A2 (A1 0 (pv 0)) (A2 A5 A8)) rfl)) (A2 (A1 2 (pv 2)) (A2 A5 A8))) rfl)))) (A3 (AV 8 Ct.nd rfl (zT rfl) (Ae (Bn (Aa (AW rfl).toXCall (HN T) (hr.mono (by decide)) rfl (A2 (Ae (Aa (AW rfl).toXCall (C8 T) (hr.mono (by decide)) rfl (A2 (A1 0 (pv 0)) (A2 A5 A8)) rfl)) (A2 (A1 2 (pv 2)) (A2 A5 A8))) rfl)))) (A3 (AV 9 Ct.nd rfl (zT rfl) (EH (A2 (Ae (DD rfl T.Cu (A1 7 (pv 7)))) (A2 (Ae (DD rfl T.Cu (A1 8 (pv 8)))) A8)))) (A3 (BQ 10 Ct.nd rfl (zT rfl) (Bn (Aa (AW rfl).toXCall (table_at T) (hr.mono (by decide)) rfl (A2 (A1 5 (pv 5)) (A2 (Ab (AU hr 16 (by decide)) (A1 9 (pv 9)) A5) (A2 (Ab (AU hr 16 (by decide)) (A1 9 (pv 9)) A5) A8))) rfl))) (A3 (B8 (Ie (DW.dt (Dw (BY (BF (c:=true) (Ae (Bn (Aa (AW rfl).toXCall (FQ T) (hr.mono (by decide)) rfl (A2 (A1 10 (pv 10)) (A2 (A1 6 (pv 6)) (A2 (A1 7 (pv 7)) (A2 (A1 8 (pv 8)) A8)))) rfl))))) (Cr (FT (c:=true) (AU hr 16 (by decide)) (A1 9 (pv 9)) (EH (A2 (A1 7 (pv 7)) (A2 (A1 8 (pv 8)) A8)))))))) (A6 (Q2 (Ms Cj))) Ax) (A3 (Bu PassesOwn.never rfl (BE (c:=true) rfl T.Cb (UZ (Ys (c:=true) (Cd rfl T.Dz (A1 10 (pv 10)))))) (AS 11 Ct.nd rfl (zT rfl)) (A3 (Zv (NB:=["_law_row"]) 13 [none] Ct.nd rfl (zT rfl) rfl (AI (A1 10 (pv 10))) rfl rfl (AY 0 (by decide) rfl rfl rfl) (λ _ _ _ _=>BP) (λ _ _ _ _=>(DD rfl T.Cu (A1 0 (pv 0))))) (A3 (lQ (eJ (BA 10 (pv 10)) (A1 11 (pv 11))) (AO D5)) (A6 (B8 (Ie (FT (c:=true) (AU hr 16 (by decide)) (Ae (Qc (Ae (Ed (A1 10 (pv 10)) GR (Ez (A1 11 (pv 11))))) (Ae (Ed (A1 10 (pv 10)) (Ez (BC (A1 11 (pv 11)) A5)) GR)))) (Ae (Qc (Ae (Ed (A1 13 (pv 13)) GR (Ez (A1 11 (pv 11))))) (Ae (Ed (A1 13 (pv 13)) (Ez (BC (A1 11 (pv 11)) A5)) GR)))))) (A6 (Q2 (Ms Cj))) Ax))))) (A3 (WV (BA 10 (pv 10))) (A3 (B8 (BY (BF (c:=true) (Ae (Bn (Aa (AW rfl).toXCall (FQ T) (hr.mono (by decide)) rfl (A2 (Ae (Aa (AW rfl).toXCall (table_at T) (hr.mono (by decide)) rfl (A2 (A1 5 (pv 5)) (A2 (Ab (AU hr 16 (by decide)) (A1 9 (pv 9)) A5) (A2 (Ab (AU hr 16 (by decide)) (A1 9 (pv 9)) A5) A8))) rfl)) (A2 (A1 6 (pv 6)) (A2 (A1 7 (pv 7)) (A2 (A1 8 (pv 8)) A8)))) rfl))))) (A6 (Q2 (Ms Cj))) Ax) (A3 (AV 12 Ct.nd rfl (zT rfl) (Ae (Bn (Vk (AW rfl).toXCall (Cz T).vC (hr.mono (by decide)) rfl (A2 (AL (A2 (A1 2 (pv 2)) (A2 (Ae (BB (NB:=["_law_road"]) [none] rfl (AI (A1 3 (pv 3))) rfl rfl (AY 0 (by decide) rfl rfl rfl) (λ _ _ _ _=>BP) (λ _ _ _ _=>(AL (A2 (Ab (AU hr 16 (by decide)) (A1 0 (pv 0)) A5) (A2 (Ab (AU hr 16 (by decide)) (A1 0 (pv 0)) A5) (A2 (Ab (AU hr 16 (by decide)) (A1 0 (pv 0)) A5) (A2 (Ab (AU hr 16 (by decide)) (A1 0 (pv 0)) A5) A8)))))))) A8))) (A2 (A1 4 (pv 4)) A8)) rfl)))) (A6 (Q2 (Ms (Ae (Bn (Aa (AW rfl).toXCall (FQ T) (hr.mono (by decide)) rfl (A2 (Ae (Aa (AW rfl).toXCall (table_at T) (hr.mono (by decide)) rfl (A2 (A1 12 (pv 12)) (A2 (A1 8 (pv 8)) (A2 (A1 7 (pv 7)) A8))) rfl)) (A2 (Ae (BB (NB:=["_law_u","_law_costs_here"]) [none,some 6] rfl (BE (c:=true) rfl T.Cb (A1 2 (pv 2))) rfl rfl (Yc 0 (by decide) rfl rfl rfl rfl) (λ _ _ _ _=>BP) (λ _ _ _ _=>(Ae (BB (NB:=["_law_row","_law_u"]) [none,some 0] rfl (AI (A1 1 (pv 1))) rfl rfl (AY 0 (by decide) rfl rfl rfl) (λ _ _ _ _=>BP) (λ _ _ _ _=>(Ab (AU hr 16 (by decide)) (A1 0 (pv 0)) (A1 1 (pv 1))))))))) (A2 (A1 8 (pv 8)) (A2 (A1 7 (pv 7)) A8)))) rfl))))))))))))))))))))))),?_⟩;intro ns mz aI;have e0:AF ["_law_script","_law_first","_law_many","_law_roads_here","_law_order_here","_law_ladder","_law_costs_here","_law_starts","_law_goals","_law_handed","_law_found","_law_k","_law_other","_law_kept"] [.lst (ns.map D.int)]=[some (.val (.lst (ns.map D.int))),none,none,none,none,none,none,none,none,none,none,none,none,none]:=rfl;rw[e0];refine qR ?_;obtain⟨z0,yw,jr⟩:=Ep ns 0 aI;obtain⟨z1,bf,h8⟩:=Ep ns 1 aI;obtain⟨z2,i8,xi⟩:=Ep ns 2 aI;have qu:CV [.lst (ns.map D.int),.int 0]=.ok (.sh (.int z0)):=jr;have js:CV [.lst (ns.map D.int),.int 1]=.ok (.sh (.int z1)):=h8;have gu:CV [.lst (ns.map D.int),.int 2]=.ok (.sh (.int z2)):=xi;obtain⟨v,v0,hv⟩:=Df z0 0 (by decide) (by decide);have q1:DB (.int v) (.int 6)=.ok (.int (v%6)):=AR (by decide);have q2:DB (.int v) (.int 10)=.ok (.int (v%10)):=AR (by decide);have q3:IL (.int v) (.int 77)=.ok (.int (v / 77)):=DL ⟨by decide,by decide⟩;have q4:DB (.int (v / 77)) (.int 8)=.ok (.int (v / 77%8)):=AR (by decide);obtain⟨m,bM,b8,jt⟩:∃m:Nat,1<=m/\m<=16/\((UX [.bl (decide (v / 77%8=3))]).bind λ y=>AX (.lst [.int (1+v%6),.int (7+v%10)]) y)=.ok (.int m):=by
  by_cases h:v / 77%8=3
  ·refine⟨(7+v%10).toNat,by omega,by omega,?_⟩;rw[decide_eq_true h,show (((7+v%10).toNat:Nat):Int)=7+v%10 by omega];rfl
  ·refine⟨(1+v%6).toNat,by omega,by omega,?_⟩;rw[decide_eq_false h,show (((1+v%6).toNat:Nat):Int)=1+v%6 by omega];rfl
 have jn:(0:Int)<(m:Int):=by omega
 apply wp_step
 ·simp_arith[qu,hv];rfl
 try simp only[zt,zo]
 apply wp_step
 ·simp_arith[q1,q2,q3,q4,jt];rfl
 try simp only[zt,zo]
 have sl:ZT (some 3) (some 27) (.lst (ns.map D.int))=.ok (.lst ((((ns.drop 3).take 24).map D.int).map .sh)):=by rw[List.map_take,List.map_drop];exact fK _ 3 27
 obtain⟨rs,ci,du,xj⟩:=QV ((ns.drop 3).take 24) m bM b8 (by rw[yA];omega) λ c hc=>aI c (List.mem_of_mem_drop (y8 hc));have gw:rs.length<=60:=by rw[yA] at ci;omega
 have qv:∀r∈rs,Hs m r:=λ r hr=>(du r hr).vG.1;apply wp_step
 ·simp_arith[sl,xj];rfl
 try simp only[zt,zo]
 obtain⟨Lo,uv,xk⟩:=QX z1 m (by omega);apply wp_step
 ·simp_arith[js,xk];rfl
 try simp only[zt,zo]
 have nn:D.tup [.int m,.lst (rs.map Be)]=Ap m rs:=rfl;obtain⟨A0,K0,xl,t0,xm,xn⟩:=CB m rs (.lst (Lo.map D.int)) Lo bM b8 gw du uv (.inl rfl);have qw:MW (BI (.ins "Ladder" [] []) [Ap m rs,.lst (Lo.map D.int)])=.ok t0:=by rw[xm];rfl
 refine wp_step (ρ':=[some (.val (.lst (ns.map D.int))),some (.val (.int v)),some (.val (.int m)),some (.val (.lst (rs.map Be))),some (.val (.lst (Lo.map D.int))),some (.val (Bb m rs Lo A0 K0)),none,none,none,none,none,none,none,none]) (by simp_arith[nn,qw,xn];try rfl) ?_;obtain⟨v5,yx,uw⟩:=Df z2 5 (by decide) (by decide);have q5:DB (.int v5) (.int 4)=.ok (.int (v5%4)):=AR (by decide);refine BZ (I:=λ ρ=>∃(L:List Int) (A:LA) (K:List (Int×Int)),ρ=[some (.val (.lst (ns.map D.int))),some (.val (.int v)),some (.val (.int m)),some (.val (.lst (rs.map Be))),some (.val (.lst (Lo.map D.int))),some (.val (Bb m rs L A K)),none,none,none,none,none,none,none,none]/\CO m rs L A K) ?_ ?_
 ·by_cases c1:v5%4=1
  ·obtain⟨A,K,ok,t,hI,hE⟩:=CB m rs .AA (Ta m (By rs) (B2 m)) bM b8 gw du (Sj m _ _ (F4 m)) (.inr ⟨rfl,rfl⟩);have xp:MW (BI (.ins "Ladder" [] []) ([Ap m rs]++[.AA]))=.ok t:=by
    rw[show [Ap m rs]++[D.AA]=[Ap m rs,.AA] from rfl,hI];rfl
   refine Bi (ρ':=[some (.val (.lst (ns.map D.int))),some (.val (.int v)),some (.val (.int m)),some (.val (.lst (rs.map Be))),some (.val (.lst (Lo.map D.int))),some (.val (Bb m rs (Ta m (By rs) (B2 m)) A K)),none,none,none,none,none,none,none,none]) (by simp_arith[gu,uw,q5,decide_eq_true c1,nn,xp,hE];try rfl) ⟨_,A,K,rfl,ok⟩
  ·refine Bi (ρ':=[some (.val (.lst (ns.map D.int))),some (.val (.int v)),some (.val (.int m)),some (.val (.lst (rs.map Be))),some (.val (.lst (Lo.map D.int))),some (.val (Bb m rs Lo A0 K0)),none,none,none,none,none,none,none,none]) (by simp_arith[gu,uw,q5,decide_eq_false c1];try rfl) ⟨_,A0,K0,rfl,xl⟩
 rintro ρ ⟨L,A,K,rfl,ok⟩;obtain⟨ac,hM,hA,tc,xq,xr⟩:=R4 m rs (by omega) (by omega) qv;apply wp_step
 ·simp_arith[xq,xr];rfl
 try simp only[zt,zo]
 obtain⟨ss,yy,hs,xt⟩:=HP z1 m 10 bM (by decide) (by decide);apply wp_step
 ·simp_arith[js,xt];rfl
 try simp only[zt,zo]
 obtain⟨gs,yz,hg,xu⟩:=HP z2 m 20 bM (by decide) (by decide);apply wp_step
 ·simp_arith[gu,xu];rfl
 try simp only[zt,zo]
 refine wp_step (ρ':=[some (.val (.lst (ns.map D.int))),some (.val (.int v)),some (.val (.int m)),some (.val (.lst (rs.map Be))),some (.val (.lst (Lo.map D.int))),some (.val (Bb m rs L A K)),some (.val (.lst ((Ar ac).map D.lst))),some (.val (.lst (ss.map D.int))),some (.val (.lst (gs.map D.int))),some (.val (.lst [.lst (ss.map D.int),.lst (gs.map D.int)])),none,none,none,none]) (by simp_arith[];try rfl) ?_;have i0:AX (.lst [.lst (ss.map D.int),.lst (gs.map D.int)]) (.int 0)=.ok (.lst (ss.map D.int)):=rfl;have i1:AX (.lst [.lst (ss.map D.int),.lst (gs.map D.int)]) (.int 1)=.ok (.lst (gs.map D.int)):=rfl;obtain⟨F0,ck⟩:∃F0:List (List D),F0=ss.map λ s=>gs.map λ g=>cst (at2 ac s g):=⟨_,rfl⟩;have xv:F0.map D.lst=ss.map λ s=>.lst (gs.map λ g=>cst (at2 ac s g)):=by rw[ck,zH];rfl
 have hT:QN [Bb m rs L A K,.lst (ss.map D.int),.lst (gs.map D.int)]=.ok (EM F0):=by
  rw[SS m rs L A K (at2 ac) ss gs ok hA (by omega) (by omega) hs hg,ck];unfold EM;rw[zH];rfl
 have hR:=JY m ac ss gs hM (by omega) (by omega) (by omega) hs hg;rw[<-xv] at hR;have qx:Xe 16 (.lst [.lst (ss.map D.int),.lst (gs.map D.int)]) (.lst [.lst (ss.map D.int),.lst (gs.map D.int)])=.ok (.bl false):=Mz ((My (n:=1) (Ly (Lx _) (Ly (Lx _) Yj))).le (by decide));refine wp_step (ρ':=[some (.val (.lst (ns.map D.int))),some (.val (.int v)),some (.val (.int m)),some (.val (.lst (rs.map Be))),some (.val (.lst (Lo.map D.int))),some (.val (Bb m rs L A K)),some (.val (.lst ((Ar ac).map D.lst))),some (.val (.lst (ss.map D.int))),some (.val (.lst (gs.map D.int))),some (.val (.lst [.lst (ss.map D.int),.lst (gs.map D.int)])),some (Ew F0),none,none,none]) (by simp_arith[i0,i1,hT,Sn];try rfl) ?_;refine wp_step (ρ':=[some (.val (.lst (ns.map D.int))),some (.val (.int v)),some (.val (.int m)),some (.val (.lst (rs.map Be))),some (.val (.lst (Lo.map D.int))),some (.val (Bb m rs L A K)),some (.val (.lst ((Ar ac).map D.lst))),some (.val (.lst (ss.map D.int))),some (.val (.lst (gs.map D.int))),some (.val (.lst [.lst (ss.map D.int),.lst (gs.map D.int)])),some (Ew F0),none,none,none]) (by simp_arith[JH,hR,qx,Fp];try rfl) ?_;have y3:F0.length=ss.length:=by rw[ck,zc]
 have hr:Q4 (.int (F0.length:Int))=.ok (BN 0 F0.length):=E6 (by omega);refine BZ (I:=λ ρ=>∃(F:List (List D)) (cq:Option D) (cr:Option Cl),ρ=[some (.val (.lst (ns.map D.int))),some (.val (.int v)),some (.val (.int m)),some (.val (.lst (rs.map Be))),some (.val (.lst (Lo.map D.int))),some (.val (Bb m rs L A K)),some (.val (.lst ((Ar ac).map D.lst))),some (.val (.lst (ss.map D.int))),some (.val (.lst (gs.map D.int))),some (.val (.lst [.lst (ss.map D.int),.lst (gs.map D.int)])),some (Ew F),vO cq,none,cr]) ?_ ?_
 ·simp_arith[JH,zc,Na,hr];refine Bv (λ i ρ=>∃(F:List (List D)) (cq:Option D) (cr:Option Cl),ρ=[some (.val (.lst (ns.map D.int))),some (.val (.int v)),some (.val (.int m)),some (.val (.lst (rs.map Be))),some (.val (.lst (Lo.map D.int))),some (.val (Bb m rs L A K)),some (.val (.lst ((Ar ac).map D.lst))),some (.val (.lst (ss.map D.int))),some (.val (.lst (gs.map D.int))),some (.val (.lst [.lst (ss.map D.int),.lst (gs.map D.int)])),some (Ew F),vO cq,none,cr]/\F.length=F0.length/\(∀ds∈F,ds.length<=gs.length+i)/\∀ds∈F,∀d∈ds,Pl 1 d/\GX d=true) ⟨F0,none,none,rfl,rfl,λ ds hd=>by
   rw[ck] at hd;obtain⟨s,_,rfl⟩:=z6.mp hd;rw[zc];omega,λ ds hd d qy=>by
   rw[ck] at hd;obtain⟨s,_,rfl⟩:=z6.mp hd;obtain⟨g,_,rfl⟩:=z6.mp qy;exact⟨Ki (n:=0) _,Qh _⟩⟩ ?_ ?_
  ·rintro i d ρ hd ⟨F,cq,cr,rfl,hl,hlen,au⟩;obtain⟨aH,hi⟩:=BO hd;rw[Int.zero_add] at aH;subst aH;refine⟨_,rfl,?_⟩;obtain⟨ds,lu⟩:∃ds,F[i]?=some ds:=⟨_,zi (by omega)⟩;have qz:=zk lu;have lf:(ds.map OT.sh).length<1000:=by have:=hlen ds qz;rw[zc];omega
   have xw:(F.map D.lst).length<=1000:=by rw[zc];omega
   have xx:O5 (.ok (OT.lst (F.map λ ds=>OT.lst (ds.map .sh))))=.ok (EM F):=gY λ ds hd d qy=>(au ds hd d qy).2;refine wp_step (ρ':=[some (.val (.lst (ns.map D.int))),some (.val (.int v)),some (.val (.int m)),some (.val (.lst (rs.map Be))),some (.val (.lst (Lo.map D.int))),some (.val (Bb m rs L A K)),some (.val (.lst ((Ar ac).map D.lst))),some (.val (.lst (ss.map D.int))),some (.val (.lst (gs.map D.int))),some (.val (.lst [.lst (ss.map D.int),.lst (gs.map D.int)])),some (Ew F),some (.val (.int i)),none,some (Ew F)]) (by
    simp_arith[JH,if_pos xw];rw[GB (λ ds:List D=>OT.lst (ds.map .sh)) (λ ds hd=>⟨_,rfl,rfl,by simp_arith[]⟩)];simp_arith[Ko,xx,Sn];try rfl) ?_
   obtain⟨F',ju⟩:∃F',F'=F.set i (ds++[.AA]):=⟨_,rfl⟩;refine wp_step (ρ':=[some (.val (.lst (ns.map D.int))),some (.val (.int v)),some (.val (.int m)),some (.val (.lst (rs.map Be))),some (.val (.lst (Lo.map D.int))),some (.val (Bb m rs L A K)),some (.val (.lst ((Ar ac).map D.lst))),some (.val (.lst (ss.map D.int))),some (.val (.lst (gs.map D.int))),some (.val (.lst [.lst (ss.map D.int),.lst (gs.map D.int)])),some (Ew F'),some (.val (.int i)),none,some (Ew F)]) (by
    rw[ju];simp_arith[So,qZ,Zw lu,WW lu,if_pos lf,Zx lu];try rfl) ?_
   have rb:(F'.map D.lst).take i++(F'.map D.lst).drop (i+1)=(F.map D.lst).take i++(F.map D.lst).drop (i+1):=by rw[ju,zan];exact gZ _ _ _
   have y4:F'.length=F.length:=by rw[ju,yC]
   have xy:((i:Int)+1)=((i+1:Nat):Int):=by omega
   have t1:=RX (F'.map D.lst) i;have t2:=Jr (F'.map D.lst) (i+1);have t3:=RX (F.map D.lst) i;have t4:=Jr (F.map D.lst) (i+1);have p1:MJ (.lst ((F'.map D.lst).take i)) (.lst ((F'.map D.lst).drop (i+1)))=.ok (.lst (((F'.map D.lst).take i++(F'.map D.lst).drop (i+1)).map .sh)):=Qk (by rw[yA,za5,zc];omega);have p2:MJ (.lst ((F.map D.lst).take i)) (.lst ((F.map D.lst).drop (i+1)))=.ok (.lst (((F.map D.lst).take i++(F.map D.lst).drop (i+1)).map .sh)):=Qk (by rw[yA,za5,zc];omega);rw[rb] at p1;have ae:Xe 16 (.lst ((F.map D.lst).take i++(F.map D.lst).drop (i+1))) (.lst ((F.map D.lst).take i++(F.map D.lst).drop (i+1)))=.ok (.bl false):=Mz ((My (n:=2) λ x hx=>by
    have af:x∈F.map D.lst:=(zv.mp hx).elim y8 List.mem_of_mem_drop;obtain⟨es,he,rfl⟩:=z6.mp af;exact My λ d hd=>(au es he d hd).1).le (by decide))
   refine Bi (ρ':=[some (.val (.lst (ns.map D.int))),some (.val (.int v)),some (.val (.int m)),some (.val (.lst (rs.map Be))),some (.val (.lst (Lo.map D.int))),some (.val (Bb m rs L A K)),some (.val (.lst ((Ar ac).map D.lst))),some (.val (.lst (ss.map D.int))),some (.val (.lst (gs.map D.int))),some (.val (.lst [.lst (ss.map D.int),.lst (gs.map D.int)])),some (Ew F'),some (.val (.int i)),none,some (Ew F)]) (by
    simp_arith[JH,xy,t1,t2,t3,t4,p1,p2,ae,Fp];try rfl) ⟨F',some (.int i),some (Ew F),rfl,by omega,λ es he=>?_,λ es he=>?_⟩
   ·rw[ju] at he;rcases yX he with h|h
    ·have:=hlen es h;omega
    ·have:=hlen ds qz;rw[h,zC,yJ];omega
   ·rw[ju] at he;rcases yX he with h|h
    ·exact au es h
    ·subst h;intro d hd;rcases zv.mp hd with h|h
     ·exact au ds qz d h
     ·rw[zh.mp h];exact⟨Yi,fJ⟩
  ·rintro ρ ⟨F,cq,cr,rfl,_⟩;exact⟨F,cq,cr,rfl⟩
 rintro ρ ⟨F,cq,cr,rfl⟩;refine wp_step (ρ':=[some (.val (.lst (ns.map D.int))),some (.val (.int v)),some (.val (.int m)),some (.val (.lst (rs.map Be))),some (.val (.lst (Lo.map D.int))),some (.val (Bb m rs L A K)),some (.val (.lst ((Ar ac).map D.lst))),some (.val (.lst (ss.map D.int))),some (.val (.lst (gs.map D.int))),some (.val (.lst [.lst (ss.map D.int),.lst (gs.map D.int)])),some (.own []),vO cq,none,cr]) (by simp_arith[So,Uh,WY];try rfl) ?_;refine wp_step (ρ':=[some (.val (.lst (ns.map D.int))),some (.val (.int v)),some (.val (.int m)),some (.val (.lst (rs.map Be))),some (.val (.lst (Lo.map D.int))),some (.val (Bb m rs L A K)),some (.val (.lst ((Ar ac).map D.lst))),some (.val (.lst (ss.map D.int))),some (.val (.lst (gs.map D.int))),some (.val (.lst [.lst (ss.map D.int),.lst (gs.map D.int)])),some (.own []),vO cq,none,cr]) (by simp_arith[i0,i1,hT,Qx,hR,Fp];try rfl) ?_;obtain⟨A',K',xz,t',x3,x4⟩:=CB m (rs.map Dy) (.lst (Lo.map D.int)) Lo bM b8 (by rw[zc];exact gw) (λ r hr=>by
  obtain⟨q,hq,rfl⟩:=z6.mp hr;exact WZ (du q hq)) uv (.inl rfl)
 have rc:MW (BI (.ins "Ladder" [] []) [Ap m (rs.map Dy),.lst (Lo.map D.int)])=.ok t':=by rw[x3];rfl
 have x5:D.tup [.int m,.lst (rs.map λ r=>Be (Dy r))]=Ap m (rs.map Dy):=by unfold Ap;rw[zH];rfl
 have re:(rs.map Be).length<=1000:=by rw[zc];omega
 refine wp_step (ρ':=[some (.val (.lst (ns.map D.int))),some (.val (.int v)),some (.val (.int m)),some (.val (.lst (rs.map Be))),some (.val (.lst (Lo.map D.int))),some (.val (Bb m rs L A K)),some (.val (.lst ((Ar ac).map D.lst))),some (.val (.lst (ss.map D.int))),some (.val (.lst (gs.map D.int))),some (.val (.lst [.lst (ss.map D.int),.lst (gs.map D.int)])),some (.own []),vO cq,some (.val (Bb m (rs.map Dy) Lo A' K')),cr]) (by
  simp_arith[if_pos re];rw[B6 (λ r=>Be (Dy r)) (λ r hr=>⟨_,rfl,rfl,by
   have j0:AX (Be r) (.int 0)=.ok (.int r.a):=rfl;have j1:AX (Be r) (.int 1)=.ok (.int r.b):=rfl;have j2:AX (Be r) (.int 2)=.ok (G3 r.l):=rfl;have j3:AX (Be r) (.int 3)=.ok (.int r.w):=rfl;simp_arith[j0,j1,j2,j3];try rfl⟩)]
  simp_arith[x5,rc,x4];try rfl) ?_
 have x6:=X0 hM;have x8:=SS m (rs.map Dy) Lo A' K' (at2 (HD m ac)) gs ss xz (λ x y a b c d=>by rw[Zy hM a b c d];exact (hA y x c d a b).turn) (by omega) (by omega) hg hs;have ux:=JY m (HD m ac) gs ss x6 (by omega) (by omega) (by omega) hg hs;obtain⟨F2,jv⟩:∃F2:List (List D),F2=gs.map λ s=>ss.map λ g=>cst (at2 (HD m ac) s g):=⟨_,rfl⟩;have x9:F2.map D.lst=gs.map λ s=>.lst (ss.map λ g=>cst (at2 (HD m ac) s g)):=by rw[jv,zH];rfl
 have xA:QN [Bb m (rs.map Dy) Lo A' K',.lst (gs.map D.int),.lst (ss.map D.int)]=.ok (EM F2):=by
  rw[x8,jv];unfold EM;rw[zH];rfl
 rw[<-x9] at ux;have cp:Q4 (.int (m:Int))=.ok (BN 0 m):=E6 (by omega);have xB:((yD m).map λ i:Nat=>D.int (i:Int)).length<=1000:=by rw[zc,List.length_range];omega
 have bB:(ac.map λ R=>D.lst (R.map cst)).length<=1000:=by rw[zc,hM.len];omega
 have eR:(yD m).map (λ u:Nat=>D.lst (ac.map λ R=>cst (atC R (u:Int))))=(Ar (HD m ac)).map D.lst:=by
  unfold Ar HD;rw[zH,zH];exact za2 λ u _=>by
   show _=D.lst ((ac.map λ R=>atC R (u:Int)).map cst);rw[zH];rfl
 have eC:(Ar ac).map D.lst=ac.map λ R=>D.lst (R.map cst):=by unfold Ar;rw[zH];rfl
 simp_arith[xA,Qx,cp,Fm,if_pos xB];rw[B6 (λ u:Nat=>D.lst (ac.map λ R=>cst (atC R (u:Int)))) (λ u hu=>⟨_,rfl,rfl,by
  have li:=zaj.mp hu;simp_arith[if_pos bB,eC];rw[B6 (λ R:List Co=>cst (atC R (u:Int))) (λ R hR=>⟨_,rfl,rfl,by
   have x1:AX (.lst (R.map cst)) (.int (u:Int))=.ok (cst (atC R u)):=CN (by omega) (by rw[hM.row R hR];omega);simp_arith[x1]⟩)]
  simp_arith[];try rfl⟩)]
 simp_arith[eR,ux];rfl
noncomputable def ZQ:List D->M D:=zg Uy
theorem nF {P w K mg base f fd}:Txt K mg->Xc K "law" "law" Pq f fd->Ds P w K mg base cW 8 f fd ["_law_script"] (TK K 1 ZQ):=(zb Uy).1
theorem nG:∀ns:List Int,ns.length<=63->(∀n∈ns,Sm n)->ZQ [.lst (ns.map D.int)]=.ok (.bl true):=(zb Uy).2
set_option maxHeartbeats 0 in
set_option maxHeartbeats 0 in
set_option maxHeartbeats 0 in
set_option maxHeartbeats 0 in
theorem left (w:World):(PySem.W.openEnds treeTable PySem.Challenge.pw_nodeladder_k52_tables w 6100).map (λ s=>PySem.W.openSeen (CW PySem.Challenge.pw_nodeladder_k52_tables) [] (importedModules PySem.Challenge.pw_nodeladder_k52_tables.main.body) (λ s=>PySem.W.xlAt (CW PySem.Challenge.pw_nodeladder_k52_tables) [] s&&PySem.W.recOk [] s) true s)=some (PySem.W.openGood (CW PySem.Challenge.pw_nodeladder_k52_tables) []):=by
 rw[Vp,mB,PySem.W.Fast.te4187177175401517315,PySem.W.Fast.te5923862056798008813,PySem.W.Fast.te17838515724898045060];exact Qg (nU w) (Qg (nV w) (Qg (nW w) (nX w)))
set_option maxHeartbeats 0 in
theorem nI (w:World):Py (Kp R0 PySem.Challenge.pw_nodeladder_k52_tables w) PySem.Challenge.pw_nodeladder_k52_tables:=by
 rw[mB,PySem.W.Fast.te17838515724898045060];exact ZV w
set_option maxHeartbeats 0 in
theorem nJ (w:World):Pz (Kp R0 PySem.Challenge.pw_nodeladder_k52_tables w) PySem.Challenge.pw_nodeladder_k52_tables:=by
 rw[mB,PySem.W.Fast.te17838515724898045060];exact ZW w
theorem all_mk {l:PySem.W.OpenLaw}{w:World}{K:za}{h:Heap}{mg:Str->Option Value}{fa:Addr}(X:K.In h)(G:h.Ns mainGlobals mg)(xC:mg "law" = some (.ref fa))(u0:Py K PySem.Challenge.pw_nodeladder_k52_tables)(u1:Pz K PySem.Challenge.pw_nodeladder_k52_tables):
 ∃fd:FuncData,(∀(s:Shared) (v:Value),BindsTo s fd ⟨[v],[]⟩ [("_law_script",v)])/\∀base:Heap,K.In base->base.Ns mainGlobals mg->Ds l.prog w K mg base cW 8 fa fd ["_law_script"] (TK K 1 ZQ):=by
 have ak:VS K _:=⟨u0.1.1.1.1.1.2,u0.1.1.1.1.2,u0.1.1.1.2.1,u0.1.1.1.2.2⟩;obtain⟨y6,jw,xD,to28,xE,jx,xF,xG,xH,xI,jy,jz,j4,j5,j6,xJ,xK,xL,xM,xN,j7⟩:=u1.2.2.2.2.1.ex;have xO:=fS (st:=AB) xL xM xN;have xP:Binds K (zZ "__init__" "Ladder.__init__" (Bk AB) (AM AB) (A4 AB) (.ref jw) jy jz j4 jx j5 j6) ["self","net","order"] []:=λ s us hK hl=>by
  have a6:us.length=3:=by simpa using hl
  rcases us with _|⟨_,_|⟨_,_|⟨_,_|⟨_,us⟩⟩⟩⟩<;>first|exact PySem.W.binds_K hK rfl j7 rfl rfl rfl|(simp at a6)
 have xQ:Binds K (zZ "__init__" "Ladder.__init__" (Bk AB) (AM AB) (A4 AB) (.ref jw) jy jz j4 jx j5 j6) ["self","net","order"] [.none]:=λ s us hK hl=>by
  have a6:us.length=2:=by simpa using hl
  rcases us with _|⟨_,_|⟨_,_|⟨_,_|⟨_,us⟩⟩⟩⟩<;>first|exact PySem.W.binds_K hK rfl j7 rfl rfl rfl|(simp at a6)
 have xR:U5 K mg "Ladder" "Ladder.__init__" AB ["self","net","order"]:=⟨_,_,_,⟨u0.1.1.1.1.1.1,PySem.W.mg_of X G u0.1.1.1.1.1.1⟩,⟨u0.1.1.2.1.1,xJ,xK,u0.1.1.2.1.2⟩,xO,xP,xQ⟩;obtain⟨y7,xS,xT,xU,xV,xW,xX,xY,xZ,ya,uz,yb,yc,yd⟩:=u1.2.2.2.2.2.ex;cases xC.symm.trans (PySem.W.mg_of X G uz);have rf:=Tv (st:=Pq) yb yc yd;have ye:AH K mg "law" Pq ["_law_script"]:=⟨_,_,rf,PySem.W.mg_of X G uz,rf.binds (λ _ _ _ _ _ _=>sA λ _=>rfl)⟩;have T:Txt K mg:=⟨AQ X G u0.1.1.2.2.1,AQ X G u0.1.1.2.2.2,AQ X G u0.1.2.1.1.1.1,AQ X G u0.1.2.1.1.1.2,AQ X G u0.1.2.1.1.2,AQ X G u0.1.2.1.2.1,AQ X G u0.1.2.1.2.2,AQ X G u0.1.2.2.1.1,AQ X G u0.1.2.2.1.2,AQ X G u0.1.2.2.2.1,AQ X G u0.1.2.2.2.2,AQ X G u0.2.1.1.1.1.1,AQ X G u0.2.1.1.1.1.2,AQ X G u0.2.1.1.1.2,AQ X G u0.2.1.1.2.1,AQ X G u0.2.1.1.2.2,AQ X G u0.2.1.2.1.1,AQ X G u0.2.1.2.1.2,AQ X G u0.2.1.2.2.1,AQ X G u0.2.1.2.2.2,AQ X G u0.2.2.1.1.1.1,AQ X G u0.2.2.1.1.1.2,AQ X G u0.2.2.1.1.2,AQ X G u0.2.2.1.2.1,AQ X G u0.2.2.1.2.2,AQ X G u0.2.2.2.1.1,AQ X G u0.2.2.2.1.2,xR,Vo u0.1.1.1.1.1.1 ak u0.2.2.2.2.1,Vo u0.1.1.1.1.1.1 ak u0.2.2.2.2.2,Vo u0.1.1.1.1.1.1 ak u1.1.1.1.1.1.1,Vo u0.1.1.1.1.1.1 ak u1.1.1.1.1.1.2,AQ X G u1.1.1.1.1.2,AQ X G u1.1.1.1.2.1,AQ X G u1.1.1.1.2.2,AQ X G u1.1.1.2.1.1,AQ X G u1.1.1.2.1.2,AQ X G u1.1.1.2.2.1,AQ X G u1.1.1.2.2.2,AQ X G u1.1.2.1.1.1.1,AQ X G u1.1.2.1.1.1.2,AQ X G u1.1.2.1.1.2,AQ X G u1.1.2.1.2.1,AQ X G u1.1.2.1.2.2,AQ X G u1.1.2.2.1.1,AQ X G u1.1.2.2.1.2,ye,zU X G u1.1.2.2.2.1,zU X G u1.1.2.2.2.2,zU X G u1.2.1.1.1.1.1,zU X G u1.2.1.1.1.1.2,zU X G u1.2.1.1.1.2,zU X G u1.2.1.1.2.1,zU X G u1.2.1.1.2.2,zU X G u1.2.1.2.1.1,zU X G u1.2.1.2.1.2,zU X G u1.2.1.2.2.1,zU X G u1.2.1.2.2.2,zU X G u1.2.2.1.1.1.1,zU X G u1.2.2.1.1.1.2,zU X G u1.2.2.1.1.2,⟨_,u0.1.1.1.1.1.1,ak,u1.2.2.1.2.1⟩,⟨_,u0.1.1.1.1.1.1,ak,u1.2.2.1.2.2⟩,⟨_,u0.1.1.1.1.1.1,ak,u1.2.2.2.1.1⟩,⟨_,u0.1.1.1.1.1.1,ak,u1.2.2.2.1.2⟩⟩;refine⟨_,?_,λ base _ _=>nF T rf⟩;exact λ s v=>.of_eq rfl
theorem walk {l:PySem.W.OpenLaw}{q:Program}{loose:List Str}{XP:(Str->Option Value)->Heap->Prop}{YP:World->Heap->Prop}{d:DefRec}{K:World->za}(hn:l.most=some 63)(f9:d.params.defaults=[])
 (hY:∀(w:World) (h:Heap),YP w h->(K w).In h)
 (F:∀(w:World) (mg:Str->Option Value) (fa:Addr) (h:Heap),(K w).In h->h.Ns mainGlobals mg->mg d.name=some (.ref fa)->
  ∃fd:FuncData,(∀(s:Shared) (u:Value),BindsTo s fd ⟨[u],[]⟩ [("_law_script",u)])/\∀base:Heap,(K w).In base->base.Ns mainGlobals mg->Ds l.prog w (K w) mg base cW 8 fa fd ["_law_script"] (TK (K w) 1 ZQ)):
 PySem.W.WalkO q loose XP YP l.row.toRowW d [] (λ f vs=>PySem.call f vs):=
 L2.qU (n:=63) (k:=8) (x := "_law_script") (CX:=λ _=>cW) (sp:=λ w=>TK (K w) 1 ZQ) hn (by decide) f9 ⟨rfl,by decide,by decide⟩ hY F (λ w H a ns aI hl _ hS=>dW nG (K w) H a ns aI hl hS) λ _ _ _ _ _ z=>z
end cu
open PySem PySem.W PyProof.Rows L2
set_option maxRecDepth 100000 in
set_option maxHeartbeats 0 in
theorem PySem.Challenge.cw_nodeladder_k52_tables_holds : PySem.Challenge.rw_nodeladder_k52_tables.Holds := by
 w_on;o_law
 refine holds_open (q:=CW PySem.Challenge.pw_nodeladder_k52_tables) (loose:=[]) (Xt:=λ s=>xlAt (CW PySem.Challenge.pw_nodeladder_k52_tables) [] s&&recOk [] s) (XP:=XL (CW PySem.Challenge.pw_nodeladder_k52_tables) []) (Yf:=λ s=>s.heap) (Ya:=λ w=>Xf R0 PySem.Challenge.pw_nodeladder_k52_tables w 6100) (YP:=λ w h=>qT (Xf R0 PySem.Challenge.pw_nodeladder_k52_tables w 6100) h) (N:=6100) (fT cu.left) (λ w s e b o q=>by rw[<-e] at q;exact q) (λ w h h' a b c o q=>b c o (a c o q)) (λ s e=>xl_of s (Bool.and_eq_true_iff.mp e).1) XL.keeps (by rfl) (by rfl) (by rfl) (λ s e=>recFacts_of (Bool.and_eq_true_iff.mp e).2) (by rfl) (by first|assumption|decide +kernel) (by decide +kernel) ⟨rfl,rfl,rfl,rfl,rfl,by decide +kernel⟩ ?hw ?hc;case hw=>w_witness2
 case hc =>
  refine cu.walk (l:=PySem.Challenge.rw_nodeladder_k52_tables) (K:=cu.Kp R0 PySem.Challenge.pw_nodeladder_k52_tables) rfl rfl (λ w h Y=>mC Y) ?F;intro w mg fa h KX G ga;exact cu.all_mk KX G ga (cu.nI w) (cu.nJ w)
