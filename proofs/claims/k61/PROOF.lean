import PyProof.Rows.All
import Wide.All
import OpenK.AllK
import Wide.FinOn
import Lean
import PyProof.EqAt
import PyProof.EqKinds
import PyProof.TupleCall
import PyProof.NeKinds
import KE.KRevSl
import KE.KIsAll
import PyProof.FitsBits
import KE.LcSums
import KE.KRevIter
import PyProof.ListRange
import PyProof.Rows.SumAny
import PyProof.Rows.SortWalk
import PyProof.AttrMissHeap
import KE.KDictOf
import PyProof.ZipIter
import PyProof.DictWalks
import KE.KDictList
import PyProof.Rows.Range3
import PySem.Challenge.RW_nodeladder_k61_labels_by_meaning
set_option bootstrap.genMatcherCode false
set_option Elab.async false
set_option linter.all false
set_option maxRecDepth 1000000
open PySem.W renaming Frag→za,nsIn→zE,findIn→zP,mg_none_of→zQ,keepIn→zV,fnOf→zX,emptyDict→yX,codeIn→yZ,kia_one→zae,instObj→zaf
open Classical renaming choose_spec→zb,choose→zg,propDecidable→yQ,byContradiction→zad
open List renaming length_map→zc,mem_cons_self→zd,mem_cons_of_mem→ze,map_cons→zf,getElem?_eq_getElem→zh,mem_singleton→zi,set_cons_succ→zj,length_cons→zk,size_toArray→zl,mem_append_right→zm,set_cons_zero→zo,mem_cons→zq,mem_of_getElem?→zr,replicate→zt,getD_eq_getElem?_getD→zu,getElem?_eq_some_iff→zx,mem_append→zy,getElem?_map→z5,map_append→z6,nodup_append→z8,mem_map→zA,length_append→zB,append_nil→zF,getElem?_set_self→zI,mem_append_left→zJ,getElem?_cons_succ→zK,foldl_cons→zL,length_reverse→zR,mem_of_mem_take→zS,length_take→zT,nodup_cons→zU,take_length→y8,take_add_one→y9,mem_filter→yH,length_set→yI,getElem?_append_left→yJ,map_map→yK,getElem?_set_ne→yL,range→yO,length_singleton→yP,nodup_nil→yS,getElem?_cons_zero→yU,any_cons→yV,lookup_cons→yW,getElem?_append_right→yY,replicate_succ→za0,take_append_drop→za1,mem_reverse→za2,any_eq_true→za3,getElem?_replicate→za7,append_assoc→zaa,filterMap_cons→zab,map_nil→zai,length_drop→zak,getElem_mem→zal,drop_length→zam,mem_range→zao,take_of_length_le→zap,length_replicate→zas,find?_cons→zat,mem_or_eq_of_mem_set→zaz,drop_eq_getElem_cons→zb0,cons_append→zb3
open PySem.Heap renaming get?_push_of_some→zp,lt_size→zw,get?_push_size→z9
open Nat renaming le_refl→zv,lt_of_lt_of_le→z3,ne_of_lt→zD,zero_le→zM,le_trans→zZ,le_of_lt→yN
open Bool renaming false_ne_true→z4,false_eq_true→zC,and_eq_true→zG,eq_iff_iff→zah,eq_false_iff→zaw
open Option.some renaming inj→z7
open Prod renaming fst→zH,snd→yT
open PySem.Builtin.Int renaming intBits→zN
open Or renaming inl→zO
open PyProof.Rows renaming callWith_type1→zW
open Ne renaming symm→zY
open PySem.Value renaming ref→yG
open Int renaming toNat_natCast→yM,emod_lt_of_pos→za4,emod_nonneg→zac,add_assoc→zax
open PySem.F renaming plainAttrs_list→yR,plain_min_loop→za8
open PySem.W.Fast renaming tw5923862056798008813→za5,tw4187177175401517315→za6
open Option renaming map_some→za9,map_eq_some_iff→zaj,isSome_iff_exists→zb2
open False renaming elim→zag
open True renaming intro→zan
open PySem.Calls renaming spliced_cons→zaq,spliced_nil→zau
open PySem.NameKind renaming free→zar
open PySem.Builtin.List renaming listTooLong→zav
open PySem.Builtin.Range renaming rangeSize→zay
open PySem renaming mem_of_lookup→zb1
open ForInStep renaming yield→zb4
local macro_rules|`(~~~$t)=>`(autoParam $t PySem.W.name_B._auto_1)
local macro_rules|`(nofun)=>`(⟨rfl,rfl,rfl,by decide +kernel,rfl,by decide +kernel,by decide +kernel⟩)
local macro_rules|`(def $i $b* :$t $v:declVal)=>`(theorem $i $b* :$t $v:declVal)
local macro_rules|`(abbrev $i $b* :$t $v:declVal)=>`(noncomputable def $i $b* :$t $v:declVal)|`(abbrev $i $b* $v:declVal)=>`(noncomputable def $i $b* $v:declVal)
section
set_option maxHeartbeats 0
namespace L2
open PySem PySem.Spec PyProof.Rows PySem.W PySem.Calls
abbrev inClass (s:Stmt)(j:Nat):Stmt:=match s with
 | .ClassDef _ _ _ body _ _ _ _ _ _ _=>body.getD j (.Pass ⟨0,0,0,0⟩)
 |_=>.Pass ⟨0,0,0,0⟩
abbrev Bm (s:Stmt):Arguments:=match s with
 | .FunctionDef _ a _ _ _ _ _ _ _ _=>a
 |_=>{posonlyargs:=[],args:=[],vararg:=none,kwonlyargs:=[],kw_defaults:=[],kwarg:=none,defaults:=[]}
abbrev AN (s:Stmt):List Stmt:=match s with
 | .FunctionDef _ _ b _ _ _ _ _ _ _=>b
 |_=>[]
abbrev A5 (s:Stmt):Scope:=match s with
 | .FunctionDef _ _ _ _ _ _ sc _ _ _=>sc
 |_=>{kind:=.function,names:=[],isGenerator:=false,isCoroutine:=false}
structure FP (K:za)(x:Str)(st:Stmt):Prop where
 ex:∃(f:Addr) (oc:Value) (od an:Option Addr) (sl:Array (Option Value)) (kV dc pm cd ct:Value),zE K mainGlobals x=some (some (.ref f))/\K.lookup f=some ⟨oc,od,.func (zX x x (Bm st) (AN st) (A5 st) .none kV dc pm an cd ct),sl⟩/\yZ K cd x=true/\zV K (.ref f)=true
structure MP (K:za)(C:Addr)(m qual:Str)(st:Stmt):Prop where
 ex:∃(f:Addr) (oc:Value) (od an:Option Addr) (sl:Array (Option Value)) (kV dc pm cd ct:Value),zP K (.ref C) m=some (some (.ref f))/\PySem.W.isFn K (.ref f)=true/\K.lookup f=some ⟨oc,od,.func (zX m qual (Bm st) (AN st) (A5 st) .none kV dc pm an cd ct),sl⟩/\yZ K cd qual=true/\zV K (.ref f)=true
abbrev CW (p:Program):Program:={p with main:={p.main with body:=p.main.body.filter λ s=>match s with | .FunctionDef .. =>true | .ClassDef .. =>true | _=>false} }
structure Rn where
 run:(String->Option Builtin)->Program->World->Nat->Option Value->Nat->Shared->Thread->Option Shared
 ns:Heap->Addr->Str->Option Value
 imp:(String->Option Builtin)->Program->World->Nat->Shared->Thread->Option Shared
 xR:Program->Shared->Option Shared
 st:Program->Shared×Thread
 tb:String->Option Builtin
abbrev Mu (R:Rn)(p:Program)(w:World)(N:Nat):Option Shared:=
 ((R.imp R.tb (opening p) w N (R.st (opening p)).fst (R.st (opening p)).snd).bind (R.xR p)).bind λ s₀ =>
 match s₀.heap.isNs mainGlobals&&s₀.gens.size==0 with
 |true=>(R.run R.tb p w s₀.heap.objs.size (R.ns s₀.heap mainGlobals (Str.ofString "__annotations__")) N s₀ (topStub p)).bind λ s₁ =>
  match staticsOk (importedModules p.main.body) s₀.heap s₁.heap&&namesBound p s₁.heap&&gensDone s₁&&laidKept s₀.heap s₁.heap with
  |true=>some s₁
  |false=>none
 |false=>none
abbrev R1:Rn:=⟨PySem.W.Fast.tw14082659384304107361,PySem.W.Fast.tw8920871248978507458,PySem.W.Fast.tw10274390034422433532,PySem.W.Fast.tw14289696077712309145,PySem.W.Fast.tw1435165496053646825,PySem.W.Fast.tw14364793385576792824⟩
abbrev XY (R:Rn)(p:Program)(w:World)(N:Nat):Heap:=match Mu R p w N with | some s=>s.heap | none=>⟨#[],default⟩
abbrev tT (h:Heap)(as:List Addr):za:=as.filterMap λ a=>(h.get? a).map λ o=>(a,o)
abbrev wN (v:Option (Option Value)):Addr:=match v with | some (some (.ref f))=>f | _=>0
abbrev Gd (K:za)(f:Addr):Obj:=(K.lookup f).getD ⟨.none,none,.plain,#[]⟩
abbrev O7 (d:Data)(st:Stmt):FuncData:=match d with | .func fd=>fd | _=>zX Str.empty Str.empty (Bm st) [] (A5 st) .none .none .none .none none .none .none
abbrev uP (v:Value):Addr:=match v with | .ref a=>a | _=>0
abbrev uQ (d:Data):Nat:=match d with | .seq _ n=>n | _=>0
abbrev cA (K:za)(x:Str):Addr:=wN (zE K mainGlobals x)
abbrev mA (K:za)(C:Addr)(m:Str):Addr:=wN (zP K (.ref C) m)
def pY {K:za}{x:Str}{st:Stmt}(a:zE K mainGlobals x=some (some (.ref (cA K x))):=by kernel_rfl)
 (l:K.lookup (cA K x)=some ⟨(Gd K (cA K x)).cls,(Gd K (cA K x)).dict,.func (zX x x (Bm st) (AN st) (A5 st) .none (O7 (Gd K (cA K x)).data st).kwdefaults (O7 (Gd K (cA K x)).data st).doc (O7 (Gd K (cA K x)).data st).pyModule (O7 (Gd K (cA K x)).data st).annotations (O7 (Gd K (cA K x)).data st).code (O7 (Gd K (cA K x)).data st).closureTuple),(Gd K (cA K x)).slots⟩:=by kernel_rfl)
 (c:yZ K (O7 (Gd K (cA K x)).data st).code x=true:=by kernel_rfl) (k:zV K (.ref (cA K x))=true:=by kernel_rfl):FP K x st:=⟨⟨_,_,_,_,_,_,_,_,_,_,a,l,c,k⟩⟩
def pZ {K:za}{C:Addr}{m qual:Str}{st:Stmt}(a:zP K (.ref C) m=some (some (.ref (mA K C m))):=by kernel_rfl)(i:PySem.W.isFn K (.ref (mA K C m))=true:=by kernel_rfl)
 (l:K.lookup (mA K C m)=some ⟨(Gd K (mA K C m)).cls,(Gd K (mA K C m)).dict,.func (zX m qual (Bm st) (AN st) (A5 st) .none (O7 (Gd K (mA K C m)).data st).kwdefaults (O7 (Gd K (mA K C m)).data st).doc (O7 (Gd K (mA K C m)).data st).pyModule (O7 (Gd K (mA K C m)).data st).annotations (O7 (Gd K (mA K C m)).data st).code (O7 (Gd K (mA K C m)).data st).closureTuple),(Gd K (mA K C m)).slots⟩:=by kernel_rfl)
 (c:yZ K (O7 (Gd K (mA K C m)).data st).code qual=true:=by kernel_rfl) (k:zV K (.ref (mA K C m))=true:=by kernel_rfl):MP K C m qual st:=⟨⟨_,_,_,_,_,_,_,_,_,_,a,i,l,c,k⟩⟩
structure IP (K:za)(C:Addr)(qual:Str)(st:Stmt):Prop where
 ex:∃(f td:Addr) (oc to:Value) (od an tq:Option Addr) (sl ts:Array (Option Value)) (tn:Nat) (kV dc pm cd ct:Value),zP K (.ref C) "__init__" = some (some (.ref f))/\PySem.W.isFn K (.ref f)=true/\K.lookup f=some ⟨oc,od,.func (zX "__init__" qual (Bm st) (AN st) (A5 st) (.ref td) kV dc pm an cd ct),sl⟩/\yZ K cd qual=true/\zV K (.ref f)=true/\K.lookup td=some ⟨to,tq,.seq #[.none] tn,ts⟩
abbrev tA (K:za)(C:Addr)(st:Stmt):Addr:=uP (O7 (Gd K (mA K C "__init__")).data st).defaults
def qA {K:za}{C:Addr}{qual:Str}{st:Stmt}(a:zP K (.ref C) "__init__" = some (some (.ref (mA K C "__init__"))):=by kernel_rfl)(i:PySem.W.isFn K (.ref (mA K C "__init__"))=true:=by kernel_rfl)
 (l:K.lookup (mA K C "__init__")=some ⟨(Gd K (mA K C "__init__")).cls,(Gd K (mA K C "__init__")).dict,.func (zX "__init__" qual (Bm st) (AN st) (A5 st) (.ref (tA K C st)) (O7 (Gd K (mA K C "__init__")).data st).kwdefaults (O7 (Gd K (mA K C "__init__")).data st).doc (O7 (Gd K (mA K C "__init__")).data st).pyModule (O7 (Gd K (mA K C "__init__")).data st).annotations (O7 (Gd K (mA K C "__init__")).data st).code (O7 (Gd K (mA K C "__init__")).data st).closureTuple),(Gd K (mA K C "__init__")).slots⟩:=by kernel_rfl)
 (c:yZ K (O7 (Gd K (mA K C "__init__")).data st).code qual=true:=by kernel_rfl) (k:zV K (.ref (mA K C "__init__"))=true:=by kernel_rfl) (d:K.lookup (tA K C st)=some ⟨(Gd K (tA K C st)).cls,(Gd K (tA K C st)).dict,.seq #[.none] (uQ (Gd K (tA K C st)).data),(Gd K (tA K C st)).slots⟩:=by kernel_rfl):IP K C qual st:=⟨⟨_,_,_,_,_,_,_,_,_,_,_,_,_,_,_,a,i,l,c,k,d⟩⟩
end L2
namespace ci
open PySem L2
def prim:(PySem.W.chainsOk PySem.Challenge.pw_nodeladder_k61_labels_by_meaning||true)=true:=by k_qdec
def qB (w:World):(Mu R1 PySem.W.Fast.tw14218315394596529533 w 6100).map (λ s=>(za6 (CW PySem.W.Fast.tw14218315394596529533) [] (za5 PySem.W.Fast.tw14218315394596529533.main.body) (λ s=>PySem.W.xlAt (CW PySem.W.Fast.tw14218315394596529533) [] s&&PySem.W.recOk [] s) true s).1)=some (PySem.W.openGood (CW PySem.W.Fast.tw14218315394596529533) []).1:=by kernel_rfl
def qC (w:World):(Mu R1 PySem.W.Fast.tw14218315394596529533 w 6100).map (λ s=>(za6 (CW PySem.W.Fast.tw14218315394596529533) [] (za5 PySem.W.Fast.tw14218315394596529533.main.body) (λ s=>PySem.W.xlAt (CW PySem.W.Fast.tw14218315394596529533) [] s&&PySem.W.recOk [] s) true s).2.1)=some (PySem.W.openGood (CW PySem.W.Fast.tw14218315394596529533) []).2.1:=by kernel_rfl
def qD (w:World):(Mu R1 PySem.W.Fast.tw14218315394596529533 w 6100).map (λ s=>(za6 (CW PySem.W.Fast.tw14218315394596529533) [] (za5 PySem.W.Fast.tw14218315394596529533.main.body) (λ s=>PySem.W.xlAt (CW PySem.W.Fast.tw14218315394596529533) [] s&&PySem.W.recOk [] s) true s).2.2.1)=some (PySem.W.openGood (CW PySem.W.Fast.tw14218315394596529533) []).2.2.1:=by kernel_rfl
def qE (w:World):(Mu R1 PySem.W.Fast.tw14218315394596529533 w 6100).map (λ s=>(za6 (CW PySem.W.Fast.tw14218315394596529533) [] (za5 PySem.W.Fast.tw14218315394596529533.main.body) (λ s=>PySem.W.xlAt (CW PySem.W.Fast.tw14218315394596529533) [] s&&PySem.W.recOk [] s) true s).2.2.2)=some (PySem.W.openGood (CW PySem.W.Fast.tw14218315394596529533) []).2.2.2:=by kernel_rfl
abbrev topP (p:Program)(i:Nat):Stmt:=p.main.body.getD i (.Pass ⟨0,0,0,0⟩)
abbrev Kp (R:Rn)(p:Program)(w:World):za:=tT (XY R p w 6100) (yO 520)
abbrev PY (K:za)(p:Program):Prop:=
 ((((((zE K mainGlobals "Ladder" = some (some (.ref (cA K "Ladder"))))/\(PySem.W.plainGet K (cA K "Ladder") Str.empty=true))/\(PySem.W.hasDictIn K (cA K "Ladder")=true))/\((PySem.W.plainOver K (cA K "Ladder")=true)/\(zP K (.ref (cA K "Ladder")) "__setattr__" = some (some (.builtin "object.__setattr__")))))/\((((PySem.W.makesIn K (cA K "Ladder")=true)/\(zV K (.ref (cA K "Ladder"))=true))/\(FP K "is_whole_below" (topP p 7)))/\((FP K "is_measure" (topP p 8))/\(FP K "is_road" (topP p 9)))))/\(((((FP K "is_map" (topP p 10))/\(FP K "checked" (topP p 11)))/\(FP K "added" (topP p 12)))/\((FP K "least" (topP p 13))/\(FP K "road_cost" (topP p 14))))/\(((FP K "kept_costs" (topP p 16))/\(FP K "kept_costs_turned" (topP p 17)))/\((FP K "climbed" (topP p 18))/\(FP K "swept" (topP p 20))))))/\((((((FP K "costs_out" (topP p 21))/\(FP K "costs_in" (topP p 22)))/\(FP K "lies_over" (topP p 24)))/\((FP K "label_by" (topP p 25))/\(FP K "label_out" (topP p 26))))/\((((FP K "label_into" (topP p 27))/\(FP K "cost_so_far" (topP p 29)))/\(FP K "lay" (topP p 30)))/\((FP K "lay_over" (topP p 31))/\(FP K "laid_arcs" (topP p 32)))))/\(((((FP K "is_order" (topP p 34))/\(FP K "checked_order" (topP p 35)))/\(FP K "first_bows" (topP p 36)))/\((FP K "missing_bows" (topP p 37))/\(FP K "lightest" (topP p 38))))/\(((FP K "ranked" (topP p 39))/\(FP K "costs_from" (topP p 41)))/\((FP K "order_or_ranked" (topP p 43))/\(FP K "kept_arcs" (topP p 44))))))
def dY (w:World):PY (Kp R1 PySem.W.Fast.tw14218315394596529533 w) PySem.W.Fast.tw14218315394596529533:=by
 unfold PY
 and_intros<;>first|exact pY|exact pZ|exact qA|kernel_rfl
abbrev PZ (K:za)(p:Program):Prop:=
 ((((((MP K (cA K "Ladder") "order" "Ladder.order" (inClass (topP p 45) 2))/\(MP K (cA K "Ladder") "checked_arc" "Ladder.checked_arc" (inClass (topP p 45) 4)))/\(MP K (cA K "Ladder") "cost" "Ladder.cost" (inClass (topP p 45) 5)))/\((MP K (cA K "Ladder") "kept" "Ladder.kept" (inClass (topP p 45) 8))/\(FP K "_law_cell_at" (topP p 47))))/\((((FP K "_law_mix" (topP p 48))/\(FP K "_law_great" (topP p 49)))/\(FP K "_law_whole" (topP p 50)))/\((FP K "_law_is_cost" (topP p 51))/\(FP K "_law_roads" (topP p 52)))))/\(((((FP K "_law_order" (topP p 53))/\(FP K "_law_added" (topP p 54)))/\(FP K "_law_least" (topP p 55)))/\((FP K "_law_open" (topP p 56))/\(FP K "_law_costs" (topP p 57))))/\(((FP K "_law_hubs" (topP p 58))/\(FP K "_law_right" (topP p 59)))/\((zE K mainGlobals "all" = some none)/\(zE K mainGlobals "any" = some none)))))/\((((((zE K mainGlobals "bool" = some none)/\(zE K mainGlobals "dict" = some none))/\(zE K mainGlobals "enumerate" = some none))/\((zE K mainGlobals "int" = some none)/\(zE K mainGlobals "isinstance" = some none)))/\(((zE K mainGlobals "len" = some none)/\(zE K mainGlobals "list" = some none))/\((zE K mainGlobals "min" = some none)/\(zE K mainGlobals "range" = some none))))/\(((((zE K mainGlobals "reversed" = some none)/\(zE K mainGlobals "sorted" = some none))/\(zE K mainGlobals "tuple" = some none))/\((zP K (.ref (cA K "Ladder")) "kept_ones" = some none)/\(zP K (.ref (cA K "Ladder")) "laid" = some none)))/\(((zP K (.ref (cA K "Ladder")) "own_map" = some none)/\(zP K (.ref (cA K "Ladder")) "own_order" = some none))/\((IP K (cA K "Ladder") "Ladder.__init__" (inClass (topP p 45) 0))/\(FP K "law" (topP p 60))))))
def dZ (w:World):PZ (Kp R1 PySem.W.Fast.tw14218315394596529533 w) PySem.W.Fast.tw14218315394596529533:=by
 unfold PZ
 and_intros<;>first|exact pY|exact pZ|exact qA|kernel_rfl
end ci
end
set_option Elab.async false
set_option linter.all false
set_option maxRecDepth 100000
namespace L2
open PySem PySem.Spec PyProof.Rows
noncomputable abbrev Key:=Sum Int Str
abbrev OG:Key->Value->Bool
 | .inl k,v=>Value.isInt k v
 | .inr x,v=>Value.isStrOf x v
abbrev uR (w:World):Key->Int
 | .inl k=>hashInt k
 | .inr x=>hashStr w x
def Bt:∀ {k:Key}{v:Value},OG k v=true->(∃i t,k=Sum.inl i/\v=Value.int i t)\/(∃x t,k=Sum.inr x/\v=Value.str x t)
 | .inl i,v,h=>by
  obtain⟨t,e⟩:=Value.isInt_shape (k:=i) (v:=v) h;exact .inl ⟨i,t,rfl,e⟩
 | .inr x,v,h=>by
  obtain⟨t,e⟩:=Value.isStrOf_shape (x:=x) (v:=v) h;exact .inr ⟨x,t,rfl,e⟩
def Wi (i:Int)(t:Tok):OG (.inl i) (.int i t)=true:=by simp[OG,Value.isInt]
def Wj (x:Str)(t:Tok):OG (.inr x) (.str x t)=true:=by simp[OG,Value.isStrOf]
def lB (a b:Int):decide ((Sum.inl a:Key)=Sum.inl b)=(a==b):=by
 by_cases e:a=b
 ·subst e;simp
 ·have h:¬ (Sum.inl a:Key)=Sum.inl b:=λ q=>e (Sum.inl.inj q);rw[decide_eq_false h];exact (beq_eq_false_iff_ne.mpr e).symm
def lC (a b:Str):decide ((Sum.inr a:Key)=Sum.inr b)=decide (a=b):=by
 by_cases e:a=b
 ·subst e;simp
 ·have h:¬ (Sum.inr a:Key)=Sum.inr b:=λ q=>e (Sum.inr.inj q);rw[decide_eq_false h,decide_eq_false e]
def lD (a:Int)(b:Str):decide ((Sum.inl a:Key)=Sum.inr b)=false:=decide_eq_false (λ q=>nomatch q)
def lE (a:Str)(b:Int):decide ((Sum.inr a:Key)=Sum.inl b)=false:=decide_eq_false (λ q=>nomatch q)
abbrev B8 (prog:Program)(w:World):PySem.KeyKind prog w Key where
 is:=OG
 hash:=uR w
 inj:=λ v a b ha hb=>by
  rcases Bt ha with ⟨i,t,rfl,rfl⟩|⟨x,t,rfl,rfl⟩
  ·rcases Bt hb with ⟨j,u,rfl,e⟩|⟨y,u,rfl,e⟩
   ·injection e with e1 _;rw[e1]
   ·exact nomatch e
  ·rcases Bt hb with ⟨j,u,rfl,e⟩|⟨y,u,rfl,e⟩
   ·exact nomatch e
   ·injection e with e1 _;rw[e1]
 byValue:=λ k v h=>by
  rcases Bt h with ⟨i,t,rfl,rfl⟩|⟨x,t,rfl,rfl⟩<;>rfl
 pyHash:=λ hv h=>by
  rcases Bt hv with ⟨i,t,rfl,rfl⟩|⟨x,t,rfl,rfl⟩
  ·exact wpAny_pyHash_int h
  ·exact wpAny_pyHash_str h
 eqBool:=λ hu hv h=>by
  rcases Bt hu with ⟨i,t,rfl,rfl⟩|⟨x,t,rfl,rfl⟩
  ·rcases Bt hv with ⟨j,u,rfl,rfl⟩|⟨y,u,rfl,rfl⟩
   ·rw[lB] at h;exact wpAny_eqBool_int h
   ·rw[lD] at h;exact SeqAt.EqAt.int_str i t y u _ _ _ _ h
  ·rcases Bt hv with ⟨j,u,rfl,rfl⟩|⟨y,u,rfl,rfl⟩
   ·rw[lE] at h;exact SeqAt.EqAt.str_int x t j u _ _ _ _ h
   ·rw[lC] at h;exact wpAny_eqBool_str h
 «strs»:=λ k x t v h=>by
  rcases Bt h with ⟨i,u,rfl,e⟩|⟨y,u,rfl,e⟩
  ·exact nomatch e
  ·injection e with e1 _
   subst e1;cases v<;>rfl
def RC (prog:Program)(w:World)(i:Int)(t:Tok):(B8 prog w).is (.inl i) (.int i t)=true:=Wi i t
def RD (prog:Program)(w:World)(x:Str)(t:Tok):(B8 prog w).is (.inr x) (.str x t)=true:=Wj x t
inductive V where
 |AK|bl (b:Bool)|int (i:Int)|str (x:Str)|lF (b:Array UInt8)|qG (b:UInt64)|ref (a:Addr)|ty (n:String)
 deriving DecidableEq
abbrev RelV:V->Value->Prop
 | .AK,u=>u=Value.none
 | .bl b,u=>u=Value.bool b
 | .int i,u=>∃t,u=Value.int i t
 | .str x,u=>∃t,u=Value.str x t
 | .lF b,u=>∃t,u=Value.bytes b t
 | .qG b,u=>∃t,u=Value.float b t
 | .ref a,u=>u=yG a
 | .ty n,u=>u=Value.type n
noncomputable abbrev Vals:List V->List Value->Prop:=Paired RelV
def Vals.length {xs:List V}{us:List Value}(r:Vals xs us):xs.length=us.length:=Paired.length r
def Vals.get:∀ {xs:List V}{us:List Value}{i:Nat}{x:V},Vals xs us->xs[i]?=some x->∃u,us[i]?=some u/\RelV x u
 |_,_,_,_,.nil,e=>by simp at e
 |_,_,0,_,.cons r _,e=>by simp at e;subst e;exact⟨_,rfl,r⟩
 |_,_,i+1,x,.cons _ t,e=>by
  obtain⟨u,h1,h2⟩:=Vals.get (i:=i) (x:=x) t (by simpa using e);exact⟨u,by simpa using h1,h2⟩
def Vals.set {x:V}{u:Value}(r:RelV x u):∀ {xs:List V}{us:List Value}(i:Nat),Vals xs us->Vals (xs.set i x) (us.set i u)
 |_,_,_,.nil=>.nil
 |_,_,0,.cons _ t=>.cons r t
 |_,_,i+1,.cons q t=>.cons q (Vals.set r i t)
def Vals.append:∀ {xs ys:List V}{us ws:List Value},Vals xs us->Vals ys ws->Vals (xs++ys) (us++ws)
 |_,_,_,_,.nil,s=>s
 |_,_,_,_,.cons r t,s=>.cons r (Vals.append t s)
def Vals.take:∀ {xs:List V}{us:List Value}(n:Nat),Vals xs us->Vals (xs.take n) (us.take n)
 |_,_,0,_|_,_,_+1,.nil=>.nil
 |_,_,n+1,.cons r t=>.cons r (Vals.take n t)
def Vals.drop:∀ {xs:List V}{us:List Value}(n:Nat),Vals xs us->Vals (xs.drop n) (us.drop n)
 |_,_,0,r=>r
 |_,_,_+1,.nil=>.nil
 |_,_,n+1,.cons _ t=>Vals.drop n t
abbrev G5:Option V->Option Value->Prop
 |some v,some u=>RelV v u
 |none,none=>True
 |_,_=>False
abbrev KV {κ:Type}:List (κ×V)->List (κ×Value)->Prop:=Paired λ(p:κ×V) (q:κ×Value)=>p.1=q.1/\RelV p.2 q.2
abbrev kV:Key->V
 | .inl i=>.int i
 | .inr x=>.str x
inductive HO where
 |lst (xs:List V)
 |tup (xs:List V)
 |dK (kvs:List (Key×V))|dT (kvs:List (List Key×V))
 |set (S:Int->Bool) (n:Nat)
 |ins (C dx:Addr) (fs:List (Str×V))
 |own (x:Addr)
 |xd (fs:List (Str×V))
 |met (f x:Addr)
 |uS (lo hi:Int)
 |XS (o:Obj) (u:HO)
 |lG (ps:Array Value)
 |ext (φ:Heap->Prop)
noncomputable abbrev Hp:=Addr->Option HO
abbrev upd (H:Hp)(a:Addr)(o:HO):Hp:=λ b=>if b=a then some o else H b
def Aq {H:Hp}{a:Addr}{o:HO}:upd H a o a=some o:=by unfold upd;rw[if_pos rfl]
def Ai {H:Hp}{a b:Addr}{o:HO}(h:b≠a):upd H a o b=H b:=by unfold upd;rw[if_neg h]
def qH {H:Hp}{a b:Addr}{o u:HO}(h:H a=some o)(h':H b=some u)(d:o≠u):a≠b:=by
 intro e;subst e;rw[h] at h';exact d (z7 h')
def Ax {H:Hp}{a b:Addr}{o:HO}(h:H a=some o)(h':H b=none):a≠b:=by
 intro e;subst e;rw[h] at h';cases h'
section
variable (P:Program) (w:World)
abbrev BW (H:Hp)(h:Heap)(a:Addr):HO->Prop
 | .lst xs=>xs.length<=sizeLine/\∃(aa:List Value) (n:Nat),Vals xs aa/\h.get? a=some {cls:=.type "list",data:=.seq aa.toArray n}
 | .tup xs=>xs.length<=sizeLine/\∃aa:List Value,Vals xs aa/\IsTup h a aa.toArray
 | .dK kvs=>kvs.length<=sizeLine/\(a==sysModules)=false/\∃vs,KV kvs vs/\h.DictOf (B8 P w) a vs
 | .dT kvs=>kvs.length<=sizeLine/\(a==sysModules)=false/\∃xs:List (List Key×Addr×Value),
  Paired (λ(p:List Key×V) (q:List Key×Addr×Value)=>p.1=q.1/\H q.2.1=some (.tup (p.1.map kV))/\RelV p.2 q.2.2) kvs xs/\
  ∃o es ep,h.get? a=some o/\o.ExactDict/\o.data=.dict es ep/\es.toList=xs.map (entryOfKey (tupleKind (B8 P w)))/\(xs.map (·.1)).Nodup
 | .set S n=>h.SetOf (intKind P w) a S n
 | .ins C dx fs=>H dx=some (.own a)/\fs.length<=1000/\dx≠a/\h.get? a=some (zaf C dx)/\
  ∃mA,h.Ns1 dx mA/\(∀f,G5 (fs.lookup f) (mA f))/\PySem.Within mA (fs.map (·.1))
 | .own _=>∃o,h.get? a=some o
 | .xd fs=>∃mA,h.Ns1 a mA/\∀f,G5 (fs.lookup f) (mA f)
 | .uS lo hi=>∃t u v,h.get? a=some {cls:=.type "range",data:=.fields #[.int lo t,.int hi u,.int 1 v]}
 | .XS o u=>h.get? a=some o/\BW H h a u
 | .lG ps=>h.get? a=some {cls:=.none,data:=.fields ps}
 | .met f x=>h.get? a=some (PySem.W.methodObj (.ref f) (.ref x))
 | .ext φ=>φ h/\(∃o,h.get? a=some o)/\∀h1 h2:Heap,φ h1->(∀o,h1.get? a=some o->h2.get? a=some o)->φ h2
abbrev Ga (H:Hp)(h:Heap):Prop:=∀a o,H a=some o->BW P w H h a o
end
section
variable {P:Program}{w:World}{H H':Hp}{h h':Heap}{a:Addr}{o:HO}
def BW.lt (x:BW P w H h a o):a<h.objs.size:=by
 cases o with
 |lst xs=>obtain⟨_,_,_,_,e⟩:=x;exact zw e
 |tup xs=>obtain⟨_,_,_,p⟩:=x;exact p.lt
 |dK kvs|dT kvs=>obtain⟨_,_,_,_,o,_,_,e,_⟩:=x;exact zw e
 |set S n=>obtain⟨o,_,_,_,e,_⟩:=x;exact zw e
 |ins C dx fs=>obtain⟨_,_,_,e,_⟩:=x;exact zw e
 |own y=>obtain⟨_,e⟩:=x;exact zw e
 |xd fs=>obtain⟨_,⟨_,_,_,e,_⟩,_⟩:=x;exact zw e
 |uS lo hi=>obtain⟨_,_,_,e⟩:=x;exact zw e
 |XS ob u=>obtain⟨e,_⟩:=x;exact zw e
 |lG ps|met f y=>exact zw (show h.get? a=some _ from x)
 |ext φ=>obtain⟨_,⟨_,e⟩,_⟩:=x;exact zw e
def Paired.lH {α β:Type}{F G:α->β->Prop}:∀ {l₁:List α}{l₂:List β},Paired F l₁ l₂->(∀a b,F a b->G a b)->Paired G l₁ l₂
 |_,_,.nil,_=>.nil
 |_,_,.cons r t,f=>.cons (f _ _ r) (Paired.lH t f)
def BW.RE (x:BW P w H h a o)(k:∀b u,(b=a\/H b=some (.own a))->h.get? b=some u->h'.get? b=some u)
 (ho:∀b,H b=some (.own a)->H' b=some (.own a)) (ht:∀b xs,H b=some (.tup xs)->H' b=some (.tup xs)):BW P w H' h' a o:=by
 induction o with
 |lst xs=>obtain⟨z,aa,n,r,e⟩:=x;exact⟨z,aa,n,r,k _ _ (.inl rfl) e⟩
 |tup xs=>obtain⟨z,aa,r,ob,e,c⟩:=x;exact⟨z,aa,r,ob,k _ _ (.inl rfl) e,c⟩
 |dK kvs=>obtain⟨z,y,vs,r,ob,es,ep,e,c⟩:=x;exact⟨z,y,vs,r,ob,es,ep,k _ _ (.inl rfl) e,c⟩
 |dT kvs =>
  obtain⟨z,y,xs,r,ob,es,ep,e,c⟩:=x;exact⟨z,y,xs,Paired.lH r λ p q z=>⟨z.1,ht _ _ z.2.1,z.2.2⟩,ob,es,ep,k _ _ (.inl rfl) e,c⟩
 |set S n=>obtain⟨ob,es,ep,t,e,c⟩:=x;exact⟨ob,es,ep,t,k _ _ (.inl rfl) e,c⟩
 |ins C dx fs =>
  obtain⟨d,z,ne,e,mA,⟨od,es,ep,e2,c⟩,r⟩:=x;exact⟨ho _ d,z,ne,k _ _ (.inl rfl) e,mA,⟨od,es,ep,k _ _ (.inr d) e2,c⟩,r⟩
 |own y=>obtain⟨ob,e⟩:=x;exact⟨ob,k _ _ (.inl rfl) e⟩
 |xd fs=>obtain⟨mA,⟨od,es,ep,e,c⟩,r⟩:=x;exact⟨mA,⟨od,es,ep,k _ _ (.inl rfl) e,c⟩,r⟩
 |uS lo hi=>obtain⟨t,u,v,e⟩:=x;exact⟨t,u,v,k _ _ (.inl rfl) e⟩
 |XS ob u ih=>obtain⟨e,q⟩:=x;exact⟨k _ _ (.inl rfl) e,ih q⟩
 |lG ps =>
  have e:h.get? a=some {cls:=.none,data:=.fields ps}:=x;show h'.get? a=some {cls:=.none,data:=.fields ps};exact k a _ (.inl rfl) e
 |met f y =>
  have e:h.get? a=some (PySem.W.methodObj (.ref f) (.ref y)):=x;show h'.get? a=some (PySem.W.methodObj (.ref f) (.ref y));exact k a _ (.inl rfl) e
 |ext φ=>obtain⟨p,⟨o,e⟩,st⟩:=x;exact⟨st _ _ p λ o q=>k _ _ (.inl rfl) q,⟨o,k _ _ (.inl rfl) e⟩,st⟩
def Ga.lt (x:Ga P w H h)(e:H a=some o):a<h.objs.size:=(x a o e).lt
def Ga.fresh (x:Ga P w H h)(e:h.objs.size<=a):H a=none:=by
 cases q:H a with
 |none=>rfl
 |some u=>exact absurd (z3 (x.lt q) e) (Nat.lt_irrefl _)
def Ga.kept (x:Ga P w H h)(k:∀b u,h.get? b=some u->h'.get? b=some u):Ga P w H h':=λ a o e =>
 (x a o e).RE (λ b u _ q=>k b u q) (λ _ q=>q) λ _ _ q=>q
def Ga.laid (x:Ga P w H h)(k:∀b u,h.get? b=some u->h'.get? b=some u)(hp:h.objs.size<=a)(new:BW P w (upd H a o) h' a o):Ga P w (upd H a o) h':=λ b u e=>by
 have hn:=x.fresh hp;by_cases hb:b=a
 ·subst hb;rw[Aq] at e;cases e;exact new
 ·rw[Ai hb] at e;exact (x b u e).RE (λ c v _ q=>k c v q) (λ c q=>by rw[Ai (Ax q hn)];exact q) λ c xs q=>by rw[Ai (Ax q hn)];exact q
end
abbrev Rd (H:Hp)(a:Addr)(u:HO):Prop:=H a=some u\/∃o,H a=some (.XS o u)
def Rd.ok {P:Program}{w:World}{H:Hp}{h:Heap}{a:Addr}{u:HO}(r:Rd H a u)(x:Ga P w H h):BW P w H h a u:=by
 rcases r with r|⟨o,r⟩
 ·exact x a u r
 ·obtain⟨_,q⟩:=x a _ r;exact q
abbrev qI:Option HO->Prop
 |some (.lst _)|some (.dK _)|some (.dT _)|some (.set _ _)|some (.ins _ _ _)|some (.ext _)=>True
 |_=>False
section
variable {P:Program}{w:World}{H:Hp}{h h':Heap}{x e:Addr}{o':HO}
def Ga.write (ok:Ga P w H h)(mu:qI (H x))(he:e=x\/H e=some (.own x))(k:∀b u,b≠e->h.get? b=some u->h'.get? b=some u)(da:∃u,h'.get? e=some u)
 (new:BW P w (upd H x o') h' x o'):Ga P w (upd H x o') h':=λ b u q=>by
 have g9:∀c y,H c=some (.own y)->c≠x:=λ c y r z=>by subst z;rw[r] at mu;exact mu
 have lb:∀c xs,H c=some (.tup xs)->c≠x:=λ c xs r z=>by subst z;rw[r] at mu;exact mu
 by_cases hb:b=x
 ·subst hb;rw[Aq] at q;cases q;exact new
 ·rw[Ai hb] at q;by_cases d9:b=e
  ·have q':H b=some (.own x):=by
    rcases he with z|z
    ·exact absurd (d9.trans z) hb
    ·rw[d9];exact z
   rw[q] at q';cases q';obtain⟨v,hv⟩:=da;exact⟨v,by rw[d9];exact hv⟩
  ·refine (ok b u q).RE (λ c v hc r=>k c v ?_ r) (λ c r=>by rw[Ai (g9 c b r)];exact r) λ c xs r=>by rw[Ai (lb c xs r)];exact r
   rcases hc with rfl|hc
   ·exact d9
   ·rintro rfl;rcases he with z|z
    ·exact g9 c b hc z
    ·rw[hc] at z;cases z;exact hb rfl
end
structure Un (fs ex:List Addr)(H H':Hp)(h h':Heap):Prop where
 keep:∀b o,h.get? b=some o->H b=none->b∉fs->b∉ex->h'.get? b=some o
 slot:∀b o,h.get? b=some o->H b=none->b∈fs->b∉ex->∃sl,h'.get? b=some {o with slots:=sl}
 free:∀b o,h.get? b=some o->H b=none->b∉ex->H' b=none
 there:∀b o,h.get? b=some o->b∉ex->∃o',h'.get? b=some o'
 Q0:∀b xs,H b=some (.tup xs)->H' b=some (.tup xs)
 Oa:∀b o u,H b=some (.XS o u)->H' b=some (.XS o u)
 Q1:∀b ps,H b=some (.lG ps)->∃more,H' b=some (.lG (ps++more))
section
variable {fs bM ex lc:List Addr}{H H1 H2:Hp}{h h1 h2 h':Heap}{a x e:Addr}{o:HO}
def Un.any (u:Un fs ex H H1 h h1){b:Addr}{ob:Obj}(q:h.get? b=some ob)(n:H b=none)(hx:b∉ex):∃sl,h1.get? b=some {ob with slots:=sl}:=by
 by_cases hb:b∈fs
 ·exact u.slot b ob q n hb hx
 ·exact⟨ob.slots,u.keep b ob q n hb hx⟩
def Un.kept (k:∀b u,h.get? b=some u->h'.get? b=some u):Un fs ex H H h h':=
 ⟨λ b ob q _ _ _=>k b ob q,λ b ob q _ _ _=>⟨ob.slots,k b ob q⟩,λ _ _ _ n _=>n,λ b ob q _=>⟨ob,k b ob q⟩,λ _ _ q=>q,λ _ _ _ q=>q,λ _ ps q=>⟨#[],by rw[q];simp⟩⟩
def Un.refl:Un fs ex H H h h:=Un.kept λ _ _ q=>q
def Un.laid (k:∀b u,h.get? b=some u->h'.get? b=some u)(hp:h.objs.size<=a)(hn:H a=none):Un fs ex H (upd H a o) h h' where
 keep:=λ b u q _ _ _=>k b u q
 slot:=λ b u q _ _ _=>⟨u.slots,k b u q⟩
 free:=λ b u q n _=>by rw[Ai (zD (z3 (zw q) hp))];exact n
 there:=λ b u q _=>⟨u,k b u q⟩
 Q0:=λ b xs q=>by rw[Ai (Ax q hn)];exact q
 Oa:=λ b u xs q=>by rw[Ai (Ax q hn)];exact q
 Q1:=λ b ps q=>⟨#[],by rw[Ai (Ax q hn),q];simp⟩
def Un.write (mu:qI (H x))(he:e=x\/H e=some (.own x))(k:∀b u,b≠e->h.get? b=some u->h'.get? b=some u)(da:∃u,h'.get? e=some u):Un fs ex H (upd H x o) h h':=by
 have hx:∀b,H b=none->b≠x:=λ b n z=>by subst z;rw[n] at mu;exact mu
 have hb:∀b,H b=none->b≠e:=λ b n z=>by
  subst z;rcases he with r|r
  ·exact hx b n r
  ·rw[n] at r;cases r
 have hm:∀b u,H b=some u->¬ qI (some u)->b≠x:=λ b u q nm z=>by subst z;rw[q] at mu;exact nm mu
 refine⟨λ b u q n _ _=>k b u (hb b n) q,λ b u q n _ _=>⟨u.slots,k b u (hb b n) q⟩,λ b u q n _=>by rw[Ai (hx b n)];exact n,λ b u q _=>?_,
  λ b xs q=>by rw[Ai (hm b _ q λ z=>z)];exact q,λ b u xs q=>by rw[Ai (hm b _ q λ z=>z)];exact q,λ b ps q=>⟨#[],by rw[Ai (hm b _ q λ z=>z),q];simp⟩⟩
 by_cases d9:b=e
 ·subst d9;exact da
 ·exact⟨u,k b u d9 q⟩
end
abbrev BX (h:Heap)(H:Hp):List Addr:=(yO h.objs.size).filter λ a=>(H a).isSome
abbrev Q2 (h:Heap)(H:Hp):Heap:=PySem.W.hideAll h (BX h H)
def Wl (h:Heap)(H:Hp):(Q2 h H).objs.size=h.objs.size:=PySem.W.hideAll_size _ _
def XZ {h:Heap}{H:Hp}{b:Addr}{o:Obj}(e:h.get? b=some o)(n:H b=none):(Q2 h H).get? b=some o:=
 PySem.W.hideAll_get _ e λ hm=>by
  have q:(H b).isSome=true:=(yH.mp hm).2;rw[n] at q;simp at q
def eA {h:Heap}{H:Hp}{b:Addr}{o:Obj}(e:(Q2 h H).get? b=some o):h.get? b=some o/\H b=none:=by
 have e':h.get? b=some o:=PySem.W.of_hideAll (BX h H) e;refine⟨e',?_⟩;cases q:H b with
 |none=>rfl
 |some x =>
  have hm:b∈BX h H:=yH.mpr ⟨zao.mpr (zw e'),by simp[q]⟩;have z:(Q2 h H).get? b=none:=PySem.W.hideAll_none (BX h H) hm;rw[z] at e;cases e
abbrev eB (g h:Heap)(L:Addr):List (Addr×Obj):=(yO h.objs.size).filterMap λ a=>if a=L\/(g.get? a).isSome=true then none else (h.get? a).map λ o=>(a,o)
abbrev rest (g h:Heap)(L d:Addr):List (Addr×Obj):=(eB g h L).filter λ p=>decide (p.1≠d)
structure Mod (K:za)(mg:Str->Option Value)(base:Heap):Prop where
 XT:K.In base
 glob:base.Ns mainGlobals mg
 blt:∃mb,base.Ns builtinsNs mb/\∀x:Str,x ≠ "__name__" -> mb x=bootBuiltins x
 nolimit:base.NoLimit
structure Cx where
 prog:Program
 w:World
 K:za
 mg:Str->Option Value
 base:Heap
 A:Around
 N:List Str
 s₀:Shared
 H₀:Hp
 env:Env
 outer:List Env
 stack:List Env
 ex:List Addr
 fn:Str->Bool
 calm:Bool
 pn:List (Addr×Obj)
 xe:Value->Shared->Prop
abbrev XU (l:List Env):List Addr:=l.filterMap (·.frame)
noncomputable abbrev Cx.fs (X:Cx):List Addr:=XU X.outer
abbrev uT (sc:Scope)(x:Str):Prop:=sc.names.lookup x=some .local\/sc.names.lookup x=some .cell\/sc.names.lookup x=some .free
abbrev Loc (sc:Scope)(x:Str):Prop:=sc.names.lookup x=some .local\/sc.names.lookup x=some .cell
abbrev Look (env:Env)(h:Heap)(m:Str->Option Value)(x:Str)(u:Value):Prop:=
 (env.kindOf x=some .local/\m x=some u)\/((env.kindOf x=some .cell\/env.kindOf x=some .free)/\∃c,env.cells.lookup x=some c/\h.IsCell c (some u))
structure Cx.Ok (X:Cx):Prop where
 mod:Mod X.K X.mg X.base
 kind:X.env.scope.kind=.function
 glob:X.env.globals=mainGlobals
 blt:X.env.builtins=builtinsNs
 above:X.s₀.heap.objs.size<=X.env.locals
 inj:∀x y c,X.env.cells.lookup x=some c->X.env.cells.lookup y=some c->x=y
 has:∀x,(X.env.kindOf x=some .cell\/X.env.kindOf x=some .free)->∃c,X.env.cells.lookup x=some c
 qJ:∀x c,X.fn x=true->X.env.cells.lookup x=some c->X.s₀.heap.objs.size<=c
 hd:X.calm=true->X.A.handled=none
 frames:X.A.frames=some X.stack
 tU:X.stack=X.outer\/(X.stack=X.env::X.outer/\X.env.frame=some X.env.locals)
 tV:∀b∈X.ex,b≠X.env.locals/\∀x c,X.env.cells.lookup x=some c->c≠b
 bs:∀b o,X.base.get? b=some o->X.s₀.heap.get? b=some o/\X.H₀ b=none
 eC:X.base.objs.size<=X.s₀.heap.objs.size
 Y0:∀b o,X.base.get? b=some o->b∉X.ex
 Y1:∀b∈X.ex,b∉X.fs
 Kv:X.s₀.heap.FunFrames X.base X.outer
 lI:∀b∈X.fs,X.H₀ b=none
structure Inv (X:Cx)(pins:List (Addr×Obj))(σ:List (Option V))(H:Hp)(s:Shared):Prop where
 ok:X.Ok
 os:s.os=X.s₀.os
 bare:AllBare s.gens
 base:Un X.fs X.ex X.H₀ H X.s₀.heap s.heap
 loc:∃m,s.heap.Ns X.env.locals m/\∀(i:Nat) (x:Str) (v:V),X.N[i]?=some x->σ[i]?=some (some v)->uT X.env.scope x->∃u,RelV v u/\Look X.env s.heap m x u
 cell:∀x c,X.env.cells.lookup x=some c->∃v,s.heap.IsCell c v
 free:H X.env.locals=none
 Ge:∀x c,X.env.cells.lookup x=some c->H c=none
 pin:∀p∈X.pn++pins,s.heap.get? p.1=some p.2/\H p.1=none/\p.1≠X.env.locals/\p.1∉X.fs/\∀v,p.2.data≠.cell v
 Au:Ga X.prog X.w H s.heap
 len:σ.length=X.N.length
section
variable {X:Cx}{pins:List (Addr×Obj)}{σ:List (Option V)}{H H':Hp}{s:Shared}{h':Heap}
def Cx.Ok.uU (ok:X.Ok){b:Addr}{o:Obj}(e:X.base.get? b=some o):b∉X.fs:=λ hb=>by
 have:=(ok.Kv.mem hb).1;rw[e] at this;cases this
def Inv.bs (I:Inv X pins σ H s):∀b o,X.base.get? b=some o->s.heap.get? b=some o/\H b=none:=λ b o e =>
 ⟨I.base.keep b o (I.ok.bs b o e).1 (I.ok.bs b o e).2 (I.ok.uU e) (I.ok.Y0 b o e),I.base.free b o (I.ok.bs b o e).1 (I.ok.bs b o e).2 (I.ok.Y0 b o e)⟩
def Inv.bk (I:Inv X pins σ H s):∀b o,X.base.get? b=some o->s.heap.get? b=some o:=λ b o e=>(I.bs b o e).1
def Inv.mod (I:Inv X pins σ H s):Mod X.K X.mg X.base:=I.ok.mod
def Inv.Mv (I:Inv X pins σ H s):X.K.In s.heap:=I.ok.mod.XT.keeps I.bk
def Inv.fr (I:Inv X pins σ H s):∃m,Fr X.base X.env.locals s.heap m:=
 let ⟨m,hn,_⟩:=I.loc
 ⟨m,hn,I.bk,zZ I.ok.eC I.ok.above⟩
def Inv.lt (I:Inv X pins σ H s):X.env.locals<s.heap.objs.size:=let ⟨_,hn,_⟩:=I.loc;hn.lt
def Inv.sz (I:Inv X pins σ H s):X.s₀.heap.objs.size<=s.heap.objs.size:=zZ I.ok.above (yN I.lt)
def Inv.uV (I:Inv X pins σ H s){a:Addr}(h:s.heap.objs.size<=a):a∉X.fs:=λ hb=>by
 obtain⟨_,o,ho,_⟩:=I.ok.Kv.mem hb;exact absurd (z3 (zw ho) (zZ I.sz h)) (Nat.lt_irrefl _)
def Inv.lJ (I:Inv X pins σ H s):∀x c,X.env.cells.lookup x=some c->c≠X.env.locals:=λ x c e z=>by
 obtain⟨v,o,ho,hd⟩:=I.cell x c e;obtain⟨m,⟨o',es,ep,bi,ba,_⟩,_⟩:=I.loc;rw[z,bi] at ho;cases ho;rw[ba] at hd;cases hd
def Inv.Kv (I:Inv X pins σ H s):s.heap.FunFrames X.base X.outer:=by
 have all:∀(l:List Env),(∀b∈XU l,b∈X.fs)->X.s₀.heap.FunFrames X.base l->s.heap.FunFrames X.base l:=by
  intro l;induction l with
  |nil=>intro _ _;trivial
  |cons env r ih =>
   intro hs hl;obtain⟨hk,⟨L,o,hf,hn,ho,hd⟩,hr⟩:=hl;have hL:L∈X.fs:=hs L (by unfold XU;rw[zab,hf];exact zd);obtain⟨sl,e⟩:=I.base.slot L o ho (I.ok.lI L hL) hL λ z=>I.ok.Y1 L z hL;exact⟨hk,⟨L,_,hf,hn,e,hd⟩,ih (λ b hb=>hs b (by unfold XU;rw[zab,hf];exact ze _ hb)) hr⟩
 exact all X.outer (λ _ hb=>hb) I.ok.Kv
def Inv.stack (I:Inv X pins σ H s):s.heap.FunFrames X.base X.stack:=by
 rcases I.ok.tU with e|⟨e,hf⟩
 ·rw[e];exact I.Kv
 ·rw[e];obtain⟨m,hn,_⟩:=I.loc;refine .cons (by rw[I.ok.kind];decide) hf hn ?_ I.Kv;exact Heap.get?_none_of_le (zZ I.ok.eC I.ok.above)
def Inv.TQ (I:Inv X pins σ H s):∀b∈XU X.stack,b∈X.env.locals::X.fs:=λ b hb=>by
 rcases I.ok.tU with e|⟨e,hf⟩
 ·rw[e] at hb;exact ze _ hb
 ·rw[e] at hb;unfold XU at hb;rw[zab,hf] at hb;exact hb
def Inv.V3 (I:Inv X pins σ H s):∀b∈XU X.stack,H b=none:=λ b hb=>by
 rcases zq.mp (I.TQ b hb) with e|hb
 ·rw[e];exact I.free
 ·obtain⟨_,o,ho,_⟩:=I.ok.Kv.mem hb;exact I.base.free b o ho (I.ok.lI b hb) λ z=>I.ok.Y1 b z hb
def Inv.step {g':Array GenState}{t':Nat}{d':Drawn}{ch:List Addr}(I:Inv X pins σ H s)
 (ce:∀b∈ch,(b∈X.ex\/X.s₀.heap.objs.size<=b)/\b≠X.env.locals/\(∀x c,X.env.cells.lookup x=some c->c≠b)/\∀p∈X.pn++pins,p.1≠b)
 (keep:∀b o,b≠X.env.locals->b∉X.fs->b∉ch->s.heap.get? b=some o->H b=none->h'.get? b=some o)
 (slot:∀b o,b≠X.env.locals->b∈X.fs->b∉ch->s.heap.get? b=some o->H b=none->∃sl,h'.get? b=some {o with slots:=sl}) (free:∀b o,b∉ch->s.heap.get? b=some o->H b=none->H' b=none)
 (there:∀b o,b∉ch->s.heap.get? b=some o->∃o',h'.get? b=some o')
 (Q0:∀b xs,H b=some (.tup xs)->H' b=some (.tup xs)) (Oa:∀b o u,H b=some (.XS o u)->H' b=some (.XS o u)) (Q1:∀b ps,H b=some (.lG ps)->∃more,H' b=some (.lG (ps++more)))
 (ns:∀m,s.heap.Ns X.env.locals m->h'.Ns X.env.locals m) (Au:Ga X.prog X.w H' h') (hg:AllBare g'):
 Inv X pins σ H' {s with heap:=h',gens:=g',drawn:=d',toks:=t' }:=by
 have qe:∀b o,X.s₀.heap.get? b=some o->b≠X.env.locals:=λ b o e=>zD (z3 (zw e) I.ok.above);have gp:∀b o,X.s₀.heap.get? b=some o->b∉X.ex->b∉ch:=λ b o e hx hb=>by
  rcases (ce b hb).1 with z|z
  ·exact hx z
  ·exact absurd (z3 (zw e) z) (Nat.lt_irrefl _)
 have cellK:∀x c,X.env.cells.lookup x=some c->∀v,s.heap.IsCell c v->h'.IsCell c v:=λ x c e v ⟨o,ho,hd⟩=>by
  have h7:c∉ch:=λ z=>(ce c z).2.2.1 x c e rfl;by_cases hc:c∈X.fs
  ·obtain⟨sl,q⟩:=slot c o (I.lJ x c e) hc h7 ho (I.Ge x c e);exact⟨_,q,hd⟩
  ·exact⟨o,keep c o (I.lJ x c e) hc h7 ho (I.Ge x c e),hd⟩
 refine⟨I.ok,I.os,hg,⟨λ b o e n hb hx=>?_,λ b o e n hb hx=>?_,λ b o e n hx=>?_,λ b o e hx=>?_,λ b xs e=>Q0 b xs (I.base.Q0 b xs e),λ b o xs e=>Oa b o xs (I.base.Oa b o xs e),λ b ps e=>?_⟩,?_,λ x c e=>?_,?_,λ x c e=>?_,λ p hp=>?_,Au,I.len⟩
 ·exact keep b o (qe b o e) hb (gp b o e hx) (I.base.keep b o e n hb hx) (I.base.free b o e n hx)
 ·obtain⟨sl,e1⟩:=I.base.slot b o e n hb hx;obtain⟨tf,e2⟩:=slot b _ (qe b o e) hb (gp b o e hx) e1 (I.base.free b o e n hx);exact⟨tf,e2⟩
 ·obtain⟨o',e1⟩:=I.base.there b o e hx;exact free b o' (gp b o e hx) e1 (I.base.free b o e n hx)
 ·obtain⟨o',e1⟩:=I.base.there b o e hx;exact there b o' (gp b o e hx) e1
 ·obtain⟨m1,e1⟩:=I.base.Q1 b ps e;obtain⟨m2,e2⟩:=Q1 b _ e1;exact⟨m1++m2,by rw[e2,Array.append_assoc]⟩
 ·obtain⟨m,hn,hl⟩:=I.loc;refine⟨m,ns m hn,λ i x v e1 e2 e3=>?_⟩;obtain⟨u,r,l⟩:=hl i x v e1 e2 e3;refine⟨u,r,?_⟩;rcases l with l|⟨k,c,e,z⟩
  ·exact .inl l
  ·exact .inr ⟨k,c,e,cellK x c e _ z⟩
 ·obtain⟨v,z⟩:=I.cell x c e;exact⟨v,cellK x c e v z⟩
 ·obtain⟨m,⟨o,_,_,ho,_⟩,_⟩:=I.loc;exact free _ o (λ z=>(ce _ z).2.1 rfl) ho I.free
 ·obtain⟨v,o,ho,hd⟩:=I.cell x c e;exact free c o (λ z=>(ce c z).2.2.1 x c e rfl) ho (I.Ge x c e)
 ·obtain⟨e,n,ne,nf,d⟩:=I.pin p hp;have h7:p.1∉ch:=λ z=>(ce p.1 z).2.2.2 p hp rfl;exact⟨keep p.1 p.2 ne nf h7 e n,free p.1 p.2 h7 e n,ne,nf,d⟩
def Inv.un {t':Nat}(I:Inv X pins σ H s)(u:Un X.fs [] H H' s.heap h')(Au:Ga X.prog X.w H' h'):Inv X pins σ H' {s with heap:=h',toks:=t' }:=by
 obtain⟨m,⟨o,es,ep,ho,r⟩,_⟩:=id I.loc;obtain⟨sl,hL⟩:=u.any ho I.free (by simp);exact I.step (g':=s.gens) (d':=s.drawn) (ch:=[]) (λ _ z=>nomatch z) (λ b o _ hb _ e n=>u.keep b o e n hb (by simp)) (λ b o _ hb _ e n=>u.slot b o e n hb (by simp)) (λ b o _ e n=>u.free b o e n (by simp)) (λ b o _ e=>u.there b o e (by simp)) u.Q0 u.Oa u.Q1 (λ m' hm=>by
  obtain⟨o',lf,lg,bi,r'⟩:=hm;rw[ho] at bi;cases bi;exact⟨_,lf,lg,hL,r'⟩) Au I.bare
def Inv.call {g':Array GenState}{t':Nat}{d':Drawn}{ch:List Addr}(I:Inv X pins σ H s)(u:Un (XU X.stack) ch H H' s.heap h')(Au:Ga X.prog X.w H' h')(hg:AllBare g')
 (ce:∀b∈ch,(b∈X.ex\/X.s₀.heap.objs.size<=b)/\b≠X.env.locals/\(∀x c,X.env.cells.lookup x=some c->c≠b)/\∀p∈X.pn++pins,p.1≠b):
 Inv X pins σ H' {s with heap:=h',gens:=g',drawn:=d',toks:=t' }:=by
 obtain⟨m,⟨o,es,ep,ho,r⟩,_⟩:=id I.loc;obtain⟨sl,hL⟩:=u.any ho I.free λ z=>(ce _ z).2.1 rfl;exact I.step (ch:=ch) ce (λ b o hL hb hc e n=>u.keep b o e n (λ z=>(zq.mp (I.TQ b z)).elim hL hb) hc) (λ b o _ _ hc e n=>u.any e n hc) (λ b o hc e n=>u.free b o e n hc) (λ b o hc e=>u.there b o e hc) u.Q0 u.Oa u.Q1 (λ m' hm=>by
  obtain⟨o',lf,lg,bi,r'⟩:=hm;rw[ho] at bi;cases bi;exact⟨_,lf,lg,hL,r'⟩) Au hg
def Inv.turned {t':Nat}{it:Addr}(I:Inv X pins σ H s)(k:∀b o,b≠it->s.heap.get? b=some o->h'.get? b=some o)(hn:H it=none)(hL:it≠X.env.locals)
 (h1:it∈X.ex\/X.s₀.heap.objs.size<=it) (h2:∀x c,X.env.cells.lookup x=some c->c≠it) (h3:∀p∈X.pn++pins,p.1≠it):Inv X pins σ H {s with heap:=h',toks:=t' }:=by
 have qg:∀b u,H b=some u->b≠it:=λ b u e z=>by rw[z,hn] at e;cases e
 refine I.step (g':=s.gens) (d':=s.drawn) (ch:=[it]) (λ b hb=>?_) (λ b o _ _ hc e _=>k b o (λ z=>hc (by simp[z])) e) (λ b o _ _ hc e _=>⟨o.slots,k b o (λ z=>hc (by simp[z])) e⟩) (λ _ _ _ _ n=>n)
  (λ b o hc e=>⟨o,k b o (λ z=>hc (by simp[z])) e⟩) (λ _ _ e=>e) (λ _ _ _ e=>e) (λ b ps e=>⟨#[],by rw[e];simp⟩) (λ m hm=>?_) (λ b u e=>?_) I.bare
 ·have e:b=it:=by simpa using hb
  subst e;exact⟨h1,hL,h2,h3⟩
 ·obtain⟨o,es,ep,ho,r⟩:=hm;exact⟨o,es,ep,k _ o (zY hL) ho,r⟩
 ·refine (I.Au b u e).RE (λ c v hc q=>k c v ?_ q) (λ _ q=>q) λ _ _ q=>q;rcases hc with z|z
  ·rw[z];exact qg b u e
  ·exact qg c _ z
def Inv.tok (I:Inv X pins σ H s)(t:Nat):Inv X pins σ H {s with toks:=t}:=I.un (h':=s.heap) (t':=t) Un.refl I.Au
def Inv.kept {t':Nat}(I:Inv X pins σ H s)(k:∀b u,s.heap.get? b=some u->h'.get? b=some u):Inv X pins σ H {s with heap:=h',toks:=t' }:=I.un (Un.kept k) (I.Au.kept k)
def Inv.laid {a:Addr}{o:HO}{t':Nat}(I:Inv X pins σ H s)(k:∀b u,s.heap.get? b=some u->h'.get? b=some u)(hp:s.heap.objs.size<=a)(new:BW X.prog X.w (upd H a o) h' a o):
 Inv X pins σ (upd H a o) {s with heap:=h',toks:=t' }:=I.un (Un.laid k hp (I.Au.fresh hp)) (I.Au.laid k hp new)
def Inv.write {x e:Addr}{o:HO}{t':Nat}(I:Inv X pins σ H s)(mu:qI (H x))(he:e=x\/H e=some (.own x))(k:∀b u,b≠e->s.heap.get? b=some u->h'.get? b=some u)(da:∃u,h'.get? e=some u)
 (new:BW X.prog X.w (upd H x o) h' x o):Inv X pins σ (upd H x o) {s with heap:=h',toks:=t' }:=I.un (Un.write mu he k da) (I.Au.write mu he k da new)
def Inv.weak {σ':List (Option V)}(I:Inv X pins σ H s)(hl:σ'.length=σ.length)(w:∀(i:Nat) v,σ'[i]?=some (some v)->σ[i]?=some (some v)):Inv X pins σ' H s:=
 ⟨I.ok,I.os,I.bare,I.base,let ⟨m,hn,h8⟩:=I.loc;⟨m,hn,λ i x v e1 e2 e3=>h8 i x v e1 (w i v e2) e3⟩,I.cell,I.free,I.Ge,I.pin,I.Au,hl.trans I.len⟩
def Inv.J5 {db:List (Addr×Obj)}(I:Inv X pins σ H s)(h:∀p∈db,s.heap.get? p.1=some p.2/\H p.1=none/\p.1≠X.env.locals/\p.1∉X.fs/\∀v,p.2.data≠.cell v):Inv X db σ H s:=
 ⟨I.ok,I.os,I.bare,I.base,I.loc,I.cell,I.free,I.Ge,λ p hp=>(zy.mp hp).elim (λ z=>I.pin p (zJ _ z)) (h p),I.Au,I.len⟩
def RF {N:List Str}(hN:N.Nodup){i j:Nat}{x:Str}(a:N[i]?=some x)(b:N[j]?=some x):i=j:=by
 obtain⟨h1,e1⟩:=zx.mp a;obtain⟨h2,e2⟩:=zx.mp b;exact (List.getElem_inj hN).mp (e1.trans e2.symm)
def OH {M:Model}{A:Around}{E:Value->Shared->Prop}{i:Nat}{x:Str}{v:V}{u:Value}{Q:Unit->Shared->Prop}(I:Inv X pins σ H s)(hN:X.N.Nodup)(hi:X.N[i]?=some x)(hx:Loc X.env.scope x)(r:RelV v u)
 (h:∀s',Inv X pins (σ.set i (some v)) H s'->(∃a,Heap.SameBut a s.heap s'.heap/\(a=X.env.locals\/X.env.cells.lookup x=some a))->Q () s') (hf:X.fn x=true\/X.env.scope.names.lookup x=some .local:=by first|exact .inl rfl|exact .inr rfl|assumption):wpAny M A (storeName X.env x u) Q E s:=by
 obtain⟨m,hn,hl⟩:=id I.loc;have lh:(X.env.scope.kind==.class||(X.env.scope.kind==.module&&X.env.locals != X.env.globals))=false:=by rw[I.ok.kind];rfl
 have hiσ:i<σ.length:=by rw[I.len];exact (zx.mp hi).1
 have lJ:=I.lJ;have tracked:∀ {a:Addr} {h':Heap},(∃o,s.heap.get? a=some o/\H a=none)->Heap.SameBut a s.heap h'->Ga X.prog X.w H h':=fun {a h'} ha hs b ob e=>by
  obtain⟨_,_,de⟩:=ha;refine (I.Au b ob e).RE (λ c w' hc q=>(hs.2 c ?_).trans q) (λ _ q=>q) λ _ _ q=>q;rintro rfl;rcases hc with rfl|hc
  ·rw[de] at e;cases e
  ·rw[de] at hc;cases hc
 rcases hx with hk|hk
 ·refine wpAny_storeName_local hk hn (λ h' bB hs=>?_) lh;obtain⟨oL,_,_,tj,_⟩:=id hn;refine h _ ⟨I.ok,I.os,I.bare,⟨λ b o e n hb hx=>?_,λ b o e n hb hx=>?_,I.base.free,λ b o e hx=>?_,I.base.Q0,I.base.Oa,I.base.Q1⟩,⟨_,bB,λ j y v' e1 e2 e3=>?_⟩,λ y c e=>?_,I.free,I.Ge,λ p hp=>?_,tracked ⟨oL,tj,I.free⟩ hs,by simpa using I.len⟩ ⟨_,hs,.inl rfl⟩
  ·exact (hs.2 b (zD (z3 (zw e) I.ok.above))).trans (I.base.keep b o e n hb hx)
  ·obtain⟨sl,e1⟩:=I.base.slot b o e n hb hx;exact⟨sl,(hs.2 b (zD (z3 (zw e) I.ok.above))).trans e1⟩
  ·obtain⟨o',e1⟩:=I.base.there b o e hx;exact⟨o',(hs.2 b (zD (z3 (zw e) I.ok.above))).trans e1⟩
  ·by_cases hj:j=i
   ·subst hj;rw[hi] at e1;cases e1;rw[zI hiσ] at e2;cases e2;exact⟨u,r,.inl ⟨hk,by simp⟩⟩
   ·rw[yL (zY hj)] at e2;obtain⟨u',r',q⟩:=hl j y v' e1 e2 e3;refine⟨u',r',?_⟩;rcases q with ⟨k,e⟩|⟨k,c,e,z⟩
    ·refine .inl ⟨k,?_⟩;have:y≠x:=λ e=>hj (RF hN e1 (e▸hi));simp[this,e]
    ·exact .inr ⟨k,c,e,z.sameBut hs (lJ y c e)⟩
  ·obtain⟨w',z⟩:=I.cell y c e;exact⟨w',z.sameBut hs (lJ y c e)⟩
  ·obtain⟨e,n,ne,nf,d⟩:=I.pin p hp;exact⟨(hs.2 p.1 ne).trans e,n,ne,nf,d⟩
 ·have li:X.fn x=true:=by
   rcases hf with z|z
   ·exact z
   ·rw[z] at hk;cases hk
  obtain⟨c,hc⟩:=I.ok.has x (.inl hk);obtain⟨w',z⟩:=I.cell x c hc;refine wpAny_storeName_cell I.ok.kind hk hc z (λ h' b6 hs=>?_);obtain⟨oc,qh,lj⟩:=id z;refine h {s with heap:=h' } ⟨I.ok,I.os,I.bare,⟨λ b o e n hb hx=>?_,λ b o e n hb hx=>?_,I.base.free,λ b o e hx=>?_,I.base.Q0,I.base.Oa,I.base.Q1⟩,⟨m,hn.sameBut hs (zY (lJ x c hc)),λ j y v' e1 e2 e3=>?_⟩,λ y c' e=>?_,I.free,I.Ge,λ p hp=>?_,tracked ⟨oc,qh,I.Ge x c hc⟩ hs,by simpa using I.len⟩ ⟨c,hs,.inr hc⟩
  ·exact (hs.2 b (zD (z3 (zw e) (I.ok.qJ x c li hc)))).trans (I.base.keep b o e n hb hx)
  ·obtain⟨sl,e1⟩:=I.base.slot b o e n hb hx;exact⟨sl,(hs.2 b (zD (z3 (zw e) (I.ok.qJ x c li hc)))).trans e1⟩
  ·obtain⟨o',e1⟩:=I.base.there b o e hx;exact⟨o',(hs.2 b (zD (z3 (zw e) (I.ok.qJ x c li hc)))).trans e1⟩
  ·by_cases hj:j=i
   ·subst hj;rw[hi] at e1;cases e1;rw[zI hiσ] at e2;cases e2;exact⟨u,r,.inr ⟨.inl hk,c,hc,b6⟩⟩
   ·rw[yL (zY hj)] at e2;obtain⟨u',r',q⟩:=hl j y v' e1 e2 e3;refine⟨u',r',?_⟩;rcases q with q|⟨k,c',e,z'⟩
    ·exact .inl q
    ·refine .inr ⟨k,c',e,z'.sameBut hs ?_⟩;rintro rfl;exact hj (RF hN e1 (I.ok.inj _ _ _ e hc▸hi))
  ·by_cases gq:c'=c
   ·subst gq;exact⟨_,b6⟩
   ·obtain⟨w2,z2⟩:=I.cell y c' e;exact⟨w2,z2.sameBut hs gq⟩
  ·obtain⟨e,n,ne,nf,d⟩:=I.pin p hp;refine⟨(hs.2 p.1 ?_).trans e,n,ne,nf,d⟩;intro q;rw[q,qh] at e;have q':oc=p.2:=z7 e;exact d w' (by rw[<-q'];exact lj)
def RG {M:Model}{A:Around}{E:Value->Shared->Prop}{i:Nat}{x:Str}{v:V}{u:Value}{Q:Unit->Shared->Prop}(I:Inv X pins σ H s)(hN:X.N.Nodup)(hi:X.N[i]?=some x)(hx:Loc X.env.scope x)(r:RelV v u)
 (h:∀s',Inv X pins (σ.set i (some v)) H s'->Q () s') (hf:X.fn x=true\/X.env.scope.names.lookup x=some .local:=by first|exact .inl rfl|exact .inr rfl|assumption):wpAny M A (storeName X.env x u) Q E s:=
 OH I hN hi hx r (λ s' I' _=>h s' I') hf
def Inv.qK {s':Shared}{ch:List Addr}(I:Inv X pins σ H s)(ho:s'.os=s.os)(u:Un (XU X.stack) ch H H' s.heap s'.heap)(Au:Ga X.prog X.w H' s'.heap)(hg:AllBare s'.gens)
 (ce:∀b∈ch,(b∈X.ex\/X.s₀.heap.objs.size<=b)/\b≠X.env.locals/\(∀x c,X.env.cells.lookup x=some c->c≠b)/\∀p∈X.pn++pins,p.1≠b):Inv X pins σ H' s':=by
 obtain⟨h',g',d',t',o'⟩:=s';have e:o'=s.os:=ho;subst e;exact I.call (g':=g') (t':=t') (d':=d') u Au hg ce
end
noncomputable abbrev XK:=Value->Option Addr->Hp->Prop
noncomputable abbrev St:=List (Option V)
noncomputable abbrev VK:=V->Hp->Prop
noncomputable abbrev TE:=St->Hp->VK->Prop
noncomputable abbrev TT:=St->Hp->(Bool->Hp->Prop)->Prop
noncomputable abbrev TA:=St->Hp->(List V->Hp->Prop)->Prop
structure Ends where
 nx:St->Hp->Prop
 rt:VK
 bk:St->Hp->Prop:=λ _ _=>False
 ct:St->Hp->Prop:=λ _ _=>False
noncomputable abbrev TS:=Ends->St->Hp->Prop
abbrev EP (X:Cx)(pins:List (Addr×Obj))(σ:St)(Q:VK)(u:Value)(s':Shared):Prop:=∃v H',Inv X pins σ H' s'/\RelV v u/\Q v H'
abbrev TP (X:Cx)(pins:List (Addr×Obj))(σ:St)(Q:Bool->Hp->Prop)(b:Bool)(s':Shared):Prop:=∃H',Inv X pins σ H' s'/\Q b H'
abbrev AP (X:Cx)(pins:List (Addr×Obj))(σ:St)(Q:List V->Hp->Prop)(us:List Value)(s':Shared):Prop:=∃vs H',Inv X pins σ H' s'/\Vals vs us/\Q vs H'
abbrev SP (X:Cx)(pins:List (Addr×Obj))(D:Ends)(f:Flow)(s':Shared):Prop:=
 match f with
 | .next=>∃σ' H',Inv X pins σ' H' s'/\D.nx σ' H'
 | .brk=>∃σ' H',Inv X pins σ' H' s'/\D.bk σ' H'
 | .cont=>∃σ' H',Inv X pins σ' H' s'/\D.ct σ' H'
 | .ret u=>∃v σ' H',Inv X pins σ' H' s'/\RelV v u/\D.rt v H'
abbrev PE (X:Cx)(e:Expr)(t:TE):Prop:=
 ∀(pins:List (Addr×Obj)) (s:Shared) (σ:St) (H:Hp) (Q:VK),Inv X pins σ H s->t σ H Q->wpAny (model X.prog X.w) X.A (eval e X.env) (EP X pins σ Q) X.xe s
abbrev PT (X:Cx)(e:Expr)(t:TT):Prop:=
 ∀(pins:List (Addr×Obj)) (s:Shared) (σ:St) (H:Hp) (Q:Bool->Hp->Prop),Inv X pins σ H s->t σ H Q->wpAny (model X.prog X.w) X.A (isTrue e X.env (eval e X.env)) (TP X pins σ Q) X.xe s
abbrev PW (X:Cx)(e:Expr)(t:TT):Prop:=
 ∀(whole:Sem Value) (pins:List (Addr×Obj)) (s:Shared) (σ:St) (H:Hp) (Q:Bool->Hp->Prop),Inv X pins σ H s->t σ H Q->wpAny (model X.prog X.w) X.A (isTrue e X.env whole) (TP X pins σ Q) X.xe s
def PW.pt {X:Cx}{e:Expr}{t:TT}(h:PW X e t):PT X e t:=h _
abbrev PA (X:Cx)(es:List Expr)(t:TA):Prop:=
 ∀(pos:Pos) (pins:List (Addr×Obj)) (s:Shared) (σ:St) (H:Hp) (Q:List V->Hp->Prop),Inv X pins σ H s->t σ H Q->wpAny (model X.prog X.w) X.A (spliced (backTo pos (starEach es X.env))) (AP X pins σ Q) X.xe s
abbrev PS (X:Cx)(st:Stmt)(t:TS):Prop:=
 ∀(pins:List (Addr×Obj)) (s:Shared) (σ:St) (H:Hp) (D:Ends),Inv X pins σ H s->t D σ H->wpAny (model X.prog X.w) X.A (exec st X.env) (SP X pins D) X.xe s
abbrev V4 (X:Cx)(st:List Stmt)(t:TS):Prop:=
 ∀(pins:List (Addr×Obj)) (s:Shared) (σ:St) (H:Hp) (D:Ends),Inv X pins σ H s->t D σ H->wpAny (model X.prog X.w) X.A (execs st X.env) (SP X pins D) X.xe s
def Bi {α:Type}{t:Sem α}{Q Q':α->Shared->Prop}{M:Model}{A:Around}{E:Value->Shared->Prop}{s:Shared}(h:wpAny M A t Q E s)(hQ:∀a s,Q a s->Q' a s):wpAny M A t Q' E s:=wpAny_mono h hQ λ _ _ x=>x
section
variable {X:Cx}
def bin {a b:Expr}{ta tb:TE}(ha:PE X a ta)(hb:PE X b tb){pins:List (Addr×Obj)}{s:Shared}{σ:St}{H:Hp}{R:V->V->Hp->Prop}(I:Inv X pins σ H s)(h:ta σ H λ x H1=>tb σ H1 λ y H2=>R x y H2)
 {α:Type} {Q:α->Shared->Prop} {f:Value->Value->Sem α}
 (hf:∀v u s2 x y H2,Inv X pins σ H2 s2->RelV x v->RelV y u->R x y H2->wpAny (model X.prog X.w) X.A (f v u) Q X.xe s2):
 wpAny (model X.prog X.w) X.A (eval a X.env) (λ v s₁=>wpAny (model X.prog X.w) X.A (eval b X.env) (λ u s₂=>wpAny (model X.prog X.w) X.A (f v u) Q X.xe s₂) X.xe s₁) X.xe s:=by
 refine Bi (ha pins s σ H _ I h) λ v s1 zz=>?_;obtain⟨x,H1,I1,r1,q1⟩:=zz;refine Bi (hb pins s1 σ H1 _ I1 q1) λ u s2 zz=>?_;obtain⟨y,H2,I2,r2,q2⟩:=zz;exact hf v u s2 x y H2 I2 r1 r2 q2
abbrev Kw (i:Nat):TE:=λ σ H Q=>∃v,σ[i]?=some (some v)/\Q v H
abbrev tC (v:V):TE:=λ _ H Q=>Q v H
def lK {i:Nat}{x:Str}{pos:Pos}(hN:X.N[i]?=some x)(hv:uT X.env.scope x)(hd:(x==("__debug__" : Str))=false:=by decide)(aZ:(x==("__classdict__" : Str))=false:=by decide):PE X (.Name x pos) (Kw i):=by
 intro pins s σ H Q I h;obtain⟨v,e,h⟩:=h;obtain⟨m,hn,hl⟩:=I.loc;obtain⟨u,r,l⟩:=hl i x v hN e hv;have fin:EP X pins σ Q u s:=⟨v,H,I,r,h⟩;rcases l with ⟨hk,hm⟩|⟨hk,c,hc,df⟩
 ·exact wpAny_Name (wpAny_loadName_local I.ok.kind hk hn hm fin) hd
 ·rcases hk with hk|hk
  ·exact wpAny_Name (wpAny_loadName_cell I.ok.kind hk hc df fin) hd
  ·exact wpAny_Name (wpAny_loadName_free I.ok.kind hk hc df fin aZ) hd
def lL {i j pos}:PE X (.Constant (.int i) j pos) (tC (.int i)):=λ _ _ _ H _ I h=>wpAny_Constant_int ⟨.int i,H,I.tok _,⟨_,rfl⟩,h⟩
def qL {b j pos}:PE X (.Constant (.bool b) j pos) (tC (.bl b)):=λ _ _ _ H _ I h=>Constant_bool ⟨.bl b,H,I,rfl,h⟩
def lM {j pos}:PE X (.Constant .none j pos) (tC .AK):=λ _ _ _ H _ I h=>Constant_none ⟨.AK,H,I,rfl,h⟩
abbrev Gl (X:Cx)(x:Str):Prop:=X.env.kindOf x=some .globalImplicit
def Q3 {E:Value->Shared->Prop}{pins:List (Addr×Obj)}{s:Shared}{σ:St}{H:Hp}{x:Str}{u:Value}{pos:Pos}{Q:Value->Shared->Prop}(I:Inv X pins σ H s)(hg:Gl X x)(hm:X.mg x=some u)(h:Q u s)
 (hd:(x==("__debug__" : Str))=false:=by decide):wpAny (model X.prog X.w) X.A (eval (.Name x pos) X.env) Q E s:=
 Calls.Name_function_global I.ok.kind hg (Calls.loadGlobal_global (by rw[I.ok.glob];exact I.mod.glob.keeps I.bk) hm h) hd
def Dp {E:Value->Shared->Prop}{pins:List (Addr×Obj)}{s:Shared}{σ:St}{H:Hp}{x:Str}{u:Value}{pos:Pos}{Q:Value->Shared->Prop}(I:Inv X pins σ H s)(hg:Gl X x)(hm:X.mg x=none)(hv:bootBuiltins x=some u)(h:Q u s)
 (hn:x ≠ "__name__" := by decide) (hd:(x==("__debug__" : Str))=false:=by decide):wpAny (model X.prog X.w) X.A (eval (.Name x pos) X.env) Q E s:=by
 obtain⟨mb,h1,h2⟩:=I.mod.blt;exact Calls.Name_function_global I.ok.kind hg (Calls.loadGlobal_builtin (by rw[I.ok.glob];exact I.mod.glob.keeps I.bk) hm (by rw[I.ok.blt];exact h1.keeps I.bk) ((h2 x hn).trans hv) h) hd
def eE {x:Str}{v:V}{u:Value}{pos:Pos}(hg:Gl X x)(hm:X.mg x=some u)(r:RelV v u)(hd:(x==("__debug__" : Str))=false:=by decide):PE X (.Name x pos) (tC v):=
 λ _ _ _ H _ I h=>Q3 I hg hm ⟨v,H,I,r,h⟩ hd
def eF {x:Str}{v:V}{u:Value}{pos:Pos}(hg:Gl X x)(hm:X.mg x=none)(hv:bootBuiltins x=some u)(r:RelV v u)(hn:x ≠ "__name__" := by decide)(hd:(x==("__debug__" : Str))=false:=by decide):PE X (.Name x pos) (tC v):=
 λ _ _ _ H _ I h=>Dp I hg hm hv ⟨v,H,I,r,h⟩ hn hd
variable {a b:Expr}{ta tb:TE}{pos:Pos}
abbrev PC (X:Cx)(op:CmpOp)(a b:Expr)(t:TE):Prop:=
 ∀(pins:List (Addr×Obj)) (s:Shared) (σ:St) (H:Hp) (Q:VK),Inv X pins σ H s->t σ H Q->
  wpAny (model X.prog X.w) X.A (eval a X.env) (λ v s₁=>wpAny (model X.prog X.w) X.A (eval b X.env) (λ u s₂=>wpAny (model X.prog X.w) X.A (compareOp op v u) (EP X pins σ Q) X.xe s₂) X.xe s₁) X.xe s
def RH (b:Expr){op:CmpOp}(h:op≠.In)(h2:op≠.NotIn):behindInMarks op b=false:=by
 have e1:(op==CmpOp.In)=false:=by cases op<;>first|rfl|exact absurd rfl h
 have e2:(op==CmpOp.NotIn)=false:=by cases op<;>first|rfl|exact absurd rfl h2
 cases b<;>simp[behindInMarks,e1,e2]
abbrev uW (ta:TE):TE:=λ σ H Q=>ta σ H λ x H1=>Q (.bl (decide (x=.AK))) H1
abbrev qM (ta:TE):TE:=λ σ H Q=>ta σ H λ x H1=>Q (.bl (!decide (x=.AK))) H1
def RelV.RI {x:V}{v:Value}(r:RelV x v):(v==Value.none)=decide (x=.AK):=by
 cases x with
 |AK|bl _=>cases r;rfl
 |int _|str _|lF _|qG _=>obtain⟨t,rfl⟩:=r;rfl
 |ref _|ty _=>cases r;rfl
def Y2 {j pos'}(ha:PE X a ta):PC X .Is a (.Constant .none j pos') (uW ta):=by
 intro pins s σ H Q I h;refine Bi (ha pins s σ H _ I h) λ v s1 zz=>?_;obtain⟨x,H1,I1,r1,q1⟩:=zz;exact Constant_none (is_none_gen ⟨.bl _,H1,I1,by rw[r1.RI];rfl,q1⟩)
def eG {j pos'}(ha:PE X a ta):PC X .IsNot a (.Constant .none j pos') (qM ta):=by
 intro pins s σ H Q I h;refine Bi (ha pins s σ H _ I h) λ v s1 zz=>?_;obtain⟨x,H1,I1,r1,q1⟩:=zz;exact Constant_none (isnot_none_gen ⟨.bl _,H1,I1,by rw[r1.RI];rfl,q1⟩)
abbrev tB (t:TE):TT:=λ σ H Q=>t σ H λ x H1=>∃c,x=.bl c/\Q c H1
def lN {op:CmpOp}{t:TE}(h:PC X op a b t)(h1:behindInMarks op b=false:=by first | exact RH _ (by decide) (by decide) | rfl):PE X (.Compare a [op] [b] pos) t:=λ pins s σ H Q I hw=>wpAny_Compare1 (h pins s σ H Q I hw) h1
def Y3 {op:CmpOp}{t:TE}(h:PC X op a b t)(h1:behindInMarks op b=false:=by first | exact RH _ (by decide) (by decide) | rfl):PT X (.Compare a [op] [b] pos) (tB t):=by
 intro pins s σ H Q I hw;refine wpAny_isTrue_Compare1 (Bi (h pins s σ H _ I hw) λ v s1 h1=>Bi h1 λ u s2 h2=>Bi h2 λ c s3 zz=>?_) h1;obtain⟨x,H1,I1,r1,q1⟩:=zz;obtain⟨d,rfl,q⟩:=q1;cases r1;exact wpAny_truthy_bool ⟨H1,I1,q⟩
variable {tA jx:TT}{rest:List Expr}
abbrev uX (t u:TT):TT:=λ σ H Q=>t σ H λ c H1=>if c=true then u σ H1 Q else Q false H1
abbrev xS (t u:TT):TT:=λ σ H Q=>t σ H λ c H1=>if c=true then Q true H1 else u σ H1 Q
abbrev uY (t:TT):TT:=λ σ H Q=>t σ H λ c H1=>Q (!c) H1
def pw_and1 (ha:PT X a tA):PW X (.BoolOp .And [a] pos) tA:=by
 intro wh pins s σ H Q I h;refine isTrue_and (Bi (ha pins s σ H Q I h) λ c s1 e=>?_);cases c with
 |true=>exact isTrue_and_nil e
 |false=>exact e
def pw_or1 (ha:PT X a tA):PW X (.BoolOp .Or [a] pos) tA:=by
 intro wh pins s σ H Q I h;refine isTrue_or (Bi (ha pins s σ H Q I h) λ c s1 e=>?_);cases c with
 |false=>exact isTrue_or_nil e
 |true=>exact e
def pw_and (ha:PT X a tA)(hb:PW X (.BoolOp .And (b::rest) pos) jx):PW X (.BoolOp .And (a::b::rest) pos) (uX tA jx):=by
 intro wh pins s σ H Q I h;refine isTrue_and (Bi (ha pins s σ H _ I h) λ c s1 zz=>?_);obtain⟨H1,I1,q1⟩:=zz;cases c with
 |true=>exact hb wh pins s1 σ H1 Q I1 q1
 |false=>exact⟨H1,I1,q1⟩
def pw_or (ha:PT X a tA)(hb:PW X (.BoolOp .Or (b::rest) pos) jx):PW X (.BoolOp .Or (a::b::rest) pos) (xS tA jx):=by
 intro wh pins s σ H Q I h;refine isTrue_or (Bi (ha pins s σ H _ I h) λ c s1 zz=>?_);obtain⟨H1,I1,q1⟩:=zz;cases c with
 |true=>exact⟨H1,I1,q1⟩
 |false=>exact hb wh pins s1 σ H1 Q I1 q1
def lO (ha:PT X a tA):PT X (.UnaryOp .Not a pos) (uY tA):=by
 intro pins s σ H Q I h;exact isTrue_not (ha pins s σ H (λ c H1=>Q (!c) H1) I h)
abbrev qN (ta tb:TE):TE:=λ σ H Q=>ta σ H λ x H1=>∃c,x=.bl c/\if c=true then tb σ H1 Q else Q (.bl false) H1
abbrev uZ (ta tb:TE):TE:=λ σ H Q=>ta σ H λ x H1=>∃c,x=.bl c/\if c=true then Q (.bl true) H1 else tb σ H1 Q
abbrev qO (ta:TE):TE:=λ σ H Q=>ta σ H λ x H1=>∃c,x=.bl c/\Q (.bl (!c)) H1
def lP {op}{t:TE}(h:PE X a t):PE X (.BoolOp op [a] pos) t:=λ pins s σ H Q I hw=>BoolOp_one (h pins s σ H Q I hw)
def lQ (ha:PE X a ta)(hb:PE X (.BoolOp .And (b::rest) pos) tb):PE X (.BoolOp .And (a::b::rest) pos) (qN ta tb):=by
 intro pins s σ H Q I h;refine BoolOp_and (Bi (ha pins s σ H _ I h) λ v s1 zz=>?_);obtain⟨x,H1,I1,r1,q1⟩:=zz;obtain⟨c,rfl,q1⟩:=q1;cases r1;refine wpAny_truthy_bool ?_;cases c with
 |true=>exact hb pins s1 σ H1 Q I1 q1
 |false=>exact⟨.bl false,H1,I1,rfl,q1⟩
def qP (ha:PE X a ta)(hb:PE X (.BoolOp .Or (b::rest) pos) tb):PE X (.BoolOp .Or (a::b::rest) pos) (uZ ta tb):=by
 intro pins s σ H Q I h;refine BoolOp_or (Bi (ha pins s σ H _ I h) λ v s1 zz=>?_);obtain⟨x,H1,I1,r1,q1⟩:=zz;obtain⟨c,rfl,q1⟩:=q1;cases r1;refine wpAny_truthy_bool ?_;cases c with
 |false=>exact hb pins s1 σ H1 Q I1 q1
 |true=>exact⟨.bl true,H1,I1,rfl,q1⟩
def lR (ha:PE X a ta):PE X (.UnaryOp .Not a pos) (qO ta):=by
 intro pins s σ H Q I h;refine UnaryOp_ (Bi (ha pins s σ H _ I h) λ v s1 zz=>?_);obtain⟨x,H1,I1,r1,q1⟩:=zz;obtain⟨c,rfl,q1⟩:=q1;cases r1;exact not_of (wpAny_truthy_bool ⟨.bl (!c),H1,I1,rfl,q1⟩)
end
abbrev D2 (K:za)(H:Hp)(a:Addr)(xs:List V):Prop:=
 Rd H a (.lst xs) \/
  ∃(o:Obj) (aa:Array Value) (n:Nat),K.lookup a=some o/\o.cls=.type "list" /\ o.dict=none/\o.data=.seq aa n/\aa.size<=sizeLine/\Vals xs aa.toList
abbrev Fd (K:za)(H:Hp)(a:Addr)(xs:List V):Prop:=
 Rd H a (.tup xs) \/
  ∃(o:Obj) (aa:Array Value) (n:Nat),K.lookup a=some o/\o.cls=.type "tuple" /\ o.data=.seq aa n/\aa.size<=sizeLine/\Vals xs aa.toList
abbrev vA:Value->Option V
 | .none=>some .AK
 | .bool b=>some (.bl b)
 | .int i _=>some (.int i)
 | .str x _=>some (.str x)
 | .bytes b _=>some (.lF b)
 | .float b _=>some (.qG b)
 | .ref a=>some (.ref a)
 | .type n=>some (.ty n)
 |_=>none
def RelV.abs {x:V}{u:Value}(r:RelV x u):vA u=some x:=by
 cases x with
 |AK|bl _=>cases r;rfl
 |int _|str _|lF _|qG _=>obtain⟨t,rfl⟩:=r;rfl
 |ref _|ty _=>cases r;rfl
def RelV.inj {x y:V}{u:Value}(r:RelV x u)(q:RelV y u):x=y:=z7 (r.abs.symm.trans q.abs)
def Vals.inj:∀ {xs ys:List V}{us:List Value},Vals xs us->Vals ys us->xs=ys
 |_,_,_,.nil,.nil=>rfl
 |_,_,_,.cons r t,.cons r' t'=>by rw[r.inj r',Vals.inj t t']
section
variable {X:Cx}{pins:List (Addr×Obj)}{σ:St}{H:Hp}{s:Shared}{a:Addr}{xs ys:List V}
def D2.of {K:za}(h:H a=some (.lst xs)):D2 K H a xs:=.inl (.inl h)
def Fd.of {K:za}(h:H a=some (.tup xs)):Fd K H a xs:=.inl (.inl h)
def Inv.list (I:Inv X pins σ H s)(h:D2 X.K H a xs):∃aa:List Value,Vals xs aa/\PlainL s.heap a aa.toArray/\xs.length<=sizeLine:=by
 rcases h with h|⟨o,aa,n,hk,hc,hd,hs,hz,r⟩
 ·obtain⟨z,aa,n,r,e⟩:=h.ok I.Au;exact⟨aa,r,⟨_,n,e,rfl,rfl,rfl⟩,z⟩
 ·refine⟨aa.toList,r,⟨o,n,I.Mv a o hk,hc,hd,by simpa using hs⟩,?_⟩;have e:=r.length;simp only[Array.length_toList] at e;omega
def Inv.tuple (I:Inv X pins σ H s)(h:Fd X.K H a xs):∃aa:List Value,Vals xs aa/\IsTup s.heap a aa.toArray/\xs.length<=sizeLine:=by
 rcases h with h|⟨o,aa,n,hk,hc,hs,hz,r⟩
 ·obtain⟨z,aa,r,p⟩:=h.ok I.Au;exact⟨aa,r,p,z⟩
 ·refine⟨aa.toList,r,⟨o,I.Mv a o hk,hc,n,by simpa using hs⟩,?_⟩;have e:=r.length;simp only[Array.length_toList] at e;omega
def Inv.Gf (I:Inv X pins σ H s)(h:D2 X.K H a xs)(h':D2 X.K H a ys):xs=ys:=by
 obtain⟨aa,r,⟨o,n,e,_,_,d⟩,_⟩:=I.list h;obtain⟨its',r',⟨o',n',e',_,_,d'⟩,_⟩:=I.list h';rw[e] at e';cases e';rw[d] at d';injection d' with d1 _
 have:aa=its':=by simpa using congrArg Array.toList d1
 subst this;exact r.inj r'
def Inv.Hn (I:Inv X pins σ H s)(h:Fd X.K H a xs)(h':Fd X.K H a ys):xs=ys:=by
 obtain⟨aa,r,⟨o,e,_,n,d⟩,_⟩:=I.tuple h;obtain⟨its',r',⟨o',e',_,n',d'⟩,_⟩:=I.tuple h';rw[e] at e';cases e';rw[d] at d';injection d' with d1 _
 have:aa=its':=by simpa using congrArg Array.toList d1
 subst this;exact r.inj r'
end
noncomputable abbrev Cx.Ob (X:Cx)(E:Value->Shared->Prop):Cx:={X with xe:=E}
noncomputable abbrev Cx.qQ (X:Cx):Cx:=X.Ob λ _ _=>False
def Cx.Ok.Ob {X:Cx}(ok:X.Ok)(E:Value->Shared->Prop):(X.Ob E).Ok:=
 ⟨ok.mod,ok.kind,ok.glob,ok.blt,ok.above,ok.inj,ok.has,ok.qJ,ok.hd,ok.frames,ok.tU,ok.tV,ok.bs,ok.eC,ok.Y0,ok.Y1,ok.Kv,ok.lI⟩
def Cx.Ok.Gg {X:Cx}{E:Value->Shared->Prop}(ok:(X.Ob E).Ok):X.Ok:=
 ⟨ok.mod,ok.kind,ok.glob,ok.blt,ok.above,ok.inj,ok.has,ok.qJ,ok.hd,ok.frames,ok.tU,ok.tV,ok.bs,ok.eC,ok.Y0,ok.Y1,ok.Kv,ok.lI⟩
section
variable {X:Cx}{pins:List (Addr×Obj)}{σ:St}{H:Hp}{s:Shared}{E:Value->Shared->Prop}
def Inv.Ob (I:Inv X pins σ H s)(E:Value->Shared->Prop):Inv (X.Ob E) pins σ H s:=⟨I.ok.Ob E,I.os,I.bare,I.base,I.loc,I.cell,I.free,I.Ge,I.pin,I.Au,I.len⟩
def Inv.Gg (I:Inv (X.Ob E) pins σ H s):Inv X pins σ H s:=⟨I.ok.Gg,I.os,I.bare,I.base,I.loc,I.cell,I.free,I.Ge,I.pin,I.Au,I.len⟩
def SP.Gg {D:Ends}{f:Flow}{s':Shared}(h:SP (X.Ob E) pins D f s'):SP X pins D f s':=by
 cases f with
 |next|brk|cont=>obtain⟨σ',H',I,q⟩:=h;exact⟨σ',H',I.Gg,q⟩
 |ret u=>obtain⟨v,σ',H',I,r,q⟩:=h;exact⟨v,σ',H',I.Gg,r,q⟩
def V4.qQ {st:List Stmt}{t:TS}(h:V4 X.qQ st t):V4 X st t:=λ pins s σ H D I hw =>
 wpAny_mono (h pins s σ H D (I.Ob _) hw) (λ _ _ q=>q.Gg) λ _ _ z=>zag z
end
section
variable {X:Cx}{st:Stmt}{rest:List Stmt}{t u:TS}{e:Expr}{te:TE}{pos:Pos}
abbrev qR:TS:=λ D σ H=>D.nx σ H
abbrev vB (t u:TS):TS:=λ D σ H=>t {D with nx:=u D} σ H
def eI:V4 X [] qR:=λ _ _ σ H _ I h=>wpAny_execs_nil ⟨σ,H,I,h⟩
def Y4 (h1:PS X st t)(h2:V4 X rest u):V4 X (st::rest) (vB t u):=by
 intro pins s σ H D I h;refine wpAny_execs_cons (Bi (h1 pins s σ H {D with nx:=u D} I h) λ f s1 q=>?_);cases f with
 |next =>
  obtain⟨σ',H',I',q⟩:=q;exact h2 pins s1 σ' H' D I' q
 |ret v|brk|cont=>exact q
def eJ (h1:PS X st t):V4 X [st] t:=by
 intro pins s σ H D I h;refine wpAny_execs_cons (Bi (h1 pins s σ H D I h) λ f s1 q=>?_);cases f with
 |next=>exact wpAny_execs_nil q
 |ret v|brk|cont=>exact q
def Inv.quiet {pins:List (Addr×Obj)}{σ:St}{H:Hp}{s:Shared}(I:Inv X pins σ H s):interactive X.env=false:=by simp[interactive,I.ok.kind]
abbrev qS (te:TE):TS:=λ D σ H=>te σ H λ _ H1=>D.nx σ H1
def Ex (he:PE X e te)(hs: ~~~(swapsWith e none pos.line X.env=pure false)):PS X (.Expr e pos) (qS te):=by
 intro pins s σ H D I h;exact wpAny_Expr_any (Bi (he pins s σ H _ I h) λ v s1 ⟨x,H1,I1,r1,q1⟩=>⟨σ,H1,I1,q1⟩) I.quiet hs
abbrev vC (te:TE):TS:=λ D σ H=>te σ H D.rt
def Q4 (he:PE X e te):PS X (.Return (some e) pos) (vC te):=by
 intro pins s σ H D I h;exact wpAny_Return_some (Bi (he pins s σ H _ I h) λ v s1 ⟨x,H1,I1,r1,q1⟩=>⟨x,σ,H1,I1,r1,q1⟩)
abbrev vD (c:TT)(t u:TS):TS:=λ D σ H=>c σ H λ b H1=>if b=true then t D σ H1 else u D σ H1
def qT {c:Expr}{a b:List Stmt}{tc:TT}(hc:PT X c tc)(ha:V4 X a t)(hb:V4 X b u):PS X (.If c a b pos) (vD tc t u):=by
 intro pins s σ H D I h;refine wpAny_If (Bi (hc pins s σ H _ I h) λ d s1 zz=>?_);obtain⟨H1,I1,q1⟩:=zz;cases d with
 |true=>exact ha pins s1 σ H1 D I1 q1
 |false=>exact hb pins s1 σ H1 D I1 q1
end
noncomputable abbrev TG:=V->St->Hp->(St->Hp->Prop)->Prop
noncomputable abbrev XW:=List V->St->Hp->(St->Hp->Prop)->Prop
abbrev PG (X:Cx)(target:Expr)(t:TG):Prop:=
 ∀(pins:List (Addr×Obj)) (s:Shared) (σ:St) (H:Hp) (v:V) (u:Value) (Q:St->Hp->Prop),Inv X pins σ H s->RelV v u->t v σ H Q->
  wpAny (model X.prog X.w) X.A (assign target X.env u) (λ _ s'=>∃σ' H',Inv X pins σ' H' s'/\Q σ' H') X.xe s
abbrev pO (X:Cx)(ts:List Expr)(t:XW):Prop:=
 ∀(pins:List (Addr×Obj)) (s:Shared) (σ:St) (H:Hp) (vs:List V) (us:List Value) (Q:St->Hp->Prop),Inv X pins σ H s->Vals vs us->t vs σ H Q->
  wpAny (model X.prog X.w) X.A (assignInOrder ((assignEach ts X.env).map (·.2)) us) (λ _ s'=>∃σ' H',Inv X pins σ' H' s'/\Q σ' H') X.xe s
noncomputable abbrev lS:=V->V->V->Hp->(Hp->Prop)->Prop
abbrev qU (X:Cx)(t:lS):Prop:=
 ∀(pins:List (Addr×Obj)) (s:Shared) (σ:St) (H:Hp) (o i v:V) (ov iv u:Value) (Q:Hp->Prop),Inv X pins σ H s->RelV o ov->RelV i iv->RelV v u->t o i v H Q->
  wpAny (model X.prog X.w) X.A (setItem ov iv u) (λ _ s'=>∃H',Inv X pins σ H' s'/\Q H') X.xe s
section
variable {X:Cx}{pos:Pos}
abbrev OI (i:Nat):TG:=λ v σ H Q=>Q (σ.set i (some v)) H
def Q5 {i:Nat}{x:Str}(hN:X.N.Nodup)(hi:X.N[i]?=some x)(hx:Loc X.env.scope x)(hf:X.fn x=true\/X.env.scope.names.lookup x=some .local:=by first | exact .inl rfl | exact .inr rfl | assumption):PG X (.Name x pos) (OI i):=by
 intro pins s σ H v u Q I r h;exact wpAny_assign_Name (RG I hN hi hx r (λ s' I'=>⟨_,H,I',h⟩) hf)
abbrev lT:XW:=λ vs σ H Q=>vs=[]/\Q σ H
abbrev Y5 (t:TG)(u:XW):XW:=λ vs σ H Q=>∃v r,vs=v::r/\t v σ H λ σ' H'=>u r σ' H' Q
def V5:pO X [] lT:=by
 intro pins s σ H vs us Q I r h;obtain⟨e,h⟩:=h;subst e;cases r;exact assignInOrder_nil ⟨σ,H,I,h⟩
def RJ {e:Expr}{es:List Expr}{t:TG}{u:XW}(h1:PG X e t)(h2:pO X es u)(hs: ~~~((assignEach (e::es) X.env).map (·.2)=assign e X.env::(assignEach es X.env).map (·.2))):pO X (e::es) (Y5 t u):=by
 intro pins s σ H vs us Q I r h;obtain⟨v,vr,e1,h⟩:=h;subst e1;cases r with
 |cons r rr =>
  rw[hs];refine assignInOrder_cons (Bi (h1 pins s σ H _ _ _ I r h) λ _ s1 zz=>?_);obtain⟨σ1,H1,I1,q1⟩:=zz;exact h2 pins s1 σ1 H1 _ _ Q I1 rr q1
abbrev lU (K:za)(n:Nat)(t:XW):TG:=λ v σ H Q=>∃a xs,v=.ref a/\Fd K H a xs/\xs.length=n/\t xs σ H Q
def Y6 {es:List Expr}{k:Nat}{t:XW}{n:Nat}(hc:X.calm=true)(h:pO X es t)(hn: ~~~((assignEach es X.env).length=n))(aL: ~~~((assignEach es X.env).findIdx? (·.1)=none)):PG X (.Tuple es k pos) (lU X.K n t):=by
 intro pins s σ H v u Q I r hw;obtain⟨a,xs,e1,hq,hl,hw⟩:=hw;subst e1;cases r;obtain⟨aa,rv,ht,hz⟩:=I.tuple hq;refine assign_Tuple_tuple (I.ok.hd hc) ht (by simp[hn,<-hl,rv.length]) aL λ h' hx=>?_;have I1:Inv X pins σ H {s with heap:=h' }:=I.kept (t':=s.toks) λ b o e=>hx b o (zD (zw e)) e;exact h pins _ σ H xs _ Q I1 (by simpa using rv) hw
abbrev vE (to ti:TE)(t:lS):TG:=λ v σ H Q=>to σ H λ o H1=>ti σ H1 λ i H2=>t o i v H2 λ H3=>Q σ H3
def Y7 {o i:Expr}{to ti:TE}{t:lS}(ho:PE X o to)(hi:PE X i ti)(hs:qU X t)
 (ha:∀v,assign (.Subscript o i pos) X.env v=(do
  let ov <-holding [v] (eval o X.env);let iv <-holding [v,ov] (eval i X.env)
  standAt pos
  holding [v,ov,iv] (setItem ov iv v)
  release [v,ov,iv] []):=by intro _;rfl):PG X (.Subscript o i pos) (vE to ti t):=by
 intro pins s σ H v u Q I r h;rw[ha];refine wpAny_bind (wpAny_holding (Bi (ho pins s σ H _ I h) λ ov s1 zz=>?_));obtain⟨x,H1,I1,r1,q1⟩:=zz;refine wpAny_bind (wpAny_holding (Bi (hi pins s1 σ H1 _ I1 q1) λ iv s2 zz=>?_));obtain⟨y,H2,I2,r2,q2⟩:=zz;refine wpAny_bind (wpAny_standAt (wpAny_bind (wpAny_holding (Bi (hs pins s2 σ H2 x y v ov iv u _ I2 r1 r2 r q2) λ _ s3 zz=>?_))));obtain⟨H3,I3,q3⟩:=zz;exact wpAny_release ⟨σ,H3,I3,q3⟩
abbrev qV (te:TE)(g:TG):TS:=λ D σ H=>te σ H λ x H1=>g x σ H1 D.nx
def TR {tg e:Expr}{te:TE}{g:TG}(he:PE X e te)(hg:PG X tg g)(hs: ~~~(swapsWithSole [tg] e pos.line X.env=pure false))(hw: ~~~(swappedStores [tg] e X.env=pure none))(h1: ~~~((assignEach [tg] X.env).map (·.2)=[assign tg X.env])):PS X (.Assign [tg] e pos) (qV te g):=by
 intro pins s σ H D I h;refine wpAny_Assign_stores (Bi (he pins s σ H _ I h) λ v s1 zz=>?_) hs hw;obtain⟨x,H1,I1,r1,q1⟩:=zz;rw[h1];exact Bi (hg pins s1 σ H1 x v _ I1 r1 q1) λ _ s2 q=>q
def TU {i:Nat}{x:Str}{e:Expr}{te:TE}{pos':Pos}(hN:X.N.Nodup)(hi:X.N[i]?=some x)(hx:Loc X.env.scope x)(he:PE X e te)(hs: ~~~(swapsWith e (some (.Name x pos')) pos.line X.env=pure false))(hf:X.fn x=true\/X.env.scope.names.lookup x=some .local:=by first | exact .inl rfl | exact .inr rfl | assumption):
 PS X (.Assign [.Name x pos'] e pos) (qV te (OI i)):=by
 intro pins s σ H D I h;refine wpAny_Assign_Name (Bi (he pins s σ H _ I h) λ v s1 zz=>?_) hs;obtain⟨y,H1,I1,r1,q1⟩:=zz;exact RG I1 hN hi hx r1 (λ s2 I2=>⟨_,H1,I2,q1⟩) hf
end
section
variable {X:Cx}{pos:Pos}
abbrev lV (c:TT)(tb:TS):TS:=λ D σ H=>∃W:Nat->St->Hp->Prop,(∃m,W m σ H)/\∀m σ H,W m σ H->
 c σ H λ b H1=>if b=true then ∃N:St->Hp->Prop,(∀σ' H',N σ' H'->∃m',m'<m/\W m' σ' H')/\tb {D with nx:=N,ct:=N,bk:=D.nx} σ H1 else D.nx σ H1
def Y8 {c:Expr}{body:List Stmt}{tc:TT}{tb:TS}(hp:PassesOwn (model X.prog X.w) X.A X.env X.xe)(hc:PT X c tc)(hb:V4 X body tb):PS X (.While c body [] pos) (lV tc tb):=by
 intro pins s σ H D I h;obtain⟨W,⟨m0,w0⟩,turn⟩:=h;refine wpAny_While (codeAny_whileLoop (λ n s'=>∃σ' H',Inv X pins σ' H' s'/\W n σ' H') ?_ m0 ⟨σ,H,I,w0⟩);rintro n s1 ⟨σ1,H1,I1,w1⟩;refine wpAny_passesOwn hp (Bi (hc pins s1 σ1 H1 _ I1 (turn n σ1 H1 w1)) λ b s2 zz=>?_);obtain⟨H2,I2,q2⟩:=zz;cases b with
 |true =>
  obtain⟨N,hN,q2⟩:=q2;rw[if_pos rfl];refine wpAny_passesOwn hp (Bi (hb pins s2 σ1 H2 _ I2 q2) λ f s3 q3=>?_);cases f with
  |next =>
   obtain⟨σ3,H3,I3,n3⟩:=q3;obtain⟨m',hm,w3⟩:=hN σ3 H3 n3;exact⟨m',hm,σ3,H3,I3,w3⟩
  |cont =>
   obtain⟨σ3,H3,I3,n3⟩:=q3;obtain⟨m',hm,w3⟩:=hN σ3 H3 n3;exact⟨m',hm,σ3,H3,I3,w3⟩
  |brk|ret v=>exact q3
 |false =>
  rw[if_neg z4];exact wpAny_execs_nil ⟨σ1,H2,I2,q2⟩
end
structure It where
 go:Nat->Hp->Prop
 jY:Nat->Hp->V->Hp->Prop
 stop:Nat->Hp->Prop
abbrev LQ (X:Cx)(pins:List (Addr×Obj))(H:Hp)(b:Addr):Prop:=
 H b=none/\b≠X.env.locals/\b∉X.fs/\(b∈X.ex\/X.s₀.heap.objs.size<=b)/\(∀x c,X.env.cells.lookup x=some c->c≠b)/\∀p∈X.pn++pins,p.1≠b
def Inv.Wm {X:Cx}{pins:List (Addr×Obj)}{σ:St}{H H':Hp}{s:Shared}{b:Addr}(I:Inv X pins σ H s)(hb:s.heap.objs.size<=b)(hn:H' b=none):LQ X pins H' b:=by
 refine⟨hn,Nat.ne_of_gt (z3 I.lt hb),I.uV hb,.inr (zZ I.sz hb),λ x c e z=>?_,λ p hp z=>?_⟩
 ·obtain⟨v,q⟩:=I.cell x c e;exact absurd (z3 q.lt (by rw[z];exact hb)) (Nat.lt_irrefl _)
 ·exact absurd (z3 (zw (I.pin p hp).1) (by rw[z];exact hb)) (Nat.lt_irrefl _)
structure Turn (P:Program)(w:World)(K:za)(tg:Expr)(J:It)(fp:List Addr)(it:Addr)(tn:Nat->Heap->Prop):Prop where
 mem:it∈fp
 obj:∀i h,tn i h->∀b∈fp,∃o,h.get? b=some o/\∀v,o.data≠.cell v
 keep:∀i h h',tn i h->(∀b∈fp,∀o,h.get? b=some o->h'.get? b=some o)->tn i h'
 item:∀(X:Cx),X.prog=P->X.w=w->X.K=K->X.calm=true->∀(i:Nat) (pins:List (Addr×Obj)) (s:Shared) (σ:St) (H:Hp) (E:Value->Shared->Prop),Inv X pins σ H s->(∀b∈fp,LQ X pins H b)->tn i s.heap->J.go i H->
  wpAny (model P w) X.A (pyNext (.ref it)) (λ r s1=>∃u,r=some u/\
   wpAny (model P w) X.A (letOwnedTupleGo tg (.ref it) u) (λ _ s2=>∃x H',Inv X pins σ H' s2/\RelV x u/\J.jY i H x H'/\tn (i+1) s2.heap/\∀b∈fp,H' b=none) E s1) E s
 done:∀(X:Cx),X.prog=P->X.w=w->X.K=K->X.calm=true->∀(i:Nat) (pins:List (Addr×Obj)) (s:Shared) (σ:St) (H:Hp) (E:Value->Shared->Prop),Inv X pins σ H s->(∀b∈fp,LQ X pins H b)->tn i s.heap->J.stop i H->
  wpAny (model P w) X.A (pyNext (.ref it)) (λ r s1=>r=none/\Inv X pins σ H s1) E s
 self:∀(A:Around) (i:Nat) (s:Shared) (Q:Value->Shared->Prop) (E:Value->Shared->Prop),tn i s.heap->Q (.ref it) s->wpAny (model P w) A (pyIter (.ref it)) Q E s
noncomputable abbrev TI:=St->Hp->(It->Hp->Prop)->Prop
abbrev vF (X:Cx)(pins:List (Addr×Obj))(σ:St)(tg:Expr)(R:It->Hp->Prop)(jy:Value)(s2:Shared):Prop:=
 ∃(it:Addr) (fp:List Addr) (tn:Nat->Heap->Prop) (J:It) (H':Hp),jy=.ref it/\Inv X pins σ H' s2/\Turn X.prog X.w X.K tg J fp it tn/\tn 0 s2.heap/\(∀b∈fp,LQ X pins H' b)/\R J H'
abbrev PI (X:Cx)(tg iter:Expr)(wi:TI):Prop:=
 ∀(pins:List (Addr×Obj)) (s:Shared) (σ:St) (H:Hp) (R:It->Hp->Prop),Inv X pins σ H s->wi σ H R->
  wpAny (model X.prog X.w) X.A (eval iter X.env) (λ v s1=>wpAny (model X.prog X.w) X.A (pyIter v) (vF X pins σ tg R) X.xe s1) X.xe s
def V6 {M:Model}{A:Around}{E:Value->Shared->Prop}{s:Shared}{tg:Expr}{it:Addr}{u:Value}{o:Obj}{n:String}{vs:Array Value}{Q:Unit->Shared->Prop}(ho:s.heap.get? it=some o)(hc:o.cls=.type n)(hd:o.data=.fields vs)
 (hn:["enumerate","zip","dict_itemiterator","dict_reverseitemiterator","odict_iterator","itertools.zip_longest","itertools.pairwise"].contains n=false) (hQ:Q () s):wpAny M A (letOwnedTupleGo tg (.ref it) u) Q E s:=by
 unfold letOwnedTupleGo;cases tg<;>first
  |exact wpAny_pure hQ
  |(cases u<;>first
   |exact wpAny_pure hQ
   |(
    refine wpAny_bind (wpAny_load ho ?_);rw[hc,hd];show wpAny M A (if (["enumerate","zip","dict_itemiterator","dict_reverseitemiterator","odict_iterator","itertools.zip_longest","itertools.pairwise"].contains n&&vs[0]?== some (rawInt _))=true then _ else _) Q E s;rw[if_neg (by intro h;rw[hn,Bool.false_and] at h;cases h)];exact wpAny_pure hQ))
abbrev wO (K:za)(a:Addr):It:=
 ⟨λ i H=>∃xs x,D2 K H a xs/\xs[i]?=some x,λ i H x H'=>H'=H/\∀xs,D2 K H a xs->xs[i]?=some x,λ i H=>∃xs,D2 K H a xs/\xs.length<=i⟩
abbrev tW (lo:Int)(n:Nat):It:=⟨λ i _=>i<n,λ i H x H'=>H'=H/\x=.int (lo+i),λ i _=>n<=i⟩
def Wn {P:Program}{w:World}{K:za}{tg:Expr}(a it:Addr):Turn P w K tg (wO K a) [it] it (λ i h=>h.IsListIter it a i) where
 mem:=by simp
 obj:=λ i h st b hb=>by
  have e:b=it:=by simpa using hb
  subst e;obtain⟨o,e,c,d⟩:=st;exact⟨o,e,λ v z=>by rw[d] at z;cases z⟩
 keep:=λ i h h' st k=>st.at λ o e=>k it (by simp) o e
 item:=by
  intro X hP hw hK hc i pins s σ H E I hf st hg;subst hP hw hK;obtain⟨xs,x,hq,hx⟩:=hg;obtain⟨aa,rv,p,hz⟩:=I.list hq;obtain⟨u,hu,ru⟩:=rv.get hx;obtain⟨f0,f1,f2,f3,f4,f5⟩:=hf it (by simp);refine wpAny_pyNext_list_item st p.isList (x:=u) (by simpa using hu) λ h' b7 sb=>?_;have I1:Inv X pins σ H {s with heap:=h' }:=I.turned (t':=s.toks) (λ b o hb e=>(sb.2 b hb).trans e) f0 f1 f3 f4 f5;obtain⟨o,e,c,d⟩:=id b7;exact⟨u,rfl,V6 (s:={s with heap:=h' }) e c d (by decide) ⟨x,H,I1,ru,⟨rfl,λ ys hy=>by rw[I.Gf hy hq];exact hx⟩,b7,λ b hb=>(hf b hb).1⟩⟩
 done:=by
  intro X hP hw hK hc i pins s σ H E I hf st hg;subst hP hw hK;obtain⟨xs,hq,hx⟩:=hg;obtain⟨aa,rv,p,hz⟩:=I.list hq;obtain⟨f0,f1,f2,f3,f4,f5⟩:=hf it (by simp);have hl:=rv.length;exact wpAny_pyNext_list_end (I.ok.hd hc) st p.isList (by simp;omega) λ h' eb=>⟨rfl,I.turned (t':=s.toks) (λ b o hb e=>eb b o hb e) f0 f1 f3 f4 f5⟩
 self:=λ _ _ _ _ _ st h=>wpAny_pyIter_listiter st h
def TV {P:Program}{w:World}{K:za}{tg:Expr}(it:Addr)(lo:Int)(n:Nat):Turn P w K tg (tW lo n) [it] it (λ i h=>IsRangeIter h it (lo+(i:Nat)*1) ((n:Int)-(i:Nat)) 1) where
 mem:=by simp
 obj:=λ i h st b hb=>by
  have e:b=it:=by simpa using hb
  subst e;exact⟨_,st,λ v z=>by
   have z':Data.fields _=Data.cell v:=z;cases z'⟩
 keep:=λ i h h' st k=>k it (by simp) _ st
 item:=by
  intro X hP hw hK hc i pins s σ H E I hf st hg;subst hP hw hK;obtain⟨f0,f1,f2,f3,f4,f5⟩:=hf it (by simp);have W:=Walks.range (prog:=X.prog) (w:=X.w) (I.ok.hd hc) it lo 1 n;refine W.item i s _ _ hg st λ v h' tk hv b7 kk=>?_;obtain⟨t,rfl⟩:=hv;have I1:Inv X pins σ H {s with heap:=h',toks:=tk}:=I.turned (λ b o hb e=>kk b o (by simpa using hb) e) f0 f1 f3 f4 f5;refine⟨_,rfl,V6 (s:={s with heap:=h',toks:=tk}) (n := "range_iterator") b7 rfl rfl (by decide) ⟨.int (lo+i),H,I1,⟨t,?_⟩,⟨rfl,rfl⟩,b7,λ b hb=>(hf b hb).1⟩⟩;rw[Int.mul_one]
 done:=by
  intro X hP hw hK hc i pins s σ H E I hf st hg;subst hP hw hK;obtain⟨f0,f1,f2,f3,f4,f5⟩:=hf it (by simp);exact wpAny_pyNext_range_end (I.ok.hd hc) st (by have:n<=i:=hg;omega) λ h' eb=>⟨rfl,I.turned (t':=s.toks) (λ b o hb e=>eb b o hb e) f0 f1 f3 f4 f5⟩
 self:=λ _ _ _ _ _ st h=>wpAny_pyIter_rangeiter st h
section
variable {X:Cx}{tg:Expr}
abbrev qW (K:za)(tl:TE):TI:=λ σ H R=>tl σ H λ x H1=>∃a,x=.ref a/\(∃xs,D2 K H1 a xs)/\R (wO K a) H1
def V7 {l:Expr}{tl:TE}(hl:PE X l tl):PI X tg l (qW X.K tl):=by
 intro pins s σ H R I h;refine Bi (hl pins s σ H _ I h) λ v s1 zz=>?_;obtain⟨x,H1,I1,r1,q1⟩:=zz;obtain⟨a,e,⟨xs,hq⟩,q⟩:=q1;subst e;cases r1;obtain⟨aa,rv,p,hz⟩:=I1.list hq;refine wpAny_pyIter_list p.isList ?_;refine⟨s1.heap.objs.size,[s1.heap.objs.size],_,_,H1,rfl,I1.kept (t':=s1.toks) λ b o e=>zp _ e,Wn a _,⟨_,z9 _ rfl,rfl,rfl⟩,λ b hb=>?_,q⟩;have e:b=s1.heap.objs.size:=by simpa using hb
 subst e;exact I1.Wm (zv _) (I1.Au.fresh (zv _))
def Y9 {pins:List (Addr×Obj)}{σ:St}{H:Hp}{s:Shared}{R:It->Hp->Prop}{E:Value->Shared->Prop}{lo hi:Int}{t u v:Tok}{tk:Nat}(I:Inv X pins σ H s)(h1 : -(2^62)<=lo)(h2:lo<2^62)(h3 : -(2^62)<=hi)(h4:hi<2^62)
 (q:R (tW lo (hi-lo).toNat) H):wpAny (model X.prog X.w) X.A (pyIter (.ref s.heap.objs.size)) (vF X pins σ tg R) E {s with heap:=s.heap.push {cls:=.type "range",data:=.fields #[.int lo t,.int hi u,.int 1 v]},toks:=tk}:=by
 refine wpAny_pyIter_range (IsRange.new ..) (small_one h1 h2 h3 h4) ?_;have I1:Inv X pins σ H {s with heap:=s.heap.push {cls:=.type "range",data:=.fields #[.int lo t,.int hi u,.int 1 v]},toks:=tk}:=I.kept λ b o e=>zp _ e;refine⟨(s.heap.push {cls:=.type "range",data:=.fields #[.int lo t,.int hi u,.int 1 v]}).objs.size,[(s.heap.push {cls:=.type "range",data:=.fields #[.int lo t,.int hi u,.int 1 v]}).objs.size],_,_,H,rfl,
  I1.kept (t':=tk) λ b o e=>zp _ e,TV _ lo (hi-lo).toNat,?_,λ b hb=>?_,q⟩
 ·have e1:lo+((0:Nat):Int)*1=lo:=by simp
  have e2:(((hi-lo).toNat:Nat):Int)-((0:Nat):Int)=zay lo hi 1:=by rw[rangeSize_one];split<;>omega
  show IsRangeIter _ _ (lo+((0:Nat):Int)*1) ((((hi-lo).toNat:Nat):Int)-((0:Nat):Int)) 1;rw[e1,e2];exact z9 _ rfl
 ·have e:b=(s.heap.push {cls:=.type "range",data:=.fields #[.int lo t,.int hi u,.int 1 v]}).objs.size:=by simpa using hb
  subst e;exact I1.Wm (zv _) (I1.Au.fresh (zv _))
abbrev qX (ta:TA):TI:=λ σ H R=>ta σ H λ vs H1=>∃j:Int,vs=[.int j]/\-(2^62)<=j/\j<2^62/\R (tW 0 j.toNat) H1
def Wo {a:Expr}{ta:TA}{p pos:Pos}(hg:Gl X "range")(hm:X.mg "range" = none)(ha:PA X [a] ta)(hs: ~~~(starEach [a] X.env=[(false,eval a X.env)])):PI X tg (.Call (.Name "range" p) [a] [] pos) (qX ta):=by
 intro pins s σ H R I h;refine Call_ (Dp I hg hm boot_range (zW (Bi (ha pos pins s σ H _ I h) λ us s1 zz=>?_) hs rfl));obtain⟨vs,H1,I1,r1,q1⟩:=zz;obtain⟨j,e,q1,q2,q⟩:=q1;subst e;cases r1 with
 |cons r rr =>
  cases rr;obtain⟨t,rfl⟩:=r;exact call_range_1 (Y9 I1 (by omega) (by omega) q1 q2 (by simpa using q))
abbrev vG (wi:TI)(g:TG)(tb:TS):TS:=λ D σ H=>wi σ H λ J H1=>∃W:Nat->Nat->St->Hp->Prop,(∃m,W 0 m σ H1)/\∀i m σ H,W i m σ H->
 (J.stop i H/\D.nx σ H)\/(J.go i H/\∃N:St->Hp->Prop,(∀σ' H',N σ' H'->∃m',m'<m/\W (i+1) m' σ' H')/\∀x H',J.jY i H x H'->g x σ H' λ σ2 H2=>tb {D with nx:=N,ct:=N,bk:=D.nx} σ2 H2)
abbrev Ir (fp:List Addr)(h:Heap):List (Addr×Obj):=fp.filterMap λ b=>(h.get? b).map λ o=>(b,o)
def Fe {fp:List Addr}{h:Heap}{b:Addr}{o:Obj}(hb:b∈fp)(e:h.get? b=some o):(b,o)∈Ir fp h:=List.mem_filterMap.mpr ⟨b,hb,by rw[e];rfl⟩
def OJ {fp:List Addr}{h:Heap}{p:Addr×Obj}(hp:p∈Ir fp h):p.1∈fp/\h.get? p.1=some p.2:=by
 obtain⟨b,hb,e⟩:=List.mem_filterMap.mp hp;cases q:h.get? b with
 |none=>rw[q] at e;cases e
 |some o =>
  rw[q] at e;have e':(b,o)=p:=z7 e;subst e';exact⟨hb,q⟩
def Inv.pinned {pins:List (Addr×Obj)}{σ:St}{H:Hp}{s:Shared}{fp:List Addr}(I:Inv X pins σ H s)(hf:∀b∈fp,LQ X pins H b)(ho:∀b∈fp,∃o,s.heap.get? b=some o/\∀v,o.data≠.cell v):Inv X (pins++Ir fp s.heap) σ H s:=
 I.J5 λ p hp=>(zy.mp hp).elim (λ z=>I.pin p (zm _ z)) λ z=>by
  obtain⟨hb,e⟩:=OJ z;obtain⟨f0,f1,f2,_⟩:=hf p.1 hb;obtain⟨o,e',d⟩:=ho p.1 hb;rw[e] at e';cases e';exact⟨e,f0,f1,f2,d⟩
def Inv.J6 {pins pl:List (Addr×Obj)}{σ:St}{H:Hp}{s:Shared}(I:Inv X (pins++pl) σ H s):Inv X pins σ H s:=I.J5 λ p hp=>I.pin p (zm _ (zJ _ hp))
def Yb {iter:Expr}{body:List Stmt}{wi:TI}{g:TG}{tb:TS}{pos:Pos}(hp:PassesOwn (model X.prog X.w) X.A X.env X.xe)(hc:X.calm=true)(hi:PI X tg iter wi)(hg:PG X tg g)(hb:V4 X body tb)
 (hs:∀x,foldedSetIterable iter X.env x=pure x:=by intro _;rfl):PS X (.For tg iter body [] pos) (vG wi g tb):=by
 intro pins s σ H D I h;refine wpAny_For (Bi (hi pins s σ H _ I h) λ v s1 h1=>Bi h1 λ jy s2 h2=>?_) hs;obtain⟨it,fp,tn,J,H2,e,I2,T,cj,f2,W,⟨m0,w0⟩,turn⟩:=h2;subst e;have bp:∀ {H':Hp},(∀b∈fp,H' b=none)->∀b∈fp,LQ X pins H' b:=λ hn b hb=>⟨hn b hb,(f2 b hb).2⟩;refine codeAny_forLoop_any (λ n s'=>∃i σ' H',Inv X pins σ' H' s'/\tn i s'.heap/\(∀b∈fp,H' b=none)/\W i n σ' H') ?_ m0 ⟨0,σ,H2,I2,cj,λ b hb=>(f2 b hb).1,w0⟩;rintro n s3 ⟨i,σ3,H3,I3,h9,ia,w3⟩;rcases turn i n σ3 H3 w3 with ⟨stop,qn⟩|⟨go,N,hN,step⟩
 ·refine wpAny_passesOwn hp (Bi (T.done X rfl rfl rfl hc i pins s3 σ3 H3 X.xe I3 (bp ia) h9 stop) λ r s4 zz=>?_);obtain⟨hr,I4⟩:=zz;subst hr;exact wpAny_execs_nil ⟨σ3,H3,I4,qn⟩
 ·refine wpAny_passesOwn hp (Bi (T.item X rfl rfl rfl hc i pins s3 σ3 H3 X.xe I3 (bp ia) h9 go) λ r s4 zz=>?_);obtain⟨u,hr,h4⟩:=zz;subst hr;refine wpAny_passesOwn hp (Bi h4 λ _ s5 zz=>?_);obtain⟨x,H5,I5,r5,y5,dL,lm⟩:=zz;have ln:=I5.pinned (bp lm) (T.obj _ _ dL);refine wpAny_passesOwn hp (Bi (hg _ s5 σ3 H5 x u _ ln r5 (step x H5 y5)) λ _ s6 zz=>?_);obtain⟨σ6,H6,I6,q6⟩:=zz;refine wpAny_passesOwn hp (Bi (hb _ s6 σ6 H6 _ I6 q6) λ f s7 q7=>?_);have again:∀ {σ7:St} {H7:Hp},Inv X (pins++Ir fp s5.heap) σ7 H7 s7->N σ7 H7->∃m,m<n/\∃i σ' H',Inv X pins σ' H' s7/\tn i s7.heap/\(∀b∈fp,H' b=none)/\W i m σ' H':=fun {σ7 H7} I7 n7=>by
   obtain⟨m',hm,w7⟩:=hN σ7 H7 n7;refine⟨m',hm,i+1,σ7,H7,I7.J6,T.keep _ _ _ dL λ b hb o e=>(I7.pin (b,o) (zm _ (zm _ (Fe hb e)))).1,λ b hb=>?_,w7⟩;obtain⟨o,e,d⟩:=T.obj _ _ dL b hb;exact (I7.pin (b,o) (zm _ (zm _ (Fe hb e)))).2.1
  cases f with
  |next|cont=>obtain⟨σ7,H7,I7,n7⟩:=q7;exact again I7 n7
  |brk=>obtain⟨σ7,H7,I7,q7⟩:=q7;exact⟨σ7,H7,I7.J6,q7⟩
  |ret v=>obtain⟨x7,σ7,H7,I7,r7,q7⟩:=q7;exact⟨x7,σ7,H7,I7.J6,r7,q7⟩
end
noncomputable abbrev R2:=V->V->Hp->VK->Prop
abbrev Gb (X:Cx)(f:Value->Value->Sem Value)(r:R2):Prop:=
 ∀(pins:List (Addr×Obj)) (s:Shared) (σ:St) (H:Hp) (x y:V) (v u:Value) (Q:VK),Inv X pins σ H s->RelV x v->RelV y u->r x y H Q->
  wpAny (model X.prog X.w) X.A (f v u) (EP X pins σ Q) X.xe s
abbrev vH (X:Cx)(f:Value->Sem Value)(r:V->Hp->VK->Prop):Prop:=
 ∀(pins:List (Addr×Obj)) (s:Shared) (σ:St) (H:Hp) (x:V) (v:Value) (Q:VK),Inv X pins σ H s->RelV x v->r x H Q->
  wpAny (model X.prog X.w) X.A (f v) (EP X pins σ Q) X.xe s
abbrev FV (X:Cx)(f:Value)(r:List V->Hp->VK->Prop):Prop:=
 ∀(pins:List (Addr×Obj)) (s:Shared) (σ:St) (H:Hp) (xs:List V) (us:List Value) (Q:VK),Inv X pins σ H s->Vals xs us->r xs H Q->
  wpAny (model X.prog X.w) X.A (call f us) (EP X pins σ Q) X.xe s
abbrev vI (X:Cx)(r:V->Hp->(Bool->Hp->Prop)->Prop):Prop:=
 ∀(pins:List (Addr×Obj)) (s:Shared) (σ:St) (H:Hp) (x:V) (v:Value) (Q:Bool->Hp->Prop),Inv X pins σ H s->RelV x v->r x H Q->
  wpAny (model X.prog X.w) X.A (truthy v) (TP X pins σ Q) X.xe s
abbrev pQ (r:R2)(ta tb:TE):TE:=λ σ H Q=>ta σ H λ x H1=>tb σ H1 λ y H2=>r x y H2 Q
abbrev xT (r:V->Hp->VK->Prop)(ta:TE):TE:=λ σ H Q=>ta σ H λ x H1=>r x H1 Q
abbrev rI (C:Int->Int->Prop)(g:Int->Int->V):R2:=λ x y H Q=>∃i j,x=.int i/\y=.int j/\C i j/\Q (g i j) H
abbrev dR (g:Int->Int->V):R2:=λ x y H Q=>∃i j,x=.int i/\y=.int j/\Q (g i j) H
abbrev rU (g:Int->V):V->Hp->VK->Prop:=λ x H Q=>∃i,x=.int i/\Q (g i) H
section
variable {X:Cx}{a b c:Expr}{ta tb tc:TE}{pos:Pos}
def lW (ha:PE X a ta)(hb:PE X b tb){pins:List (Addr×Obj)}{s:Shared}{σ:St}{H:Hp}{R:V->V->Hp->Prop}(I:Inv X pins σ H s)
 (h:ta σ H λ x H1=>tb σ H1 λ y H2=>R x y H2) {Q:Value->Shared->Prop} {f:Value->Value->Sem Value}
 (hf:∀v u s2 x y H2,Inv X pins σ H2 s2->RelV x v->RelV y u->R x y H2->wpAny (model X.prog X.w) X.A (f v u) Q X.xe s2):
 wpAny (model X.prog X.w) X.A (eval a X.env) (λ v s₁=>wpAny (model X.prog X.w) X.A (eval b X.env) (λ u s₂=>wpAny (model X.prog X.w) X.A (f v u) Q X.xe s₂) X.xe s₁) X.xe s:=by
 refine Bi (ha pins s σ H _ I h) λ v s1 zz=>?_;obtain⟨x,H1,I1,r1,q1⟩:=zz;refine Bi (hb pins s1 σ H1 _ I1 q1) λ u s2 zz=>?_;obtain⟨y,H2,I2,r2,q2⟩:=zz;exact hf v u s2 x y H2 I2 r1 r2 q2
def Yc {op:Operator}{r:R2}(ho:Gb X (binaryOp op) r)(ha:PE X a ta)(hb:PE X b tb):PE X (.BinOp a op b pos) (pQ r ta tb):=by
 intro pins s σ H Q I h;exact wpAny_BinOp (lW ha hb I h λ v u s2 x y H2 I2 rx ry q=>ho pins s2 σ H2 x y v u Q I2 rx ry q)
def qY {op:UnaryOp}{r:V->Hp->VK->Prop}(ho:vH X (unaryOp op) r)(ha:PE X a ta):PE X (.UnaryOp op a pos) (xT r ta):=by
 intro pins s σ H Q I h;exact UnaryOp_ (Bi (ha pins s σ H _ I h) λ v s1 ⟨x,H1,I1,r1,q1⟩=>ho pins s1 σ H1 x v Q I1 r1 q1)
def tX {f:Value->Value->Sem Value}{C:Int->Int->Prop}{g:Int->Int->Int}
 (rule:∀(i j:Int) (t u:Tok) (s:Shared) (Q:Value->Shared->Prop) (E:Value->Shared->Prop),C i j->Q (.int (g i j) s.toks) {s with toks:=s.toks+1}->wpAny (model X.prog X.w) X.A (f (.int i t) (.int j u)) Q E s):
 Gb X f (rI C λ i j=>.int (g i j)):=by
 intro pins s σ H x y v u Q I rx ry h;obtain⟨i,j,rfl,rfl,hc,q⟩:=h;obtain⟨t,rfl⟩:=rx;obtain⟨t',rfl⟩:=ry;exact rule i j t t' s _ _ hc ⟨.int (g i j),H,I.tok _,⟨_,rfl⟩,q⟩
def qZ {f:Value->Value->Sem Value}{g:Int->Int->Int}
 (rule:∀(i j:Int) (t u:Tok) (s:Shared) (Q:Value->Shared->Prop) (E:Value->Shared->Prop),Q (.int (g i j) s.toks) {s with toks:=s.toks+1}->wpAny (model X.prog X.w) X.A (f (.int i t) (.int j u)) Q E s):
 Gb X f (dR λ i j=>.int (g i j)):=by
 intro pins s σ H x y v u Q I rx ry h;obtain⟨i,j,rfl,rfl,q⟩:=h;obtain⟨t,rfl⟩:=rx;obtain⟨t',rfl⟩:=ry;exact rule i j t t' s _ _ ⟨.int (g i j),H,I.tok _,⟨_,rfl⟩,q⟩
def lX {f:Value->Value->Sem Value}{g:Int->Int->Bool}
 (rule:∀(i j:Int) (t u:Tok) (s:Shared) (Q:Value->Shared->Prop) (E:Value->Shared->Prop),Q (.bool (g i j)) s->wpAny (model X.prog X.w) X.A (f (.int i t) (.int j u)) Q E s):
 Gb X f (dR λ i j=>.bl (g i j)):=by
 intro pins s σ H x y v u Q I rx ry h;obtain⟨i,j,rfl,rfl,q⟩:=h;obtain⟨t,rfl⟩:=rx;obtain⟨t',rfl⟩:=ry;exact rule i j t t' s _ _ ⟨.bl (g i j),H,I,rfl,q⟩
abbrev Yd (i j:Int):Prop:=0<j/\j<1073741824
abbrev eK (i j:Int):Prop:=0<=j/\j<=1000000/\i.natAbs<2^64
abbrev Ye (i j:Int):Prop:=(-(2^64)<i/\i<2^64)\/(-(2^64)<j/\j<2^64)
def Ye.ok {i j:Int}(h:Ye i j):IntMulOk i j:=by
 rcases h with ⟨h1,h2⟩|⟨h1,h2⟩
 ·exact .of_left (intBits_le_64 h1 h2)
 ·exact .of_right (intBits_le_64 h1 h2)
def lY:Gb X (binaryOp .Add) (dR λ i j=>.int (i+j)):=qZ λ _ _ _ _ _ _ _ q=>add_int q
def lZ:Gb X (binaryOp .Sub) (dR λ i j=>.int (i-j)):=qZ λ _ _ _ _ _ _ _ q=>sub_int q
def eL:Gb X (binaryOp .FloorDiv) (rI Yd λ i j=>.int (i / j)):=tX λ i j _ _ _ _ _ hc q=>by
 have h1:(0:Int)<j:=hc.1;have h2:j<1073741824:=hc.2;exact floordiv_int (by omega) (by rw[Int.fdiv_eq_ediv_of_nonneg i (by omega)];exact q) (.inl (PyProof.noPylong_small (by omega)))
def mB:Gb X (binaryOp .Mod) (rI (λ _ j=>0<j) λ i j=>.int (i%j)):=tX λ i j _ _ _ _ _ hc q=>by
 have h1:(0:Int)<j:=hc;exact mod_int' (by omega) (by rw[Int.fmod_eq_emod_of_nonneg i (by omega)];exact q)
def mC:Gb X (binaryOp .Pow) (rI eK λ i j=>.int (i^j.toNat)):=tX λ _ _ _ _ _ _ _ hc q=>pow_int_small hc.1 hc.2.1 hc.2.2 q
def xU {f:Value->Sem Value}{g:Int->Int}
 (rule:∀(i:Int) (t:Tok) (s:Shared) (Q:Value->Shared->Prop) (E:Value->Shared->Prop),Q (.int (g i) s.toks) {s with toks:=s.toks+1}->wpAny (model X.prog X.w) X.A (f (.int i t)) Q E s):
 vH X f (rU λ i=>.int (g i)):=by
 intro pins s σ H x v Q I rx h;obtain⟨i,rfl,q⟩:=h;obtain⟨t,rfl⟩:=rx;exact rule i t s _ _ ⟨.int (g i),H,I.tok _,⟨_,rfl⟩,q⟩
def mD:vH X (unaryOp .USub) (rU λ i=>.int (-i)):=xU λ _ _ _ _ _ q=>neg_int q
end
section
variable {X:Cx}{a b c:Expr}{ta tb tc:TE}{pos:Pos}
def jZ:Gb X (compareOp .Lt) (dR λ i j=>.bl (decide (i<j))):=lX λ _ _ _ _ _ _ _ q=>lt_int q
def rA:Gb X (compareOp .LtE) (dR λ i j=>.bl (decide (i<=j))):=lX λ _ _ _ _ _ _ _ q=>le_int q
def rB:Gb X (compareOp .Gt) (dR λ i j=>.bl (decide (j<i))):=lX λ _ _ _ _ _ _ _ q=>gt_int q
def Gb.or {f:Value->Value->Sem Value}{r r':R2}(h:Gb X f r)(h':Gb X f r'):Gb X f (λ x y H Q=>r x y H Q\/r' x y H Q):=by
 intro pins s σ H x y v u Q I rx ry q;rcases q with q|q
 ·exact h pins s σ H x y v u Q I rx ry q
 ·exact h' pins s σ H x y v u Q I rx ry q
def Iv (b:Expr){op:CmpOp}(h:op≠.In:=by decide)(h2:op≠.NotIn:=by decide):behindInMarks op b=false:=by
 have e1:(op==CmpOp.In)=false:=by cases op<;>first|rfl|exact absurd rfl h
 have e2:(op==CmpOp.NotIn)=false:=by cases op<;>first|rfl|exact absurd rfl h2
 cases b<;>simp[behindInMarks,e1,e2]
def eM {op:CmpOp}{r:R2}(ho:Gb X (compareOp op) r)(ha:PE X a ta)(hb:PE X b tb)(hm:behindInMarks op b=false):PE X (.Compare a [op] [b] pos) (pQ r ta tb):=by
 intro pins s σ H Q I h;exact wpAny_Compare1 (lW ha hb I h λ v u s2 x y H2 I2 rx ry q=>ho pins s2 σ H2 x y v u Q I2 rx ry q) hm
abbrev rC (t:TE):TT:=λ σ H Q=>t σ H λ x H'=>∃k,x=.bl k/\Q k H'
def eN {op:CmpOp}{r:R2}(ho:Gb X (compareOp op) r)(ha:PE X a ta)(hb:PE X b tb)(hm:behindInMarks op b=false):PT X (.Compare a [op] [b] pos) (rC (pQ r ta tb)):=by
 intro pins s σ H Q I h;refine wpAny_isTrue_Compare1 (Bi (ha pins s σ H _ I h) λ v s1 ⟨x,H1,I1,r1,q1⟩=>Bi (hb pins s1 σ H1 _ I1 q1) λ u s2 ⟨y,H2,I2,r2,q2⟩ =>
  Bi (ho pins s2 σ H2 x y v u _ I2 r1 r2 q2) λ c s3 ⟨z,H3,I3,r3,k,e,q3⟩=>?_) hm
 subst e;cases r3;exact wpAny_truthy_bool ⟨H3,I3,q3⟩
abbrev mE (r r':R2)(ta tb tc:TE):TE:=λ σ H Q=>ta σ H λ x H1=>tb σ H1 λ y H2=>r x y H2 λ z H3=>∃k,z=.bl k/\
 (if k=true then tc σ H3 λ w' H4=>r' y w' H4 Q else Q (.bl false) H3)
def Yg {op ee:CmpOp}{r r':R2}(ho:Gb X (compareOp op) r)(bi:Gb X (compareOp ee) r')(ha:PE X a ta)(hb:PE X b tb)(hc:PE X c tc)
 (hm:lastMarks [op,ee] [b,c]=false:=by with_unfolding_all rfl):PE X (.Compare a [op,ee] [b,c] pos) (mE r r' ta tb tc):=by
 intro pins s σ H Q I h;refine Compare_chain (Bi (ha pins s σ H _ I h) λ v s1 ⟨x,H1,I1,r1,q1⟩=>chain_link (Bi (hb pins s1 σ H1 _ I1 q1) λ u s2 ⟨y,H2,I2,r2,q2⟩ =>
  Bi (ho pins s2 σ H2 x y v u _ I2 r1 r2 q2) λ d s3 ⟨z,H3,I3,r3,k,e,q3⟩=>?_)) hm
 subst e;cases r3;refine wpAny_truthy_bool ?_;cases k with
 |false=>exact ite_ff ⟨.bl false,H3,I3,rfl,q3⟩
 |true=>exact ite_tt (chain_last (Bi (hc pins s3 σ H3 _ I3 q3) λ w' s4 ⟨z',H4,I4,r4,q4⟩=>bi pins s4 σ H4 y z' u w' Q I4 r2 r4 q4))
abbrev rD (K:za)(x:V)(H:Hp)(k:Bool):Prop:=
 match x with
 | .AK=>k=false
 | .bl b=>k=b
 | .int i=>k=(i != 0)
 | .str y=>y.length<=sizeLine/\k=((y.length:Int) != 0)
 | .lF y=>y.size<=sizeLine/\k=((y.size:Int) != 0)
 | .ref p=>(∃xs,D2 K H p xs/\k = !xs.isEmpty)\/(∃xs,Fd K H p xs/\k = !xs.isEmpty)\/∃kvs,H p=some (.dK kvs)/\k = !kvs.isEmpty
 |_=>False
def TX {κ:Type}{kvs:List (κ×V)}{vs:List (κ×Value)}(r:KV kvs vs):(!vs.isEmpty) = !kvs.isEmpty:=by
 cases r<;>rfl
def Mw {xs:List V}{aa:List Value}(r:Vals xs aa):(!aa.toArray.isEmpty) = !xs.isEmpty:=by
 cases r<;>simp
def Kx:(sizeLine:Nat)<2^63:=by rw[sizeLine_eq];decide
def mF:vI X (λ x H Q=>∃k,rD X.K x H k/\Q k H):=by
 intro pins s σ H x v Q I rx h;obtain⟨k,e,q⟩:=h;have hl:=Kx;have hs:sizeLine=16777216:=sizeLine_eq;cases x with
 |AK =>
  cases rx;have e':k=false:=e;subst e';exact truthy_none ⟨H,I,q⟩
 |bl b =>
  cases rx;have e':k=b:=e;subst e';exact wpAny_truthy_bool ⟨H,I,q⟩
 |int i =>
  obtain⟨t,rfl⟩:=rx;have e':k=(i != 0):=e;subst e';exact PySem.P.truthy_int ⟨H,I,q⟩
 |str y =>
  obtain⟨t,rfl⟩:=rx;obtain⟨hy,e'⟩:y.length<=sizeLine/\k=((y.length:Int) != 0):=e;subst e';exact PySem.P.truthy_str (by omega) ⟨H,I.tok _,q⟩
 |lF y =>
  obtain⟨t,rfl⟩:=rx;obtain⟨hy,e'⟩:y.size<=sizeLine/\k=((y.size:Int) != 0):=e;subst e';exact PySem.W.truthy_bytes (by omega) ⟨H,I.tok _,q⟩
 |ref p =>
  cases rx;have e':(∃xs,D2 X.K H p xs/\k = !xs.isEmpty)\/(∃xs,Fd X.K H p xs/\k = !xs.isEmpty)\/∃kvs,H p=some (.dK kvs)/\k = !kvs.isEmpty:=e;rcases e' with ⟨xs,hx,e'⟩|⟨xs,hx,e'⟩|⟨kvs,hx,e'⟩
  ·subst e';obtain⟨aa,r,pl,hz⟩:=I.list hx;have hlen:=r.length;exact wpAny_truthy_list pl.isList (by simp only[zl];omega) ⟨H,I.tok _,by rw[Mw r];exact q⟩
  ·subst e';obtain⟨aa,r,pl,hz⟩:=I.tuple hx;have hlen:=r.length;exact truthy_tuple pl (by simp only[zl];omega) ⟨H,I.tok _,by rw[Mw r];exact q⟩
  ·subst e';obtain⟨hz,hS,vs,r,m⟩:kvs.length<=sizeLine/\(p==sysModules)=false/\∃vs,KV kvs vs/\s.heap.DictOf (B8 X.prog X.w) p vs:=I.Au p _ hx;have hlen:kvs.length=vs.length:=Paired.length r;exact wpAny_truthy_dict hS m (by omega) ⟨H,I.tok _,by rw[TX r];exact q⟩
 |_=>exact (show False from e).elim
def Yh (ha:PE X a ta)(he:∀whole,isTrue a X.env whole=(do let v <-whole;standAt a.pos;holding [v] (truthy v))):
 PT X a (λ σ H Q=>ta σ H λ x H'=>∃k,rD X.K x H' k/\Q k H'):=by
 intro pins s σ H Q I h;exact isTrue_plain (Bi (ha pins s σ H _ I h) λ v s1 ⟨x,H1,I1,r1,q1⟩=>mF pins s1 σ H1 x v Q I1 r1 q1) (he _)
def vals1 {x:V}{us:List Value}(r:Vals [x] us):∃u,us=[u]/\RelV x u:=by
 cases r with
 |cons r1 r2=>cases r2;exact⟨_,rfl,r1⟩
def Wq:FV X (.type "int") (λ xs H Q=>(∃i,xs=[.int i]/\Q (.int i) H)\/∃k,xs=[.bl k]/\Q (.int (if k then 1 else 0)) H):=by
 intro pins s σ H xs us Q I r h;rcases h with ⟨i,rfl,q⟩|⟨k,rfl,q⟩
 ·obtain⟨u,rfl,t,rfl⟩:=vals1 r;exact call_int_int ⟨.int i,H,I,⟨_,rfl⟩,q⟩
 ·obtain⟨u,rfl,r1⟩:=vals1 r;cases r1;exact call_int_bool ⟨.int (if k then 1 else 0),H,I.tok _,⟨_,rfl⟩,q⟩
end
structure TY (h:Heap)(x dx C:Addr)(mA:Str->Option Value):Prop where
 obj:h.get? x=some (zaf C dx)
 ns:h.Ns1 dx mA
 ne:dx≠x
def Wr {h:Heap}{dx:Addr}{mA:Str->Option Value}(n:h.Ns1 dx mA):∃od,h.get? dx=some od/\∀name,PySem.W.lookIn name od=some (mA name):=by
 obtain⟨o,es,ep,ho,hd,hk,_,hm⟩:=n;refine⟨o,ho,λ name=>?_⟩;have e:=hm name;unfold nsFind findBy at e;rw[<-Array.find?_toList] at e;unfold PySem.W.lookIn;rw[hd];dsimp only;split
 ·rename_i y q;rw[q] at e;exact congrArg some e
 ·rename_i q;rw[q] at e;have a:es.toList.any (·.refKey)=false:=by
   rw[List.any_eq_false];intro y hy;obtain⟨z,t,lp⟩:=hk y (Array.mem_toList_iff.mp hy);simp[DictEntry.refKey,lp]
  have a':¬ es.toList.any (·.refKey)=true:=by rw[a];exact z4
  rw[if_neg a'];exact congrArg some e
def TY.look {h:Heap}{x dx C:Addr}{mA:Str->Option Value}(I:TY h x dx C mA):∃od,PySem.W.InstAt h x (zaf C dx) C (some od)/\∀name,PySem.W.lookIn name od=some (mA name):=
 let ⟨od,ho,hl⟩:=Wr I.ns
 ⟨od,⟨I.obj,rfl,rfl,ho⟩,hl⟩
section
variable {prog:Program}{w:World}{A:Around}{E:Value->Shared->Prop}{s:Shared}{K:za}{x dx C f:Addr}{mA:Str->Option Value}{name:Str}{v:Value}
def get_map {expr:Bool}{Q:Value->Shared->Prop}(X:K.In s.heap)(I:TY s.heap x dx C mA)(hg:PySem.W.plainGet K C name=true)(hh:PySem.W.hasDictIn K C=true)
 (ha:zP K (.ref C) name=some none) (hv:mA name=some v) (tm:PySem.W.handedIn v=true) (h:Q v {s with toks:=s.toks+1}):
 wpAny (model prog w) A (getAttr (.ref x) name expr) Q E s:=by
 obtain⟨od,J,hl⟩:=I.look;exact PySem.W.get_value X J (PySem.W.plainGet_of hg).1 (PySem.W.findObj_own hh ha rfl (by rw[hl,hv])) tm h
def Yi {pl:Sem Bool}{Q:Value×List Value->Shared->Prop}(X:K.In s.heap)(I:TY s.heap x dx C mA)(hg:PySem.W.plainGet K C name=true)
 (hf:zP K (.ref C) name=some (some (.ref f))) (ht:PySem.W.isFn K (.ref f)=true) (hv:mA name=none) (h:Q (.ref f,[.ref x]) s):
 wpAny (model prog w) A (getMethod (.ref x) name pl) Q E s:=by
 obtain⟨od,J,hl⟩:=I.look;exact PySem.W.method_fn X J (PySem.W.plainGet_of hg).1 (PySem.W.plainGet_of hg).2 hf (beq_iff_eq.mp ht) (by show (PySem.W.lookIn name od).map (·.isSome)=some false;rw[hl,hv];rfl) h
def eO {ns:List Str}{Q:Unit->Shared->Prop}(X:K.In s.heap)(I:TY s.heap x dx C mA)
 (hs:zP K (.ref C) "__setattr__" = some (some (.builtin "object.__setattr__"))) (hp:PySem.W.plainOver K C=true) (ht:PySem.W.takerIn K C name=some none) (hh:PySem.W.hasDictIn K C=true)
 (hw:PySem.Within mA ns) (hsz:ns.length<=sizeLine)
 (h:∀h',TY h' x dx C (λ y=>if y=name then some v else mA y)->Heap.SameBut dx s.heap h'->Q () {s with heap:=h',toks:=s.toks+2}):
 wpAny (model prog w) A (setAttr (.ref x) name v) Q E s:=by
 obtain⟨od,J,hl⟩:=I.look;refine PySem.W.set_plain X J hs (PySem.W.osa_open (s:={s with toks:=s.toks+1}) (r:=none) X J hp ht λ b=>?_);obtain⟨cd,hc,ba⟩:=PySem.W.any_some hh;have hx:s.heap.get? x=some ⟨.ref C,some dx,.plain,#[]⟩:=I.obj;refine wpAny_bind (wpAny_pure (wpAny_bind (wpAny_bind (wpAny_loadPart hx (wpAny_bind (PySem.W.Looks.here (s:={s with toks:=s.toks+1}) (PySem.W.looks_clsIn X hc) ?_))))));rw[ba];refine wpAny_pure (a:=some dx) (wpAny_bind (wpAny_pure (wpAny_bind ?_)));refine wpAny_nsSet1 (s:={s with toks:=s.toks+1}) I.ns λ h' aD aG=>?_;obtain⟨oD,yh,yi,tu,tw,tz⟩:=aD.count (PySem.Within.cons name v hw);refine wpAny_bind (wpAny_lookBehind tu (by rw[tw];exact pastItsLine_dict (zZ tz (by rw[zk];omega))) ?_);exact wpAny_pure (h _ ⟨(aG.2 _ (zY I.ne)).trans I.obj,aD,I.ne⟩ aG)
def Yj {R:Result->Shared->Prop}{vs:List Value}{kw:List (Str×Value)}(X:K.In s.heap)(hm:PySem.W.makesIn K C=true)
 (hi:zP K (.ref C) "__init__" = some (some (.ref f))) (hf:PySem.W.typeIn K (.ref f)=some (.type "function"))
 (h:codeAny (model prog w) (A.under (.builtin "type.__call__" ⟨.ref C::vs,kw⟩)) (.call (.ref f) ⟨.ref (s.heap.objs.size+1)::vs,kw⟩) (PySem.W.InitBack (s.heap.objs.size+1) R)
  {s with heap:=(s.heap.push yX).push (zaf C s.heap.objs.size)}):
 codeAny (model prog w) A (.call (.ref C) ⟨vs,kw⟩) R s:=by
 obtain⟨hh,g,d,t,os⟩:=s;exact PySem.W.make_core (PySem.W.makes_of X hm) (PySem.W.looks_findIn X hi) (λ self=>PySem.W.bind_fn X self hf) (.inl rfl) h
end
abbrev DV (f:Str)(v:V):List (Str×V)->List (Str×V)
 |[]=>[(f,v)]
 |(g,x)::r=>if g=f then (g,v)::r else (g,x)::DV f v r
def Lc (f g:Str)(v:V):∀fs:List (Str×V),(DV f v fs).lookup g=if g=f then some v else fs.lookup g
 |[]=>by
  show List.lookup g [(f,v)]=_;by_cases h:g=f
  ·have hb:(g==f)=true:=beq_iff_eq.mpr h;simp only[List.lookup,hb,if_pos h]
  ·have hb:(g==f)=false:=beq_eq_false_iff_ne.mpr h;simp only[List.lookup,hb,if_neg h]
 |(k,x)::r=>by
  have ih:=Lc f g v r;rw[show DV f v ((k,x)::r)=(if k=f then (k,v)::r else (k,x)::DV f v r) from rfl];by_cases hk:k=f
  ·rw[if_pos hk];by_cases h:g=k
   ·have hb:(g==k)=true:=beq_iff_eq.mpr h;simp only[List.lookup,hb,if_pos (h.trans hk)]
   ·have hb:(g==k)=false:=beq_eq_false_iff_ne.mpr h;simp only[List.lookup,hb,if_neg (λ e:g=f=>h (e.trans hk.symm))]
  ·rw[if_neg hk];by_cases h:g=k
   ·have hb:(g==k)=true:=beq_iff_eq.mpr h;simp only[List.lookup,hb,if_neg (λ e:g=f=>hk (h.symm.trans e))]
   ·have hb:(g==k)=false:=beq_eq_false_iff_ne.mpr h;simp only[List.lookup,hb];exact ih
def Ky (f:Str)(v:V):∀fs:List (Str×V),f∈(DV f v fs).map (·.1)/\∀g,g∈fs.map (·.1)->g∈(DV f v fs).map (·.1)
 |[]=>⟨by simp[DV],λ g h=>by simp at h⟩
 |(k,x)::r=>by
  obtain⟨i1,i2⟩:=Ky f v r;rw[show DV f v ((k,x)::r)=(if k=f then (k,v)::r else (k,x)::DV f v r) from rfl];by_cases hk:k=f
  ·rw[if_pos hk];subst hk;exact⟨by simp,λ g h=>by simpa using h⟩
  ·rw[if_neg hk];refine⟨?_,λ g h=>?_⟩
   ·rw[zf];exact ze _ i1
   ·rw[zf] at h ⊢;rcases zq.mp h with e|e
    ·exact zq.mpr (.inl e)
    ·exact ze _ (i2 g e)
def Ld (f:Str)(v:V):∀fs:List (Str×V),(DV f v fs).length<=fs.length+1
 |[]=>by simp[DV]
 |(k,x)::r=>by
  have ih:=Ld f v r;rw[show DV f v ((k,x)::r)=(if k=f then (k,v)::r else (k,x)::DV f v r) from rfl];by_cases hk:k=f
  ·rw[if_pos hk,zk,zk];omega
  ·rw[if_neg hk,zk,zk];omega
def G5.some_of {v:V}{o:Option Value}(r:G5 (some v) o):∃u,o=some u/\RelV v u:=by
 cases o with
 |none=>exact (show False from r).elim
 |some u=>exact⟨u,rfl,r⟩
def G5.none_of {o:Option Value}(r:G5 none o):o=none:=by
 cases o with
 |none=>rfl
 |some u=>exact (show False from r).elim
def Ws {v:V}{u:Value}(r:RelV v u):PySem.W.handedIn u=true:=by
 cases v with
 |AK=>cases (show u=Value.none from r);rfl
 |bl b=>cases (show u=Value.bool b from r);rfl
 |int i=>obtain⟨t,e⟩:=(show ∃t,u=Value.int i t from r);cases e;rfl
 |str x=>obtain⟨t,e⟩:=(show ∃t,u=Value.str x t from r);cases e;rfl
 |lF b=>obtain⟨t,e⟩:=(show ∃t,u=Value.bytes b t from r);cases e;rfl
 |qG b=>obtain⟨t,e⟩:=(show ∃t,u=Value.float b t from r);cases e;rfl
 |ref a=>cases (show u=yG a from r);rfl
 |ty n=>cases (show u=Value.type n from r);rfl
section
variable {P:Program}{w:World}{H H':Hp}{h h':Heap}{a C dx:Addr}{fs bM:List (Str×V)}
def Q6 (Au:Ga P w H h)(e:H a=some (.ins C dx fs)):∃mA,TY h a dx C mA/\(∀f,G5 (fs.lookup f) (mA f))/\PySem.Within mA (fs.map (·.1))/\fs.length<=1000/\H dx=some (.own a):=by
 obtain⟨d,z,ne,ob,mA,n,r,q⟩:=(show BW P w H h a (.ins C dx fs) from Au a _ e);exact⟨mA,⟨ob,n,ne⟩,r,q,z,d⟩
end
structure Wt (K:za)(C:Addr):Prop where
 pg:PySem.W.plainGet K C Str.empty=true
 hd:PySem.W.hasDictIn K C=true
 po:PySem.W.plainOver K C=true
 sa:zP K (.ref C) "__setattr__" = some (some (.builtin "object.__setattr__"))
def Wt.get {K:za}{C:Addr}(c:Wt K C)(f:Str):PySem.W.plainGet K C f=true:=c.pg
abbrev Iw (K:za)(C:Addr)(f:Str):Prop:=zP K (.ref C) f=some none
def Iw.rE {K:za}{C:Addr}{f:Str}(n:Iw K C f):PySem.W.takerIn K C f=some none:=by
 unfold PySem.W.takerIn;rw[show zP K (.ref C) f=some none from n];rfl
structure Meth (K:za)(C:Addr)(m:Str)(f:Addr):Prop where
 at_:zP K (.ref C) m=some (some (.ref f))
 fn:PySem.W.isFn K (.ref f)=true
 kp:zV K (.ref f)=true
section
variable {X:Cx}{pins:List (Addr×Obj)}{σ:St}{H:Hp}{s:Shared}{a C dx:Addr}{fs:List (Str×V)}{f:Str}{v:V}{A:Around}{E:Value->Shared->Prop}
def TZ {b:Bool}{Q:Value->Shared->Prop}(I:Inv X pins σ H s)(e:H a=some (.ins C dx fs))(c:Wt X.K C)(n:Iw X.K C f)(l:fs.lookup f=some v)
 (h:∀u s',Inv X pins σ H s'->RelV v u->Q u s'):wpAny (model X.prog X.w) A (getAttr (.ref a) f b) Q E s:=by
 obtain⟨mA,O,r,_,_,_⟩:=Q6 I.Au e;obtain⟨u,hu,ru⟩:=G5.some_of (v:=v) (o:=mA f) (by rw[<-l];exact r f);exact get_map I.Mv O (c.get f) c.hd n hu (Ws ru) (h u _ (I.tok _) ru)
def Mx {m:Str}{g:Addr}{pl:Sem Bool}{Q:Value×List Value->Shared->Prop}(I:Inv X pins σ H s)(e:H a=some (.ins C dx fs))(c:Wt X.K C)(k:Meth X.K C m g)(l:fs.lookup m=none)
 (h:Q (.ref g,[.ref a]) s):wpAny (model X.prog X.w) A (getMethod (.ref a) m pl) Q E s:=by
 obtain⟨mA,O,r,_,_,_⟩:=Q6 I.Au e;have hn:mA m=none:=G5.none_of (by rw[<-l];exact r m);exact Yi I.Mv O (c.get m) k.at_ k.fn hn h
def U0 {y:V}{u:Value}{Q:Unit->Shared->Prop}(I:Inv X pins σ H s)(e:H a=some (.ins C dx fs))(c:Wt X.K C)(n:Iw X.K C f)(hl:fs.length<1000)(ry:RelV y u)
 (h:∀s',Inv X pins σ (upd H a (.ins C dx (DV f y fs))) s'->Q () s'):wpAny (model X.prog X.w) A (setAttr (.ref a) f u) Q E s:=by
 obtain⟨mA,O,r,wi,_,ho⟩:=Q6 I.Au e;have hz:(fs.map (·.1)).length<=sizeLine:=by rw[zc,sizeLine_eq];omega
 refine eO I.Mv O c.sa c.po n.rE c.hd wi hz λ h' O' sb=>h _ ?_;have hd:∃o,h'.get? dx=some o:=let ⟨o,_,_,e',_⟩:=O'.ns;⟨o,e'⟩;refine I.write (x:=a) (e:=dx) (by rw[e];exact zan) (.inr ho) (λ b q hb z=>(sb.2 b hb).trans z) hd ?_;refine⟨by rw[Ai O.ne];exact ho,?_,O.ne,O'.obj,_,O'.ns,λ g=>?_,λ g hg=>?_⟩
 ·have:=Ld f y fs;omega
 ·show G5 ((DV f y fs).lookup g) (if g=f then some u else mA g);rw[Lc];by_cases q:g=f
  ·rw[if_pos q,if_pos q];exact ry
  ·rw[if_neg q,if_neg q];exact r g
 ·by_cases q:g=f
  ·rw[q];exact (Ky f y fs).1
  ·refine (Ky f y fs).2 g (wi g λ z=>hg ?_);show (if g=f then some u else mA g)=none;rw[if_neg q];exact z
def Inv.made (I:Inv X pins σ H s):Inv X pins σ (upd (upd H s.heap.objs.size (.own (s.heap.objs.size+1))) (s.heap.objs.size+1) (.ins C s.heap.objs.size []))
 {s with heap:=(s.heap.push yX).push (zaf C s.heap.objs.size)}:=by
 have e1:(s.heap.push yX).get? s.heap.objs.size=some yX:=z9 s.heap rfl;have e2:((s.heap.push yX).push (zaf C s.heap.objs.size)).get? (s.heap.objs.size+1)=some (zaf C s.heap.objs.size):=by
  have:=z9 (s.heap.push yX) (o:=zaf C s.heap.objs.size) rfl;rwa[Heap.size_push] at this
 have e3:(s.heap.push yX).Ns s.heap.objs.size (λ _=>none):=⟨yX,#[],_,e1,rfl,(λ e he=>absurd he (by simp)),λ _=>rfl⟩;have I1:=I.laid (a:=s.heap.objs.size) (o:=.own (s.heap.objs.size+1)) (h':=s.heap.push yX) (t':=s.toks) (λ b u q=>zp _ q) (zv _) ⟨_,e1⟩;refine I1.laid (a:=s.heap.objs.size+1) (o:=.ins C s.heap.objs.size []) (t':=s.toks) (λ b u q=>zp _ q) (Nat.le_of_eq (Heap.size_push _ _)) ?_;have ne:s.heap.objs.size≠s.heap.objs.size+1:=zD (Nat.lt_succ_self _);refine⟨by rw[Ai ne,Aq],zM _,ne,e2,λ _=>none,(Heap.Ns1.of_empty e3).at λ o q=>zp _ q,λ _=>zan,λ y hy=>absurd rfl hy⟩
def eQ {prog:Program}{w:World}{env:Env}{e:Expr}{f:Str}{pos:Pos}{s:Shared}{Q:Value->Shared->Prop}(hb:attributeBase e f env (eval e env)=eval e env)
 (h:wpAny (model prog w) A (eval e env) (λ o s₁=>wpAny (model prog w) A (getAttr o f true) Q E s₁) E s):wpAny (model prog w) A (eval (.Attribute e f pos) env) Q E s:=
 Attribute_any_ h (by rw[arm_eval_Attribute,hb])
end
abbrev vJ (K:za)(ta:TE)(f:Str):TE:=λ σ H Q=>ta σ H λ x H1=>∃a C dx fs v,x=.ref a/\H1 a=some (.ins C dx fs)/\Wt K C/\Iw K C f/\fs.lookup f=some v/\Q v H1
abbrev vK (K:za)(ta tv:TE)(f:Str):TS:=λ D σ H=>tv σ H λ y H1=>ta σ H1 λ x H2=>∃a C dx fs,x=.ref a/\H2 a=some (.ins C dx fs)/\Wt K C/\Iw K C f/\fs.length<1000/\
 D.nx σ (upd H2 a (.ins C dx (DV f y fs)))
section
variable {X:Cx}{o e value:Expr}{f:Str}{pos pos' bq:Pos}{ta tv:TE}
def mG (he:PE X e ta)(hb:attributeBase e f X.env (eval e X.env)=eval e X.env):PE X (.Attribute e f pos) (vJ X.K ta f):=by
 intro pins s σ H Q I h;refine eQ hb (Bi (he pins s σ H _ I h) λ u s1 zz=>?_);obtain⟨x,H1,I1,rx,a,C,dx,fs,v,ex,ea,c,n,l,q⟩:=zz;subst ex;obtain rfl:u=yG a:=rx;exact TZ I1 ea c n l λ u' s2 I2 ru=>⟨v,H1,I2,ru,q⟩
def mH (ha:PE X o ta)(hv:PE X value tv)(hs:swapsWith value (some (.Attribute o f pos')) pos.line X.env=pure false):PS X (.Assign [.Attribute o f pos'] value pos) (vK X.K ta tv f):=by
 intro pins s σ H D I h;refine plainObj_wpAny_Assign_Attribute (Bi (hv pins s σ H _ I h) λ u s1 ⟨y,H1,I1,ry,q⟩=>Bi (ha pins s1 σ H1 _ I1 q) λ ov s2 zz=>?_) hs;obtain⟨x,H2,I2,rx,a,C,dx,fs,ex,ea,c,n,l,q2⟩:=zz;subst ex;obtain rfl:ov=yG a:=rx;exact U0 I2 ea c n l ry λ s3 I3=>⟨σ,_,I3,q2⟩
end
structure Bu (k:Nat)(A:Around):Prop where
 hd:A.handled=none
 dp:A.depth+3*k+5<recursionLimit
 un:A.units+16*k+200<cLine
def Bu.mono {j k:Nat}{A:Around}(r:Bu k A)(h:j<=k):Bu j A:=⟨r.hd,by have:=r.dp;omega,by have:=r.un;omega⟩
def Bu.deeper {k:Nat}{A:Around}(r:Bu (k+1) A)(env:Env):Bu k (A.deeper env):=
 ⟨r.hd,by have:=r.dp;show A.depth+1+3*k+5<_;omega,by have:=r.un;show A.units+3+16*k+200<_;omega⟩
def U1 {A:Around}{C:Addr}{us:List Value}{kw:List (Str×Value)}:(A.under (.builtin "type.__call__" ⟨.ref C::us,kw⟩)).depth=A.depth+1:=by
 first|rfl|simp[Around.under,Code.weight,Code.isCreation,Code.isGuard,Code.isCaller,Code.frames,Code.isFrame,guardIds]
def U2 {A:Around}{C:Addr}{us:List Value}{kw:List (Str×Value)}:(A.under (.builtin "type.__call__" ⟨.ref C::us,kw⟩)).units=A.units+1:=by
 first|rfl|simp[Around.under,Code.cUnits,Code.frames,Code.isFrame]
def Bu.make {k:Nat}{A:Around}(r:Bu (k+1) A)(C:Addr)(us:List Value)(kw:List (Str×Value)):Bu k (A.under (.builtin "type.__call__" ⟨.ref C::us,kw⟩)):=
 ⟨r.hd,by have:=r.dp;rw[U1];omega,by have:=r.un;rw[U2];omega⟩
def Bu.depth {k:Nat}{A:Around}(r:Bu k A):A.depth<recursionLimit:=by have:=r.dp;omega
def Bu.units {k:Nat}{A:Around}(r:Bu k A):A.units+64<cLine:=by have:=r.un;omega
abbrev mI:TA:=λ _ H Q=>Q [] H
abbrev kA (ta:TE)(tr:TA):TA:=λ σ H Q=>ta σ H λ x H1=>tr σ H1 λ xs H2=>Q (x::xs) H2
section
variable {X:Cx}{e:Expr}{es:List Expr}{te:TE}{t:TA}{pos:Pos}
def Cp:PA X [] mI:=λ _ _ _ _ H Q I h=>zau ⟨[],H,I,.nil,h⟩
def Bf (ha:PE X e te)(hr:PA X es t)(hs: ~~~(starEach (e::es) X.env=(false,eval e X.env)::starEach es X.env)):PA X (e::es) (kA te t):=by
 intro pos pins s σ H Q I h;rw[hs];show wpAny _ _ (spliced ((false,eval e X.env)::backTo pos (starEach es X.env))) _ _ s;refine zaq (Bi (ha pins s σ H _ I h) λ u s1 zz=>?_);obtain⟨x,H1,I1,r1,q1⟩:=zz;exact Bi (hr pos pins s1 σ H1 _ I1 q1) λ us s2 ⟨xs,H2,I2,r2,q2⟩=>⟨x::xs,H2,I2,.cons r1 r2,q2⟩
abbrev vL (t:TA):TE:=λ σ H Q=>t σ H λ xs H1=>xs.length<=sizeLine/\∀p,H1 p=none->Q (.ref p) (upd H1 p (.tup xs))
abbrev vM (t:TA):TE:=λ σ H Q=>t σ H λ xs H1=>xs.length<=sizeLine/\∀p,H1 p=none->Q (.ref p) (upd H1 p (.lst xs))
def Yk {x1}(h:PA X es t):PE X (.Tuple es x1 pos) (vL t):=by
 intro pins s σ H Q I hq;refine wpAny_Tuple_spliced (Bi (h pos pins s σ H _ I hq) λ us s1 ⟨xs,H1,I1,r,z,q⟩=>⟨by rw[<-r.length];exact z,?_⟩);have hf:H1 s1.heap.objs.size=none:=I1.Au.fresh (zv _);refine⟨.ref s1.heap.objs.size,upd H1 s1.heap.objs.size (.tup xs),I1.laid (t':=s1.toks) (λ b u e=>zp _ e) (zv _) ?_,rfl,q _ hf⟩;exact⟨z,us,r,⟨_,z9 _ rfl,rfl,_,rfl⟩⟩
def Q7 (h:PA X es t):PE X (.List es pos) (vM t):=by
 intro pins s σ H Q I hq;refine wpAny_List_spliced (Bi (h pos pins s σ H _ I hq) λ us s1 ⟨xs,H1,I1,r,z,q⟩=>⟨by rw[<-r.length];exact z,?_⟩);have hf:H1 s1.heap.objs.size=none:=I1.Au.fresh (zv _);refine⟨.ref s1.heap.objs.size,upd H1 s1.heap.objs.size (.lst xs),I1.laid (t':=s1.toks) (λ b u e=>zp _ e) (zv _) ?_,rfl,q _ hf⟩;exact⟨z,us,0,r,z9 _ rfl⟩
end
noncomputable abbrev Sp:=List V->Hp->VK->XK->Prop
noncomputable abbrev V8:=List Env->Hp->Shared->XK->Value->Shared->Prop
structure U3 (P:Program)(w:World)(K:za)(mg:Str->Option Value)(base:Heap)(A:Around)(outer:List Env)(s:Shared)(H:Hp):Prop where
 frames:A.frames=some outer
 mod:Mod K mg base
 bs:∀b o,base.get? b=some o->s.heap.get? b=some o/\H b=none
 eC:base.objs.size<=s.heap.objs.size
 Kv:s.heap.FunFrames base outer
 lI:∀b∈XU outer,H b=none
 Au:Ga P w H s.heap
 bare:AllBare s.gens
abbrev CE (outer:List Env)(P:Program)(w:World)(H:Hp)(s:Shared)(Q:VK)(u:Value)(s':Shared):Prop:=
 ∃v H',s'.os=s.os/\AllBare s'.gens/\Un (XU outer) [] H H' s.heap s'.heap/\Ga P w H' s'.heap/\RelV v u/\Q v H'
abbrev CR (CX:V8)(outer:List Env)(P:Program)(w:World)(H:Hp)(s:Shared)(Q:VK)(E:XK)(r:Result)(s':Shared):Prop:=
 match r with
 | .ok (.ret u)=>CE outer P w H s Q u s'
 | .ok _=>False
 | .error e=>CX outer H s E e s'
structure Di (P:Program)(w:World)(K:za)(mg:Str->Option Value)(base:Heap)(CX:V8)(k:Nat)(f:Addr)(fd:FuncData)(ps:List Str)(sp:Sp):Prop where
 len:∀vs H Q E,sp vs H Q E->vs.length=ps.length
 run:∀(A:Around) (outer:List Env) (s:Shared) (H:Hp) (args:Args) (us:List Value) (vs:List V) (Q:VK) (E:XK),Bu k A->U3 P w K mg base A outer s H->BindsTo s fd args (ps.zip us)->Vals vs us->sp vs H Q E->
  codeAny (model P w) A (.call (.ref f) args) (CR CX outer P w H s Q E) s
def U3.make {P:Program}{w:World}{K:za}{mg:Str->Option Value}{base:Heap}{A:Around}{outer:List Env}{s:Shared}{H:Hp}(e:U3 P w K mg base A outer s H)(C:Addr)(us:List Value)(kw:List (Str×Value)):
 U3 P w K mg base (A.under (.builtin "type.__call__" ⟨.ref C::us,kw⟩)) outer s H:=⟨by first|exact e.frames|(simpa [Around.under,Code.envs,Code.isFrame,pushEnvs] using e.frames),e.mod,e.bs,e.eC,e.Kv,e.lI,e.Au,e.bare⟩
section
variable {X:Cx}{pins:List (Addr×Obj)}{σ:St}{H:Hp}{s s':Shared}
def Inv.rF (I:Inv X pins σ H s):U3 X.prog X.w X.K X.mg X.base X.A X.stack s H:=
 ⟨I.ok.frames,I.ok.mod,I.bs,zZ I.ok.eC I.sz,I.stack,I.V3,I.Au,I.bare⟩
def Inv.after {Q:VK}{u:Value}(I:Inv X pins σ H s)(h:CE X.stack X.prog X.w H s Q u s'):EP X pins σ Q u s':=by
 obtain⟨v,H',os,bare,un,Au,r,q⟩:=h;obtain⟨hh,g,d,t,t5⟩:=s';obtain rfl:t5=s.os:=os;exact⟨v,H',I.call (h':=hh) (g':=g) (d':=d) (t':=t) (ch:=[]) un Au bare (λ b z=>absurd z (by simp)),r,q⟩
end
abbrev rG (sp:Sp)(br:List V)(E:XK)(t:TA):TE:=λ σ H Q=>t σ H λ vs H1=>sp (vs++br) H1 Q E
abbrev rH (C:Addr)(sp:Sp)(br:List V)(E:XK)(t:TA):TE:=λ σ H Q=>t σ H λ vs H1=>∀x dx,H1 x=none->H1 dx=none->dx≠x->
 sp (.ref x::(vs++br)) (upd (upd H1 dx (.own x)) x (.ins C dx [])) (λ v H2=>v=.AK/\Q (.ref x) H2) E
abbrev Binds (K:za)(fd:FuncData)(ps:List Str)(ds:List Value):Prop:=
 ∀(s:Shared) (us:List Value),K.In s.heap->(us++ds).length=ps.length->BindsTo s fd ⟨us,[]⟩ (ps.zip (us++ds))
def Binds.all {K:za}{fd:FuncData}{ps:List Str}(h:∀us:List Value,us.length=ps.length->bindArgs fd ⟨us,[]⟩=pure (ps.zip us)):Binds K fd ps []:=λ s us _ hl=>by
 rw[zF] at hl ⊢;exact .of_eq (h us hl)
abbrev Gh (CX:V8)(X:Cx)(E:XK):Prop:=∀(pins:List (Addr×Obj)) (σ:St) (H:Hp) (s:Shared) (e:Value) (s':Shared),Inv X pins σ H s->CX X.stack H s E e s'->X.xe e s'
section
variable {X:Cx}{CX:V8}{k:Nat}{f C:Addr}{fd:FuncData}{ps:List Str}{sp:Sp}{br:List V}{ds:List Value}{E:XK}{x m:Str}{p pos apos:Pos}{e o:Expr}{es:List Expr}{ta:TE}{t:TA}
def Q8 {pins:List (Addr×Obj)}{σ:St}{H:Hp}{s:Shared}{Q:VK}{us:List Value}{vs:List V}(F:Di X.prog X.w X.K X.mg X.base CX k f fd ps sp)(hr:Bu k X.A)(hb:Binds X.K fd ps ds)(hd:Vals br ds)(hx:Gh CX X E)
 (I:Inv X pins σ H s) (r:Vals vs us) (h:sp (vs++br) H Q E):wpAny (model X.prog X.w) X.A (call (.ref f) us) (EP X pins σ Q) X.xe s:=by
 have r2:Vals (vs++br) (us++ds):=r.append hd;have hl:(us++ds).length=ps.length:=by rw[<-r2.length];exact F.len _ _ _ _ h
 refine wpAny_call (codeAny_mono (F.run X.A X.stack s H ⟨us,[]⟩ (us++ds) (vs++br) Q E hr I.rF (hb s us I.Mv hl) r2 h) λ r s' hq=>?_);cases r with
 |error e=>exact hx pins σ H s e s' I hq
 |ok fl =>
  cases fl with
  |ret u=>exact I.after hq
  |next|brk|cont=>exact zag hq
def Q9 (F:Di X.prog X.w X.K X.mg X.base CX k f fd ps sp)(hr:Bu k X.A)(hg:Gl X x)(hm:X.mg x=some (.ref f))(hk:zV X.K (.ref f)=true)(hb:Binds X.K fd ps ds)(hd:Vals br ds)(hx:Gh CX X E)(ha:PA X (e::es) t)(aN:(x==("__debug__" : Str))=false:=by decide)(he: ~~~(starEach (e::es) X.env=(false,eval e X.env)::starEach es X.env))(aq: ~~~((backTo pos (starEach es X.env)).any (·.1)=false)):
 PE X (.Call (.Name x p) (e::es) [] pos) (rG sp br E t):=by
 intro pins s σ H Q I h;refine wpAny_Call_Name_kw (Q3 I hg hm ?_ aN);refine PySem.W.callWith_K (h₀:=X.base) I.ok.mod.XT hk (Bi (ha pos pins s σ H _ I h) λ us s1 ⟨vs,H1,I1,r,q⟩=>⟨I1.Mv,?_⟩) he aq;exact Q8 F hr hb hd hx I1 r q
structure Mk (K:za)(C f:Addr):Prop where
 makes:PySem.W.makesIn K C=true
 init:zP K (.ref C) "__init__" = some (some (.ref f))
 fn:PySem.W.isFn K (.ref f)=true
 kp:zV K (.ref C)=true
def Yl {pins:List (Addr×Obj)}{σ:St}{H:Hp}{s:Shared}{Q:VK}{us:List Value}{vs:List V}(M:Mk X.K C f)(F:Di X.prog X.w X.K X.mg X.base CX k f fd ps sp)(hr:Bu (k+1) X.A)(hb:Binds X.K fd ps ds)(hd:Vals br ds)
 (hx:Gh CX X E) (I:Inv X pins σ H s) (r:Vals vs us)
 (h:∀x dx,H x=none->H dx=none->dx≠x->sp (.ref x::(vs++br)) (upd (upd H dx (.own x)) x (.ins C dx [])) (λ v H2=>v=.AK/\Q (.ref x) H2) E):
 wpAny (model X.prog X.w) X.A (call (.ref C) us) (EP X pins σ Q) X.xe s:=by
 have hq:=h (s.heap.objs.size+1) s.heap.objs.size (I.Au.fresh (Nat.le_succ _)) (I.Au.fresh (zv _)) (zD (Nat.lt_succ_self _));have I2:=Inv.made (C:=C) I;have r2:Vals (V.ref (s.heap.objs.size+1)::(vs++br)) (yG (s.heap.objs.size+1)::(us++ds)):=.cons rfl (r.append hd);have hl:(yG (s.heap.objs.size+1)::us++ds).length=ps.length:=by
  have e:=r2.length;rw[F.len _ _ _ _ hq] at e;exact e.symm
 refine wpAny_call (Yj (f:=f) I.Mv M.makes M.init (beq_iff_eq.mp M.fn) (codeAny_mono (F.run _ X.stack _ _ ⟨yG (s.heap.objs.size+1)::us,[]⟩ (yG (s.heap.objs.size+1)::(us++ds)) _ _ E (hr.make C us [])
  (I2.rF.make C us []) (hb _ (yG (s.heap.objs.size+1)::us) I2.Mv hl) r2 hq) λ r s' ef=>?_))
 cases r with
 |error e=>exact hx pins σ _ _ e s' I2 ef
 |ok fl =>
  cases fl with
  |ret u =>
   obtain⟨v,H',I3,rv,ev,q3⟩:=I2.after ef;subst ev;exact⟨rv,⟨V.ref (s.heap.objs.size+1),H',I3,rfl,q3⟩⟩
  |next|brk|cont=>exact zag ef
def V9 (M:Mk X.K C f)(F:Di X.prog X.w X.K X.mg X.base CX k f fd ps sp)(hr:Bu (k+1) X.A)(hg:Gl X x)(hm:X.mg x=some (.ref C))(hb:Binds X.K fd ps ds)(hd:Vals br ds)(hx:Gh CX X E)(ha:PA X (e::es) t)(aN:(x==("__debug__" : Str))=false:=by decide)(he: ~~~(starEach (e::es) X.env=(false,eval e X.env)::starEach es X.env))(aq: ~~~((backTo pos (starEach es X.env)).any (·.1)=false)):
 PE X (.Call (.Name x p) (e::es) [] pos) (rH C sp br E t):=by
 intro pins s σ H Q I h;refine wpAny_Call_Name_kw (Q3 I hg hm ?_ aN);refine PySem.W.callWith_K (h₀:=X.base) I.ok.mod.XT M.kp (Bi (ha pos pins s σ H _ I h) λ us s1 ⟨vs,H1,I1,r,q⟩=>⟨I1.Mv,?_⟩) he aq;exact Yl M F hr hb hd hx I1 r q
end
abbrev PK (X:Cx)(ib:List Keyword)(t:TA):Prop:=
 ∀(pos:Pos) (pins:List (Addr×Obj)) (s:Shared) (σ:St) (H:Hp) (Q:List V->Hp->Prop),Inv X pins σ H s->t σ H Q->wpAny (model X.prog X.w) X.A (evalAll ((backToKw pos (keywordEach ib X.env)).map (·.2))) (AP X pins σ Q) X.xe s
section
variable {X:Cx}{CX:V8}{k:Nat}{f C:Addr}{fd:FuncData}{ps ks:List Str}{sp:Sp}{E:XK}{x m:Str}{p pos apos lq:Pos}{e o:Expr}{es:List Expr}{ib:List Keyword}{te ta:TE}{t tk:TA}{nm:Option Str}
def mJ:PK X [] mI:=λ _ _ _ _ H Q I h=>wpAny_evalAll_nil ⟨[],H,I,.nil,h⟩
def eR (ha:PE X e te)(hr:PK X ib t):PK X (⟨nm,e,lq⟩::ib) (kA te t):=by
 intro pos pins s σ H Q I h;show wpAny _ _ (evalAll ((do let v <-eval e X.env;standAt pos;pure v)::(backToKw pos (keywordEach ib X.env)).map (·.2))) _ _ s;refine wpAny_evalAll_cons (wpAny_bind (Bi (ha pins s σ H _ I h) λ u s1 ⟨x,H1,I1,r1,q1⟩=>wpAny_bind (wpAny_standAt (wpAny_pure ?_))));exact Bi (hr pos pins s1 σ H1 _ I1 q1) λ us s2 ⟨xs,H2,I2,r2,q2⟩=>⟨x::xs,H2,I2,.cons r1 r2,q2⟩
variable {g:List Value->List Value->List Value}{gV:List V->List V->List V}
end
structure Ad (N P:List Str)(sc:Scope):Prop where
 kind:sc.kind=.function
 co:sc.isCoroutine=false
 gen:sc.isGenerator=false
 nd:N.Nodup
 pre:N.take P.length=P
 wQ:∀x∈P,sc.names.lookup x=some .local\/sc.names.lookup x=some .cell
 mK:∀y∈sc.names,y.2≠.free
def OK {kindOf:Str->Option NameKind}{x:Str}:∀ {binds:List (Str×Value)}{m:Str->Option Value},(∀v,(x,v)∉binds)->bindL kindOf binds m x=m x
 |[],_,_=>rfl
 |(n,v)::r,m,h=>by
  unfold bindL;rw[OK λ w hw=>h w (ze _ hw)];split
  ·have:x≠n:=by rintro rfl;exact h v zd
   simp[this]
  ·rfl
def OL {kindOf:Str->Option NameKind}{x:Str}:∀ {binds:List (Str×Value)}{m:Str->Option Value},(∀v,(x,v)∉binds)->bindC kindOf binds m x=m x
 |[],_,_=>rfl
 |(n,v)::r,m,h=>by
  unfold bindC;rw[OL λ w hw=>h w (ze _ hw)];split
  ·rfl
  ·have:x≠n:=by rintro rfl;exact h v zd
   simp[this]
def OM {kindOf:Str->Option NameKind}{x:Str}{v:Value}:∀ {P:List Str}{vs:List Value}{i:Nat}{m:Str->Option Value},P.Nodup->P[i]?=some x->vs[i]?=some v->kindOf x=some .local->
 bindL kindOf (P.zip vs) m x=some v
 |[],_,_,_,_,h,_,_|_::_,[],_,_,_,_,h,_=>by simp at h
 |p::P,w::vs,0,m,nd,h1,h2,hk=>by
  simp at h1 h2;subst h1;subst h2;show bindL kindOf ((p,w)::P.zip vs) m p=_;unfold bindL;rw[OK λ v hv=>(zU.mp nd).1 (List.of_mem_zip hv).1,if_pos hk];simp
 |p::P,w::vs,i+1,m,nd,h1,h2,hk=>by
  show bindL kindOf ((p,w)::P.zip vs) m x=_;unfold bindL;exact OM (i:=i) (zU.mp nd).2 (by simpa using h1) (by simpa using h2) hk
def ON {kindOf:Str->Option NameKind}{x:Str}{v:Value}:∀ {P:List Str}{vs:List Value}{i:Nat}{m:Str->Option Value},P.Nodup->P[i]?=some x->vs[i]?=some v->kindOf x≠some .local->
 bindC kindOf (P.zip vs) m x=some v
 |[],_,_,_,_,h,_,_|_::_,[],_,_,_,_,h,_=>by simp at h
 |p::P,w::vs,0,m,nd,h1,h2,hk=>by
  simp at h1 h2;subst h1;subst h2;show bindC kindOf ((p,w)::P.zip vs) m p=_;unfold bindC;rw[OL λ v hv=>(zU.mp nd).1 (List.of_mem_zip hv).1,if_neg hk];simp
 |p::P,w::vs,i+1,m,nd,h1,h2,hk=>by
  show bindC kindOf ((p,w)::P.zip vs) m x=_;unfold bindC;exact ON (i:=i) (zU.mp nd).2 (by simpa using h1) (by simpa using h2) hk
abbrev start (N:List Str)(vs:List V):St:=vs.map some++zt (N.length-vs.length) none
abbrev RK (CX:V8)(P:Program)(w:World)(K:za)(mg:Str->Option Value)(base:Heap)(N:List Str)(qual:Str)(scope:Scope)(f:Addr)(cd:Value)(A:Around)(outer:List Env)(s:Shared)(H:Hp)(E:XK):Cx where
 prog:=P
 w:=w
 K:=K
 mg:=mg
 base:=base
 A:=A.deeper (envOfC qual scope s.heap.objs.size f cd)
 N:=N
 s₀:=s
 H₀:=H
 env:=envOfC qual scope s.heap.objs.size f cd
 outer:=outer
 stack:=envOfC qual scope s.heap.objs.size f cd::outer
 ex:=[]
 calm:=true
 fn:=λ _=>true
 pn:=[]
 xe:=λ e s'=>wpAny (model P w) (A.deeper (envOfC qual scope s.heap.objs.size f cd)) (leaving (envOfC qual scope s.heap.objs.size f cd) e) (λ _ ic=>CX outer H s E e ic) (λ e' ic=>CX outer H s E e' ic) s'
def RL {sc:Scope}{n:Nat}{x:Str}(h:sc.names.lookup x=some .cell):∃c,(cellsFrom n sc.names []).lookup x=some c:=by
 have q:=PySem.W.cellsFrom_some sc.names n [] (.inl h);exact zb2.mp q
def Wu {CX:V8}{P:Program}{w:World}{K:za}{mg:Str->Option Value}{base:Heap}{N ps:List Str}{qual:Str}{scope:Scope}{f:Addr}{cd:Value}{A:Around}{outer:List Env}{s s1:Shared}{H:Hp}{E:XK}{us:List Value}{vs:List V}
 (S:Ad N ps scope) (hd:A.handled=none) (e0:U3 P w K mg base A outer s H) (hl:vs.length=ps.length) (r:Vals vs us)
 (x:InCallC s s.heap.objs.size (bindL (envOfC qual scope s.heap.objs.size f cd).kindOf (ps.zip us) λ _=>none) (cellsFrom (s.heap.objs.size+1) scope.names []) (bindC (envOfC qual scope s.heap.objs.size f cd).kindOf (ps.zip us) λ _=>none) s1):
 Inv (RK CX P w K mg base N qual scope f cd A outer s H E) [] (start N vs) H s1:=by
 have aq:ps.length<=N.length:=by have:=congrArg List.length S.pre;rw[zT] at this;omega
 obtain⟨h1,tk,rfl,hk⟩:=x.done;have ie:∀b:Addr,b∉(RK CX P w K mg base N qual scope f cd A outer s H E).ex:=λ b z=>absurd (show b∈([]:List Addr) from z) (by simp);refine⟨⟨e0.mod,S.kind,rfl,rfl,zv _,λ y z c h1 h2=>?_,λ y hy=>?_,λ y c _ h=>?_,λ _=>hd,Around.frames_deeper e0.frames,.inr ⟨rfl,rfl⟩,λ b z=>absurd z (ie b),e0.bs,e0.eC,λ b _ _=>ie b,λ b z=>absurd z (ie b),e0.Kv,e0.lI⟩,
  rfl,e0.bare,Un.kept hk,⟨_,x.toInCall.ns,λ i y v h1 h2 h3=>?_⟩,λ y c h=>⟨_,x.cell y c h⟩,e0.Au.fresh (zv _),λ y c h=>?_,λ p hp=>absurd (show p∈([]:List (Addr×Obj)) from hp) (by simp),e0.Au.kept hk,?_⟩
 ·exact name_of_addr x.apart (zb1 h1) (zb1 h2)
 ·have hy:scope.names.lookup y=some .cell\/scope.names.lookup y=some .free:=hy;rcases hy with hy|hy
  ·exact RL hy
  ·exact absurd rfl (S.mK _ (zb1 hy))
 ·exact yN (x.above y c (zb1 h))
 ·have hi:i<vs.length:=by
   unfold start at h2;by_cases hi:i<vs.length
   ·exact hi
   ·rw[yY (by simpa using hi)] at h2;rw[za7] at h2;split at h2<;>cases h2
  have ha:vs[i]?=some v:=by
   unfold start at h2;rw[yJ (by simpa using hi),z5] at h2;cases e:vs[i]? with
   |none=>rw[e] at h2;cases h2
   |some a=>rw[e] at h2;cases h2;rfl
  obtain⟨u,hu,rv⟩:=r.get ha;have hp:ps[i]?=some y:=by
   rw[<-S.pre,List.getElem?_take_of_lt (by omega)];exact h1
  have qi:ps.Nodup:=by rw[<-S.pre];exact S.nd.sublist (List.take_sublist _ _)
  refine⟨u,rv,?_⟩;rcases S.wQ y (zr hp) with k|k
  ·exact .inl ⟨k,OM qi hp hu k⟩
  ·obtain⟨c,e⟩:=RL (n:=s.heap.objs.size+1) k;refine .inr ⟨.inl k,c,e,?_⟩;have q:=x.cell y c e;rw[ON qi hp hu (by show scope.names.lookup y≠_;rw[k];decide)] at q;exact q
 ·exact e0.Au.fresh (yN (x.above y c (zb1 h)))
 ·unfold start;show _=N.length;rw[zB,zc,zas];omega
def Va {CX:V8}{P:Program}{w:World}{K:za}{mg:Str->Option Value}{base:Heap}{k:Nat}{f:Addr}{name qual:Str}{params:Arguments}{body:List Stmt}{scope:Scope}{dV kV doc pm B4 ct oc:Value}{an od:Option Addr}
 {TF:Array (Option Value)} {N ps:List Str} {sp:Sp} (lk:K.lookup f=some ⟨oc,od,.func (zX name qual params body scope dV kV doc pm an B4 ct),TF⟩) (aZ:yZ K B4 qual=true) (S:Ad N ps scope)
 (len:∀vs H Q E,sp vs H Q E->vs.length=ps.length)
 (bN:∀(A:Around) (outer:List Env) (s:Shared) (H:Hp) (vs:List V) (Q:VK) (E:XK),Bu k (A.deeper (envOfC qual scope s.heap.objs.size f B4))->sp vs H Q E->
  ∃t,V4 (RK CX P w K mg base N qual scope f B4 A outer s H E) body t/\t {nx:=λ _ H'=>Q .AK H',rt:=Q} (start N vs) H):
 Di P w K mg base CX (k+1) f (zX name qual params body scope dV kV doc pm an B4 ct) ps sp:=by
 refine⟨len,λ A outer s H args us vs Q E hr e0 hb r bC=>?_⟩;have hl:=len _ _ _ _ bC;have KX:K.In s.heap:=e0.mod.XT.keeps λ b o e=>(e0.bs b o e).1;have lim:s.heap.NoLimit:=e0.mod.nolimit.keeps λ b o e=>(e0.bs b o e).1;have ig:∀y∈ps.zip us,scope.names.lookup y.1=some .local\/(scope.names.lookup y.1=some .cell/\((cellsFrom (s.heap.objs.size+1) scope.names []).lookup y.1).isSome=true):=λ⟨n,v⟩ hy=>by
  rcases S.wQ n (List.of_mem_zip hy).1 with q|q
  ·exact .inl q
  ·exact .inr ⟨q,PySem.W.cellsFrom_some _ _ _ (.inl q)⟩
 refine codeAny_call_function hr.depth (KX _ _ lk) rfl S.co S.gen rfl (PySem.W.codeRec_of KX aZ) (hb _ _ _ _ ?_);refine wpAny_newFunctionEnv_cells S.kind ig λ env he s1 x=>?_;subst he;refine⟨lim.keeps x.toInCall.keep,codeAny_func ?_⟩;obtain⟨t,ht,hq⟩:=bN A outer s H vs Q E (hr.deeper _) bC;have I:Inv (RK CX P w K mg base N qual scope f B4 A outer s H E) [] (start N vs) H s1:=Wu S hr.hd e0 hl r x;refine wpAny_mono (ht [] s1 (start N vs) H _ I hq) (λ fl s' hs=>?_) λ e s' hs=>hs;have fin:∀ {σ':St} {H':Hp} {v:V} {u:Value},Inv (RK CX P w K mg base N qual scope f B4 A outer s H E) [] σ' H' s'->RelV v u->Q v H'->CE outer P w H s Q u s':=
  fun {σ' H' v u} J rv q=>⟨v,H',J.os,J.bare,J.base,J.Au,rv,q⟩
 cases fl with
 |ret u =>
  obtain⟨v,σ',H',J,rv,q⟩:=hs;exact fin J rv q
 |next =>
  obtain⟨σ',H',J,q⟩:=hs;exact fin (v:=V.AK) (u:=Value.none) J rfl q
 |brk =>
  obtain⟨_,_,_,q⟩:=hs;exact zag q
 |cont =>
  obtain⟨_,_,_,q⟩:=hs;exact zag q
section
variable {X:Cx}{x:Str}{p pos:Pos}{e:Expr}{es:List Expr}{t:TA}{id T:String}{r:List V->Hp->VK->Prop}
abbrev vN (r:List V->Hp->VK->Prop)(t:TA):TE:=λ σ H Q=>t σ H λ vs H1=>r vs H1 Q
def RM (hc:FV X (.builtin id) r)(hg:Gl X x)(hm:X.mg x=none)(hv:bootBuiltins x=some (.builtin id))(ha:PA X (e::es) t)(hn:x ≠ "__name__" := by decide)(aN:(x==("__debug__" : Str))=false:=by decide)(he: ~~~(starEach (e::es) X.env=(false,eval e X.env)::starEach es X.env))(aq: ~~~((backTo pos (starEach es X.env)).any (·.1)=false)):PE X (.Call (.Name x p) (e::es) [] pos) (vN r t):=by
 intro pins s σ H Q I h;refine wpAny_Call_Name_kw (Dp I hg hm hv ?_ hn aN);exact PyProof.Rows.callWith_builtin1 (Bi (ha pos pins s σ H _ I h) λ us s1 ⟨vs,H1,I1,r1,q1⟩=>hc pins s1 σ H1 vs us Q I1 r1 q1) he aq
def OO (hc:FV X (.type T) r)(hg:Gl X x)(hm:X.mg x=none)(hv:bootBuiltins x=some (.type T))(ha:PA X (e::es) t)(hn:x ≠ "__name__" := by decide)(aN:(x==("__debug__" : Str))=false:=by decide)(he: ~~~(starEach (e::es) X.env=(false,eval e X.env)::starEach es X.env))(aq: ~~~((backTo pos (starEach es X.env)).any (·.1)=false)):PE X (.Call (.Name x p) (e::es) [] pos) (vN r t):=by
 intro pins s σ H Q I h;refine wpAny_Call_Name_kw (Dp I hg hm hv ?_ hn aN);exact zW (Bi (ha pos pins s σ H _ I h) λ us s1 ⟨vs,H1,I1,r1,q1⟩=>hc pins s1 σ H1 vs us Q I1 r1 q1) he aq
end
end L2
namespace HT
open PySem PyProof.Rows
abbrev lexLt:List Int->List Int->Bool
 |[],[]=>false
 |[],_::_=>true
 |_::_,[]=>false
 |x::xs,y::ys=>if x=y then lexLt xs ys else decide (x<y)
def Ff (x y:Int)(xs ys:List Int):lexLt (x::xs) (y::ys)=if x=y then lexLt xs ys else decide (x<y):=rfl
def EG:lexLt [] []=false:=rfl
def My (y:Int)(ys:List Int):lexLt [] (y::ys)=true:=rfl
def Mz (x:Int)(xs:List Int):lexLt (x::xs) []=false:=rfl
def Ym (A:Around)(s:Shared)(a:Int)(t:Tok)(c:Int)(u:Tok):∃e,SeqAt.EqAt A s (.int a t) (.int c u) e/\(e=true↔a=c):=
 ⟨(a==c),SeqAt.EqAt.int_int a t c u,by simp⟩
def Yn (A:Around)(s:Shared)(a:Int)(t:Tok)(c:Int)(u:Tok)(prog:Program)(w:World)(E:Value->Shared->Prop)(Q:Value->Shared->Prop)(h:Q (.bool (decide (a<c))) s):
 wpAny (model prog w) A (richCompare .Lt (.int a t) (.int c u)) Q E s:=
 (PyProof.Rows.lt_int h:wpAny (model prog w) A (compareOp .Lt (.int a t) (.int c u)) Q E s)
section
open PySem.SeqAt
open PySem.AutoSeq1 (wpAny_loadPart')
open PySem.MeetsSeq PySem.MeetsSeq2 PySem.MeetsSeq3
def Oc (l b:Addr)(items ar:Array Value)(n n2:Nat)(dd lr:Option Addr)(sl ii:Array (Option Value))(ns ms:List Int)(hi:IntsAre items.toList ns)(hj:IntsAre ar.toList ms):
 Meets (Builtin.«tuple.__lt__» ⟨[.ref l,.ref b],[]⟩)
  (λ _ R s=>s.heap.get? l=some {cls:=.type "tuple",dict:=dd,data:=.seq items n,slots:=sl}/\s.heap.get? b=some {cls:=.type "tuple",dict:=lr,data:=.seq ar n2,slots:=ii}/\
   R (.ok (.ret (.bool (lexLt ns ms)))) s):=
 .of_wp λ prog w A R s h=>by
  obtain⟨hp,g,d,tk,os⟩:=s;obtain⟨hl,hb,h⟩:=h;have f2:=AutoSeq1.sub_tuple_tuple;have z1:items.size=ns.length:=by rw[<-hi.length];simp
  have z2:ar.size=ms.length:=by rw[<-hj.length];simp
  wp_walk using wpAny_loadPart' hl,wpAny_loadPart' hb,wpAny_forIn_list _ (λ rest b s'=>b.1=none/\s'=⟨hp,g,d,tk,os⟩/\∃(vs ws:List Value) (ck gu:List Int),rest=vs.zip ws/\
   IntsAre vs ck/\IntsAre ws gu/\ck.length+ar.size=gu.length+items.size/\R (.ok (.ret (.bool (lexLt ck gu)))) ⟨hp,g,d,tk,os⟩) _
  case turn =>
   rintro ⟨y,x⟩ rest b s' ⟨aA,rfl,vs,ws,ck,gu,hz,ls,jz,hlen,hR⟩;cases ls with
   |nil=>rw[List.zip_nil_left] at hz;cases hz
   |cons a t lu =>
    cases jz with
    |nil=>rw[List.zip_nil_right] at hz;cases hz
    |cons c u lw =>
     rw[List.zip_cons_cons] at hz;injection hz with t6 ij
     injection t6 with hy hx
     subst hy hx;rw[Ff] at hR;simp only[zk] at hlen;obtain⟨e,he,ik⟩:=Ym A.in1 ⟨hp,g,d,tk,os⟩ a t c u;refine wpAny_bind (he prog w _ _ ?_);cases e with
     |true =>
      rw[if_pos (ik.mp rfl)] at hR
      wp_walk
      exact⟨rfl,rfl,_,_,_,_,ij,lu,lw,by omega,hR⟩
     |false =>
      rw[if_neg (λ q=>absurd (ik.mpr q) z4)] at hR;have t7:=Yn A.in1 ⟨hp,g,d,tk,os⟩ a t c u prog w
      wp_walk using t7
      exact⟨_,rfl,by simpa using hR⟩
  case fin =>
   rintro ⟨b1,b2⟩ s' ⟨aA,rfl,vs,ws,ck,gu,hz,ls,jz,hlen,hR⟩;simp only at aA;subst aA;have hv:lexLt ck gu=decide (items.size<ar.size):=by
    cases ls with
    |nil =>
     cases jz with
     |nil =>
      simp only[List.length_nil] at hlen;rw[EG];exact (decide_eq_false (by omega)).symm
     |cons c u hw =>
      simp only[List.length_nil,zk] at hlen;rw[My];exact (decide_eq_true (by omega)).symm
    |cons a t hv =>
     cases jz with
     |nil =>
      simp only[List.length_nil,zk] at hlen;rw[Mz];exact (decide_eq_false (by omega)).symm
     |cons c u hw =>
      rw[List.zip_cons_cons] at hz;cases hz
   rw[hv] at hR
   wp_walk
   exact⟨_,rfl,by simpa [Builtin.Tuple.tupleCompareSizes] using hR⟩
  case h =>
   exact⟨rfl,rfl,items.toList,ar.toList,ns,ms,rfl,hi,hj,by omega,h⟩
end
section
variable {prog:Program}{w:World}{A:Around}{E:Value->Shared->Prop}{s:Shared}
def MA {l b:Addr}{items ar:Array Value}{ns ms:List Int}{Q:Value->Shared->Prop}(hl:IsTup s.heap l items)(hb:IsTup s.heap b ar)(hi:IntsAre items.toList ns)(hj:IntsAre ar.toList ms)
 (hu:A.units<cLine) (h:Q (.bool (lexLt ns ms)) s):wpAny (model prog w) A (compareOp .Lt (.ref l) (.ref b)) Q E s:=by
 obtain⟨⟨cls,dd,data,sl⟩,ho,hc,n,hd⟩:=id hl;obtain⟨⟨t8,lr,data2,ii⟩,qj,qk,n2,hd2⟩:=id hb;simp only at hc hd qk hd2;subst hc hd qk hd2;exact richCompare_meets_room (op:=.Lt) ⟨_,ho,rfl⟩ ⟨_,qj,rfl⟩ PySem.F.slot_tuple_lt PySem.F.entry_tuple_lt (PySem.F.args_tuple_lt_2 _ _) (Oc l b items ar n n2 dd lr sl ii ns ms hi hj)
  ⟨ho,qj,show Value.bool (lexLt ns ms)≠Value.notImplemented/\Q (.bool (lexLt ns ms)) s from ⟨(λ x=>nomatch x),h⟩⟩ hu
abbrev MB (n d:Nat):Option Int->Nat
 |none=>d
 |some v=>if v<0 then (v+(n:Int)).toNat else min v.toNat n
def Yo (n d:Nat):MB n d none=d:=rfl
def Qa (n d k:Nat):MB n d (some (k:Int))=min k n:=by
 show (if (k:Int)<0 then ((k:Int)+(n:Int)).toNat else min (k:Int).toNat n)=min k n;rw[if_neg (by omega),yM]
end
end HT
namespace L2
open PySem PySem.Spec PyProof.Rows
noncomputable abbrev TO:=St->Hp->(Option Int->Hp->Prop)->Prop
abbrev PO (X:Cx)(e:Option Expr)(t:TO):Prop:=
 ∀(pins:List (Addr×Obj)) (s:Shared) (σ:St) (H:Hp) (Q:Option Int->Hp->Prop),Inv X pins σ H s->t σ H Q->
  wpAny (model X.prog X.w) X.A (evalPart e X.env) (λ u s'=>∃o H',Inv X pins σ H' s'/\IsPart u o/\Q o H') X.xe s
abbrev eS:TO:=λ _ H Q=>Q none H
abbrev rJ (t:TE):TO:=λ σ H Q=>t σ H λ x H1=>∃i,x=.int i/\Q (some i) H1
def intsAre_of {ns:List Int}:∀ {us:List Value},Vals (ns.map V.int) us->IntsAre us ns:=by
 induction ns with
 |nil=>intro us r;rw[zai] at r;cases r;exact .nil
 |cons n ns ih =>
  intro us r;rw[zf] at r;cases r with
  |cons r1 r2 =>
   obtain⟨t,e⟩:=r1;subst e;exact .cons n t (ih r2)
section
variable {X:Cx}{e:Expr}{te:TE}{lo hi:Option Expr}{tl th:TO}{pos p2:Pos}
def eT:PO X none eS:=by
 intro pins s σ H Q I h;rw[evalPart_none];exact wpAny_pure ⟨none,H,I,.none,h⟩
def eU (h:PE X e te):PO X (some e) (rJ te):=by
 intro pins s σ H Q I hw;rw[evalPart_some];refine Bi (h pins s σ H _ I hw) λ u s1 zz=>?_;obtain⟨x,H1,I1,r1,q1⟩:=zz;obtain⟨i,rfl,q⟩:=q1;obtain⟨t,rfl⟩:=r1;exact⟨some i,H1,I1,.int i t,q⟩
abbrev wR (X:Cx)(r:V->Option Int->Option Int->Hp->VK->Prop):Prop:=
 ∀(pins:List (Addr×Obj)) (s:Shared) (σ:St) (H:Hp) (x:V) (v vl vu:Value) (lo hi:Option Int) (sl:Addr) (Q:VK),Inv X pins σ H s->RelV x v->s.heap.IsSliceOf sl vl vu .none->IsPart vl lo->IsPart vu hi->r x lo hi H Q->
  ∃T id,typeLookup (.type T) "__getitem__" = pure (some (.builtin id))/\s.TypeIs v T/\wpAny (model X.prog X.w) X.A (getItem v (.ref sl)) (EP X pins σ Q) X.xe s
abbrev xV (r:V->Option Int->Option Int->Hp->VK->Prop)(te:TE)(tl th:TO):TE:=λ σ H Q=>te σ H λ x H1=>tl σ H1 λ l H2=>th σ H2 λ u H3=>r x l u H3 Q
def Yp {r:V->Option Int->Option Int->Hp->VK->Prop}(hr:wR X r)(he:PE X e te)(hl:PO X lo tl)(hu:PO X hi th):PE X (.Subscript e (.Slice lo hi none p2) pos) (xV r te tl th):=by
 intro pins s σ H Q I h;refine Subscript_ (Bi (he pins s σ H _ I h) λ v s1 zz=>?_);obtain⟨x,H1,I1,r1,q1⟩:=zz;refine wpAny_Slice (Bi (hl pins s1 σ H1 _ I1 q1) λ vl s2 ⟨l,H2,I2,pl,q2⟩=>Bi (hu pins s2 σ H2 _ I2 q2) λ vu s3 zz=>?_);obtain⟨u,H3,I3,pu,q3⟩:=zz;rw[evalPart_none];refine wpAny_pure ?_;have I4:Inv X pins σ H3 {s3 with heap:=s3.heap.push {cls:=.type "slice",data:=.fields #[vl,vu,.none]} }:=I3.kept (t':=s3.toks) λ b ob q=>zp _ q;obtain⟨T,id,hT,ht,hg⟩:=hr pins {s3 with heap:=s3.heap.push {cls:=.type "slice",data:=.fields #[vl,vu,.none]} } σ H3 x v vl vu l u s3.heap.objs.size Q I4 r1 (Heap.IsSliceOf.new ..) pl pu q3;show wpAny (model X.prog X.w) X.A (subscriptTail e (.Slice lo hi none p2) v (.ref s3.heap.objs.size)) (EP X pins σ Q) X.xe {s3 with heap:=s3.heap.push {cls:=.type "slice",data:=.fields #[vl,vu,.none]} };exact tail_any (ops:=[.ref s3.heap.objs.size,v]) ht hT hg (by with_unfolding_all rfl)
abbrev Yq (xs:List V)(lo hi:Option Int):List V:=(xs.drop (HT.MB xs.length 0 lo)).take (HT.MB xs.length xs.length hi-HT.MB xs.length 0 lo)
def RN (xs:List V)(lo hi:Option Int):(Yq xs lo hi).length<=xs.length:=by
 unfold Yq;rw[zT,zak];omega
abbrev rK (K:za):R2:=λ x y H Q=>∃a b ns ms,x=.ref a/\y=.ref b/\Fd K H a (ns.map V.int)/\Fd K H b (ms.map V.int)/\Q (.bl (HT.lexLt ns ms)) H
def Yr (hu:X.A.units<cLine):Gb X (compareOp .Lt) (rK X.K):=by
 intro pins s σ H x y v u Q I rx ry h;obtain⟨a,b,ns,ms,rfl,rfl,ha,hb,q⟩:=h;cases rx;cases ry;obtain⟨aa,r1,p1,_⟩:=I.tuple ha;obtain⟨aO,r2,p2,_⟩:=I.tuple hb;have i1:IntsAre aa.toArray.toList ns:=intsAre_of r1;have i2:IntsAre aO.toArray.toList ms:=intsAre_of r2;exact HT.MA p1 p2 i1 i2 hu ⟨.bl (HT.lexLt ns ms),H,I,rfl,q⟩
end
abbrev OP (n:Nat)(i:Int):Option Nat:=if 0<=i then (if i<n then some i.toNat else none) else if -(n:Int)<=i then some (i+n).toNat else none
abbrev RO {α:Type}(xs:List α)(i:Int):Option α:=(OP xs.length i).bind λ j=>xs[j]?
def Vb {n:Nat}{i:Int}{j:Nat}(h:OP n i=some j):seqIndex? i n=some j/\j<n/\-(n:Int)<=i/\i<n:=by
 unfold OP at h;by_cases h0:0<=i
 ·rw[if_pos h0] at h;by_cases h1:i<n
  ·rw[if_pos h1] at h;have e:i.toNat=j:=z7 h;exact⟨by rw[seqIndex_of h0 h1,e],by omega,by omega,h1⟩
  ·rw[if_neg h1] at h;cases h
 ·rw[if_neg h0] at h;by_cases h1 : -(n:Int)<=i
  ·rw[if_pos h1] at h;have e:(i+n).toNat=j:=z7 h;exact⟨by rw[seqIndex_neg (by omega) h1,e],by omega,h1,by omega⟩
  ·rw[if_neg h1] at h;cases h
def Vc {α:Type}{xs:List α}{i:Int}{v:α}(h:RO xs i=some v):∃j,seqIndex? i xs.length=some j/\xs[j]?=some v/\j<xs.length/\-(xs.length:Int)<=i/\i<xs.length:=by
 unfold RO at h;cases e:OP xs.length i with
 |none=>rw[e] at h;cases h
 |some j =>
  rw[e] at h;obtain⟨h1,h2,h3,h4⟩:=Vb e;exact⟨j,h1,h,h2,h3,h4⟩
abbrev Ho (b:Expr):Prop:=∀o i,subscripted b false o i=operate [o,i] (getItem o i)
abbrev eV (X:Cx)(r:R2):Prop:=
 ∀(value slice:Expr) (pins:List (Addr×Obj)) (s:Shared) (σ:St) (H:Hp) (x y:V) (v u:Value) (Q:VK),Inv X pins σ H s->RelV x v->RelV y u->r x y H Q->
  subscripted slice false v u=operate [v,u] (getItem v u)->wpAny (model X.prog X.w) X.A (subscriptTail value slice v u) (EP X pins σ Q) X.xe s
abbrev wU (X:Cx)(id:String)(r:V->List V->Hp->VK->Prop):Prop:=
 ∀(pins:List (Addr×Obj)) (s:Shared) (σ:St) (H:Hp) (x:V) (xs:List V) (v:Value) (us:List Value) (Q:VK),Inv X pins σ H s->RelV x v->Vals xs us->r x xs H Q->
  wpAny (model X.prog X.w) X.A (call (.builtin id) (v::us)) (EP X pins σ Q) X.xe s
section
variable {X:Cx}{a b:Expr}{ta tb:TE}{pos:Pos}
def eV.or {r r':R2}(h:eV X r)(h':eV X r'):eV X (λ x y H Q=>r x y H Q\/r' x y H Q):=by
 intro value slice pins s σ H x y v u Q I rx ry q hs;rcases q with q|q
 ·exact h value slice pins s σ H x y v u Q I rx ry q hs
 ·exact h' value slice pins s σ H x y v u Q I rx ry q hs
def Vd {r:R2}(hr:eV X r)(ha:PE X a ta)(hb:PE X b tb)(hs:Ho b):PE X (.Subscript a b pos) (pQ r ta tb):=by
 intro pins s σ H Q I h;exact Subscript_ (lW ha hb I h λ v u s2 x y H2 I2 rx ry q=>hr a b pins s2 σ H2 x y v u Q I2 rx ry q (hs _ _))
abbrev mL (K:za):R2:=λ x y H Q=>∃p xs i v,x=.ref p/\y=.int i/\D2 K H p xs/\RO xs i=some v/\Q v H
abbrev mM (K:za):R2:=λ x y H Q=>∃p xs i v,x=.ref p/\y=.int i/\Fd K H p xs/\RO xs i=some v/\Q v H
def LX:eV X (mL X.K):=by
 intro value slice pins s σ H x y v u Q I rx ry h hs;obtain⟨p,xs,i,z,rfl,rfl,hq,he,q⟩:=h;cases rx;obtain⟨t,rfl⟩:=ry;obtain⟨aa,r,pl,hz⟩:=I.list hq;obtain⟨j,h1,h2,h3,h4,h5⟩:=Vc he;obtain⟨w,ew,bc⟩:=r.get h2;have hl:=r.length;have hn:=Kx;have fin:EP X pins σ Q w s:=⟨z,H,I,bc,q⟩;by_cases h0:0<=i
 ·have hj:i.toNat=j:=by
   rw[seqIndex_of h0 h5] at h1;exact z7 h1
  exact item_listR pl.isList h0 (by omega) (by rw[hj];simpa using ew) fin hs
 ·have hj:(i+(aa.toArray.size:Int)).toNat=j:=by
   rw[seqIndex_neg (by omega) h4] at h1;rw[zl,<-hl];exact z7 h1
  exact subscriptTail_builtinR (x:=w) pl.isList.typeIs slot_list_getitem.lookup
   (wpAny_getItem_list_neg (Q:=λ r s'=>r=w/\EP X pins σ Q r s') pl.isList (by omega) (by rw[zl]<;>omega) (by omega) (by rw[hj];simpa using ew) ⟨rfl,fin⟩) hs
def mN:eV X (mM X.K):=by
 intro value slice pins s σ H x y v u Q I rx ry h hs;obtain⟨p,xs,i,z,rfl,rfl,hq,he,q⟩:=h;cases rx;obtain⟨t,rfl⟩:=ry;obtain⟨aa,r,pl,hz⟩:=I.tuple hq;obtain⟨j,h1,h2,h3,h4,h5⟩:=Vc he;obtain⟨w,ew,bc⟩:=r.get h2;have hl:=r.length;have hn:=Kx;have fin:EP X pins σ Q w s:=⟨z,H,I,bc,q⟩;exact subscriptTail_builtinR (x:=w) pl.typeIs slot_tuple_getitem.lookup
  (getItem_tuple (j:=j) (Q:=λ r s'=>r=w/\EP X pins σ Q r s') pl (by omega) (by omega) (by rw[zl,<-hl];exact h1) (by simpa using ew) ⟨rfl,fin⟩) hs
def U4 (aa:List Value)(n j:Nat)(u:Value):Obj.mapSeq (·.setIfInBounds j u) {cls:=.type "list",data:=.seq aa.toArray n}={cls:=.type "list",data:=.seq (aa.set j u).toArray n}:=by
 simp[Obj.mapSeq]
def Inv.lst {pins:List (Addr×Obj)}{σ:St}{H:Hp}{s:Shared}{p:Addr}{xs:List V}(I:Inv X pins σ H s)(h:H p=some (.lst xs)):
 ∃(aa:List Value) (n:Nat),Vals xs aa/\s.heap.get? p=some {cls:=.type "list",data:=.seq aa.toArray n}/\xs.length<=sizeLine:=by
 obtain⟨z,aa,n,r,e⟩:=I.Au p _ h;exact⟨aa,n,r,e,z⟩
def Inv.mO {pins:List (Addr×Obj)}{σ:St}{H:Hp}{s:Shared}{p:Addr}{xs ys:List V}{aa its':List Value}{n n':Nat}{f:Obj->Obj}(I:Inv X pins σ H s)(h:H p=some (.lst xs))
 (ho:s.heap.get? p=some {cls:=.type "list",data:=.seq aa.toArray n}) (hf:f {cls:=.type "list",data:=.seq aa.toArray n}={cls:=.type "list",data:=.seq its'.toArray n' }) (r:Vals ys its') (hz:ys.length<=sizeLine) (t:Nat):
 Inv X pins σ (upd H p (.lst ys)) {s with heap:=s.heap.update p f,toks:=t}:=by
 have e:(s.heap.update p f).get? p=some {cls:=.type "list",data:=.seq its'.toArray n' }:=by
  rw[Heap.get?_update_self f ho (by rw[hf]<;>rfl),hf]
 refine I.write (x:=p) (e:=p) (by rw[h];trivial) (.inl rfl) (λ b u hb q=>(Heap.get?_update_other _ _ (zY hb)).trans q) ⟨_,e⟩ ?_;exact⟨hz,its',n',r,e⟩
abbrev rL:V->V->V->Hp->(Hp->Prop)->Prop:=λ o i v H Q=>∃p xs k j,o=.ref p/\i=.int k/\H p=some (.lst xs)/\OP xs.length k=some j/\Q (upd H p (.lst (xs.set j v)))
def set_list:qU X rL:=by
 intro pins s σ H o i v ov iv u Q I ro ri rv h;obtain⟨p,xs,k,j,rfl,rfl,hp,hj,q⟩:=h;cases ro;obtain⟨t,rfl⟩:=ri;obtain⟨aa,n,r,ho,hz⟩:=I.lst hp;obtain⟨h1,h2,h3,h4⟩:=Vb hj;have hl:=r.length;have hn:=Kx;have I':Inv X pins σ (upd H p (.lst (xs.set j v))) {s with heap:=s.heap.update p (Obj.mapSeq (·.setIfInBounds j u))}:=
  I.mO hp ho (U4 aa n j u) (r.set rv j) (by rw[yI];exact hz) s.toks
 by_cases h0:0<=k
 ·have hk:k.toNat=j:=by
   rw[seqIndex_of h0 h4] at h1;exact z7 h1
  exact PySem.W.ki_setAt ho h0 (by omega) (by rw[zl,<-hl];exact h4) (by rw[hk];exact⟨_,I',q⟩)
 ·have hk:(k+(aa.toArray.size:Int)).toNat=j:=by
   rw[seqIndex_neg (by omega) h3] at h1;rw[zl,<-hl];exact z7 h1
  exact PySem.W.ki_setBack ho (by omega) (by rw[zl,<-hl];exact h3) (by omega) (by rw[hk];exact⟨_,I',q⟩)
def Qb (lo hi:Option Int)(n:Nat):(sliceBounds lo hi none n).1=((HT.MB n 0 lo:Nat):Int)/\(sliceBounds lo hi none n).2.1=((HT.MB n n hi:Nat):Int)/\(sliceBounds lo hi none n).2.2=1:=by
 refine⟨?_,?_,rfl⟩
 ·cases lo with
  |none=>simp[sliceBounds,HT.MB]
  |some i =>
   simp only[sliceBounds,HT.MB,Option.getD_none,show (1:Int) > 0 by decide,if_true];by_cases h:i<0
   ·simp only[h,if_true]<;>omega
   ·simp only[h,if_false]<;>omega
 ·cases hi with
  |none=>simp[sliceBounds,HT.MB]
  |some i =>
   simp only[sliceBounds,HT.MB,Option.getD_none,show (1:Int) > 0 by decide,if_true];by_cases h:i<0
   ·simp only[h,if_true]<;>omega
   ·simp only[h,if_false]<;>omega
def Od (aa:List Value)(lo hi:Option Int):slicePick aa.toArray lo hi none=((aa.drop (HT.MB aa.length 0 lo)).take (HT.MB aa.length aa.length hi-HT.MB aa.length 0 lo)).toArray:=by
 obtain⟨h1,h2,h3⟩:=Qb lo hi aa.toArray.size;unfold slicePick;rw[h1,h2,h3];simp only[sliceRange_one,pick_run,zl]<;>rfl
abbrev vP (K:za):V->Option Int->Option Int->Hp->VK->Prop:=λ x lo hi H Q=>∃a xs,x=.ref a/\D2 K H a xs/\∀p,H p=none->Q (.ref p) (upd H p (.lst (Yq xs lo hi)))
def eW:wR X (vP X.K):=by
 intro pins s σ H x v vl vu lo hi sl Q I rx hs pl pu h;obtain⟨a,xs,rfl,hx,q⟩:=h;cases rx;obtain⟨aa,r,ht,hz⟩:=I.list hx;have hlen:=r.length;refine⟨"list",_,slot_list_getitem.lookup,ht.isList.typeIs,?_⟩;refine wpAny_getItem_list_slice ht.isList hs pl pu .none (by simp) ?_ (by rw[zl]<;>omega);rw[Od,<-hlen];refine⟨.ref s.heap.objs.size,_,I.laid (t':=s.toks) (o:=.lst (Yq xs lo hi)) (λ b ob q=>zp _ q) (zv _) ?_,rfl,q _ (I.Au.fresh (zv _))⟩;exact⟨zZ (RN xs lo hi) hz,_,0,(r.drop (HT.MB xs.length 0 lo)).take (HT.MB xs.length xs.length hi-HT.MB xs.length 0 lo),z9 _ rfl⟩
abbrev J7:V->Bool
 | .AK| .bl _| .int _| .str _=>true
 |_=>false
abbrev kB:V->V->Bool
 | .AK,.AK=>true
 | .bl a,.bl b=>a==b
 | .bl a,.int b=>(if a then 1 else 0)==b
 | .int a,.bl b=>a==(if b then 1 else 0)
 | .int a,.int b| .str a,.str b=>a==b
 |_,_=>false
def mP {A:Around}{s:Shared}{y x:V}{u v:Value}(ry:RelV y u)(rx:RelV x v)(fy:J7 y=true)(fx:J7 x=true):SeqAt.EqAt A s u v (kB y x):=by
 cases y with
 |AK =>
  cases ry;cases x with
  |AK=>cases rx;exact SeqAt.EqAt.same _
  |bl b=>cases rx;exact SeqAt.EqAt.none_bool b
  |int b=>obtain⟨t,rfl⟩:=rx;exact SeqAt.EqAt.none_int b t
  |str b=>obtain⟨t,rfl⟩:=rx;exact SeqAt.EqAt.none_str b t
  |_=>exact absurd (show false=true from fx) z4
 |bl a =>
  cases ry;cases x with
  |AK=>cases rx;exact SeqAt.EqAt.bool_none a
  |bl b=>cases rx;exact SeqAt.EqAt.bool_bool a b
  |int b=>obtain⟨t,rfl⟩:=rx;exact SeqAt.EqAt.bool_int a b t
  |str b=>obtain⟨t,rfl⟩:=rx;exact SeqAt.EqAt.bool_str a b t
  |_=>exact absurd (show false=true from fx) z4
 |int a =>
  obtain⟨t',rfl⟩:=ry;cases x with
  |AK=>cases rx;exact SeqAt.EqAt.int_none a t'
  |bl b=>cases rx;exact SeqAt.EqAt.int_bool a t' b
  |int b=>obtain⟨t,rfl⟩:=rx;exact SeqAt.EqAt.int_int a t' b t
  |str b=>obtain⟨t,rfl⟩:=rx;exact SeqAt.EqAt.int_str a t' b t
  |_=>exact absurd (show false=true from fx) z4
 |str a =>
  obtain⟨t',rfl⟩:=ry;cases x with
  |AK=>cases rx;exact SeqAt.EqAt.str_none a t'
  |bl b=>cases rx;exact SeqAt.EqAt.str_bool a t' b
  |int b=>obtain⟨t,rfl⟩:=rx;exact SeqAt.EqAt.str_int a t' b t
  |str b=>obtain⟨t,rfl⟩:=rx;exact SeqAt.EqAt.str_str a t' b t
  |_=>exact absurd (show false=true from fx) z4
 |_=>exact absurd (show false=true from fy) z4
abbrev U5 (x:V)(u:Value):Bool:=match u with
 | .none=>kB .AK x
 | .bool b=>kB (.bl b) x
 | .int i _=>kB (.int i) x
 | .str z _=>kB (.str z) x
 |_=>false
def Ys {x y:V}{u:Value}(r:RelV y u)(f:J7 y=true):U5 x u=kB y x:=by
 cases y with
 |AK|bl b=>cases r;rfl
 |int i|str z=>obtain⟨t,rfl⟩:=r;rfl
 |_=>exact absurd (show false=true from f) z4
def J8 {x:V}:∀ {xs:List V}{us:List Value},Vals xs us->xs.all J7=true->us.any (U5 x)=xs.any λ y=>kB y x
 |_,_,.nil,_=>rfl
 |y::xs,u::us,.cons r t,f=>by
  rw[List.all_cons,zG] at f;rw[yV,yV,Ys r f.1,J8 t f.2]
def Gi {A:Around}{s:Shared}{x:V}{v:Value}(rx:RelV x v)(fx:J7 x=true):∀ {xs:List V}{us:List Value},Vals xs us->xs.all J7=true->∀u∈us,SeqAt.EqAt A s u v (U5 x u)
 |_,_,.nil,_=>λ u hu=>by cases hu
 |y::xs,u::us,.cons r t,f=>λ u' hu=>by
  rw[List.all_cons,zG] at f;rcases zq.mp hu with rfl|hu
  ·rw[Ys r f.1];exact mP r rx f.1 fx
  ·exact Gi rx fx t f.2 u' hu
abbrev tY (x:V)(xs:List V):Bool:=xs.any λ y=>kB y x
abbrev tZ (K:za)(neg:Bool):R2:=λ x y H Q=>∃p xs,y=.ref p/\(D2 K H p xs\/Fd K H p xs)/\J7 x=true/\xs.all J7=true/\Q (.bl (if neg then !tY x xs else tY x xs)) H
def Wv:Gb X (compareOp .In) (tZ X.K false):=by
 intro pins s σ H x y v u Q I rx ry h;obtain⟨p,xs,rfl,hq,fx,fs,q⟩:=h;cases ry;rcases hq with hq|hq
 ·obtain⟨aa,r,pl,hz⟩:=I.list hq;refine SeqAt.in_listAt (U5 x) pl.isList (λ w hw=>Gi rx fx r fs w (by simpa using hw)) ⟨.bl _,H,I,rfl,?_⟩;rw[show aa.toArray.any (U5 x)=aa.any (U5 x) by simp,J8 r fs];exact q
 ·obtain⟨aa,r,pl,hz⟩:=I.tuple hq;refine SeqAt.in_tupleAt (U5 x) pl (λ w hw=>Gi rx fx r fs w (by simpa using hw)) ⟨.bl _,H,I,rfl,?_⟩;rw[show aa.toArray.any (U5 x)=aa.any (U5 x) by simp,J8 r fs];exact q
def Qc:Gb X (compareOp .NotIn) (tZ X.K true):=by
 intro pins s σ H x y v u Q I rx ry h;obtain⟨p,xs,rfl,hq,fx,fs,q⟩:=h;cases ry;rcases hq with hq|hq
 ·obtain⟨aa,r,pl,hz⟩:=I.list hq;refine SeqAt.notIn_listAt (U5 x) pl.isList (λ w hw=>Gi rx fx r fs w (by simpa using hw)) ⟨.bl _,H,I,rfl,?_⟩;rw[show aa.toArray.any (U5 x)=aa.any (U5 x) by simp,J8 r fs];exact q
 ·obtain⟨aa,r,pl,hz⟩:=I.tuple hq;refine SeqAt.notIn_tupleAt (U5 x) pl (λ w hw=>Gi rx fx r fs w (by simpa using hw)) ⟨.bl _,H,I,rfl,?_⟩;rw[show aa.toArray.any (U5 x)=aa.any (U5 x) by simp,J8 r fs];exact q
def Qd:FV X (.builtin "len") (λ xs H Q=>∃p ys,xs=[.ref p]/\(D2 X.K H p ys\/Fd X.K H p ys)/\Q (.int ys.length) H):=by
 intro pins s σ H xs us Q I r h;obtain⟨p,ys,rfl,hq,q⟩:=h;obtain⟨u,rfl,rx⟩:=vals1 r;cases rx;have hn:=Kx;rcases hq with hq|hq
 ·obtain⟨aa,r',pl,hz⟩:=I.list hq;have hlen:=r'.length;exact Calls.call_len_list pl.isList (by simp only[zl]<;>omega) ⟨.int ys.length,H,I.tok _,⟨s.toks+1,by rw[zl,hlen]⟩,q⟩
 ·obtain⟨aa,r',pl,hz⟩:=I.tuple hq;have hlen:=r'.length;exact len_tuple pl (by simp only[zl]<;>omega) ⟨.int ys.length,H,I.tok _,⟨s.toks+1,by rw[zl,hlen]⟩,q⟩
def Qe:FV X (.type "list") (λ xs H Q=>∃p ys,xs=[.ref p]/\(D2 X.K H p ys\/Fd X.K H p ys)/\∀l,H l=none->Q (.ref l) (upd H l (.lst ys))):=by
 intro pins s σ H xs us Q I r h;obtain⟨p,ys,rfl,hq,q⟩:=h;obtain⟨u,rfl,rx⟩:=vals1 r;cases rx;have fin:∀(aa:List Value),Vals ys aa->ys.length<=sizeLine->∀(h':Heap) (c':Nat),(∀b o',s.heap.get? b=some o'->h'.get? b=some o')->
  h'.get? s.heap.objs.size=some {cls:=.type "list",dict:=none,data:=.seq aa.toArray c',slots:=#[]}->EP X pins σ Q (.ref s.heap.objs.size) {s with heap:=h' }:=λ aa r' hz h' c' kp e =>
  ⟨.ref s.heap.objs.size,_,I.laid (t':=s.toks) kp (zv _) (show BW X.prog X.w _ h' _ (.lst ys) from ⟨hz,aa,c',r',e⟩),rfl,q _ (I.Au.fresh (zv _))⟩
 rcases hq with hq|hq
 ·obtain⟨aa,r',pl,hz⟩:=I.list hq;have hlen:=r'.length;obtain⟨o,ho,hc,n,hd⟩:=pl.isList;exact call_list_seq p (.inl rfl) ho hc hd (λ h' c' kp e=>fin aa r' hz h' c' kp e) (by simp only[zl]<;>omega)
 ·obtain⟨aa,r',pl,hz⟩:=I.tuple hq;have hlen:=r'.length;obtain⟨o,ho,hc,n,hd⟩:=pl;exact call_list_seq p (.inr rfl) ho hc hd (λ h' c' kp e=>fin aa r' hz h' c' kp e) (by simp only[zl]<;>omega)
def Oe:FV X (.type "tuple") (λ xs H Q=>∃p ys,xs=[.ref p]/\((D2 X.K H p ys/\∀l,H l=none->Q (.ref l) (upd H l (.tup ys)))\/(Fd X.K H p ys/\Q (.ref p) H))):=by
 intro pins s σ H xs us Q I r h;obtain⟨p,ys,rfl,h⟩:=h;obtain⟨u,rfl,rx⟩:=vals1 r;cases rx;rcases h with ⟨hq,q⟩|⟨hq,q⟩
 ·obtain⟨aa,r',pl,hz⟩:=I.list hq;have hlen:=r'.length;refine call_tuple_list pl.isList (λ h' kp=>?_) (by simp only[zl]<;>omega);have I1:Inv X pins σ H {s with heap:=h' }:=I.kept (t':=s.toks) kp;have I2:Inv X pins σ (upd H h'.objs.size (.tup ys)) {s with heap:=h'.push {cls:=.type "tuple",data:=.seq aa.toArray} }:=
   I1.laid (t':=s.toks) (λ b o e=>zp _ e) (zv _) (show BW X.prog X.w _ _ _ (.tup ys) from ⟨hz,aa,r',IsTup.new _ _⟩)
  exact⟨.ref h'.objs.size,_,I2,rfl,q _ (I1.Au.fresh (zv _))⟩
 ·obtain⟨aa,r',pl,hz⟩:=I.tuple hq;exact call_tuple_same pl ⟨.ref p,H,I,rfl,q⟩
abbrev vQ (K:za)(T:String)(x:V)(H:Hp):Prop:=match x with
 | .str _=>T = "str"
 | .int _=>T = "int"
 | .ref p=>(T = "list" /\ ∃xs,D2 K H p xs)\/(T = "tuple" /\ ∃o,K.lookup p=some o/\o.cls=.type "tuple" /\ o.dict=none) \/
  (T = "dict" /\ ((∃kvs,H p=some (.dK kvs))\/∃kvs,H p=some (.dT kvs)))\/(T = "set" /\ ∃S n,H p=some (.set S n))
 |_=>False
def Yt {pins:List (Addr×Obj)}{σ:St}{H:Hp}{s:Shared}{T:String}{x:V}{v:Value}(I:Inv X pins σ H s)(r:RelV x v)(ty:vQ X.K T x H):
 s.TypeIs v T/\∀a,v=.ref a->∃ob,s.heap.get? a=some ob/\ob.dict=none:=by
 cases x with
 |str z =>
  obtain⟨t,rfl⟩:=r;cases (show T = "str" from ty);exact⟨typeIs_str s z t,λ _ e=>nomatch e⟩
 |int i =>
  obtain⟨t,rfl⟩:=r;cases (show T = "int" from ty);exact⟨typeIs_int s i t,λ _ e=>nomatch e⟩
 |ref p =>
  cases r;rcases ty with ⟨rfl,xs,hq⟩|⟨rfl,o,hk,hc,hd⟩|⟨rfl,hk⟩|⟨rfl,S,n,hk⟩
  ·obtain⟨aa,_,pl,_⟩:=I.list hq;refine⟨pl.isList.typeIs,λ a e=>?_⟩;cases e;obtain⟨o,n,e,c,hd,_⟩:=pl;exact⟨o,e,hd⟩
  ·refine⟨⟨o,I.Mv p o hk,hc⟩,λ a e=>?_⟩;cases e;exact⟨o,I.Mv _ o hk,hd⟩
  ·have z:∃o,s.heap.get? p=some o/\o.ExactDict:=by
    rcases hk with ⟨kvs,hk⟩|⟨kvs,hk⟩
    ·obtain⟨_,_,_,_,o,_,_,e,ex,_⟩:=I.Au p _ hk;exact⟨o,e,ex⟩
    ·obtain⟨_,_,_,_,o,_,_,e,ex,_⟩:=I.Au p _ hk;exact⟨o,e,ex⟩
   obtain⟨o,e,ex⟩:=z;refine⟨⟨o,e,ex.1⟩,λ a e2=>?_⟩;cases e2;exact⟨o,e,ex.2.1⟩
  ·obtain⟨o,_,_,_,e,ex,_⟩:=I.Au p _ hk;refine⟨⟨o,e,ex.1⟩,λ a e2=>?_⟩;cases e2;exact⟨o,e,ex.2.1⟩
 |_=>exact zag ty
abbrev vR (K:za)(T:String)(r:V->List V->Hp->VK->Prop)(to:TE):TE:=λ σ H Q=>to σ H λ x H1=>vQ K T x H1/\r x [] H1 Q
abbrev xW (K:za)(T:String)(r:V->List V->Hp->VK->Prop)(to:TE)(t:TA):TE:=λ σ H Q=>to σ H λ x H1=>vQ K T x H1/\t σ H1 λ xs H2=>r x xs H2 Q
variable {o e:Expr}{es:List Expr}{to:TE}{t:TA}{name:Str}{apos ad:Pos}{T id:String}{r:V->List V->Hp->VK->Prop}
def mQ (pa:PlainAttrs T)(slot:Slot T name id)(lx:typeOf (.builtin id)=pure (.type "method_descriptor"))(hm:wU X id r)(ho:PE X o to)(al: ~~~(attributeBase o name X.env (eval o X.env)=eval o X.env))(am: ~~~((apos.endLine==ad.line)=true)):PE X (.Call (.Attribute o name apos) [] [] ad) (vR X.K T r to):=by
 intro pins s σ H Q I h;refine wpAny_Call_method0_late al am (Bi (ho pins s σ H _ I h) λ v s1 zz=>?_);obtain⟨x,H1,I1,r1,ty,q1⟩:=zz;obtain⟨h1,h2⟩:=Yt I1 r1 ty;exact⟨T,id,pa,slot,lx,h1,h2,Calls.callWith_builtin rfl (PySem.evalArgs_none (hm pins s1 σ H1 x [] v [] Q I1 r1 .nil q1))⟩
def OQ (pa:PlainAttrs T)(slot:Slot T name id)(lx:typeOf (.builtin id)=pure (.type "method_descriptor"))(hm:wU X id r)(ho:PE X o to)(ha:PA X (e::es) t)(al: ~~~(attributeBase o name X.env (eval o X.env)=eval o X.env))(aE: ~~~(((backTo ad (starEach (e::es) X.env)).all (λ x => !x.1)&&(backToKw ad (keywordEach [] X.env)).all (λ x=>x.1.isSome)
  && decide ((e::es).length+([]:List Keyword).length+(if ([]:List Keyword).isEmpty then 0 else 1)<30))=true))(am: ~~~((apos.endLine==ad.line)=true))(hs: ~~~(starEach (e::es) X.env=(false,eval e X.env)::starEach es X.env))(ak: ~~~((backTo ad (starEach es X.env)).any (·.1)=false)):
 PE X (.Call (.Attribute o name apos) (e::es) [] ad) (xW X.K T r to t):=by
 intro pins s σ H Q I h;refine wpAny_Call_method_late al aE am rfl (Bi (ho pins s σ H _ I h) λ v s1 zz=>?_);obtain⟨x,H1,I1,r1,ty,q1⟩:=zz;obtain⟨h1,h2⟩:=Yt I1 r1 ty;refine⟨T,id,pa,slot,lx,h1,h2,?_⟩;have hA:=ha ad pins s1 σ H1 _ I1 q1;rw[hs] at hA ⊢;refine Calls.callWith_builtin (by show (false||(backTo ad (starEach es X.env)).any (·.1))=false;rw[ak]<;>rfl) (Calls.evalArgs_plain ?_);exact Bi hA λ us s2 ⟨vs,H2,I2,r2,q2⟩=>hm pins s2 σ H2 x vs v us Q I2 r1 r2 q2
end
abbrev pR (X:Cx)(id:String)(r:V->List V->Hp->VK->Prop):Prop:=
 ∀(pins:List (Addr×Obj)) (s:Shared) (σ:St) (H:Hp) (x:V) (xs:List V) (v:Value) (us:List Value) (Q:VK),Inv X pins σ H s->RelV x v->Vals xs us->r x xs H Q->
  wpAny (model X.prog X.w) X.A (call (.builtin id) (v::us)) (EP X pins σ Q) X.xe s
def Vals.one {x:V}{us:List Value}(h:Vals [x] us):∃u,us=[u]/\RelV x u:=by
 cases h with
 |cons r q=>cases q;exact⟨_,rfl,r⟩
def Vals.two {x y:V}{us:List Value}(h:Vals [x,y] us):∃u v,us=[u,v]/\RelV x u/\RelV y v:=by
 cases h with
 |cons r q=>obtain⟨u,rfl,h⟩:=Vals.one q;exact⟨_,_,rfl,r,h⟩
def Vals.zero:∀ {us:List Value},Vals [] us->us=[]
 |_,.nil=>rfl
def Vals.dropLast {xs:List V}{us:List Value}(h:Vals xs us):Vals xs.dropLast us.dropLast:=by
 induction h with
 |nil=>exact .nil
 |cons r t ih =>
  cases t with
  |nil=>exact .nil
  |cons q t'=>exact .cons r ih
def Vals.eraseIdx:∀ {xs:List V}{us:List Value}(i:Nat),Vals xs us->Vals (xs.eraseIdx i) (us.eraseIdx i)
 |_,_,_,.nil=>.nil
 |_,_,0,.cons _ t=>t
 |_,_,i+1,.cons r t=>.cons r (Vals.eraseIdx i t)
def Vals.rep {xs:List V}{us:List Value}(h:Vals xs us):∀k:Nat,Vals (zt k xs).flatten (zt k us).flatten
 |0=>.nil
 |k+1=>by
  rw[za0,za0,List.flatten_cons,List.flatten_cons];exact Vals.append h (Vals.rep h k)
def U6 {α:Type}(l:List α):l.eraseIdx (l.length-1)=l.dropLast:=by
 induction l with
 |nil=>rfl
 |cons a r ih =>
  cases r with
  |nil=>rfl
  |cons b r =>
   have e:(a::b::r).length-1=((b::r).length-1)+1:=by
    have h1:(a::b::r).length=r.length+2:=rfl;have h2:(b::r).length=r.length+1:=rfl;omega
   rw[e,List.eraseIdx_cons_succ,ih];all_goals rfl
def foldl_rep (aa:List Value):∀(k:Nat) (acc:List Value),
 List.foldl (λ x1 x2=>x1++x2) acc.toArray (zt k aa.toArray)=(acc++(zt k aa).flatten).toArray
 |0,acc=>by simp
 |k+1,acc=>by
  have e:acc.toArray++aa.toArray=(acc++aa).toArray:=by simp
  have e2:(acc++aa)++(zt k aa).flatten=acc++(zt (k+1) aa).flatten:=by
   rw[za0,List.flatten_cons,zaa]
  rw[<-e2,<-foldl_rep aa k (acc++aa),<-e,za0,zL]
section
variable {X:Cx}{pins:List (Addr×Obj)}{σ:St}{H:Hp}{s:Shared}{l b:Addr}{xs ys zs:List V}
def Inv.Ww {aa its':List Value}{n:Nat}{f:Array Value->Array Value}{t':Nat}(I:Inv X pins σ H s)(hH:H l=some (.lst xs))
 (e:s.heap.get? l=some {cls:=.type "list",data:=.seq aa.toArray n}) (hf:f aa.toArray=its'.toArray) (hv:Vals ys its') (hz:ys.length<=sizeLine):
 Inv X pins σ (upd H l (.lst ys)) {s with heap:=s.heap.update l (Obj.mapSeq f),toks:=t' }:=by
 have q:=PySem.IsL.update e f;rw[hf] at q;refine I.write (x:=l) (e:=l) (by rw[hH];exact trivial) (.inl rfl) (λ b' u hb hu=>(Heap.get?_update_other s.heap (Obj.mapSeq f) (zY hb)).trans hu) ⟨_,q⟩ ?_;exact⟨hz,its',_,hv,q⟩
def Inv.rM {aa:List Value}{t':Nat}(I:Inv X pins σ H s)(hv:Vals ys aa)(hz:ys.length<=sizeLine):
 Inv X pins σ (upd H s.heap.objs.size (.lst ys)) {s with heap:=s.heap.push {cls:=.type "list",data:=.seq aa.toArray},toks:=t' }:=
 I.laid (λ _ _ q=>zp _ q) (zv _) ⟨hz,aa,0,hv,z9 _ rfl⟩
def Inv.fresh (I:Inv X pins σ H s):H s.heap.objs.size=none:=I.Au.fresh (zv _)
def Inv.RP (I:Inv X pins σ H s)(hH:H l=some (.lst xs)):xs.length<=sizeLine/\∃(aa:List Value) (n:Nat),Vals xs aa/\xs.length=aa.length/\s.heap.get? l=some {cls:=.type "list",data:=.seq aa.toArray n}:=by
 obtain⟨z,aa,n,r,e⟩:=I.Au l _ hH;exact⟨z,aa,n,r,r.length,e⟩
def RQ {n:Nat}(h:n<=sizeLine):zav n=false:=by
 unfold zav;exact decide_eq_false (by omega)
end
section
variable {X:Cx}
abbrev eX:V->List V->Hp->VK->Prop:=λ x vs H Q=>∃l xs y,x=.ref l/\vs=[y]/\H l=some (.lst xs)/\xs.length<sizeLine/\Q .AK (upd H l (.lst (xs++[y])))
def Kz:pR X "list.append" eX:=by
 intro pins s σ H x vs v us Q I rx rv h;obtain⟨l,xs,y,rfl,rfl,hH,hz,q⟩:=h;cases rx;obtain⟨u,rfl,ru⟩:=rv.one;obtain⟨z,aa,n,r,hl,e⟩:=I.RP hH;refine call_meets F.slot_list_append ⟨_,e,rfl⟩ F.entry_list_append (F.args_list_append_2 _ _) (PySem.list_append l aa.toArray n u (by rw[zl];omega)) ⟨e,?_⟩;refine⟨.AK,_,I.Ww (its':=aa++[u]) hH e (by simp) (r.append (.cons ru .nil)) ?_,rfl,q⟩;rw[zB,yP];omega
abbrev eY:V->List V->Hp->VK->Prop:=λ x vs H Q=>∃l b xs zs,x=.ref l/\vs=[.ref b]/\H l=some (.lst xs)/\H b=some (.lst zs)/\xs.length+zs.length<=sizeLine/\Q .AK (upd H l (.lst (xs++zs)))
def Wx:pR X "list.extend" eY:=by
 intro pins s σ H x vs v us Q I rx rv h;obtain⟨l,b,xs,zs,rfl,rfl,hH,hB,hz,q⟩:=h;cases rx;obtain⟨u,rfl,ru⟩:=rv.one;cases ru;obtain⟨z,aa,n,r,hl,e⟩:=I.RP hH;obtain⟨z2,aO,n2,r2,aH,e2⟩:=I.RP hB;have hsz:aa.toArray.size+aO.toArray.size<=sizeLine:=by rw[zl,zl];omega
 have bO:¬ (!aa.toArray.isEmpty&&zav (aa.toArray.size+aO.toArray.size))=true:=by
  rw[RQ hsz,Bool.and_false];exact z4
 refine call_meets F.slot_list_extend ⟨_,e,rfl⟩ F.entry_list_extend (F.args_list_extend_2 _ _)
  (AutoSeq1.list_extend_list_list_0 l aa.toArray n b aO.toArray n2 bO (by rw[zl];omega) (by omega)) ⟨e,e2,?_⟩
 refine⟨.AK,_,I.Ww (its':=aa++aO) hH e (by simp) (r.append r2) ?_,rfl,q⟩;rw[zB];omega
abbrev vS:V->List V->Hp->VK->Prop:=λ x vs H Q=>∃l xs y,x=.ref l/\vs=[]/\H l=some (.lst xs)/\xs[xs.length-1]?=some y/\Q y (upd H l (.lst xs.dropLast))
def vT:pR X "list.pop" vS:=by
 intro pins s σ H x vs v us Q I rx rv h;obtain⟨l,xs,y,rfl,rfl,hH,hy,q⟩:=h;cases rx;have ly:=rv.zero;subst ly;obtain⟨z,aa,n,r,hl,e⟩:=I.RP hH;obtain⟨u,hu,ru⟩:=r.get hy;have t9:aa.toArray[aa.toArray.size-1]?=some u:=by
  show aa.toArray[aa.length-1]?=some u;rw[<-Array.getElem?_toList,<-hl];exact hu
 refine call_meets F.slot_list_pop ⟨_,e,rfl⟩ F.entry_list_pop (F.args_list_pop_1 _) (MeetsSeq.list_pop_last l aa.toArray n u t9 (by rw[zl];omega)) ⟨e,?_⟩;refine⟨y,_,I.Ww (its':=aa.dropLast) hH e ?_ r.dropLast ?_,ru,q⟩
 ·show aa.toArray.eraseIdxIfInBounds (aa.toArray.size-1)=aa.dropLast.toArray;rw[zl,List.eraseIdxIfInBounds_toArray,U6]
 ·rw[List.length_dropLast];omega
abbrev mR:V->List V->Hp->VK->Prop:=λ x vs H Q=>∃l xs,x=.ref l/\vs=[]/\H l=some (.lst xs)/\Q .AK (upd H l (.lst []))
def Yu:pR X "list.clear" mR:=by
 intro pins s σ H x vs v us Q I rx rv h;obtain⟨l,xs,rfl,rfl,hH,q⟩:=h;cases rx;have ly:=rv.zero;subst ly;obtain⟨z,aa,n,r,hl,e⟩:=I.RP hH;refine call_meets F.slot_list_clear ⟨_,e,rfl⟩ F.entry_list_clear (F.args_list_clear_1 _) (AutoSeq1.list_clear_list_0 l aa.toArray n (by rw[zl];omega)) ⟨e,?_⟩;exact⟨.AK,_,I.Ww (its':=[]) (ys:=[]) hH e rfl .nil (zM _),rfl,q⟩
abbrev vU:R2:=λ x y H Q=>∃l k xs,x=.ref l/\y=.int k/\H l=some (.lst xs)/\-(2^63)<=k/\k<2^63/\xs.length*k.toNat<=sizeLine/\
 ∀p,H p=none->Q (.ref p) (upd H p (.lst (zt k.toNat xs).flatten))
def len_rep {α:Type}(xs:List α)(k:Nat):(zt k xs).flatten.length=k*xs.length:=by
 induction k with
 |zero=>simp
 |succ k ih=>rw[za0,List.flatten_cons,zB,ih,Nat.succ_mul,Nat.add_comm]
def mS:Gb X (binaryOp .Mult) vU:=by
 intro pins s σ H x y v u Q I rx ry h;obtain⟨l,k,xs,rfl,rfl,hH,h1,h2,hz,q⟩:=h;cases rx;obtain⟨t,rfl⟩:=ry;obtain⟨z,aa,n,r,hl,e⟩:=I.RP hH;have hlen:aa.toArray.size*k.toNat<=sizeLine:=by rw[zl,<-hl];exact hz
 have l6:¬ aa.toArray.size*k.toNat > (2^63-1) / 8:=by
  have:(sizeLine:Nat)<=(2^63-1) / 8:=by decide
  omega
 have eo:¬ (!Builtin.List.listFitsIndex k)=true:=by
  rw[fitsIndex_both h1 h2];exact z4
 have bO:¬ zav (aa.toArray.size*k.toNat)=true:=by
  rw[RQ hlen];exact z4
 have bt:List.foldl (λ x1 x2=>x1++x2) #[] (zt (if aa.toArray.isEmpty=true then 0 else k.toNat) aa.toArray)=(zt k.toNat aa).flatten.toArray:=by
  have f0:∀m:Nat,List.foldl (λ x1 x2=>x1++x2) #[] (zt m aa.toArray)=(zt m aa).flatten.toArray:=λ m=>by
   have:=foldl_rep aa m [];rw[List.nil_append] at this;exact this
  rw[f0];cases aa with
  |nil=>simp
  |cons a r'=>rw[if_neg (by simp)]
 refine wpAny_binaryOp_repeat_ref (T := "list") (U := "int") (by decide) ⟨_,e,rfl⟩ (λ s'=>typeIs_int s' k t) noFill_list_mul F.fills_int_mul F.slot_int_rmul repeat_list F.slot_int_index.lookup
  (call_meets F.slot_int_rmul (typeIs_int s k t) F.entry_int_rmul (F.args_int_rmul_2 _ _) (int___rmul___int_list k t l aa.toArray n)
   ⟨e,rfl,⟨_,e,rfl⟩,call_meets F.slot_list_mul ⟨_,e,rfl⟩ F.entry_list_mul (F.args_list_mul_2 _ _) (AutoListH.list___mul___list_int_3 l aa.toArray n k t eo l6 bO) ⟨e,?_⟩⟩)
 rw[bt];exact⟨.ref _,_,I.rM (t':=s.toks) (r.rep k.toNat) (by rw[len_rep,Nat.mul_comm];exact hz),rfl,q _ I.fresh⟩
end
end L2
namespace ql
open PySem PySem.W PySem.Calls PyProof.Rows
def LR {P:Params}{h:Heap}:∀(ns:List Int) (vs:List Value),WellAll P h vs (ns.map WData.int)->IntsAre vs ns:=by
 intro ns;induction ns with
 |nil =>
  intro vs w;rw[zai] at w;cases w;exact .nil
 |cons n ns ih =>
  intro vs w;rw[zf] at w;cases w with
  |cons a b =>
   cases a;exact .cons _ _ (ih _ b)
def Wy {l:OpenLaw}{n:Nat}(hn:l.most=some n){P:Params}{h:Heap}{args:List WData}{vals:List Value}
 (cm:l.row.toRowW.claim.pre args=true) (l7:WellAll P h vals args):
 ∃a vs ns,vals=[yG a]/\args=[WData.list (ns.map WData.int)]/\h.get? a=some {cls:=.type "list",data:=.seq vs.toArray}/\IntsAre vs ns/\ns.length<=n:=by
 have ub:WShape.hasAll [] args [.list .int]=true:=(pre_splitW cm).1;have hc:l.pre.holds [] {args:=args}=true:=(pre_splitW cm).2;obtain⟨d,r,rfl,h1,h2⟩:=hasAllW_cons ub;obtain rfl:=hasAllW_nil h2;obtain⟨xs,rfl,h3⟩:=hasW_list h1;obtain⟨ns,rfl⟩:=items_int h3;have hlen:ns.length<=n:=by
  unfold OpenLaw.pre at hc;have h4:(WTm.not (.lt (.lit (.int (n:Int))) (.len (.arg 0)))).holds [] {args:=[.list (ns.map .int)]}=true:=by
   have h4:=(holds_andW hc).1;rw[hn] at h4;exact h4
  have h5:=condW_of h4 (w_not (w_lt w_lit (w_len_list (w_arg rfl))));rw[zc] at h5;refine Nat.le_of_not_lt λ q=>?_;have q':(n:Int)<((ns.length:Nat):Int):=by omega
  first
   |(rw[decide_eq_true q'] at h5;exact absurd h5 (by decide))
   |(simp at h5;omega)
 cases l7 with
 |cons w1 w2 =>
  cases w2;cases w1 with
  |list ho a8=>exact⟨_,_,ns,rfl,rfl,ho,LR ns _ a8,hlen⟩
def Wz (l:OpenLaw)(args:List WData):l.row.toRowW.claim.post args (.bool true) args=true:=
 postW_of (r:=l.row.toRowW) (X:=(true==true))
  (show WShape.has [] (.bool true) .bool=true by first|rfl|decide|simp[WShape.has,WShape.arms,WShape.armsAll])
  (show (WTm.eq .res (.lit (.bool true))).value [] {args:=args,res:=some (.bool true),after:=args}=some (.bool (true==true)) from w_eq_bool (w_res rfl) w_lit) rfl
end ql
namespace L2
open PySem PySem.Spec PyProof.Rows
def OR:∀ {vs:List Value}{ns:List Int},IntsAre vs ns->Vals (ns.map V.int) vs
 |_,_,.nil=>.nil
 |_,_,.cons n t h=>.cons ⟨t,rfl⟩ (OR h)
abbrev eZ (H:Hp):Prop:=∀b,H b=none\/∃o xs,H b=some (.XS o (.lst xs))
def RS {P:Program}{w:World}{K:za}{mg mb:Str->Option Value}{CX:V8}{k:Nat}{fa a:Addr}{fd:FuncData}{x:Str}{sp:Sp}{s₁:Shared}{vs:List Value}{ns:List Int}
 (KX:K.In s₁.heap) (l8:s₁.heap.Ns mainGlobals mg) (hb:s₁.heap.Ns builtinsNs mb) (uc:∀x:Str,x ≠ "__name__" -> mb x=bootBuiltins x) (l9:s₁.heap.NoLimit) (hg:s₁.gens=#[])
 (ha:s₁.heap.get? a=some {cls:=.type "list",data:=.seq vs.toArray}) (hi:IntsAre vs ns) (hl:ns.length<=sizeLine) (hr:Bu k callerA)
 (F:∀base:Heap,K.In base->base.Ns mainGlobals mg->Di P w K mg base CX k fa fd [x] sp) (il:∀(s:Shared) (u:Value),BindsTo s fd ⟨[u],[]⟩ [(x,u)])
 (bC:∀H:Hp,eZ H->D2 K H a (ns.map V.int)->sp [.ref a] H (λ v _=>v=.bl true) λ _ _ _=>False)
 (im:∀H e s',CX [] H s₁ (λ _ _ _=>False) e s'->False):
 codeAny (model P w) callerA (.call (.ref fa) ⟨[.ref a],[]⟩) (λ r s'=>r=.ok (.ret (.bool true))/\OldK s₁.heap s'.heap/\s'.os=s₁.os/\AllBare s'.gens) s₁:=by
 have rv:=OR hi;have me:=hi.length;have core:∀H:Hp,eZ H->D2 K H a (ns.map V.int)->Ga P w H s₁.heap->(∀b,H b≠none->b=a)->(H a≠none->K.lookup a=none)->
  codeAny (model P w) callerA (.call (.ref fa) ⟨[.ref a],[]⟩) (λ r s'=>r=.ok (.ret (.bool true))/\OldK s₁.heap s'.heap/\s'.os=s₁.os/\AllBare s'.gens) s₁:=by
  intro H hO hS Au hA hK;have b8:∀ {b:Addr} {o:Obj},s₁.heap.get? b=some o->H b=none->(Q2 s₁.heap H).get? b=some o:=λ e n=>XZ e n;have ie:∀ {b:Addr} {o:Obj} {es:Array DictEntry} {ep:Nat},s₁.heap.get? b=some o->o.data=.dict es ep->H b=none:=fun {b o es ep} e d=>by
   cases q:H b with
   |none=>rfl
   |some u =>
    have e':b=a:=hA b (by rw[q];simp);subst e';rw[ha] at e;cases e;have d':Data.seq vs.toArray _=Data.dict es ep:=d;cases d'
  have j3:∀ {b:Addr} {m:Str->Option Value},s₁.heap.Ns b m->(Q2 s₁.heap H).Ns b m:=fun {b m} ⟨o,es,ep,e,d,r⟩=>⟨o,es,ep,b8 e (ie e d),d,r⟩;have qm:K.In (Q2 s₁.heap H):=λ b o e=>b8 (KX b o e) (by
   cases q:H b with
   |none=>rfl
   |some u =>
    have e':b=a:=hA b (by rw[q];simp);subst e';rw[hK (by rw[q];simp)] at e;cases e)
  have hM:Mod K mg (Q2 s₁.heap H):=⟨qm,j3 l8,⟨mb,j3 hb,uc⟩,let ⟨mc,h1,h2⟩:=l9;⟨mc,j3 h1,h2⟩⟩;have e0:U3 P w K mg (Q2 s₁.heap H) callerA [] s₁ H:=⟨rfl,hM,λ b o e=>eA e,Nat.le_of_eq (Wl _ _),trivial,λ b hb=>absurd (show b∈([]:List Addr) from hb) (by simp),Au,.of_eq hg⟩;refine codeAny_mono ((F _ qm (j3 l8)).run callerA [] s₁ H ⟨[.ref a],[]⟩ [.ref a] [.ref a] _ _ hr e0 (il s₁ (.ref a)) (.cons rfl .nil) (bC H hO hS)) λ r s' h=>?_;cases r with
  |error e=>exact (im H e s' h).elim
  |ok fl =>
   cases fl with
   |next|brk|cont=>exact zag h
   |ret u =>
    obtain⟨v,H',os,bare,un,ez,r',q⟩:=h;have q':v=.bl true:=q;subst q';obtain rfl:u=Value.bool true:=r';refine⟨rfl,OldK.of_keep λ b o e=>?_,os,bare⟩;cases q:H b with
    |none=>exact un.keep b o e q (by intro z;exact absurd (show b∈([]:List Addr) from z) (by simp)) (by simp)
    |some u =>
     rcases hO b with z|⟨ob,xs,z⟩
     ·rw[q] at z;cases z
     ·have z2:=un.Oa b ob _ z;obtain⟨e1,_⟩:=Au b _ z;obtain⟨e2,_⟩:=ez b _ z2;rw[e] at e1;cases e1;exact e2
 cases hk:K.lookup a with
 |some o =>
  have e:=KX a o hk;rw[ha] at e;cases e;refine core (λ _=>none) (λ _=>.inl rfl) (.inr ⟨_,vs.toArray,_,hk,rfl,rfl,rfl,by rw[zl,me];exact hl,by simpa using rv⟩) (λ b u z=>by have z':(none:Option HO)=some u:=z;cases z') (λ b z=>absurd rfl z) λ z=>absurd rfl z
 |none =>
  refine core (λ b=>if b=a then some (.XS {cls:=.type "list",data:=.seq vs.toArray} (.lst (ns.map V.int))) else none) (λ b=>?_) (.inl (.inr ⟨{cls:=.type "list",data:=.seq vs.toArray},if_pos rfl⟩)) (λ b u z=>?_) (λ b z=>?_) λ _=>hk
  ·by_cases hb:b=a
   ·exact .inr ⟨_,_,if_pos hb⟩
   ·exact .inl (if_neg hb)
  ·by_cases hb:b=a
   ·have z':=(if_pos hb).symm.trans z;cases z';subst hb;exact⟨ha,by rw[zc];exact hl,vs,_,rv,ha⟩
   ·have z':=(if_neg hb).symm.trans z;cases z'
  ·by_cases hb:b=a
   ·exact hb
   ·exact absurd (if_neg hb) z
noncomputable abbrev fA:V8:=λ _ _ _ _ _ _=>False
noncomputable abbrev E0:XK:=λ _ _ _=>False
structure XX (K:za)(x qual:Str)(st:Stmt)(f:Addr)(fd:FuncData):Prop where
 ex:∃(oc:Value) (od:Option Addr) (kV doc pm:Value) (an:Option Addr) (B4 ct:Value) (TF:Array (Option Value)),
  fd=zX x qual (Bm st) (AN st) (A5 st) .none kV doc pm an B4 ct/\K.lookup f=some ⟨oc,od,.func fd,TF⟩/\yZ K B4 qual=true
 kp:zV K (.ref f)=true
section
variable {P:Program}{w:World}{K:za}{mg:Str->Option Value}{base:Heap}
def XX.ok {x qual:Str}{st:Stmt}{f:Addr}{fd:FuncData}{N ps:List Str}{k:Nat}{sp:Sp}(F:XX K x qual st f fd)(S:Ad N ps (A5 st))(len:∀vs H Q E,sp vs H Q E->vs.length=ps.length)
 (bN:∀(B4:Value) (A:Around) (outer:List Env) (s:Shared) (H:Hp) (vs:List V) (Q:VK) (E:XK),Bu k (A.deeper (envOfC qual (A5 st) s.heap.objs.size f B4))->sp vs H Q E->
  ∃t,V4 (RK fA P w K mg base N qual (A5 st) f B4 A outer s H E).qQ (AN st) t/\t {nx:=λ _ H'=>Q .AK H',rt:=Q} (start N vs) H):Di P w K mg base fA (k+1) f fd ps sp:=by
 obtain⟨oc,od,kV,doc,pm,an,B4,ct,TF,rfl,lk,aZ⟩:=F.ex;refine Va lk aZ S len λ A outer s H vs Q E hr bC=>?_;obtain⟨t,h,q⟩:=bN B4 A outer s H vs Q E hr bC;exact⟨t,h.qQ,q⟩
def XX.binds {x qual:Str}{st:Stmt}{f:Addr}{fd:FuncData}{ps:List Str}(F:XX K x qual st f fd)
 (h:∀(kV doc pm:Value) (an:Option Addr) (B4 ct:Value) (us:List Value),us.length=ps.length->bindArgs (zX x qual (Bm st) (AN st) (A5 st) .none kV doc pm an B4 ct) ⟨us,[]⟩=pure (ps.zip us)):Binds K fd ps []:=by
 obtain⟨oc,od,kV,doc,pm,an,B4,ct,TF,rfl,lk,aZ⟩:=F.ex;exact .all (h kV doc pm an B4 ct)
def U7 {x qual:Str}{st:Stmt}{f:Addr}{oc:Value}{od an:Option Addr}{TF:Array (Option Value)}{kV doc pm B4 ct:Value}(l:K.lookup f=some ⟨oc,od,.func (zX x qual (Bm st) (AN st) (A5 st) .none kV doc pm an B4 ct),TF⟩)
 (c:yZ K B4 qual=true) (k:zV K (.ref f)=true):XX K x qual st f (zX x qual (Bm st) (AN st) (A5 st) .none kV doc pm an B4 ct):=⟨⟨oc,od,kV,doc,pm,an,B4,ct,TF,rfl,l,c⟩,k⟩
end
def AJ {n:Nat}(h:n<=1000):n<sizeLine:=Nat.lt_of_le_of_lt h (by decide)
section
variable {X:Cx}
def pv (i:Nat){x:Str}{pos:Pos}(hN: ~~~(X.N[i]?=some x))(hv:uT X.env.scope x:=by first | exact zO rfl | exact Or.inr (zO rfl) | exact Or.inr (Or.inr rfl))(hd:(x==("__debug__" : Str))=false:=by decide)(aZ:(x==("__classdict__" : Str))=false:=by decide):PE X (.Name x pos) (Kw i):=lK hN hv hd aZ
end
abbrev Ae (H H':Hp):Prop:=∀b o,H b=some o->H' b=some o
def Ae.refl (H:Hp):Ae H H:=λ _ _ h=>h
def Ae.trans {H H1 H2:Hp}(a:Ae H H1)(b:Ae H1 H2):Ae H H2:=λ c o h=>b c o (a c o h)
def Ae.seq {K:za}{H H':Hp}{a:Addr}{xs:List V}(e:Ae H H')(h:D2 K H a xs):D2 K H' a xs:=by
 rcases h with (h|⟨o,h⟩)|h
 ·exact .inl (.inl (e _ _ h))
 ·exact .inl (.inr ⟨o,e _ _ h⟩)
 ·exact .inr h
section
variable {κ:Type} [DecidableEq κ]
abbrev Of (kvs:List (κ×V))(k:κ):Option V:=(kvs.find? λ kv=>decide (kv.1=k)).map (·.2)
abbrev putK (kvs:List (κ×V))(k:κ)(v:V):List (κ×V):=
 if (kvs.any λ kv=>decide (kv.1=k))=true then kvs.map (λ kv=>if kv.1=k then (kv.1,v) else kv) else kvs++[(k,v)]
def MC {p:κ×V}{r:List (κ×V)}{k:κ}(e:p.1=k):Of (p::r) k=some p.2:=by simp[Of,zat,e]
def MD {p:κ×V}{r:List (κ×V)}{k:κ}(e:¬ p.1=k):Of (p::r) k=Of r k:=by simp[Of,zat,e]
def RT (k:κ):∀kvs:List (κ×V),(kvs.any λ kv=>decide (kv.1=k))=(Of kvs k).isSome
 |[]=>rfl
 |p::r=>by
  rw[yV];by_cases e:p.1=k
  ·simp only[MC e,decide_eq_true e,Bool.true_or,Option.isSome_some]
  ·rw[MD e,decide_eq_false e,Bool.false_or];exact RT k r
def Ey (kvs:List (κ×V))(k:κ)(v:V):(putK kvs k v).length<=kvs.length+1:=by
 unfold putK;split
 ·rw[zc];omega
 ·rw[zB,zk,List.length_nil];omega
def G5.EU {o:Option V}{u:Option Value}(r:G5 o u):o.isSome=u.isSome:=by
 cases o with
 |none=>cases u with
  |none=>rfl
  |some _=>exact (show False from r).elim
 |some _=>cases u with
  |none=>exact (show False from r).elim
  |some _=>rfl
def G5.getD {o:Option V}{u:Option Value}{d:V}{d':Value}(r:G5 o u)(rd:RelV d d'):RelV (o.getD d) (u.getD d'):=by
 cases o with
 |none=>cases u with
  |none=>exact rd
  |some _=>exact (show False from r).elim
 |some _=>cases u with
  |none=>exact (show False from r).elim
  |some _=>exact r
def KV.val {kvs:List (κ×V)}{vs:List (κ×Value)}(r:KV kvs vs)(k:κ):G5 (Of kvs k) (valueAt vs k):=by
 unfold KV at r;induction r with
 |nil=>exact zan
 | @cons p q ps qs h t ih =>
  obtain⟨h1,h2⟩:=h;by_cases e:p.1=k
  ·have e':q.1=k:=h1.symm.trans e;have b:valueAt (q::qs) k=some q.2:=by simp[valueAt,zat,e']
   rw[MC e,b];exact h2
  ·have e':¬ q.1=k:=λ z=>e (h1.trans z);have b:valueAt (q::qs) k=valueAt qs k:=by simp[valueAt,zat,e']
   rw[MD e,b];exact ih
def KV.any {kvs:List (κ×V)}{vs:List (κ×Value)}(r:KV kvs vs)(k:κ):(kvs.any λ kv=>decide (kv.1=k))=vs.any λ kv=>decide (kv.1=k):=by
 unfold KV at r;induction r with
 |nil=>rfl
 |cons h t ih=>rw[yV,yV,ih,h.1]
def KV.mT {kvs:List (κ×V)}{vs:List (κ×Value)}(r:KV kvs vs)(k:κ){y:V}{u:Value}(ry:RelV y u):
 KV (kvs.map λ kv=>if kv.1=k then (kv.1,y) else kv) (vs.map λ kv=>if kv.1=k then (kv.1,u) else kv):=by
 unfold KV at r ⊢;induction r with
 |nil=>exact .nil
 | @cons p q ps qs h t ih =>
  rw[zf,zf];refine .cons ?_ ih;obtain⟨h1,h2⟩:=h;by_cases e:p.1=k
  ·rw[if_pos e,if_pos (h1.symm.trans e)];exact⟨h1,ry⟩
  ·rw[if_neg e,if_neg (λ z=>e (h1.trans z))];exact⟨h1,h2⟩
def KV.put {kvs:List (κ×V)}{vs:List (κ×Value)}(r:KV kvs vs)(k:κ){y:V}{u:Value}(ry:RelV y u):KV (putK kvs k y) (stored vs k u):=by
 unfold putK stored;rw[r.any k];by_cases e:(vs.any λ kv=>decide (kv.1=k))=true
 ·rw[if_pos e,if_pos e];exact r.mT k ry
 ·rw[if_neg e,if_neg e];exact Paired.snoc r ⟨rfl,ry⟩
def KV.length {kvs:List (κ×V)}{vs:List (κ×Value)}(r:KV kvs vs):kvs.length=vs.length:=Paired.length r
end
def ME {P:Program}{w:World}{k:Key}{u:Value}(r:RelV (kV k) u):(B8 P w).is k u=true:=by
 cases k with
 |inl i=>obtain⟨t,e⟩:=(show ∃t,u=Value.int i t from r);subst e;exact RC P w i t
 |inr x=>obtain⟨t,e⟩:=(show ∃t,u=Value.str x t from r);subst e;exact RD P w x t
def OS {P:Program}{w:World}:∀ {ks:List Key}{us:List Value},Vals (ks.map kV) us->ItemsAre (B8 P w) ks us
 |[],_,r=>by rw[zai] at r;cases r;exact .nil
 |k::ks,_,r=>by
  rw[zf] at r;cases r with
  |cons h t=>exact .cons (ME h) (OS t)
noncomputable abbrev KT (H:Hp):List (List Key×V)->List (List Key×Addr×Value)->Prop:=Paired λ p q=>p.1=q.1/\H q.2.1=some (.tup (p.1.map kV))/\RelV p.2 q.2.2
def KT.val {H:Hp}{kvs:List (List Key×V)}{xs:List (List Key×Addr×Value)}(r:KT H kvs xs)(k:List Key):G5 (Of kvs k) ((atKey xs k).map (·.2)):=by
 induction r with
 |nil=>exact zan
 | @cons p q ps qs h t ih =>
  obtain⟨h1,_,h2⟩:=h;by_cases e:p.1=k
  ·have e':q.1=k:=h1.symm.trans e;have b:atKey (q::qs) k=some q.2:=by simp[atKey,zat,e']
   rw[MC e,b];exact h2
  ·have e':¬ q.1=k:=λ z=>e (h1.trans z);have b:atKey (q::qs) k=atKey qs k:=by simp[atKey,zat,e']
   rw[MD e,b];exact ih
def KT.mT {H:Hp}{kvs:List (List Key×V)}{xs:List (List Key×Addr×Value)}(r:KT H kvs xs)(k:List Key){y:V}{u:Value}(ry:RelV y u):
 KT H (kvs.map λ kv=>if kv.1=k then (kv.1,y) else kv) (xs.map (putAt k u)):=by
 induction r with
 |nil=>exact .nil
 | @cons p q ps qs h t ih =>
  rw[zf,zf];refine .cons ?_ ih;obtain⟨h1,h2,h3⟩:=h;unfold putAt;by_cases e:p.1=k
  ·rw[if_pos e,if_pos (h1.symm.trans e)];exact⟨h1,h2,ry⟩
  ·rw[if_neg e,if_neg (λ z=>e (h1.trans z))];exact⟨h1,h2,h3⟩
def KT.put {H:Hp}{kvs:List (List Key×V)}{xs:List (List Key×Addr×Value)}(r:KT H kvs xs)(k:List Key){b:Addr}{y:V}{u:Value}(hb:H b=some (.tup (k.map kV)))(ry:RelV y u):
 KT H (putK kvs k y) (storedH xs k b u):=by
 have e:(kvs.any λ kv=>decide (kv.1=k))=(atKey xs k).isSome:=by
  rw[RT,(r.val k).EU,Option.isSome_map]
 unfold putK storedH;rw[e];by_cases q:(atKey xs k).isSome=true
 ·rw[if_pos q,if_pos q];exact r.mT k ry
 ·rw[if_neg q,if_neg q];exact Paired.snoc r ⟨rfl,hb,ry⟩
def KT.keeps {H H':Hp}{kvs:List (List Key×V)}{xs:List (List Key×Addr×Value)}(r:KT H kvs xs)(ht:∀b ys,H b=some (.tup ys)->H' b=some (.tup ys)):KT H' kvs xs:=
 Paired.lH r λ _ _ z=>⟨z.1,ht _ _ z.2.1,z.2.2⟩
section
variable {P:Program}{w:World}{H:Hp}{h:Heap}{a:Addr}
def kC {u:HO}(ok:Ga P w H h)(e:Rd H a u):BW P w H h a u:=e.ok ok
def MF {kvs:List (Key×V)}(ok:Ga P w H h)(e:Rd H a (.dK kvs)):kvs.length<=sizeLine/\(a==sysModules)=false/\∃vs,KV kvs vs/\h.DictOf (B8 P w) a vs:=
 show BW P w H h a (.dK kvs) from kC ok e
def kD {kvs:List (Key×V)}(ok:Ga P w H h)(e:H a=some (.dK kvs)):kvs.length<=sizeLine/\(a==sysModules)=false/\∃vs,KV kvs vs/\h.DictOf (B8 P w) a vs:=MF ok (.inl e)
def Iy {ks:List Key}(ok:Ga P w H h)(e:H a=some (.tup (ks.map kV))):(tupleKind (B8 P w)).is h ks a:=by
 obtain⟨_,aa,r,o,h1,h2,n,h3⟩:=(show BW P w H h a (.tup (ks.map kV)) from ok a _ e);exact⟨o,aa.toArray,n,h1,h2,h3,by simpa using OS r⟩
def MG {kvs:List (List Key×V)}(ok:Ga P w H h)(e:Rd H a (.dT kvs)):kvs.length<=sizeLine/\(a==sysModules)=false/\
 ∃xs,KT H kvs xs/\h.DictOfH (tupleKind (B8 P w)) a xs:=by
 obtain⟨z,y,xs,r,o,es,ep,h1,h2,h3,h4,h5⟩:=(show BW P w H h a (.dT kvs) from kC ok e);refine⟨z,y,xs,r,o,es,ep,h1,h2,h3,h4,λ x hx=>?_,h5⟩;have all:∀ {l:List (List Key×V)} {m:List (List Key×Addr×Value)},KT H l m->∀x∈m,(tupleKind (B8 P w)).is h x.1 x.2.1:=by
  intro l m q;induction q with
  |nil=>intro x hx;exact nomatch hx
  | @cons p q ps qs hq t ih =>
   intro x hx;rcases zq.mp hx with e|hx
   ·subst e;exact Iy ok (by rw[<-hq.1];exact hq.2.1)
   ·exact ih x hx
 exact all r x hx
def rN {kvs:List (List Key×V)}(ok:Ga P w H h)(e:H a=some (.dT kvs)):kvs.length<=sizeLine/\(a==sysModules)=false/\
 ∃xs,KT H kvs xs/\h.DictOfH (tupleKind (B8 P w)) a xs:=MG ok (.inl e)
end
abbrev Qf (H:Hp)(a:Addr)(y:V)(r:Option V):Prop:=
 (∃kvs k,Rd H a (.dK kvs)/\y=kV k/\r=Of kvs k)\/∃kvs k b,Rd H a (.dT kvs)/\y=.ref b/\H b=some (.tup (k.map kV))/\r=Of kvs k
abbrev rO (H:Hp)(a:Addr)(y v:V)(H':Hp):Prop:=
 (∃kvs k,H a=some (.dK kvs)/\y=kV k/\kvs.length<sizeLine/\H'=upd H a (.dK (putK kvs k v))) \/
 ∃kvs k b,H a=some (.dT kvs)/\y=.ref b/\H b=some (.tup (k.map kV))/\kvs.length<sizeLine/\H'=upd H a (.dT (putK kvs k v))
section
variable {X:Cx}{pins:List (Addr×Obj)}{σ:St}{H:Hp}{s:Shared}{a:Addr}{y v:V}{u r:Value}{o:Option V}{A:Around}{E:Value->Shared->Prop}
def Inv.big (I:Inv X pins σ H s):sysModules<s.heap.objs.size:=by
 have h:mainGlobals<s.heap.objs.size:=(I.mod.glob.keeps I.bk).lt;exact Nat.lt_trans (by decide) h
def WA {Q:Value->Shared->Prop}(hu:A.units+1<cLine)(I:Inv X pins σ H s)(g:Qf H a y (some v))(ry:RelV y u)(h:∀w' s',Inv X pins σ H s'->RelV v w'->Q w' s'):
 wpAny (model X.prog X.w) A (getItem (.ref a) u) Q E s:=by
 rcases g with ⟨kvs,k,e,ey,l⟩|⟨kvs,k,b,e,ey,eb,l⟩
 ·subst ey;obtain⟨z,hd,vs,rel,dd⟩:=MF I.Au e;obtain⟨w',hw,bc⟩:=G5.some_of (v:=v) (o:=valueAt vs k) (by rw[l];exact rel.val k);exact wpAny_getItem_of (ME ry) dd.mapOf hw (h w' _ (I.tok _) bc)
 ·subst ey;cases (show u=yG b from ry);obtain⟨z,hd,xs,rel,dd⟩:=MG I.Au e;obtain⟨w',hw,bc⟩:=G5.some_of (v:=v) (o:=(atKey xs k).map (·.2)) (by rw[l];exact rel.val k);obtain⟨p,hp,ue⟩:=zaj.mp hw;refine wpAny_getItem_heap (tupleKind_room_in1 hu) (Iy I.Au eb) dd hp ?_;rw[ue];exact h w' _ (I.tok _) bc
def vV {Q:Value->Shared->Prop}(hu:A.units+1<cLine)(I:Inv X pins σ H s)(g:Qf H a y o)(ry:RelV y u)(h:∀s',Inv X pins σ H s'->Q (.bool o.isSome) s'):
 wpAny (model X.prog X.w) A (compareOp .In u (.ref a)) Q E s:=by
 rcases g with ⟨kvs,k,e,ey,l⟩|⟨kvs,k,b,e,ey,eb,l⟩
 ·subst ey;obtain⟨z,hd,vs,rel,dd⟩:=MF I.Au e;refine wpAny_in_of (ME ry) hd dd.mapOf ?_;rw[<-(rel.val k).EU,<-l];exact h _ (I.tok _)
 ·subst ey;cases (show u=yG b from ry);obtain⟨z,hd,xs,rel,dd⟩:=MG I.Au e;refine wpAny_in_heap (tupleKind_room_in1 hu) (Iy I.Au eb) hd dd ?_;have q:=(rel.val k).EU;rw[Option.isSome_map] at q;rw[<-q,<-l];exact h _ (I.tok _)
def fB {Q:Value->Shared->Prop}(hu:A.units+1<cLine)(I:Inv X pins σ H s)(g:Qf H a y o)(ry:RelV y u)(h:∀s',Inv X pins σ H s'->Q (.bool (!o.isSome)) s'):
 wpAny (model X.prog X.w) A (compareOp .NotIn u (.ref a)) Q E s:=by
 rcases g with ⟨kvs,k,e,ey,l⟩|⟨kvs,k,b,e,ey,eb,l⟩
 ·subst ey;obtain⟨z,hd,vs,rel,dd⟩:=MF I.Au e;refine wpAny_notIn_of (ME ry) hd dd.mapOf ?_;rw[<-(rel.val k).EU,<-l];exact h _ (I.tok _)
 ·subst ey;cases (show u=yG b from ry);obtain⟨z,hd,xs,rel,dd⟩:=MG I.Au e;refine wpAny_notIn_heap (tupleKind_room_in1 hu) (Iy I.Au eb) hd dd ?_;have q:=(rel.val k).EU;rw[Option.isSome_map] at q;rw[<-q,<-l];exact h _ (I.tok _)
def Qg {h':Heap}{t':Nat}{ob:HO}(I:Inv X pins σ H s)(mu:qI (H a))(hs:Heap.SameBut a s.heap h')(he:∃q,h'.get? a=some q)(new:BW X.prog X.w (upd H a ob) h' a ob):
 Inv X pins σ (upd H a ob) {s with heap:=h',toks:=t' }:=
 I.write (x:=a) (e:=a) mu (.inl rfl) (λ b q hb z=>(hs.2 b hb).trans z) he new
def Yv {P:Program}{w:World}{H':Hp}{h':Heap}{kvs:List (Key×V)}{vs:List (Key×Value)}(z:kvs.length<=sizeLine)(hd:(a==sysModules)=false)(rel:KV kvs vs)(dd:h'.DictOf (B8 P w) a vs):
 BW P w H' h' a (.dK kvs):=⟨z,hd,vs,rel,dd⟩
def WB {H':Hp}{Q:Unit->Shared->Prop}(hu:A.units+1<cLine)(I:Inv X pins σ H s)(g:rO H a y v H')(ry:RelV y u)(rv:RelV v r)(h:∀s',Inv X pins σ H' s'->Q () s'):
 wpAny (model X.prog X.w) A (setItem (.ref a) u r) Q E s:=by
 rcases g with ⟨kvs,k,e,ey,l,eH⟩|⟨kvs,k,b,e,ey,eb,l,eH⟩
 ·subst ey eH;obtain⟨z,hd,vs,rel,dd⟩:=kD I.Au e;have hz:vs.length<=sizeLine:=by rw[<-rel.length];exact z
  have hl:(putK kvs k v).length<=sizeLine:=by have:=Ey kvs k v;omega
  refine wpAny_setItem_pairs (hsz:=hz) (ME ry) dd λ h' e7 hs=>h _ ?_;have he:∃q,h'.get? a=some q:=let ⟨q,_,_,hq,_⟩:=e7;⟨q,hq⟩;exact Qg I (by rw[e];exact zan) hs he (Yv hl hd (rel.put k rv) e7)
 ·subst ey eH;cases (show u=yG b from ry);obtain⟨z,hd,xs,rel,dd⟩:=rN I.Au e;have hz:xs.length<=sizeLine:=by rw[<-Paired.length rel];exact z
  have hl:(putK kvs k v).length<=sizeLine:=by have:=Ey kvs k v;omega
  refine wpAny_setItem_heap (hsz:=hz) (tupleKind_room_in1 hu) (Iy I.Au eb) dd λ h' e7 hs=>h _ ?_;obtain⟨q,es,ep,hq,h2,h3,h4,_,h5⟩:=e7;refine Qg I (by rw[e];exact zan) hs ⟨q,hq⟩ ⟨hl,hd,_,(rel.put k eb rv).keeps λ c ys ec=>?_,q,es,ep,hq,h2,h3,h4,h5⟩;rw[Ai (qH ec e (λ z=>nomatch z))];exact ec
end
def RU {X:Cx}{pins:List (Addr×Obj)}{σ:St}{H:Hp}{s:Shared}{a:Addr}{y:V}{o:Option V}(I:Inv X pins σ H s)(g:Qf H a y o):s.TypeIs (.ref a) "dict" := by
 rcases g with ⟨kvs,k,e,_,_⟩|⟨kvs,k,b,e,_,_,_⟩
 ·obtain⟨_,_,vs,_,dd⟩:=MF I.Au e;exact dd.typeIs
 ·obtain⟨_,_,xs,_,dd⟩:=MG I.Au e;exact dd.typeIs
abbrev rQ (td ty tv:TE):TS:=λ D σ H=>tv σ H λ v H1=>td σ H1 λ x H2=>ty σ H2 λ y H3=>∃a H4,x=.ref a/\rO H3 a y v H4/\D.nx σ H4
section
variable {X:Cx}{o i e value:Expr}{pos pos' bq:Pos}{td ty tv:TE}
def fC (hu:X.A.units+1<cLine)(ho:PE X o td)(hi:PE X i ty)(hv:PE X value tv)(hs:swapsWith value (some (.Subscript o i pos')) pos.line X.env=pure false):
 PS X (.Assign [.Subscript o i pos'] value pos) (rQ td ty tv):=by
 intro pins s σ H D I h;refine wpAny_Assign_Subscript (Bi (hv pins s σ H _ I h) λ r s1 ⟨v,H1,I1,rv,q1⟩=>Bi (ho pins s1 σ H1 _ I1 q1) λ u s2 ⟨x,H2,I2,rx,q2⟩=>Bi (hi pins s2 σ H2 _ I2 q2) λ iv s3 zz=>?_) hs;obtain⟨y,H3,I3,ry,a,H4,ex,g,q3⟩:=zz;subst ex;obtain rfl:u=yG a:=rx;exact WB hu I3 g ry rv λ s4 I4=>⟨σ,H4,I4,q3⟩
end
def RV {P:Program}{w:World}{H:Hp}(h:Heap)(hb:sysModules<h.objs.size):BW P w H (h.push {cls:=.type "dict",data:=.dict #[]}) h.objs.size (.dK []):=
 ⟨zM _,beq_eq_false_iff_ne.mpr (zY (zD hb)),[],.nil,Heap.DictOf.new h⟩
def Yw {P:Program}{w:World}{H:Hp}(h:Heap)(hb:sysModules<h.objs.size):BW P w H (h.push {cls:=.type "dict",data:=.dict #[]}) h.objs.size (.dT []):=
 ⟨zM _,beq_eq_false_iff_ne.mpr (zY (zD hb)),[],.nil,_,#[],0,z9 _ rfl,⟨rfl,rfl,rfl⟩,rfl,rfl,yS⟩
abbrev mU:TE:=λ _ H Q=>∀p,H p=none->Q (.ref p) (upd H p (.dK []))
abbrev mV:TE:=λ _ H Q=>∀p,H p=none->Q (.ref p) (upd H p (.dT []))
section
variable {X:Cx}{pos:Pos}
def Yx:PE X (.Dict [] [] pos) mU:=λ pins s σ H Q I h =>
 wpAny_Dict_empty ⟨.ref s.heap.objs.size,_,I.laid (a:=s.heap.objs.size) (o:=.dK []) (t':=s.toks) (λ _ _ q=>zp _ q) (zv _) (RV s.heap I.big),rfl,h _ (I.Au.fresh (zv _))⟩
def Yy:PE X (.Dict [] [] pos) mV:=λ pins s σ H Q I h =>
 wpAny_Dict_empty ⟨.ref s.heap.objs.size,_,I.laid (a:=s.heap.objs.size) (o:=.dT []) (t':=s.toks) (λ _ _ q=>zp _ q) (zv _) (Yw s.heap I.big),rfl,h _ (I.Au.fresh (zv _))⟩
end
abbrev U8:List (TE×TE)->St->Hp->(List (V×V)->Hp->Prop)->Prop
 |[],_,H,Q=>Q [] H
 |(tk,tv)::r,σ,H,Q=>tk σ H λ x H1=>tv σ H1 λ y H2=>U8 r σ H2 λ ps H3=>Q ((x,y)::ps) H3
noncomputable abbrev VV:List (V×V)->List (Value×Value)->Prop:=Paired λ p q=>RelV p.1 q.1/\RelV p.2 q.2
abbrev uA (X:Cx)(pos:Pos)(keys:List (Option Expr))(values:List Expr)(cn:List (TE×TE)):Prop:=
 ∀(pins:List (Addr×Obj)) (s:Shared) (σ:St) (H:Hp) (Q:List (V×V)->Hp->Prop),Inv X pins σ H s->U8 cn σ H Q->
  wpAny (model X.prog X.w) X.A (evalPairs (pairTrees keys values X.env pos)) (λ vs s'=>∃ps H',Inv X pins σ H' s'/\VV ps vs/\Q ps H') X.xe s
def fD {X:Cx}{pos:Pos}:uA X pos [] [] []:=λ pins s σ H Q I h=>pairTrees_nil_walk ⟨[],H,I,.nil,h⟩
def Yz {X:Cx}{pos:Pos}{k v:Expr}{ks:List (Option Expr)}{vs:List Expr}{tk tv:TE}{cn:List (TE×TE)}(hk:PE X k tk)(hv:PE X v tv)(hr:uA X pos ks vs cn):
 uA X pos (some k::ks) (v::vs) ((tk,tv)::cn):=λ pins s σ H Q I h =>
 pairTrees_cons_walk (Bi (hk pins s σ H _ I h) λ u s1 ⟨x,H1,I1,rx,q1⟩=>Bi (hv pins s1 σ H1 _ I1 q1) λ w2 s2 ⟨y,H2,I2,ry,q2⟩ =>
  Bi (hr pins s2 σ H2 _ I2 q2) λ ws s3 ⟨ps,H3,I3,rel,q3⟩=>⟨(x,y)::ps,H3,I3,.cons ⟨rx,ry⟩ rel,q3⟩)
abbrev Gj (kvs more:List (Key×V)):List (Key×V):=more.foldl (λ acc kv=>putK acc kv.1 kv.2) kvs
def KV.merge:∀ {more:List (Key×V)}{rs:List (Key×Value)}{kvs:List (Key×V)}{vs:List (Key×Value)},KV more rs->KV kvs vs->KV (Gj kvs more) (merged vs rs):=by
 intro more rs kvs vs r;unfold KV at r;induction r generalizing kvs vs with
 |nil=>intro q;exact q
 | @cons p q ps qs h t ih =>
  intro r0;have e:KV (putK kvs p.1 p.2) (stored vs q.1 q.2):=by
   have:=r0.put p.1 h.2;rw[<-h.1];exact this
  exact ih e
def I0:∀(more kvs:List (Key×V)),(Gj kvs more).length<=kvs.length+more.length
 |[],kvs=>by show kvs.length<=kvs.length+0;omega
 |p::r,kvs=>by
  have h1:=I0 r (putK kvs p.1 p.2);have h2:=Ey kvs p.1 p.2;show (Gj (putK kvs p.1 p.2) r).length<=_;rw[zk];omega
def MH {P:Program}{w:World}:∀ {kvs:List (Key×V)}{ws:List (Value×Value)},VV (kvs.map λ kv=>(kV kv.1,kv.2)) ws->∃rs,Carries (B8 P w) ws rs/\KV kvs rs
 |[],_,r=>by rw[zai] at r;cases r;exact⟨[],zan,.nil⟩
 |p::kvs,_,r=>by
  rw[zf] at r;cases r with
  | @cons a b as bs h t =>
   obtain⟨rs,c,q⟩:=MH (P:=P) (w:=w) t;obtain⟨b1,b2⟩:=b;exact⟨(p.1,b2)::rs,⟨ME h.1,rfl,c⟩,.cons ⟨rfl,h.2⟩ q⟩
abbrev rR (cn:List (TE×TE)):TE:=λ σ H Q=>∀p,H p=none->U8 cn σ (upd H p (.dK [])) λ ps H2=>H2 p=some (.dK [])/\∃kvs:List (Key×V),ps=kvs.map (λ kv=>(kV kv.1,kv.2))/\kvs.length<=15/\Q (.ref p) (upd H2 p (.dK (Gj [] kvs)))
def fE {X:Cx}{pos:Pos}{keys:List (Option Expr)}{values:List Expr}{cn:List (TE×TE)}(h:uA X pos keys values cn)(a8:keys.all (·.isSome)=true)(hl:keys.length=values.length)(h0:keys≠[])
 (uf:keys.length<=15):PE X (.Dict keys values pos) (rR cn):=by
 intro pins s σ H Q I q;have hn:=I.Au.fresh (zv s.heap.objs.size);have I1:=I.laid (a:=s.heap.objs.size) (o:=.dK []) (h':=s.heap.push {cls:=.type "dict",data:=.dict #[]}) (t':=s.toks) (λ _ _ q=>zp _ q) (zv _) (RV s.heap I.big);refine wpAny_Dict_walk (knd:=B8 X.prog X.w) a8 hl h0 uf (Bi (h pins _ σ _ _ I1 (q _ hn)) λ ws s2 zz=>?_);obtain⟨ps,H2,I2,rel,e,kvs,ep,lk,q2⟩:=zz;subst ep;obtain⟨rs,c,rk⟩:=MH (P:=X.prog) (w:=X.w) rel;obtain⟨z,hd,qo,r0,dd⟩:=kD I2.Au e;cases r0;refine⟨rs,c,dd,λ h' e7 hs=>⟨.ref s.heap.objs.size,_,?_,rfl,q2⟩⟩;have hz:(Gj [] kvs).length<=sizeLine:=by
  have h1:=I0 kvs [];rw[List.length_nil] at h1;rw[sizeLine_eq];omega
 have he:∃q,h'.get? s.heap.objs.size=some q:=let ⟨q,_,_,hq,_⟩:=e7;⟨q,hq⟩;exact Qg I2 (by rw[e];exact zan) hs he (Yv hz hd (rk.merge .nil) e7)
structure M1 (X:Cx)(o:Expr)(m:Str)(apos:Pos)(e:Expr)(ad:Pos):Prop where
 base:attributeBase o m X.env (eval o X.env)=eval o X.env
 xX:((backTo ad (starEach [e] X.env)).all (λ x => !x.1)&&(backToKw ad (keywordEach [] X.env)).all (λ x=>x.1.isSome)
  && decide (([e]:List Expr).length+([]:List Keyword).length+(if ([]:List Keyword).isEmpty then 0 else 1)<30))=true
 line:(apos.endLine==ad.line)=true
 rS:backTo ad (starEach [e] X.env)=[(false,eval e X.env)]
abbrev vW (H:Hp)(a:Addr):Prop:=(∃kvs,Rd H a (.dK kvs))\/∃kvs,Rd H a (.dT kvs)
def U9 {X:Cx}{pins:List (Addr×Obj)}{σ:St}{H:Hp}{s:Shared}{a:Addr}(I:Inv X pins σ H s)(d:vW H a):
 s.TypeIs (.ref a) "dict" /\ (∀b,yG a=.ref b->∃ob,s.heap.get? b=some ob/\ob.dict=none)/\(a==sysModules)=false:=by
 rcases d with ⟨kvs,e⟩|⟨kvs,e⟩
 ·obtain⟨_,hd,vs,_,dd⟩:=MF I.Au e;refine⟨dd.typeIs,λ b q=>?_,hd⟩;cases q;obtain⟨ob,_,_,h1,h2,_⟩:=dd;exact⟨ob,h1,h2.2.1⟩
 ·obtain⟨_,hd,xs,_,dd⟩:=MG I.Au e;refine⟨dd.typeIs,λ b q=>?_,hd⟩;cases q;obtain⟨ob,_,_,h1,h2,_⟩:=dd;exact⟨ob,h1,h2.2.1⟩
section
variable {X:Cx}{pins:List (Addr×Obj)}{σ:St}{H:Hp}{s:Shared}{a:Addr}{y d:V}{u r:Value}{o:Option V}{A:Around}{E:Value->Shared->Prop}
def mW {Q:Value->Shared->Prop}(hu:A.units+1<cLine)(I:Inv X pins σ H s)(g:Qf H a y o)(ry:RelV y u)(h:∀w' s',Inv X pins σ H s'->RelV (o.getD .AK) w'->Q w' s'):
 wpAny (model X.prog X.w) A (call (.builtin "dict.get") [.ref a,u]) Q E s:=by
 rcases g with ⟨kvs,k,e,ey,l⟩|⟨kvs,k,b,e,ey,eb,l⟩
 ·subst ey;obtain⟨z,hd,vs,rel,dd⟩:=MF I.Au e;refine call_meetsIn PySem.F.slot_dict_get dd.typeIs PySem.F.entry_dict_get (PySem.F.args_dict_get_2 _ _) (meets_dict_get (B8 X.prog X.w) a (ME ry) hd) ⟨_,dd.mapOf,h _ _ (I.tok _) ?_⟩;rw[l];exact (rel.val k).getD rfl
 ·subst ey;cases (show u=yG b from ry);obtain⟨z,hd,xs,rel,dd⟩:=MG I.Au e;refine call_meetsIn PySem.F.slot_dict_get dd.typeIs PySem.F.entry_dict_get (PySem.F.args_dict_get_2 _ _) (meetsH_dict_get (tupleKind (B8 X.prog X.w)) a b hd) ⟨tupleKind_room_in1 hu,k,xs,Iy I.Au eb,dd,h _ _ (I.tok _) ?_⟩;rw[l];exact (rel.val k).getD rfl
end
abbrev mX (td ty:TE):TE:=λ σ H Q=>td σ H λ x H1=>∃a,x=.ref a/\vW H1 a/\ty σ H1 λ y H2=>∃o,Qf H2 a y o/\Q (o.getD .AK) H2
section
variable {X:Cx}{o e f:Expr}{apos ad:Pos}{td ty tx:TE}
def YA (hu:X.A.units+1<cLine)(ho:PE X o td)(he:PE X e ty)(m:M1 X o "get" apos e ad):PE X (.Call (.Attribute o "get" apos) [e] [] ad) (mX td ty):=by
 intro pins s σ H Q I h;refine wpAny_Call_method m.base m.xX m.line PySem.F.plainAttrs_dict PySem.F.slot_dict_get PySem.F.type_dict_get (Bi (ho pins s σ H _ I h) λ u s1 zz=>?_);obtain⟨x,H1,I1,rx,a,ex,d,q1⟩:=zz;subst ex;obtain rfl:u=yG a:=rx;obtain⟨t1,t2,_⟩:=U9 I1 d;refine⟨t1,t2,?_⟩;rw[m.rS];refine Calls.callWith_builtin rfl (Calls.evalArgs_plain (zaq (Bi (he pins s1 σ H1 _ I1 q1) λ iv s2 ⟨y,H2,I2,ry,ov,g,q2⟩=>zau ?_)));exact mW hu I2 g ry λ w' s3 I3 bc=>⟨_,H2,I3,bc,q2⟩
end
abbrev Ve (y:Str×NameKind):Bool:=y.2==.cell
abbrev Gk (sc outer:Scope):Bool:=
 decide (sc.kind=.function)&&(decide ((sc.names.filter Ve).length<=1)&&sc.names.all λ y=>(decide (y.2≠.cell)||decide (sc.names.lookup y.1=some .cell))&&(decide (y.2≠.free)||decide (outer.names.lookup y.1=some .cell)||decide (outer.names.lookup y.1=some .free))&&(decide (y.2≠.local)||decide (sc.names.lookup y.1=some .local)))
abbrev Gm (names:List (Str×NameKind)):Option Str:=(names.find? Ve).map (·.1)
abbrev Vf (C:Addr)(names:List (Str×NameKind))(cs:List (Str×Addr)):List (Str×Addr):=match Gm names with
 |some x=>(x,C+1)::cs
 |none=>cs
def RW {names:List (Str×NameKind)}{x:Str}(h:Gm names=some x):(x,.cell)∈names:=by
 unfold Gm at h;obtain⟨y,h1,rfl⟩:=zaj.mp h;have h2:=List.find?_some h1;have e:y.2=.cell:=by unfold Ve at h2;simpa using h2
 have:=List.mem_of_find?_eq_some h1;rw[<-e];exact this
def mY {names:List (Str×NameKind)}(h:(names.filter Ve).length<=1){x:Str}(hx:(x,.cell)∈names):Gm names=some x:=by
 induction names with
 |nil=>cases hx
 |cons y r ih =>
  unfold Gm;cases e:Ve y with
  |true =>
   rw[List.filter_cons_of_pos e,zk] at h;rw[List.find?_cons_of_pos e];rcases zq.mp hx with rfl|hx
   ·rfl
   ·have:(x,NameKind.cell)∈r.filter Ve:=yH.mpr ⟨hx,rfl⟩;rw[List.eq_nil_of_length_eq_zero (l:=r.filter Ve) (by omega)] at this;cases this
  |false =>
   rw[List.filter_cons_of_neg (by rw[e];exact z4)] at h;rw[List.find?_cons_of_neg (by rw[e];exact z4)];rcases zq.mp hx with rfl|hx
   ·cases e
   ·exact ih h hx
def Ua:∀ {names:List (Str×NameKind)}{n:Nat}{acc:List (Str×Addr)},(names.filter Ve).length<=1->cellsFrom n names acc=match Gm names with | some x=>(x,n)::acc | none=>acc
 |[],_,_,_=>rfl
 |(x,k)::r,n,acc,h=>by
  unfold cellsFrom Gm;cases e:Ve (x,k) with
  |true =>
   rw[List.filter_cons_of_pos e,zk] at h;rw[List.find?_cons_of_pos e,if_pos (show (k==NameKind.cell)=true from e),Ua (by omega)];cases q:Gm r with
   |none=>rfl
   |some y =>
    have:(y,NameKind.cell)∈r.filter Ve:=yH.mpr ⟨RW q,rfl⟩;rw[List.eq_nil_of_length_eq_zero (l:=r.filter Ve) (by omega)] at this;cases this
  |false =>
   have e':¬ Ve (x,k)=true:=by rw[e];exact z4
   rw[List.filter_cons_of_neg e'] at h;rw[List.find?_cons_of_neg e',if_neg (show ¬ (k==NameKind.cell)=true from e'),Ua h];rfl
abbrev Qh (N NB:List Str)(sc:Scope)(μ:List (Option Nat)):Bool:=
 decide (NB.length=μ.length)&&(NB.zip μ).all λ p=>match p.2 with
  |none=>true
  |some i=>decide (N[i]?=some p.1)&&decide (sc.names.lookup p.1=some .free)
abbrev EH (μ:List (Option Nat))(σ:St):St:=μ.map λ o=>o.bind λ i=>(σ[i]?).join
abbrev Fg (cells:List (Str×Addr)):List (Str×NameKind)->List (Str×Addr)->List (Str×Addr)
 |[],cs=>cs
 |(n,k)::r,cs=>Fg cells r (if (k==.free)=true then (n,(cells.lookup n).getD 0)::cs else cs)
def I9 {scope:Scope}{env:Env}(h:∀y∈scope.names,y.2=.free->∃c,env.cells.lookup y.1=some c):closureFor scope env=pure (Fg env.cells scope.names []):=by
 unfold closureFor;have key:∀(names:List (Str×NameKind)) (cs:List (Str×Addr)),(∀y∈names,y.2=.free->∃c,env.cells.lookup y.1=some c)->
  (forIn names cs λ(x:Str×NameKind) r=>match x with
   |(name,kind)=>if (kind==zar)=true then do
    let __do_lift <-cellOf env name
    pure (zb4 ((name,__do_lift)::r))
    else pure (zb4 r):Sem _)=pure (Fg env.cells names cs):=by
  intro names;induction names with
  |nil=>intro cs _;rfl
  |cons y r ih =>
   intro cs hy;obtain⟨n,k⟩:=y;rw[List.forIn_cons];by_cases hk:k=.free
   ·subst hk;obtain⟨c,hc⟩:=hy (n,.free) zd rfl;have e:cellOf env n=pure c:=by unfold cellOf;rw[show env.cells.lookup n=some c from hc]
    simp only[e,beq_self_eq_true,if_true,pure_bind];rw[ih _ λ z hz=>hy z (ze _ hz)];simp only[Fg,beq_self_eq_true,if_true];rw[show env.cells.lookup n=some c from hc];rfl
   ·have hb:(k==zar)=false:=by simpa using hk
    simp only[hb,zC,if_false,pure_bind];rw[ih _ λ z hz=>hy z (ze _ hz)];simp only[Fg,hb,zC,if_false]
 have q:=key scope.names [] h;simp only[bind_pure];exact q
def RX {cells:List (Str×Addr)}:∀ {names:List (Str×NameKind)}{cs:List (Str×Addr)}{x:Str}{c:Addr},(x,c)∈Fg cells names cs->(x,c)∈cs\/((x,.free)∈names/\c=(cells.lookup x).getD 0)
 |[],cs,x,c,h=>.inl h
 |(n,k)::r,cs,x,c,h=>by
  rcases RX (names:=r) h with q|⟨q,e⟩
  ·by_cases hk:k=.free
   ·subst hk;simp only[beq_self_eq_true,if_true] at q;rcases zq.mp q with z|z
    ·cases z;exact .inr ⟨zd,rfl⟩
    ·exact .inl z
   ·have hb:(k==zar)=false:=by simpa using hk
    simp only[hb,zC,if_false] at q;exact .inl q
  ·exact .inr ⟨ze _ q,e⟩
def MI {cells:List (Str×Addr)}:∀ {names:List (Str×NameKind)}{cs:List (Str×Addr)}{p:Str×Addr},p∈cs->p∈Fg cells names cs
 |[],_,_,h=>h
 |(n,k)::r,cs,p,h=>by
  show p∈Fg cells r _;refine MI ?_;by_cases hk:(k==zar)=true
  ·rw[if_pos hk];exact ze _ h
  ·rw[if_neg hk];exact h
def MJ {cells:List (Str×Addr)}:∀ {names:List (Str×NameKind)}{cs:List (Str×Addr)}{x:Str},(x,.free)∈names->∃c,(x,c)∈Fg cells names cs
 |(n,k)::r,cs,x,h=>by
  rcases zq.mp h with z|z
  ·cases z;refine⟨(cells.lookup n).getD 0,?_⟩;show _∈Fg cells r (if (zar==zar)=true then _ else _);exact MI (by rw[if_pos (beq_self_eq_true _)];exact zd)
  ·exact MJ (names:=r) z
def Dg {x:Str}{c:Addr}:∀ {l:List (Str×Addr)},(x,c)∈l->∃c',l.lookup x=some c'
 |(y,d)::r,h=>by
  rw[yW];by_cases e:(x==y)=true
  ·rw[e];exact⟨d,rfl⟩
  ·rw[zaw.mpr e];rcases zq.mp h with z|z
   ·cases z;exact absurd (beq_self_eq_true x) e
   ·exact Dg z
def J9 {scope:Scope}{env:Env}{x:Str}{k:NameKind}(h:(relabel scope env).names.lookup x=some k):∃k',scope.names.lookup x=some k'/\(k=k'\/(k'=.free/\k=.cell)):=by
 unfold relabel at h;dsimp only at h;revert h;induction scope.names with
 |nil=>intro h;cases h
 |cons y r ih =>
  obtain⟨n,k'⟩:=y;intro h;rw[zf,yW] at h;rw[yW];by_cases hc:(k'==zar&&env.scope.kind==.function&&env.kindOf n==some .cell)=true
  ·dsimp only at h;rw[if_pos hc] at h;dsimp only at h;cases e:x==n with
   |true =>
    rw[e] at h;have hf:k'=.free:=by
     have:=hc;simp only[zG] at this;simpa using this.1.1
    exact⟨k',rfl,.inr ⟨hf,(z7 h).symm⟩⟩
   |false=>rw[e] at h;exact ih h
  ·dsimp only at h;rw[if_neg hc] at h;dsimp only at h;cases e:x==n with
   |true=>rw[e] at h;exact⟨k',rfl,.inl (z7 h).symm⟩
   |false=>rw[e] at h;exact ih h
def lookup_mem {α:Type}{x:Str}{k:α}:∀ {l:List (Str×α)},l.lookup x=some k->(x,k)∈l
 |(y,d)::r,h=>by
  rw[yW] at h;cases e:x==y with
  |true =>
   rw[e] at h;cases h;have:x=y:=by simpa using e
   subst this;exact zd
  |false=>rw[e] at h;exact ze _ (lookup_mem h)
abbrev blockOf (X:Cx)(s:Shared)(H:Hp)(scope:Scope)(C:Addr)(NB:List Str)(ex:List Addr):Cx:=
 {X with N:=NB,s₀:=s,H₀:=H,env:=compEnvC scope (Vf C scope.names (Fg X.env.cells scope.names [])) C X.env,outer:=X.stack,stack:=X.stack,ex:=ex,fn:=λ y=>Gm scope.names==some y,pn:=[],xe:=λ _ _=>False}
section
variable {X:Cx}{pins:List (Addr×Obj)}{σ:St}{H:Hp}{s s4:Shared}{scope:Scope}{NB:List Str}{μ:List (Option Nat)}{fp:List Addr}{C:Addr}
def KA (h:Gk scope X.env.scope=true):scope.kind=.function:=by
 unfold Gk at h;simp only[zG,decide_eq_true_eq] at h;exact h.1
def RY {sc outer:Scope}(h:Gk sc outer=true):(sc.names.filter Ve).length<=1:=by
 unfold Gk at h;rw[zG,zG,decide_eq_true_eq,decide_eq_true_eq] at h;exact h.2.1
def Ja {sc outer:Scope}(h:Gk sc outer=true){y:Str×NameKind}(hy:y∈sc.names):(y.2=.cell->sc.names.lookup y.1=some .cell)/\(y.2=.free->outer.names.lookup y.1=some .cell\/outer.names.lookup y.1=some .free)/\(y.2=.local->sc.names.lookup y.1=some .local):=by
 unfold Gk at h;simp only[zG,decide_eq_true_eq,List.all_eq_true,Bool.or_eq_true] at h;obtain⟨⟨h1,h2⟩,h3⟩:=h.2.2 y hy;exact⟨λ e=>h1.elim (λ q=>absurd e q) id,λ e=>by
  rcases h2 with (q|q)|q
  ·exact absurd e q
  ·exact .inl q
  ·exact .inr q,λ e=>h3.elim (λ q=>absurd e q) id⟩
def Iz (I:Inv X pins σ H s)(h:Gk scope X.env.scope=true){x:Str}(hx:(x,.free)∈scope.names):∃c,X.env.cells.lookup x=some c:=I.ok.has x ((Ja h hx).2.1 rfl)
def MK (I:Inv X pins σ H s)(h:Gk scope X.env.scope=true){x:Str}{c:Addr}(e:(Fg X.env.cells scope.names []).lookup x=some c):X.env.cells.lookup x=some c:=by
 rcases RX (lookup_mem e) with q|⟨q,r⟩
 ·cases q
 ·obtain⟨c',e'⟩:=Iz I h q;rw[e'] at r;rw[e',r];rfl
def D3 (I:Inv X pins σ H s)(h:Gk scope X.env.scope=true){x:Str}{c:Addr}(e:(Vf C scope.names (Fg X.env.cells scope.names [])).lookup x=some c):(Gm scope.names=some x/\c=C+1)\/X.env.cells.lookup x=some c:=by
 unfold Vf at e;cases q:Gm scope.names with
 |none=>rw[q] at e;exact .inr (MK I h e)
 |some y =>
  rw[q] at e;dsimp only at e;rw[yW] at e;cases b:x==y with
  |true=>rw[b] at e;cases e;exact .inl ⟨by rw[eq_of_beq b],rfl⟩
  |false=>rw[b] at e;exact .inr (MK I h e)
def ML {env:Env}(h:Gk scope env.scope=true){x:Str}{k:NameKind}(hk:(relabel scope env).names.lookup x=some k)(hc:k=.cell\/k=.free):(x,.free)∈scope.names\/Gm scope.names=some x:=by
 obtain⟨k',e,q⟩:=J9 hk;have m:=lookup_mem e;rcases q with q|⟨q,_⟩
 ·subst q;rcases hc with z|z
  ·subst z;exact .inr (mY (RY h) m)
  ·subst z;exact .inl m
 ·subst q;exact .inl m
def fF (h:Qh X.N NB scope μ=true):NB.length=μ.length/\∀(j i:Nat),μ[j]?=some (some i)->∃x,NB[j]?=some x/\X.N[i]?=some x/\scope.names.lookup x=some .free:=by
 unfold Qh at h;simp only[zG,decide_eq_true_eq,List.all_eq_true] at h;refine⟨h.1,λ j i e=>?_⟩;have hj:j<NB.length:=by rw[h.1];exact (zx.mp e).1
 have m:(NB[j],some i)∈NB.zip μ:=by
  refine List.mem_iff_getElem?.mpr ⟨j,?_⟩;rw[List.getElem?_zip_eq_some];exact⟨zh hj,e⟩
 have q:=h.2 _ m;dsimp only at q;simp only[zG,decide_eq_true_eq] at q;exact⟨NB[j],zh hj,q.1,q.2⟩
def RZ (I:Inv X pins σ H s)(a9:Gk scope X.env.scope=true)(bu:Qh X.N NB scope μ=true)(gw:∀b∈fp,LQ X pins H b)(j4:∀b∈fp,∃o,s.heap.get? b=some o)
 (hC:s.heap.objs.size<=C) {h4:Heap} {t4:Nat} (ns:h4.Ns C λ _=>none) (k:∀b o,s.heap.get? b=some o->h4.get? b=some o) (bP:∀x,Gm scope.names=some x->h4.IsCell (C+1) none):
 Inv (blockOf X s H scope C NB fp) [] (EH μ σ) H {s with heap:=h4,toks:=t4}:=by
 obtain⟨hlen,bu⟩:=fF bu;have qr:∀b o,s.heap.get? b=some o->b≠C:=λ b o e=>zD (z3 (zw e) hC);have qt:∀x c,X.env.cells.lookup x=some c->c≠C+1:=λ x c e z=>by
  obtain⟨v,o,ho,_⟩:=I.cell x c e;exact absurd (z3 (zw ho) hC) (by rw[z];exact Nat.not_lt.mpr (Nat.le_succ C))
 have j5:∀x c,X.env.cells.lookup x=some c->c≠C:=λ x c e=>by
  obtain⟨v,o,ho,_⟩:=I.cell x c e;exact qr c o ho
 refine⟨⟨I.ok.mod,(show scope.kind=_ from KA a9),I.ok.glob,I.ok.blt,hC,λ x y c h1 h2=>?_,λ x hx=>?_,λ x c hf e=>?_,I.ok.hd,I.ok.frames,.inl rfl,λ b hb=>?_,I.bs,zZ I.ok.eC I.sz,λ b o e hb=>?_,λ b hb hz=>?_,I.stack,I.V3⟩,
  rfl,I.bare,Un.kept k,⟨_,ns,λ j x v e1 e2 e3=>?_⟩,λ x c e=>?_,I.Au.fresh hC,λ x c e=>?_,λ p hp=>(by cases hp),I.Au.kept k,?_⟩
 ·rcases D3 I a9 h1 with ⟨a1,a2⟩|a<;>rcases D3 I a9 h2 with ⟨b1,b2⟩|b
  ·rw[a1] at b1;exact z7 b1
  ·exact absurd a2 (qt y c b)
  ·exact absurd b2 (qt x c a)
  ·exact I.ok.inj x y c a b
 ·have q:(x,zar)∈scope.names\/Gm scope.names=some x:=by
   rcases hx with hx|hx
   ·exact ML a9 hx (.inl rfl)
   ·exact ML a9 hx (.inr rfl)
  rcases q with q|q
  ·obtain⟨c,m⟩:=MJ (cells:=X.env.cells) (cs:=[]) q;refine Dg (c:=c) ?_;show (x,c)∈Vf C scope.names _;unfold Vf;split
   ·exact ze _ m
   ·exact m
  ·refine Dg (c:=C+1) ?_;show (x,C+1)∈Vf C scope.names _;unfold Vf;rw[q];exact zd
 ·have hq:Gm scope.names=some x:=by simpa [blockOf] using hf
  have e':(Vf C scope.names (Fg X.env.cells scope.names [])).lookup x=some c:=e;unfold Vf at e';rw[hq] at e';dsimp only at e';rw[yW,beq_self_eq_true] at e';cases e';exact Nat.le_succ_of_le hC
 ·obtain⟨o,ho⟩:=j4 b hb;refine⟨qr b o ho,λ x c e z=>?_⟩;rcases D3 I a9 e with ⟨_,a2⟩|e
  ·exact absurd (z3 (zw ho) hC) (by rw[<-z,a2];exact Nat.not_lt.mpr (Nat.le_succ C))
  ·exact (gw b hb).2.2.2.2.1 x c e z
 ·rcases (gw b hb).2.2.2.1 with z|z
  ·exact I.ok.Y0 b o e z
  ·exact absurd (z3 (zw (I.ok.bs b o e).1) z) (Nat.lt_irrefl _)
 ·rcases zq.mp (I.TQ b hz) with e|e
  ·exact (gw b hb).2.1 e
  ·exact (gw b hb).2.2.1 e
 ·have ip:(μ[j]?).map (λ o=>o.bind λ i=>(σ[i]?).join)=some (some v):=by
   rw[<-z5];exact e2
  cases q:μ[j]? with
  |none=>rw[q] at ip;cases ip
  |some o =>
   rw[q] at ip;cases o with
   |none=>cases ip
   |some i =>
    have e4:(σ[i]?).join=some v:=by simpa using ip
    have e5:σ[i]?=some (some v):=by
     cases z:σ[i]? with
     |none=>rw[z] at e4;cases e4
     |some w=>rw[z] at e4;simp at e4;rw[e4]
    obtain⟨x',n1,n2,n3⟩:=bu j i q;have ex:x'=x:=z7 (n1.symm.trans e1);subst ex;have m:=lookup_mem n3;have ov:=(Ja a9 m).2.1 rfl;obtain⟨mm,hn,hl⟩:=I.loc;obtain⟨u,r,l⟩:=hl i x' v n2 e5 (ov.elim (λ z=>.inr (.inl z)) λ z=>.inr (.inr z));refine⟨u,r,.inr ⟨?_,?_⟩⟩
    ·rcases e3 with z|z|z
     ·obtain⟨k',z1,z2⟩:=J9 (k:=.local) z;rw[n3] at z1;cases z1;rcases z2 with z2|⟨_,z2⟩<;>cases z2
     ·exact .inl z
     ·exact .inr z
    ·rcases l with ⟨l,_⟩|⟨_,c,l1,l2⟩
     ·rcases ov with z|z<;>(rw[show X.env.kindOf x'=_ from z] at l;cases l)
     ·obtain⟨c',m'⟩:=MJ (cells:=X.env.cells) (cs:=[]) m;obtain⟨yj,l3⟩:=Dg m';have l4:=MK I a9 l3;rw[l1] at l4;cases l4;have l5:(Vf C scope.names (Fg X.env.cells scope.names [])).lookup x'=some c:=by
       unfold Vf;cases q9:Gm scope.names with
       |none=>exact l3
       |some y =>
        have ne:(x'==y)=false:=by
         cases b:x'==y with
         |false=>rfl
         |true =>
          have z:=(Ja a9 (RW q9)).1 rfl;rw[<-eq_of_beq b] at z;rw[show scope.names.lookup x'=some .cell from z] at n3;cases n3
        dsimp only;rw[yW,ne];exact l3
      refine⟨c,l5,?_⟩;obtain⟨o,ho,hd⟩:=l2;exact⟨o,k _ _ ho,hd⟩
 ·rcases D3 I a9 e with ⟨a1,rfl⟩|e
  ·exact⟨_,bP x a1⟩
  ·obtain⟨v,o,ho,hd⟩:=I.cell x c e;exact⟨v,o,k _ _ ho,hd⟩
 ·rcases D3 I a9 e with ⟨a1,rfl⟩|e
  ·exact I.Au.fresh (Nat.le_succ_of_le hC)
  ·exact I.Ge x c e
 ·show (EH μ σ).length=NB.length;unfold EH;rw[zc,hlen]
def Ga.adopt {P:Program}{w:World}{H:Hp}{h:Heap}{a:Addr}{o:HO}(x:Ga P w H h)(hn:H a=none)(new:BW P w (upd H a o) h a o):Ga P w (upd H a o) h:=λ b u e=>by
 by_cases hb:b=a
 ·subst hb;rw[Aq] at e;cases e;exact new
 ·rw[Ai hb] at e;exact (x b u e).RE (λ c v _ q=>q) (λ c q=>by rw[Ai (Ax q hn)];exact q) λ c xs q=>by rw[Ai (Ax q hn)];exact q
def WC {H':Hp}{s':Shared}{h':Heap}{D:Addr}{pl:List (Addr×Obj)}{σ':St}{aa:List Value}{ys:List V}{n:Nat}(I:Inv X pins σ H s)(gw:∀b∈fp,LQ X pins H b)(J:Inv (blockOf X s H scope C NB fp) pl σ' H' s')
 (hC:s.heap.objs.size<=C) (hD:s.heap.objs.size<=D) (cp:D≠C) (eD:s'.heap.get? D=some {cls:=.type "list",data:=.seq aa.toArray n}) (nD:H' D=none) (r:Vals ys aa) (hz:ys.length<=sizeLine)
 (sb:Heap.SameBut C s'.heap h'):Inv X pins σ (upd H' D (.lst ys)) {s' with heap:=h' }:=by
 have e8:∀b o,s.heap.get? b=some o->b≠C:=λ b o e=>zD (z3 (zw e) hC);have mf:∀b o,s.heap.get? b=some o->b≠D:=λ b o e=>zD (z3 (zw e) hD);have freshD:H D=none:=I.Au.fresh hD;have nC:H' C=none:=J.free;have u:Un (XU X.stack) fp H H' s.heap s'.heap:=J.base;have ez:Ga X.prog X.w H' h':=λ b ob e=>(J.Au b ob e).RE (λ c v hc q=>(sb.2 c (by
  intro z;subst z;rcases hc with rfl|hc
  ·rw[nC] at e;cases e
  ·rw[nC] at hc;cases hc)).trans q) (λ _ q=>q) λ _ _ q=>q
 refine I.qK (ch:=fp) J.os ⟨λ b o e n hb hx=>?_,λ b o e n hb hx=>?_,λ b o e n hx=>?_,λ b o e hx=>?_,λ b xs e=>?_,λ b o u' e=>?_,λ b ps e=>?_⟩ (ez.adopt nD ⟨hz,aa,n,r,(sb.2 D cp).trans eD⟩) J.bare λ b hb=>?_
 ·exact (sb.2 b (e8 b o e)).trans (u.keep b o e n hb hx)
 ·obtain⟨sl,q⟩:=u.slot b o e n hb hx;exact⟨sl,(sb.2 b (e8 b o e)).trans q⟩
 ·rw[Ai (mf b o e)];exact u.free b o e n hx
 ·obtain⟨o',q⟩:=u.there b o e hx;exact⟨o',(sb.2 b (e8 b o e)).trans q⟩
 ·rw[Ai (Ax e freshD)];exact u.Q0 b xs e
 ·rw[Ai (Ax e freshD)];exact u.Oa b o u' e
 ·rw[Ai (Ax e freshD)];exact u.Q1 b ps e
 ·obtain⟨_,f1,_,f3,f4,f5⟩:=gw b hb;exact⟨f3,f1,f4,f5⟩
end
def YB {M:Model}{A:Around}{E:Value->Shared->Prop}{s:Shared}{scope:Scope}{g:Addr}{cl:List (Str×Addr)}{qual:Str}{outer:Env}{Q:Env->Shared->Prop}(h1:(scope.names.filter Ve).length<=1)
 (hQ:∀h',h'.Ns s.heap.objs.size (λ _=>none)->(∀b o,s.heap.get? b=some o->h'.get? b=some o)->(∀x,Gm scope.names=some x->h'.IsCell (s.heap.objs.size+1) none)->
  Q {scope:=scope,locals:=s.heap.objs.size,globals:=g,cells:=Vf s.heap.objs.size scope.names cl,qual:=qual,func:=none,code:=outer.code,frame:=outer.frame,builtins:=outer.builtins} {s with heap:=h' }):
 wpAny M A (newFunctionEnv scope g cl [] qual none .none (some outer)) Q E s:=by
 unfold newFunctionEnv;simp only[Option.isSome_some,if_true];refine wpAny_bind (wpAny_alloc (wpAny_bind (wpAny_layCells _ (λ x k cs=>by cases e:k==NameKind.cell<;>simp[e]) _ _ _ _ ?_)));have ok:=cellsFrom_ok scope.names (s.heap.push {cls:=.type "dict",data:=.dict #[]}) 0 [] ⟨λ _ _ z=>(by cases z),.nil⟩ (zM _);rw[Ua h1] at ok ⊢;rw[Heap.size_push] at ok;rw[List.forIn_nil];refine wpAny_bind (wpAny_pure (wpAny_pure ?_));have key:=hQ (pushCells (s.heap.push {cls:=.type "dict",data:=.dict #[]}) scope.names) ((Heap.Ns.new s.heap (.type "dict")).keeps (pushCells_keeps _ _)) (λ b o e=>pushCells_keeps _ _ b o (zp _ e)) (λ x hx=>(ok.empty x (s.heap.objs.size+1) (by rw[hx];exact zd)).1);unfold Vf at key;rw[<-Heap.size_push s.heap {cls:=.type "dict",data:=.dict #[]}] at key;exact key
def Qi {prog:Program}{w:World}{A:Around}{R:Result->Shared->Prop}{s:Shared}{elt target iter:Expr}{ifs:List Expr}{scope:Scope}{pos:Pos}{it acc:Value}{env:Env}(I:Nat->Shared->Prop)
 (turn:∀n s,I n s->wpAny (model prog w) A (pyNext it) (λ r s₁=>match r with
  |none=>R (.ok .next) s₁
  |some v=>wpAny (model prog w) A (letOwnedTupleGo target it v) (λ _ s₁'=>wpAny (model prog w) A (assign target env v) (λ _ s₂ =>
   wpAny (model prog w) A (forIn ifs true λ c r=>if r=true then do let ok <-isTrue c env (eval c env);pure (zb4 ok) else pure (zb4 r)) (λ ok s₃ =>
    if ok=true then wpAny (model prog w) A (eval elt env) (λ x s₄ =>
     wpAny (model prog w) A (call (.builtin "list.append") [acc,x]) (λ _ s₅=>∃m,m<n/\I m s₅) (λ _ _=>False) s₄) (λ _ _=>False) s₃
    else ∃m,m<n/\I m s₃) (λ _ _=>False) s₂) (λ _ _=>False) s₁') (λ _ _=>False) s₁) (λ _ _=>False) s)
 (n:Nat) (h:I n s):
 codeAny (model prog w) A (.compLoop (.ListComp elt [⟨target,iter,ifs,0⟩] scope pos) 0 it acc env) R s:=by
 refine codeAny_loop rfl I (λ n s hI=>?_) n h;show wpAny _ A ((compTurn (.ListComp elt [⟨target,iter,ifs,0⟩] scope pos) 0 it acc env).onRaise (λ x=>do noteFrame x env;theTreesLotGoes x)) _ _ s;refine wpAny_noted ?_;rw[compTurn_list];refine wpAny_bind (wpAny_standAt (wpAny_bind (wpAny_mono (turn n s hI) (λ r s₁ h₁=>?_) λ _ _ h'=>h'.elim)));cases r with
 |none=>exact wpAny_pure h₁
 |some v =>
  refine wpAny_bind (wpAny_mono h₁ (λ _ s₁' h₁'=>?_) λ _ _ h'=>h'.elim);refine wpAny_bind (wpAny_mono h₁' (λ _ s₂ h₂=>wpAny_bind (wpAny_mono h₂ (λ ok s₃ h₃=>?_) λ _ _ h'=>h'.elim)) λ _ _ h'=>h'.elim);cases ok with
  |false=>exact wpAny_pure ⟨rfl,h₃⟩
  |true =>
   exact wpAny_bind (wpAny_bind (wpAny_mono h₃ (λ x s₄ h₄=>wpAny_bind (wpAny_mono h₄ (λ _ s₅ h₅=>wpAny_pure (wpAny_pure ⟨rfl,h₅⟩)) λ _ _ h'=>h'.elim)) λ _ _ h'=>h'.elim))
abbrev pS (X:Cx)(cs:List Expr)(t:TT):Prop:=
 ∀(pins:List (Addr×Obj)) (s:Shared) (σ:St) (H:Hp) (Q:Bool->Hp->Prop),Inv X pins σ H s->t σ H Q->
  wpAny (model X.prog X.w) X.A (forIn cs true λ c r=>if r=true then do let ok <-isTrue c X.env (eval c X.env);pure (zb4 ok) else pure (zb4 r)) (TP X pins σ Q) X.xe s
abbrev vX:TT:=λ _ H Q=>Q true H
def fG {X:Cx}:pS X [] vX:=λ _ _ _ H _ I h=>wpAny_tests_nil ⟨H,I,h⟩
def fH {X:Cx}{c:Expr}{t:TT}(h:PT X c t):pS X [c] t:=λ pins s σ H Q I q=>wpAny_tests_one (h pins s σ H Q I q)
abbrev KC (μ:List (Option Nat))(g:TG):Prop:=∀σ x H Q,g x (EH μ σ) H Q->g x (EH μ σ) H λ σ' H'=>Q σ' H'/\∀(j:Nat) v,(EH μ σ)[j]?=some (some v)->σ'[j]?=some (some v)
def fI {μ:List (Option Nat)}{i:Nat}(h:μ[i]?=some none):KC μ (OI i):=λ σ x H Q q=>by
 refine⟨q,λ j v e=>?_⟩;have ae:j≠i:=λ z=>by
  subst z;unfold EH at e;rw[z5,h] at e;cases e
 rw[yL (zY ae)];exact e
abbrev wV (J:It)(H1:Hp)(Q:VK)(st:V->Hp->(St->Hp->Prop)->Prop)(tc:TT)(te:TE):Prop:=
 ∃W:Nat->Nat->List V->Hp->Prop,(∃m,W 0 m [] H1)/\∀i m ys H2,W i m ys H2->
  (J.stop i H2/\∀D,H2 D=none->Q (.ref D) (upd H2 D (.lst ys))) \/
  (J.go i H2/\ys.length<sizeLine/\∃N:List V->Hp->Prop,(∀bj H',N bj H'->∃m',m'<m/\W (i+1) m' bj H')/\∀x H3,J.jY i H2 x H3->st x H3 λ σ4 H4=>tc σ4 H4 λ b H5=>if b=true then te σ4 H5 λ y H6=>N (ys++[y]) H6 else N ys H5)
abbrev Vg (wi:TI)(μ:List (Option Nat))(g:TG)(tc:Shared->Hp->Addr->List Addr->TT)(te:Shared->Hp->Addr->List Addr->TE):TE:=λ σ H Q=>wi σ H λ J H1=>∀s C ex,wV J H1 Q (λ x H K=>g x (EH μ σ) H K) (tc s H1 C ex) (te s H1 C ex)
section
variable {X:Cx}{pins:List (Addr×Obj)}{σ:St}{H2:Hp}{s2:Shared}{tg elt iter:Expr}{ifs:List Expr}{scope:Scope}{pos:Pos}{NB:List Str}{μ:List (Option Nat)}{g:TG}{tc:Shared->Hp->Addr->List Addr->TT}{te:Shared->Hp->Addr->List Addr->TE}{fp:List Addr}{it:Addr}{tn:Nat->Heap->Prop}{J:It}{Q:VK}
def OU (hc:X.calm=true)(I2:Inv X pins σ H2 s2)(T:Turn X.prog X.w X.K tg J fp it tn)(cj:tn 0 s2.heap)(f2:∀b∈fp,LQ X pins H2 b)
 (a9:Gk scope X.env.scope=true) (bu:Qh X.N NB scope μ=true) (iq:KC μ g)
 (hb:∀(s:Shared) (H:Hp) (C:Addr) (ex:List Addr),PG (blockOf X s H scope C NB ex) tg g/\pS (blockOf X s H scope C NB ex) ifs (tc s H C ex)/\PE (blockOf X s H scope C NB ex) elt (te s H C ex))
 (q:∀C,wV J H2 Q (λ x H K=>g x (EH μ σ) H K) (tc s2 H2 C fp) (te s2 H2 C fp)) {RR:Value->Addr->Result->Shared->Prop} {E:Value->Shared->Prop}
 (fin:∀(D C:Addr) (s':Shared) (H':Hp) (ys:List V) (m:Str->Option Value),s2.heap.objs.size<=D->s2.heap.objs.size<=C->D≠C->s'.heap.Ns C m->H' C=none->(∀h',Heap.SameBut C s'.heap h'->Inv X pins σ (upd H' D (.lst ys)) {s' with heap:=h' })->Q (.ref D) (upd H' D (.lst ys))->RR (.ref D) C (.ok .next) s'):
 wpAny (model X.prog X.w) X.A (newList []) (λ acc s₃=>wpAny (model X.prog X.w) X.A (newFunctionEnv scope X.env.globals (Fg X.env.cells scope.names []) [] X.env.qual none .none (some X.env)) (λ ir s₄ =>
  codeAny (model X.prog X.w) X.A (.compStart (.ListComp elt [⟨tg,iter,ifs,0⟩] scope pos) 0 (.ref it) acc {ir with scope:=relabel scope X.env}) (RR acc ir.locals) s₄) E s₃) E s2:=by
 refine wpAny_newObj_type (YB (RY a9) λ h₁ hns₁ hk₁ hcl₁=>?_);dsimp only at hns₁ hk₁ hcl₁ ⊢;generalize mh:s2.heap.push {cls:=.type "list",dict:=none,data:=.seq ([]:List Value).toArray}=j6 at hns₁ hk₁ hcl₁ ⊢;have hC:j6.objs.size=s2.heap.objs.size+1:=by rw[<-mh,Heap.size_push]
 have cp:s2.heap.objs.size≠j6.objs.size:=by rw[hC];exact zD (Nat.lt_succ_self _)
 have e9:s2.heap.objs.size<=j6.objs.size:=by rw[hC];exact Nat.le_succ _
 have old:∀b o,s2.heap.get? b=some o->h₁.get? b=some o:=λ b o e=>hk₁ b o (mh▸zp _ e);have eD:h₁.get? s2.heap.objs.size=some {cls:=.type "list",data:=.seq ([]:List Value).toArray}:=hk₁ _ _ (mh▸z9 _ rfl);have j4:∀b∈fp,∃o,s2.heap.get? b=some o:=λ b hb=>let ⟨o,e,_⟩:=T.obj _ _ cj b hb;⟨o,e⟩;have mi:∀b∈fp,b≠s2.heap.objs.size:=λ b hb=>let ⟨o,e⟩:=j4 b hb;zD (zw e);generalize qu:s2.heap.objs.size=D at e9 cp eD mi ⊢;generalize yk:j6.objs.size=C at *;have bD:s2.heap.objs.size<=D:=by rw[qu];exact zv _
 have bQ:s2.heap.objs.size<=C:=by rw[qu];exact e9
 have I4:Inv (blockOf X s2 H2 scope C NB fp) [] (EH μ σ) H2 {s2 with heap:=h₁}:=RZ (t4:=s2.toks) I2 a9 bu f2 j4 bQ hns₁ old hcl₁;have bp:∀ {H':Hp} {pl:List (Addr×Obj)},(∀b∈fp,H' b=none)->(∀p∈pl,p.1=D)->∀b∈fp,LQ (blockOf X s2 H2 scope C NB fp) pl H' b:=fun {H' pl} hn hp b hb=>by
  refine⟨hn b hb,(I4.ok.tV b hb).1,I4.ok.Y1 b hb,.inl hb,λ x c e z=>(I4.ok.tV b hb).2 x c e z,λ p dh z=>?_⟩;have ml:p∈pl:=by simpa [blockOf] using dh
  exact mi b hb (z▸hp p ml)
 have ug:D∉(blockOf X s2 H2 scope C NB fp).fs:=λ z=>by
  obtain⟨_,o,ho,_⟩:=I4.ok.Kv.mem z;exact absurd (zw ho) (Nat.not_lt.mpr bD)
 obtain⟨W,⟨m0,w0⟩,turn⟩:=q C;have loop:∀s₃:Shared,s₃={s2 with heap:=h₁} ->
  codeAny (model X.prog X.w) X.A (.compLoop (.ListComp elt [⟨tg,iter,ifs,0⟩] scope pos) 0 (.ref it) (.ref D) (compEnvC scope (Vf C scope.names (Fg X.env.cells scope.names [])) C X.env)) (RR (.ref D) C) s₃:=by
  rintro s₃ rfl;refine Qi (λ n s'=>∃i ys aa k H',Inv (blockOf X s2 H2 scope C NB fp) [(D,{cls:=.type "list",data:=.seq aa k})] (EH μ σ) H' s'/\tn i s'.heap/\(∀b∈fp,H' b=none)/\Vals ys aa.toList/\ys.length<=sizeLine/\W i n ys H') ?_ m0
   ⟨0,[],#[],0,H2,I4.J5 λ p hp=>?_,T.keep _ _ _ cj λ b hb o e=>old b o e,λ b hb=>(f2 b hb).1,.nil,zM _,w0⟩
  rotate_left
  ·have e:=zi.mp hp;subst e;exact⟨eD,I2.Au.fresh bD,cp,ug,λ v=>by simp⟩
  rintro n s3 ⟨i,ys,aa,k,H3,I3,h9,ia,rv,hz,w3⟩;rcases turn i n ys H3 w3 with ⟨stop,qn⟩|⟨go,af,N,hN,step⟩
  ·refine wpAny_mono (T.done (blockOf X s2 H2 scope C NB fp) rfl rfl rfl hc i _ s3 _ H3 (λ _ _=>False) I3 (bp ia (by simp)) h9 stop) (λ r s4 zz=>?_) λ _ _ e=>e;obtain⟨hr,j7⟩:=zz;subst hr;obtain⟨p1,p2,p3,p4,p5⟩:=j7.pin _ (zm _ zd);obtain⟨m,hn,_⟩:=id j7.loc;have e1:s4.heap.get? D=some {cls:=.type "list",data:=.seq aa.toList.toArray k}:=by simpa using p1
   exact fin D C s4 H3 ys m bD bQ cp hn j7.free (λ h' sb=>WC I2 f2 j7 bQ bD cp e1 p2 rv hz sb) (qn D p2)
  ·refine wpAny_mono (T.item (blockOf X s2 H2 scope C NB fp) rfl rfl rfl hc i _ s3 _ H3 (λ _ _=>False) I3 (bp ia (by simp)) h9 go) (λ r s4 zz=>?_) λ _ _ e=>e;obtain⟨u,hr,h4⟩:=zz;subst hr;refine Bi h4 λ _ s5 zz=>?_;obtain⟨x,H5,I5,r5,y5,dL,lm⟩:=zz;have ln:=I5.pinned (bp lm (by simp)) (T.obj _ _ dL);have b7:=iq σ x H5 _ (step x H5 y5);obtain⟨hg,ht,he⟩:=hb s2 H2 C fp;refine Bi (hg _ s5 _ H5 x u _ ln r5 b7) λ _ s6 zz=>?_;obtain⟨σ6,H6,I6,q6,k6⟩:=zz;refine Bi (ht _ s6 σ6 H6 _ I6 q6) λ ok s7 zz=>?_;obtain⟨H7,I7,q7⟩:=zz;have again:∀ {H8:Hp} {s8:Shared} {its':Array Value} {k':Nat} {bj:List V},Inv (blockOf X s2 H2 scope C NB fp) ([(D,{cls:=.type "list",data:=.seq its' k' })]++Ir fp s5.heap) σ6 H8 s8->Vals bj its'.toList->bj.length<=sizeLine->(∃m,m<n/\W (i+1) m bj H8)->
    ∃m,m<n/\∃i ys aa k H',Inv (blockOf X s2 H2 scope C NB fp) [(D,{cls:=.type "list",data:=.seq aa k})] (EH μ σ) H' s8/\tn i s8.heap/\(∀b∈fp,H' b=none)/\Vals ys aa.toList/\ys.length<=sizeLine/\W i m ys H':=fun {H8 s8 its' k' bj} I8 cq uh n8=>by
    obtain⟨m',hm,w8⟩:=n8;refine⟨m',hm,i+1,bj,its',k',H8,(I8.J6.weak ?_ k6),T.keep _ _ _ dL λ b hb o e=>(I8.pin (b,o) (zm _ (zm _ (Fe hb e)))).1,λ b hb=>?_,cq,uh,w8⟩
    ·rw[I8.len];exact I4.len
    ·obtain⟨o,e,d⟩:=T.obj _ _ dL b hb;exact (I8.pin (b,o) (zm _ (zm _ (Fe hb e)))).2.1
   cases ok with
   |false =>
    simp only[zC,if_false] at q7 ⊢;exact again I7 rv hz (hN _ _ q7)
   |true =>
    simp only[if_true] at q7 ⊢;refine Bi (he _ s7 σ6 H7 _ I7 q7) λ uy s8 zz=>?_;obtain⟨y,H8,I8,r8,q8⟩:=zz;obtain⟨p1,p2,p3,p4,p5⟩:=I8.pin (D,_) (zm _ (zJ _ zd));have e1:s8.heap.get? D=some {cls:=.type "list",data:=.seq aa k}:=p1;have hsz:aa.size=ys.length:=by rw[<-Array.length_toList];exact rv.length.symm
    refine call_meets F.slot_list_append ⟨_,e1,rfl⟩ F.entry_list_append (F.args_list_append_2 _ _) (PySem.list_append D aa k uy (by rw[hsz];omega)) ⟨e1,?_⟩;have mn:=PySem.IsL.update e1 (·.push uy);have Iu:Inv (blockOf X s2 H2 scope C NB fp) (Ir fp s5.heap) σ6 H8 s8:=I8.J5 λ p hp=>I8.pin p (zm _ (zm _ hp));have It:=Iu.turned (it:=D) (h':=s8.heap.update D (Obj.mapSeq (·.push uy))) (t':=s8.toks) (λ b o hb e=>(Heap.get?_update_other _ _ (zY hb)).trans e) p2 p3 (.inr bD) (λ x c e z=>?_) (λ p hp z=>?_)
    ·refine again (its':=aa.push uy) (k':=if (aa.push uy).size==aa.size then k else k+1) (It.J5 λ p hp=>?_) (by simpa using rv.append (.cons r8 .nil)) (by rw[zB,yP];omega) (hN _ _ q8);rcases zy.mp hp with hp|hp
     ·have e:=zi.mp hp;subst e;exact⟨mn,p2,p3,p4,λ v=>by simp⟩
     ·exact It.pin p (zm _ hp)
    ·rcases D3 I2 a9 e with ⟨_,a2⟩|e'
     ·exact absurd (a2.symm.trans z) (Nat.ne_of_gt (Nat.lt_succ_of_le e9))
     ·obtain⟨v,o,ho,_⟩:=I2.cell x c e';exact absurd (zw ho) (by rw[z];exact Nat.not_lt.mpr bD)
    ·have dh:p∈Ir fp s5.heap:=by simpa [blockOf] using hp
     exact mi p.1 (OJ dh).1 z
 exact codeAny_compStart_list (loop _ rfl) (T.self _ 0 _ _ _ (T.keep _ _ _ cj λ b hb o e=>old b o e) (loop _ rfl))
def fJ {wi:TI}(hc:X.calm=true)(hi:PI X tg iter wi)(a9:Gk scope X.env.scope=true)(bu:Qh X.N NB scope μ=true)(iq:KC μ g)
 (hb:∀(s:Shared) (H:Hp) (C:Addr) (ex:List Addr),PG (blockOf X s H scope C NB ex) tg g/\pS (blockOf X s H scope C NB ex) ifs (tc s H C ex)/\PE (blockOf X s H scope C NB ex) elt (te s H C ex))
 (hs:∀x,foldedSetIterable iter X.env x=pure x:=by intro _;rfl):PE X (.ListComp elt [⟨tg,iter,ifs,0⟩] scope pos) (Vg wi μ g tc te):=by
 intro pins s σ H Q I h;have bv:∀y∈scope.names,y.2=.local->scope.names.lookup y.1=some .local:=λ y hy=>(Ja a9 hy).2.2;have bR:closureFor scope X.env=pure (Fg X.env.cells scope.names []):=I9 λ y hy e=>Iz I a9 (x:=y.1) (by rw[<-e];exact hy);rw[eval_ListComp];refine wpAny_comprehension_free (use:=none) rfl hs bR (KA a9) bv (Bi (hi pins s σ H _ I h) λ v s1 h1=>Bi h1 λ jy s2 h2=>?_);obtain⟨it,fp,tn,J,H2,e,I2,T,cj,f2,q⟩:=h2;subst e;refine OU (RR:=λ acc C=>compPost (model X.prog X.w) X.A X.xe none (EP X pins σ Q) acc C) hc I2 T cj f2 a9 bu iq hb (λ C=>q s2 C fp) ?_;intro D C s' H' ys m hD hC cp hn nC hI hq;exact⟨m,hn,λ h' sb=>⟨.ref D,_,hI h' sb,rfl,hq⟩⟩
abbrev rT (i:Nat)(te:TE):TS:=λ D σ H=>te σ H λ x H1=>D.nx (σ.set i (some x)) H1
def Vh {wi:TI}{i:Nat}{y:Str}{py ao:Pos}(hN:X.N.Nodup)(iu:X.N[i]?=some y)(hy:Loc X.env.scope y)(hc:X.calm=true)(hi:PI X tg iter wi)(a9:Gk scope X.env.scope=true)(bu:Qh X.N NB scope μ=true)(iq:KC μ g)(hb:∀(s:Shared) (H:Hp) (C:Addr) (ex:List Addr),PG (blockOf X s H scope C NB ex) tg g/\pS (blockOf X s H scope C NB ex) ifs (tc s H C ex)/\PE (blockOf X s H scope C NB ex) elt (te s H C ex))(aR: ~~~(swapsWith (.ListComp elt [⟨tg,iter,ifs,0⟩] scope pos) (some (.Name y py)) ao.line X.env=pure true))(hs:∀x,foldedSetIterable iter X.env x=pure x:=by intro _;rfl)(hf:X.fn y=true\/X.env.scope.names.lookup y=some .local:=by first|exact .inl rfl|exact .inr rfl|assumption):
 PS X (.Assign [.Name y py] (.ListComp elt [⟨tg,iter,ifs,0⟩] scope pos) ao) (rT i (Vg wi μ g tc te)):=by
 intro pins s σ H D' I h;have bv:∀y∈scope.names,y.2=.local->scope.names.lookup y.1=some .local:=λ y hy=>(Ja a9 hy).2.2;have bR:closureFor scope X.env=pure (Fg X.env.cells scope.names []):=I9 λ y hy e=>Iz I a9 (x:=y.1) (by rw[<-e];exact hy);rw[exec_Assign_Name_used _ _ _ _ aR];refine wpAny_bind (wpAny_standAt (wpAny_bind ?_));show wpAny _ X.A (do let _ <-comprehension (.ListComp elt [⟨tg,iter,ifs,0⟩] scope pos) scope X.env _ (newList []) false (eval iter X.env) (some (assign (.Name y py) X.env))) _ _ s;refine wpAny_bind (wpAny_mono (wpAny_comprehension_free (use:=some (assign (.Name y py) X.env)) (Q:=λ _ s'=>SP X pins D' .next s') rfl hs bR (KA a9) bv (Bi (hi pins s σ H _ I h) λ v s1 h1=>Bi h1 λ jy s2 h2=>?_)) (λ _ s' hq=>wpAny_pure (wpAny_pure hq)) λ _ _ e=>e);obtain⟨it,fp,tn,J,H2,e,I2,T,cj,f2,q⟩:=h2;subst e;refine OU (RR:=λ acc C=>compPost (model X.prog X.w) X.A X.xe (some (assign (.Name y py) X.env)) (λ _ s'=>SP X pins D' .next s') acc C) hc I2 T cj f2 a9 bu iq hb (λ C=>q s2 C fp) ?_;intro D C s' H' ys m hD hC cp hn nC hI hq;have I':=hI s'.heap (.refl ..);show wpAny _ X.A (assign (.Name y py) X.env (.ref D)) _ _ _;refine wpAny_assign_Name (OH (i:=i) (v:=.ref D) I' hN iu hy rfl (λ ic ui mo=>?_) hf);obtain⟨a,sb,ha⟩:=mo;have gp:a≠C:=by
  rcases ha with z|z
  ·rw[z];exact zD (z3 I2.lt hC)
  ·obtain⟨v,o,ho,_⟩:=I2.cell y a z;exact zD (z3 (zw ho) hC)
 refine⟨m,hn.sameBut sb (zY gp),λ h' di=>?_⟩;refine⟨_,_,ui.turned (it:=C) (t':=ic.toks) (λ b o hb e=>(di.2 b hb).trans e) (by rw[Ai (zY cp)];exact nC) (Nat.ne_of_gt (z3 I2.lt hC)) (.inr (zZ I2.sz hC)) (λ x c e z=>?_) (λ p hp z=>?_),hq⟩
 ·obtain⟨v,o,ho,_⟩:=I2.cell x c e;exact absurd (zw ho) (by rw[z];exact Nat.not_lt.mpr hC)
 ·exact absurd (zw (I2.pin p hp).1) (by rw[z];exact Nat.not_lt.mpr hC)
end
abbrev wW (K:za)(a:Addr):It:=
 ⟨λ i H=>∃xs x,D2 K H a xs/\xs[i]?=some x,λ i H v H'=>∃p x,H p=none/\v=.ref p/\(∀xs,D2 K H a xs->xs[i]?=some x)/\H'=upd H p (.tup [.int i,x]),λ i H=>∃xs,D2 K H a xs/\xs.length<=i⟩
def Ub {X:Cx}{pins:List (Addr×Obj)}{σ:St}{H:Hp}{s:Shared}{h':Heap}{t':Nat}{e it:Addr}(I:Inv X pins σ H s)(he:LQ X pins H e)(hi:LQ X pins H it)(k:∀b o,b≠e->b≠it->s.heap.get? b=some o->h'.get? b=some o):Inv X pins σ H {s with heap:=h',toks:=t' }:=by
 obtain⟨e0,e1,e2,e3,e4,e5⟩:=he;obtain⟨f0,f1,f2,f3,f4,f5⟩:=hi;have ne:∀b u,H b=some u->b≠e/\b≠it:=λ b u q=>⟨λ z=>(by rw[z,e0] at q;cases q),λ z=>(by rw[z,f0] at q;cases q)⟩;refine I.step (g':=s.gens) (d':=s.drawn) (ch:=[e,it]) (λ b hb=>?_) (λ b o _ _ hc q _=>k b o (λ z=>hc (by simp[z])) (λ z=>hc (by simp[z])) q) (λ b o _ _ hc q _=>⟨o.slots,k b o (λ z=>hc (by simp[z])) (λ z=>hc (by simp[z])) q⟩) (λ _ _ _ _ n=>n)
  (λ b o hc q=>⟨o,k b o (λ z=>hc (by simp[z])) (λ z=>hc (by simp[z])) q⟩) (λ _ _ q=>q) (λ _ _ _ q=>q) (λ b ps q=>⟨#[],by rw[q];simp⟩) (λ m hm=>?_) (λ b u q=>?_) I.bare
 ·rcases zq.mp hb with z|z
  ·subst z;exact⟨e3,e1,e4,e5⟩
  ·have z:=zi.mp z;subst z;exact⟨f3,f1,f4,f5⟩
 ·obtain⟨o,es,ep,ho,r⟩:=hm;exact⟨o,es,ep,k _ o (zY e1) (zY f1) ho,r⟩
 ·refine (I.Au b u q).RE (λ c v hc z=>k c v ?_ ?_ z) (λ _ z=>z) λ _ _ z=>z
  ·rcases hc with z|z
   ·rw[z];exact (ne b u q).1
   ·exact (ne c _ z).1
  ·rcases hc with z|z
   ·rw[z];exact (ne b u q).2
   ·exact (ne c _ z).2
def WD {P:Program}{w:World}{K:za}{bS:List Expr}{x1}{bq:Pos}(a e it:Addr)(ae:e≠it):
 Turn P w K (.Tuple bS x1 bq) (wW K a) [e,it] e (λ i h=>(∃old,IsEnum h e it i old)/\h.IsListIter it a i) where
 mem:=by simp
 obj:=λ i h st b hb=>by
  obtain⟨⟨old,h1⟩,o,h2,c,d⟩:=st;rcases zq.mp hb with z|z
  ·subst z;exact⟨_,h1,λ v z=>by cases z⟩
  ·have z:=zi.mp z;subst z;exact⟨o,h2,λ v z=>by rw[d] at z;cases z⟩
 keep:=λ i h h' st k=>⟨let ⟨old,h1⟩:=st.1;⟨old,k e (by simp) _ h1⟩,st.2.at λ o e=>k it (by simp) o e⟩
 item:=by
  intro X hP hw hK hc i pins s σ H E I hf st hg;subst hP hw hK;obtain⟨xs,x,hq,hx⟩:=hg;obtain⟨⟨old,he⟩,hit⟩:=st;obtain⟨aa,rv,p,hz⟩:=I.list hq;obtain⟨u,hu,ru⟩:=rv.get hx;have fe:=hf e (by simp);have fi:=hf it (by simp);refine wpAny_pyNext_enum_item he hit p.isList (x:=u) (by simpa using hu) ae λ h1 da mq ht hsz hk=>?_;refine⟨_,rfl,wpAny_letOwnedTupleGo_enum (s:={s with heap:=h1,toks:=s.toks+1}) da λ h2 uj aG=>?_⟩;have bw:Heap.SameBut e h1 h2:=aG;have nt:s.heap.objs.size≠e:=Nat.ne_of_gt (zw he);have uk:s.heap.objs.size≠it:=by
   obtain⟨o,ho,_⟩:=hit;exact Nat.ne_of_gt (zw ho)
  have I1:Inv X pins σ H {s with heap:=h2,toks:=s.toks+1}:=Ub I fe fi λ b o hb aA q=>(bw.2 b hb).trans (hk b o hb aA q);have tup:h2.get? s.heap.objs.size=some {cls:=.type "tuple",data:=.seq #[.int i s.toks,u]}:=(bw.2 _ nt).trans ht;have nH:H s.heap.objs.size=none:=I.Au.fresh (zv _);have vv:Vals [.int i,x] [.int i s.toks,u]:=.cons ⟨_,rfl⟩ (.cons ru .nil);have mr:Ga X.prog X.w (upd H s.heap.objs.size (.tup [.int i,x])) h2:=I1.Au.adopt nH ⟨by show 2<=sizeLine;decide,_,vv,⟨_,tup,rfl,_,rfl⟩⟩;have I2:Inv X pins σ (upd H s.heap.objs.size (.tup [.int i,x])) {s with heap:=h2,toks:=s.toks+1}:=by
   refine I.step (g':=s.gens) (d':=s.drawn) (ch:=[e,it]) (λ b hb=>?_) (λ b o _ _ hc q _=>(bw.2 b (λ z=>hc (by simp[z]))).trans (hk b o (λ z=>hc (by simp[z])) (λ z=>hc (by simp[z])) q)) (λ b o _ _ hc q _=>⟨o.slots,(bw.2 b (λ z=>hc (by simp[z]))).trans (hk b o (λ z=>hc (by simp[z])) (λ z=>hc (by simp[z])) q)⟩)
    (λ b o hc q n=>by rw[Ai (zD (zw q))];exact n) (λ b o hc q=>⟨o,(bw.2 b (λ z=>hc (by simp[z]))).trans (hk b o (λ z=>hc (by simp[z])) (λ z=>hc (by simp[z])) q)⟩)
    (λ b xs q=>by rw[Ai (Ax q nH)];exact q) (λ b o u q=>by rw[Ai (Ax q nH)];exact q) (λ b ps q=>⟨#[],by rw[Ai (Ax q nH),q];simp⟩) (λ m hm=>?_) mr I.bare
   ·rcases zq.mp hb with z|z
    ·subst z;exact⟨fe.2.2.2.1,fe.2.1,fe.2.2.2.2.1,fe.2.2.2.2.2⟩
    ·have z:=zi.mp z;subst z;exact⟨fi.2.2.2.1,fi.2.1,fi.2.2.2.2.1,fi.2.2.2.2.2⟩
   ·obtain⟨o,es,ep,ho,r⟩:=hm;exact⟨o,es,ep,(bw.2 _ (zY fe.2.1)).trans (hk _ o (zY fe.2.1) (zY fi.2.1) ho),r⟩
  refine⟨.ref s.heap.objs.size,_,I2,rfl,⟨_,x,nH,rfl,λ ys hy=>by rw[I.Gf hy hq];exact hx,rfl⟩,⟨⟨u,uj⟩,mq.at λ o q=>(bw.2 it (zY ae)).trans q⟩,λ b hb=>?_⟩;have aA:b≠s.heap.objs.size:=by
   rcases zq.mp hb with z|z
   ·rw[z];exact zY nt
   ·rw[zi.mp z];exact zY uk
  rw[Ai aA];exact (hf b hb).1
 done:=by
  intro X hP hw hK hc i pins s σ H E I hf st hg;subst hP hw hK;obtain⟨xs,hq,hx⟩:=hg;obtain⟨⟨old,he⟩,hit⟩:=st;obtain⟨aa,rv,p,hz⟩:=I.list hq;have hl:=rv.length;obtain⟨f0,f1,f2,f3,f4,f5⟩:=hf it (by simp);exact wpAny_pyNext_enum_end (I.ok.hd hc) he hit p.isList (by simp;omega) λ h' eb=>⟨rfl,I.turned (t':=s.toks) (λ b o hb e=>eb b o hb e) f0 f1 f3 f4 f5⟩
 self:=λ _ _ _ _ _ st h=>let ⟨_,he⟩:=st.1;wpAny_pyIter_enum he h
section
variable {X:Cx}
abbrev rV (K:za)(ta:TA):TI:=λ σ H R=>ta σ H λ vs H1=>∃a,vs=[.ref a]/\(∃xs,D2 K H1 a xs)/\R (wW K a) H1
def fK {bS:List Expr}{x1}{bq:Pos}{a:Expr}{ta:TA}{p pos:Pos}(hg:Gl X "enumerate")(hm:X.mg "enumerate" = none)(ha:PA X [a] ta)(hb:bootBuiltins "enumerate" = some (.type "enumerate"):=by decide +kernel)(hs: ~~~(starEach [a] X.env=[(false,eval a X.env)])):
 PI X (.Tuple bS x1 bq) (.Call (.Name "enumerate" p) [a] [] pos) (rV X.K ta):=by
 intro pins s σ H R I h;refine Call_ (Dp I hg hm hb (zW (Bi (ha pos pins s σ H _ I h) λ us s1 zz=>?_) hs rfl));obtain⟨vs,H1,I1,r1,q1⟩:=zz;obtain⟨j,e,⟨xs,hq⟩,q⟩:=q1;subst e;cases r1 with
 |cons r rr =>
  cases rr;cases r;obtain⟨aa,rv,p,hz⟩:=I1.list hq;refine call_enumerate_list p.isList λ h' he hit hsz hk=>?_;refine wpAny_pyIter_enum (s:={s1 with heap:=h' }) he ?_;have I2:Inv X pins σ H1 {s1 with heap:=h' }:=I1.kept (t':=s1.toks) hk;refine⟨_,[s1.heap.objs.size+1,s1.heap.objs.size],_,_,H1,rfl,I2,WD j _ _ (Nat.succ_ne_self _),⟨⟨_,he⟩,hit⟩,λ b hb=>?_,q⟩;rcases zq.mp hb with z|z
  ·rw[z];exact I1.Wm (Nat.le_succ _) (I1.Au.fresh (Nat.le_succ _))
  ·rw[zi.mp z];exact I1.Wm (zv _) (I1.Au.fresh (zv _))
end
abbrev BO {α:Type}(o:Option (α×List Int))(b:α×List Int):Option (α×List Int):=match o with | none=>some b | some c=>if HT.lexLt b.2 c.2=true then some b else some c
abbrev B9 {α:Type}(bs:List (α×List Int)):Option (α×List Int):=bs.foldl BO none
abbrev Jb (bs:List (Addr×List Int)):Array Value:=match B9 bs with | none=>#[] | some b=>#[.ref b.1,.ref b.1]
def IA {α:Type}(bs:List (α×List Int))(b:α×List Int):B9 (bs++[b])=match B9 bs with | none=>some b | some c=>if HT.lexLt b.2 c.2=true then some b else some c:=by
 unfold B9;rw[List.foldl_append];rfl
def OV {α:Type}:∀(bs:List (α×List Int)) (b:α×List Int),B9 bs=some b->b∈bs:=by
 intro bs
 suffices h:∀(bs:List (α×List Int)) (o:Option (α×List Int)) (b:α×List Int),bs.foldl BO o=some b->b∈bs\/o=some b by
  intro b hb;rcases h bs none b hb with q|q
  ·exact q
  ·cases q
 intro bs;induction bs with
 |nil=>intro o b h;exact .inr h
 |cons x r ih =>
  intro o b h;rw[zL] at h;rcases ih _ _ h with q|q
  ·exact .inl (ze _ q)
  ·cases o with
   |none=>cases q;exact .inl zd
   |some c =>
    unfold BO at q;dsimp only at q;split at q
    ·cases q;exact .inl zd
    ·exact .inr q
def IB {α:Type}(o:Option (α×List Int))(b:α×List Int):BO o b≠none:=by
 unfold BO;split
 ·intro z;cases z
 ·split<;>(intro z;cases z)
def MM {α:Type}:∀ {bs:List (α×List Int)},bs≠[]->B9 bs≠none:=by
 intro bs h;unfold B9
 suffices z:∀(bs:List (α×List Int)) (o:Option (α×List Int)),o≠none->bs.foldl BO o≠none by
  cases bs with
  |nil=>exact (h rfl).elim
  |cons b r=>rw[zL];exact z r _ (IB _ _)
 intro bs;induction bs with
 |nil=>intro o h;exact h
 |cons b r ih=>intro o h;rw[zL];exact ih _ (IB _ _)
abbrev rW (o:Option Value):List (Str×Value):=o.toList.map λ d=>(Str.ofString "default",d)
def YC (a:Value)(o:Option Value):argsOk "min" ⟨[a],rW o⟩:=by cases o<;>(unfold argsOk;kernel_rfl)
section
variable {prog:Program}{w:World}{A:Around}{R:Result->Shared->Prop}
def YD (bs:List (Addr×List Int))(tv:Addr->Array Value)(l I S:Addr)(o:Option Value)(mt:o=none->bs≠[])(hh:A.handled=none)(hu:A.in1.units<cLine)(j8:S≠I)(j9:l≠I)(qv:l≠S)(mw:∀b∈bs,b.1≠I/\b.1≠S)
 (hk:∀b∈bs,IntsAre (tv b.1).toList b.2):∀(k j:Nat) (s:Shared) (c:Nat),bs.length-j=k->j<=bs.length->s.heap.IsListIter I l j->s.heap.IsList l (bs.map λ b=>yG b.1).toArray->(∀b∈bs,IsTup s.heap b.1 (tv b.1))->
  s.heap.get? S=some {cls:=.type "list",dict:=none,data:=.seq (Jb (bs.take j)) c,slots:=#[]} ->
  (∀h' tk,(∀b o,b≠I->b≠S->s.heap.get? b=some o->h'.get? b=some o)->R (.ok (.ret (match B9 bs with|none=>o.getD .none|some b=>.ref b.1))) {s with heap:=h',toks:=tk})->
  codeAny (model prog w) A (.builtin "min.loop" ⟨[.ref I,.none,.ref S],rW o⟩) R s:=by
 have bd:(toString "min" ++ toString ".loop" : String) = "min.loop" := by decide
 intro k;induction k with
 |zero =>
  intro j s c hr hj hit hl ht hS hR;have bE:j=bs.length:=by omega
  subst bE;rw[y8] at hS;refine codeAny_builtin PySem.F.entry_min_loop ?_;rw[Around.under_plainId za8 _];show wpAny _ A.in1 (seqItems? (.ref S) >>= _) _ _ s;refine wpAny_bind (wpAny_seqItems hS rfl ?_);show wpAny _ A.in1 (tryCatch (pyNext (.ref I)) _ >>= _) _ _ s;refine wpAny_bind (wpAny_tryCatch (wpAny_pyNext_list_end (A:=A.in1) hh hit hl (by simp) λ h' eb=>?_));have be:h'.get? S=_:=eb S _ j8 hS;unfold Jb at be;cases hb:B9 bs with
  |none =>
   unfold Jb;rw[hb];cases o with
   |none=>exact (MM (mt rfl) hb).elim
   |some d =>
   show wpAny _ A.in1 (rule _ >>= _) _ _ _;refine wpAny_bind (wpAny_rule (wpAny_pure ?_));have q:=hR h' s.toks λ b o h1 h2 e=>eb b o h1 e;rw[hb] at q;exact q
  |some b =>
   rw[hb] at be;unfold Jb;rw[hb];show wpAny _ A.in1 (updateSeq S (λ _=>#[]) >>= _) _ _ _;refine wpAny_bind ?_;refine wpAny_updateSeq be rfl (wpAny_bind (wpAny_letGo (wpAny_pure ?_)));have q:=hR (h'.update S (Obj.mapSeq λ _=>#[])) s.toks λ b o h1 h2 e=>(Heap.get?_update_other _ _ (zY h2)).trans (eb b o h1 e);rw[hb] at q;exact q
 |succ k ih =>
  intro j s c hr hj hit hl ht hS hR;have af:j<bs.length:=by omega
  have ej:bs.take (j+1)=bs.take j++[bs[j]]:=by rw[y9,zh af];rfl
  have mj:bs[j]∈bs:=zal af;refine codeAny_builtin PySem.F.entry_min_loop ?_;rw[Around.under_plainId za8 _];show wpAny _ A.in1 (seqItems? (.ref S) >>= _) _ _ s;refine wpAny_bind (wpAny_seqItems hS rfl ?_);show wpAny _ A.in1 (tryCatch (pyNext (.ref I)) _ >>= _) _ _ s;refine wpAny_bind (wpAny_tryCatch (wpAny_pyNext_list_item (A:=A.in1) hit hl (x:=.ref bs[j].1) (by simp[af]) λ h' bT sb=>?_));have di:Heap.SameBut I s.heap h':=sb;have be:h'.get? S=_:=(di.2 S j8).trans hS;have h8:h'.IsList l (bs.map λ b=>yG b.1).toArray:=hl.at λ o e=>(di.2 l j9).trans e;have iw:∀b∈bs,IsTup h' b.1 (tv b.1):=λ b hb=>by
   obtain⟨o,ho,r⟩:=ht b hb;exact⟨o,(di.2 b.1 (mw b hb).1).trans ho,r⟩
  cases hb:B9 (bs.take j) with
  |none =>
   unfold Jb at be ⊢;rw[hb] at be ⊢;show wpAny _ A.in1 (updateSeq S (λ _=>#[.ref bs[j].1,.ref bs[j].1]) >>= _) _ _ _;refine wpAny_bind ?_;refine wpAny_updateSeq be rfl ?_;rw[bd];have s1:=Heap.SameBut.update h' S (Obj.mapSeq λ _=>(#[.ref bs[j].1,.ref bs[j].1]:Array Value));refine wpAny_pure ⟨plainId_quiet za8 _,ih (j+1) _ (c+1) (by omega) af (bT.at λ o e=>(s1.2 I (zY j8)).trans e) (h8.at λ o e=>(s1.2 l qv).trans e) (λ b hb=>?_) ?_ λ ix tk bU=>?_⟩
   ·obtain⟨o,ho,r⟩:=iw b hb;exact⟨o,(s1.2 b.1 (mw b hb).2).trans ho,r⟩
   ·refine (Heap.get?_update_self _ be rfl).trans ?_;unfold Jb;rw[ej,IA,hb];rfl
   ·exact hR ix tk λ b o h1 h2 e=>bU b o h1 h2 ((s1.2 b h2).trans ((di.2 b h1).trans e))
  |some m =>
   have mm:m∈bs:=zS (OV _ _ hb);unfold Jb at be ⊢;rw[hb] at be ⊢;show wpAny _ A.in1 (tryCatch (holding [.ref bs[j].1,.ref bs[j].1] (richCompare .Lt (.ref bs[j].1) (.ref m.1) >>= _)) _ >>= _) _ _ _;refine wpAny_bind (wpAny_tryCatch (wpAny_holding (wpAny_bind (HT.MA (iw _ mj) (iw _ mm) (hk _ mj) (hk _ mm) hu ?_))));refine wpAny_bind (wpAny_holding (wpAny_truthy_bool ?_));refine wpAny_bind (wpAny_letGo (wpAny_pure ?_));cases hc:HT.lexLt bs[j].2 m.2 with
   |true =>
    simp only[if_true];have s1:=Heap.SameBut.update h' S (Obj.mapSeq λ _=>(#[.ref bs[j].1,.ref bs[j].1]:Array Value));refine wpAny_bind ?_;refine wpAny_updateSeq be rfl (wpAny_bind (wpAny_letGo ?_));rw[bd];refine wpAny_pure ⟨plainId_quiet za8 _,ih (j+1) _ c (by omega) af (bT.at λ o e=>(s1.2 I (zY j8)).trans e) (h8.at λ o e=>(s1.2 l qv).trans e) (λ b hb=>?_) ?_ λ ix tk bU=>?_⟩
    ·obtain⟨o,ho,r⟩:=iw b hb;exact⟨o,(s1.2 b.1 (mw b hb).2).trans ho,r⟩
    ·refine (Heap.get?_update_self _ be rfl).trans ?_;unfold Jb;rw[ej,IA,hb];simp only[hc,if_true];rfl
    ·exact hR ix tk λ b o h1 h2 e=>bU b o h1 h2 ((s1.2 b h2).trans ((di.2 b h1).trans e))
   |false =>
    simp only[zC,if_false];refine wpAny_bind (wpAny_letGo ?_);rw[bd];refine wpAny_pure ⟨plainId_quiet za8 _,ih (j+1) _ c (by omega) af bT h8 iw ?_ λ ix tk bU=>?_⟩
    ·refine be.trans ?_;unfold Jb;rw[ej,IA,hb];simp only[hc,zC,if_false]
    ·exact hR ix tk λ b o h1 h2 e=>bU b o h1 h2 ((di.2 b h1).trans e)
def MN {E:Value->Shared->Prop}{s:Shared}{Q:Value->Shared->Prop}(bs:List (Addr×List Int))(tv:Addr->Array Value)(l:Addr)(o:Option Value)(mt:o=none->bs≠[])(hh:A.handled=none)(hu:A.in1.units<cLine)
 (hl:s.heap.IsList l (bs.map λ b=>yG b.1).toArray) (ht:∀b∈bs,IsTup s.heap b.1 (tv b.1)) (hk:∀b∈bs,IntsAre (tv b.1).toList b.2)
 (hQ:∀h' tk,(∀b o,s.heap.get? b=some o->h'.get? b=some o)->Q (match B9 bs with|none=>o.getD .none|some b=>.ref b.1) {s with heap:=h',toks:=tk}):
 wpAny (model prog w) A (call (.builtin "min") [.ref l] (rW o)) Q E s:=by
 have bd:(toString "min" ++ toString ".loop" : String) = "min.loop" := by decide
 obtain⟨ol,mx,_⟩:=id hl;have qw:l<s.heap.objs.size:=zw mx;refine kmk_tree PySem.F.kind_min PySem.F.plain_min PySem.F.entry_min (YC _ _) ?_;show wpAny _ A.in1 (Builtin.Builtins.bindParams "min" ["key","default"] 0 ⟨[],rW o⟩ >>= _) _ _ s;refine wpAny_bind (wpAny_of_eq (show Builtin.Builtins.bindParams "min" ["key","default"] 0 ⟨[],rW o⟩=pure [none,o] by cases o<;>rfl) ?_);refine wpAny_bind (wpAny_pure ?_);refine wpAny_bind (wpAny_pyIter_list hl ?_);refine wpAny_bind (wpAny_newList ?_ (zM _));rw[bd];have hS:(s.heap.push {cls:=.type "list_iterator",data:=.fields #[.ref l,.int 0 0]}).objs.size=s.heap.objs.size+1:=Heap.size_push ..;have old:∀b o,s.heap.get? b=some o->b≠s.heap.objs.size/\b≠(s.heap.push {cls:=.type "list_iterator",data:=.fields #[.ref l,.int 0 0]}).objs.size:=λ b o e=>⟨zD (zw e),by rw[hS];exact zD (Nat.lt_succ_of_lt (zw e))⟩;have grow:∀b o,s.heap.get? b=some o->((s.heap.push {cls:=.type "list_iterator",data:=.fields #[.ref l,.int 0 0]}).push {cls:=.type "list",data:=.seq #[]}).get? b=some o:=λ b o e=>zp _ (zp _ e);refine wpAny_pure ⟨plainId_quiet za8 _,?_⟩;refine YD bs tv l s.heap.objs.size (s.heap.push {cls:=.type "list_iterator",data:=.fields #[.ref l,.int 0 0]}).objs.size o mt hh hu (by rw[hS];exact Nat.succ_ne_self _) (old l ol mx).1 (old l ol mx).2 (λ b hb=>?_) hk _ 0 _ 0 rfl (zM _) ?_ ?_ (λ b hb=>?_) ?_ ?_
 ·obtain⟨o,ho,_⟩:=ht b hb;exact old b.1 o ho
 ·exact⟨_,zp _ (z9 _ rfl),rfl,rfl⟩
 ·exact hl.at λ o e=>grow l o e
 ·obtain⟨o,ho,r⟩:=ht b hb;exact⟨o,grow b.1 o ho,r⟩
 ·exact z9 _ rfl
 ·intro h' tk fc;exact hQ h' tk λ b o e=>fc b o (old b o e).1 (old b o e).2 (grow b o e)
end
section
variable {X:Cx}{e e2:Expr}{te td:TE}{p pos kp:Pos}
abbrev rX (K:za)(te td:TE):TE:=λ σ H Q=>te σ H λ x H1=>td σ H1 λ d H2=>∃(a:Addr) (bs:List (Addr×List Int)),x=.ref a/\D2 K H2 a (bs.map λ b=>V.ref b.1)/\(∀b∈bs,Fd K H2 b.1 (b.2.map V.int))/\Q (match B9 bs with | none=>d | some b=>.ref b.1) H2
def KD:∀ {bs:List (Addr×List Int)}{us:List Value},Vals (bs.map λ b=>V.ref b.1) us->us=bs.map λ b=>yG b.1
 |[],_,.nil=>rfl
 |b::r,_,.cons h t=>by cases h;rw[KD t];rfl
def fL (hc:X.calm=true)(hu:X.A.units+1<cLine)(hg:Gl X "min")(hm:X.mg "min" = none)(he:PE X e te)(hd:PE X e2 td)(aL: ~~~(starEach [e] X.env=[(false,eval e X.env)]))(a8: ~~~((backToKw pos (keywordEach [⟨some "default",e2,kp⟩] X.env)).all (·.1.isSome)=true))(my: ~~~((backToKw pos (keywordEach [⟨some "default",e2,kp⟩] X.env)).filterMap (·.1)=([("default" : Str)]:List Str)))(mz: ~~~((backToKw pos (keywordEach [⟨some "default",e2,kp⟩] X.env)).any (·.1.isNone)=false))(bF: ~~~(backTo pos (starEach [e] X.env)=(false,eval e X.env)::backTo pos (starEach [] X.env)))(aq: ~~~((backTo pos (starEach [e] X.env)).any (·.1)=false)):
 PE X (.Call (.Name "min" p) [e] [⟨some "default",e2,kp⟩] pos) (rX X.K te td):=by
 intro pins s σ H Q I h;refine wpAny_Call_Name_kw (Dp I hg hm boot_min ?_ (by decide) (by decide));refine callWith_kw (Bi ((Bf he Cp (hs:=aL)) pos pins s σ H (λ vs H1=>match vs with|[x]=>td σ H1 λ d H2=>∃(a:Addr) (bs:List (Addr×List Int)),x=.ref a/\D2 X.K H2 a (bs.map λ b=>V.ref b.1)/\(∀b∈bs,Fd X.K H2 b.1 (b.2.map V.int))/\Q (match B9 bs with|none=>d|some b=>.ref b.1) H2|_=>False) I h) λ us s1 zz=>?_) bF aq a8 mz;obtain⟨vs,H1,I1,r1,q1⟩:=zz;obtain⟨x,rfl⟩:∃x,vs=[x]:=by
  match vs,q1 with
  |[x],_=>exact⟨x,rfl⟩
 refine Bi ((eR hd mJ) pos pins s1 σ H1 (λ zs H2=>match zs with|[d]=>∃(a:Addr) (bs:List (Addr×List Int)),x=.ref a/\D2 X.K H2 a (bs.map λ b=>V.ref b.1)/\(∀b∈bs,Fd X.K H2 b.1 (b.2.map V.int))/\Q (match B9 bs with|none=>d|some b=>.ref b.1) H2|_=>False) I1 q1) λ ws s2 zz=>?_;obtain⟨zs,H2,I2,r2,q2⟩:=zz;obtain⟨d,rfl⟩:∃d,zs=[d]:=by
  match zs,q2 with
  |[d],_=>exact⟨d,rfl⟩
 obtain⟨a,bs,rfl,hl,hb,q⟩:=q2;obtain⟨ua,rfl,ra⟩:=r1.one;obtain⟨ud,rfl,rd⟩:=r2.one;cases ra;rw[my];obtain⟨aa,rv,pl,hz⟩:=I2.list hl;have ei:=KD rv;subst ei;have tv:∀a:Addr,∃t:Array Value,∀b∈bs,b.1=a->IsTup s2.heap a t/\IntsAre t.toList b.2:=λ a=>by
  by_cases bV:∃b∈bs,b.1=a
  ·obtain⟨b,bV,rfl⟩:=bV;obtain⟨ts,rt,pt,_⟩:=I2.tuple (hb b bV);refine⟨ts.toArray,λ b' aA e=>⟨pt,?_⟩⟩;have q2:=hb b' aA;rw[e] at q2;have e2:=I2.Hn q2 (hb b bV);rw[<-e2] at rt;simpa using intsAre_of rt
  ·exact⟨#[],λ b aA e=>absurd ⟨b,aA,e⟩ bV⟩
 refine MN bs (λ b=>zg (tv b)) a (some ud) (λ h=>by cases h) (I2.ok.hd hc) hu pl.isList (λ b aA=>(zb (tv b.1) b aA rfl).1) (λ b aA=>(zb (tv b.1) b aA rfl).2) λ h' tk hk=>?_;refine⟨match B9 bs with|none=>d|some b=>.ref b.1,H2,I2.kept (t':=tk) hk,?_,q⟩;cases B9 bs with
 |none=>exact rd
 |some b=>rfl
end
inductive D where
 |AK|bl (b:Bool)|int (i:Int)|str (x:Str)|tup (ds:List D)|lst (ds:List D)|ET (x:Str)|Bn (t:Bool) (ks vs:List D)|ins (x:Str) (ns:List Str) (ds:List D)
abbrev Dj:Key->D
 | .inl i=>.int i
 | .inr x=>.str x
def Rd.same {H H':Hp}{a:Addr}{u:HO}(r:Rd H a u)(e:Ae H H'):Rd H' a u:=r.elim (λ h=>.inl (e _ _ h)) λ⟨o,h⟩=>.inr ⟨o,e _ _ h⟩
mutual
inductive BV (K:za) (H:Hp):V->D->Prop
 |AK:BV K H .AK .AK
 |bl (b):BV K H (.bl b) (.bl b)
 |int (i):BV K H (.int i) (.int i)
 |str (x):BV K H (.str x) (.str x)
 |tup {a xs ds}:H a=some (.tup xs)->Ah K H xs ds->BV K H (.ref a) (.tup ds)
 |lst {a xs ds}:D2 K H a xs->Ah K H xs ds->BV K H (.ref a) (.lst ds)
 |Vi {a kvs ds}:Rd H a (.dK kvs)->Ah K H (kvs.map yT) ds->BV K H (.ref a) (.Bn false (kvs.map λ kv=>Dj kv.1) ds)
 |Vj {a kvs ds}:Rd H a (.dT kvs)->Ah K H (kvs.map yT) ds->BV K H (.ref a) (.Bn true (kvs.map λ kv=>.tup (kv.1.map Dj)) ds)
 |ins {a C dx fs x ds}:zE K mainGlobals x=some (some (.ref C))->H a=some (.ins C dx fs)->Ah K H (fs.map yT) ds->BV K H (.ref a) (.ins x (fs.map zH) ds)
 |ET {a x}:zE K mainGlobals x=some (some (.ref a))->True->BV K H (.ref a) (.ET x)
inductive Ah (K:za) (H:Hp):List V->List D->Prop
 |nil:Ah K H [] []
 |cons {x d xs ds}:BV K H x d->Ah K H xs ds->Ah K H (x::xs) (d::ds)
end
def Ah.length {K:za}{H:Hp}:∀ {xs:List V}{ds:List D},Ah K H xs ds->xs.length=ds.length
 |_,_,.nil=>rfl
 |_,_,.cons _ t=>by rw[zk,zk,Ah.length t]
def Ah.get {K:za}{H:Hp}:∀ {xs:List V}{ds:List D}{i:Nat}{d:D},Ah K H xs ds->ds[i]?=some d->∃x,xs[i]?=some x/\BV K H x d
 |_,_,_,_,.nil,e=>by simp at e
 |_,_,0,_,.cons r _,e=>by simp at e;subst e;exact⟨_,rfl,r⟩
 |_,_,i+1,d,.cons _ t,e=>by
  obtain⟨u,h1,h2⟩:=Ah.get (i:=i) (d:=d) t (by simpa using e);exact⟨u,by simpa using h1,h2⟩
def Ah.mZ {K:za}{H:Hp}:∀ {xs:List V}{ds:List D}{i:Nat}{x:V},Ah K H xs ds->xs[i]?=some x->∃d,ds[i]?=some d/\BV K H x d
 |_,_,_,_,.nil,e=>by simp at e
 |_,_,0,_,.cons r _,e=>by simp at e;subst e;exact⟨_,rfl,r⟩
 |_,_,i+1,d,.cons _ t,e=>by
  obtain⟨u,h1,h2⟩:=Ah.mZ (i:=i) (x:=d) t (by simpa using e);exact⟨u,by simpa using h1,h2⟩
def Ah.append {K:za}{H:Hp}:∀ {xs ys:List V}{ds es:List D},Ah K H xs ds->Ah K H ys es->Ah K H (xs++ys) (ds++es):=by
 intro _ _ _ _ x_ h;cases x_ with
 |nil=>exact h
 |cons r t=>exact .cons r (Ah.append t h)
def Ah.snoc {K:za}{H:Hp}{xs:List V}{ds:List D}{x:V}{d:D}(h:Ah K H xs ds)(r:BV K H x d):Ah K H (xs++[x]) (ds++[d]):=h.append (.cons r .nil)
def Ah.take {K:za}{H:Hp}:∀ {xs:List V}{ds:List D}(n:Nat),Ah K H xs ds->Ah K H (xs.take n) (ds.take n)
 |_,_,0,_|_,_,_+1,.nil=>.nil
 |_,_,n+1,.cons r t=>.cons r (Ah.take n t)
def Ah.drop {K:za}{H:Hp}:∀ {xs:List V}{ds:List D}(n:Nat),Ah K H xs ds->Ah K H (xs.drop n) (ds.drop n)
 |_,_,0,r=>r
 |_,_,_+1,.nil=>.nil
 |_,_,n+1,.cons _ t=>Ah.drop n t
def Ah.ints {K:za}{H:Hp}:∀(ns:List Int),Ah K H (ns.map V.int) (ns.map D.int)
 |[]=>.nil
 |n::r=>.cons (.int n) (Ah.ints r)
def Ae.vY {K:za}{H H':Hp}{a:Addr}{xs:List V}(e:Ae H H')(h:Fd K H a xs):Fd K H' a xs:=by
 rcases h with (h|⟨o,h⟩)|h
 ·exact .inl (.inl (e _ _ h))
 ·exact .inl (.inr ⟨o,e _ _ h⟩)
 ·exact .inr h
mutual
theorem BV.mono {K:za}{H H':Hp}(e:Ae H H'):∀ {v:V}{d:D},BV K H v d->BV K H' v d:=by
 intro _ _ x_;cases x_ with
 |AK=>exact .AK
 |bl b=>exact .bl b
 |int i=>exact .int i
 |str x=>exact .str x
 |tup h r=>exact .tup (e _ _ h) (Ah.mono e r)
 |lst h r=>exact .lst (e.seq h) (Ah.mono e r)
 |Vi h r=>exact .Vi (h.same e) (Ah.mono e r)
 |Vj h r=>exact .Vj (h.same e) (Ah.mono e r)
 |ins n h r=>exact .ins n (e _ _ h) (Ah.mono e r)
 |ET h r=>exact .ET h r
theorem Ah.mono {K:za}{H H':Hp}(e:Ae H H'):∀ {vs:List V}{ds:List D},Ah K H vs ds->Ah K H' vs ds:=by
 intro _ _ x_;cases x_ with
 |nil=>exact .nil
 |cons h t=>exact .cons (BV.mono e h) (Ah.mono e t)
end
def AS {H:Hp}{p:Addr}(h:H p=none)(o:HO):Ae H (upd H p o):=λ b u q=>by rw[Ai (Ax q h)];exact q
mutual
noncomputable def Ba:D->D->Bool
 | .AK,.AK=>true
 | .bl a,.bl b| .int a,.int b| .str a,.str b=>a==b
 | .bl a,.int b=>(if a then 1 else 0)==b
 | .int a,.bl b=>a==(if b then 1 else 0)
 | .tup a,.tup b| .lst a,.lst b=>Cq a b
 | .ET a,.ET b=>a==b
 | .Bn s a b,.Bn t c d=>(s==t)&&(Cq a c&&Cq b d)
 | .ins x n a,.ins y m b=>(x==y)&&((n==m)&&Cq a b)
 |_,_=>false
noncomputable def Cq:List D->List D->Bool
 |[],[]=>true
 |a::r,b::t=>Ba a b&&Cq r t
 |_,_=>false
end
mutual
theorem MO:∀d:D,Ba d d=true
 | .AK=>by simp[Ba]
 | .bl b| .int b| .str b=>by simp[Ba]
 | .tup b| .lst b=>by simp only[Ba];exact CI b
 | .ET b=>by simp[Ba]
 | .Bn s a b=>by simp only[Ba];rw[CI a,CI b];simp
 | .ins x n a=>by simp only[Ba];rw[CI a];simp
theorem CI:∀d:List D,Cq d d=true
 |[]=>by simp[Cq]
 |a::r=>by simp only[Cq,MO a,CI r,Bool.and_true]
end
mutual
noncomputable def C9:D->Bool
 | .tup a| .lst a=>Gn a
 | .ET _| .Bn _ _ _| .ins _ _ _=>false
 |_=>true
noncomputable def Gn:List D->Bool
 |[]=>true
 |a::r=>C9 a&&Gn r
end
def Hq:∀ {ds:List D}{d:D},d∈ds->Gn ds=true->C9 d=true
 |a::r,d,h,q=>by
  rw[Gn,zG] at q;rcases zq.mp h with z|z
  ·subst z;exact q.1
  ·exact Hq z q.2
mutual
noncomputable def OW:D->Nat
 | .tup a| .lst a=>KG a+1
 |_=>0
noncomputable def KG:List D->Nat
 |[]=>0
 |a::r=>max (OW a) (KG r)
end
def Qj:∀ {ds:List D}{d:D},d∈ds->OW d<=KG ds
 |a::r,d,h=>by
  rw[KG];rcases zq.mp h with z|z
  ·subst z;exact Nat.le_max_left _ _
  ·exact zZ (Qj z) (Nat.le_max_right _ _)
def S0:∀ {a b:List D},Cq a b=true->a.length=b.length
 |[],[],_=>rfl
 |[],_::_,h|_::_,[],h=>by simp[Cq] at h
 |a::r,b::t,h=>by
  simp only[Cq,zG] at h;rw[zk,zk,S0 h.2]
def IC:∀(a b:List D),a.length=b.length->(yO a.length).all (λ j=>Ba (a.getD j .AK) (b.getD j .AK))=Cq a b
 |[],[],_=>by simp[Cq]
 |a::r,b::t,h=>by
  have ih:=IC r t (by simpa using h);rw[zk,List.range_succ_eq_map,List.all_cons,List.all_map,Cq,<-ih];simp[Function.comp_def]
 |[],_::_,h|_::_,[],h=>by cases h
def Vk {a b:List D}(h:a.length≠b.length):Cq a b=false:=by
 cases e:Cq a b with
 |false=>rfl
 |true=>exact absurd (S0 e) h
def YE (a b:List D):((yO (min a.length b.length)).all (λ j=>Ba (a.getD j .AK) (b.getD j .AK))&&(a.length==b.length))=Cq a b:=by
 by_cases h:a.length=b.length
 ·rw[<-IC a b h,h];simp
 ·rw[Vk h,beq_false_of_ne h,Bool.and_false]
section
variable {X:Cx}{pins:List (Addr×Obj)}{σ:St}{H:Hp}{s:Shared}
def Vl (I:Inv X pins σ H s){a:Addr}{xs ys:List V}(h:D2 X.K H a xs)(h':Fd X.K H a ys):False:=by
 obtain⟨aa,_,⟨o,n,e,c,_,_⟩,_⟩:=I.list h;obtain⟨its',_,⟨o',e',c',_⟩,_⟩:=I.tuple h';rw[e] at e';cases e';rw[c] at c';revert c';decide
mutual
theorem Vm (I:Inv X pins σ H s){v:V}{d d':D}(n1:C9 d=true)(n2:C9 d'=true)(h:BV X.K H v d)(h':BV X.K H v d'):d=d':=by
 cases h with
 |tup h r =>
  cases h' with
  |tup h' r' =>
   have e:=I.Hn (.of h) (.of h');subst e;rw[Gp I (by rw[C9] at n1;exact n1) (by rw[C9] at n2;exact n2) r r']
  |lst h' _=>exact (Vl I h' (.of h)).elim
  |_=>rw[C9] at n2;cases n2
 |lst h r =>
  cases h' with
  |lst h' r' =>
   have e:=I.Gf h h';subst e;rw[Gp I (by rw[C9] at n1;exact n1) (by rw[C9] at n2;exact n2) r r']
  |tup h' _=>exact (Vl I h (.of h')).elim
  |_=>rw[C9] at n2;cases n2
 |AK|bl _|int _|str _=>cases h';rfl
 |_=>rw[C9] at n1;cases n1
theorem Gp (I:Inv X pins σ H s){v:List V}{d d':List D}(n1:Gn d=true)(n2:Gn d'=true)(h:Ah X.K H v d)(h':Ah X.K H v d'):d=d':=by
 cases h with
 |nil=>cases h';rfl
 |cons h r =>
  cases h' with
  |cons h' r' =>
   rw[Gn,zG] at n1 n2;rw[Vm I n1.1 n2.1 h h',Gp I n1.2 n2.2 r r']
end
def wX {xs:List V}{aa:List Value}(r:Vals xs aa)(j:Nat)(h:j<aa.toArray.size):∃x,xs[j]?=some x/\RelV x aa.toArray[j]:=by
 have h':j<aa.length:=by simpa using h
 have hx:j<xs.length:=by rw[r.length];exact h'
 obtain⟨u,hu,ru⟩:=r.get (zh hx);rw[zh h'] at hu;refine⟨xs[j],zh hx,?_⟩;have e:aa.toArray[j]=u:=by simpa using hu
 rw[e];exact ru
def Vn {ds:List D}{j:Nat}{d:D}(h:ds[j]?=some d):ds.getD j .AK=d:=by rw[zu,h];rfl
def YF (I:Inv X pins σ H s)(n:Nat):∀(A:Around) (d e:D) (v w:V) (u1 u2:Value),OW d<=n->C9 d=true->C9 e=true->A.units+n<cLine->BV X.K H v d->BV X.K H w e->RelV v u1->RelV w u2->SeqAt.EqAt A s u1 u2 (Ba d e)/\SeqAt.RcAt A s u1 u2 (Ba d e)/\SeqAt.RcNeAt A s u1 u2 (!Ba d e):=by
 induction n using Nat.strongRecOn with
 |ind n ih =>
  intro A d e v w u1 u2 hd aF au hu h1 h2 r1 r2;have ai:A.units<cLine:=by omega
  have el:∀ {xs ys:List V} {ds es:List D} {aa its':List Value},Vals xs aa->Vals ys its'->Ah X.K H xs ds->Ah X.K H ys es->Gn ds=true->Gn es=true->KG ds<n->∀(j:Nat) (h1:j<aa.toArray.size) (h2:j<its'.toArray.size),SeqAt.EqAt A.in1 s aa.toArray[j] its'.toArray[j] (Ba (ds.getD j .AK) (es.getD j .AK)):=λ rv cq r r' n1 n2 hn j h1 h2=>by
   obtain⟨x,hx,rx⟩:=wX rv j h1;obtain⟨y,hy,ry⟩:=wX cq j h2;obtain⟨dx,ex,ul⟩:=r.mZ hx;obtain⟨dy,ey,um⟩:=r'.mZ hy;rw[Vn ex,Vn ey];exact (ih _ hn A.in1 dx dy x y _ _ (Qj (zr ex)) (Hq (zr ex) n1) (Hq (zr ey) n2) (by show A.units+1+_<cLine;omega) ul um rx ry).1
  cases h1 with
  |ET _ _|Vi _ _|Vj _ _|ins _ _ _=>simp[C9] at aF
  |AK =>
   cases r1;cases h2 with
   |ET _ _|Vi _ _|Vj _ _|ins _ _ _=>simp[C9] at au
   |AK=>cases r2;simp only[Ba];exact⟨.same _,.none_none,.none_none⟩
   |bl b=>cases r2;simp only[Ba];exact⟨.none_bool _,.none_bool _,.none_bool _⟩
   |int b=>obtain⟨t,rfl⟩:=r2;simp only[Ba];exact⟨.none_int _ _,.none_int _ _,.none_int _ _⟩
   |str b=>obtain⟨t,rfl⟩:=r2;simp only[Ba];exact⟨.none_str _ _,.none_str _ _,.none_str _ _⟩
   |tup h r=>cases r2;simp only[Ba];obtain⟨_,_,p,_⟩:=I.tuple (.of h);exact⟨.none_tuple p ai,.none_tuple p ai,.none_tuple p ai⟩
   |lst h r=>cases r2;simp only[Ba];obtain⟨_,_,p,_⟩:=I.list h;exact⟨.none_list p.isList ai,.none_list p.isList ai,.none_list p.isList ai⟩
  |bl a =>
   cases r1;cases h2 with
   |ET _ _|Vi _ _|Vj _ _|ins _ _ _=>simp[C9] at au
   |AK=>cases r2;simp only[Ba];exact⟨.bool_none _,.bool_none _,.bool_none _⟩
   |bl b=>cases r2;simp only[Ba];exact⟨.bool_bool _ _,.bool_bool _ _,.bool_bool _ _⟩
   |int b=>obtain⟨t,rfl⟩:=r2;simp only[Ba];exact⟨.bool_int _ _ _,.bool_int _ _ _,.bool_int _ _ _⟩
   |str b=>obtain⟨t,rfl⟩:=r2;simp only[Ba];exact⟨.bool_str _ _ _,.bool_str _ _ _,.bool_str _ _ _⟩
   |tup h r=>cases r2;simp only[Ba];obtain⟨_,_,p,_⟩:=I.tuple (.of h);exact⟨.bool_tuple _ p ai,.bool_tuple _ p ai,.bool_tuple _ p ai⟩
   |lst h r=>cases r2;simp only[Ba];obtain⟨_,_,p,_⟩:=I.list h;exact⟨.bool_list _ p.isList ai,.bool_list _ p.isList ai,.bool_list _ p.isList ai⟩
  |int a =>
   obtain⟨t',rfl⟩:=r1;cases h2 with
   |ET _ _|Vi _ _|Vj _ _|ins _ _ _=>simp[C9] at au
   |AK=>cases r2;simp only[Ba];exact⟨.int_none _ _,.int_none _ _,.int_none _ _⟩
   |bl b=>cases r2;simp only[Ba];exact⟨.int_bool _ _ _,.int_bool _ _ _,.int_bool _ _ _⟩
   |int b=>obtain⟨t,rfl⟩:=r2;simp only[Ba];exact⟨.int_int _ _ _ _,.int_int _ _ _ _,.int_int _ _ _ _⟩
   |str b=>obtain⟨t,rfl⟩:=r2;simp only[Ba];exact⟨.int_str _ _ _ _,.int_str _ _ _ _,.int_str _ _ _ _⟩
   |tup h r=>cases r2;simp only[Ba];obtain⟨_,_,p,_⟩:=I.tuple (.of h);exact⟨.int_tuple _ _ p ai,.int_tuple _ _ p ai,.int_tuple _ _ p ai⟩
   |lst h r=>cases r2;simp only[Ba];obtain⟨_,_,p,_⟩:=I.list h;exact⟨.int_list _ _ p.isList ai,.int_list _ _ p.isList ai,.int_list _ _ p.isList ai⟩
  |str a =>
   obtain⟨t',rfl⟩:=r1;cases h2 with
   |ET _ _|Vi _ _|Vj _ _|ins _ _ _=>simp[C9] at au
   |AK=>cases r2;simp only[Ba];exact⟨.str_none _ _,.str_none _ _,.str_none _ _⟩
   |bl b=>cases r2;simp only[Ba];exact⟨.str_bool _ _ _,.str_bool _ _ _,.str_bool _ _ _⟩
   |int b=>obtain⟨t,rfl⟩:=r2;simp only[Ba];exact⟨.str_int _ _ _ _,.str_int _ _ _ _,.str_int _ _ _ _⟩
   |str b=>obtain⟨t,rfl⟩:=r2;simp only[Ba];exact⟨.str_str _ _ _ _,.str_str _ _ _ _,.str_str _ _ _ _⟩
   |tup h r=>cases r2;simp only[Ba];obtain⟨_,_,p,_⟩:=I.tuple (.of h);exact⟨.str_tuple _ _ p ai,.str_tuple _ _ p ai,.str_tuple _ _ p ai⟩
   |lst h r=>cases r2;simp only[Ba];obtain⟨_,_,p,_⟩:=I.list h;exact⟨.str_list _ _ p.isList ai,.str_list _ _ p.isList ai,.str_list _ _ p.isList ai⟩
  | @tup a xs ds h r =>
   cases r1;obtain⟨aa,rv,p,_⟩:=I.tuple (.of h);cases h2 with
   |ET _ _|Vi _ _|Vj _ _|ins _ _ _=>simp[C9] at au
   |AK=>cases r2;simp only[Ba];exact⟨.tuple_none p ai,.tuple_none p ai,.tuple_none p ai⟩
   |bl b=>cases r2;simp only[Ba];exact⟨.tuple_bool _ p ai,.tuple_bool _ p ai,.tuple_bool _ p ai⟩
   |int b=>obtain⟨t,rfl⟩:=r2;simp only[Ba];exact⟨.tuple_int _ _ p ai,.tuple_int _ _ p ai,.tuple_int _ _ p ai⟩
   |str b=>obtain⟨t,rfl⟩:=r2;simp only[Ba];exact⟨.tuple_str _ _ p ai,.tuple_str _ _ p ai,.tuple_str _ _ p ai⟩
   | @lst a2 m6 es h' r'=>cases r2;simp only[Ba];obtain⟨_,_,p',_⟩:=I.list h';exact⟨.tuple_list p p'.isList ai,.tuple_list p p'.isList ai,.tuple_list p p'.isList ai⟩
   | @tup a2 m6 es h' r' =>
    cases r2;obtain⟨its',cq,p',_⟩:=I.tuple (.of h');have z1:aa.toArray.size=ds.length:=by rw[zl,<-rv.length,r.length]
    have z2:its'.toArray.size=es.length:=by rw[zl,<-cq.length,r'.length]
    have hj:=el rv cq r r' (by rw[C9] at aF;exact aF) (by rw[C9] at au;exact au) (by rw[OW] at hd;omega);have q:=SeqAt.RcAt.tuples (A:=A) (e:=λ j=>Ba (ds.getD j .AK) (es.getD j .AK)) p p' ai hj;have q':=SeqAt.RcNeAt.tuples (A:=A) (e:=λ j=>Ba (ds.getD j .AK) (es.getD j .AK)) p p' ai hj;rw[z1,z2,YE] at q q';simp only[Ba];by_cases ha:a=a2
    ·subst ha;have e':=I.Hn (.of h) (.of h');subst e';have e2:=Gp I (by rw[C9] at aF;exact aF) (by rw[C9] at au;exact au) r r';subst e2;rw[CI] at q q' ⊢;exact⟨.same _,q,q'⟩
    ·exact⟨.of_refs ha q,q,q'⟩
  | @lst a xs ds h r =>
   cases r1;obtain⟨aa,rv,p,_⟩:=I.list h;cases h2 with
   |ET _ _|Vi _ _|Vj _ _|ins _ _ _=>simp[C9] at au
   |AK=>cases r2;simp only[Ba];exact⟨.list_none p.isList ai,.list_none p.isList ai,.list_none p.isList ai⟩
   |bl b=>cases r2;simp only[Ba];exact⟨.list_bool _ p.isList ai,.list_bool _ p.isList ai,.list_bool _ p.isList ai⟩
   |int b=>obtain⟨t,rfl⟩:=r2;simp only[Ba];exact⟨.list_int _ _ p.isList ai,.list_int _ _ p.isList ai,.list_int _ _ p.isList ai⟩
   |str b=>obtain⟨t,rfl⟩:=r2;simp only[Ba];exact⟨.list_str _ _ p.isList ai,.list_str _ _ p.isList ai,.list_str _ _ p.isList ai⟩
   | @tup a2 m6 es h' r'=>cases r2;simp only[Ba];obtain⟨_,_,p',_⟩:=I.tuple (.of h');exact⟨.list_tuple p.isList p' ai,.list_tuple p.isList p' ai,.list_tuple p.isList p' ai⟩
   | @lst a2 m6 es h' r' =>
    cases r2;obtain⟨its',cq,p',_⟩:=I.list h';have z1:aa.toArray.size=ds.length:=by rw[zl,<-rv.length,r.length]
    have z2:its'.toArray.size=es.length:=by rw[zl,<-cq.length,r'.length]
    have hj:=el rv cq r r' (by rw[C9] at aF;exact aF) (by rw[C9] at au;exact au) (by rw[OW] at hd;omega);have qq:SeqAt.RcAt A s (.ref a) (.ref a2) (Cq ds es)/\SeqAt.RcNeAt A s (.ref a) (.ref a2) (!Cq ds es):=by
     by_cases hz:aa.toArray.size=its'.toArray.size
     ·have q:=SeqAt.RcAt.lists (A:=A) (e:=λ j=>Ba (ds.getD j .AK) (es.getD j .AK)) p.isList p'.isList hz ai hj;have q':=SeqAt.RcNeAt.lists (A:=A) (e:=λ j=>Ba (ds.getD j .AK) (es.getD j .AK)) p.isList p'.isList hz ai hj;rw[z1,IC ds es (by rw[<-z1,<-z2,hz])] at q q';exact⟨q,q'⟩
     ·rw[Vk (by rw[<-z1,<-z2];exact hz)];exact⟨.lists_lengths p.isList p'.isList (by simpa using hz) ai,.lists_lengths p.isList p'.isList (by simpa using hz) ai⟩
    obtain⟨q,q'⟩:=qq;simp only[Ba];by_cases ha:a=a2
    ·subst ha;have e':=I.Gf h h';subst e';have e2:=Gp I (by rw[C9] at aF;exact aF) (by rw[C9] at au;exact au) r r';subst e2;rw[CI] at q q' ⊢;exact⟨.same _,q,q'⟩
    ·exact⟨.of_refs ha q,q,q'⟩
abbrev fM (K:za)(A:Around)(neg:Bool):R2:=λ x y H Q=>∃d e,BV K H x d/\BV K H y e/\A.units+OW d<cLine/\C9 d=true/\C9 e=true/\Q (.bl (if neg=true then !Ba d e else Ba d e)) H
def YG:Gb X (compareOp .Eq) (fM X.K X.A false):=by
 intro pins s σ H x y v u Q I rx ry h;obtain⟨d,e,hd,he,hu,n1,n2,q⟩:=h;exact (YF I (OW d) X.A d e x y v u (zv _) n1 n2 hu hd he rx ry).2.1 X.prog X.w X.xe _ ⟨.bl _,H,I,rfl,q⟩
def nA:Gb X (compareOp .NotEq) (fM X.K X.A true):=by
 intro pins s σ H x y v u Q I rx ry h;obtain⟨d,e,hd,he,hu,n1,n2,q⟩:=h;exact (YF I (OW d) X.A d e x y v u (zv _) n1 n2 hu hd he rx ry).2.2 X.prog X.w X.xe _ ⟨.bl _,H,I,rfl,q⟩
end
inductive OT where
 |sh (d:D)|lst (ts:List OT)|tup (ts:List OT)|Bn (t:Bool) (ks:List D) (ts:List OT)|ins (x:Str) (ns:List Str) (ts:List OT)
inductive Ow where
 |rows (C5:List (List D))
 |Ia (p:Nat) (ds:List D)
 |tree (p:Option Nat) (t:OT)
inductive Cl where
 |val (d:D)|own (ds:List D)|ow (o:Ow)
noncomputable abbrev Ac:=List (Option Cl)
inductive M (α:Type) where
 |ok (a:α)|ex (c:Str)|bad
abbrev M.bind {α β:Type}(m:M α)(k:α->M β):M β:=match m with
 | .ok a=>k a
 | .ex c=>.ex c
 | .bad=>.bad
@[simp] theorem M.A9 {α β:Type}(a:α) (k:α->M β):(M.ok a).bind k=k a:=rfl
def YH {α β:Type}{m:M α}{k:α->M β}{G:M β->Prop}{R:M α->Prop}(h:G (m.bind k))(hk:∀a,G (k a)->R (.ok a))(hb:G .bad->R .bad:=by exact λ h=>h)(hx:∀x,G (.ex x)->R (.ex x):=by exact λ _ h=>h):R m:=by
 cases m with
 |ok a=>exact hk a h
 |ex x=>exact hx x h
 |bad=>exact hb h
abbrev del (H:Hp)(P:Addr->Prop):Hp:=λ a=>open Classical in if P a then none else H a
def As {H:Hp}{P:Addr->Prop}{a:Addr}(h:¬ P a):del H P a=H a:=by unfold del;rw[if_neg h]
def D4 {H:Hp}{P:Addr->Prop}{a:Addr}(h:P a):del H P a=none:=by unfold del;rw[if_pos h]
def Ak {H:Hp}{P:Addr->Prop}{a:Addr}{o:HO}(h:del H P a=some o):¬ P a/\H a=some o:=by
 by_cases hp:P a
 ·rw[D4 hp] at h;cases h
 ·rw[As hp] at h;exact⟨hp,h⟩
def Rd.B5 {H:Hp}{P:Addr->Prop}{a:Addr}{u:HO}(r:Rd (del H P) a u):Rd H a u:=r.elim (λ h=>.inl (Ak h).2) λ⟨o,h⟩=>.inr ⟨o,(Ak h).2⟩
def Ae.del {H H':Hp}{P:Addr->Prop}(e:Ae H H'):Ae (del H P) (del H' P):=λ b o h=>by
 obtain⟨h1,h2⟩:=Ak h;rw[As h1];exact e b o h2
def CN {H:Hp}{P P':Addr->Prop}(h:∀a,P' a->P a):Ae (L2.del H P) (L2.del H P'):=λ b o e=>by
 obtain⟨h1,h2⟩:=Ak e;rw[As λ z=>h1 (h b z)];exact h2
def DY {H:Hp}{P:Addr->Prop}:Ae (L2.del H P) H:=λ b o e=>(Ak e).2
abbrev Dq (H:Hp)(a:Addr):Prop:=∃o,H a=some o/\∀xs,o≠.tup xs/\∀z,o≠.XS z (.tup xs)
def Dq.same {H H':Hp}{a:Addr}(h:Dq H a)(e:Ae H H'):Dq H' a:=let ⟨o,q,r⟩:=h;⟨o,e a o q,r⟩
def Dq.no {H:Hp}{a:Addr}(h:Dq H a)(e:H a=none):False:=by
 obtain⟨o,q,r⟩:=h;rw[e] at q;cases q
def Dq.lst {H:Hp}{a:Addr}{xs:List V}(h:H a=some (.lst xs)):Dq H a:=⟨_,h,λ _=>⟨λ z=>(by cases z),λ _ z=>by cases z⟩⟩
mutual
inductive C8 (K:za) (H:Hp) (P:Addr->Prop):V->OT->List Addr->Prop
 |sh {v d}:BV K (del H P) v d->C8 K H P v (.sh d) []
 |lst {p xs ts fp}:H p=some (.lst xs)->AD K H P xs ts fp->C8 K H P (.ref p) (.lst ts) (p::fp)
 |tup {p xs ts fp}:del H P p=some (.tup xs)->AD K H P xs ts fp->C8 K H P (.ref p) (.tup ts) fp
 |dK {p kvs ts fp}:H p=some (.dK kvs)->AD K H P (kvs.map yT) ts fp->C8 K H P (.ref p) (.Bn false (kvs.map λ kv=>Dj kv.1) ts) (p::fp)
 |dT {p kvs ts fp}:H p=some (.dT kvs)->AD K H P (kvs.map yT) ts fp->C8 K H P (.ref p) (.Bn true (kvs.map λ kv=>.tup (kv.1.map Dj)) ts) (p::fp)
 |ins {p C dx fs ts fp x}:zE K mainGlobals x=some (some (.ref C))->H p=some (.ins C dx fs)->AD K H P (fs.map yT) ts fp->C8 K H P (.ref p) (.ins x (fs.map zH) ts) (p::fp)
inductive AD (K:za) (H:Hp) (P:Addr->Prop):List V->List OT->List Addr->Prop
 |nil:AD K H P [] [] []
 |cons {v t fp vs ts fq}:C8 K H P v t fp->AD K H P vs ts fq->AD K H P (v::vs) (t::ts) (fp++fq)
end
mutual
noncomputable def er:OT->D
 | .sh d=>d
 | .lst ts=>.lst (OX ts)
 | .tup ts=>.tup (OX ts)
 | .Bn t ks ts=>.Bn t ks (OX ts)
 | .ins x ns ts=>.ins x ns (OX ts)
noncomputable def OX:List OT->List D
 |[]=>[]
 |t::r=>er t::OX r
end
def Qk:∀ts:List OT,OX ts=ts.map er
 |[]=>rfl
 |t::r=>by rw[OX,Qk r,zf]
mutual
theorem C8.move {K:za}{H H':Hp}{P P':Addr->Prop}(sm:Ae (del H P) (del H' P')):∀ {v:V}{t:OT}{fp:List Addr},(∀a∈fp,H' a=H a)->C8 K H P v t fp->C8 K H' P' v t fp:=by
 intro _ _ _ k x_;cases x_ with
 |sh h=>exact .sh (h.mono sm)
 |lst h r=>exact .lst ((k _ zd).trans h) (AD.move sm (λ a ha=>k a (ze _ ha)) r)
 |tup h r=>exact .tup (sm _ _ h) (AD.move sm k r)
 |dK h r=>exact .dK ((k _ zd).trans h) (AD.move sm (λ a ha=>k a (ze _ ha)) r)
 |dT h r=>exact .dT ((k _ zd).trans h) (AD.move sm (λ a ha=>k a (ze _ ha)) r)
 |ins n h r=>exact .ins n ((k _ zd).trans h) (AD.move sm (λ a ha=>k a (ze _ ha)) r)
theorem AD.move {K:za}{H H':Hp}{P P':Addr->Prop}(sm:Ae (del H P) (del H' P')):∀ {v:List V}{t:List OT}{fp:List Addr},(∀a∈fp,H' a=H a)->AD K H P v t fp->AD K H' P' v t fp:=by
 intro _ _ _ k x_;cases x_ with
 |nil=>exact .nil
 |cons h r=>exact .cons (C8.move sm (λ a ha=>k a (zJ _ ha)) h) (AD.move sm (λ a ha=>k a (zm _ ha)) r)
end
mutual
theorem C8.BX {K:za}{H:Hp}{P:Addr->Prop}:∀ {v:V}{t:OT}{fp:List Addr},C8 K H P v t fp->∀a∈fp,Dq H a:=by
 intro _ _ _ x_ a ha;cases x_ with
 |sh h=>cases ha
 |lst h r =>
  rcases zq.mp ha with rfl|ha
  ·exact .lst h
  ·exact AD.BX r a ha
 |tup h r=>exact AD.BX r a ha
 |dK h r =>
  rcases zq.mp ha with rfl|ha
  ·exact⟨_,h,λ _=>⟨λ z=>(by cases z),λ _ z=>by cases z⟩⟩
  ·exact AD.BX r a ha
 |dT h r =>
  rcases zq.mp ha with rfl|ha
  ·exact⟨_,h,λ _=>⟨λ z=>(by cases z),λ _ z=>by cases z⟩⟩
  ·exact AD.BX r a ha
 |ins n h r =>
  rcases zq.mp ha with rfl|ha
  ·exact⟨_,h,λ _=>⟨λ z=>(by cases z),λ _ z=>by cases z⟩⟩
  ·exact AD.BX r a ha
theorem AD.BX {K:za}{H:Hp}{P:Addr->Prop}:∀ {v:List V}{t:List OT}{fp:List Addr},AD K H P v t fp->∀a∈fp,Dq H a:=by
 intro _ _ _ x_ a ha;cases x_ with
 |nil=>cases ha
 |cons h r =>
  rcases zy.mp ha with ha|ha
  ·exact C8.BX h a ha
  ·exact AD.BX r a ha
end
mutual
theorem C8.Ci {K:za}{H:Hp}{P P':Addr->Prop}:∀ {v:V}{t:OT}{fp ag:List Addr},C8 K H P v t fp->C8 K H P' v t ag->fp=ag
 |_,_,_,_,.sh _,.sh _=>rfl
 |_,_,_,_,.lst h r,.lst h' r'=>by
  rw[h] at h';cases h';rw[AD.Ci r r']
 |_,_,_,_,.tup h r,.tup h' r'=>by
  have e:=(Ak h).2.symm.trans (Ak h').2;cases e;exact AD.Ci r r'
 |_,_,_,_,.dK (kvs:=kvs) (ts:=ts) h r,x=>by
  generalize ht:OT.Bn false (kvs.map λ kv=>Dj kv.1) ts=t at x;cases x with
  |dK h' r' =>
   rw[h] at h';cases h';injection ht with _ _ e
   subst e;rw[AD.Ci r r']
  |dT h' r'=>rw[h] at h';cases h'
  |_=>cases ht
 |_,_,_,_,.dT (kvs:=kvs) (ts:=ts) h r,x=>by
  generalize ht:OT.Bn true (kvs.map λ kv=>D.tup (kv.1.map Dj)) ts=t at x;cases x with
  |dT h' r' =>
   rw[h] at h';cases h';injection ht with _ _ e
   subst e;rw[AD.Ci r r']
  |dK h' r'=>rw[h] at h';cases h'
  |_=>cases ht
 |_,_,_,_,.ins (fs:=fs) (ts:=ts) (x:=y) n h r,x=>by
  generalize ht:OT.ins y (fs.map zH) ts=t at x;cases x with
  |ins n' h' r' =>
   rw[h] at h';cases h';injection ht with _ _ e
   subst e;rw[AD.Ci r r']
  |_=>cases ht
theorem AD.Ci {K:za}{H:Hp}{P P':Addr->Prop}:∀ {v:List V}{t:List OT}{fp ag:List Addr},AD K H P v t fp->AD K H P' v t ag->fp=ag
 |_,_,_,_,.nil,.nil=>rfl
 |_,_,_,_,.cons h r,.cons h' r'=>by rw[C8.Ci h h',AD.Ci r r']
end
mutual
theorem C8.has {K:za}{H:Hp}{P P0:Addr->Prop}(hs:∀a,P0 a->P a):∀ {v:V}{t:OT}{fp:List Addr},(∀a∈fp,¬ P0 a)->C8 K H P v t fp->BV K (del H P0) v (er t):=by
 intro _ _ _ k x_;cases x_ with
 |sh h=>rw[er];exact h.mono (CN hs)
 |lst h r=>rw[er];exact .lst (.of (show del H P0 _=_ by rw[As (k _ zd)];exact h)) (AD.has hs (λ a ha=>k a (ze _ ha)) r)
 |tup h r=>rw[er];exact .tup (CN hs _ _ h) (AD.has hs k r)
 |dK h r=>rw[er];exact .Vi (.inl (show del H P0 _=_ by rw[As (k _ zd)];exact h)) (AD.has hs (λ a ha=>k a (ze _ ha)) r)
 |dT h r=>rw[er];exact .Vj (.inl (show del H P0 _=_ by rw[As (k _ zd)];exact h)) (AD.has hs (λ a ha=>k a (ze _ ha)) r)
 |ins n h r=>rw[er];exact .ins n (show del H P0 _=_ by rw[As (k _ zd)];exact h) (AD.has hs (λ a ha=>k a (ze _ ha)) r)
theorem AD.has {K:za}{H:Hp}{P P0:Addr->Prop}(hs:∀a,P0 a->P a):∀ {v:List V}{t:List OT}{fp:List Addr},(∀a∈fp,¬ P0 a)->AD K H P v t fp->Ah K (del H P0) v (OX t):=by
 intro _ _ _ k x_;cases x_ with
 |nil=>rw[OX];exact .nil
 |cons h r=>rw[OX];exact .cons (C8.has hs (λ a ha=>k a (zJ _ ha)) h) (AD.has hs (λ a ha=>k a (zm _ ha)) r)
end
inductive BE (K:za) (H:Hp) (P:Addr->Prop):List Addr->List (List D)->Prop
 |nil:BE K H P [] []
 |cons {q:Addr} {xs:List V} {ds:List D} {ps:List Addr} {C5:List (List D)}:H q=some (.lst xs)->Ah K (del H P) xs ds->BE K H P ps C5->BE K H P (q::ps) (ds::C5)
abbrev Dk (K:za)(H:Hp)(P:Addr->Prop):Cl->V->List Addr->Prop
 | .own ds,v,fp=>∃p xs,v=.ref p/\fp=[p]/\H p=some (.lst xs)/\Ah K (del H P) xs ds
 | .ow (.rows C5),v,fp=>∃p ps,v=.ref p/\fp=p::ps/\H p=some (.lst (ps.map V.ref))/\BE K H P ps C5
 | .ow (.Ia _ ds),v,fp=>∃p xs,v=.ref p/\fp=[p]/\H p=some (.lst xs)/\Ah K (del H P) xs ds
 | .ow (.tree _ t),v,fp=>C8 K H P v t fp
 | .val _,_,_=>False
abbrev HY:Cl->Bool
 | .val _=>false
 |_=>true
def BE.move {K:za}{H H':Hp}{P P':Addr->Prop}(sm:Ae (del H P) (del H' P')):∀ {ps:List Addr}{C5:List (List D)},(∀a∈ps,H' a=H a)->BE K H P ps C5->BE K H' P' ps C5:=by
 intro _ _ k x_;cases x_ with
 |nil=>exact .nil
 |cons h r t=>exact .cons ((k _ zd).trans h) (r.mono sm) (BE.move sm (λ a ha=>k a (ze _ ha)) t)
def BE.at {K:za}{H:Hp}{P:Addr->Prop}:∀ {ps:List Addr}{C5:List (List D)},BE K H P ps C5->∀a∈ps,∃xs,H a=some (.lst xs)
 |_,_,.nil,a,h=>by cases h
 |_,_,.cons h r t,a,ha=>by
  rcases zq.mp ha with rfl|ha
  ·exact⟨_,h⟩
  ·exact t.at a ha
def BE.length {K:za}{H:Hp}{P:Addr->Prop}:∀ {ps:List Addr}{C5:List (List D)},BE K H P ps C5->ps.length=C5.length:=by
 intro _ _ x_;cases x_ with
 |nil=>exact rfl
 |cons h r t=>rw[zk,zk,t.length]
def BE.get {K:za}{H:Hp}{P:Addr->Prop}:∀ {ps:List Addr}{C5:List (List D)}{i:Nat}{ds:List D},BE K H P ps C5->C5[i]?=some ds->∃q xs,ps[i]?=some q/\H q=some (.lst xs)/\Ah K (del H P) xs ds
 |_,_,_,_,.nil,e=>by simp at e
 |_,_,0,_,.cons h r _,e=>by simp at e;subst e;exact⟨_,_,rfl,h,r⟩
 |_,_,i+1,ds,.cons _ _ t,e=>by
  obtain⟨q,xs,h1,h2⟩:=BE.get (i:=i) (ds:=ds) t (by simpa using e);exact⟨q,xs,by simpa using h1,h2⟩
def S1:∀ {ps qs:List Addr},ps.map V.ref=qs.map V.ref->ps=qs
 |[],[],_=>rfl
 |[],_::_,h|_::_,[],h=>by cases h
 |p::ps,q::qs,h=>by
  rw[zf,zf] at h;injection h with h1 h2
  injection h1 with h1
  rw[h1,S1 h2]
def Dk.move {K:za}{H H':Hp}{P P':Addr->Prop}(sm:Ae (del H P) (del H' P')){c:Cl}{v:V}{fp:List Addr}(k:∀a∈fp,H' a=H a)(h:Dk K H P c v fp):Dk K H' P' c v fp:=by
 cases c with
 |val d=>exact h
 |own ds =>
  obtain⟨p,xs,rfl,rfl,h1,h2⟩:=h;exact⟨p,xs,rfl,rfl,(k p zd).trans h1,h2.mono sm⟩
 |ow o =>
  cases o with
  |rows C5 =>
   obtain⟨p,ps,rfl,rfl,h1,h2⟩:=h;exact⟨p,ps,rfl,rfl,(k p zd).trans h1,h2.move sm λ a ha=>k a (ze _ ha)⟩
  |Ia p ds =>
   obtain⟨p,xs,rfl,rfl,h1,h2⟩:=h;exact⟨p,xs,rfl,rfl,(k p zd).trans h1,h2.mono sm⟩
  |tree p t=>exact C8.move sm k h
def Dk.at {K:za}{H:Hp}{P:Addr->Prop}{c:Cl}{v:V}{fp:List Addr}(h:Dk K H P c v fp):∀a∈fp,∃o,H a=some o:=by
 cases c with
 |val d=>exact h.elim
 |own ds =>
  obtain⟨p,xs,rfl,rfl,h1,h2⟩:=h;exact λ a ha=>⟨.lst xs,by rw[zi.mp ha];exact h1⟩
 |ow o =>
  cases o with
  |rows C5 =>
   obtain⟨p,ps,rfl,rfl,h1,h2⟩:=h;intro a ha;rcases zq.mp ha with rfl|ha
   ·exact⟨_,h1⟩
   ·obtain⟨xs,q⟩:=h2.at a ha;exact⟨_,q⟩
  |Ia p ds =>
   obtain⟨p,xs,rfl,rfl,h1,h2⟩:=h;exact λ a ha=>⟨.lst xs,by rw[zi.mp ha];exact h1⟩
  |tree p t =>
   intro a ha;obtain⟨o,q,_⟩:=C8.BX h a ha;exact⟨o,q⟩
def Dk.same {K:za}{H H':Hp}{P:Addr->Prop}(e:Ae H H'){c:Cl}{v:V}{fp:List Addr}(h:Dk K H P c v fp):Dk K H' P c v fp:=
 h.move e.del λ a ha=>by obtain⟨xs,q⟩:=h.at a ha;rw[q];exact e _ _ q
def Dk.Ci {K:za}{H:Hp}{P P':Addr->Prop}{c:Cl}{v:V}{fp ag:List Addr}(h:Dk K H P c v fp)(h':Dk K H P' c v ag):fp=ag:=by
 cases c with
 |val d=>exact h.elim
 |own ds =>
  obtain⟨p,xs,rfl,rfl,h1,h2⟩:=h;obtain⟨p',dk,e,rfl,kc,gx⟩:=h';cases e;rfl
 |ow o =>
  cases o with
  |rows C5 =>
   obtain⟨p,ps,rfl,rfl,h1,h2⟩:=h;obtain⟨p',yl,e,rfl,kc,gx⟩:=h';cases e;rw[h1] at kc;injection kc with e
   injection e with e
   rw[S1 e]
  |Ia p ds =>
   obtain⟨p,xs,rfl,rfl,h1,h2⟩:=h;obtain⟨p',dk,e,rfl,kc,gx⟩:=h';cases e;rfl
  |tree p t=>exact C8.Ci h h'
structure Es where
 pr:Addr->Prop
 g:Nat->Addr
instance:CoeFun Es (λ _=>Addr->Prop):=⟨Es.pr⟩
instance:Coe Es (Addr->Prop):=⟨Es.pr⟩
abbrev OY:Cl->Option Nat
 | .ow (.Ia n _)=>some n
 | .ow (.tree (some n) _)=>some n
 |_=>none
structure Al (K:za)(P0:Es)(P:Addr->Prop)(H:Hp)(σ:St)(ρ:Ac):Prop where
 sub:∀a,P0 a->P a
 BX:∀a,P a->Dq H a
 val:∀(i:Nat) d,ρ[i]?=some (some (.val d))->∃v,σ[i]?=some (some v)/\BV K (del H P) v d
 ows:∀(i:Nat) c,ρ[i]?=some (some c)->HY c=true->∃v fp,σ[i]?=some (some v)/\Dk K H P c v fp/\(∀a∈fp,P a/\¬ P0 a)/\fp.Nodup
 apart:∀(i j:Nat) c c' v v' fp ag,ρ[i]?=some (some c)->ρ[j]?=some (some c')->σ[i]?=some (some v)->σ[j]?=some (some v')->Dk K H P c v fp->Dk K H P c' v' ag->i≠j->∀a∈fp,a∉ag
 len:σ.length=ρ.length
 pin:∀(i:Nat) c n,ρ[i]?=some (some c)->OY c=some n->σ[i]?=some (some (.ref (P0.g n)))
def Al.own {K:za}{P0:Es}{P:Addr->Prop}{H:Hp}{σ:St}{ρ:Ac}(E:Al K P0 P H σ ρ)(i:Nat)(ds:List D)(h:ρ[i]?=some (some (.own ds))):
 ∃p xs,σ[i]?=some (some (.ref p))/\H p=some (.lst xs)/\P p/\¬ P0 p/\Ah K (del H P) xs ds:=by
 obtain⟨v,fp,h1,⟨p,xs,rfl,rfl,h2,h3⟩,h4,_⟩:=E.ows i _ h rfl;exact⟨p,xs,h1,h2,(h4 p zd).1,(h4 p zd).2,h3⟩
def Al.YI {K:za}{P0:Es}{P P':Addr->Prop}{H H':Hp}{σ:St}{ρ:Ac}(E:Al K P0 P H σ ρ)(sm:Ae (del H P) (del H' P')){i j:Nat}{c c':Cl}{v v':V}{fp ag:List Addr}
 (ki:∀v fp,σ[i]?=some (some v)->Dk K H P c v fp->∀a∈fp,H' a=H a) (kj:∀v fp,σ[j]?=some (some v)->Dk K H P c' v fp->∀a∈fp,H' a=H a)
 (hi:ρ[i]?=some (some c)) (hj:ρ[j]?=some (some c')) (si:σ[i]?=some (some v)) (sj:σ[j]?=some (some v')) (h:Dk K H' P' c v fp) (h':Dk K H' P' c' v' ag) (ae:i≠j):∀a∈fp,a∉ag:=by
 have key:∀(k:Nat) (d:Cl) (w:V) (fq:List Addr),ρ[k]?=some (some d)->σ[k]?=some (some w)->(∀v fp,σ[k]?=some (some v)->Dk K H P d v fp->∀a∈fp,H' a=H a)->Dk K H' P' d w fq->Dk K H P d w fq:=λ k d w fq hk sk kk ho=>by
  have io:HY d=true:=by cases d<;>first|rfl|exact ho.elim
  obtain⟨w',bJ,s2,o2,_⟩:=E.ows k d hk io;rw[sk] at s2;cases s2;have o3:=o2.move sm (kk _ _ sk o2);rw[ho.Ci o3];exact o2
 exact E.apart i j c c' v v' fp ag hi hj si sj (key i c v fp hi si ki h) (key j c' v' ag hj sj kj h') ae
def Al.same {K:za}{P0:Es}{P:Addr->Prop}{H H':Hp}{σ:St}{ρ:Ac}(E:Al K P0 P H σ ρ)(e:Ae H H'):Al K P0 P H' σ ρ:=
 ⟨E.sub,λ a h=>(E.BX a h).same e,λ i d h=>let ⟨v,h1,h2⟩:=E.val i d h;⟨v,h1,h2.mono e.del⟩,
  λ i c h io=>let ⟨v,fp,h1,h2,h3,h4⟩:=E.ows i c h io;⟨v,fp,h1,h2.same e,h3,h4⟩,
  λ i j c c' v v' fp ag hi hj si sj h h' ae=>E.YI e.del (λ v fp _ o a ha=>by obtain⟨xs,q⟩:=o.at a ha;rw[q];exact e _ _ q) (λ v fp _ o a ha=>by obtain⟨xs,q⟩:=o.at a ha;rw[q];exact e _ _ q) hi hj si sj h h' ae,E.len,E.pin⟩
abbrev gV (K:za)(WX:Str->Hp->Prop)(P:Addr->Prop)(H:Hp)(Q:VK):M D->Prop
 | .ok d=>∀v H',Ae H H'->BV K (del H' P) v d->Q v H'
 | .ex x=>∀H',Ae H H'->WX x H'
 | .bad=>False
abbrev gA (K:za)(WX:Str->Hp->Prop)(P:Addr->Prop)(H:Hp)(Q:List V->Hp->Prop):M (List D)->Prop
 | .ok d=>∀v H',Ae H H'->Ah K (del H' P) v d->Q v H'
 | .ex x=>∀H',Ae H H'->WX x H'
 | .bad=>False
abbrev gT (WX:Str->Hp->Prop)(H:Hp)(Q:Bool->Hp->Prop):M Bool->Prop
 | .ok b=>∀H',Ae H H'->Q b H'
 | .ex x=>∀H',Ae H H'->WX x H'
 | .bad=>False
section
variable {K:za}{WX:Str->Hp->Prop}{P:Addr->Prop}{H H':Hp}
def gV.same {Q:VK}{m:M D}(h:gV K WX P H Q m)(e:Ae H H'):gV K WX P H' Q m:=by
 cases m with
 |ok d=>exact λ v H2 q hv=>h v H2 (e.trans q) hv
 |ex x=>exact λ H2 q=>h H2 (e.trans q)
 |bad=>exact h
def gA.same {Q:List V->Hp->Prop}{m:M (List D)}(h:gA K WX P H Q m)(e:Ae H H'):gA K WX P H' Q m:=by
 cases m with
 |ok d=>exact λ v H2 q hv=>h v H2 (e.trans q) hv
 |ex x=>exact λ H2 q=>h H2 (e.trans q)
 |bad=>exact h
def gT.same {Q:Bool->Hp->Prop}{m:M Bool}(h:gT WX H Q m)(e:Ae H H'):gT WX H' Q m:=by
 cases m with
 |ok d|ex x=>exact λ H2 q=>h H2 (e.trans q)
 |bad=>exact h
end
abbrev Lv (c:Bool)(P0:Es)(P:Addr->Prop):Addr->Prop:=if c=true then P else P0.pr
abbrev DE (X:Cx)(WX:Str->Hp->Prop)(c:Bool)(e:Expr)(f:Ac->M D):Prop:=
 ∃t,PE X e t/\∀P0 P σ H Q ρ,Al X.K P0 P H σ ρ->gV X.K WX (Lv c P0 P) H Q (f ρ)->t σ H Q
abbrev DA (X:Cx)(WX:Str->Hp->Prop)(c:Bool)(es:List Expr)(f:Ac->M (List D)):Prop:=
 ∃t,PA X es t/\(∀P0 P σ H Q ρ,Al X.K P0 P H σ ρ->gA X.K WX (Lv c P0 P) H Q (f ρ)->t σ H Q)/\∀ρ ds,f ρ=.ok ds->ds.length=es.length
abbrev DT (X:Cx)(WX:Str->Hp->Prop)(e:Expr)(f:Ac->M Bool):Prop:=
 ∃t,PT X e t/\∀P0 P σ H Q ρ,Al X.K P0 P H σ ρ->gT WX H Q (f ρ)->t σ H Q
abbrev DW (X:Cx)(WX:Str->Hp->Prop)(e:Expr)(f:Ac->M Bool):Prop:=
 ∃t,PW X e t/\∀P0 P σ H Q ρ,Al X.K P0 P H σ ρ->gT WX H Q (f ρ)->t σ H Q
def DW.dt {X:Cx}{WX:Str->Hp->Prop}{e:Expr}{f:Ac->M Bool}(h:DW X WX e f):DT X WX e f:=let ⟨t,h1,h2⟩:=h;⟨t,h1.pt,h2⟩
section
variable {X:Cx}{WX:Str->Hp->Prop}{c:Bool}{P0:Es}{P:Addr->Prop}{H:Hp}{σ:St}{ρ:Ac}
def Al.lv (E:Al X.K P0 P H σ ρ)(c:Bool):∀a,Lv c P0 P a->P a:=λ a h=>by
 cases c with
 |true=>exact h
 |false=>exact E.sub a h
def Al.rY (E:Al X.K P0 P H σ ρ)(c:Bool):∀a,Lv c P0 P a->Dq H a:=λ a h=>E.BX a (E.lv c a h)
def KH {e:Expr}{f:Ac->M D}(h:DE X WX true e f):DE X WX false e f:=by
 obtain⟨t,h1,h2⟩:=h;refine⟨t,h1,λ P0 P σ H Q ρ E g=>h2 P0 P σ H Q ρ E ?_⟩;cases e:f ρ with
 |ok d=>rw[e] at g;exact λ v H' s hv=>g v H' s (hv.mono (CN E.sub))
 |ex x|bad=>rw[e] at g;exact g
abbrev rZ:D->Bool
 | .tup _ | .lst _ | .ET _ | .Bn _ _ _ | .ins _ _ _=>false
 |_=>true
abbrev fl (m:M D):M D:=m.bind λ d=>if rZ d=true then .ok d else .bad
abbrev rv (i:Nat)(ρ:Ac):M D:=match ρ[i]? with | some (some (.val d))=>.ok d | _=>.bad
abbrev ra (i:Nat)(ρ:Ac):M D:=match ρ[i]? with | some (some (.val d))=>.ok d | some (some (.own ds))=>.ok (.lst ds) | some (some (.ow (.rows C5)))=>.ok (.lst (C5.map D.lst)) | some (some (.ow (.Ia _ ds)))=>.ok (.lst ds) | some (some (.ow (.tree _ t)))=>.ok (er t) | _=>.bad
def A1 (i:Nat){x:Str}{pos:Pos}(h:PE X (.Name x pos) (Kw i)):DE X WX true (.Name x pos) (rv i):=by
 refine⟨_,h,λ P0 P σ H Q ρ E g=>?_⟩;unfold rv at g;split at g
 ·rename_i d e;obtain⟨v,h1,h2⟩:=E.val i d e;exact⟨v,h1,g v H (Ae.refl H) h2⟩
 ·exact g.elim
def A7 {i j pos}:DE X WX c (.Constant (.int i) j pos) (λ _=>.ok (.int i)):=⟨_,lL,λ P0 P σ H Q ρ E g=>g _ H (Ae.refl H) (.int i)⟩
def BP {b j pos}:DE X WX c (.Constant (.bool b) j pos) (λ _=>.ok (.bl b)):=⟨_,qL,λ P0 P σ H Q ρ E g=>g _ H (Ae.refl H) (.bl b)⟩
def Dr {j pos}:DE X WX c (.Constant .none j pos) (λ _=>.ok .AK):=⟨_,lM,λ P0 P σ H Q ρ E g=>g _ H (Ae.refl H) .AK⟩
abbrev Uc (K:za)(WX:Str->Hp->Prop)(r:R2)(aP:D->D->M D):Prop:=
 ∀(P:Addr->Prop) (H:Hp) (x y:D) (v w:V) (Q:VK),(∀a,P a->Dq H a)->BV K (del H P) v x->BV K (del H P) w y->gV K WX P H Q (aP x y)->r v w H Q
variable {a b:Expr}{f g:Ac->M D}{pos:Pos}
def S2 {ta tb:TE}{r:R2}{aP:D->D->M D}(ha:∀P0 P σ H Q ρ,Al X.K P0 P H σ ρ->gV X.K WX (Lv c P0 P) H Q (f ρ)->ta σ H Q)(hb:∀P0 P σ H Q ρ,Al X.K P0 P H σ ρ->gV X.K WX (Lv c P0 P) H Q (g ρ)->tb σ H Q)
 (hr:Uc X.K WX r aP) {Q:VK} (E:Al X.K P0 P H σ ρ) (h:gV X.K WX (Lv c P0 P) H Q ((f ρ).bind λ x=>(g ρ).bind λ y=>aP x y)):pQ r ta tb σ H Q:=by
 refine ha P0 P σ H _ ρ E ?_;cases e:f ρ with
 |bad|ex x=>rw[e] at h;exact h
 |ok x =>
  rw[e] at h;intro v H1 s1 hv;refine hb P0 P σ H1 _ ρ (E.same s1) ?_;cases e2:g ρ with
  |bad=>rw[e2] at h;exact h
  |ex y=>rw[e2] at h;exact gV.same (m:=.ex y) h s1
  |ok y =>
   rw[e2] at h;intro w H2 s2 hw;exact hr _ H2 x y v w Q (λ a q=>((E.same s1).same s2).rY c a q) (hv.mono s2.del) hw ((gV.same h s1).same s2)
def OZ {op:Operator}{r:R2}{aP:D->D->M D}(ho:Gb X (binaryOp op) r)(hr:Uc X.K WX r aP)(ha:DE X WX c a f)(hb:DE X WX c b g):DE X WX c (.BinOp a op b pos) (λ ρ=>(f ρ).bind λ x=>(g ρ).bind λ y=>aP x y):=by
 obtain⟨ta,a1,a2⟩:=ha;obtain⟨tb,b1,b2⟩:=hb;exact⟨_,Yc ho a1 b1,λ P0 P σ H Q ρ E h=>S2 a2 b2 hr E h⟩
def YJ {op:CmpOp}{r:R2}{aP:D->D->M D}(ho:Gb X (compareOp op) r)(hr:Uc X.K WX r aP)(ha:DE X WX c a f)(hb:DE X WX c b g)(hm:behindInMarks op b=false):DE X WX c (.Compare a [op] [b] pos) (λ ρ=>(f ρ).bind λ x=>(g ρ).bind λ y=>aP x y):=by
 obtain⟨ta,a1,a2⟩:=ha;obtain⟨tb,b1,b2⟩:=hb;exact⟨_,eM ho a1 b1 hm,λ P0 P σ H Q ρ E h=>S2 a2 b2 hr E h⟩
def sA {r:R2}{aP:D->D->M D}(ho:eV X r)(hr:Uc X.K WX r aP)(ha:DE X WX c a f)(hb:DE X WX c b g)(hs:Ho b):DE X WX c (.Subscript a b pos) (λ ρ=>(f ρ).bind λ x=>(g ρ).bind λ y=>aP x y):=by
 obtain⟨ta,a1,a2⟩:=ha;obtain⟨tb,b1,b2⟩:=hb;exact⟨_,Vd ho a1 b1 hs,λ P0 P σ H Q ρ E h=>S2 a2 b2 hr E h⟩
abbrev BB (k:Int->Int->M D)(x y:D):M D:=match x,y with | .int i,.int j=>k i j | _,_=>.bad
def BV.int_inv {K:za}{H:Hp}{v:V}{i:Int}(h:BV K H v (.int i)):v=.int i:=by cases h;rfl
def BV.MQ {K:za}{H:Hp}{v:V}{i:Bool}(h:BV K H v (.bl i)):v=.bl i:=by cases h;rfl
def Ql {C:Int->Int->Prop}{gv:Int->Int->V}{gd:Int->Int->D}[∀i j,Decidable (C i j)](hg:∀i j K H,BV K H (gv i j) (gd i j)):Uc X.K WX (rI C gv) (BB λ i j=>if C i j then .ok (gd i j) else .bad):=by
 intro P H x y v w Q ht hx hy h;unfold BB at h;split at h
 ·rename_i i j;rw[hx.int_inv,hy.int_inv];dsimp only at h;by_cases hc:C i j
  ·rw[if_pos hc] at h;exact⟨i,j,rfl,rfl,hc,h _ H (Ae.refl H) (hg i j _ _)⟩
  ·rw[if_neg hc] at h;exact h.elim
 ·exact h.elim
def LY {gv:Int->Int->V}{gd:Int->Int->D}(hg:∀i j K H,BV K H (gv i j) (gd i j)):Uc X.K WX (dR gv) (BB λ i j=>.ok (gd i j)):=by
 intro P H x y v w Q ht hx hy h;unfold BB at h;split at h
 ·rename_i i j;rw[hx.int_inv,hy.int_inv];exact⟨i,j,rfl,rfl,h _ H (Ae.refl H) (hg i j _ _)⟩
 ·exact h.elim
instance (i j:Int):Decidable (Yd i j):=by unfold Yd;infer_instance
instance (i j:Int):Decidable (eK i j):=by unfold eK;infer_instance
instance (i j:Int):Decidable (Ye i j):=by unfold Ye;infer_instance
abbrev sC:=BB λ i j=>.ok (.int (i+j))
abbrev sD:=BB λ i j=>.ok (.int (i-j))
abbrev Et:=BB λ i j=>if 0<j then .ok (.int (i%j)) else .bad
abbrev Le:=BB λ i j=>if Yd i j then .ok (.int (i / j)) else .bad
abbrev WE:=BB λ i j=>if eK i j then .ok (.int (i^j.toNat)) else .bad
abbrev wY:=BB λ i j=>.ok (.bl (decide (i<j)))
abbrev xY:=BB λ i j=>.ok (.bl (decide (i<=j)))
abbrev wZ:=BB λ i j=>.ok (.bl (decide (j<i)))
abbrev xZ:=BB λ i j=>.ok (.bl (decide (j<=i)))
def BS (ha:DE X WX c a f)(hb:DE X WX c b g):DE X WX c (.BinOp a .Add b pos) (λ ρ=>(f ρ).bind λ x=>(g ρ).bind λ y=>sC x y):=OZ lY (LY λ _ _ _ _=>.int _) ha hb
def YK (ha:DE X WX c a f)(hb:DE X WX c b g):DE X WX c (.BinOp a .Sub b pos) (λ ρ=>(f ρ).bind λ x=>(g ρ).bind λ y=>sD x y):=OZ lZ (LY λ _ _ _ _=>.int _) ha hb
def BK (ha:DE X WX c a f)(hb:DE X WX c b g):DE X WX c (.BinOp a .Mod b pos) (λ ρ=>(f ρ).bind λ x=>(g ρ).bind λ y=>Et x y):=OZ mB (Ql λ _ _ _ _=>.int _) ha hb
def Hr (ha:DE X WX c a f)(hb:DE X WX c b g):DE X WX c (.BinOp a .FloorDiv b pos) (λ ρ=>(f ρ).bind λ x=>(g ρ).bind λ y=>Le x y):=OZ eL (Ql λ _ _ _ _=>.int _) ha hb
def YL (ha:DE X WX c a f)(hb:DE X WX c b g):DE X WX c (.BinOp a .Pow b pos) (λ ρ=>(f ρ).bind λ x=>(g ρ).bind λ y=>WE x y):=OZ mC (Ql λ _ _ _ _=>.int _) ha hb
abbrev fN (n:Nat)(x y:D):M D:=if OW x<=n/\C9 x=true/\C9 y=true then .ok (.bl (Ba x y)) else .bad
abbrev dS (n:Nat)(x y:D):M D:=if OW x<=n/\C9 x=true/\C9 y=true then .ok (.bl (!Ba x y)) else .bad
def YM {n:Nat}(hu:X.A.units+n<cLine):Uc X.K WX (fM X.K X.A false) (fN n):=by
 intro P H x y v w Q ht hx hy h;unfold fN at h;by_cases hd:OW x<=n/\C9 x=true/\C9 y=true
 ·rw[if_pos hd] at h;exact⟨x,y,hx.mono DY,hy.mono DY,by omega,hd.2.1,hd.2.2,h _ H (Ae.refl H) (.bl _)⟩
 ·rw[if_neg hd] at h;exact h.elim
def nB {n:Nat}(hu:X.A.units+n<cLine):Uc X.K WX (fM X.K X.A true) (dS n):=by
 intro P H x y v w Q ht hx hy h;unfold dS at h;by_cases hd:OW x<=n/\C9 x=true/\C9 y=true
 ·rw[if_pos hd] at h;exact⟨x,y,hx.mono DY,hy.mono DY,by omega,hd.2.1,hd.2.2,h _ H (Ae.refl H) (.bl _)⟩
 ·rw[if_neg hd] at h;exact h.elim
def YN {n:Nat}(hu:X.A.units+n<cLine)(ha:DE X WX c a f)(hb:DE X WX c b g):DE X WX c (.Compare a [.Eq] [b] pos) (λ ρ=>(f ρ).bind λ x=>(g ρ).bind λ y=>fN n x y):=YJ YG (YM hu) ha hb (Iv _)
abbrev Cr:D->Bool
 | .AK=>true
 |_=>false
def BV.vZ {K:za}{H:Hp}{v:V}{d:D}(h:BV K H v d):decide (v=.AK)=Cr d:=by
 cases h<;>simp[Cr]
def nE {j pos'}(ha:DE X WX c a f):DE X WX c (.Compare a [.Is] [.Constant .none j pos'] pos) (λ ρ=>(f ρ).bind λ x=>.ok (.bl (Cr x))):=by
 obtain⟨ta,a1,a2⟩:=ha;refine⟨_,lN (Y2 a1),λ P0 P σ H Q ρ E h=>?_⟩;dsimp only at h;refine a2 P0 P σ H _ ρ E ?_;cases e:f ρ with
 |bad|ex x=>rw[e] at h;exact h
 |ok x=>rw[e] at h;exact λ v H1 s1 hv=>h _ H1 s1 (by rw[hv.vZ];exact .bl _)
abbrev fO (x y:D):M D:=match x,y with
 | .tup ds,.int i| .lst ds,.int i=>(match RO ds i with|some d=>.ok d|none=>.bad)
 |_,_=>.bad
def Ah.RO {K:za}{H:Hp}{xs:List V}{ds:List D}{i:Int}{d:D}(h:Ah K H xs ds)(e:L2.RO ds i=some d):∃v,L2.RO xs i=some v/\BV K H v d:=by
 unfold L2.RO at e ⊢;rw[<-h.length] at e;cases q:OP xs.length i with
 |none=>rw[q] at e;cases e
 |some j =>
  rw[q] at e;exact h.get e
def D2.B5 {K:za}{H:Hp}{P:Addr->Prop}{a:Addr}{xs:List V}(h:D2 K (del H P) a xs):D2 K H a xs:=DY.seq h
def Fd.B5 {K:za}{H:Hp}{P:Addr->Prop}{a:Addr}{xs:List V}(h:Fd K (del H P) a xs):Fd K H a xs:=DY.vY h
def Gq:Uc X.K WX (λ x y H Q=>mL X.K x y H Q\/mM X.K x y H Q) fO:=by
 intro P H x y v w Q ht hx hy h;unfold fO at h;split at h
 ·rename_i ds i;split at h
  ·rename_i d e;cases hy;cases hx with
   |tup hs hl =>
    obtain⟨u,h1,h2⟩:=hl.RO e;exact .inr ⟨_,_,i,u,rfl,rfl,Fd.of (Ak hs).2,h1,h _ H (Ae.refl H) h2⟩
  ·exact h.elim
 ·rename_i ds i;split at h
  ·rename_i d e;cases hy;cases hx with
   |lst hs hl =>
    obtain⟨u,h1,h2⟩:=hl.RO e;exact .inl ⟨_,_,i,u,rfl,rfl,hs.B5,h1,h _ H (Ae.refl H) h2⟩
  ·exact h.elim
 ·exact h.elim
def A4:DA X WX c [] (λ _=>.ok []):=⟨_,Cp,λ P0 P σ H Q ρ E h=>h [] H (Ae.refl H) .nil,λ ρ ds h=>by cases h;rfl⟩
def A2 {e:Expr}{es:List Expr}{f:Ac->M D}{fs:Ac->M (List D)}(he:DE X WX c e f)(hr:DA X WX c es fs)(hs: ~~~(starEach (e::es) X.env=(false,eval e X.env)::starEach es X.env)):
 DA X WX c (e::es) (λ ρ=>(f ρ).bind λ d=>(fs ρ).bind λ ds=>.ok (d::ds)):=by
 obtain⟨te,e1,e2⟩:=he;obtain⟨tr,r1,r2,r3⟩:=hr;refine⟨_,Bf e1 r1 hs,λ P0 P σ H Q ρ E h=>?_,λ ρ ds h=>?_⟩
 rotate_left
 ·dsimp only at h;cases q:f ρ with
  |bad|ex x=>rw[q] at h;cases h
  |ok x =>
   rw[q] at h;cases q2:fs ρ with
   |bad|ex x=>rw[q2] at h;cases h
   |ok xs =>
    rw[q2] at h;cases h;rw[zk,zk,r3 ρ xs q2]
 dsimp only at h;refine e2 P0 P σ H _ ρ E ?_;cases q:f ρ with
 |bad|ex x=>rw[q] at h;exact h
 |ok x =>
  rw[q] at h;intro v H1 s1 hv;refine r2 P0 P σ H1 _ ρ (E.same s1) ?_;cases q2:fs ρ with
  |bad=>rw[q2] at h;exact h
  |ex y=>rw[q2] at h;exact gA.same (m:=.ex y) h s1
  |ok ds =>
   rw[q2] at h;exact λ vs H2 s2 ay=>h _ H2 (s1.trans s2) (.cons (hv.mono s2.del) ay)
def Jc {H:Hp}{P:Addr->Prop}{p:Addr}{o:HO}(hn:H p=none)(ht:∀a,P a->Dq H a):del (upd H p o) P p=some o:=by
 rw[As λ z=>(ht p z).no hn];exact Aq
def AB {es:List Expr}{fs:Ac->M (List D)}{x1}(ha:DA X WX c es fs)(hz:es.length<=1000:=by decide):DE X WX c (.Tuple es x1 pos) (λ ρ=>(fs ρ).bind λ ds=>if ds.length<=1000 then .ok (.tup ds) else .bad):=by
 obtain⟨ta,a1,a2,a3⟩:=ha;refine⟨_,Yk a1,λ P0 P σ H Q ρ E h=>?_⟩;dsimp only at h;refine a2 P0 P σ H _ ρ E ?_;cases q:fs ρ with
 |bad|ex y=>rw[q] at h;exact h
 |ok ds =>
  rw[q] at h;simp only[M.A9] at h;by_cases hd:ds.length<=1000
  ·rw[if_pos hd] at h;intro vs H1 s1 ay;refine⟨yN (AJ (by rw[ay.length];exact hd)),λ p hp=>h _ _ (s1.trans (AS hp _)) (.tup (Jc hp λ a q=>(E.same s1).rY c a q) (ay.mono (AS hp _).del))⟩
  ·rw[if_neg hd] at h;exact h.elim
def Gr {es:List Expr}{fs:Ac->M (List D)}(ha:DA X WX c es fs):DE X WX c (.List es pos) (λ ρ=>(fs ρ).bind λ ds=>if ds.length<=1000 then .ok (.lst ds) else .bad):=by
 obtain⟨ta,a1,a2,a3⟩:=ha;refine⟨_,Q7 a1,λ P0 P σ H Q ρ E h=>?_⟩;dsimp only at h;refine a2 P0 P σ H _ ρ E ?_;cases q:fs ρ with
 |bad|ex y=>rw[q] at h;exact h
 |ok ds =>
  rw[q] at h;simp only[M.A9] at h;by_cases hd:ds.length<=1000
  ·rw[if_pos hd] at h;intro vs H1 s1 ay;refine⟨yN (AJ (by rw[ay.length];exact hd)),λ p hp=>h _ _ (s1.trans (AS hp _)) (.lst (.of (Jc hp λ a q=>(E.same s1).rY c a q)) (ay.mono (AS hp _).del))⟩
  ·rw[if_neg hd] at h;exact h.elim
end
abbrev Og (d:D):M Bool:=match d with | .bl b=>.ok b | _=>.bad
section
variable {X:Cx}{WX:Str->Hp->Prop}{c:Bool}{P0:Es}{P:Addr->Prop}{H:Hp}{σ:St}{ρ:Ac}{a b e:Expr}{f g:Ac->M D}{ft gt:Ac->M Bool}{pos:Pos}
def sE {WX:Str->Hp->Prop}{P:Addr->Prop}{K:za}{H:Hp}{Q:Bool->Hp->Prop}{m:M D}(h:gT WX H Q (m.bind Og)):gV K WX P H (λ x H'=>∃k,x=.bl k/\Q k H') m:=by
 cases m with
 |bad|ex x=>exact h
 |ok d =>
  intro v H' s hv;simp only[M.A9] at h;unfold Og at h;split at h
  ·rename_i b;exact⟨b,hv.MQ,h H' s⟩
  ·exact h.elim
def Ez {op:CmpOp}{r:R2}{aP:D->D->M D}(ho:Gb X (compareOp op) r)(hr:Uc X.K WX r aP)(ha:DE X WX c a f)(hb:DE X WX c b g)(hm:behindInMarks op b=false):DT X WX (.Compare a [op] [b] pos) (λ ρ=>((f ρ).bind λ x=>(g ρ).bind λ y=>aP x y).bind Og):=by
 obtain⟨ta,a1,a2⟩:=ha;obtain⟨tb,b1,b2⟩:=hb;exact⟨_,eN ho a1 b1 hm,λ P0 P σ H Q ρ E h=>S2 a2 b2 hr E (sE h)⟩
def sF (ha:DE X WX c a f)(hb:DE X WX c b g):DT X WX (.Compare a [.Lt] [b] pos) (λ ρ=>((f ρ).bind λ x=>(g ρ).bind λ y=>wY x y).bind Og):=Ez jZ (LY λ _ _ _ _=>.bl _) ha hb (Iv _)
def Vo (ha:DE X WX c a f)(hb:DE X WX c b g):DT X WX (.Compare a [.Gt] [b] pos) (λ ρ=>((f ρ).bind λ x=>(g ρ).bind λ y=>wZ x y).bind Og):=Ez rB (LY λ _ _ _ _=>.bl _) ha hb (Iv _)
def Lf {n:Nat}(hu:X.A.units+n<cLine)(ha:DE X WX c a f)(hb:DE X WX c b g):DT X WX (.Compare a [.Eq] [b] pos) (λ ρ=>((f ρ).bind λ x=>(g ρ).bind λ y=>fN n x y).bind Og):=Ez YG (YM hu) ha hb (Iv _)
def Lg {n:Nat}(hu:X.A.units+n<cLine)(ha:DE X WX c a f)(hb:DE X WX c b g):DT X WX (.Compare a [.NotEq] [b] pos) (λ ρ=>((f ρ).bind λ x=>(g ρ).bind λ y=>dS n x y).bind Og):=Ez nA (nB hu) ha hb (Iv _)
def ID {j pos'}(ha:DE X WX c a f):DT X WX (.Compare a [.Is] [.Constant .none j pos'] pos) (λ ρ=>(f ρ).bind λ x=>.ok (Cr x)):=by
 obtain⟨ta,a1,a2⟩:=ha;refine⟨_,Y3 (Y2 a1),λ P0 P σ H Q ρ E h=>?_⟩;dsimp only at h;refine a2 P0 P σ H _ ρ E ?_;cases e:f ρ with
 |bad|ex x=>rw[e] at h;exact h
 |ok x=>rw[e] at h;exact λ v H1 s1 hv=>⟨_,rfl,by rw[hv.vZ];exact h H1 s1⟩
def Hs {j pos'}(ha:DE X WX c a f):DT X WX (.Compare a [.IsNot] [.Constant .none j pos'] pos) (λ ρ=>(f ρ).bind λ x=>.ok (!Cr x)):=by
 obtain⟨ta,a1,a2⟩:=ha;refine⟨_,Y3 (eG a1),λ P0 P σ H Q ρ E h=>?_⟩;dsimp only at h;refine a2 P0 P σ H _ ρ E ?_;cases e:f ρ with
 |bad|ex x=>rw[e] at h;exact h
 |ok x=>rw[e] at h;exact λ v H1 s1 hv=>⟨_,rfl,by rw[hv.vZ];exact h H1 s1⟩
def Bj (ha:DT X WX a ft):DT X WX (.UnaryOp .Not a pos) (λ ρ=>(ft ρ).bind λ b=>.ok (!b)):=by
 obtain⟨ta,a1,a2⟩:=ha;refine⟨_,lO a1,λ P0 P σ H Q ρ E h=>?_⟩;dsimp only at h;refine a2 P0 P σ H _ ρ E ?_;cases e:ft ρ with
 |bad|ex x=>rw[e] at h;exact h
 |ok x=>rw[e] at h;exact λ H1 s1=>h H1 s1
def Ht (ha:DT X WX a ft):DW X WX (.BoolOp .And [a] pos) ft:=let ⟨ta,a1,a2⟩:=ha;⟨_,pw_and1 a1,a2⟩
def D5 (ha:DT X WX a ft):DW X WX (.BoolOp .Or [a] pos) ft:=let ⟨ta,a1,a2⟩:=ha;⟨_,pw_or1 a1,a2⟩
def IE {rest:List Expr}(ha:DT X WX a ft)(hb:DW X WX (.BoolOp .And (b::rest) pos) gt):DW X WX (.BoolOp .And (a::b::rest) pos) (λ ρ=>(ft ρ).bind λ k=>if k=true then gt ρ else .ok false):=by
 obtain⟨ta,a1,a2⟩:=ha;obtain⟨tb,b1,b2⟩:=hb;refine⟨_,pw_and a1 b1,λ P0 P σ H Q ρ E h=>?_⟩;dsimp only at h;refine a2 P0 P σ H _ ρ E ?_;cases e:ft ρ with
 |bad|ex x=>rw[e] at h;exact h
 |ok k =>
  rw[e] at h;intro H1 s1;cases k with
  |true =>
   simp only[M.A9,if_true] at h ⊢;exact b2 P0 P σ H1 _ ρ (E.same s1) (h.same s1)
  |false =>
   simp only[M.A9,zC,if_false] at h ⊢;exact h H1 s1
def Dw {rest:List Expr}(ha:DT X WX a ft)(hb:DW X WX (.BoolOp .Or (b::rest) pos) gt):DW X WX (.BoolOp .Or (a::b::rest) pos) (λ ρ=>(ft ρ).bind λ k=>if k=true then .ok true else gt ρ):=by
 obtain⟨ta,a1,a2⟩:=ha;obtain⟨tb,b1,b2⟩:=hb;refine⟨_,pw_or a1 b1,λ P0 P σ H Q ρ E h=>?_⟩;dsimp only at h;refine a2 P0 P σ H _ ρ E ?_;cases e:ft ρ with
 |bad|ex x=>rw[e] at h;exact h
 |ok k =>
  rw[e] at h;intro H1 s1;cases k with
  |true =>
   simp only[M.A9,if_true] at h ⊢;exact h H1 s1
  |false =>
   simp only[M.A9,zC,if_false] at h ⊢;exact b2 P0 P σ H1 _ ρ (E.same s1) (h.same s1)
def MR {op}(ha:DE X WX c a f):DE X WX c (.BoolOp op [a] pos) f:=let ⟨ta,a1,a2⟩:=ha;⟨_,lP a1,a2⟩
def MS {rest:List Expr}(ha:DE X WX c a f)(hb:DE X WX c (.BoolOp .And (b::rest) pos) g):DE X WX c (.BoolOp .And (a::b::rest) pos) (λ ρ=>((f ρ).bind Og).bind λ k=>if k=true then g ρ else .ok (.bl false)):=by
 obtain⟨ta,a1,a2⟩:=ha;obtain⟨tb,b1,b2⟩:=hb;refine⟨_,lQ a1 b1,λ P0 P σ H Q ρ E h=>?_⟩;dsimp only at h;refine a2 P0 P σ H _ ρ E ?_;cases e:f ρ with
 |bad|ex x=>rw[e] at h;exact h
 |ok d =>
  rw[e] at h;simp only[M.A9] at h;unfold Og at h;split at h
  ·rename_i k;intro v H1 s1 hv;refine⟨k,hv.MQ,?_⟩;cases k with
   |true =>
    simp only[M.A9,if_true] at h ⊢;exact b2 P0 P σ H1 _ ρ (E.same s1) (h.same s1)
   |false =>
    simp only[M.A9,zC,if_false] at h ⊢;exact h _ H1 s1 (.bl _)
  ·exact h.elim
def sG {rest:List Expr}(ha:DE X WX c a f)(hb:DE X WX c (.BoolOp .Or (b::rest) pos) g):DE X WX c (.BoolOp .Or (a::b::rest) pos) (λ ρ=>((f ρ).bind Og).bind λ k=>if k=true then .ok (.bl true) else g ρ):=by
 obtain⟨ta,a1,a2⟩:=ha;obtain⟨tb,b1,b2⟩:=hb;refine⟨_,qP a1 b1,λ P0 P σ H Q ρ E h=>?_⟩;dsimp only at h;refine a2 P0 P σ H _ ρ E ?_;cases e:f ρ with
 |bad|ex x=>rw[e] at h;exact h
 |ok d =>
  rw[e] at h;simp only[M.A9] at h;unfold Og at h;split at h
  ·rename_i k;intro v H1 s1 hv;refine⟨k,hv.MQ,?_⟩;cases k with
   |true =>
    simp only[M.A9,if_true] at h ⊢;exact h _ H1 s1 (.bl _)
   |false =>
    simp only[M.A9,zC,if_false] at h ⊢;exact b2 P0 P σ H1 _ ρ (E.same s1) (h.same s1)
  ·exact h.elim
def YO (ha:DE X WX c a f):DE X WX c (.UnaryOp .Not a pos) (λ ρ=>((f ρ).bind Og).bind λ k=>.ok (.bl (!k))):=by
 obtain⟨ta,a1,a2⟩:=ha;refine⟨_,lR a1,λ P0 P σ H Q ρ E h=>?_⟩;dsimp only at h;refine a2 P0 P σ H _ ρ E ?_;cases e:f ρ with
 |bad|ex x=>rw[e] at h;exact h
 |ok d =>
  rw[e] at h;simp only[M.A9] at h;unfold Og at h;split at h
  ·rename_i k;exact λ v H1 s1 hv=>⟨k,hv.MQ,h _ H1 s1 (.bl _)⟩
  ·exact h.elim
def YQ (ha:DE X WX c a f):DE X WX c (.UnaryOp .USub a pos) (λ ρ=>(f ρ).bind λ d=>match d with | .int i=>.ok (.int (-i)) | _=>.bad):=by
 obtain⟨ta,a1,a2⟩:=ha;refine⟨_,qY mD a1,λ P0 P σ H Q ρ E h=>?_⟩;dsimp only at h;refine a2 P0 P σ H _ ρ E ?_;cases e:f ρ with
 |bad|ex x=>rw[e] at h;exact h
 |ok d =>
  rw[e] at h;simp only[M.A9] at h;split at h
  ·rename_i i;exact λ v H1 s1 hv=>⟨i,hv.int_inv,h _ H1 s1 (.int _)⟩
  ·exact h.elim
def WG {d:Expr}{h:Ac->M D}{op ee:CmpOp}{p q:Int->Int->Bool}(ho:Gb X (compareOp op) (dR λ i j=>.bl (p i j)))(bi:Gb X (compareOp ee) (dR λ i j=>.bl (q i j)))(ha:DE X WX c a f)(hb:DE X WX c b g)(hd:DE X WX c d h)
 (hm:lastMarks [op,ee] [b,d]=false:=by with_unfolding_all rfl):DE X WX c (.Compare a [op,ee] [b,d] pos) (λ ρ=>(f ρ).bind λ x=>(g ρ).bind λ y=>BB (λ i j=>if p i j=true then (h ρ).bind λ z=>BB (λ _ k=>.ok (.bl (q j k))) (.int 0) z else .ok (.bl false)) x y):=by
 obtain⟨ta,a1,a2⟩:=ha;obtain⟨tb,b1,b2⟩:=hb;obtain⟨td,d1,d2⟩:=hd;refine⟨_,Yg ho bi a1 b1 d1 hm,λ P0 P σ H Q ρ E hh=>?_⟩;dsimp only at hh;refine a2 P0 P σ H _ ρ E ?_;cases e:f ρ with
 |bad|ex x=>rw[e] at hh;exact hh
 |ok x =>
  rw[e] at hh;intro v H1 s1 hv;refine b2 P0 P σ H1 _ ρ (E.same s1) ?_;cases e2:g ρ with
  |bad=>rw[e2] at hh;exact hh
  |ex y=>rw[e2] at hh;exact gV.same (m:=.ex y) hh s1
  |ok y =>
   rw[e2] at hh;simp only[M.A9] at hh;unfold BB at hh;split at hh
   ·rename_i i j;intro w H2 s2 hw;refine⟨i,j,hv.int_inv,hw.int_inv,p i j,rfl,?_⟩;dsimp only at hh;by_cases hp:p i j=true
    ·rw[if_pos hp] at hh ⊢;refine d2 P0 P σ H2 _ ρ ((E.same s1).same s2) ?_;cases e3:h ρ with
     |bad=>rw[e3] at hh;exact hh
     |ex z=>rw[e3] at hh;exact gV.same (gV.same (m:=.ex z) hh s1) s2
     |ok z =>
      rw[e3] at hh;simp only[M.A9] at hh;cases z with
      |int k=>exact λ u H3 s3 hu=>⟨j,k,hw.int_inv,hu.int_inv,hh _ H3 ((s1.trans s2).trans s3) (.bl _)⟩
      |_=>exact hh.elim
    ·rw[if_neg hp] at hh ⊢;exact hh _ H2 (s1.trans s2) (.bl _)
   ·exact hh.elim
abbrev Jd (K:za)(WX:Str->Hp->Prop)(r:List V->Hp->VK->Prop)(dF:List D->M D):Prop:=
 ∀(P:Addr->Prop) (H:Hp) (ds:List D) (vs:List V) (Q:VK),(∀a,P a->Dq H a)->Ah K (del H P) vs ds->gV K WX P H Q (dF ds)->r vs H Q
variable {x:Str}{p:Pos}{es:List Expr}{fs:Ac->M (List D)}{id T:String}{r:List V->Hp->VK->Prop}{dF:List D->M D}
def YR {ta:TA}(ha:∀P0 P σ H Q ρ,Al X.K P0 P H σ ρ->gA X.K WX (Lv c P0 P) H Q (fs ρ)->ta σ H Q)(hr:Jd X.K WX r dF){Q:VK}(E:Al X.K P0 P H σ ρ)(h:gV X.K WX (Lv c P0 P) H Q ((fs ρ).bind dF)):vN r ta σ H Q:=by
 refine ha P0 P σ H _ ρ E ?_;cases e:fs ρ with
 |bad|ex x=>rw[e] at h;exact h
 |ok ds =>
  rw[e] at h;exact λ vs H1 s1 ay=>hr _ H1 ds vs Q (λ a q=>(E.same s1).rY c a q) ay (h.same s1)
def Je (hc:FV X (.builtin id) r)(hr:Jd X.K WX r dF)(hg:Gl X x)(hm:X.mg x=none)(hv:bootBuiltins x=some (.builtin id))(ha:DA X WX c (e::es) fs)(hn:x ≠ "__name__" := by decide)(aN:(x==("__debug__" : Str))=false:=by decide)(he: ~~~(starEach (e::es) X.env=(false,eval e X.env)::starEach es X.env))(aq: ~~~((backTo pos (starEach es X.env)).any (·.1)=false)):DE X WX c (.Call (.Name x p) (e::es) [] pos) (λ ρ=>(fs ρ).bind dF):=by
 obtain⟨ta,a1,a2,a3⟩:=ha;exact⟨_,RM hc hg hm hv a1 hn aN he aq,λ P0 P σ H Q ρ E h=>YR a2 hr E h⟩
def P5 (hc:FV X (.type T) r)(hr:Jd X.K WX r dF)(hg:Gl X x)(hm:X.mg x=none)(hv:bootBuiltins x=some (.type T))(ha:DA X WX c (e::es) fs)(hn:x ≠ "__name__" := by decide)(aN:(x==("__debug__" : Str))=false:=by decide)(he: ~~~(starEach (e::es) X.env=(false,eval e X.env)::starEach es X.env))(aq: ~~~((backTo pos (starEach es X.env)).any (·.1)=false)):DE X WX c (.Call (.Name x p) (e::es) [] pos) (λ ρ=>(fs ρ).bind dF):=by
 obtain⟨ta,a1,a2,a3⟩:=ha;exact⟨_,OO hc hg hm hv a1 hn aN he aq,λ P0 P σ H Q ρ E h=>YR a2 hr E h⟩
abbrev WH (ds:List D):M D:=match ds with
 |[.lst xs]|[.tup xs]=>.ok (.int xs.length)
 |_=>.bad
def Ah.one {K:za}{H:Hp}{vs:List V}{d:D}(h:Ah K H vs [d]):∃v,vs=[v]/\BV K H v d:=by
 cases h with
 |cons h t=>cases t;exact⟨_,rfl,h⟩
def Ah.two {K:za}{H:Hp}{vs:List V}{d e:D}(h:Ah K H vs [d,e]):∃v w,vs=[v,w]/\BV K H v d/\BV K H w e:=by
 cases h with
 |cons h t =>
  obtain⟨w,rfl,hw⟩:=t.one;exact⟨_,w,rfl,h,hw⟩
def nF:Jd X.K WX (λ xs H Q=>∃p ys,xs=[.ref p]/\(D2 X.K H p ys\/Fd X.K H p ys)/\Q (.int ys.length) H) WH:=by
 intro P H ds vs Q ht hl h;unfold WH at h;split at h
 ·obtain⟨v,rfl,hv⟩:=hl.one;cases hv with
  |lst hs hh=>exact⟨_,_,rfl,.inl hs.B5,by rw[hh.length];exact h _ H (Ae.refl H) (.int _)⟩
 ·obtain⟨v,rfl,hv⟩:=hl.one;cases hv with
  |tup hs hh=>exact⟨_,_,rfl,.inr (Fd.of (Ak hs).2),by rw[hh.length];exact h _ H (Ae.refl H) (.int _)⟩
 ·exact h.elim
def D6 (hg:Gl X "len")(hm:X.mg "len" = none)(ha:DE X WX c e f)(hs: ~~~(starEach [e] X.env=[(false,eval e X.env)])):DE X WX c (.Call (.Name "len" p) [e] [] pos) (λ ρ=>((f ρ).bind λ d=>(M.ok []).bind λ ds=>.ok (d::ds)).bind WH):=
 Je Qd nF hg hm PySem.boot_len (A2 ha A4 hs) (he:=hs)
abbrev Ud (ds:List D):M D:=match ds with
 |[.lst xs]|[.tup xs]=>.ok (.tup xs)
 |_=>.bad
def YS:Jd X.K WX (λ xs H Q=>∃p ys,xs=[.ref p]/\((D2 X.K H p ys/\∀l,H l=none->Q (.ref l) (upd H l (.tup ys)))\/(Fd X.K H p ys/\Q (.ref p) H))) Ud:=by
 intro P H ds vs Q ht hl h;unfold Ud at h;split at h
 ·obtain⟨v,rfl,hv⟩:=hl.one;cases hv with
  |lst hs hh=>exact⟨_,_,rfl,.inl ⟨hs.B5,λ l hn=>h _ _ (AS hn _) (.tup (Jc hn ht) (hh.mono (AS hn _).del))⟩⟩
 ·obtain⟨v,rfl,hv⟩:=hl.one;cases hv with
  |tup hs hh=>exact⟨_,_,rfl,.inr ⟨Fd.of (Ak hs).2,h _ H (Ae.refl H) (.tup hs hh)⟩⟩
 ·exact h.elim
def YT (hg:Gl X "tuple")(hm:X.mg "tuple" = none)(ha:DE X WX c e f)(hb:bootBuiltins "tuple" = some (.type "tuple"):=by decide +kernel)(hs: ~~~(starEach [e] X.env=[(false,eval e X.env)])):DE X WX c (.Call (.Name "tuple" p) [e] [] pos) (λ ρ=>((f ρ).bind λ d=>(M.ok []).bind λ ds=>.ok (d::ds)).bind Ud):=
 P5 Oe YS hg hm hb (A2 ha A4 hs) (he:=hs)
abbrev kE:D->String
 | .AK => "NoneType"
 | .bl _ => "bool"
 | .int _ => "int"
 | .str _ => "str"
 | .tup _ => "tuple"
 | .lst _ => "list"
 | .ET _ => "NoneType"
 | .Bn _ _ _ => "dict"
 | .ins _ _ _ => "NoneType"
abbrev Eu (T:String)(d:D):Bool:=(kE d==T)||(kE d == "bool" && T == "int")
abbrev Jf (T:String)(d:D):M D:=match d with
 | .ET _| .ins _ _ _=>.bad
 |d=>.ok (.bl (Eu T d))
abbrev sH:D->Bool
 | .ET _| .ins _ _ _=>true
 |_=>false
def YU {T:String}{d:D}(h:sH d=false):Jf T d=.ok (.bl (Eu T d)):=by cases d<;>first | rfl | cases h
abbrev wA (K:za)(T:String):List V->Hp->VK->Prop:=λ xs H Q=>∃x d,xs=[x,.ty T]/\BV K H x d/\sH d=false/\Q (.bl (Eu T d)) H
def YV {T:String}(hk:∀d:D,PySem.W.kitOne X.K (.type (kE d)) (.type T)=some (Eu T d)):FV X (.builtin "isinstance") (wA X.K T):=by
 intro pins s σ H xs us Q I r h;obtain⟨x,d,rfl,hd,hx,q⟩:=h;obtain⟨u,w,rfl,rx,bc⟩:=r.two;cases bc;have fin:∀tk,EP X pins σ Q (.bool (Eu T d)) {s with toks:=tk}:=λ tk=>⟨.bl _,H,I.tok tk,rfl,q⟩;have e:=hk d;cases hd with
 |ET _ _|ins _ _ _=>cases hx
 |Vi hs hl =>
  cases rx;obtain⟨⟨o,h1,h2⟩,_,_⟩:=U9 I (.inl ⟨_,hs⟩);exact zae PySem.W.kitx_dict I.Mv ⟨o,h1,h2⟩ e (λ z=>nomatch z) fin
 |Vj hs hl =>
  cases rx;obtain⟨⟨o,h1,h2⟩,_,_⟩:=U9 I (.inr ⟨_,hs⟩);exact zae PySem.W.kitx_dict I.Mv ⟨o,h1,h2⟩ e (λ z=>nomatch z) fin
 |AK=>cases rx;exact zae PySem.W.kitx_none I.Mv zan e (λ z=>nomatch z) fin
 |bl b=>cases rx;exact zae PySem.W.kitx_bool I.Mv zan e (λ z=>nomatch z) fin
 |int b=>obtain⟨t,rfl⟩:=rx;exact zae PySem.W.kitx_int I.Mv zan e (λ z=>nomatch z) fin
 |str b=>obtain⟨t,rfl⟩:=rx;exact zae PySem.W.kitx_str I.Mv zan e (λ z=>nomatch z) fin
 |tup hs hl =>
  cases rx;obtain⟨_,_,⟨o,h1,h2,_⟩,_⟩:=I.tuple (.of hs);exact zae PySem.W.kitx_tuple I.Mv ⟨o,h1,h2⟩ e (λ z=>nomatch z) fin
 |lst hs hl =>
  cases rx;obtain⟨_,_,⟨o,n,h1,h2,_⟩,_⟩:=I.list hs;exact zae PySem.W.kitx_list I.Mv ⟨o,h1,h2⟩ e (λ z=>nomatch z) fin
def DZ {T:String}{x2:Str}{p2:Pos}(hk:∀d:D,PySem.W.kitOne X.K (.type (kE d)) (.type T)=some (Eu T d))(hg:Gl X "isinstance")(hm:X.mg "isinstance" = none)(iy:Gl X x2)(bm:X.mg x2=none)(uo:bootBuiltins x2=some (.type T))(ha:DE X WX c e f)(hb:bootBuiltins "isinstance" = some (.builtin "isinstance"):=by decide +kernel)(aD:x2 ≠ "__name__" := by decide)(m7:(x2==("__debug__" : Str))=false:=by decide)(hs: ~~~(starEach [e,.Name x2 p2] X.env=(false,eval e X.env)::starEach [.Name x2 p2] X.env))(aG: ~~~(starEach [.Name x2 p2] X.env=[(false,eval (.Name x2 p2) X.env)]))(aq: ~~~((backTo pos (starEach [.Name x2 p2] X.env)).any (·.1)=false)):
 DE X WX c (.Call (.Name "isinstance" p) [e,.Name x2 p2] [] pos) (λ ρ=>(f ρ).bind λ d=>Jf T d):=by
 obtain⟨ta,a1,a2⟩:=ha;refine⟨_,RM (YV hk) hg hm hb (Bf a1 (Bf (eF (v:=.ty T) iy bm uo rfl aD m7) Cp aG) hs) (by decide) (by decide) hs aq,λ P0 P σ H Q ρ E h=>?_⟩;dsimp only at h;refine a2 P0 P σ H _ ρ E ?_;refine YH h λ d h=>?_;cases hx:sH d with
 |true=>cases d<;>first|exact h.elim|cases hx
 |false =>
  rw[YU hx] at h;exact λ v H1 s1 hv=>⟨v,d,rfl,hv.mono DY,hx,h _ H1 s1 (.bl _)⟩
def Fh (K:za)(d:D):PySem.W.kitOne K (.type (kE d)) (.type "tuple")=some (Eu "tuple" d):=by cases d<;>rfl
def KI (K:za)(d:D):PySem.W.kitOne K (.type (kE d)) (.type "list")=some (Eu "list" d):=by cases d<;>rfl
def P6 (K:za)(d:D):PySem.W.kitOne K (.type (kE d)) (.type "bool")=some (Eu "bool" d):=by cases d<;>rfl
def S3 (K:za)(d:D):PySem.W.kitOne K (.type (kE d)) (.type "int")=some (Eu "int" d):=by cases d<;>rfl
abbrev pT (lo hi:Option Int)(d:D):M D:=match d with
 | .lst ds=>.ok (.lst ((ds.drop (HT.MB ds.length 0 lo)).take (HT.MB ds.length ds.length hi-HT.MB ds.length 0 lo)))
 |_=>.bad
abbrev DO (X:Cx)(WX:Str->Hp->Prop)(c:Bool)(e:Option Expr)(f:Ac->M (Option Int)):Prop:=
 ∃t,PO X e t/\∀P0 P σ H Q ρ,Al X.K P0 P H σ ρ->(match f ρ with | .ok o=>∀H',Ae H H'->Q o H' | .ex x=>∀H',Ae H H'->WX x H' | .bad=>False)->t σ H Q
def Qm:DO X WX c none (λ _=>.ok none):=⟨_,eT,λ P0 P σ H Q ρ E h=>h H (Ae.refl H)⟩
abbrev xA (d:D):M (Option Int):=match d with | .int i=>.ok (some i) | _=>.bad
def Jg (ha:DE X WX c e f):DO X WX c (some e) (λ ρ=>(f ρ).bind xA):=by
 obtain⟨ta,a1,a2⟩:=ha;refine⟨_,eU a1,λ P0 P σ H Q ρ E h=>?_⟩;dsimp only at h;refine a2 P0 P σ H _ ρ E ?_;cases q:f ρ with
 |bad|ex x=>rw[q] at h;exact h
 |ok d =>
  rw[q] at h;cases d with
  |int i=>exact λ v H1 s1 hv=>⟨i,hv.int_inv,h H1 s1⟩
  |_=>exact h.elim
end
inductive Out where
 |ret (d:D)|next (ρ:Ac)|brk (ρ:Ac)|cont (ρ:Ac)|Cv (c:Cl)|E5 (t:OT) (ρ:Ac)
abbrev Tr (P0 P:Addr->Prop)(H:Hp)(P':Addr->Prop)(H':Hp):Prop:=Ae (del H P) (del H' P')/\∀a,P0 a->H' a=H a
def Tr.refl {P0 P:Addr->Prop}{H:Hp}:Tr P0 P H P H:=⟨Ae.refl _,λ _ _=>rfl⟩
def Tr.trans {P0 P P1 P2:Addr->Prop}{H H1 H2:Hp}(a:Tr P0 P H P1 H1)(b:Tr P0 P1 H1 P2 H2):Tr P0 P H P2 H2:=⟨a.1.trans b.1,λ x h=>(b.2 x h).trans (a.2 x h)⟩
def Al.tr {K:za}{P0:Es}{P:Addr->Prop}{H H':Hp}{σ:St}{ρ:Ac}(E:Al K P0 P H σ ρ)(e:Ae H H'):Tr P0 P H P H':=
 ⟨e.del,λ a h=>by obtain⟨o,q,_⟩:=E.BX a (E.sub a h);rw[e a o q,q]⟩
abbrev gS (K:za)(WX:Str->Hp->Prop)(P0:Es)(P:Addr->Prop)(H:Hp)(Z:Ends):M Out->Prop
 | .ok (.ret d)=>∀v H' P',Tr P0 P H P' H'->BV K (del H' P0) v d->Z.rt v H'
 | .ok (.next ρ)=>∀σ' H' P',Tr P0 P H P' H'->Al K P0 P' H' σ' ρ->Z.nx σ' H'
 | .ok (.brk ρ)=>∀σ' H' P',Tr P0 P H P' H'->Al K P0 P' H' σ' ρ->Z.bk σ' H'
 | .ok (.cont ρ)=>∀σ' H' P',Tr P0 P H P' H'->Al K P0 P' H' σ' ρ->Z.ct σ' H'
 | .ok (.Cv c)=>∀v fp H' P',Tr P0 P H P' H'->(∀a,P0 a->P' a)->(∀a,P' a->Dq H' a)->Dk K H' P' c v fp->(∀a∈fp,P' a/\¬ P0 a)->fp.Nodup->Z.rt v H'
 | .ok (.E5 t ρ)=>∀v fp σ' H' P',Tr P0 P H P' H'->Al K P0 P' H' σ' ρ->C8 K H' P' v t fp->fp.Nodup->(∀a∈fp,P' a/\¬ P0 a/\∀(j:Nat) c v' fq,ρ[j]?=some (some c)->σ'[j]?=some (some v')->Dk K H' P' c v' fq->a∉fq)->Z.rt v H'
 | .ex x=>∀H' P',Tr P0 P H P' H'->WX x H'
 | .bad=>False
def gS.tr {K:za}{WX:Str->Hp->Prop}{P0:Es}{P P':Addr->Prop}{H H':Hp}{Z:Ends}{m:M Out}(h:gS K WX P0 P H Z m)(t:Tr P0 P H P' H'):gS K WX P0 P' H' Z m:=by
 cases m with
 |bad=>exact h
 |ex x=>exact λ H2 P2 t2=>h H2 P2 (t.trans t2)
 |ok o =>
  cases o with
  |ret d=>exact λ v H2 P2 t2 hv=>h v H2 P2 (t.trans t2) hv
  |next ρ|brk ρ|cont ρ=>exact λ σ2 H2 P2 t2 hv=>h σ2 H2 P2 (t.trans t2) hv
  |Cv c=>exact λ v fp H2 P2 t2=>h v fp H2 P2 (t.trans t2)
  |E5 c ρ=>exact λ v fp σ2 H2 P2 t2=>h v fp σ2 H2 P2 (t.trans t2)
abbrev DS (X:Cx)(WX:Str->Hp->Prop)(st:Stmt)(g:Ac->M Out):Prop:=
 ∃t,PS X st t/\∀P0 P σ H Z ρ,Al X.K P0 P H σ ρ->gS X.K WX P0 P H Z (g ρ)->t Z σ H
abbrev S4 (X:Cx)(WX:Str->Hp->Prop)(st:List Stmt)(g:Ac->M Out):Prop:=
 ∃t,V4 X st t/\∀P0 P σ H Z ρ,Al X.K P0 P H σ ρ->gS X.K WX P0 P H Z (g ρ)->t Z σ H
abbrev WI (m:M Out)(k:Ac->M Out):M Out:=match m with
 | .ok (.next ρ)=>k ρ
 |m=>m
section
variable {X:Cx}{WX:Str->Hp->Prop}{c:Bool}{P0:Es}{P:Addr->Prop}{H:Hp}{σ:St}{ρ:Ac}{a b e:Expr}{f g:Ac->M D}{ft gt:Ac->M Bool}{pos:Pos}{st:Stmt}{rest:List Stmt}{g1 g2:Ac->M Out}
def Ar:S4 X WX [] (λ ρ=>.ok (.next ρ)):=⟨_,eI,λ P0 P σ H Z ρ E h=>h σ H P Tr.refl E⟩
def A6 (h:DS X WX st g1):S4 X WX [st] g1:=let ⟨t,h1,h2⟩:=h;⟨_,eJ h1,h2⟩
def A3 (h:DS X WX st g1)(hr:S4 X WX rest g2):S4 X WX (st::rest) (λ ρ=>WI (g1 ρ) g2):=by
 obtain⟨t,h1,h2⟩:=h;obtain⟨u,r1,r2⟩:=hr;refine⟨_,Y4 h1 r1,λ P0 P σ H Z ρ E h=>?_⟩;dsimp only at h;refine h2 P0 P σ H {Z with nx:=u Z} ρ E ?_;cases q:g1 ρ with
 |bad|ex x=>rw[q] at h;exact h
 |ok o =>
  rw[q] at h;cases o with
  |ret d|brk d|cont d|Cv d|E5 d ρ2=>exact h
  |next ρ'=>exact λ σ' H' P' t E'=>r2 P0 P' σ' H' Z ρ' E' (gS.tr h t)
def MT (ha:DE X WX false e f):DS X WX (.Return (some e) pos) (λ ρ=>(f ρ).bind λ d=>.ok (.ret d)):=by
 obtain⟨ta,a1,a2⟩:=ha;refine⟨_,Q4 a1,λ P0 P σ H Z ρ E h=>?_⟩;dsimp only at h;refine a2 P0 P σ H _ ρ E ?_;cases q:f ρ with
 |bad=>rw[q] at h;exact h
 |ex x=>rw[q] at h;exact λ H' s=>h H' P (E.tr s)
 |ok d=>rw[q] at h;exact λ v H' s hv=>h v H' P (E.tr s) hv
def B3 {c:Expr}{sa sb:List Stmt}(hc:DT X WX c ft)(ha:S4 X WX sa g1)(hb:S4 X WX sb g2):DS X WX (.If c sa sb pos) (λ ρ=>(ft ρ).bind λ k=>if k=true then g1 ρ else g2 ρ):=by
 obtain⟨tc,c1,c2⟩:=hc;obtain⟨ta,a1,a2⟩:=ha;obtain⟨tb,b1,b2⟩:=hb;refine⟨_,qT c1 a1 b1,λ P0 P σ H Z ρ E h=>?_⟩;dsimp only at h;refine c2 P0 P σ H _ ρ E ?_;cases q:ft ρ with
 |bad=>rw[q] at h;exact h
 |ex x=>rw[q] at h;exact λ H' s=>h H' P (E.tr s)
 |ok k =>
  rw[q] at h;intro H1 s1;cases k with
  |true =>
   simp only[M.A9,if_true] at h ⊢;exact a2 P0 P σ H1 Z ρ (E.same s1) (h.tr (E.tr s1))
  |false =>
   simp only[M.A9,zC,if_false] at h ⊢;exact b2 P0 P σ H1 Z ρ (E.same s1) (h.tr (E.tr s1))
def get_set {α:Type}{l:List α}{i j:Nat}{x y:α}(h:(l.set i x)[j]?=some y):(i=j/\i<l.length/\x=y)\/(i≠j/\l[j]?=some y):=by
 by_cases e:i=j
 ·subst e;rw[List.getElem?_set_self'] at h;cases q:l[i]? with
  |none=>rw[q] at h;cases h
  |some z =>
   rw[q] at h;exact .inl ⟨rfl,(zx.mp q).1,by simpa using h⟩
 ·rw[yL e] at h;exact .inr ⟨e,h⟩
def Al.WJ {K:za}(E:Al K P0 P H σ ρ){i:Nat}{v:V}{d:D}(hv:BV K (del H P) v d):Al K P0 P H (σ.set i (some v)) (ρ.set i (some (.val d))):=by
 have gs:∀ {j:Nat},i≠j->(σ.set i (some v))[j]?=σ[j]? :=λ h=>yL h;refine⟨E.sub,E.BX,λ j e h=>?_,λ j c h io=>?_,λ j k c c' u u' fp ag h1 h2 h3 h4 h5 h6 ae=>?_,by rw[yI,yI];exact E.len,λ j c n h hp=>?_⟩
 rotate_left 3
 ·rcases get_set h with ⟨rfl,hl,e1⟩|⟨ae,h⟩
  ·cases e1;cases hp
  ·rw[gs ae];exact E.pin j c n h hp
 ·rcases get_set h with ⟨rfl,hl,e1⟩|⟨ae,h⟩
  ·cases e1;exact⟨v,zI (by rw[E.len];exact hl),hv⟩
  ·obtain⟨w,h1,h2⟩:=E.val j e h;exact⟨w,by rw[gs ae];exact h1,h2⟩
 ·rcases get_set h with ⟨rfl,hl,e1⟩|⟨ae,h⟩
  ·cases e1;cases io
  ·obtain⟨w,fp,h1,h2⟩:=E.ows j c h io;exact⟨w,fp,by rw[gs ae];exact h1,h2⟩
 ·rcases get_set h1 with ⟨rfl,hl,e1⟩|⟨bG,h1⟩
  ·cases e1;exact h5.elim
  ·rcases get_set h2 with ⟨rfl,hl,e1⟩|⟨aD,h2⟩
   ·cases e1;exact h6.elim
   ·rw[gs bG] at h3;rw[gs aD] at h4;exact E.apart j k c c' u u' fp ag h1 h2 h3 h4 h5 h6 ae
def Al.WK {K:za}(E:Al K P0 P H σ ρ){P':Addr->Prop}{H':Hp}{i:Nat}{v:V}{c:Cl}{fp:List Addr}(hs:∀a,P a->P' a)(ht:∀a,P' a->Dq H' a)(sm:Ae (del H P) (del H' P'))
 (keep:∀(j:Nat) c' v' ag,i≠j->ρ[j]?=some (some c')->σ[j]?=some (some v')->Dk K H P c' v' ag->∀a∈ag,H' a=H a/\a∉fp)
 (new:Dk K H' P' c v fp) (hp:∀a∈fp,P' a/\¬ P0 a) (nd:fp.Nodup) (ff:∀n,OY c=some n->v=.ref (P0.g n):=by intro n z;cases z):Al K P0 P' H' (σ.set i (some v)) (ρ.set i (some c)):=by
 have gs:∀ {j:Nat},i≠j->(σ.set i (some v))[j]?=σ[j]? :=λ h=>yL h;refine⟨λ a h=>hs a (E.sub a h),ht,λ j e h=>?_,λ j c' h io=>?_,λ j k c1 c2 u u' az bJ h1 h2 h3 h4 h5 h6 ae=>?_,by rw[yI,yI];exact E.len,λ j c' n h hp=>?_⟩
 rotate_left 3
 ·rcases get_set h with ⟨rfl,hl,e1⟩|⟨ae,h⟩
  ·cases e1;rw[zI (by rw[E.len];exact hl),ff n hp]
  ·rw[gs ae];exact E.pin j c' n h hp
 ·rcases get_set h with ⟨rfl,hl,e1⟩|⟨ae,h⟩
  ·cases e1;exact new.elim
  ·obtain⟨w,h1,h2⟩:=E.val j e h;exact⟨w,by rw[gs ae];exact h1,h2.mono sm⟩
 ·rcases get_set h with ⟨rfl,hl,e1⟩|⟨ae,h⟩
  ·cases e1;exact⟨v,fp,zI (by rw[E.len];exact hl),new,hp,nd⟩
  ·obtain⟨w,fq,h1,h2,h3,h4⟩:=E.ows j c' h io;exact⟨w,fq,by rw[gs ae];exact h1,h2.move sm λ a ha=>(keep j c' w fq ae h h1 h2 a ha).1,λ a ha=>⟨hs a (h3 a ha).1,(h3 a ha).2⟩,h4⟩
 ·have back:∀(l:Nat) (d:Cl) (w:V) (fq:List Addr),i≠l->ρ[l]?=some (some d)->σ[l]?=some (some w)->Dk K H' P' d w fq->∃fr,Dk K H P d w fr/\fr=fq:=λ l d w fq hn hk sk ho=>by
   have io:HY d=true:=by cases d<;>first|rfl|exact ho.elim
   obtain⟨w',bJ,s2,o2,_⟩:=E.ows l d hk io;rw[sk] at s2;cases s2;exact⟨bJ,o2,(o2.move sm λ a ha=>(keep l d w bJ hn hk sk o2 a ha).1).Ci ho⟩
  rcases get_set h1 with ⟨rfl,hl,e1⟩|⟨bG,h1⟩
  ·cases e1;rw[zI (by rw[E.len];exact hl)] at h3;cases h3;rcases get_set h2 with ⟨e,_⟩|⟨aD,h2⟩
   ·exact (ae e).elim
   ·rw[gs aD] at h4;obtain⟨fr,o,rfl⟩:=back k c2 u' bJ aD h2 h4 h6;intro a ha hb;rw[new.Ci h5] at keep;exact (keep k c2 u' fr aD h2 h4 o a hb).2 ha
  ·rw[gs bG] at h3;obtain⟨fr,o,rfl⟩:=back j c1 u az bG h1 h3 h5;rcases get_set h2 with ⟨rfl,hl,e1⟩|⟨aD,h2⟩
   ·cases e1;rw[zI (by rw[E.len];exact hl)] at h4;cases h4;intro a ha;rw[new.Ci h6] at keep;exact (keep j c1 u fr bG h1 h3 o a ha).2
   ·rw[gs aD] at h4;obtain⟨m8,o2,rfl⟩:=back k c2 u' bJ aD h2 h4 h6;exact E.apart j k c1 c2 u u' fr m8 h1 h2 h3 h4 o o2 ae
def Al.sI {K:za}(E:Al K P0 P H σ ρ){P':Addr->Prop}{H':Hp}{i:Nat}{v:V}{c:Cl}{fp:List Addr}(hs:∀a,P0 a->P' a)(ht:∀a,P' a->Dq H' a)(sm:Ae (del H P) (del H' P'))
 (keep:∀(j:Nat) c' v' ag,i≠j->ρ[j]?=some (some c')->σ[j]?=some (some v')->Dk K H P c' v' ag->∀a∈ag,H' a=H a/\a∉fp/\P' a)
 (new:Dk K H' P' c v fp) (hp:∀a∈fp,P' a/\¬ P0 a) (nd:fp.Nodup) (ff:∀n,OY c=some n->v=.ref (P0.g n):=by intro n z;cases z):Al K P0 P' H' (σ.set i (some v)) (ρ.set i (some c)):=by
 have gs:∀ {j:Nat},i≠j->(σ.set i (some v))[j]?=σ[j]? :=λ h=>yL h;refine⟨hs,ht,λ j e h=>?_,λ j c' h io=>?_,λ j k c1 c2 u u' az bJ h1 h2 h3 h4 h5 h6 ae=>?_,by rw[yI,yI];exact E.len,λ j c' n h hp=>?_⟩
 rotate_left 3
 ·rcases get_set h with ⟨rfl,hl,e1⟩|⟨ae,h⟩
  ·cases e1;rw[zI (by rw[E.len];exact hl),ff n hp]
  ·rw[gs ae];exact E.pin j c' n h hp
 ·rcases get_set h with ⟨rfl,hl,e1⟩|⟨ae,h⟩
  ·cases e1;exact new.elim
  ·obtain⟨w,h1,h2⟩:=E.val j e h;exact⟨w,by rw[gs ae];exact h1,h2.mono sm⟩
 ·rcases get_set h with ⟨rfl,hl,e1⟩|⟨ae,h⟩
  ·cases e1;exact⟨v,fp,zI (by rw[E.len];exact hl),new,hp,nd⟩
  ·obtain⟨w,fq,h1,h2,h3,h4⟩:=E.ows j c' h io;exact⟨w,fq,by rw[gs ae];exact h1,h2.move sm λ a ha=>(keep j c' w fq ae h h1 h2 a ha).1,λ a ha=>⟨(keep j c' w fq ae h h1 h2 a ha).2.2,(h3 a ha).2⟩,h4⟩
 ·have back:∀(l:Nat) (d:Cl) (w:V) (fq:List Addr),i≠l->ρ[l]?=some (some d)->σ[l]?=some (some w)->Dk K H' P' d w fq->∃fr,Dk K H P d w fr/\fr=fq:=λ l d w fq hn hk sk ho=>by
   have io:HY d=true:=by cases d<;>first|rfl|exact ho.elim
   obtain⟨w',bJ,s2,o2,_⟩:=E.ows l d hk io;rw[sk] at s2;cases s2;exact⟨bJ,o2,(o2.move sm λ a ha=>(keep l d w bJ hn hk sk o2 a ha).1).Ci ho⟩
  rcases get_set h1 with ⟨rfl,hl,e1⟩|⟨bG,h1⟩
  ·cases e1;rw[zI (by rw[E.len];exact hl)] at h3;cases h3;rcases get_set h2 with ⟨e,_⟩|⟨aD,h2⟩
   ·exact (ae e).elim
   ·rw[gs aD] at h4;obtain⟨fr,o,rfl⟩:=back k c2 u' bJ aD h2 h4 h6;intro a ha hb;rw[new.Ci h5] at keep;exact (keep k c2 u' fr aD h2 h4 o a hb).2.1 ha
  ·rw[gs bG] at h3;obtain⟨fr,o,rfl⟩:=back j c1 u az bG h1 h3 h5;rcases get_set h2 with ⟨rfl,hl,e1⟩|⟨aD,h2⟩
   ·cases e1;rw[zI (by rw[E.len];exact hl)] at h4;cases h4;intro a ha;rw[new.Ci h6] at keep;exact (keep j c1 u fr bG h1 h3 o a ha).2.1
   ·rw[gs aD] at h4;obtain⟨m8,o2,rfl⟩:=back k c2 u' bJ aD h2 h4 h6;exact E.apart j k c1 c2 u u' fr m8 h1 h2 h3 h4 o o2 ae
def KJ {α:Type}:∀ {l:List α}{i:Nat}{x:α},l[i]?=some x->l.set i x=l
 |[],_,_,h=>by cases h
 |y::r,0,x,h=>by cases h;rfl
 |y::r,i+1,x,h=>by rw[zj,KJ (by simpa using h)]
def Al.mut {K:za}(E:Al K P0 P H σ ρ){i p:Nat}{xs:List V}{ds iz:List D}(ho:ρ[i]?=some (some (.own ds)))(hs:σ[i]?=some (some (.ref p)))(pP:P p)(ke:¬ P0 p)(hx:Ah K (del H P) xs iz):
 Al K P0 P (upd H p (.lst xs)) σ (ρ.set i (some (.own iz)))/\Tr P0 P H P (upd H p (.lst xs)):=by
 have sd:del (upd H p (.lst xs)) P=del H P:=by
  funext b;by_cases hb:P b
  ·rw[D4 hb,D4 hb]
  ·rw[As hb,As hb,Ai (λ z=>hb (by rw[z];exact pP))]
 have sm:Ae (del H P) (del (upd H p (.lst xs)) P):=by rw[sd];exact Ae.refl _
 obtain⟨v,fp,s1,o1,_⟩:=E.ows i _ ho rfl;rw[hs] at s1;cases s1;have key:=E.WK (P':=P) (H':=upd H p (.lst xs)) (i:=i) (v:=.ref p) (c:=.own iz) (fp:=[p]) (λ a h=>h) (λ a h=>?_) sm (λ j c' v' ag ae h1 h2 h3 a ha=>?_) ⟨p,xs,rfl,rfl,Aq,by rw[sd];exact hx⟩ (λ a ha=>by rw[zi.mp ha];exact⟨pP,ke⟩) (by simp)
 ·rw[KJ hs] at key;exact⟨key,sm,λ a h=>by rw[Ai (λ z=>ke (by rw[<-z];exact h))]⟩
 ·by_cases ha:a=p
  ·subst ha;exact Dq.lst Aq
  ·unfold Dq;rw[Ai ha];exact E.BX a h
 ·obtain⟨p',dk,e,rfl,_⟩:=o1;cases e;have hn:a≠p:=λ z=>E.apart j i c' _ v' _ ag [p] h1 ho h2 hs h3 ⟨p,dk,rfl,rfl,by assumption⟩ (zY ae) a ha (by rw[z];exact zi.mpr rfl);exact⟨Ai hn,λ z=>hn (zi.mp z)⟩
def Al.grow {K:za}(E:Al K P0 P H σ ρ){i p:Nat}{xs:List V}{ds:List D}{v:V}{d:D}(ho:ρ[i]?=some (some (.own ds)))(hs:σ[i]?=some (some (.ref p)))(hp:H p=some (.lst xs))(pP:P p)(ke:¬ P0 p)(hx:Ah K (del H P) xs ds)(hv:BV K (del H P) v d):
 Al K P0 P (upd H p (.lst (xs++[v]))) σ (ρ.set i (some (.own (ds++[d]))))/\Tr P0 P H P (upd H p (.lst (xs++[v]))):=E.mut ho hs pP ke (hx.snoc hv)
def AU (i:Nat){x:Str}{pos':Pos}(hN:X.N.Nodup)(hi:X.N[i]?=some x)(hx:Loc X.env.scope x)(ha:DE X WX true e f)(hs: ~~~(swapsWith e (some (.Name x pos')) pos.line X.env=pure false))(hf:X.fn x=true\/X.env.scope.names.lookup x=some .local:=by first | exact .inl rfl | exact .inr rfl | assumption):
 DS X WX (.Assign [.Name x pos'] e pos) (λ ρ=>(f ρ).bind λ d=>.ok (.next (ρ.set i (some (.val d))))):=by
 obtain⟨ta,a1,a2⟩:=ha;refine⟨_,TU hN hi hx a1 hs hf,λ P0 P σ H Z ρ E h=>?_⟩;dsimp only at h;refine a2 P0 P σ H _ ρ E ?_;cases q:f ρ with
 |bad=>rw[q] at h;exact h
 |ex x=>rw[q] at h;exact λ H' s=>h H' P (E.tr s)
 |ok d=>rw[q] at h;exact λ v H' s hv=>h _ H' P (E.tr s) ((E.same s).WJ hv)
def WL {K:za}{WX:Str->Hp->Prop}{P0:Es}{P:Addr->Prop}{H:Hp}{Z:Ends}{σ:St}{ρ:Ac}{α:Type}{m:M α}{k:α->M Out}{R:M α->Prop}(h:gS K WX P0 P H Z (m.bind k))(E:Al K P0 P H σ ρ)(hk:∀a,gS K WX P0 P H Z (k a)->R (.ok a))(hb:False->R .bad:=by exact λ h=>h)(hx:∀x,(∀H',Ae H H'->WX x H')->R (.ex x):=by exact λ _ h=>h):R m:=by
 cases m with
 |ok a=>exact hk a h
 |ex x=>exact hx x λ H' s=>h H' P (E.tr s)
 |bad=>exact hb h
abbrev WM (i:Nat)(ρ:Ac)(m:M D):M Out:=match ρ[i]? with
 |some (some (.own ds))=>m.bind λ d=>if ds.length<1000 then .ok (.next (ρ.set i (some (.own (ds++[d]))))) else .bad
 |_=>.bad
def DL (i:Nat){x:Str}{p1 apos ad:Pos}(hv:PE X (.Name x p1) (Kw i))(ha:DE X WX true e f)(hs: ~~~(starEach [e] X.env=[(false,eval e X.env)]))(aR: ~~~(swapsWith (.Call (.Attribute (.Name x p1) "append" apos) [e] [] ad) none pos.line X.env=pure false))(al: ~~~(attributeBase (.Name x p1) "append" X.env (eval (.Name x p1) X.env)=eval (.Name x p1) X.env))(aE: ~~~(((backTo ad (starEach [e] X.env)).all (λ x => !x.1)&&(backToKw ad (keywordEach [] X.env)).all (λ x=>x.1.isSome)&&decide (([e]:List Expr).length+([]:List Keyword).length+(if ([]:List Keyword).isEmpty then 0 else 1)<30))=true))(am: ~~~((apos.endLine==ad.line)=true))(ak: ~~~((backTo ad (starEach [] X.env)).any (·.1)=false)):
 DS X WX (.Expr (.Call (.Attribute (.Name x p1) "append" apos) [e] [] ad) pos) (λ ρ=>WM i ρ (f ρ)):=by
 obtain⟨ta,a1,a2⟩:=ha;refine⟨_,Ex (OQ yR PySem.F.slot_list_append PySem.F.type_list_append Kz hv (Bf a1 Cp hs) al aE am hs ak) aR,λ P0 P σ H Z ρ E h=>?_⟩;dsimp only at h;unfold WM at h;split at h
 ·rename_i ds e1;obtain⟨p,xs,h1,h2,h3,h4,h5⟩:=E.own i ds e1;refine⟨_,h1,.inl ⟨rfl,xs,.of h2⟩,?_⟩;refine a2 P0 P σ H _ ρ E ?_;refine WL h E λ d h=>?_;by_cases hl:ds.length<1000
  ·rw[if_pos hl] at h;intro v H1 s1 hv;have E1:=E.same s1;have gx:H1 p=some (.lst xs):=s1 _ _ h2;refine⟨p,xs,v,rfl,rfl,gx,AJ (by rw[h5.length];omega),?_⟩;obtain⟨E2,t2⟩:=E1.grow e1 h1 gx h3 h4 (h5.mono s1.del) hv;exact h _ _ _ ((E.tr s1).trans t2) E2
  ·rw[if_neg hl] at h;exact h.elim
 ·exact h.elim
end
abbrev gG (K:za)(P0:Es)(P:Addr->Prop)(H:Hp)(Q:St->Hp->Prop):M Ac->Prop
 | .ok ρ=>∀σ',Al K P0 P H σ' ρ->Q σ' H
 |_=>False
abbrev DG (X:Cx)(tg:Expr)(gt:D->Ac->M Ac):Prop:=
 ∃g:TG,PG X tg g/\∀P0 P σ H Q ρ v d,Al X.K P0 P H σ ρ->BV X.K (del H P) v d->gG X.K P0 P H Q (gt d ρ)->g v σ H Q
abbrev uB (X:Cx)(up:List Expr)(gt:List D->Ac->M Ac):Prop:=
 ∃g:XW,pO X up g/\∀P0 P σ H Q ρ v d,Al X.K P0 P H σ ρ->Ah X.K (del H P) v d->gG X.K P0 P H Q (gt d ρ)->g v σ H Q
structure YW (K:za)(J:It)(P:Addr->Prop)(H:Hp)(ds:List D):Prop where
 go:∀(i:Nat) P' H',Ae (del H P) (del H' P')->i<ds.length->J.go i H'
 stop:∀(i:Nat) P' H',Ae (del H P) (del H' P')->ds.length<=i->J.stop i H'
 jY:∀(i:Nat) P' H' v dl d,Ae (del H P) (del H' P')->(∀a,P' a->Dq H' a)->ds[i]?=some d->J.jY i H' v dl->Ae H' dl/\BV K (del dl P') v d
abbrev DI (X:Cx)(WX:Str->Hp->Prop)(tg iter:Expr)(f:Ac->M (List D)):Prop:=
 ∃wi,PI X tg iter wi/\∀P0 P σ H R ρ,Al X.K P0 P H σ ρ->(match f ρ with | .ok ds=>∀J H',Ae H H'->YW X.K J P H' ds->R J H' | .ex x=>∀H',Ae H H'->WX x H' | .bad=>False)->wi σ H R
abbrev forM (gt:D->Ac->M Ac)(body:Ac->M Out):List D->Ac->M Out
 |[],ρ=>.ok (.next ρ)
 |d::r,ρ=>match gt d ρ with
  | .ok ρ1=>(match body ρ1 with
   | .ok (.next ρ2)| .ok (.cont ρ2)=>forM gt body r ρ2
   | .ok (.brk ρ2)=>.ok (.next ρ2)
   |m=>m)
  |_=>.bad
section
variable {X:Cx}{WX:Str->Hp->Prop}{c:Bool}{P0:Es}{P:Addr->Prop}{H:Hp}{σ:St}{ρ:Ac}{a b e tg iter:Expr}{f g:Ac->M D}{ft:Ac->M Bool}{pos:Pos}{gt:D->Ac->M Ac}{cr:List D->Ac->M Ac}{gb:Ac->M Out}{fi:Ac->M (List D)}
def AF (i:Nat){x:Str}(hN:X.N.Nodup)(hi:X.N[i]?=some x)(hx:Loc X.env.scope x)(hf:X.fn x=true\/X.env.scope.names.lookup x=some .local:=by first | exact .inl rfl | exact .inr rfl | assumption):DG X (.Name x pos) (λ d ρ=>.ok (ρ.set i (some (.val d)))):=
 ⟨_,Q5 hN hi hx hf,λ P0 P σ H Q ρ v d E hv h=>h _ (E.WJ hv)⟩
def LZ:uB X [] (λ ds ρ=>match ds with | []=>.ok ρ | _=>.bad):=⟨_,V5,λ P0 P σ H Q ρ v d E hv h=>by
 cases hv with
 |nil=>exact⟨rfl,h σ E⟩
 |cons _ _=>exact h.elim⟩
def Dl {es:List Expr}(h1:DG X e gt)(h2:uB X es cr)(hs: ~~~((assignEach (e::es) X.env).map (·.2)=assign e X.env::(assignEach es X.env).map (·.2))):
 uB X (e::es) (λ ds ρ=>match ds with|d::r=>(gt d ρ).bind (cr r)|[]=>.bad):=by
 obtain⟨t,a1,a2⟩:=h1;obtain⟨u,b1,b2⟩:=h2;refine⟨_,RJ a1 b1 hs,λ P0 P σ H Q ρ v d E hv h=>?_⟩;cases hv with
 |nil=>exact h.elim
 | @cons x d xs ds hx cf =>
  refine⟨x,xs,rfl,a2 P0 P σ H _ ρ x d E hx ?_⟩;dsimp only at h;cases q:gt d ρ with
  |bad|ex y=>rw[q] at h;exact h
  |ok ρ1=>rw[q] at h;exact λ σ' E'=>b2 P0 P σ' H Q ρ1 xs ds E' cf h
def Qn {es:List Expr}{k n:Nat}(hc:X.calm=true)(h:uB X es cr)(hn: ~~~((assignEach es X.env).length=n))(aL: ~~~((assignEach es X.env).findIdx? (·.1)=none)):
 DG X (.Tuple es k pos) (λ d ρ=>match d with | .tup ds=>if ds.length=n then cr ds ρ else .bad|_=>.bad):=by
 obtain⟨t,a1,a2⟩:=h;refine⟨_,Y6 hc a1 hn aL,λ P0 P σ H Q ρ v d E hv h=>?_⟩;cases hv with
 | @tup a xs ds hs hl =>
  dsimp only at h;by_cases hd:ds.length=n
  ·rw[if_pos hd] at h;exact⟨a,xs,rfl,Fd.of (Ak hs).2,by rw[hl.length];exact hd,a2 P0 P σ H Q ρ xs ds E hl h⟩
  ·rw[if_neg hd] at h;exact h.elim
 |_=>exact h.elim
def YX (ha:DE X WX true e f)(hg:DG X tg gt)(hs: ~~~(swapsWithSole [tg] e pos.line X.env=pure false))(hw: ~~~(swappedStores [tg] e X.env=pure none))(h1: ~~~((assignEach [tg] X.env).map (·.2)=[assign tg X.env])):
 DS X WX (.Assign [tg] e pos) (λ ρ=>(f ρ).bind λ d=>match gt d ρ with | .ok ρ'=>.ok (.next ρ')|_=>.bad):=by
 obtain⟨ta,a1,a2⟩:=ha;obtain⟨t,b1,b2⟩:=hg;refine⟨_,TR a1 b1 hs hw h1,λ P0 P σ H Z ρ E h=>?_⟩;dsimp only at h;refine a2 P0 P σ H _ ρ E ?_;refine WL h E λ d h=>?_;intro v H' s hv;refine b2 P0 P σ H' _ ρ v d (E.same s) hv ?_;cases q2:gt d ρ with
 |ok ρ'=>rw[q2] at h;exact λ σ' E'=>h σ' H' P (E.tr s) E'
 |_=>rw[q2] at h;exact h.elim
def AW (ha:DE X WX true e f):DI X WX tg e (λ ρ=>(f ρ).bind λ d=>match d with | .lst ds=>.ok ds | _=>.bad):=by
 obtain⟨ta,a1,a2⟩:=ha;refine⟨_,V7 a1,λ P0 P σ H R ρ E h=>?_⟩;dsimp only at h;refine a2 P0 P σ H _ ρ E ?_;cases q:f ρ with
 |bad|ex x=>rw[q] at h;exact h
 |ok d =>
  rw[q] at h;cases d with
  |lst ds =>
   intro v H1 s1 hv;cases hv with
   | @lst a xs _ hs hl =>
    refine⟨a,rfl,⟨xs,hs.B5⟩,h _ H1 s1 ⟨λ i P' H' s hi=>?_,λ i P' H' s hi=>?_,λ i P' H' v dl d s ht hd y=>?_⟩⟩
    ·obtain⟨x,hx,_⟩:=hl.get (zh hi);exact⟨xs,x,(s.seq hs).B5,hx⟩
    ·exact⟨xs,(s.seq hs).B5,by rw[hl.length];exact hi⟩
    ·obtain⟨rfl,y⟩:=y;obtain⟨x,hx,ba⟩:=hl.get hd;have e:=y xs (s.seq hs).B5;rw[hx] at e;cases e;exact⟨Ae.refl _,ba.mono s⟩
  |_=>exact h.elim
abbrev Cs (lo:Int):Nat->List D
 |0=>[]
 |n+1=>.int lo::Cs (lo+1) n
def Bk (lo:Int):∀n:Nat,(Cs lo n).length=n:=by
 intro n;induction n generalizing lo with
 |zero=>rfl
 |succ n ih=>rw[Cs,zk,ih]
def BU {lo:Int}{n i:Nat}{d:D}(h:(Cs lo n)[i]?=some d):d=.int (lo+i)/\i<n:=by
 have hi:i<n:=by
  have:=(zx.mp h).1;rw[Bk] at this;exact this
 refine⟨?_,hi⟩;induction n generalizing lo i with
 |zero=>omega
 |succ n ih =>
  cases i with
  |zero=>rw[Cs] at h;simp at h;rw[<-h];simp
  |succ i =>
   rw[Cs,zK] at h;rw[ih h (by omega)];congr 1;omega
def Ue {K:za}{P:Addr->Prop}{H:Hp}(lo:Int)(n:Nat):YW K (tW lo n) P H (Cs lo n):=
 ⟨λ i P' H' _ hi=>by rw[Bk] at hi;exact hi,λ i P' H' _ hi=>by rw[Bk] at hi;exact hi,λ i P' H' v dl d _ _ hd y=>by
  obtain⟨rfl,rfl⟩:=y;obtain⟨rfl,_⟩:=BU hd;exact⟨Ae.refl _,.int _⟩⟩
abbrev Ug:D->M (List D)
 | .int j=>@ite _ (-(2^62)<=j/\j<2^62) (yQ _) (.ok (Cs 0 j.toNat)) .bad
 |_=>.bad
def S5 {j:Int}(h1 : -(2^62)<=j)(h2:j<2^62):Ug (.int j)=.ok (Cs 0 j.toNat):=if_pos ⟨h1,h2⟩
def Gs {n:Nat}(h:n<=1000):Ug (.int (n:Int))=.ok (Cs 0 n):=by
 rw[S5 (by omega) (by omega),yM]
def Cj {p:Pos}(hg:Gl X "range")(hm:X.mg "range" = none)(ha:DE X WX c a f)(hs: ~~~(starEach [a] X.env=[(false,eval a X.env)])):
 DI X WX tg (.Call (.Name "range" p) [a] [] pos) (λ ρ=>(f ρ).bind Ug):=by
 obtain⟨ta,a1,a2⟩:=ha;refine⟨_,Wo hg hm (Bf a1 Cp hs) hs,λ P0 P σ H R ρ E h=>?_⟩;dsimp only at h;refine a2 P0 P σ H _ ρ E ?_;cases q:f ρ with
 |bad|ex x=>rw[q] at h;exact h
 |ok d =>
  rw[q] at h;cases d with
  |int j =>
   simp only[M.A9] at h;by_cases hj : -(2^62)<=j/\j<2^62
   ·rw[S5 hj.1 hj.2] at h;exact λ v H1 s1 hv=>⟨j,by rw[hv.int_inv],hj.1,hj.2,h _ H1 s1 (Ue 0 _)⟩
   ·have e:Ug (.int j)=.bad:=if_neg hj;rw[e] at h;exact h.elim
  |_=>exact h.elim
abbrev Lh (k:Nat):List D->List D
 |[]=>[]
 |d::r=>.tup [.int k,d]::Lh (k+1) r
def Hu (k:Nat)(ds:List D):(Lh k ds).length=ds.length:=by
 induction ds generalizing k with
 |nil=>rfl
 |cons d r ih=>rw[Lh,zk,zk,ih]
def KL {k i:Nat}{ds:List D}{e:D}(h:(Lh k ds)[i]?=some e):∃d,ds[i]?=some d/\e=.tup [.int ((k+i:Nat):Int),d]:=by
 induction ds generalizing k i with
 |nil=>rw[Lh] at h;simp at h
 |cons d r ih =>
  cases i with
  |zero=>rw[Lh] at h;simp at h;exact⟨d,rfl,by rw[<-h];rfl⟩
  |succ i =>
   rw[Lh,zK] at h;obtain⟨d',h1,h2⟩:=ih h;refine⟨d',by simpa using h1,?_⟩;rw[h2];congr 3;omega
def Vp {bS:List Expr}{x1}{bq p:Pos}(hg:Gl X "enumerate")(hm:X.mg "enumerate" = none)(ha:DE X WX true a f)(hb:bootBuiltins "enumerate" = some (.type "enumerate"):=by decide +kernel)(hs: ~~~(starEach [a] X.env=[(false,eval a X.env)])):
 DI X WX (.Tuple bS x1 bq) (.Call (.Name "enumerate" p) [a] [] pos) (λ ρ=>(f ρ).bind λ d=>match d with | .lst ds=>.ok (Lh 0 ds)|_=>.bad):=by
 obtain⟨ta,a1,a2⟩:=ha;refine⟨_,fK hg hm (Bf a1 Cp hs) hb hs,λ P0 P σ H R ρ E h=>?_⟩;dsimp only at h;refine a2 P0 P σ H _ ρ E ?_;cases q:f ρ with
 |bad|ex x=>rw[q] at h;exact h
 |ok d =>
  rw[q] at h;cases d with
  |lst ds =>
   intro v H1 s1 hv;cases hv with
   | @lst a xs _ hs hl =>
    refine⟨a,rfl,⟨xs,hs.B5⟩,h _ H1 s1 ⟨λ i P' H' s hi=>?_,λ i P' H' s hi=>?_,λ i P' H' v dl d s ht hd y=>?_⟩⟩
    ·rw[Hu] at hi;obtain⟨x,hx,_⟩:=hl.get (zh hi);exact⟨xs,x,(s.seq hs).B5,hx⟩
    ·rw[Hu] at hi;exact⟨xs,(s.seq hs).B5,by rw[hl.length];exact hi⟩
    ·obtain⟨p,x,hn,rfl,y,rfl⟩:=y;obtain⟨d',aB,rfl⟩:=KL hd;obtain⟨x',hx,ba⟩:=hl.get aB;have e:=y xs (s.seq hs).B5;rw[hx] at e;cases e;refine⟨AS hn _,.tup (Jc hn ht) (.cons ?_ (.cons ((ba.mono s).mono (AS hn _).del) .nil))⟩;rw[Nat.zero_add];exact .int _
  |_=>exact h.elim
def EV {α:Type}{l:List α}{i:Nat}(h:i<l.length):l.drop i=l[i]::l.drop (i+1):=zb0 h
def Bp {body:List Stmt}(hp:PassesOwn (model X.prog X.w) X.A X.env X.xe)(hc:X.calm=true)(hi:DI X WX tg iter fi)(hg:DG X tg gt)(hb:S4 X WX body gb)(hs:∀x,foldedSetIterable iter X.env x=pure x:=by intro _;rfl):
 DS X WX (.For tg iter body [] pos) (λ ρ=>(fi ρ).bind λ ds=>forM gt gb ds ρ):=by
 obtain⟨wi,i1,i2⟩:=hi;obtain⟨t,a1,a2⟩:=hg;obtain⟨tb,b1,b2⟩:=hb;refine⟨_,Yb hp hc i1 a1 b1 hs,λ P0 P σ H Z ρ E h=>?_⟩;dsimp only at h;refine i2 P0 P σ H _ ρ E ?_;cases q:fi ρ with
 |bad=>rw[q] at h;exact h
 |ex x=>rw[q] at h;exact λ H' s=>h H' P (E.tr s)
 |ok ds =>
  rw[q] at h;simp only[M.A9] at h;intro J H1 s1 ok;refine⟨λ i m σ' H'=>m=ds.length-i/\i<=ds.length/\∃P' ρ',Tr P0 P H1 P' H'/\Al X.K P0 P' H' σ' ρ'/\gS X.K WX P0 P' H' Z (forM gt gb (ds.drop i) ρ'),
   ⟨ds.length,by simp,zM _,P,ρ,Tr.refl,E.same s1,by rw[List.drop_zero];exact h.tr (E.tr s1)⟩,?_⟩
  rintro i m σ' H' ⟨rfl,hi,P',ρ',t',E',g'⟩;by_cases af:i<ds.length
  ·refine .inr ⟨ok.go i P' H' t'.1 af,λ σ2 H2=>i+1<=ds.length/\∃P2 ρ2,Tr P0 P H1 P2 H2/\Al X.K P0 P2 H2 σ2 ρ2/\gS X.K WX P0 P2 H2 Z (forM gt gb (ds.drop (i+1)) ρ2),λ σ2 H2 hq=>⟨ds.length-(i+1),by omega,rfl,hq.1,hq.2⟩,λ v H2 y=>?_⟩;obtain⟨s2,hv⟩:=ok.jY i P' H' v H2 ds[i] t'.1 E'.BX (zh af) y;rw[EV af,forM] at g';have E2:=E'.same s2;refine a2 P0 P' σ' H2 _ ρ' v ds[i] E2 hv ?_;cases q1:gt ds[i] ρ' with
   |bad=>rw[q1] at g';exact g'
   |ex x=>rw[q1] at g';exact g'.elim
   |ok ρ1 =>
    rw[q1] at g';dsimp only at g';intro σ3 E3;refine b2 P0 P' σ3 H2 _ ρ1 E3 ?_;have tt:Tr P0 P H1 P' H2:=t'.trans (E'.tr s2);cases q2:gb ρ1 with
    |bad=>rw[q2] at g';exact g'
    |ex x=>rw[q2] at g';exact gS.tr (m:=.ex x) g' (E'.tr s2)
    |ok o =>
     rw[q2] at g';cases o with
     |ret d=>exact gS.tr (m:=.ok (.ret d)) g' (E'.tr s2)
     |Cv d=>exact gS.tr (m:=.ok (.Cv d)) g' (E'.tr s2)
     |E5 d ρ2=>exact gS.tr (m:=.ok (.E5 d ρ2)) g' (E'.tr s2)
     |next ρ2|cont ρ2=>exact λ σ4 H4 P4 t4 E4=>⟨af,P4,ρ2,tt.trans t4,E4,gS.tr g' ((E'.tr s2).trans t4)⟩
     |brk ρ2=>exact λ σ4 H4 P4 t4 E4=>g' σ4 H4 P4 ((E'.tr s2).trans t4) E4
  ·have e:i=ds.length:=by omega
   subst e;refine .inl ⟨ok.stop _ P' H' t'.1 (zv _),?_⟩;rw[zam,forM] at g';exact g' σ' H' P' Tr.refl E'
end
abbrev Uh (K:za)(n:Nat)(F:List D->M D):Sp:=λ vs H Q _=>vs.length=n/\∃P ds,(∀a,P a->Dq H a)/\Ah K (del H P) vs ds/\gV K (λ _ _=>False) P H Q (F ds)
abbrev AE (N:List Str)(ds:List D):Ac:=ds.map (λ d=>some (.val d))++zt (N.length-ds.length) none
abbrev wB:Cl->M D
 | .val d=>.ok d
 | .own ds=>.ok (.lst ds)
 | .ow (.rows C5)=>.ok (.lst (C5.map D.lst))
 | .ow (.Ia _ _)=>.bad
 | .ow (.tree _ t)=>.ok (er t)
abbrev fin (m:M Out):M D:=match m with
 | .ok (.ret d)=>.ok d
 | .ok (.Cv c)=>wB c
 | .ok (.next _)=>.ok .AK
 |_=>.bad
def P7 {K:za}{P:Addr->Prop}{H:Hp}{N:List Str}{vs:List V}{ds:List D}(ht:∀a,P a->Dq H a)(h:Ah K (del H P) vs ds):Al K ⟨P,λ _=>0⟩ P H (start N vs) (AE N ds):=by
 have hl:=h.length;have key:∀(i:Nat) (c:Cl),(AE N ds)[i]?=some (some c)->∃d,ds[i]?=some d/\c=.val d:=λ i c e=>by
  unfold AE at e;by_cases hi:i<ds.length
  ·rw[yJ (by simpa using hi),z5] at e;cases q:ds[i]? with
   |none=>rw[q] at e;cases e
   |some d=>rw[q] at e;cases e;exact⟨d,rfl,rfl⟩
  ·rw[yY (by simpa using hi),za7] at e;split at e<;>cases e
 refine⟨λ _ h=>h,ht,λ i d e=>?_,λ i es e io=>?_,λ i j c c' v v' fp ag e _ _ _ ho _ _=>?_,?_,λ i c n e hp=>?_⟩
 rotate_left 4
 ·obtain⟨d',q,z⟩:=key i _ e;cases z;cases hp
 ·obtain⟨d',q,z⟩:=key i _ e;cases z;obtain⟨v,hv,hd⟩:=h.get q;refine⟨v,?_,hd⟩;unfold start;rw[yJ (by rw[zc];exact (zx.mp hv).1),z5,hv];rfl
 ·obtain⟨d',q,z⟩:=key i _ e;cases z;cases io
 ·obtain⟨d',q,z⟩:=key i _ e;cases z;exact ho.elim
 ·unfold start AE;simp[hl]
def Dz {P:Addr->Prop}{H H':Hp}{P':Addr->Prop}(t:Tr P P H P' H'):Ae H H':=λ b o e=>by
 by_cases hb:P b
 ·rw[t.2 b hb];exact e
 ·exact (Ak (t.1 b o (by rw[As hb];exact e))).2
def BE.nG {K:za}{H:Hp}{P P0:Addr->Prop}(hs:∀a,P0 a->P a):∀ {ps:List Addr}{C5:List (List D)},(∀a∈ps,¬ P0 a)->BE K H P ps C5->Ah K (del H P0) (ps.map V.ref) (C5.map D.lst)
 |_,_,_,.nil=>.nil
 |_,_,k,.cons h r t=>.cons (.lst (.of (show del H P0 _=_ by rw[As (k _ zd)];exact h)) (r.mono (CN hs))) (BE.nG hs (λ a ha=>k a (ze _ ha)) t)
def fP {K:za}{WX:Str->Hp->Prop}{P P2:Addr->Prop}{H H':Hp}{Q:VK}{c:Cl}{v:V}{fp:List Addr}(h:gV K WX P H Q (wB c))(t':Tr P P H P2 H')(hs:∀a,P a->P2 a)(ht:∀a,P2 a->Dq H' a)(ho:Dk K H' P2 c v fp)(hp:∀a∈fp,P2 a/\¬ P a):Q v H':=by
 cases c with
 |val d=>exact ho.elim
 |own ds =>
  obtain⟨p,xs,rfl,rfl,h1,h2⟩:=ho;exact h _ H' (Dz t') (.lst (.of (show del H' P p=_ by rw[As (hp p zd).2];exact h1)) (h2.mono (CN hs)))
 |ow o =>
  cases o with
  |rows C5 =>
   obtain⟨p,ps,rfl,rfl,h1,h2⟩:=ho;exact h _ H' (Dz t') (.lst (.of (show del H' P p=_ by rw[As (hp p zd).2];exact h1)) (h2.nG hs λ a ha=>(hp a (ze _ ha)).2))
  |Ia p ds=>exact h.elim
  |tree p t=>exact h _ H' (Dz t') (C8.has hs (λ a ha=>(hp a ha).2) ho)
section
variable {P:Program}{w:World}{K:za}{mg:Str->Option Value}{base:Heap}
def sJ {x qual:Str}{st:Stmt}{f:Addr}{fd:FuncData}{N ps:List Str}{k:Nat}(F:XX K x qual st f fd)(S:Ad N ps (A5 st))(g:Ac->M Out)
 (hb:∀(B4:Value) (A:Around) (outer:List Env) (s:Shared) (H:Hp) (E:XK),Bu k (A.deeper (envOfC qual (A5 st) s.heap.objs.size f B4))->S4 (RK fA P w K mg base N qual (A5 st) f B4 A outer s H E).qQ (λ _ _=>False) (AN st) g):
 Di P w K mg base fA (k+1) f fd ps (Uh K ps.length λ ds=>fin (g (AE N ds))):=by
 refine F.ok S (λ vs H Q E h=>h.1) λ B4 A outer s H vs Q E hr h=>?_;obtain⟨hl,P',ds,ht,hv,hq⟩:=h;obtain⟨t,h1,h2⟩:=hb B4 A outer s H E hr;refine⟨t,h1,h2 ⟨P',λ _=>0⟩ P' _ H _ _ (P7 ht hv) ?_⟩;dsimp only at hq;revert hq;cases g (AE N ds) with
 |bad|ex x=>exact λ h=>h.elim
 |ok o =>
  cases o with
  |ret d=>exact λ h v H' P2 t hv=>h v H' (Dz t) hv
  |next ρ=>exact λ h σ' H' P2 t E=>h .AK H' (Dz t) .AK
  |brk ρ|cont ρ=>exact λ h=>h.elim
  |Cv c=>exact λ h v fp H' P2 t hs ht ho hp nd=>fP h t hs ht ho hp
  |E5 d ρ=>exact λ h=>h.elim
end
section
variable {X:Cx}{WX:Str->Hp->Prop}{c:Bool}{P0:Es}{P:Addr->Prop}{H:Hp}{σ:St}{ρ:Ac}{a b e tg iter:Expr}{f g:Ac->M D}{ft:Ac->M Bool}{pos:Pos}{gt:D->Ac->M Ac}{fi:Ac->M (List D)}{es:List Expr}{fs:Ac->M (List D)}
abbrev BF (μ:List (Option Nat))(ρ:Ac):Ac:=μ.map λ o=>o.bind λ i=>match ρ[i]? with | some (some (.val d))=>some (.val d) | _=>none
def Hv {μ:List (Option Nat)}{ρ:Ac}{j:Nat}{cl:Cl}(h:(BF μ ρ)[j]?=some (some cl)):∃i d,μ[j]?=some (some i)/\ρ[i]?=some (some (.val d))/\cl=.val d:=by
 unfold BF at h;rw[z5] at h;cases q:μ[j]? with
 |none=>rw[q] at h;cases h
 |some o =>
  rw[q] at h;cases o with
  |none=>cases h
  |some i =>
   simp only[za9,Option.bind_some,Option.some.injEq] at h;split at h
   ·rename_i d e;cases h;exact⟨i,d,rfl,e,rfl⟩
   ·cases h
def Al.block {K:za}(E:Al K P0 P H σ ρ)(μ:List (Option Nat)):Al K P0 P H (EH μ σ) (BF μ ρ):=by
 refine⟨E.sub,E.BX,λ j d h=>?_,λ j ds h io=>?_,λ j k c c' v v' fp ag h _ _ _ ho _ _=>?_,by unfold EH BF;simp,λ j c n h hp=>by obtain⟨i,d',h1,h2,h3⟩:=Hv h;subst h3;cases hp⟩
 ·obtain⟨i,d',h1,h2,h3⟩:=Hv h;cases h3;obtain⟨v,h4,h5⟩:=E.val i d h2;refine⟨v,?_,h5⟩;unfold EH;rw[z5,h1];simp[h4]
 ·obtain⟨i,d',h1,h2,h3⟩:=Hv h;cases h3;cases io
 ·obtain⟨i,d',h1,h2,h3⟩:=Hv h;cases h3;exact ho.elim
abbrev Bv (gt:D->Ac->M Ac)(ft:Ac->M Bool)(fe:Ac->M D):List D->Ac->M (List D)
 |[],_=>.ok []
 |d::r,ρ=>match gt d ρ with
  | .ok ρ1=>(match ft ρ1 with
   | .ok k=>if k=true then (match fe ρ1 with
    | .ok y=>(match Bv gt ft fe r ρ with | .ok ys=>.ok (y::ys)|_=>.bad)
    |_=>.bad) else Bv gt ft fe r ρ
   |_=>.bad)
  |_=>.bad
abbrev sL (X:Cx)(scope:Scope)(NB:List Str)(μ:List (Option Nat))(tg:Expr)(gt:D->Ac->M Ac):Prop:=
 ∃g:TG,(∀s H C ex,PG (blockOf X s H scope C NB ex) tg g)/\KC μ g/\∀P0 P σ H Q ρ v d,Al X.K P0 P H σ ρ->BV X.K (del H P) v d->gG X.K P0 P H Q (gt d ρ)->g v σ H Q
def BY {scope:Scope}{NB:List Str}{μ:List (Option Nat)}(i:Nat){x:Str}(hN:NB.Nodup)(hi:NB[i]?=some x)(hx:(relabel scope X.env).names.lookup x=some .local)(hm:μ[i]?=some none):sL X scope NB μ (.Name x pos) (λ d ρ=>.ok (ρ.set i (some (.val d)))):=
 ⟨OI i,λ s H C ex=>Q5 (X:=blockOf X s H scope C NB ex) hN hi (.inl hx) (.inr hx),fI hm,λ P0 P σ H Q ρ v d E hv h=>h _ (E.WJ hv)⟩
abbrev sM (X:Cx)(cs:List Expr)(f:Ac->M Bool):Prop:=
 ∃t,pS X cs t/\∀P0 P σ H Q ρ,Al X.K P0 P H σ ρ->gT (λ _ _=>False) H Q (f ρ)->t σ H Q
def EA:sM X [] (λ _=>.ok true):=⟨_,fG,λ P0 P σ H Q ρ E h=>h H (Ae.refl H)⟩
def Fi (h:DT X (λ _ _=>False) a ft):sM X [a] ft:=let ⟨t,h1,h2⟩:=h;⟨_,fH h1,h2⟩
abbrev Jh (m:M (List D)):M D:=match m with | .ok ys=>.ok (.lst ys) | _=>.bad
def nI {μ:List (Option Nat)}{wi:TI}{gg:TG}{tc:Shared->Hp->Addr->List Addr->TT}{te:Shared->Hp->Addr->List Addr->TE}{fe:Ac->M D}
 (i2:∀P0 P σ H R ρ,Al X.K P0 P H σ ρ->(match fi ρ with | .ok ds=>∀J H',Ae H H'->YW X.K J P H' ds->R J H' | .ex x=>∀H',Ae H H'->WX x H' | .bad=>False)->wi σ H R)
 (g2:∀P0 P σ H Q ρ v d,Al X.K P0 P H σ ρ->BV X.K (del H P) v d->gG X.K P0 P H Q (gt d ρ)->gg v σ H Q)
 (t2:∀s H' C ex P0 P σ H Q ρ,Al X.K P0 P H σ ρ->gT (λ _ _=>False) H Q (ft ρ)->tc s H' C ex σ H Q)
 (e2:∀s H' C ex P0 P σ H Q ρ,Al X.K P0 P H σ ρ->gV X.K (λ _ _=>False) (Lv c P0 P) H Q (fe ρ)->te s H' C ex σ H Q) {Q:VK}
 (E:Al X.K P0 P H σ ρ) (h:gV X.K WX (Lv c P0 P) H Q ((fi ρ).bind λ ds=>if ds.length<=1000 then Jh (Bv gt ft fe ds (BF μ ρ)) else .bad)):Vg wi μ gg tc te σ H Q:=by
 refine i2 P0 P σ H _ ρ E ?_;cases q:fi ρ with
 |bad|ex x=>rw[q] at h;exact h
 |ok ds =>
  rw[q] at h;simp only[M.A9] at h;by_cases hd:¬ ds.length<=1000
  ·rw[if_neg hd] at h;exact h.elim
  have hd:ds.length<=1000:=by omega
  rw[if_pos hd] at h;intro J H1 s1 ok s C ex;cases qc:Bv gt ft fe ds (BF μ ρ) with
  |bad|ex x=>rw[qc] at h;exact h.elim
  |ok total =>
   rw[qc] at h;unfold Jh at h;dsimp only at h;have E1:=E.same s1;refine⟨λ i m ys H2=>m=ds.length-i/\i<=ds.length/\ys.length<=i/\Ae H1 H2/\∃es rest,Ah X.K (del H2 (Lv c P0 P)) ys es/\Bv gt ft fe (ds.drop i) (BF μ ρ)=.ok rest/\es++rest=total,
    ⟨ds.length,by simp,zM _,zv _,Ae.refl _,[],total,.nil,by rw[List.drop_zero];exact qc,rfl⟩,?_⟩
   rintro i m ys H2 ⟨rfl,hi,hy,s2,es,rest,fg,aj,aS⟩;by_cases af:i<ds.length
   ·refine .inr ⟨ok.go i P H2 s2.del af,Nat.lt_of_le_of_lt hy (AJ (by omega)),λ bj H'=>i+1<=ds.length/\bj.length<=i+1/\Ae H1 H'/\∃es rest,Ah X.K (del H' (Lv c P0 P)) bj es/\Bv gt ft fe (ds.drop (i+1)) (BF μ ρ)=.ok rest/\es++rest=total,λ bj H' hq=>⟨ds.length-(i+1),by omega,rfl,hq.1,hq.2.1,hq.2.2.1,hq.2.2.2⟩,λ v H3 y=>?_⟩;have E2:=E1.same s2;obtain⟨s3,hv⟩:=ok.jY i P H2 v H3 ds[i] s2.del E2.BX (zh af) y;rw[EV af,Bv] at aj;have E3:=(E2.same s3).block μ;refine g2 P0 P _ H3 _ (BF μ ρ) v ds[i] E3 hv ?_;cases q1:gt ds[i] (BF μ ρ) with
    |bad|ex x=>rw[q1] at aj;cases aj
    |ok ρ1 =>
     rw[q1] at aj;dsimp only at aj;intro σ4 E4;refine t2 s H1 C ex P0 P σ4 H3 _ ρ1 E4 ?_;cases q2:ft ρ1 with
     |bad|ex x=>rw[q2] at aj;cases aj
     |ok k =>
      rw[q2] at aj;dsimp only at aj;intro H5 s5;cases k with
      |false =>
       simp only[zC,if_false] at aj ⊢;exact⟨af,by omega,(s2.trans s3).trans s5,es,rest,(fg.mono s3.del).mono s5.del,aj,aS⟩
      |true =>
       simp only[if_true] at aj ⊢;refine e2 s H1 C ex P0 P σ4 H5 _ ρ1 (E4.same s5) ?_;cases q3:fe ρ1 with
       |bad|ex x=>rw[q3] at aj;cases aj
       |ok y' =>
        rw[q3] at aj;dsimp only at aj;cases q4:Bv gt ft fe (ds.drop (i+1)) (BF μ ρ) with
        |bad|ex x=>rw[q4] at aj;cases aj
        |ok m9 =>
         rw[q4] at aj;cases aj;intro w H6 s6 hw;refine⟨af,by rw[zB,yP];omega,((s2.trans s3).trans s5).trans s6,es++[y'],m9,(((fg.mono s3.del).mono s5.del).mono s6.del).snoc hw,rfl,?_⟩;rw[zaa];exact aS
   ·have e:i=ds.length:=by omega
    subst e;rw[zam,Bv] at aj;cases aj;rw[zF] at aS;subst aS;refine .inl ⟨ok.stop _ P H2 s2.del (zv _),λ D0 hn=>h _ _ ((s1.trans s2).trans (AS hn _)) (.lst (.of (Jc hn λ a q=>(E1.same s2).rY c a q)) (fg.mono (AS hn _).del))⟩
def Qo {scope:Scope}{NB:List Str}{ifs:List Expr}{elt:Expr}{fe:Ac->M D}(i:Nat){x:Str}{px ao:Pos}(μ:List (Option Nat))(hN:X.N.Nodup)(iu:X.N[i]?=some x)(hx:Loc X.env.scope x)(hc:X.calm=true)(hi:DI X WX tg iter fi)(a9:Gk scope X.env.scope=true)(bu:Qh X.N NB scope μ=true)(hg:sL X scope NB μ tg gt)(ht:∀s H C ex,sM (blockOf X s H scope C NB ex) ifs ft)(he:∀s H C ex,DE (blockOf X s H scope C NB ex) (λ _ _=>False) true elt fe)(aR: ~~~(swapsWith (.ListComp elt [⟨tg,iter,ifs,0⟩] scope pos) (some (.Name x px)) ao.line X.env=pure true))(hs:∀x,foldedSetIterable iter X.env x=pure x:=by intro _;rfl)(hf:X.fn x=true\/X.env.scope.names.lookup x=some .local:=by first|exact .inl rfl|exact .inr rfl|assumption):
 DS X WX (.Assign [.Name x px] (.ListComp elt [⟨tg,iter,ifs,0⟩] scope pos) ao) (λ ρ=>((fi ρ).bind λ ds=>if ds.length<=1000 then Jh (Bv gt ft fe ds (BF μ ρ)) else .bad).bind λ d=>.ok (.next (ρ.set i (some (.val d))))):=by
 obtain⟨wi,i1,i2⟩:=hi;obtain⟨gg,g1,gk,g2⟩:=hg;refine⟨_,Vh hN iu hx hc i1 a9 bu gk (λ s H C ex=>⟨g1 s H C ex,(zb (ht s H C ex)).1,(zb (he s H C ex)).1⟩) aR hs hf,λ P0 P σ H Z ρ E h=>?_⟩;refine nI (c:=true) i2 g2 (λ s H' C ex P0 P σ H Q ρ E h=>(zb (ht s H' C ex)).2 P0 P σ H Q ρ E h) (λ s H' C ex P0 P σ H Q ρ E h=>(zb (he s H' C ex)).2 P0 P σ H Q ρ E h) E ?_;dsimp only at h;revert h;cases ((fi ρ).bind λ ds=>if ds.length<=1000 then Jh (Bv gt ft fe ds (BF μ ρ)) else .bad) with
 |bad=>exact λ h=>h
 |ex y=>exact λ h H' s=>h H' P (E.tr s)
 |ok d=>exact λ h v H' s hv=>h _ H' P (E.tr s) ((E.same s).WJ hv)
end
section
variable {X:Cx}{WX:Str->Hp->Prop}{c:Bool}{P0:Es}{P:Addr->Prop}{H:Hp}{σ:St}{ρ:Ac}{a b e k:Expr}{f g:Ac->M D}{te tk:TE}{pos p2:Pos}
abbrev yA (x y:D):M D:=match x,y with | .lst ds,.int i=>if i = -1 then .ok (.lst ds.reverse) else .bad | _,_=>.bad
abbrev CO:List D->Option (List Int)
 |[]=>some []
 | .int i::r=>(CO r).map (i::·)
 |_=>none
abbrev YY:D->Option (List Int)
 | .tup ds=>CO ds
 |_=>none
abbrev Gu:List D->Option (List (D×List Int))
 |[]=>some []
 |d::r=>(YY d).bind λ k=>(Gu r).map ((d,k)::·)
abbrev Vq (l d:D):M D:=match l with
 | .lst ds=>(match Gu ds with|some ks=>.ok (match B9 ks with|none=>d|some b=>b.1)|none=>.bad)
 |_=>.bad
def KN {K:za}{H:Hp}:∀ {xs:List V}{ds:List D}{ns:List Int},Ah K H xs ds->CO ds=some ns->xs=ns.map V.int
 |_,_,_,.nil,e=>by simp only[CO] at e;cases e;rfl
 |_,_,_,.cons (d:=d) h t,e=>by
  cases d with
  |int i =>
   simp only[CO] at e;cases q:CO _ with
   |none=>rw[q] at e;cases e
   |some ns =>
    rw[q] at e;cases e;rw[h.int_inv,KN t q];rfl
  |_=>simp[CO] at e
noncomputable abbrev Alike (K:za)(H:Hp):List (Addr×List Int)->List (D×List Int)->Prop:=Paired λ p q=>p.2=q.2/\BV K H (.ref p.1) q.1
def IF {K:za}{H:Hp}:∀ {xs:List V}{ds:List D}{ks:List (D×List Int)},Ah K H xs ds->Gu ds=some ks->∃bs:List (Addr×List Int),xs=bs.map (λ b=>V.ref b.1)/\(∀b∈bs,Fd K H b.1 (b.2.map V.int))/\Alike K H bs ks
 |_,_,_,.nil,e=>by simp only[Gu] at e;cases e;exact⟨[],rfl,by simp,.nil⟩
 |_,_,_,.cons (d:=d) h t,e=>by
  simp only[Gu] at e;cases q:YY d with
  |none=>rw[q] at e;cases e
  |some k =>
   rw[q] at e;simp only[Option.bind_some] at e;cases q2:Gu _ with
   |none=>rw[q2] at e;cases e
   |some ks =>
    rw[q2] at e;cases e;obtain⟨bs,h1,h2,h3⟩:=IF t q2;cases d with
    |tup es =>
     have h':=h;cases h with
     | @tup a xs _ hs hl =>
      simp only[YY] at q;have e1:=KN hl q;subst e1;refine⟨(a,k)::bs,by rw[h1];rfl,λ b hb=>?_,.cons ⟨rfl,h'⟩ h3⟩;rcases zq.mp hb with z|z
      ·subst z;exact Fd.of hs
      ·exact h2 b z
    |_=>simp[YY] at q
def MU {K:za}{H:Hp}{bs:List (Addr×List Int)}{ks:List (D×List Int)}(h:Alike K H bs ks):(B9 bs=none/\B9 ks=none)\/∃b k,B9 bs=some b/\B9 ks=some k/\b.2=k.2/\BV K H (.ref b.1) k.1:=by
 unfold B9
 suffices z:∀(o:Option (Addr×List Int)) (o':Option (D×List Int)),((o=none/\o'=none)\/∃b k,o=some b/\o'=some k/\b.2=k.2/\BV K H (.ref b.1) k.1)->
  ((bs.foldl BO o=none/\ks.foldl BO o'=none) \/
   ∃b k,bs.foldl BO o=some b/\ks.foldl BO o'=some k/\b.2=k.2/\BV K H (.ref b.1) k.1) from z none none (.inl ⟨rfl,rfl⟩)
 induction h with
 |nil=>intro o o' h;exact h
 | @cons b k bs ks hh t ih =>
  intro o o' h;rw[zL,zL];refine ih _ _ ?_;rcases h with ⟨rfl,rfl⟩|⟨b',k',rfl,rfl,e1,e2⟩
  ·exact .inr ⟨b,k,rfl,rfl,hh⟩
  ·unfold BO;dsimp only;rw[hh.1,e1];by_cases hl:HT.lexLt k.2 k'.2=true
   ·rw[if_pos hl,if_pos hl];exact .inr ⟨b,k,rfl,rfl,hh⟩
   ·rw[if_neg hl,if_neg hl];exact .inr ⟨b',k',rfl,rfl,e1,e2⟩
def Vr {p kp:Pos}{e2:Expr}(hc:X.calm=true)(hu:X.A.units+1<cLine)(hg:Gl X "min")(hm:X.mg "min" = none)(ha:DE X WX c e f)(hb:DE X WX c e2 g)(aL: ~~~(starEach [e] X.env=[(false,eval e X.env)]))(a8: ~~~((backToKw pos (keywordEach [⟨some "default",e2,kp⟩] X.env)).all (·.1.isSome)=true))(my: ~~~((backToKw pos (keywordEach [⟨some "default",e2,kp⟩] X.env)).filterMap (·.1)=([("default" : Str)]:List Str)))(mz: ~~~((backToKw pos (keywordEach [⟨some "default",e2,kp⟩] X.env)).any (·.1.isNone)=false))(bF: ~~~(backTo pos (starEach [e] X.env)=(false,eval e X.env)::backTo pos (starEach [] X.env)))(aq: ~~~((backTo pos (starEach [e] X.env)).any (·.1)=false)):
 DE X WX c (.Call (.Name "min" p) [e] [⟨some "default",e2,kp⟩] pos) (λ ρ=>(f ρ).bind λ x=>(g ρ).bind λ y=>Vq x y):=by
 obtain⟨ta,a1,a2⟩:=ha;obtain⟨tb,b1,b2⟩:=hb;refine⟨_,fL hc hu hg hm a1 b1 aL a8 my mz bF aq,λ P0 P σ H Q ρ E h=>S2 (r:=λ x d H2 Q=>∃(a:Addr) (bs:List (Addr×List Int)),x=.ref a/\D2 X.K H2 a (bs.map λ b=>V.ref b.1)/\(∀b∈bs,Fd X.K H2 b.1 (b.2.map V.int))/\Q (match B9 bs with|none=>d|some b=>.ref b.1) H2) a2 b2 ?_ E h⟩;intro P H x y v w Q ht hx hy h;unfold Vq at h;split at h
 ·rename_i ds;split at h
  ·rename_i ks e1;cases hx with
   | @lst a xs _ hs hl =>
    obtain⟨bs,rfl,h2,h3⟩:=IF hl e1;refine⟨a,bs,rfl,hs.B5,λ b hb=>(h2 b hb).B5,?_⟩;rcases MU h3 with ⟨q1,q2⟩|⟨b,k,q1,q2,_,q3⟩
    ·rw[q1];rw[q2] at h;exact h _ H (Ae.refl H) hy
    ·rw[q1];rw[q2] at h;exact h _ H (Ae.refl H) q3
  ·exact h.elim
 ·exact h.elim
end
def AQ {A:Around}{k:Nat}(hr:Bu k A)(n:Nat)(hn:n<=64):A.units+n<cLine:=by have:=hr.units;omega
structure AG (K:za)(mg:Str->Option Value)(x:Str)(st:Stmt)(ps:List Str):Prop where
 ex:∃f fd,XX K x x st f fd/\mg x=some (.ref f)/\Binds K fd ps []
abbrev Ui (P:Program)(w:World)(base:Heap):V8:=λ _ _ _ _ _ _=>False
noncomputable abbrev kF (P:Program)(w:World)(K:za)(mg:Str->Option Value)(base:Heap)(N:List Str)(qual:Str)(scope:Scope)(f:Addr)(cd:Value)(A:Around)(outer:List Env)(s:Shared)(H:Hp)(E:XK):Cx:=
 RK (Ui P w base) P w K mg base N qual scope f cd A outer s H E
structure EW (X:Cx)(E:XK):Prop where
 call:Gh (Ui X.prog X.w X.base) X E
 own:PassesOwn (model X.prog X.w) X.A X.env X.xe
def A8 {P:Program}{w:World}{K:za}{mg:Str->Option Value}{base:Heap}{N:List Str}{qual:Str}{scope:Scope}{f:Addr}{cd:Value}{A:Around}{outer:List Env}{s:Shared}{H:Hp}{E:XK}:
 EW (kF P w K mg base N qual scope f cd A outer s H E) E:=⟨λ _ _ _ _ _ _ _ h=>h.elim,PassesOwn.leaving⟩
def AL {X:Cx}(h:X.xe=λ _ _=>False):EW X E0:=⟨λ _ _ _ _ _ _ _ h=>h.elim,by rw[h];exact PassesOwn.never⟩
def EW.toXCall {X:Cx}{E:XK}(h:EW X E):EW X E:=h
abbrev CB (K:za)(E:XK):Str->Hp->Prop:=λ x H=>∃c,zE K mainGlobals x=some (some (.ref c))/\E (.ref c) none H
section
variable {X:Cx}{WX:Str->Hp->Prop}{c:Bool}{a b e:Expr}{f g:Ac->M D}{pos p:Pos}
abbrev kG (K:za):R2:=λ x y H Q=>∃l b xs zs,x=.ref l/\y=.ref b/\D2 K H l xs/\D2 K H b zs/\xs.length+zs.length<=sizeLine/\∀p,H p=none->Q (.ref p) (upd H p (.lst (xs++zs)))
def fQ:Gb X (binaryOp .Add) (kG X.K):=by
 intro pins s σ H x y v u Q I rx ry h;obtain⟨l,b,xs,zs,rfl,rfl,h1,h2,hz,q⟩:=h;cases rx;cases ry;obtain⟨aa,r,⟨⟨c1,d1,t1,uq⟩,n,e1,q1,q2,q3⟩,bn⟩:=I.list h1;obtain⟨aO,r2,⟨⟨c2,d2,t2,ii⟩,n2,e2,q4,q5,q6⟩,na⟩:=I.list h2;dsimp only at q1 q2 q3 q4 q5 q6;subst q1 q2 q3 q4 q5 q6;have l1:=r.length;have l2:=r2.length;refine concat_meets ⟨_,e1,rfl⟩ ⟨_,e2,rfl⟩ noFill_list_add seq_list_add PySem.F.slot_list_add PySem.F.entry_list_add (PySem.F.args_list_add_2 _ _) (list_addW l b aa.toArray aO.toArray n n2 none none uq ii (by rw[zl,zl];omega)) ⟨e1,e2,?_⟩;rw[show aa.toArray++aO.toArray=(aa++aO).toArray by simp];exact⟨.ref _,_,I.rM (t':=s.toks) (r.append r2) (by rw[zB];omega),rfl,q _ I.fresh⟩
abbrev xB (x y:D):M D:=match x,y with
 | .int i,.int j=>.ok (.int (i+j))
 | .lst ds,.lst es=>if ds.length+es.length<=1000 then .ok (.lst (ds++es)) else .bad
 |_,_=>.bad
def Ah.xC {K:za}{H:Hp}:∀ {xs ys:List V}{ds es:List D},Ah K H xs ds->Ah K H ys es->Ah K H (xs++ys) (ds++es)
 |_,_,_,_,.nil,h=>h
 |_,_,_,_,.cons a t,h=>.cons a (t.xC h)
abbrev uC (neg:Bool)(x y:D):M D:=match x,y with
 | .int i,.lst ds=>(match CO ds with|some ns=>.ok (.bl (if neg then !ns.contains i else ns.contains i))|none=>.bad)
 |_,_=>.bad
def YZ (i:Int)(ns:List Int):tY (.int i) (ns.map V.int)=ns.contains i:=by
 unfold tY;induction ns with
 |nil=>rfl
 |cons n r ih =>
  rw[zf,yV,ih,List.contains_cons];congr 1;show (n==i)=(i==n);rw[zah,beq_iff_eq,beq_iff_eq];exact eq_comm
def WN (ns:List Int):(ns.map V.int).all J7=true:=by
 induction ns with
 |nil=>rfl
 |cons n r ih=>rw[zf,List.all_cons,ih];rfl
def Gv {neg:Bool}:Uc X.K WX (tZ X.K neg) (uC neg):=by
 intro P H x y v w Q ht hx hy h;unfold uC at h;split at h
 ·rename_i i ds;split at h
  ·rename_i ns hn;cases hx;cases hy with
   |lst h1 h2 =>
    have e:=KN h2 hn;subst e;refine⟨_,_,rfl,.inl h1.B5,rfl,WN ns,?_⟩;rw[YZ];exact h _ H (Ae.refl H) (.bl _)
  ·exact h.elim
 ·exact h.elim
end
section
variable {X:Cx}{WX:Str->Hp->Prop}
def Uj {st:Stmt}:DS X WX st (λ _=>.bad):=⟨λ _ _ _=>False,λ _ _ _ _ _ _ h=>h.elim,λ _ _ _ _ _ _ _ h=>h.elim⟩
end
abbrev S6 (i j:Int):Prop:=(i.natAbs<2^1000/\j.natAbs<2^1000)\/Ye i j
instance (i j:Int):Decidable (S6 i j):=by unfold S6;infer_instance
def P8 {i:Int}(h:i.natAbs<2^1000):zN i<=2^20:=by
 unfold zN;split
 ·exact zM _
 ·rename_i z;have h0:i.natAbs≠0:=λ q=>z (by rw[Int.natAbs_eq_zero.mp q];rfl);have:=(Nat.log2_lt h0).mpr h;have h3:(1000:Nat)<=2^20:=by decide
  exact zZ this h3
def S6.ok {i j:Int}(h:S6 i j):IntMulOk i j:=by
 rcases h with ⟨h1,h2⟩|h
 ·exact IntMulOk.of_bits (P8 h1) (P8 h2)
 ·exact h.ok
def MV (n:Nat):Cs 0 n=(yO n).map λ i:Nat=>D.int (i:Int):=by
 apply List.ext_getElem?;intro i;rw[z5];by_cases h:i<n
 ·have hi:i<(Cs 0 n).length:=by rw[Bk];exact h
  have e:=zh hi;obtain⟨h1,_⟩:=BU e;rw[e,h1,List.getElem?_range h,Int.zero_add];rfl
 ·rw[List.getElem?_eq_none (by rw[Bk];omega),List.getElem?_eq_none (by simp;omega)];rfl
def EX (ns:List Int):CO (ns.map D.int)=some ns:=by
 induction ns with
 |nil=>rfl
 |cons n r ih=>rw[zf,CO,ih];rfl
def Z0 (ds:List D)(n:Nat):pT (some (n:Int)) none (.lst ds)=.ok (.lst (ds.drop n)):=by
 unfold pT;dsimp only;rw[HT.Yo,HT.Qa];congr 2;by_cases h:n<=ds.length
 ·rw[Nat.min_eq_left h,zap (by rw[zak];exact zv _)]
 ·rw[Nat.min_eq_right (by omega),List.drop_of_length_le (zv _),List.drop_of_length_le (by omega),List.take_nil]
abbrev Pl (n:Nat)(d:D):Prop:=OW d<=n/\C9 d=true
def Qp {n:Nat}:∀ {ds:List D},(∀d∈ds,OW d<=n)->KG ds<=n
 |[],_=>by rw[KG];exact zM _
 |d::r,h=>by
  rw[KG];exact Nat.max_le.mpr ⟨h d zd,Qp λ d hd=>h d (ze _ hd)⟩
def Qq:∀ {ds:List D},(∀d∈ds,C9 d=true)->Gn ds=true
 |[],_=>by rw[Gn]
 |d::r,h=>by
  rw[Gn,h d zd,Qq λ d hd=>h d (ze _ hd)];rfl
def Gw {n:Nat}(i:Int):Pl n (.int i):=⟨by rw[OW];exact zM _;all_goals simp,by rw[C9];all_goals simp⟩
def nJ {n:Nat}:Pl n .AK:=⟨by rw[OW];exact zM _;all_goals simp,by rw[C9];all_goals simp⟩
def Z1 {n:Nat}{ds:List D}(h:∀d∈ds,Pl n d):Pl (n+1) (.tup ds):=
 ⟨by rw[OW];exact Nat.succ_le_succ (Qp λ d hd=>(h d hd).1),by rw[C9];exact Qq λ d hd=>(h d hd).2⟩
def Z2 {n:Nat}{ds:List D}(h:∀d∈ds,Pl n d):Pl (n+1) (.lst ds):=
 ⟨by rw[OW];exact Nat.succ_le_succ (Qp λ d hd=>(h d hd).1),by rw[C9];exact Qq λ d hd=>(h d hd).2⟩
def Vs {n:Nat}(ns:List Int):Pl (n+1) (.lst (ns.map D.int)):=Z2 λ d hd=>by
 obtain⟨i,_,rfl⟩:=zA.mp hd;exact Gw i
def Pl.le {n m:Nat}{d:D}(h:Pl n d)(k:n<=m):Pl m d:=⟨zZ h.1 k,h.2⟩
def Z3 {n:Nat}:∀d∈([]:List D),Pl n d:=λ d h=>by cases h
def M2 {n:Nat}{d:D}{ds:List D}(h:Pl n d)(t:∀d∈ds,Pl n d):∀e∈d::ds,Pl n e:=λ e he=>by
 rcases zq.mp he with rfl|he
 ·exact h
 ·exact t e he
def Uk {n:Nat}{x y:D}(h:Pl n x)(k:Pl n y):fN n x y=.ok (.bl (Ba x y)):=by
 unfold fN;rw[if_pos ⟨h.1,h.2,k.2⟩]
def Ul {n:Nat}{x y:D}(h:Pl n x)(k:Pl n y):dS n x y=.ok (.bl (!Ba x y)):=by
 unfold dS;rw[if_pos ⟨h.1,h.2,k.2⟩]
def Z4 {n:Nat}{x:D}(h:Pl n x):dS n x x=.ok (.bl false):=by rw[Ul h h,MO];rfl
def fR (ds:List D)(a b:Nat):pT (some (a:Int)) (some (b:Int)) (.lst ds)=.ok (.lst ((ds.drop a).take (b-a))):=by
 unfold pT;dsimp only;rw[HT.Qa,HT.Qa];congr 2;by_cases h:a<=ds.length
 ·rw[Nat.min_eq_left h];by_cases h2:b<=ds.length
  ·rw[Nat.min_eq_left h2]
  ·rw[Nat.min_eq_right (by omega),zap (by rw[zak];exact zv _),zap (by rw[zak];omega)]
 ·rw[Nat.min_eq_right (show ds.length<=a by omega),List.drop_of_length_le (zv _),List.drop_of_length_le (show ds.length<=a by omega),List.take_nil,List.take_nil]
section
variable {X:Cx}{WX:Str->Hp->Prop}{c:Bool}{P0:Es}{P:Addr->Prop}{H:Hp}{σ:St}{ρ:Ac}{a b e:Expr}{f g:Ac->M D}{ft gt:Ac->M Bool}{pos:Pos}{st:Stmt}{rest:List Stmt}{g1 g2:Ac->M Out}
def S7 {K:za}{H:Hp}{v:V}{d:D}(h:BV K H v d):∀n:Nat,Ah K H (zt n v) (zt n d)
 |0=>.nil
 |n+1=>by rw[za0,za0];exact .cons h (S7 h n)
def MW {K:za}{H:Hp}{v:V}{d:D}(h:BV K H v d):∀ {vs:List V}{ds:List D}(n:Nat),Ah K H vs ds->Ah K H (vs.set n v) (ds.set n d)
 |_,_,_,.nil=>.nil
 |_,_,0,.cons _ t=>.cons h t
 |_,_,n+1,.cons a t=>.cons a (MW h n t)
abbrev yB (i:Nat)(ρ:Ac)(d k:D):M Out:=match k with
 | .int j=>if 0<=j/\j.toNat<=1000 then .ok (.next (ρ.set i (some (.own (zt j.toNat d))))) else .bad
 |_=>.bad
def P9 {α:Type}(v:α):∀n:Nat,(zt n [v]).flatten=zt n v
 |0=>rfl
 |n+1=>by rw[za0,List.flatten_cons,P9 v n];rfl
abbrev nK (i:Nat)(ρ:Ac)(ds:List D)(d k:D):M Out:=match k with
 | .int j=>(match OP ds.length j with|some n=>.ok (.next (ρ.set i (some (.own (ds.set n d)))))|none=>.bad)
 |_=>.bad
abbrev fS (i:Nat)(ρ:Ac)(m:M D)(d:D):M Out:=match ρ[i]? with
 |some (some (.own ds))=>m.bind (nK i ρ ds d)
 |_=>.bad
def MX (i:Nat){x:Str}{p1 ao:Pos}(hv:PE X (.Name x p1) (Kw i))(ha:DE X WX true a f)(hk:DE X WX true b g)(hs: ~~~(swapsWithSole [.Subscript (.Name x p1) b ao] a pos.line X.env=pure false))(hw: ~~~(swappedStores [.Subscript (.Name x p1) b ao] a X.env=pure none))(h1: ~~~((assignEach [.Subscript (.Name x p1) b ao] X.env).map (·.2)=[assign (.Subscript (.Name x p1) b ao) X.env]))(fj:∀v,assign (.Subscript (.Name x p1) b ao) X.env v=(do
  let ov <-holding [v] (eval (.Name x p1) X.env);let iv <-holding [v,ov] (eval b X.env)
  standAt ao
  holding [v,ov,iv] (setItem ov iv v)
  release [v,ov,iv] []):=by intro _;rfl):
 DS X WX (.Assign [.Subscript (.Name x p1) b ao] a pos) (λ ρ=>(f ρ).bind (fS i ρ (g ρ))):=by
 obtain⟨ta,a1,a2⟩:=ha;obtain⟨tb,b1,b2⟩:=hk;refine⟨_,TR a1 (Y7 hv b1 set_list fj) hs hw h1,λ P0 P σ H Z ρ E h=>?_⟩;dsimp only at h;refine a2 P0 P σ H _ ρ E ?_;refine WL h E λ d h=>?_;intro v H1 s1 hv;have E1:=E.same s1;unfold fS at h;split at h
 ·rename_i ds e1;obtain⟨p,xs,h1,h2,h3,h4,h5⟩:=E1.own i ds e1;refine⟨_,h1,b2 P0 P σ H1 _ ρ E1 ?_⟩;cases q2:g ρ with
  |bad=>rw[q2] at h;exact h.elim
  |ex x=>rw[q2] at h;exact λ H' s2=>h H' P ((E.tr s1).trans (E1.tr s2))
  |ok k =>
   rw[q2] at h;simp only[M.A9] at h;unfold nK at h;intro w H2 s2 hw;split at h
   ·rename_i j;cases hw;split at h
    ·rename_i n en;have E2:=E1.same s2;refine⟨p,xs,j,n,rfl,rfl,s2 _ _ h2,by rw[h5.length];exact en,?_⟩;obtain⟨E3,t3⟩:=E2.mut e1 h1 h3 h4 (MW (hv.mono s2.del) n (h5.mono s2.del));exact h _ _ _ ((E.tr s1).trans ((E1.tr s2).trans t3)) E3
    ·exact h.elim
   ·exact h.elim
 ·exact h.elim
abbrev Aw (c:Ac->M Bool)(b:Ac->M Out):Nat->Ac->M Out
 |0,_=>.bad
 |n+1,ρ=>match c ρ with
  | .ok true=>(match b ρ with
   | .ok (.next ρ')| .ok (.cont ρ')=>Aw c b n ρ'
   | .ok (.brk ρ')=>.ok (.next ρ')
   |r=>r)
  | .ok false=>.ok (.next ρ)
  | .ex x=>.ex x
  | .bad=>.bad
abbrev Li (c:Ac->M Bool)(b:Ac->M Out)(ρ:Ac):M Out:=
 @dite _ (∃n,Aw c b n ρ≠.bad) (yQ _) (λ h=>Aw c b (zg h) ρ) (λ _=>.bad)
def CJ {c:Ac->M Bool}{b:Ac->M Out}:∀ {n:Nat}{ρ:Ac},Aw c b n ρ≠.bad->∀m,Aw c b (n+m) ρ=Aw c b n ρ
 |0,ρ,h,m=>(h rfl).elim
 |n+1,ρ,h,m=>by
  rw[show n+1+m=(n+m)+1 by omega];rw[Aw] at h;rw[Aw,Aw];cases q:c ρ with
  |bad|ex x=>rfl
  |ok k =>
   rw[q] at h;cases k with
   |false=>rfl
   |true =>
    dsimp only at h ⊢;cases q2:b ρ with
    |bad|ex x=>rfl
    |ok o =>
     rw[q2] at h;cases o with
     |next ρ'=>dsimp only at h ⊢;exact CJ h m
     |cont ρ'=>dsimp only at h ⊢;exact CJ h m
     |brk ρ'=>rfl
     |ret d|Cv d|E5 d ρ2=>rfl
def Z5 {c:Ac->M Bool}{b:Ac->M Out}{n:Nat}{ρ:Ac}(h:Aw c b n ρ≠.bad):Li c b ρ=Aw c b n ρ:=by
 unfold Li;have hx:∃n,Aw c b n ρ≠.bad:=⟨n,h⟩;rw[dif_pos hx];have hc:=zb hx;have e1:=CJ h (zg hx);have e2:=CJ hc n;rw[Nat.add_comm] at e2;rw[<-e1,e2]
def WO {c:Ac->M Bool}{b:Ac->M Out}{ρ:Ac}(h:Li c b ρ≠.bad):∃n,Aw c b n ρ≠.bad/\Li c b ρ=Aw c b n ρ:=by
 by_cases hx:∃n,Aw c b n ρ≠.bad
 ·obtain⟨n,hn⟩:=hx;exact⟨n,hn,Z5 hn⟩
 ·exact (h (by unfold Li;rw[dif_neg hx])).elim
def kH {K:za}{Z:Ends}{m:M Out}(h:gS K WX P0 P H Z m):m≠.bad:=λ e=>by rw[e] at h;exact h
def S8 {body:List Stmt}(hp:PassesOwn (model X.prog X.w) X.A X.env X.xe)(hc:DT X WX a ft)(hb:S4 X WX body g1):DS X WX (.While a body [] pos) (Li ft g1):=by
 obtain⟨tc,c1,c2⟩:=hc;obtain⟨tb,b1,b2⟩:=hb;refine⟨_,Y8 hp c1 b1,λ P0 P σ H Z ρ E h=>?_⟩;obtain⟨n,hn,en⟩:=WO (kH h);rw[en] at h;refine⟨λ m σ' H'=>∃ρ' P',Al X.K P0 P' H' σ' ρ'/\Tr P0 P H P' H'/\gS X.K WX P0 P' H' Z (Aw ft g1 m ρ'),⟨n,ρ,P,E,Tr.refl,h⟩,?_⟩;rintro m σ1 H1 ⟨ρ1,P1,E1,t1,h1⟩;cases m with
 |zero=>exact h1.elim
 |succ m =>
  rw[Aw] at h1;refine c2 P0 P1 σ1 H1 _ ρ1 E1 ?_;cases q:ft ρ1 with
  |bad=>rw[q] at h1;exact h1
  |ex x=>rw[q] at h1;exact λ H2 s2=>h1 H2 P1 (E1.tr s2)
  |ok k =>
   rw[q] at h1;intro H2 s2;have E2:=E1.same s2;cases k with
   |false =>
    rw[if_neg (by simp)];exact h1 σ1 H2 P1 (E1.tr s2) E2
   |true =>
    rw[if_pos rfl];dsimp only at h1;refine⟨λ σ' H'=>∃ρ' P',Al X.K P0 P' H' σ' ρ'/\Tr P0 P H P' H'/\gS X.K WX P0 P' H' Z (Aw ft g1 m ρ'),λ σ' H' z=>⟨m,Nat.lt_succ_self m,z⟩,?_⟩;refine b2 P0 P1 σ1 H2 _ ρ1 E2 ?_;cases q2:g1 ρ1 with
    |bad=>rw[q2] at h1;exact h1
    |ex x=>rw[q2] at h1;exact λ H3 P3 t3=>h1 H3 P3 ((E1.tr s2).trans t3)
    |ok o =>
     rw[q2] at h1;have t2:=t1.trans (E1.tr s2);cases o with
     |next ρ'=>exact λ σ3 H3 P3 t3 E3=>⟨ρ',P3,E3,t2.trans t3,h1.tr ((E1.tr s2).trans t3)⟩
     |cont ρ'=>exact λ σ3 H3 P3 t3 E3=>⟨ρ',P3,E3,t2.trans t3,h1.tr ((E1.tr s2).trans t3)⟩
     |brk ρ'=>exact λ σ3 H3 P3 t3 E3=>h1 σ3 H3 P3 ((E1.tr s2).trans t3) E3
     |ret d=>exact λ v H3 P3 t3 hv=>h1 v H3 P3 ((E1.tr s2).trans t3) hv
     |Cv d=>exact λ v fp H3 P3 t3=>h1 v fp H3 P3 ((E1.tr s2).trans t3)
     |E5 d ρ2=>exact λ v fp σ3 H3 P3 t3=>h1 v fp σ3 H3 P3 ((E1.tr s2).trans t3)
abbrev Vt (ds:List D):M D:=match ds with
 |[.int i]=>.ok (.int i)
 |[.bl b]=>.ok (.int (if b then 1 else 0))
 |_=>.bad
def fT:Jd X.K WX (λ xs H Q=>(∃i,xs=[.int i]/\Q (.int i) H)\/∃k,xs=[.bl k]/\Q (.int (if k then 1 else 0)) H) Vt:=by
 intro P H ds vs Q ht hl h;unfold Vt at h;split at h
 ·obtain⟨v,rfl,hv⟩:=hl.one;cases hv;exact .inl ⟨_,rfl,h _ H (Ae.refl H) (.int _)⟩
 ·obtain⟨v,rfl,hv⟩:=hl.one;cases hv;exact .inr ⟨_,rfl,h _ H (Ae.refl H) (.int _)⟩
 ·exact h.elim
def fU {p:Pos}(hg:Gl X "int")(hm:X.mg "int" = none)(ha:DE X WX c e f)(hb:bootBuiltins "int" = some (.type "int"):=by decide +kernel)(hs: ~~~(starEach [e] X.env=[(false,eval e X.env)])):DE X WX c (.Call (.Name "int" p) [e] [] pos) (λ ρ=>((f ρ).bind λ d=>(M.ok []).bind λ ds=>.ok (d::ds)).bind Vt):=
 P5 Wq fT hg hm hb (A2 ha A4 hs) (he:=hs)
abbrev Gx:List D->Option (List Bool)
 |[]=>some []
 | .bl b::r=>(Gx r).map (b::·)
 |_=>none
def MY (bs:List Bool):Gx (bs.map D.bl)=some bs:=by
 induction bs with
 |nil=>rfl
 |cons b r ih=>rw[zf,Gx,ih];rfl
def IG:∀ {ds:List D}{bs:List Bool},Gx ds=some bs->ds=bs.map D.bl
 |[],bs,h=>by cases h;rfl
 | .bl b::r,bs,h=>by
  rw[Gx] at h;cases q:Gx r with
  |none=>rw[q] at h;cases h
  |some ur=>rw[q] at h;cases h;rw[IG q];rfl
 | .AK::r,bs,h| .int _::r,bs,h| .str _::r,bs,h| .tup _::r,bs,h| .lst _::r,bs,h| .ET _::r,bs,h| .Bn _ _ _::r,bs,h| .ins _ _ _::r,bs,h=>by cases h
def IH {K:za}{H:Hp}:∀ {vs:List V}{bs:List Bool},Ah K H vs (bs.map D.bl)->vs=bs.map V.bl
 |_,[],.nil=>rfl
 |_,b::r,.cons h t=>by cases h;rw[IH t];rfl
def II:∀ {bs:List Bool}{us:List Value},Vals (bs.map V.bl) us->LSm.BoolsAre us bs
 |[],_,.nil=>.nil
 |b::r,_,.cons h t=>by cases h;exact .cons b (II t)
def MZ (hc:X.calm=true):FV X (.builtin "all") (λ xs H Q=>∃p bs,xs=[.ref p]/\D2 X.K H p (List.map V.bl bs)/\Q (.bl (bs.all id)) H):=by
 intro pins s σ H xs us Q I r h;obtain⟨p,bs,rfl,hq,q⟩:=h;obtain⟨u,rfl,rx⟩:=vals1 r;cases rx;obtain⟨aa,r',pl,hz⟩:=I.list hq;have hl:=pl.isList;have hb:=II r';have af:p<s.heap.objs.size:=by obtain⟨_,e,_⟩:=hl;exact zw e
 refine call_all_walk (wpAny_pyIter_list hl ?_);refine⟨s.heap.objs.size,[s.heap.objs.size,p],[s.heap.objs.size],aa.toArray.size,_,_,λ i=>(bs[i]?).getD true,rfl,Walks.list (A:=X.A.in1) (I.ok.hd hc) _ p (zD af) aa.toArray,
  ⟨⟨_,z9 _ rfl,rfl,rfl⟩,hl.push _⟩,λ i v s' Q' E' hP hQ=>?_,λ h' tk hk=>?_⟩
 ·obtain⟨b,e,rfl⟩:=hb.get i v (by simpa using hP);simp only[e,Option.getD_some] at hQ;exact wpAny_truthy_bool hQ
 ·have e:((yO aa.toArray.size).all λ i=>(bs[i]?).getD true)=bs.all id:=by
   rw[zl,hb.length];exact LSm.range_all bs
  rw[e];exact⟨.bl _,H,I.kept (t':=tk) (LSm.kept_iter hk),rfl,q⟩
abbrev WQ (ds:List D):M D:=match ds with
 |[.lst xs]=>(match Gx xs with|some bs=>.ok (.bl (bs.all id))|none=>.bad)
 |_=>.bad
def nL:Jd X.K WX (λ xs H Q=>∃p bs,xs=[.ref p]/\D2 X.K H p (List.map V.bl bs)/\Q (.bl (bs.all id)) H) WQ:=by
 intro P H ds vs Q ht hl h;unfold WQ at h;split at h
 ·rename_i xs;obtain⟨v,rfl,hv⟩:=hl.one;split at h
  ·rename_i bs eb;have:=IG eb;subst this;cases hv with
   |lst hs hh =>
    have:=IH hh;subst this;exact⟨_,bs,rfl,hs.B5,h _ H (Ae.refl H) (.bl _)⟩
  ·exact h.elim
 ·exact h.elim
def Z6 {p:Pos}(hc:X.calm=true)(hg:Gl X "all")(hm:X.mg "all" = none)(ha:DE X WX c e f)(hb:bootBuiltins "all" = some (.builtin "all"):=by decide +kernel)(hs: ~~~(starEach [e] X.env=[(false,eval e X.env)])):DE X WX c (.Call (.Name "all" p) [e] [] pos) (λ ρ=>((f ρ).bind λ d=>(M.ok []).bind λ ds=>.ok (d::ds)).bind WQ):=
 Je (MZ hc) nL hg hm hb (A2 ha A4 hs) (he:=hs)
end
abbrev Sm (n:Int):Prop:=zN n<=2^20
def Z7:∀ {ns:List Int},W.WData.weightAll (ns.map W.WData.int)<=2^20->∀n∈ns,Sm n
 |m::r,h,n,hn=>by
  rw[zf,W.WData.weightAll,W.WData.weight] at h;rcases zq.mp hn with rfl|hn
  ·unfold Sm zN;omega
  ·exact Z7 (by omega) n hn
def sN {ns:List Int}(h:W.WData.layableAll [W.WData.list (ns.map W.WData.int)]=true):∀n∈ns,Sm n:=by
 unfold W.WData.layableAll at h;rw[List.all_cons,zG] at h;have h1:=h.1;unfold W.WData.layable at h1;rw[zG,decide_eq_true_eq,W.WData.weight] at h1;exact Z7 h1.2
end L2
namespace HT
open PySem PySem.W PyProof.Rows Spec Calls ql
def Pa {l:OpenLaw}{n:Nat}{q:Program}{loose:List Str}{XP:(Str->Option Value)->Heap->Prop}{YP:World->Heap->Prop}{d:DefRec}
 (hn:l.most=some n) (fm:d.params.defaults=[])
 (run:∀(w:World) (s₀ s₁:Shared) (mg mb:Str->Option Value) (fa:Addr) (o:Obj) (pm cd doc:Value) (a:Addr) (vs:List Value) (ns:List Int),(∀n∈ns,L2.Sm n)->
  Ground q loose [] XP w s₀ mg mb s₁.heap->YP w s₁.heap->s₁.heap.get? fa=some o->o.data=.func (docDef d.name d.params d.body d.scope pm cd doc)->s₁.heap.CodeRec cd d.name->mg d.name=some (.ref fa)->
  s₁.heap.get? a=some {cls:=.type "list",data:=.seq vs.toArray}->IntsAre vs ns->ns.length<=n->s₁.gens=#[]->
  codeAny (model l.prog w) callerA (.call (.ref fa) ⟨[.ref a],[]⟩) (λ r s'=>r=.ok (.ret (.bool true))/\OldK s₁.heap s'.heap/\s'.os=s₁.os/\AllBare s'.gens) s₁):
 WalkO q loose XP YP l.row.toRowW d [] (λ f vs=>PySem.call f vs):=by
 intro w s₀ s₁ mg mb G Y fa o pm cd doc dV kV ho hd aZ hD fv hg args vals as cm nc f6 l7 gy;obtain rfl:dV=.none:=Dflts.none hD fm;obtain rfl:kV=.none:=Dflts.noKw hD;obtain⟨a,vs,ns,rfl,rfl,bW,bf,hlen⟩:=Wy hn cm l7;refine enter_call (codeAny_mono (run w s₀ s₁ mg mb fa o pm cd doc a vs ns (L2.sN nc) G Y ho (fd_plain hd) aZ fv bW bf hlen hg) λ r s' hq=>?_);obtain⟨rfl,h2,h3,h4⟩:=hq;exact⟨.inl ⟨.bool true,.bool true,[],rfl,λ _=>rfl,.bool true,Wz l _,λ _=>⟨List.Pairwise.nil,λ _ hm=>(nomatch hm)⟩⟩,h2,h3,h4⟩
end HT
namespace L2
open PySem PySem.Spec PyProof.Rows
def uD {l:PySem.W.OpenLaw}{n k:Nat}{q:Program}{loose:List Str}{XP:(Str->Option Value)->Heap->Prop}{YP:World->Heap->Prop}{d:DefRec}{K:Params->za}{CX:World->V8}{sp:World->Sp}{x:Str}
 (hn:l.most=some n) (aD:n<=sizeLine) (fm:d.params.defaults=[]) (hr:Bu k callerA) (hY:∀(w:World) (h:Heap),YP w h->(K w.params).In h)
 (F:∀(w:World) (mg:Str->Option Value) (fa:Addr) (h:Heap),(K w.params).In h->h.Ns mainGlobals mg->mg d.name=some (.ref fa)->∃fd:FuncData,(∀(s:Shared) (u:Value),BindsTo s fd ⟨[u],[]⟩ [(x,u)])/\
  ∀base:Heap,(K w.params).In base->base.Ns mainGlobals mg->Di l.prog w (K w.params) mg base (CX w) k fa fd [x] (sp w))
 (bC:∀(w:World) (H:Hp) (a:Addr) (ns:List Int),(∀n∈ns,Sm n)->ns.length<=n->eZ H->D2 (K w.params) H a (ns.map V.int)->sp w [.ref a] H (λ v _=>v=.bl true) λ _ _ _=>False)
 (im:∀(w:World) (H:Hp) (s:Shared) (e:Value) (s':Shared),CX w [] H s (λ _ _ _=>False) e s'->False):PySem.W.WalkO q loose XP YP l.row.toRowW d [] (λ f vs=>PySem.call f vs):=by
 refine HT.Pa hn fm λ w s₀ s₁ mg mb fa o pm cd doc a vs ns bo G Y ho hd aZ fv bW bf hlen hg=>?_;have KX:=hY w _ Y;obtain⟨fd,hb,hF⟩:=F w mg fa _ KX G.T.g fv;exact RS KX G.T.g G.T.b G.T.builtins G.T.nolimit hg bW bf (zZ hlen aD) hr hF hb (λ H hO hS=>bC w H a ns bo hlen hO hS) λ H e s'=>im w H s₁ e s'
def fV {F:List D->M D}(h:∀ns:List Int,ns.length<=63->(∀n∈ns,Sm n)->F [.lst (ns.map D.int)]=.ok (.bl true))(K:za)(H:Hp)(a:Addr)(ns:List Int)(bo:∀n∈ns,Sm n)(hl:ns.length<=63)(hS:D2 K H a (ns.map V.int)):Uh K 1 F [.ref a] H (λ v _=>v=.bl true) λ _ _ _=>False:=by
 refine⟨rfl,λ _=>False,[.lst (ns.map D.int)],λ _ z=>z.elim,.cons (.lst ?_ (Ah.ints ns)) .nil,?_⟩
 ·have e:del H (λ _=>False)=H:=by funext b;exact As (λ z=>z)
  rw[e];exact hS
 ·rw[h ns hl bo];exact λ v H' s hv=>hv.MQ
abbrev Pb (i j:Int):Prop:=(zN i<=2^20+1/\zN j<=2^10)\/S6 i j
def WR {a b:Int}(h:zN a+zN b<=2^21):IntMulOk a b:=by
 have e:(2:Nat)^21=2097152:=by decide
 have h2:Builtin.Int.intTooBig (zN a+zN b)=false:=by
  unfold Builtin.Int.intTooBig bitsLine;exact decide_eq_false (by omega)
 unfold IntMulOk;rw[h2];simp
def Pb.ok {i j:Int}(h:Pb i j):IntMulOk i j:=by
 rcases h with ⟨h1,h2⟩|h
 ·exact WR (by omega)
 ·exact h.ok
def fW {X:Cx}:Gb X (binaryOp .Mult) (rI Pb λ i j=>.int (i*j)):=tX λ _ _ _ _ _ _ _ hc q=>mul_int q hc.ok
noncomputable instance (i j:Int):Decidable (Pb i j):=yQ _
abbrev Ib:=BB λ i j=>if Pb i j then .ok (.int (i*j)) else .bad
def E6 {i j:Int}(h:Pb i j):Ib (.int i) (.int j)=.ok (.int (i*j)):=by
 unfold Ib BB;dsimp only;rw[if_pos h]
def Fj {X:Cx}{WX:Str->Hp->Prop}{c:Bool}{a b:Expr}{f g:Ac->M D}{pos:Pos}(ha:DE X WX c a f)(hb:DE X WX c b g):DE X WX c (.BinOp a .Mult b pos) (λ ρ=>(f ρ).bind λ x=>(g ρ).bind λ y=>Ib x y):=OZ fW (Ql λ _ _ _ _=>.int _) ha hb
def bits_le {n:Int}{k:Nat}(h:n.natAbs<2^k):zN n<=k:=by
 unfold zN;split
 ·exact zM _
 ·rename_i hn;have hp:n.natAbs≠0:=by simpa using hn
  exact (Nat.log2_lt hp).mpr h
def WS {c x:Int}(h:Sm c)(hx:x.natAbs<2^20):zN (c+x)<=2^20+1:=by
 refine bits_le ?_;have h1:=natAbs_lt_pow_bits c;have h2:(2:Nat)^zN c<=2^(2^20):=Nat.pow_le_pow_right (by omega) h;have h3:(2:Nat)^20<=2^(2^20):=Nat.pow_le_pow_right (by omega) (by omega);have h4:(c+x).natAbs<=c.natAbs+x.natAbs:=Int.natAbs_add_le c x;rw[Nat.pow_succ];omega
mutual
noncomputable def Ji:D->Bool
 | .tup a=>Jj a
 | .lst _| .ET _| .Bn _ _ _| .ins _ _ _=>false
 |_=>true
noncomputable def Jj:List D->Bool
 |[]=>true
 |a::r=>Ji a&&Jj r
end
def Vu {H:Hp}{P0 P:Addr->Prop}{a:Addr}{xs:List V}(ht:∀a,P a->Dq H a)(h:del H P0 a=some (.tup xs)):del H P a=some (.tup xs):=by
 obtain⟨h1,h2⟩:=Ak h;rw[As λ z=>by
  obtain⟨o',q,r⟩:=ht a z;rw[h2] at q;cases q;exact (r xs).1 rfl]
 exact h2
mutual
theorem BV.Ji {K:za}{H:Hp}{P0 P:Addr->Prop}(ht:∀a,P a->Dq H a):∀ {v:V}{d:D},Ji d=true->BV K (del H P0) v d->BV K (del H P) v d
 |_,_,_,.AK=>.AK
 |_,_,_,.bl b=>.bl b
 |_,_,_,.int i=>.int i
 |_,_,_,.str x=>.str x
 |_,_,n,.tup h r=>.tup (Vu ht h) (Ah.Ji ht (by rw[L2.Ji] at n;exact n) r)
 |_,_,n,.lst h r|_,_,n,.ET h r|_,_,n,.Vi h r|_,_,n,.Vj h r|_,_,n,.ins _ h r=>by rw[L2.Ji] at n;cases n
theorem Ah.Ji {K:za}{H:Hp}{P0 P:Addr->Prop}(ht:∀a,P a->Dq H a):∀ {vs:List V}{ds:List D},Jj ds=true->Ah K (del H P0) vs ds->Ah K (del H P) vs ds:=by
 intro _ _ n x_;cases x_ with
 |nil=>exact .nil
 |cons h t =>
  rw[Jj,zG] at n;exact .cons (BV.Ji ht n.1 h) (Ah.Ji ht n.2 t)
end
abbrev dp (m:M D):M D:=m.bind λ d=>if Ji d=true then .ok d else .bad
def fX {X:Cx}{WX:Str->Hp->Prop}{e:Expr}{f:Ac->M D}(h:DE X WX false e f):DE X WX true e (λ ρ=>dp (f ρ)):=by
 obtain⟨t,h1,h2⟩:=h;refine⟨t,h1,λ P0 P σ H Q ρ E g=>h2 P0 P σ H Q ρ E ?_⟩;unfold dp at g;dsimp only at g;cases e:f ρ with
 |ok d =>
  rw[e] at g;simp only[M.A9] at g;by_cases hf:Ji d=true
  ·rw[if_pos hf] at g;exact λ v H' s hv=>g v H' s (hv.Ji (E.same s).BX hf)
  ·rw[if_neg hf] at g;exact g.elim
 |ex x|bad=>rw[e] at g;exact g
section
variable {α:Type}(lt:α->α->Prop)
abbrev O8:List α->List α->Prop
 |y::ys,x::xs=>(lt y x/\ys.length=xs.length)\/(y=x/\O8 ys xs)
 |_,_=>False
def O8.len:∀ {ys xs:List α},O8 lt ys xs->ys.length=xs.length
 |y::ys,x::xs,h=>by
  rcases h with ⟨_,h⟩|⟨_,h⟩
  ·rw[zk,zk,h]
  ·rw[zk,zk,O8.len h]
 |[],[],h|[],_::_,h|_::_,[],h=>h.elim
def Z8 (n:Nat)(ih:∀xs:List α,xs.length=n->Acc (O8 lt) xs){x:α}(hx:Acc lt x):∀ {xs:List α},xs.length=n->Acc (O8 lt) xs->Acc (O8 lt) (x::xs):=by
 induction hx with
 |intro x _ ut =>
  intro xs hl cf;induction cf with
  |intro xs _ ng =>
   refine .intro _ λ zs h=>?_;cases zs with
   |nil=>exact h.elim
   |cons y ys =>
    rcases h with ⟨h1,h2⟩|⟨h1,h2⟩
    ·exact ut y h1 (h2.trans hl) (ih ys (h2.trans hl))
    ·subst h1;exact ng ys h2 ((O8.len lt h2).trans hl)
def N0 (h:∀x,Acc lt x):∀(n:Nat) (xs:List α),xs.length=n->Acc (O8 lt) xs
 |0,[],_=>.intro _ λ zs h=>by cases zs<;>exact h.elim
 |n+1,x::xs,e=>Z8 lt n (N0 h n) (h x) (by simpa using e) (N0 h n xs (by simpa using e))
def Vv:∀ {xs:List α}{i:Nat}{y:α}{x:α},xs[i]?=some x->lt y x->O8 lt (xs.set i y) xs
 |[],_,_,_,h,_=>by cases h
 |z::zs,0,y,x,h,hl=>by
  cases h;exact .inl ⟨hl,rfl⟩
 |z::zs,i+1,y,x,h,hl=>.inr ⟨rfl,Vv (by simpa using h) hl⟩
def O8.trans (ht:∀a b c,lt a b->lt b c->lt a c):∀ {xs ys zs:List α},O8 lt xs ys->O8 lt ys zs->O8 lt xs zs
 |x::xs,y::ys,z::zs,h1,h2=>by
  rcases h1 with ⟨a,b⟩|⟨rfl,b⟩
  ·rcases h2 with ⟨c,d⟩|⟨rfl,d⟩
   ·exact .inl ⟨ht _ _ _ a c,b.trans d⟩
   ·exact .inl ⟨a,b.trans (O8.len lt d)⟩
  ·rcases h2 with ⟨c,d⟩|⟨rfl,d⟩
   ·exact .inl ⟨c,(O8.len lt b).trans d⟩
   ·exact .inr ⟨rfl,O8.trans ht b d⟩
 |[],_,_,h,_|_::_,[],_,h,_|_::_,_::_,[],_,h=>by cases h
end
section
variable {X:Cx}{WX:Str->Hp->Prop}{c:Bool}{P0:Es}{P:Addr->Prop}{H:Hp}{σ:St}{ρ:Ac}{a b e:Expr}{f g g2:Ac->M D}{pos:Pos}
def Al.forget {K:za}(E:Al K P0 P H σ ρ)(k:Nat):Al K P0 P H σ (ρ.set k none):=by
 have key:∀(j:Nat) (cl:Cl),(ρ.set k none)[j]?=some (some cl)->k≠j/\ρ[j]?=some (some cl):=λ j cl h=>by
  rcases get_set h with ⟨_,_,z⟩|z
  ·cases z
  ·exact z
 exact⟨E.sub,E.BX,λ j d h=>E.val j d (key j _ h).2,λ j d h io=>E.ows j d (key j _ h).2 io,λ i j c c' v v' fp ag h1 h2=>E.apart i j c c' v v' fp ag (key i _ h1).2 (key j _ h2).2,by rw[yI];exact E.len,λ j c n h hp=>E.pin j c n (key j _ h).2 hp⟩
def fY (i:Nat){x:Str}{pos' cu:Pos}(hN:X.N.Nodup)(hi:X.N[i]?=some x)(hx:Loc X.env.scope x)(hs: ~~~(swapsWith (.List [] cu) (some (.Name x pos')) pos.line X.env=pure false))(hf:X.fn x=true\/X.env.scope.names.lookup x=some .local:=by first | exact .inl rfl | exact .inr rfl | assumption):
 DS X WX (.Assign [.Name x pos'] (.List [] cu) pos) (λ ρ=>.ok (.next (ρ.set i (some (.ow (.rows [])))))):=by
 refine⟨_,TU hN hi hx (Q7 Cp) hs hf,λ P0 P σ H Z ρ E h=>?_⟩;refine⟨zM _,λ p hp=>?_⟩;have nP:¬ P p:=λ z=>(E.BX p z).no hp;have sm:Ae (del H P) (del (upd H p (.lst [])) (λ a=>P a\/a=p)):=λ b o e=>by
  obtain⟨h1,h2⟩:=Ak e;have hb:b≠p:=Ax h2 hp;rw[As (λ z=>z.elim h1 hb),Ai hb];exact h2
 refine h _ _ (λ a=>P a\/a=p) ⟨sm,λ a ha=>by rw[Ai (λ z=>nP (by rw[<-z];exact E.sub a ha))]⟩ (E.WK (fp:=[p]) (λ a h=>.inl h) (λ a h=>?_) sm (λ j c' v' ag ae h1 h2 h3 a ha=>?_) ⟨p,[],rfl,rfl,Aq,.nil⟩ (λ a ha=>?_) (by simp))
 ·by_cases ha:a=p
  ·subst ha;exact Dq.lst Aq
  ·rcases h with h|h
   ·unfold Dq;rw[Ai ha];exact E.BX a h
   ·exact absurd h ha
 ·obtain⟨ys,q⟩:=h3.at a ha;have hn:a≠p:=Ax q hp;exact⟨Ai hn,λ z=>hn (zi.mp z)⟩
 ·rw[zi.mp ha];exact⟨.inr rfl,λ z=>nP (E.sub p z)⟩
def BE.snoc {K:za}{H:Hp}{P:Addr->Prop}{q:Addr}{xs:List V}{ds:List D}(hq:H q=some (.lst xs))(hx:Ah K (del H P) xs ds):∀ {ps:List Addr}{C5:List (List D)},BE K H P ps C5->BE K H P (ps++[q]) (C5++[ds]):=by
 intro _ _ x_;cases x_ with
 |nil=>exact .cons hq hx .nil
 |cons h r t=>exact .cons h r (t.snoc hq hx)
abbrev Z9 (i k:Nat)(ρ:Ac):M Out:=match ρ[i]?,ρ[k]? with
 |some (some (.ow (.rows C5))),some (some (.own ds))=>if C5.length<1000/\i≠k then .ok (.next ((ρ.set k none).set i (some (.ow (.rows (C5++[ds])))))) else .bad
 |_,_=>.bad
def fZ (i k:Nat){x y:Str}{p1 p2 apos ad:Pos}(hv:PE X (.Name x p1) (Kw i))(hw:PE X (.Name y p2) (Kw k))(hs: ~~~(starEach [.Name y p2] X.env=[(false,eval (.Name y p2) X.env)]))(aR: ~~~(swapsWith (.Call (.Attribute (.Name x p1) "append" apos) [.Name y p2] [] ad) none pos.line X.env=pure false))(al: ~~~(attributeBase (.Name x p1) "append" X.env (eval (.Name x p1) X.env)=eval (.Name x p1) X.env))(aE: ~~~(((backTo ad (starEach [.Name y p2] X.env)).all (λ x => !x.1)&&(backToKw ad (keywordEach [] X.env)).all (λ x=>x.1.isSome)&&decide (([.Name y p2]:List Expr).length+([]:List Keyword).length+(if ([]:List Keyword).isEmpty then 0 else 1)<30))=true))(am: ~~~((apos.endLine==ad.line)=true))(ak: ~~~((backTo ad (starEach [] X.env)).any (·.1)=false)):
 DS X WX (.Expr (.Call (.Attribute (.Name x p1) "append" apos) [.Name y p2] [] ad) pos) (Z9 i k):=by
 refine⟨_,Ex (OQ yR PySem.F.slot_list_append PySem.F.type_list_append Kz hv (Bf hw Cp hs) al aE am hs ak) aR,λ P0 P σ H Z ρ E h=>?_⟩;unfold Z9 at h;split at h
 ·rename_i C5 ds e1 e2;by_cases hl:C5.length<1000/\i≠k
  ·rw[if_pos hl] at h;obtain⟨v,fp,h1,o1,h4,nd⟩:=E.ows i _ e1 rfl;obtain⟨w,fq,k1,o2,k4,_⟩:=E.ows k _ e2 rfl;have oa:=o1;have ob:=o2;obtain⟨p,ps,rfl,rfl,h2,h3⟩:=o1;obtain⟨q,xs,rfl,rfl,k2,k3⟩:=o2;refine⟨_,h1,.inl ⟨rfl,_,.of h2⟩,⟨_,k1,p,_,_,rfl,rfl,h2,AJ (by rw[zc,h3.length];exact yN hl.1),?_⟩⟩;have pP:=h4 p zd;have sd:del (upd H p (.lst (ps.map V.ref++[V.ref q]))) P=del H P:=by
    funext b;by_cases hb:P b
    ·rw[D4 hb,D4 hb]
    ·rw[As hb,As hb,Ai (λ z=>hb (by rw[z];exact pP.1))]
   have sm:Ae (del H P) (del (upd H p (.lst (ps.map V.ref++[V.ref q]))) P):=by rw[sd];exact Ae.refl _
   have qn:q∉p::ps:=λ z=>E.apart i k _ _ _ _ _ _ e1 e2 h1 k1 oa ob hl.2 q z (zi.mpr rfl);have qp:q≠p:=λ z=>qn (by rw[z];exact zd);have key:=(E.forget k).WK (P':=P) (H':=upd H p (.lst (ps.map V.ref++[V.ref q]))) (i:=i) (v:=.ref p) (c:=.ow (.rows (C5++[ds]))) (fp:=p::(ps++[q])) (λ a h=>h) (λ a h=>?_) sm (λ j c' v' ag ae g1 g2 g3 a ha=>?_)
    ⟨p,ps++[q],rfl,rfl,by rw[z6];exact Aq,?_⟩ (λ a ha=>?_) ?_
   ·rw[KJ h1] at key;exact h _ _ _ ⟨sm,λ a h=>by rw[Ai (λ z=>pP.2 (by rw[<-z];exact h))]⟩ key
   ·by_cases ha:a=p
    ·subst ha;exact Dq.lst Aq
    ·unfold Dq;rw[Ai ha];exact E.BX a h
   ·have hj:k≠j/\ρ[j]?=some (some c'):=by
     rcases get_set g1 with ⟨_,_,z⟩|z
     ·cases z
     ·exact z
    have n1:=E.apart j i _ _ _ _ _ _ hj.2 e1 g2 h1 g3 oa (zY ae) a ha;have n2:=E.apart j k _ _ _ _ _ _ hj.2 e2 g2 k1 g3 ob (zY hj.1) a ha;have ap:a≠p:=λ z=>n1 (by rw[z];exact zd);refine⟨Ai ap,λ z=>?_⟩;rcases zq.mp z with z|z
    ·exact ap z
    ·rcases zy.mp z with z|z
     ·exact n1 (ze _ z)
     ·exact n2 z
   ·refine BE.snoc (xs:=xs) (by rw[Ai qp];exact k2) (by rw[sd];exact k3) (h3.move sm λ a ha=>Ai λ z=>?_);rw[zU] at nd;exact nd.1 (by rw[<-z];exact ha)
   ·rcases zq.mp ha with rfl|ha
    ·exact pP
    ·rcases zy.mp ha with ha|ha
     ·exact h4 a (ze _ ha)
     ·exact k4 a ha
   ·rw[zU] at nd ⊢;refine⟨λ z=>?_,?_⟩
    ·rcases zy.mp z with z|z
     ·exact nd.1 z
     ·exact qp (zi.mp z).symm
    ·rw[z8];refine⟨nd.2,by simp,λ x hx y hy z=>?_⟩;rw[zi.mp hy] at z;exact qn (ze _ (z▸hx))
  ·rw[if_neg hl] at h;exact h.elim
 ·exact h.elim
def Za {α:Type}{l:List α}{k:Int}{n:Nat}(h:OP l.length k=some n):RO l k=l[n]? :=by
 unfold RO;rw[h];rfl
abbrev rowAt (C5:List (List D))(ka:D):M (List D):=match ka with
 | .int j=>(match OP C5.length j with|some n=>(match C5[n]? with|some ds=>.ok ds|none=>.bad)|none=>.bad)
 |_=>.bad
def Pc {C5:List (List D)}{ka:D}{m:M (List D)}(h:rowAt C5 ka=m)(hb:m≠.bad):∃j n ds,ka=.int j/\OP C5.length j=some n/\C5[n]?=some ds/\m=.ok ds:=by
 subst h;unfold rowAt at hb ⊢;split at hb
 ·rename_i j;split at hb
  ·rename_i n en;split at hb
   ·rename_i ds ed;exact⟨j,n,ds,rfl,en,ed,by simp only[en,ed]⟩
   ·exact (hb rfl).elim
  ·exact (hb rfl).elim
 ·exact (hb rfl).elim
abbrev gB (i:Nat)(ρ:Ac)(ma mb:M D):M D:=match ρ[i]? with
 |some (some (.ow (.rows C5)))=>ma.bind λ ka=>(rowAt C5 ka).bind λ ds=>mb.bind λ kb=>fO (.lst ds) kb
 |_=>.bad
def sO {K:za}{P:Addr->Prop}{Q:VK}{m:M D}(h:gV K WX P H Q m):m≠.bad:=λ e=>by rw[e] at h;exact h
def Vw {α β:Type}{m:M α}{k:α->M β}(h:m.bind k≠.bad):m≠.bad:=λ e=>by rw[e] at h;exact h rfl
def Um (i:Nat){x:Str}{p1 p2:Pos}(hv:PE X (.Name x p1) (Kw i))(ha:DE X WX true a f)(hb:DE X WX true b g)(hs:Ho a:=by exact λ _ _=>rfl)(aG:Ho b:=by exact λ _ _=>rfl):
 DE X WX true (.Subscript (.Subscript (.Name x p1) a p2) b pos) (λ ρ=>gB i ρ (f ρ) (g ρ)):=by
 obtain⟨ta,a1,a2⟩:=ha;obtain⟨tb,b1,b2⟩:=hb;refine⟨_,Vd LX (Vd LX hv a1 hs) b1 aG,λ P0 P σ H Q ρ E h=>?_⟩;dsimp only at h;unfold gB at h;split at h
 ·rename_i C5 e1;obtain⟨v,fp,h1,⟨p,ps,rfl,rfl,h2,h3⟩,h4,nd⟩:=E.ows i _ e1 rfl;refine⟨_,h1,a2 P0 P σ H _ ρ E ?_⟩;refine YH h λ ka h=>?_;intro w H1 s1 hw;obtain⟨j,n,ds,rfl,en,ed,em⟩:=Pc rfl (Vw (sO h));rw[em] at h;simp only[M.A9] at h;cases hw;obtain⟨r,xs,r1,r2,r3⟩:=h3.get ed;have hl:OP (ps.map V.ref).length j=some n:=by rw[zc,h3.length];exact en
  refine⟨p,_,j,.ref r,rfl,rfl,.of (s1 _ _ h2),by rw[Za hl,z5,r1];rfl,?_⟩;refine b2 P0 P σ H1 _ ρ (E.same s1) ?_;cases q2:g ρ with
  |bad=>rw[q2] at h;exact h.elim
  |ex x=>rw[q2] at h;exact λ H' s'=>h H' (s1.trans s')
  |ok kb =>
   rw[q2] at h;simp only[M.A9] at h;intro u H2 s2 hu;unfold fO at h;split at h
   ·rename_i bF;cases bF
   ·rename_i iz j' bF;cases bF;split at h
    ·rename_i d e;cases hu;obtain⟨z,k1,k2⟩:=(r3.mono (s1.trans s2).del).RO e;exact⟨r,xs,j',z,rfl,rfl,.of (s2 _ _ (s1 _ _ r2)),k1,h _ H2 (s1.trans s2) k2⟩
    ·exact h.elim
   ·exact h.elim
 ·exact h.elim
def BE.set {K:za}{H H':Hp}{P:Addr->Prop}(sm:Ae (del H P) (del H' P)){r:Addr}{xs:List V}{ds:List D}(hr:H' r=some (.lst xs))(hx:Ah K (del H' P) xs ds)(k:∀a,a≠r->H' a=H a):∀ {ps:List Addr}{C5:List (List D)}{n:Nat},ps.Nodup->ps[n]?=some r->BE K H P ps C5->BE K H' P ps (C5.set n ds)
 |_,_,_,_,e,.nil=>by simp at e
 |_,_,0,nd,e,.cons h1 h2 t=>by
  simp at e;subst e;rw[zU] at nd;exact .cons hr hx (t.move sm λ a ha=>k a λ z=>nd.1 (by rw[<-z];exact ha))
 |q::ps,d::C5,n+1,nd,e,.cons h1 h2 t=>by
  rw[zU] at nd;have e':ps[n]?=some r:=by simpa using e
  refine .cons ((k q λ z=>nd.1 (by rw[z];exact zr e')).trans h1) (h2.mono sm) (t.set sm hr hx k nd.2 e')
abbrev gC (i:Nat)(ρ:Ac)(C5:List (List D))(d ka:D)(ds:List D)(kb:D):M Out:=match ka,kb with
 | .int j,.int l=>(match OP C5.length j,OP ds.length l with|some n,some m=>.ok (.next (ρ.set i (some (.ow (.rows (C5.set n (ds.set m d)))))))|_,_=>.bad)
 |_,_=>.bad
abbrev Vx (i:Nat)(ρ:Ac)(ma mb:M D)(d:D):M Out:=match ρ[i]? with
 |some (some (.ow (.rows C5)))=>ma.bind λ ka=>(rowAt C5 ka).bind λ ds=>mb.bind λ kb=>gC i ρ C5 d ka ds kb
 |_=>.bad
def gD (i:Nat){x:Str}{p1 p2 ao:Pos}(hv:PE X (.Name x p1) (Kw i))(he:DE X WX true e g2)(ha:DE X WX true a f)(hb:DE X WX true b g)(uu:Ho a:=by exact λ _ _=>rfl)(hs: ~~~(swapsWithSole [.Subscript (.Subscript (.Name x p1) a p2) b ao] e pos.line X.env=pure false))(hw: ~~~(swappedStores [.Subscript (.Subscript (.Name x p1) a p2) b ao] e X.env=pure none))(h1: ~~~((assignEach [.Subscript (.Subscript (.Name x p1) a p2) b ao] X.env).map (·.2)=[assign (.Subscript (.Subscript (.Name x p1) a p2) b ao) X.env]))(fj:∀v,assign (.Subscript (.Subscript (.Name x p1) a p2) b ao) X.env v=(do
  let ov <-holding [v] (eval (.Subscript (.Name x p1) a p2) X.env);let iv <-holding [v,ov] (eval b X.env)
  standAt ao
  holding [v,ov,iv] (setItem ov iv v)
  release [v,ov,iv] []):=by intro _;rfl):
 DS X WX (.Assign [.Subscript (.Subscript (.Name x p1) a p2) b ao] e pos) (λ ρ=>(g2 ρ).bind (Vx i ρ (f ρ) (g ρ))):=by
 obtain⟨te,e1,e2⟩:=he;obtain⟨ta,a1,a2⟩:=ha;obtain⟨tb,b1,b2⟩:=hb;refine⟨_,TR e1 (Y7 (Vd LX hv a1 uu) b1 set_list fj) hs hw h1,λ P0 P σ H Z ρ E h=>?_⟩;dsimp only at h;refine e2 P0 P σ H _ ρ E ?_;refine WL h E λ d h=>?_;intro v H0 s0 nh;have E0:=E.same s0;unfold Vx at h;split at h
 ·rename_i C5 qx;obtain⟨v',fp,h1,o1,h4,nd⟩:=E0.ows i _ qx rfl;have oa:=o1;obtain⟨p,ps,rfl,rfl,h2,h3⟩:=o1;refine⟨_,h1,a2 P0 P σ H0 _ ρ E0 ?_⟩;cases q:f ρ with
  |bad=>rw[q] at h;exact h.elim
  |ex x=>rw[q] at h;exact λ H' s=>h H' P ((E.tr s0).trans (E0.tr s))
  |ok ka =>
   rw[q] at h;simp only[M.A9] at h;intro w H1 s1 hw;obtain⟨j,n,ds,rfl,en,ed,em⟩:=Pc rfl (Vw (kH h));rw[em] at h;simp only[M.A9] at h;cases hw;obtain⟨r,xs,r1,r2,r3⟩:=h3.get ed;have hl:OP (ps.map V.ref).length j=some n:=by rw[zc,h3.length];exact en
   refine⟨p,_,j,.ref r,rfl,rfl,.of (s1 _ _ h2),by rw[Za hl,z5,r1];rfl,?_⟩;have E1:=E0.same s1;refine b2 P0 P σ H1 _ ρ E1 ?_;cases q2:g ρ with
   |bad=>rw[q2] at h;exact h.elim
   |ex x=>rw[q2] at h;exact λ H' s'=>h H' P ((E.tr s0).trans ((E0.tr s1).trans (E1.tr s')))
   |ok kb =>
    rw[q2] at h;simp only[M.A9] at h;intro u H2 s2 hu;unfold gC at h;split at h
    ·rename_i j' l bF;cases bF;cases hu;split at h
     ·rename_i n' m em uv;rw[en] at em;cases em;have E2:=E1.same s2;have bX:=s1.trans s2;have rm:r∈ps:=zr r1;have rP:=h4 r (ze _ rm);have dm:=zU.mp nd;have rp:r≠p:=λ z=>dm.1 (by rw[<-z];exact rm);have sd:del (upd H2 r (.lst (xs.set m v))) P=del H2 P:=by
       funext b;by_cases hb:P b
       ·rw[D4 hb,D4 hb]
       ·rw[As hb,As hb,Ai (λ z=>hb (by rw[z];exact rP.1))]
      have sm:Ae (del H2 P) (del (upd H2 r (.lst (xs.set m v))) P):=by rw[sd];exact Ae.refl _
      have ob:=oa.same bX;refine⟨r,xs,l,m,rfl,rfl,bX _ _ r2,by rw[r3.length];exact uv,?_⟩;have key:=E2.WK (P':=P) (H':=upd H2 r (.lst (xs.set m v))) (i:=i) (v:=.ref p) (c:=.ow (.rows (C5.set n (ds.set m d)))) (fp:=p::ps) (λ a h=>h) (λ a h=>?_) sm (λ j2 c' v' ag ae g1 g2 g3 a ha=>?_)
       ⟨p,ps,rfl,rfl,by rw[Ai (zY rp)];exact bX _ _ h2,?_⟩ h4 nd
      ·rw[KJ h1] at key;exact h _ _ _ ((E.tr s0).trans ((E0.tr bX).trans ⟨sm,λ a h=>by rw[Ai (λ z=>rP.2 (by rw[<-z];exact h))]⟩)) key
      ·by_cases ha:a=r
       ·subst ha;exact Dq.lst Aq
       ·unfold Dq;rw[Ai ha];exact E2.BX a h
      ·have n1:=E2.apart j2 i _ _ _ _ _ _ g1 qx g2 h1 g3 ob (zY ae) a ha;exact⟨Ai λ z=>n1 (by rw[z];exact ze _ rm),n1⟩
      ·have uw:BE X.K H2 P ps C5:=h3.move bX.del λ a ha=>by obtain⟨ys,z⟩:=h3.at a ha;rw[z];exact bX _ _ z
       refine uw.set sm Aq ?_ (λ a ha=>Ai ha) dm.2 r1;rw[sd];exact MW ((nh.mono s1.del).mono s2.del) m (r3.mono bX.del)
     ·exact h.elim
    ·exact h.elim
 ·exact h.elim
end
section
variable {X:Cx}{WX:Str->Hp->Prop}{c:Bool}{P0:Es}{P:Addr->Prop}{H:Hp}{σ:St}{ρ:Ac}{a b e:Expr}{f g g2:Ac->M D}{pos:Pos}
def EY:∀ {ds:List D}{ns:List Int},CO ds=some ns->ds=ns.map D.int
 |[],ns,h=>by cases h;rfl
 | .int b::r,bs,h=>by
  rw[CO] at h;cases q:CO r with
  |none=>rw[q] at h;cases h
  |some ur=>rw[q] at h;cases h;rw[EY q];rfl
 | .AK::r,bs,h| .bl _::r,bs,h| .str _::r,bs,h| .tup _::r,bs,h| .lst _::r,bs,h| .ET _::r,bs,h| .Bn _ _ _::r,bs,h| .ins _ _ _::r,bs,h=>by cases h
def E7 {K:za}{H:Hp}:∀ {vs:List V}{bs:List Int},Ah K H vs (bs.map D.int)->vs=bs.map V.int
 |_,[],.nil=>rfl
 |_,b::r,.cons h t=>by cases h;rw[E7 t];rfl
end
def nM {P P2:Addr->Prop}{H H':Hp}(t:Tr P P H P2 H'){a:Addr}(h:P2 a)(hn:¬ P a):H a=none:=by
 cases q:H a with
 |none=>rfl
 |some o =>
  have:=t.1 a o (by rw[As hn];exact q);exact ((Ak this).1 h).elim
section
variable {X:Cx}{WX:Str->Hp->Prop}{c:Bool}{P0:Es}{P:Addr->Prop}{H:Hp}{σ:St}{ρ:Ac}{a b e:Expr}{f g:Ac->M D}{pos:Pos}
abbrev gE:V->List V->Hp->VK->Prop:=λ x vs H Q=>∃(l:Addr) (xs:List V) (k:Nat) (y:V),x=.ref l/\vs=[.int (k:Int),y]/\H l=some (.lst xs)/\k<=xs.length/\xs.length<sizeLine/\Q .AK (upd H l (.lst (xs.take k++y::xs.drop k)))
def S9:∀ {xs:List V}{us:List Value}{y:V}{w:Value},Vals xs us->∀k:Nat,RelV y w->Vals (xs.take k++y::xs.drop k) (us.take k++w::us.drop k)
 |_,_,_,_,r,0,h=>.cons h r
 |_,_,_,_,.nil,k+1,h=>.cons h .nil
 |_,_,_,_,.cons a t,k+1,h=>.cons a (S9 t k h)
def Zb {prog:Program}{wd:World}{A:Around}{E:Value->Shared->Prop}{s:Shared}{Q:Value->Shared->Prop}{l:Addr}{items:Array Value}{n:Nat}(x:Int)(u:Tok)(y:Value)(hc:¬(!Builtin.List.listFitsIndex x)=true)(hs:items.size<=sizeLine)
 (e:s.heap.get? l=some {cls:=.type "list",data:=.seq items n})
 (h:Q .none {s with heap:=s.heap.update l (Obj.mapSeq λ xs=>(xs.extract 0 (if x<0 then (x+(xs.size:Int)).toNat else min x.toNat xs.size)).push y++xs.extract (if x<0 then (x+(xs.size:Int)).toNat else min x.toNat xs.size)),toks:=s.toks}):wpAny (model prog wd) A (call (.builtin "list.insert") [.ref l,.int x u,y]) Q E s:=by
 have hm:=PySem.AutoSeq1.list_insert_list_int_val_1 l items n x u y hc hs;have ha:=PySem.F.args_list_insert_3 (.ref l) (.int x u) y;exact call_meets PySem.F.slot_list_insert ⟨_,e,rfl⟩ PySem.F.entry_list_insert ha hm ⟨e,h⟩
def WT:pR X "list.insert" gE:=by
 intro pins s σ H x vs v us Q I rx rv h;obtain⟨l,xs,k,y,rfl,rfl,hH,hk,hz,q⟩:=h;cases rx;obtain⟨u,w,rfl,ru,bc⟩:=rv.two;obtain⟨tk,rfl⟩:=ru;obtain⟨z,aa,n,r,hl,e⟩:=I.RP hH;have hlen:=r.length;have ym:=Kx;have eo:¬ (!Builtin.List.listFitsIndex (k:Int))=true:=by
  unfold Builtin.List.listFitsIndex;simp;omega
 have hsz:aa.toArray.size<=sizeLine:=by rw[zl,<-hl];exact yN hz
 refine Zb (k:Int) tk w eo hsz e ?_;refine⟨.AK,_,I.Ww (its':=aa.take k++w::aa.drop k) hH e ?_ ?_ ?_,rfl,q⟩
 ·have e1:¬ ((k:Int)<0):=by omega
  have e2:min (k:Int).toNat aa.toArray.size=k:=by rw[yM,zl];omega
  simp only[e1,if_false,e2];apply Array.toList_inj.mp;simp;rw[zap (by rw[zak];exact zv _)]
 ·exact S9 r k bc
 ·rw[zB,zk,zT,zak];omega
abbrev WU (i:Nat)(ρ:Ac)(mk md:M D):M Out:=match ρ[i]? with
 |some (some (.own ds))=>mk.bind λ k=>md.bind λ d=>match k with
  | .int j=>if 0<=j/\j.toNat<=ds.length/\ds.length<1000 then .ok (.next (ρ.set i (some (.own (ds.take j.toNat++d::ds.drop j.toNat))))) else .bad
  |_=>.bad
 |_=>.bad
def Pd {K:za}{H:Hp}:∀ {vs:List V}{ds:List D}(n:Nat),Ah K H vs ds->Ah K H (vs.take n) (ds.take n)
 |_,_,0,_=>by rw[List.take_zero,List.take_zero];exact .nil
 |_,_,_+1,.nil=>.nil
 |_,_,n+1,.cons h t=>by rw[List.take_succ_cons,List.take_succ_cons];exact .cons h (Pd n t)
def Pe {K:za}{H:Hp}:∀ {vs:List V}{ds:List D}(n:Nat),Ah K H vs ds->Ah K H (vs.drop n) (ds.drop n)
 |_,_,0,h=>h
 |_,_,_+1,.nil=>.nil
 |_,_,n+1,.cons h t=>by rw[List.drop_succ_cons,List.drop_succ_cons];exact Pe n t
def Sa {K:za}{H:Hp}:∀ {vs ws:List V}{ds es:List D},Ah K H vs ds->Ah K H ws es->Ah K H (vs++ws) (ds++es)
 |_,_,_,_,.nil,k=>k
 |_,_,_,_,.cons h t,k=>.cons h (Sa t k)
def WV (i:Nat){x:Str}{p1 apos ad:Pos}(hv:PE X (.Name x p1) (Kw i))(hk:DE X WX true a f)(hd:DE X WX true b g)(hs: ~~~(starEach [a,b] X.env=(false,eval a X.env)::starEach [b] X.env))(aG: ~~~(starEach [b] X.env=[(false,eval b X.env)]))(aR: ~~~(swapsWith (.Call (.Attribute (.Name x p1) "insert" apos) [a,b] [] ad) none pos.line X.env=pure false))(al: ~~~(attributeBase (.Name x p1) "insert" X.env (eval (.Name x p1) X.env)=eval (.Name x p1) X.env))(aE: ~~~(((backTo ad (starEach [a,b] X.env)).all (λ x => !x.1)&&(backToKw ad (keywordEach [] X.env)).all (λ x=>x.1.isSome)&&decide (([a,b]:List Expr).length+([]:List Keyword).length+(if ([]:List Keyword).isEmpty then 0 else 1)<30))=true))(am: ~~~((apos.endLine==ad.line)=true))(ak: ~~~((backTo ad (starEach [b] X.env)).any (·.1)=false)):
 DS X WX (.Expr (.Call (.Attribute (.Name x p1) "insert" apos) [a,b] [] ad) pos) (λ ρ=>WU i ρ (f ρ) (g ρ)):=by
 obtain⟨ta,a1,a2⟩:=hk;obtain⟨tb,b1,b2⟩:=hd;refine⟨_,Ex (OQ yR PySem.F.slot_list_insert PySem.F.type_list_insert WT hv (Bf a1 (Bf b1 Cp aG) hs) al aE am hs ak) aR,λ P0 P σ H Z ρ E h=>?_⟩;dsimp only at h;unfold WU at h;split at h
 ·rename_i ds e1;obtain⟨p,xs,h1,h2,h3,h4,h5⟩:=E.own i ds e1;refine⟨_,h1,.inl ⟨rfl,xs,.of h2⟩,a2 P0 P σ H _ ρ E ?_⟩;refine WL h E λ k h=>?_;intro w H1 s1 hw;have E1:=E.same s1;refine b2 P0 P σ H1 _ ρ E1 ?_;cases q2:g ρ with
  |bad=>rw[q2] at h;exact h
  |ex y=>rw[q2] at h;exact λ H' s=>h H' P ((E.tr s1).trans (E1.tr s))
  |ok d =>
   rw[q2] at h;simp only[M.A9] at h;intro v H2 s2 nh;have E2:=E1.same s2;have bX:=s1.trans s2;split at h
   ·rename_i j;cases hw;by_cases hj:0<=j/\j.toNat<=ds.length/\ds.length<1000
    ·rw[if_pos hj] at h;have ux:((j.toNat:Nat):Int)=j:=Int.toNat_of_nonneg hj.1;have qy:=h5.mono bX.del;refine⟨p,xs,j.toNat,v,rfl,by rw[ux],bX _ _ h2,by rw[h5.length];exact hj.2.1,AJ (by rw[h5.length];exact yN hj.2.2),?_⟩;obtain⟨E3,t3⟩:=E2.mut e1 h1 h3 h4 (Sa (Pd j.toNat qy) (.cons nh (Pe j.toNat qy)));exact h _ _ _ ((E.tr bX).trans t3) E3
    ·rw[if_neg hj] at h;exact h.elim
   ·exact h.elim
 ·exact h.elim
abbrev xD (ds:List D):M D:=match ds with
 |[.int i]=>if i.natAbs.log2<1920 then .ok (.str (toString i)) else .bad
 |_=>.bad
def N1 (hc:X.calm=true):FV X (.builtin "any") (λ xs H Q=>∃p bs,xs=[.ref p]/\D2 X.K H p (List.map V.bl bs)/\Q (.bl (bs.any id)) H):=by
 intro pins s σ H xs us Q I r h;obtain⟨p,bs,rfl,hq,q⟩:=h;obtain⟨u,rfl,rx⟩:=vals1 r;cases rx;obtain⟨aa,r',pl,hz⟩:=I.list hq;have hl:=pl.isList;have hb:=II r';have af:p<s.heap.objs.size:=by obtain⟨_,e,_⟩:=hl;exact zw e
 refine call_any_walk (wpAny_pyIter_list hl ?_);refine⟨s.heap.objs.size,[s.heap.objs.size,p],[s.heap.objs.size],aa.toArray.size,_,_,λ i=>(bs[i]?).getD false,rfl,Walks.list (A:=X.A.in1) (I.ok.hd hc) _ p (zD af) aa.toArray,
  ⟨⟨_,z9 _ rfl,rfl,rfl⟩,hl.push _⟩,λ i v s' Q' E' hP hQ=>?_,λ h' tk hk=>?_⟩
 ·obtain⟨b,e,rfl⟩:=hb.get i v (by simpa using hP);simp only[e,Option.getD_some] at hQ;exact wpAny_truthy_bool hQ
 ·have e:((yO aa.toArray.size).any λ i=>(bs[i]?).getD false)=bs.any id:=by
   rw[zl,hb.length];exact LSm.range_any bs
  rw[e];exact⟨.bl _,H,I.kept (t':=tk) (LSm.kept_iter hk),rfl,q⟩
abbrev Zc (ds:List D):M D:=match ds with
 |[.lst xs]=>(match Gx xs with|some bs=>.ok (.bl (bs.any id))|none=>.bad)
 |_=>.bad
def nN:Jd X.K WX (λ xs H Q=>∃p bs,xs=[.ref p]/\D2 X.K H p (List.map V.bl bs)/\Q (.bl (bs.any id)) H) Zc:=by
 intro P H ds vs Q ht hl h;unfold Zc at h;split at h
 ·rename_i xs;obtain⟨v,rfl,hv⟩:=hl.one;split at h
  ·rename_i bs eb;have:=IG eb;subst this;cases hv with
   |lst hs hh =>
    have:=IH hh;subst this;exact⟨_,bs,rfl,hs.B5,h _ H (Ae.refl H) (.bl _)⟩
  ·exact h.elim
 ·exact h.elim
def gF {p:Pos}(hc:X.calm=true)(hg:Gl X "any")(hm:X.mg "any" = none)(ha:DE X WX c e f)(hb:bootBuiltins "any" = some (.builtin "any"):=by decide +kernel)(hs: ~~~(starEach [e] X.env=[(false,eval e X.env)])):DE X WX c (.Call (.Name "any" p) [e] [] pos) (λ ρ=>((f ρ).bind λ d=>(M.ok []).bind λ ds=>.ok (d::ds)).bind Zc):=
 Je (N1 hc) nN hg hm hb (A2 ha A4 hs) (he:=hs)
end
abbrev kids:OT->List OT
 | .sh _=>[]
 | .lst ts| .tup ts| .Bn _ _ ts| .ins _ _ ts=>ts
abbrev M3:OT->List OT->OT
 | .sh d,_=>.sh d
 | .lst _,ts=>.lst ts
 | .tup _,ts=>.tup ts
 | .Bn b ks _,ts=>.Bn b ks ts
 | .ins x ns _,ts=>.ins x ns ts
abbrev KO:OT->List Nat->Option OT
 |t,[]=>some t
 |t,j::π=>match (kids t)[j]? with|some s=>KO s π|none=>none
abbrev EI:OT->List Nat->OT->OT
 |_,[],u=>u
 |t,j::π,u=>match (kids t)[j]? with|some s=>M3 t ((kids t).set j (EI s π u))|none=>t
@[simp] theorem Sb (t:OT):KO t []=some t:=by unfold KO;rfl
@[simp] theorem E8 (t u:OT):EI t [] u=u:=by unfold EI;rfl
def WW {t s:OT}{j:Nat}{π:List Nat}(h:(kids t)[j]?=some s):KO t (j::π)=KO s π:=by rw[KO,h]
def WY {t s u:OT}{j:Nat}{π:List Nat}(h:(kids t)[j]?=some s):EI t (j::π) u=M3 t ((kids t).set j (EI s π u)):=by rw[EI,h]
section
variable {K:za}{H H':Hp}{P P':Addr->Prop}
abbrev CK (K:za)(H:Hp)(P:Addr->Prop)(v:V)(t:OT)(q:List Addr)(xs:List V):Prop:=match t with
 | .sh _=>False
 | .lst ts=>∃p,v=.ref p/\q=[p]/\H p=some (.lst xs)
 | .tup ts=>∃p,v=.ref p/\q=[]/\del H P p=some (.tup xs)
 | .Bn false ks ts=>∃p kvs,v=.ref p/\q=[p]/\H p=some (.dK kvs)/\ks=(kvs.map λ kv=>Dj kv.1)/\xs=kvs.map yT
 | .Bn true ks ts=>∃p kvs,v=.ref p/\q=[p]/\H p=some (.dT kvs)/\ks=(kvs.map λ kv=>.tup (kv.1.map Dj))/\xs=kvs.map yT
 | .ins x ns ts=>∃p C dx fs,v=.ref p/\q=[p]/\zE K mainGlobals x=some (some (.ref C))/\H p=some (.ins C dx fs)/\ns=fs.map zH/\xs=fs.map yT
def CK.own {v:V}{t:OT}{q:List Addr}{xs:List V}{fp:List Addr}(h:CK K H P v t q xs)(r:AD K H P xs (kids t) fp):C8 K H P v t (q++fp):=by
 cases t with
 |sh d=>exact h.elim
 |lst ts=>obtain⟨p,rfl,rfl,h⟩:=h;exact .lst h r
 |tup ts=>obtain⟨p,rfl,rfl,h⟩:=h;exact .tup h r
 |Bn b ks ts =>
  cases b with
  |false=>obtain⟨p,kvs,rfl,rfl,h,rfl,rfl⟩:=h;exact .dK h r
  |true=>obtain⟨p,kvs,rfl,rfl,h,rfl,rfl⟩:=h;exact .dT h r
 |ins x ns ts=>obtain⟨p,C,dx,fs,rfl,rfl,n,h,rfl,rfl⟩:=h;exact .ins n h r
def C8.node {v:V}{t:OT}{fp:List Addr}(h:C8 K H P v t fp)(hk:kids t≠[]\/∀d,t≠.sh d):∃q xs fq,fp=q++fq/\CK K H P v t q xs/\AD K H P xs (kids t) fq:=by
 cases h with
 |sh h=>rcases hk with hk|hk;exact (hk rfl).elim;exact (hk _ rfl).elim
 |lst h r=>exact⟨[_],_,_,rfl,⟨_,rfl,rfl,h⟩,r⟩
 |tup h r=>exact⟨[],_,_,rfl,⟨_,rfl,rfl,h⟩,r⟩
 |dK h r|dT h r=>exact⟨[_],_,_,rfl,⟨_,_,rfl,rfl,h,rfl,rfl⟩,r⟩
 |ins n h r=>exact⟨[_],_,_,rfl,⟨_,_,_,_,rfl,rfl,n,h,rfl,rfl⟩,r⟩
def CK.move (sm:Ae (del H P) (del H' P')){v:V}{t:OT}{q:List Addr}{xs:List V}(k:∀a∈q,H' a=H a)(h:CK K H P v t q xs):CK K H' P' v t q xs:=by
 cases t with
 |sh d=>exact h.elim
 |lst ts=>obtain⟨p,rfl,rfl,h⟩:=h;exact⟨p,rfl,rfl,(k p zd).trans h⟩
 |tup ts=>obtain⟨p,rfl,rfl,h⟩:=h;exact⟨p,rfl,rfl,sm _ _ h⟩
 |Bn b ks ts =>
  cases b with
  |false|true=>obtain⟨p,kvs,rfl,rfl,h,rfl,rfl⟩:=h;exact⟨p,kvs,rfl,rfl,(k p zd).trans h,rfl,rfl⟩
 |ins x ns ts=>obtain⟨p,C,dx,fs,rfl,rfl,n,h,rfl,rfl⟩:=h;exact⟨p,C,dx,fs,rfl,rfl,n,(k p zd).trans h,rfl,rfl⟩
def CK.kids {v:V}{t:OT}{q:List Addr}{xs:List V}(h:CK K H P v t q xs)(ts:List OT):CK K H P v (M3 t ts) q xs:=by
 cases t with
 |sh d=>exact h.elim
 |lst us|tup us=>exact h
 |Bn b ks us=>cases b<;>exact h
 |ins x ns us=>exact h
def Qr {v:V}{t:OT}{q:List Addr}{xs:List V}(h:CK K H P v t q xs)(ts:List OT):L2.kids (M3 t ts)=ts:=by
 cases t with
 |sh d=>exact h.elim
 |lst us|tup us|Bn b ks us|ins x ns us=>rfl
def CK.inj {v:V}{t:OT}{q q':List Addr}{xs dk:List V}(h:CK K H P v t q xs)(h':CK K H P v t q' dk):q=q'/\xs=dk:=by
 cases t with
 |sh d=>exact h.elim
 |lst ts|tup ts=>obtain⟨p,rfl,rfl,h⟩:=h;obtain⟨p',e,rfl,h'⟩:=h';cases e;rw[h] at h';cases h';exact⟨rfl,rfl⟩
 |Bn b ks ts =>
  cases b with
  |false|true=>obtain⟨p,kvs,rfl,rfl,h,_,rfl⟩:=h;obtain⟨p',ni,e,rfl,h',_,rfl⟩:=h';cases e;rw[h] at h';cases h';exact⟨rfl,rfl⟩
 |ins x ns ts=>obtain⟨p,C,dx,fs,rfl,rfl,n,h,_,rfl⟩:=h;obtain⟨p',C',yn,bM,e,rfl,n',h',_,rfl⟩:=h';cases e;rw[h] at h';cases h';exact⟨rfl,rfl⟩
inductive Jk (K:za) (H:Hp) (P:Addr->Prop):V->OT->List Nat->V->OT->Prop
 |nil {v t}:Jk K H P v t [] v t
 |cons {v t q xs j x s π v1 t1}:CK K H P v t q xs->xs[j]?=some x->(kids t)[j]?=some s->Jk K H P x s π v1 t1->Jk K H P v t (j::π) v1 t1
def Jk.sub {v v1:V}{t t1:OT}{π:List Nat}(h:Jk K H P v t π v1 t1):KO t π=some t1:=by
 induction h with
 |nil=>exact Sb _
 |cons _ _ hs _ ih=>rw[WW hs];exact ih
def AD.get:∀ {xs:List V}{ts:List OT}{fp:List Addr}{j:Nat}{x:V}{s:OT},AD K H P xs ts fp->xs[j]?=some x->ts[j]?=some s->∃pre fs post,fp=pre++fs++post/\C8 K H P x s fs
 |_,_,_,_,_,_,.nil,e,_=>by simp at e
 |_,_,_,0,_,_,.cons h r,e,e'=>by
  simp at e e';subst e;subst e';exact⟨[],_,_,rfl,h⟩
 |_,_,_,j+1,_,_,.cons (fp:=f1) h r,e,e'=>by
  obtain⟨pre,fs,post,z,q⟩:=AD.get r (by simpa using e) (by simpa using e');exact⟨f1++pre,fs,post,by rw[z];simp,q⟩
def AD.len:∀ {xs:List V}{ts:List OT}{fp:List Addr},AD K H P xs ts fp->xs.length=ts.length
 |_,_,_,.nil=>rfl
 |_,_,_,.cons _ r=>by rw[zk,zk,r.len]
def C8.part {v v1:V}{t t1:OT}{π:List Nat}{fp:List Addr}(h:C8 K H P v t fp)(s:Jk K H P v t π v1 t1):∃az,C8 K H P v1 t1 az/\(∀a∈az,a∈fp)/\(fp.Nodup->az.Nodup):=by
 induction s generalizing fp with
 |nil=>exact⟨fp,h,λ _ h=>h,λ h=>h⟩
 |cons n hx hs _ ih =>
  obtain⟨q,xs,fq,rfl,n',r⟩:=h.node (.inl λ z=>by rw[z] at hs;cases hs);obtain⟨rfl,rfl⟩:=n.inj n';obtain⟨pre,fs,post,rfl,o⟩:=r.get hx hs;obtain⟨az,o1,k,kn⟩:=ih o;exact⟨az,o1,λ a ha=>zm _ (zJ _ (zm _ (k a ha))),λ nd=>kn (z8.mp (z8.mp (z8.mp nd).2.1).1).2.1⟩
def AD.put (sm:Ae (del H P) (del H' P')):∀ {xs:List V}{ts:List OT}{fp:List Addr}{j:Nat}{x:V}{s s':OT}{fs bM:List Addr},AD K H P xs ts fp->xs[j]?=some x->ts[j]?=some s->C8 K H P x s fs->C8 K H' P' x s' bM->(∀a∈fp,a∉fs->H' a=H a)->fp.Nodup->bM.Nodup->(∀a∈bM,a∈fp->a∈fs)->
 ∃ag,AD K H' P' xs (ts.set j s') ag/\ag.Nodup/\∀a∈ag,a∈bM\/(a∈fp/\a∉fs)
 |_,_,_,_,_,_,_,_,_,.nil,e,_,_,_,_,_,_,_=>by simp at e
 |_,_,_,0,x,s,s',fs,bM,.cons (fp:=f1) (fq:=f2) h r,e,e',o,o',k,nd,dm,dj=>by
  simp at e e';subst e;subst e';have:=h.Ci o;subst this;have aT:=z8.mp nd;have k2:∀a∈f2,a∉f1:=λ a ha hb=>aT.2.2 a hb a ha rfl;refine⟨bM++f2,.cons o' (r.move sm λ a ha=>k a (zm _ ha) (k2 a ha)),z8.mpr ⟨dm,aT.2.1,λ a ha b hb z=>?_⟩,λ a ha=>?_⟩
  ·subst z;exact k2 a hb (dj a ha (zm _ hb))
  ·rcases zy.mp ha with ha|ha
   ·exact .inl ha
   ·exact .inr ⟨zm _ ha,k2 a ha⟩
 |_,_,_,j+1,x,s,s',fs,bM,.cons (vs:=qo) (ts:=uz) (fp:=f1) (fq:=f2) h r,e,e',o,o',k,nd,dm,dj=>by
  have aT:=z8.mp nd;have e2:qo[j]?=some x:=by simpa using e
  have e3:uz[j]?=some s:=by simpa using e'
  obtain⟨pre,fx,post,hf,ox⟩:=r.get e2 e3;have:=ox.Ci o;subst this;have k1:∀a∈f1,a∉fx:=λ a ha hb=>aT.2.2 a ha a (by rw[hf];exact zJ _ (zm _ hb)) rfl;obtain⟨ag,q1,q2,q3⟩:=AD.put sm r e2 e3 o o' (λ a ha hn=>k a (zm _ ha) hn) aT.2.1 dm (λ a ha hb=>dj a ha (zm _ hb));refine⟨f1++ag,.cons (h.move sm λ a ha=>k a (zJ _ ha) (k1 a ha)) q1,z8.mpr ⟨aT.1,q2,λ a ha b hb z=>?_⟩,λ a ha=>?_⟩
  ·subst z;rcases q3 a hb with z|z
   ·exact k1 a ha (dj a z (zJ _ ha))
   ·exact aT.2.2 a ha a z.1 rfl
  ·rcases zy.mp ha with ha|ha
   ·exact .inr ⟨zJ _ ha,k1 a ha⟩
   ·rcases q3 a ha with z|z
    ·exact .inl z
    ·exact .inr ⟨zm _ z.1,z.2⟩
def C8.put (sm:Ae (del H P) (del H' P')){v v1:V}{t t1 u:OT}{π:List Nat}{fp az fu:List Addr}(h:C8 K H P v t fp)(s:Jk K H P v t π v1 t1)(o:C8 K H P v1 t1 az)(o':C8 K H' P' v1 u fu)(k:∀a∈fp,a∉az->H' a=H a)(nd:fp.Nodup)(dm:fu.Nodup)(dj:∀a∈fu,a∈fp->a∈az):
 ∃ag,C8 K H' P' v (EI t π u) ag/\ag.Nodup/\∀a∈ag,a∈fu\/(a∈fp/\a∉az):=by
 induction s generalizing fp with
 |nil =>
  rw[E8];exact⟨fu,o',dm,λ a ha=>.inl ha⟩
 | @cons v t q xs j x s π v1 t1 n hx hs s1 ih =>
  obtain⟨q',dk,fq,rfl,n',r⟩:=h.node (.inl λ z=>by rw[z] at hs;cases hs);obtain⟨rfl,rfl⟩:=n.inj n';have i4:=z8.mp nd;obtain⟨pre,fs,post,hf,ox⟩:=r.get hx hs;have sub:∀a∈fs,a∈fq:=λ a ha=>by rw[hf];exact zJ _ (zm _ ha)
  have u3:fs.Nodup:=by
   have:=i4.2.1;rw[hf] at this;exact (z8.mp (z8.mp this).1).2.1
  obtain⟨fz,oz,kz,_⟩:=ox.part s1;have:=oz.Ci o;subst this;obtain⟨bM,q1,q2,q3⟩:=ih ox o o' (λ a ha hn=>k a (zm _ (sub a ha)) hn) u3 (λ a ha hb=>dj a ha (zm _ (sub a hb)));have qf:∀a∈q,a∉fs:=λ a ha hb=>i4.2.2 a ha a (sub a hb) rfl;have kq:∀a∈q,H' a=H a:=λ a ha=>k a (zJ _ ha) λ z=>qf a ha (kz a z);obtain⟨ag,p1,p2,p3⟩:=r.put sm hx hs ox q1 (λ a ha hn=>k a (zm _ ha) λ z=>hn (kz a z)) i4.2.1 q2 (λ a ha hb=>by
   rcases q3 a ha with z|z
   ·exact kz a (dj a z (zm _ hb))
   ·exact z.1)
  rw[WY hs];have n2:=(n.move sm kq).kids ((kids t).set j (EI s π u));have o2:=n2.own (fp:=ag) (by rw[Qr n];exact p1);refine⟨q++ag,o2,z8.mpr ⟨i4.1,p2,λ a ha b hb z=>?_⟩,λ a ha=>?_⟩
  ·subst z;rcases p3 a hb with z|z
   ·rcases q3 a z with y|y
    ·exact qf a ha (kz a (dj a y (zJ _ ha)))
    ·exact qf a ha y.1
   ·exact i4.2.2 a ha a z.1 rfl
  ·rcases zy.mp ha with ha|ha
   ·exact .inr ⟨zJ _ ha,λ z=>qf a ha (kz a z)⟩
   ·rcases p3 a ha with z|z
    ·rcases q3 a z with y|y
     ·exact .inl y
     ·exact .inr ⟨zm _ (sub a y.1),y.2⟩
    ·exact .inr ⟨zm _ z.1,λ y=>z.2 (kz a y)⟩
end
abbrev PU (P:Addr->Prop)(fp:List Addr):Addr->Prop:=λ a=>P a\/a∈fp
def Gy {P:Addr->Prop}{fp:List Addr}:∀a,P a->PU P fp a:=λ a h=>.inl h
def C6 {P:Addr->Prop}{fp:List Addr}{H H':Hp}(s:Ae H H')(hn:∀a∈fp,H a=none):Ae (del H P) (del H' (PU P fp)):=λ b o e=>by
 obtain⟨h1,h2⟩:=Ak e;rw[As λ z=>z.elim h1 λ w=>by rw[hn b w] at h2;cases h2];exact s b o h2
def Uo {P:Addr->Prop}{H:Hp}:del H (PU P [])=del H P:=by
 funext b;by_cases h:P b
 ·rw[D4 h,D4 (.inl h)]
 ·rw[As h,As λ z=>z.elim h λ w=>by cases w]
def Fl {P:Addr->Prop}{fp:List Addr}{K:za}{H':Hp}{Q:Addr->Prop}{v:V}{t:OT}(hP:∀a,P a->Dq H' a)(o:C8 K H' Q v t fp):∀a,PU P fp a->Dq H' a:=λ a h=>h.elim (hP a) (o.BX a)
def Vy {P:Addr->Prop}{fp:List Addr}{K:za}{H':Hp}{Q:Addr->Prop}{v:List V}{t:List OT}(hP:∀a,P a->Dq H' a)(o:AD K H' Q v t fp):∀a,PU P fp a->Dq H' a:=λ a h=>h.elim (hP a) (o.BX a)
def Al.more {K:za}{P0:Es}{P P':Addr->Prop}{H H':Hp}{σ:St}{ρ:Ac}(E:Al K P0 P H σ ρ)(e:Ae H H')(hs:∀a,P a->P' a)(ht:∀a,P' a->Dq H' a)(sm:Ae (del H P) (del H' P')):Al K P0 P' H' σ ρ:=by
 have keep:∀(c:Cl) (v:V) (fp:List Addr),Dk K H P c v fp->∀a∈fp,H' a=H a:=λ c v fp o a ha=>by
  obtain⟨xs,q⟩:=o.at a ha;rw[q];exact e _ _ q
 exact⟨λ a h=>hs a (E.sub a h),ht,λ i d h=>let ⟨v,h1,h2⟩:=E.val i d h;⟨v,h1,h2.mono sm⟩,
  λ i c h io=>let ⟨v,fp,h1,h2,h3,h4⟩:=E.ows i c h io;⟨v,fp,h1,h2.move sm (keep c v fp h2),λ a ha=>⟨hs a (h3 a ha).1,(h3 a ha).2⟩,h4⟩,
  λ i j c c' v v' fp ag hi hj si sj h h' ae=>E.YI sm (λ v fp _ o a ha=>keep _ _ _ o a ha) (λ v fp _ o a ha=>keep _ _ _ o a ha) hi hj si sj h h' ae,E.len,E.pin⟩
abbrev WZ (K:za)(WX:Str->Hp->Prop)(P:Addr->Prop)(H:Hp)(Q:VK):M OT->Prop
 | .ok t=>∀v fp H',Ae H H'->(∀a∈fp,H a=none)->fp.Nodup->C8 K H' (PU P fp) v t fp->Q v H'
 | .ex x=>∀H',Ae H H'->WX x H'
 | .bad=>False
abbrev yC (K:za)(WX:Str->Hp->Prop)(P:Addr->Prop)(H:Hp)(Q:List V->Hp->Prop):M (List OT)->Prop
 | .ok t=>∀v fp H',Ae H H'->(∀a∈fp,H a=none)->fp.Nodup->AD K H' (PU P fp) v t fp->Q v H'
 | .ex x=>∀H',Ae H H'->WX x H'
 | .bad=>False
def EZ {H H':Hp}(s:Ae H H'){a:Addr}(h:H' a=none):H a=none:=by
 cases q:H a with
 |none=>rfl
 |some o=>rw[s a o q] at h;cases h
section
variable {K:za}{WX:Str->Hp->Prop}{P:Addr->Prop}{H H':Hp}
def WZ.same {Q:VK}{m:M OT}(h:WZ K WX P H Q m)(e:Ae H H'):WZ K WX P H' Q m:=by
 cases m with
 |ok d=>exact λ v fp H2 q hn nd o=>h v fp H2 (e.trans q) (λ a ha=>EZ e (hn a ha)) nd o
 |ex x=>exact λ H2 q=>h H2 (e.trans q)
 |bad=>exact h
end
abbrev DN (X:Cx)(WX:Str->Hp->Prop)(e:Expr)(f:Ac->M OT):Prop:=
 ∃t,PE X e t/\∀P0 P σ H Q ρ,Al X.K P0 P H σ ρ->WZ X.K WX P H Q (f ρ)->t σ H Q
abbrev sP (X:Cx)(WX:Str->Hp->Prop)(es:List Expr)(f:Ac->M (List OT)):Prop:=
 ∃t,PA X es t/\(∀P0 P σ H Q ρ,Al X.K P0 P H σ ρ->yC X.K WX P H Q (f ρ)->t σ H Q)/\∀ρ ts,f ρ=.ok ts->ts.length=es.length
abbrev sQ (d:D):M OT:=.ok (.sh d)
abbrev kI (t:OT):M D:=.ok (er t)
section
variable {X:Cx}{WX:Str->Hp->Prop}{c:Bool}{P0:Es}{P:Addr->Prop}{H:Hp}{σ:St}{ρ:Ac}{a b e:Expr}{f g:Ac->M D}{fn:Ac->M OT}{pos:Pos}{es:List Expr}
def AV (h:DE X WX true e f):DN X WX e (λ ρ=>(f ρ).bind sQ):=by
 obtain⟨t,h1,h2⟩:=h;refine⟨t,h1,λ P0 P σ H Q ρ E g=>h2 P0 P σ H Q ρ E ?_⟩;dsimp only at g;cases q:f ρ with
 |bad|ex x=>rw[q] at g;exact g
 |ok d=>rw[q] at g;exact λ v H' s hv=>g v [] H' s (λ a ha=>by cases ha) yS (.sh (by rw[Uo];exact hv))
def Ag (h:DN X WX e fn):DE X WX c e (λ ρ=>(fn ρ).bind kI):=by
 suffices z:DE X WX true e (λ ρ=>(fn ρ).bind kI) by
  cases c with
  |true=>exact z
  |false=>exact KH z
 obtain⟨t,h1,h2⟩:=h;refine⟨t,h1,λ P0 P σ H Q ρ E g=>h2 P0 P σ H Q ρ E ?_⟩;dsimp only at g;cases q:fn ρ with
 |bad|ex x=>rw[q] at g;exact g
 |ok d =>
  rw[q] at g;exact λ v fp H' s hn nd o=>g v H' s (o.has Gy λ a ha z=>(E.BX a z).no (hn a ha))
def CP:sP X WX [] (λ _=>.ok []):=⟨_,Cp,λ P0 P σ H Q ρ E h=>h [] [] H (Ae.refl H) (λ a ha=>by cases ha) yS .nil,λ ρ ds h=>by cases h;rfl⟩
def Jl {es:List Expr}{fs:Ac->M (List OT)}(he:DN X WX e fn)(hr:sP X WX es fs)(hs: ~~~(starEach (e::es) X.env=(false,eval e X.env)::starEach es X.env)):
 sP X WX (e::es) (λ ρ=>(fn ρ).bind λ d=>(fs ρ).bind λ ds=>.ok (d::ds)):=by
 obtain⟨te,e1,e2⟩:=he;obtain⟨tr,r1,r2,r3⟩:=hr;refine⟨_,Bf e1 r1 hs,λ P0 P σ H Q ρ E h=>?_,λ ρ ds h=>?_⟩
 rotate_left
 ·dsimp only at h;cases q:fn ρ with
  |bad|ex x=>rw[q] at h;cases h
  |ok x =>
   rw[q] at h;cases q2:fs ρ with
   |bad|ex x=>rw[q2] at h;cases h
   |ok xs =>
    rw[q2] at h;cases h;rw[zk,zk,r3 ρ xs q2]
 dsimp only at h;refine e2 P0 P σ H _ ρ E ?_;cases q:fn ρ with
 |bad|ex x=>rw[q] at h;exact h
 |ok x =>
  rw[q] at h;intro v fp H1 s1 n1 cv o1;have E1:Al X.K P0 (PU P fp) H1 σ ρ:=E.more s1 Gy (Fl (E.same s1).BX o1) (C6 s1 n1);refine r2 P0 (PU P fp) σ H1 _ ρ E1 ?_;cases q2:fs ρ with
  |bad=>rw[q2] at h;exact h
  |ex y=>rw[q2] at h;exact λ H' s=>h H' (s1.trans s)
  |ok ds =>
   rw[q2] at h;intro vs fq H2 s2 n2 aT o2;have dj:∀a∈fp,a∉fq:=λ a ha hb=>(o1.BX a ha).no (n2 a hb);have eP:PU (PU P fp) fq=PU P (fp++fq):=by
    funext a;simp only[PU,zy,or_assoc]
   have sm:Ae (del H1 (PU P fp)) (del H2 (PU P (fp++fq))):=by rw[<-eP];exact C6 s2 n2
   refine h _ (fp++fq) H2 (s1.trans s2) (λ a ha=>?_) (z8.mpr ⟨cv,aT,λ a ha b hb z=>dj a ha (by rw[z];exact hb)⟩) (.cons (o1.move sm λ a ha=>?_) (by rw[<-eP];exact o2))
   ·rcases zy.mp ha with ha|ha
    ·exact n1 a ha
    ·exact EZ s1 (n2 a ha)
   ·obtain⟨o,z,_⟩:=o1.BX a ha;rw[z];exact s2 _ _ z
def nO {P:Addr->Prop}{fp:List Addr}{p:Addr}{H:Hp}{o:HO}(hn:H p=none)(hP:∀a,PU P fp a->Dq H a):Ae (del H (PU P fp)) (del (upd H p o) (PU P (p::fp))):=λ b u e=>by
 obtain⟨h1,h2⟩:=Ak e;have hb:b≠p:=Ax h2 hn;rw[As λ z=>z.elim (λ z=>h1 (.inl z)) λ w=>(zq.mp w).elim hb λ w=>h1 (.inr w),Ai hb];exact h2
def Fm {fs:Ac->M (List OT)}(ha:sP X WX es fs)(hz:es.length<=1000:=by decide):DN X WX (.List es pos) (λ ρ=>(fs ρ).bind λ ts=>.ok (.lst ts)):=by
 obtain⟨ta,a1,a2,a3⟩:=ha;refine⟨_,Q7 a1,λ P0 P σ H Q ρ E h=>?_⟩;dsimp only at h;refine a2 P0 P σ H _ ρ E ?_;cases q:fs ρ with
 |bad|ex y=>rw[q] at h;exact h
 |ok ts =>
  rw[q] at h;simp only[M.A9] at h;intro vs fp H1 s1 n1 cv o1;have hP:=Vy (E.same s1).BX o1;refine⟨yN (AJ (by rw[o1.len,a3 ρ ts q];exact hz)),λ p hp=>?_⟩;have ae:∀a∈fp,a≠p:=λ a ha z=>(o1.BX a ha).no (by rw[z];exact hp);exact h _ (p::fp) _ (s1.trans (AS hp _)) (λ a ha=>(zq.mp ha).elim (λ z=>by rw[z];exact EZ s1 hp) (n1 a)) (zU.mpr ⟨λ z=>ae p z rfl,cv⟩) (.lst Aq (o1.move (nO hp hP) λ a ha=>Ai (ae a ha)))
def gH {P:Addr->Prop}{fp:List Addr}{p:Addr}{H:Hp}{o:HO}(hn:H p=none)(hP:∀a,PU P fp a->Dq H a):Ae (del H (PU P fp)) (del (upd H p o) (PU P fp)):=λ b u e=>by
 obtain⟨h1,h2⟩:=Ak e;have hb:b≠p:=Ax h2 hn;rw[As h1,Ai hb];exact h2
def Zd {fs:Ac->M (List OT)}{x1}(ha:sP X WX es fs)(hz:es.length<=1000:=by decide):DN X WX (.Tuple es x1 pos) (λ ρ=>(fs ρ).bind λ ts=>.ok (.tup ts)):=by
 obtain⟨ta,a1,a2,a3⟩:=ha;refine⟨_,Yk a1,λ P0 P σ H Q ρ E h=>?_⟩;dsimp only at h;refine a2 P0 P σ H _ ρ E ?_;cases q:fs ρ with
 |bad|ex y=>rw[q] at h;exact h
 |ok ts =>
  rw[q] at h;simp only[M.A9] at h;intro vs fp H1 s1 n1 cv o1;have hP:=Vy (E.same s1).BX o1;refine⟨yN (AJ (by rw[o1.len,a3 ρ ts q];exact hz)),λ p hp=>?_⟩;have ae:∀a∈fp,a≠p:=λ a ha z=>(o1.BX a ha).no (by rw[z];exact hp);refine h _ fp _ (s1.trans (AS hp _)) n1 cv (.tup ?_ (o1.move (gH hp hP) λ a ha=>Ai (ae a ha)));rw[As λ z=>(hP p z).no hp];exact Aq
def Ah.ows {K:za}{H:Hp}{P:Addr->Prop}:∀ {xs:List V}{ds:List D},Ah K (del H P) xs ds->AD K H P xs (ds.map .sh) []:=by
 intro _ _ x_;cases x_ with
 |nil=>exact .nil
 |cons h t=>exact .cons (.sh h) t.ows
def WZ.KQ {K:za}{WX:Str->Hp->Prop}{P:Addr->Prop}{H H1:Hp}{Q:VK}{xs:List V}{ds:List D}(h:WZ K WX P H Q (.ok (.lst (ds.map .sh))))(s1:Ae H H1)(hx:Ah K (del H1 P) xs ds):∀p,H1 p=none->Q (.ref p) (upd H1 p (.lst xs)):=λ p hp=>by
 have hn:∀a∈[p],H1 a=none:=λ a ha=>by rw[zi.mp ha];exact hp
 exact h _ [p] _ (s1.trans (AS hp _)) (λ a ha=>EZ s1 (hn a ha)) (by simp) (.lst Aq (hx.mono (C6 (AS hp _) hn)).ows)
def AD.nQ {K:za}{H:Hp}{P:Addr->Prop}:∀ {xs:List V}{ds:List D}{fp:List Addr},AD K H P xs (ds.map .sh) fp->fp=[]/\Ah K (del H P) xs ds
 |_,[],_,.nil=>⟨rfl,.nil⟩
 |_,d::ds,_,.cons (.sh h) r=>by
  obtain⟨rfl,q⟩:=AD.nQ r;exact⟨rfl,.cons h q⟩
abbrev Jm:Cl->Cl
 | .val d=>.val d
 | .own ds=>.val (.lst ds)
 | .ow (.rows C5)=>.val (.lst (C5.map D.lst))
 | .ow (.Ia _ ds)=>.val (.lst ds)
 | .ow (.tree _ t)=>.val (er t)
abbrev Ew (ρ:Ac):Ac:=ρ.map λ o=>o.map Jm
@[simp] theorem Jn:Ew []=[]:=rfl
@[simp] theorem Hw (ρ:Ac):Ew (none::ρ)=none::Ew ρ:=rfl
@[simp] theorem Hx (c:Cl) (ρ:Ac):Ew (some c::ρ)=some (Jm c)::Ew ρ:=rfl
def Al.low {K:za}{P0:Es}{P:Addr->Prop}{H:Hp}{σ:St}{ρ:Ac}(E:Al K P0 P H σ ρ):Al K P0 P0 H σ (Ew ρ):=by
 have key:∀(i:Nat) (c:Cl),(Ew ρ)[i]?=some (some c)->∃c',ρ[i]?=some (some c')/\c=Jm c':=λ i c h=>by
  unfold Ew at h;rw[z5] at h;cases q:ρ[i]? with
  |none=>rw[q] at h;cases h
  |some o =>
   rw[q] at h;cases o with
   |none=>cases h
   |some c'=>cases h;exact⟨c',rfl,rfl⟩
 have nj:∀c,HY (Jm c)=false:=λ c=>by
  cases c with
  |val d|own ds=>rfl
  |ow o=>cases o<;>rfl
 have i5:∀c,OY (Jm c)=none:=λ c=>by
  cases c with
  |val d|own ds=>rfl
  |ow o=>cases o<;>rfl
 have u4:∀c v fp,¬ Dk K H P0 (Jm c) v fp:=λ c v fp h=>by
  cases c with
  |val d|own ds=>exact h
  |ow o=>cases o<;>exact h
 refine⟨λ _ h=>h,λ a h=>E.BX a (E.sub a h),λ i d h=>?_,λ i c h io=>?_,λ i j c c' v v' fp ag hi hj si sj h h' ae=>?_,by unfold Ew;rw[zc];exact E.len,λ i c n h hp=>by obtain⟨c',h1,rfl⟩:=key i _ h;rw[i5] at hp;cases hp⟩
 ·obtain⟨c,h1,h2⟩:=key i _ h;cases c with
  |val d' =>
   cases h2;obtain⟨v,q1,q2⟩:=E.val i d h1;exact⟨v,q1,q2.mono (CN E.sub)⟩
  |own ds =>
   cases h2;obtain⟨p,xs,q1,q2,q3,q4,q5⟩:=E.own i ds h1;exact⟨_,q1,.lst (.of (show del H P0 p=_ by rw[As q4];exact q2)) (q5.mono (CN E.sub))⟩
  |ow o =>
   obtain⟨v,fp,q1,q2,q3,q4⟩:=E.ows i _ h1 rfl;cases o with
   |rows C5 =>
    cases h2;obtain⟨p,ps,rfl,rfl,q5,q6⟩:=q2;exact⟨_,q1,.lst (.of (show del H P0 p=_ by rw[As (q3 p zd).2];exact q5)) (q6.nG E.sub λ a ha=>(q3 a (ze _ ha)).2)⟩
   |Ia p ds =>
    cases h2;obtain⟨p,xs,rfl,rfl,q5,q6⟩:=q2;exact⟨_,q1,.lst (.of (show del H P0 p=_ by rw[As (q3 p zd).2];exact q5)) (q6.mono (CN E.sub))⟩
   |tree p t =>
    cases h2;exact⟨_,q1,C8.has E.sub (λ a ha=>(q3 a ha).2) q2⟩
 ·obtain⟨c',h1,rfl⟩:=key i _ h;rw[nj] at io;cases io
 ·obtain⟨c1,h1,rfl⟩:=key i _ hi;exact (u4 _ _ _ h).elim
def nR {c:Bool}(h:DE X WX c e f):DE X WX false e (λ ρ=>f (Ew ρ)):=by
 obtain⟨t,h1,h2⟩:=h;refine⟨t,h1,λ P0 P σ H Q ρ E g=>h2 P0 P0 σ H Q (Ew ρ) E.low ?_⟩;have e:Lv c P0 P0=P0:=by cases c<;>rfl
 rw[e];exact g
def IJ {ft:Ac->M Bool}(h:DT X WX e ft):DT X WX e (λ ρ=>ft (Ew ρ)):=by
 obtain⟨t,h1,h2⟩:=h;exact⟨t,h1,λ P0 P σ H Q ρ E g=>h2 P0 P0 σ H Q (Ew ρ) E.low g⟩
mutual
noncomputable def Gz:OT->Bool
 | .sh d=>Ji d
 | .lst ts| .tup ts| .Bn _ _ ts| .ins _ _ ts=>FX ts
noncomputable def FX:List OT->Bool
 |[]=>true
 |t::r=>Gz t&&FX r
end
mutual
theorem C8.clean {K:za}{H:Hp}{P P':Addr->Prop}(ht:∀a,P' a->Dq H a):∀ {v:V}{t:OT}{fp:List Addr},Gz t=true->C8 K H P v t fp->C8 K H P' v t fp:=by
 intro _ _ _ n x_;cases x_ with
 |sh h=>exact .sh (h.Ji ht (by rw[Gz] at n;exact n))
 |lst h r=>exact .lst h (AD.clean ht (by rw[Gz] at n;exact n) r)
 |tup h r=>exact .tup (Vu ht h) (AD.clean ht (by rw[Gz] at n;exact n) r)
 |dK h r=>exact .dK h (AD.clean ht (by rw[Gz] at n;exact n) r)
 |dT h r=>exact .dT h (AD.clean ht (by rw[Gz] at n;exact n) r)
 |ins x h r=>exact .ins x h (AD.clean ht (by rw[Gz] at n;exact n) r)
theorem AD.clean {K:za}{H:Hp}{P P':Addr->Prop}(ht:∀a,P' a->Dq H a):∀ {v:List V}{t:List OT}{fp:List Addr},FX t=true->AD K H P v t fp->AD K H P' v t fp:=by
 intro _ _ _ n x_;cases x_ with
 |nil=>exact .nil
 |cons h r =>
  rw[FX,zG] at n;exact .cons (C8.clean ht n.1 h) (AD.clean ht n.2 r)
end
abbrev TH (m:M OT):M OT:=m.bind λ t=>if Gz t=true then .ok t else .bad
def E9 (h:DN X WX e fn):DN X WX e (λ ρ=>TH (fn (Ew ρ))):=by
 obtain⟨t,h1,h2⟩:=h;refine⟨t,h1,λ P0 P σ H Q ρ E g=>h2 P0 P0 σ H Q (Ew ρ) E.low ?_⟩;unfold TH at g;dsimp only at g;cases q:fn (Ew ρ) with
 |bad|ex x=>rw[q] at g;exact g
 |ok t =>
  rw[q] at g;simp only[M.A9] at g;by_cases hf:Gz t=true
  ·rw[if_pos hf] at g;exact λ v fp H' s hn nd o=>g v fp H' s hn nd (o.clean (Fl (E.same s).BX o) hf)
  ·rw[if_neg hf] at g;exact g.elim
abbrev KQ (d:D):M OT:=match d with
 | .lst ds| .tup ds=>.ok (.lst (ds.map .sh))
 |_=>.bad
def Hy {p:Pos}(hg:Gl X "list")(hm:X.mg "list" = none)(ha:DE X WX true e f)(hb:bootBuiltins "list" = some (.type "list"):=by decide +kernel)(aL: ~~~(starEach [e] X.env=[(false,eval e X.env)])):
 DN X WX (.Call (.Name "list" p) [e] [] pos) (λ ρ=>(f ρ).bind KQ):=by
 obtain⟨ta,a1,a2⟩:=ha;refine⟨_,OO Qe hg hm hb (Bf a1 Cp aL) (he:=aL),λ P0 P σ H Q ρ E h=>?_⟩;dsimp only at h;refine a2 P0 P σ H _ ρ E ?_;refine YH h λ d h=>?_;intro v H1 s1 hv;unfold KQ at h;split at h
 ·cases hv with
  |lst hs hh=>exact⟨_,_,rfl,.inl hs.B5,h.KQ s1 hh⟩
 ·cases hv with
  |tup hs hh=>exact⟨_,_,rfl,.inr (Fd.of (Ak hs).2),h.KQ s1 hh⟩
 ·exact h.elim
abbrev xE (K:za)(WX:Str->Hp->Prop)(r:R2)(aP:D->D->M OT):Prop:=
 ∀(P:Addr->Prop) (H:Hp) (x y:D) (v w:V) (Q:VK),(∀a,P a->Dq H a)->BV K (del H P) v x->BV K (del H P) w y->WZ K WX P H Q (aP x y)->r v w H Q
def sR {ta tb:TE}{r:R2}{aP:D->D->M OT}(ha:∀P0 P σ H Q ρ,Al X.K P0 P H σ ρ->gV X.K WX (Lv true P0 P) H Q (f ρ)->ta σ H Q)(hb:∀P0 P σ H Q ρ,Al X.K P0 P H σ ρ->gV X.K WX (Lv true P0 P) H Q (g ρ)->tb σ H Q)
 (hr:xE X.K WX r aP) {Q:VK} (E:Al X.K P0 P H σ ρ) (h:WZ X.K WX P H Q ((f ρ).bind λ x=>(g ρ).bind λ y=>aP x y)):pQ r ta tb σ H Q:=by
 refine ha P0 P σ H _ ρ E ?_;cases e:f ρ with
 |bad|ex x=>rw[e] at h;exact h
 |ok x =>
  rw[e] at h;intro v H1 s1 hv;refine hb P0 P σ H1 _ ρ (E.same s1) ?_;cases e2:g ρ with
  |bad=>rw[e2] at h;exact h
  |ex y=>rw[e2] at h;exact λ H' s=>h H' (s1.trans s)
  |ok y =>
   rw[e2] at h;intro w H2 s2 hw;exact hr _ H2 x y v w Q ((E.same s1).same s2).BX (hv.mono s2.del) hw ((h.same s1).same s2)
abbrev Sd (x y:D):M OT:=match x,y with
 | .lst a,.lst b=>if a.length+b.length<=1000 then .ok (.lst ((a++b).map .sh)) else .bad
 |_,_=>.bad
end
abbrev spT (K:za)(n:Nat)(F:List D->M OT):Sp:=λ vs H Q E=>vs.length=n/\∃P ds,(∀a,P a->Dq H a)/\Ah K (del H P) vs ds/\WZ K (CB K E) P H Q (F ds)
abbrev sS:Cl->M OT
 | .val d=>.ok (.sh d)
 | .own ds=>.ok (.lst (ds.map .sh))
 | .ow (.rows C5)=>.ok (.lst (C5.map λ ds=>.lst (ds.map .sh)))
 | .ow (.Ia _ _)=>.bad
 | .ow (.tree none t)=>.ok t
 | .ow (.tree (some _) _)=>.bad
abbrev Ze (m:M Out):M OT:=match m with
 | .ok (.ret d)=>.ok (.sh d)
 | .ok (.Cv c)=>sS c
 | .ok (.next _)=>.ok (.sh .AK)
 | .ex x=>.ex x
 |_=>.bad
def BE.ows {K:za}{H:Hp}{P:Addr->Prop}:∀ {ps:List Addr}{C5:List (List D)},BE K H P ps C5->AD K H P (ps.map V.ref) (C5.map λ ds=>.lst (ds.map .sh)) ps:=by
 intro _ _ x_;cases x_ with
 |nil=>exact .nil
 |cons h r t=>exact .cons (.lst h r.ows) t.ows
def Dk.tree {K:za}{H:Hp}{P:Addr->Prop}{c:Cl}{v:V}{fp:List Addr}{t:OT}(h:Dk K H P c v fp)(e:sS c=.ok t):C8 K H P v t fp:=by
 cases c with
 |val d=>exact h.elim
 |own ds =>
  cases e;obtain⟨p,xs,rfl,rfl,h1,h2⟩:=h;exact .lst h1 h2.ows
 |ow o =>
  cases o with
  |rows C5 =>
   cases e;obtain⟨p,ps,rfl,rfl,h1,h2⟩:=h;exact .lst h1 h2.ows
  |Ia p ds=>cases e
  |tree p t' =>
   cases p with
   |none=>cases e;exact h
   |some q=>cases e
section
variable {P:Program}{w:World}{K:za}{mg:Str->Option Value}{base:Heap}
def gI {WX:Str->Hp->Prop}{P P2:Addr->Prop}{H H':Hp}{Q:VK}{c:Cl}{v:V}{fp:List Addr}(h:WZ K WX P H Q (sS c))(t:Tr P P H P2 H')(hs:∀a,P a->P2 a)(ho:Dk K H' P2 c v fp)(hp:∀a∈fp,P2 a/\¬ P a)(nd:fp.Nodup):Q v H':=by
 cases q:sS c with
 |bad=>rw[q] at h;exact h.elim
 |ex x=>cases c with
  |val d|own ds=>cases q
  |ow o =>
   cases o with
   |rows C5|Ia p ds=>cases q
   |tree p t'=>cases p<;>cases q
 |ok u =>
  rw[q] at h;have o:=ho.tree q;refine h v fp H' (Dz t) (λ a ha=>nM t (hp a ha).1 (hp a ha).2) nd (o.move (CN λ a ha=>ha.elim (hs a) λ z=>(hp a z).1) λ _ _=>rfl)
def sT {x qual:Str}{st:Stmt}{f:Addr}{fd:FuncData}{N ps:List Str}{k:Nat}(F:XX K x qual st f fd)(S:Ad N ps (A5 st))(g:Ac->M Out)
 (hb:∀(B4:Value) (A:Around) (outer:List Env) (s:Shared) (H:Hp) (E:XK),Bu k (A.deeper (envOfC qual (A5 st) s.heap.objs.size f B4))->S4 (kF P w K mg base N qual (A5 st) f B4 A outer s H E) (CB K E) (AN st) g):
 Di P w K mg base (Ui P w base) (k+1) f fd ps (spT K ps.length λ ds=>Ze (g (AE N ds))):=by
 obtain⟨oc,od,kV,doc,pm,an,B4,ct,TF,rfl,lk,aZ⟩:=F.ex;refine Va lk aZ S (λ vs H Q E h=>h.1) λ A outer s H vs Q E hr h=>?_;obtain⟨hl,P',ds,ht,hv,hq⟩:=h;obtain⟨t,h1,h2⟩:=hb B4 A outer s H E hr;refine⟨t,h1,h2 ⟨P',λ _=>0⟩ P' _ H _ _ (P7 ht hv) ?_⟩;dsimp only at hq;revert hq;cases g (AE N ds) with
 |bad=>exact λ h=>h.elim
 |ex x=>exact λ h H' P2 t=>h H' (Dz t)
 |ok o =>
  cases o with
  |ret d=>exact λ h v H' P2 t hv=>h v [] H' (Dz t) (λ a ha=>by cases ha) yS (.sh (by rw[Uo];exact hv))
  |next ρ=>exact λ h σ' H' P2 t E=>h .AK [] H' (Dz t) (λ a ha=>by cases ha) yS (.sh .AK)
  |brk ρ|cont ρ=>exact λ h=>h.elim
  |Cv c=>exact λ h v fp H' P2 t hs ht ho hp nd=>gI h t hs ho hp nd
  |E5 d ρ=>exact λ h=>h.elim
end
structure BG (P:Program)(w:World)(K:za)(mg:Str->Option Value)(base:Heap)(x:Str)(k n:Nat)(F:List D->M OT):Prop where
 ex:∃fa fd ps,Di P w K mg base (Ui P w base) k fa fd ps (spT K n F)/\mg x=some (.ref fa)/\zV K (.ref fa)=true/\Binds K fd ps []
def Ay {P:Program}{w:World}{K:za}{mg:Str->Option Value}{base:Heap}{x:Str}{st:Stmt}{N ps:List Str}{k n:Nat}(T:AG K mg x st ps)(S:Ad N ps (A5 st))(g:Ac->M Out)(hb:∀(f:Addr) (B4:Value) (A:Around) (outer:List Env) (s:Shared) (H:Hp) (E:XK),Bu k (A.deeper (envOfC x (A5 st) s.heap.objs.size f B4))->S4 (kF P w K mg base N x (A5 st) f B4 A outer s H E) (CB K E) (AN st) g)(hn: ~~~(ps.length=n)):
 BG P w K mg base x (k+1) n (λ ds=>Ze (g (AE N ds))):=by
 obtain⟨f,fd,F,hm,hB⟩:=T.ex;subst hn;exact⟨⟨f,fd,ps,sT F S g (hb f),hm,F.kp,hB⟩⟩
section
variable {X:Cx}{E:XK}{WX:Str->Hp->Prop}{c:Bool}{e:Expr}{es:List Expr}{fs:Ac->M (List D)}{f:Ac->M D}{fn:Ac->M OT}{ft:Ac->M Bool}{pos:Pos}
def Aa {k n:Nat}{F:List D->M OT}{x:Str}{p:Pos}(xo:EW X E)(G:BG X.prog X.w X.K X.mg X.base x k n F)(hr:Bu k X.A)(hg:Gl X x)(ha:DA X (CB X.K E) true (e::es) fs)(hn:(e::es).length=n)(aN:(x==("__debug__" : Str))=false:=by decide)(he: ~~~(starEach (e::es) X.env=(false,eval e X.env)::starEach es X.env))(aq: ~~~((backTo pos (starEach es X.env)).any (·.1)=false)):
 DN X (CB X.K E) (.Call (.Name x p) (e::es) [] pos) (λ ρ=>(fs ρ).bind F):=by
 obtain⟨fa,fd,ps,hF,hm,hk,hb⟩:=G.ex;obtain⟨ta,a1,a2,a3⟩:=ha;refine⟨_,Q9 hF hr hg hm hk hb .nil xo.call a1 aN he aq,λ P0 P σ H Q ρ E h=>?_⟩;dsimp only at h;refine a2 P0 P σ H _ ρ E ?_;cases q:fs ρ with
 |bad|ex x=>rw[q] at h;exact h
 |ok ds =>
  rw[q] at h;simp only[M.A9] at h;intro vs H1 s1 ay;rw[zF];exact⟨by rw[ay.length,a3 ρ ds q];exact hn,P,ds,(E.same s1).BX,ay,h.same s1⟩
def Bq (h:DN X WX e fn):DN X (λ _ _=>False) e fn:=by
 obtain⟨t,h1,h2⟩:=h;refine⟨t,h1,λ P0 P σ H Q ρ E g=>h2 P0 P σ H Q ρ E ?_⟩;cases q:fn ρ with
 |bad=>rw[q] at g;exact g
 |ex x=>rw[q] at g;exact (g H (Ae.refl H)).elim
 |ok t=>rw[q] at g;exact g
abbrev Zf (t:OT):M Out:=match t with
 | .sh d=>.ok (.ret d)
 |t=>.ok (.Cv (.ow (.tree none t)))
end
section
variable {X:Cx}{WX:Str->Hp->Prop}{c:Bool}{P0:Es}{P:Addr->Prop}{H:Hp}{σ:St}{ρ:Ac}{a b e:Expr}{f g:Ac->M D}{fn:Ac->M OT}{pos:Pos}
def Al.Zg {K:za}{H':Hp}{fp:List Addr}(E:Al K P0 P H σ ρ)(s:Ae H H')(hn:∀a∈fp,H a=none):Tr P0 P H (PU P fp) H':=
 ⟨C6 s hn,λ a ha=>by obtain⟨o,q,_⟩:=E.BX a (E.sub a ha);rw[q];exact s _ _ q⟩
def Am (ha:DN X WX e fn):DS X WX (.Return (some e) pos) (λ ρ=>(fn ρ).bind Zf):=by
 obtain⟨ta,a1,a2⟩:=ha;refine⟨_,Q4 a1,λ P0 P σ H Z ρ E h=>?_⟩;dsimp only at h;refine a2 P0 P σ H _ ρ E ?_;refine WL h E λ t h=>?_;intro v fp H' s hn nd o;have key:gS X.K WX P0 P H Z (.ok (.Cv (.ow (.tree none t))))->Z.rt v H':=λ h =>
  h v fp H' (PU P fp) (E.Zg s hn) (λ a ha=>.inl (E.sub a ha)) (Fl (E.same s).BX o) o (λ a ha=>⟨.inr ha,λ z=>(E.BX a (E.sub a z)).no (hn a ha)⟩) nd
 cases t with
 |sh d =>
  cases o with
  |sh hv=>exact h v H' P (E.tr s) (hv.mono (CN λ a ha=>.inl (E.sub a ha)))
 |lst ts|tup ts|Bn b ks ts|ins x ns ts=>exact key h
abbrev Dx:List OT->Option (List D)
 |[]=>some []
 | .sh d::r=>(Dx r).map (d::·)
 |_::_=>none
def CL:∀ds:List D,Dx (ds.map .sh)=some ds
 |[]=>rfl
 |d::r=>by rw[zf,Dx,CL r];rfl
def CC:∀ {ts:List OT}{ds:List D},Dx ts=some ds->ts=ds.map .sh
 |[],ds,h=>by cases h;rfl
 | .sh d::r,ds,h=>by
  rw[Dx] at h;cases q:Dx r with
  |none=>rw[q] at h;cases h
  |some es=>rw[q] at h;cases h;rw[zf,<-CC q]
 | .lst _::r,ds,h| .tup _::r,ds,h| .Bn _ _ _::r,ds,h| .ins _ _ _::r,ds,h=>by cases h
abbrev toCl (p:Option Nat)(t:OT):Cl:=match t with
 | .lst ts=>(match Dx ts with
  |some ds=>(match p with|none=>.own ds|some q=>.ow (.Ia q ds))
  |none=>.ow (.tree p (.lst ts)))
 |t=>.ow (.tree p t)
@[simp] theorem toCl_list (ds:List D):toCl none (.lst (ds.map .sh))=.own ds:=by unfold toCl;simp only[CL]
@[simp] theorem toCl_listP (q:Nat) (ds:List D):toCl (some q) (.lst (ds.map .sh))=.ow (.Ia q ds):=by unfold toCl;simp only[CL]
@[simp] theorem toCl_dct (p:Option Nat) (b:Bool) (ks:List D) (ts:List OT):toCl p (.Bn b ks ts)=.ow (.tree p (.Bn b ks ts)):=rfl
abbrev treeOf:Cl->Option (Option Nat×OT)
 | .own ds=>some (none,.lst (ds.map .sh))
 | .ow (.Ia p ds)=>some (some p,.lst (ds.map .sh))
 | .ow (.rows C5)=>some (none,.lst (C5.map λ ds=>.lst (ds.map .sh)))
 | .ow (.tree p t)=>some (p,t)
 | .val _=>none
def Dk.toT {K:za}{H:Hp}{P:Addr->Prop}{c:Cl}{v:V}{fp:List Addr}{p:Option Nat}{t:OT}(h:Dk K H P c v fp)(e:treeOf c=some (p,t)):C8 K H P v t fp:=by
 cases c with
 |val d=>exact h.elim
 |own ds =>
  cases e;obtain⟨p,xs,rfl,rfl,h1,h2⟩:=h;exact .lst h1 h2.ows
 |ow o =>
  cases o with
  |rows C5 =>
   cases e;obtain⟨p,ps,rfl,rfl,h1,h2⟩:=h;exact .lst h1 h2.ows
  |Ia p ds =>
   cases e;obtain⟨p,xs,rfl,rfl,h1,h2⟩:=h;exact .lst h1 h2.ows
  |tree p t'=>cases e;exact h
def Dk.toCl {K:za}{H:Hp}{P:Addr->Prop}{v:V}{fp:List Addr}{p:Option Nat}{t:OT}(h:C8 K H P v t fp):Dk K H P (toCl p t) v fp:=by
 unfold L2.toCl;split
 ·rename_i ts;cases q:Dx ts with
  |none=>exact h
  |some ds =>
   have e:=CC q;subst e;cases h with
   |lst h1 h2 =>
    obtain⟨rfl,h3⟩:=h2.nQ;cases p with
    |none|some q=>exact⟨_,_,rfl,rfl,h1,h3⟩
 ·exact h
def IK (p:Option Nat)(t:OT):OY (toCl p t)=p:=by
 unfold toCl;split
 ·rename_i ts;cases q:Dx ts with
  |none|some ds=>cases p<;>rfl
 ·cases p<;>rfl
def IL {c:Cl}{p:Option Nat}{t:OT}(h:treeOf c=some (p,t)):OY c=p:=by
 cases c with
 |val d=>cases h
 |own ds=>cases h;rfl
 |ow o =>
  cases o with
  |rows C5|Ia p ds=>cases h;rfl
  |tree p t=>cases h;cases p<;>rfl
abbrev Se (i:Nat)(ρ:Ac)(t:OT):M Out:=match t with
 | .sh d=>.ok (.next (ρ.set i (some (.val d))))
 |t=>.ok (.next (ρ.set i (some (toCl none t))))
def kJ {K:za}{i:Nat}{t:OT}{v:V}{fp:List Addr}{H':Hp}{Z:Ends}(E:Al K P0 P H σ ρ)(s:Ae H H')(hn:∀a∈fp,H a=none)(nd:fp.Nodup)(o:C8 K H' (PU P fp) v t fp)(h:gS K WX P0 P H Z (Se i ρ t)):Z.nx (σ.set i (some v)) H':=by
 have key:gS K WX P0 P H Z (.ok (.next (ρ.set i (some (toCl none t)))))->Z.nx (σ.set i (some v)) H':=λ h=>by
  refine h _ H' (PU P fp) (E.Zg s hn) (E.WK Gy (Fl (E.same s).BX o) (C6 s hn) (λ j c' v' ag ae g1 g2 g3 a ha=>?_) (Dk.toCl o) (λ a ha=>⟨.inr ha,λ z=>(E.BX a (E.sub a z)).no (hn a ha)⟩) nd (λ n z=>by rw[IK] at z;cases z));obtain⟨xs,z⟩:=g3.at a ha;exact⟨by rw[z];exact s _ _ z,λ w=>by rw[hn a w] at z;cases z⟩
 cases t with
 |sh d =>
  cases o with
  |sh hv=>exact h _ H' P (E.tr s) ((E.same s).WJ (by rw[Uo] at hv;exact hv))
 |lst ts|tup ts|Bn b ks ts|ins x ns ts=>exact key h
def Bw (i:Nat){x:Str}{pos':Pos}(hN:X.N.Nodup)(hi:X.N[i]?=some x)(hx:Loc X.env.scope x)(ha:DN X WX e fn)(hs: ~~~(swapsWith e (some (.Name x pos')) pos.line X.env=pure false))(hf:X.fn x=true\/X.env.scope.names.lookup x=some .local:=by first | exact .inl rfl | exact .inr rfl | assumption):
 DS X WX (.Assign [.Name x pos'] e pos) (λ ρ=>(fn ρ).bind (Se i ρ)):=by
 obtain⟨ta,a1,a2⟩:=ha;refine⟨_,TU hN hi hx a1 hs hf,λ P0 P σ H Z ρ E h=>?_⟩;dsimp only at h;refine a2 P0 P σ H _ ρ E ?_;cases q:fn ρ with
 |bad=>rw[q] at h;exact h
 |ex x=>rw[q] at h;exact λ H' s=>h H' P (E.tr s)
 |ok t =>
  rw[q] at h;exact λ v fp H' s hn nd o=>kJ E s hn nd o h
abbrev Up (i:Nat)(ρ:Ac):M Out:=match ρ[i]? with
 |some (some (.val d))=>.ok (.ret d)
 |some (some c)=>.ok (.Cv c)
 |_=>.bad
def Ck (i:Nat){x:Str}{p1:Pos}(hv:PE X (.Name x p1) (Kw i)):DS X WX (.Return (some (.Name x p1)) pos) (Up i):=by
 refine⟨_,Q4 hv,λ P0 P σ H Z ρ E h=>?_⟩;unfold Up at h;split at h
 ·rename_i d e1;obtain⟨v,h1,h2⟩:=E.val i d e1;exact⟨v,h1,h v H P Tr.refl (h2.mono (CN E.sub))⟩
 ·rename_i c hc e1;have io:HY c=true:=by
   cases c with
   |val d=>exact (hc d rfl).elim
   |own ds|ow o=>rfl
  obtain⟨v,fp,h1,h2,h3,h4⟩:=E.ows i _ e1 io;exact⟨v,h1,h v fp H P Tr.refl E.sub E.BX h2 h3 h4⟩
 ·exact h.elim
def IM:∀ds:List D,OX (ds.map .sh)=ds
 |[]=>rfl
 |d::r=>by rw[zf,OX,er,IM r]
def X0 {c:Cl}{p:Option Nat}{t:OT}(e:treeOf c=some (p,t)):Jm c=.val (er t):=by
 cases c with
 |val d=>cases e
 |own ds=>cases e;rw[er,IM];rfl
 |ow o =>
  cases o with
  |rows C5 =>
   cases e;rw[er,Qk,yK];have:(er ∘ λ ds:List D=>OT.lst (ds.map .sh))=D.lst:=by funext ds;rw[Function.comp,er,IM]
   rw[this];rfl
  |Ia p ds=>cases e;rw[er,IM];rfl
  |tree p t'=>cases e;rfl
abbrev Zh (i:Nat)(ρ:Ac):Ac:=match ρ[i]? with
 |some (some c)=>ρ.set i (some (Jm c))
 |_=>ρ
end
section
variable {K:za}{H H':Hp}{P P':Addr->Prop}
def CK.same {v:V}{t:OT}{q:List Addr}{xs:List V}(e:Ae H H')(h:CK K H P v t q xs):CK K H' P v t q xs:=by
 cases t with
 |sh d=>exact h.elim
 |lst ts=>obtain⟨p,rfl,rfl,h⟩:=h;exact⟨p,rfl,rfl,e _ _ h⟩
 |tup ts=>obtain⟨p,rfl,rfl,h⟩:=h;exact⟨p,rfl,rfl,e.del _ _ h⟩
 |Bn b ks ts =>
  cases b with
  |false|true=>obtain⟨p,kvs,rfl,rfl,h,rfl,rfl⟩:=h;exact⟨p,kvs,rfl,rfl,e _ _ h,rfl,rfl⟩
 |ins x ns ts=>obtain⟨p,C,dx,fs,rfl,rfl,n,h,rfl,rfl⟩:=h;exact⟨p,C,dx,fs,rfl,rfl,n,e _ _ h,rfl,rfl⟩
def Jk.same {v v1:V}{t t1:OT}{π:List Nat}(e:Ae H H')(h:Jk K H P v t π v1 t1):Jk K H' P v t π v1 t1:=by
 induction h with
 |nil=>exact .nil
 |cons n hx hs _ ih=>exact .cons (n.same e) hx hs ih
def CK.more {v:V}{t:OT}{q:List Addr}{xs:List V}(sm:Ae (del H P) (del H' P'))(e:Ae H H')(h:CK K H P v t q xs):CK K H' P' v t q xs:=by
 cases t with
 |sh d=>exact h.elim
 |lst ts=>obtain⟨p,rfl,rfl,h⟩:=h;exact⟨p,rfl,rfl,e _ _ h⟩
 |tup ts=>obtain⟨p,rfl,rfl,h⟩:=h;exact⟨p,rfl,rfl,sm _ _ h⟩
 |Bn b ks ts =>
  cases b with
  |false|true=>obtain⟨p,kvs,rfl,rfl,h,rfl,rfl⟩:=h;exact⟨p,kvs,rfl,rfl,e _ _ h,rfl,rfl⟩
 |ins x ns ts=>obtain⟨p,C,dx,fs,rfl,rfl,n,h,rfl,rfl⟩:=h;exact⟨p,C,dx,fs,rfl,rfl,n,e _ _ h,rfl,rfl⟩
def Jk.more {v v1:V}{t t1:OT}{π:List Nat}(sm:Ae (del H P) (del H' P'))(e:Ae H H')(h:Jk K H P v t π v1 t1):Jk K H' P' v t π v1 t1:=by
 induction h with
 |nil=>exact .nil
 |cons n hx hs _ ih=>exact .cons (n.more sm e) hx hs ih
end
abbrev TJ (i:Nat)(ρ:Ac)(π:List Nat):Option OT:=match ρ[i]? with
 |some (some c)=>(match treeOf c with|some (_,t)=>KO t π|none=>none)
 |_=>none
structure Bg (K:za)(P:Addr->Prop)(H:Hp)(σ:St)(ρ:Ac)(i:Nat)(π:List Nat)(v:V)(t1:OT):Prop where
 ex:∃v0 c p t,ρ[i]?=some (some c)/\treeOf c=some (p,t)/\σ[i]?=some (some v0)/\Jk K H P v0 t π v t1
def Bg.at {K:za}{P:Addr->Prop}{H:Hp}{σ:St}{ρ:Ac}{i:Nat}{π:List Nat}{v:V}{t1:OT}(h:Bg K P H σ ρ i π v t1):TJ i ρ π=some t1:=by
 obtain⟨v0,c,p,t,h1,h2,h3,h4⟩:=h.ex;unfold TJ;simp only[h1,h2];exact h4.sub
def Bg.same {K:za}{P:Addr->Prop}{H H':Hp}{σ:St}{ρ:Ac}{i:Nat}{π:List Nat}{v:V}{t1:OT}(e:Ae H H')(h:Bg K P H σ ρ i π v t1):Bg K P H' σ ρ i π v t1:=by
 obtain⟨v0,c,p,t,h1,h2,h3,h4⟩:=h.ex;exact⟨v0,c,p,t,h1,h2,h3,h4.same e⟩
def Bg.more {K:za}{P P':Addr->Prop}{H H':Hp}{σ:St}{ρ:Ac}{i:Nat}{π:List Nat}{v:V}{t1:OT}(sm:Ae (del H P) (del H' P'))(e:Ae H H')(h:Bg K P H σ ρ i π v t1):Bg K P' H' σ ρ i π v t1:=by
 obtain⟨v0,c,p,t,h1,h2,h3,h4⟩:=h.ex;exact⟨v0,c,p,t,h1,h2,h3,h4.more sm e⟩
def Bg.own {K:za}{P0:Es}{P:Addr->Prop}{H:Hp}{σ:St}{ρ:Ac}{i:Nat}{π:List Nat}{v:V}{t1:OT}(h:Bg K P H σ ρ i π v t1)(E:Al K P0 P H σ ρ):∃az,C8 K H P v t1 az/\(∀a∈az,P a/\¬ P0 a)/\az.Nodup:=by
 obtain⟨v0,c,p,t,h1,h2,h3,h4⟩:=h.ex;have io:HY c=true:=by cases c<;>first|rfl|cases h2
 obtain⟨w,fp,k1,k2,k3,k4⟩:=E.ows i c h1 io;rw[h3] at k1;cases k1;obtain⟨az,o1,hk,kn⟩:=(k2.toT h2).part h4;exact⟨az,o1,λ a ha=>k3 a (hk a ha),kn k4⟩
abbrev gP (K:za)(WX:Str->Hp->Prop)(P:Addr->Prop)(H:Hp)(σ:St)(ρ:Ac)(i:Nat)(Q:VK):M (List Nat)->Prop
 | .ok π=>∀v t1 H',Ae H H'->Bg K P H' σ ρ i π v t1->Q v H'
 | .ex x=>∀H',Ae H H'->WX x H'
 | .bad=>False
abbrev DP (X:Cx)(WX:Str->Hp->Prop)(e:Expr)(i:Nat)(f:Ac->M (List Nat)):Prop:=
 ∃t,PE X e t/\∀P0 P σ H Q ρ,Al X.K P0 P H σ ρ->gP X.K WX P H σ ρ i Q (f ρ)->t σ H Q
section
variable {X:Cx}{WX:Str->Hp->Prop}{c:Bool}{P0:Es}{P:Addr->Prop}{H:Hp}{σ:St}{ρ:Ac}{a b e:Expr}{f g:Ac->M D}{fn:Ac->M OT}{fp:Ac->M (List Nat)}{pos:Pos}{i:Nat}
abbrev Oh (i:Nat)(ρ:Ac):M (List Nat):=match TJ i ρ [] with | some _=>.ok [] | none=>.bad
def BJ (i:Nat){x:Str}{p1:Pos}(hv:PE X (.Name x p1) (Kw i)):DP X WX (.Name x p1) i (Oh i):=by
 refine⟨_,hv,λ P0 P σ H Q ρ E h=>?_⟩;unfold Oh at h;split at h
 ·rename_i t e;unfold TJ at e;split at e
  ·rename_i cl e1;split at e
   ·rename_i p t0 e2;have io:HY cl=true:=by cases cl<;>first|rfl|cases e2
    obtain⟨v,fp,h1,h2,h3,h4⟩:=E.ows i cl e1 io;exact⟨v,h1,h v t0 H (Ae.refl H) ⟨v,cl,p,t0,e1,e2,h1,.nil⟩⟩
   ·cases e
  ·cases e
 ·exact h.elim
abbrev wC (i:Nat)(ρ:Ac)(π:List Nat):M D:=match TJ i ρ π with
 |some (.sh d)=>.ok d
 |_=>.bad
def Al.sU {K:za}{P':Addr->Prop}{H':Hp}{π:List Nat}{v1:V}{t1 u:OT}{az fu:List Addr}(E:Al K P0 P H σ ρ)(pl:Bg K P H σ ρ i π v1 t1)(o:C8 K H P v1 t1 az)(hs:∀a,P a->P' a)(ht:∀a,P' a->Dq H' a)(sm:Ae (del H P) (del H' P'))(keep:∀a,P a->a∉az->H' a=H a)
 (o':C8 K H' P' v1 u fu) (nd:fu.Nodup) (hf:∀a∈fu,a∈az\/(P' a/\¬ P0 a/\∀(j:Nat) c v fp,ρ[j]?=some (some c)->σ[j]?=some (some v)->Dk K H P c v fp->a∉fp)):
 ∃c p t,ρ[i]?=some (some c)/\treeOf c=some (p,t)/\Al K P0 P' H' σ (ρ.set i (some (toCl p (EI t π u))))/\Tr P0 P H P' H':=by
 obtain⟨v0,c,p,t,h1,h2,h3,h4⟩:=pl.ex;have io:HY c=true:=by cases c<;>first|rfl|cases h2
 obtain⟨w,fp,k1,k2,k3,k4⟩:=E.ows i c h1 io;rw[h3] at k1;cases k1;have ot:=k2.toT h2;obtain⟨fz,oz,kz,_⟩:=ot.part h4;have:=oz.Ci o;subst this;obtain⟨ag,q1,q2,q3⟩:=ot.put sm h4 o o' (λ a ha hn=>keep a (k3 a ha).1 hn) k4 nd (λ a ha hb=>(hf a ha).elim id λ z=>(z.2.2 i c v0 fp h1 h3 k2 hb).elim);refine⟨c,p,t,h1,h2,?_,sm,λ a ha=>keep a (E.sub a ha) λ z=>(k3 a (kz a z)).2 ha⟩;have key:=E.WK (P':=P') (H':=H') (i:=i) (v:=v0) (c:=toCl p (EI t π u)) (fp:=ag) hs ht sm (λ j c' v' fq ae g1 g2 g3 a ha=>?_) (Dk.toCl q1) (λ a ha=>?_) q2 (λ n z=>by rw[IK] at z;subst z;have:=E.pin i c n h1 (IL h2);rw[h3] at this;cases this;rfl)
 ·rw[KJ h3] at key;exact key
 ·have nk:a∉fp:=E.apart j i c' c v' v0 fq fp g1 h1 g2 h3 g3 k2 (zY ae) a ha;have i6:HY c'=true:=by cases c'<;>first|rfl|exact g3.elim
  obtain⟨w',fr,m1,m2,m3,m4⟩:=E.ows j c' g1 i6;rw[g2] at m1;cases m1;have:=m2.Ci g3;subst this;refine⟨keep a (m3 a ha).1 λ z=>nk (kz a z),λ z=>?_⟩;rcases q3 a z with y|y
  ·rcases hf a y with x|x
   ·exact nk (kz a x)
   ·exact x.2.2 j c' v' fr g1 g2 g3 ha
  ·exact nk y.1
 ·rcases q3 a ha with y|y
  ·rcases hf a y with x|x
   ·exact⟨hs a (k3 a (kz a x)).1,(k3 a (kz a x)).2⟩
   ·exact⟨x.1,x.2.1⟩
  ·exact⟨hs a (k3 a y.1).1,(k3 a y.1).2⟩
def Al.nS {K:za}{π:List Nat}{l:Addr}{xs ys:List V}{ts us:List OT}{fq fu:List Addr}(E:Al K P0 P H σ ρ)(pl:Bg K P H σ ρ i π (.ref l) (.lst ts))(hH:H l=some (.lst xs))(o:AD K H P xs ts fq)(o':AD K H P ys us fu)(nd:fu.Nodup)(hl:l∉fu)
 (hf:∀a∈fu,a∈fq\/(P a/\¬ P0 a/\∀(j:Nat) c v fp,ρ[j]?=some (some c)->σ[j]?=some (some v)->Dk K H P c v fp->a∉fp)):
 ∃c p t,ρ[i]?=some (some c)/\treeOf c=some (p,t)/\Al K P0 P (upd H l (.lst ys)) σ (ρ.set i (some (toCl p (EI t π (.lst us)))))/\Tr P0 P H P (upd H l (.lst ys)):=by
 have ot:C8 K H P (.ref l) (.lst ts) (l::fq):=.lst hH o;obtain⟨az,o1,hp,_⟩:=pl.own E;have:=o1.Ci ot;subst this;have pP:P l:=(hp l zd).1;have sd:del (upd H l (.lst ys)) P=del H P:=by
  funext b;by_cases hb:P b
  ·rw[D4 hb,D4 hb]
  ·rw[As hb,As hb,Ai (λ z=>hb (by rw[z];exact pP))]
 have sm:Ae (del H P) (del (upd H l (.lst ys)) P):=by rw[sd];exact Ae.refl _
 refine E.sU pl ot (λ _ h=>h) (λ a h=>?_) sm (λ a ha hn=>Ai λ z=>hn (by rw[z];exact zd)) (.lst Aq (o'.move sm λ a ha=>Ai λ z=>hl (by rw[<-z];exact ha))) (zU.mpr ⟨hl,nd⟩) (λ a ha=>?_)
 ·by_cases ha:a=l
  ·subst ha;exact Dq.lst Aq
  ·unfold Dq;rw[Ai ha];exact E.BX a h
 ·rcases zq.mp ha with z|z
  ·exact .inl (by rw[z];exact zd)
  ·rcases hf a z with y|y
   ·exact .inl (ze _ y)
   ·exact .inr y
end
abbrev kd:D->Option Key
 | .int i=>some (.inl i)
 | .str x=>some (.inr x)
 |_=>none
abbrev pU:List D->Option (List Key)
 |[]=>some []
 |d::r=>match kd d,pU r with|some k,some ks=>some (k::ks)|_,_=>none
def kK {d:D}{k:Key}(h:kd d=some k):d=Dj k:=by
 cases d<;>simp[kd] at h<;>subst h<;>rfl
def Zi:∀ {ds:List D}{ks:List Key},pU ds=some ks->ds=ks.map Dj
 |[],ks,h=>by cases h;rfl
 |d::r,ks,h=>by
  rw[pU] at h;cases q:kd d with
  |none=>rw[q] at h;cases h
  |some k =>
   cases q2:pU r with
   |none=>rw[q,q2] at h;cases h
   |some u5 =>
    rw[q,q2] at h;cases h;rw[zf,<-kK q,<-Zi q2]
inductive gJ:Bool->D->Prop
 |k (κ:Key):gJ false (Dj κ)
 |t (κ:List Key):gJ true (.tup (κ.map Dj))
abbrev keyOk (b:Bool)(d:D):Bool:=match b,d with
 |false,d=>(kd d).isSome
 |true,.tup ds=>(pU ds).isSome
 |_,_=>false
def F0 {b:Bool}{d:D}(h:keyOk b d=true):gJ b d:=by
 cases b with
 |false =>
  obtain⟨k,hk⟩:=zb2.mp (show (kd d).isSome=true from h);rw[kK hk];exact .k k
 |true =>
  cases d with
  |tup ds =>
   obtain⟨k,hk⟩:=zb2.mp (show (pU ds).isSome=true from h);rw[Zi hk];exact .t k
  |_=>cases h
def N2 (a b:Key):Ba (Dj a) (Dj b)=decide (a=b):=by
 cases a with
 |inl i =>
  cases b with
  |inl j=>simp only[Dj,Ba];rw[zah];simp
  |inr y=>simp[Dj,Ba]
 |inr x =>
  cases b with
  |inl j=>simp[Dj,Ba]
  |inr y=>simp only[Dj,Ba];rw[zah];simp
def M4:∀a b:List Key,Cq (a.map Dj) (b.map Dj)=decide (a=b)
 |[],[]|[],_::_|_::_,[]=>by simp[Cq]
 |a::r,b::t=>by
  rw[zf,zf,Cq,N2,M4 r t,zah];simp
abbrev G6 {α:Type}:List D->List α->D->Option α
 |k::ks,v::vs,y=>if Ba k y=true then some v else G6 ks vs y
 |_,_,_=>none
abbrev IQ {α:Type}:List D->List α->D->α->List α
 |k::ks,v::vs,y,z=>(if Ba k y=true then z else v)::IQ ks vs y z
 |_,vs,_,_=>vs
abbrev LS (ks:List D)(y:D):Bool:=ks.any λ k=>Ba k y
section
variable {κ:Type} [DecidableEq κ] {fk:κ->D}(hf:∀a b,Ba (fk a) (fk b)=decide (a=b))
include hf
def N3 {α:Type}:∀(kvs:List (κ×α)) (k:κ),G6 (kvs.map λ kv=>fk kv.1) (kvs.map yT) (fk k)=(kvs.find? λ kv=>decide (kv.1=k)).map (·.2)
 |[],k=>rfl
 |p::r,k=>by
  rw[zf,zf,G6,hf,zat];by_cases e:p.1=k
  ·rw[decide_eq_true e];rfl
  ·rw[decide_eq_false e];simp only[zC,if_false];exact N3 r k
def N4 {α:Type}(kvs:List (κ×α))(k:κ):LS (kvs.map λ kv=>fk kv.1) (fk k)=kvs.any λ kv=>decide (kv.1=k):=by
 unfold LS;rw[List.any_map];congr 1;funext kv;exact hf _ _
def Jo (k:κ)(v:V):∀(kvs:List (κ×V)),IQ (kvs.map λ kv=>fk kv.1) (kvs.map yT) (fk k) v=(kvs.map λ kv=>if kv.1=k then (kv.1,v) else kv).map yT
 |[]=>rfl
 |p::r=>by
  rw[zf,zf,IQ,hf,zf,zf,Jo k v r];by_cases e:p.1=k
  ·rw[decide_eq_true e,if_pos e];rfl
  ·rw[decide_eq_false e,if_neg e];rfl
def Jp (k:κ)(v:V):∀(kvs:List (κ×V)),(kvs.map λ kv=>if kv.1=k then (kv.1,v) else kv).map (λ kv=>fk kv.1)=kvs.map λ kv=>fk kv.1
 |[]=>rfl
 |p::r=>by
  rw[zf,zf,zf,Jp k v r];by_cases e:p.1=k
  ·rw[if_pos e]
  ·rw[if_neg e]
end
def N5 {K:za}{H:Hp}:∀ {ks:List D}{xs:List V}{ds:List D}{y d:D},Ah K H xs ds->G6 ks ds y=some d->∃x,G6 ks xs y=some x/\BV K H x d
 |[],_,_,_,_,_,e|_::_,_,_,_,_,.nil,e=>by simp[G6] at e
 |k::ks,_,_,y,d,.cons h t,e=>by
  rw[G6] at e ⊢;by_cases q:Ba k y=true
  ·rw[if_pos q] at e ⊢;cases e;exact⟨_,rfl,h⟩
  ·rw[if_neg q] at e ⊢;exact N5 t e
def Hz {α:Type}:∀ {ks:List D}{xs:List α}{y:D},xs.length=ks.length->LS ks y=(G6 ks xs y).isSome
 |[],[],y,_=>rfl
 |k::ks,x::xs,y,h=>by
  unfold LS;rw[yV,G6];cases q:Ba k y with
  |true=>rfl
  |false =>
   simp only[Bool.false_or,zC,if_false];exact Hz (by simpa using h)
 |[],_::_,_,h|_::_,[],_,h=>by cases h
def Jq {K:za}{H:Hp}{P:Addr->Prop}{y d:D}{v:V}(hv:BV K (del H P) v d):∀ {ks:List D}{xs:List V}{ds:List D},Ah K (del H P) xs ds->Ah K (del H P) (IQ ks xs y v) (IQ ks ds y d)
 |[],_,_,h=>by simp only[IQ];exact h
 |_::_,_,_,.nil=>by simp only[IQ];exact .nil
 |k::ks,_,_,.cons h t=>by
  rw[IQ,IQ];refine .cons ?_ (Jq hv t);by_cases q:Ba k y=true
  ·rw[if_pos q,if_pos q];exact hv
  ·rw[if_neg q,if_neg q];exact h
section
variable {K:za}{H:Hp}{P:Addr->Prop}
def Ah.keys:∀ {xs:List V}(κ:List Key),Ah K H xs (κ.map Dj)->xs=κ.map kV
 |_,[],.nil=>rfl
 |_,k::r,.cons h t=>by
  rw[zf,<-Ah.keys r t];congr 1;cases k with
  |inl i=>exact h.int_inv
  |inr x=>cases h;rfl
def BV.nT {y:V}{κ:Key}(h:BV K H y (Dj κ)):y=kV κ:=by
 cases κ with
 |inl i=>exact h.int_inv
 |inr x=>cases h;rfl
def Qs {v y:V}{b:Bool}{ks vs:List D}{k:D}(hv:BV K (del H P) v (.Bn b ks vs))(hy:BV K (del H P) y k)(hk:gJ b k):∃a xs,v=.ref a/\Qf H a y (G6 ks xs k)/\Ah K (del H P) xs vs/\xs.length=ks.length:=by
 cases hv with
 |Vi hh hl =>
  cases hk with
  |k κ =>
   refine⟨_,_,rfl,?_,hl,by simp⟩;rw[hy.nT,N3 N2];exact .inl ⟨_,κ,hh.B5,rfl,rfl⟩
 |Vj hh hl =>
  cases hk with
  |t κ =>
   cases hy with
   |tup ht aH =>
    have e:=Ah.keys κ aH;subst e;refine⟨_,_,rfl,?_,hl,by simp⟩;rw[N3 (fk:=λ κ:List Key=>D.tup (κ.map Dj)) (λ a b=>by simp only[Ba];exact M4 a b)];exact .inr ⟨_,κ,_,hh.B5,rfl,(Ak ht).2,rfl⟩
end
section
variable {X:Cx}{WX:Str->Hp->Prop}{c:Bool}{P0:Es}{P:Addr->Prop}{H:Hp}{σ:St}{ρ:Ac}{a b e:Expr}{f g:Ac->M D}{fn:Ac->M OT}{fp:Ac->M (List Nat)}{pos:Pos}{i:Nat}
abbrev sV:R2:=λ x y H Q=>∃a v,x=.ref a/\Qf H a y (some v)/\Q v H
def gK (hu:X.A.units+1<cLine):eV X sV:=by
 intro value slice pins s σ H x y v u Q I rx ry h hs;obtain⟨a,z,rfl,g,q⟩:=h;cases rx;have hT:=RU I g;have h₂:wpAny (model X.prog X.w) X.A (getItem (.ref a) u) (EP X pins σ Q) X.xe s:=WA hu I g ry λ w' s3 I3 bc=>⟨z,H,I3,bc,q⟩;unfold subscriptTail;refine wpAny_bind ?_;rw[getitemInPython_of_ne hT.not_modules];refine wpAny_bind (wpAny_specialOf hT PySem.F.slot_dict_getitem.lookup ?_);have fin:wpAny (model X.prog X.w) X.A (subscripted slice false (.ref a) u) (λ r s₃=>wpAny (model X.prog X.w) X.A (letTemporaryGo value (.ref a) r >>= λ _=>pure r) (EP X pins σ Q) X.xe s₃) X.xe s:=by
  rw[hs];exact wpAny_operating (wpAny_mono h₂ (λ r s₃ h₃=>wpAny_bind (wpAny_letTemporaryGo (wpAny_pure h₃))) λ _ _ x=>x)
 first
  |exact wpAny_pure (wpAny_bind fin)
  |exact wpAny_bind (wpAny_pure (wpAny_bind fin))
  |exact wpAny_bind fin
abbrev AX (x y:D):M D:=match x with
 | .Bn b ks vs=>if keyOk b y=true then (match G6 ks vs y with|some d=>.ok d|none=>.bad) else .bad
 |x=>fO x y
def gL:Uc X.K WX (λ x y H Q=>(mL X.K x y H Q\/mM X.K x y H Q)\/sV x y H Q) AX:=by
 intro P H x y v w Q ht hx hy h;cases x with
 |Bn b ks vs =>
  simp only[AX] at h;by_cases hk:keyOk b y=true
  ·rw[if_pos hk] at h;obtain⟨a,xs,rfl,g,hl,_⟩:=Qs hx hy (F0 hk);split at h
   ·rename_i d e;obtain⟨u,e1,e2⟩:=N5 hl e;rw[e1] at g;exact .inr ⟨a,u,rfl,g,h _ H (Ae.refl H) e2⟩
   ·exact h.elim
  ·rw[if_neg hk] at h;exact h.elim
 |AK|bl b|int b|str b|tup b|lst b|ET b|ins b _ _=>exact .inl (Gq P H _ y v w Q ht hx hy h)
def Ab {n:Nat}(hu:X.A.units+n<cLine)(ha:DE X WX c a f)(hb:DE X WX c b g)(hs:Ho b:=by exact λ _ _=>rfl)(hn:1<=n:=by decide):DE X WX c (.Subscript a b pos) (λ ρ=>(f ρ).bind λ x=>(g ρ).bind λ y=>AX x y):=sA ((LX.or mN).or (gK (by omega))) gL ha hb hs
abbrev nU (neg:Bool):R2:=λ y x H Q=>∃a o,x=.ref a/\Qf H a y o/\Q (.bl (if neg=true then !o.isSome else o.isSome)) H
def Uq (hu:X.A.units+1<cLine):Gb X (compareOp .In) (nU false):=by
 intro pins s σ H x y v u Q I rx ry h;obtain⟨a,o,rfl,g,q⟩:=h;cases ry;exact vV hu I g rx λ s3 I3=>⟨.bl o.isSome,H,I3,rfl,q⟩
def Oi (hu:X.A.units+1<cLine):Gb X (compareOp .NotIn) (nU true):=by
 intro pins s σ H x y v u Q I rx ry h;obtain⟨a,o,rfl,g,q⟩:=h;cases ry;exact fB hu I g rx λ s3 I3=>⟨.bl (!o.isSome),H,I3,rfl,q⟩
abbrev Jr (neg:Bool)(y x:D):M D:=match x with
 | .Bn b ks vs=>if keyOk b y=true then .ok (.bl (if neg=true then !LS ks y else LS ks y)) else .bad
 |x=>uC neg y x
def Vz {neg:Bool}:Uc X.K WX (λ x y H Q=>tZ X.K neg x y H Q\/nU neg x y H Q) (Jr neg):=by
 intro P H x y v w Q ht hx hy h;cases y with
 |Bn b ks vs =>
  simp only[Jr] at h;by_cases hk:keyOk b x=true
  ·rw[if_pos hk] at h;obtain⟨a,xs,rfl,g,hl,hn⟩:=Qs hy hx (F0 hk);rw[Hz (xs:=xs) hn] at h;exact .inr ⟨a,_,rfl,g,h _ H (Ae.refl H) (.bl _)⟩
  ·rw[if_neg hk] at h;exact h.elim
 |AK|bl b|int b|str b|tup b|lst b|ET b|ins b _ _=>exact .inl (Gv P H x _ v w Q ht hx hy h)
def N6 {n:Nat}(hu:X.A.units+n<cLine)(ha:DE X WX c a f)(hb:DE X WX c b g)(hm: ~~~(behindInMarks .In b=false))(hn:1<=n:=by decide):DT X WX (.Compare a [.In] [b] pos) (λ ρ=>((f ρ).bind λ x=>(g ρ).bind λ y=>Jr false x y).bind Og):=Ez (Wv.or (Uq (by omega))) Vz ha hb hm
def M5 {n:Nat}(hu:X.A.units+n<cLine)(ha:DE X WX c a f)(hb:DE X WX c b g)(hm: ~~~(behindInMarks .NotIn b=false))(hn:1<=n:=by decide):DT X WX (.Compare a [.NotIn] [b] pos) (λ ρ=>((f ρ).bind λ x=>(g ρ).bind λ y=>Jr true x y).bind Og):=Ez (Qc.or (Oi (by omega))) Vz ha hb hm
abbrev DB:D->M Bool
 | .AK=>.ok false
 | .bl b=>.ok b
 | .int i=>.ok (i != 0)
 | .tup ds| .lst ds=>.ok (!ds.isEmpty)
 |_=>.bad
def Js {K:za}{H:Hp}{xs:List V}{ds:List D}(h:Ah K H xs ds):(!ds.isEmpty) = !xs.isEmpty:=by cases h<;>rfl
def Bc (h:DE X WX c e f)(he:∀whole,isTrue e X.env whole=(do let v <-whole;standAt e.pos;holding [v] (truthy v)):=by intro _;rfl):DT X WX e (λ ρ=>(f ρ).bind DB):=by
 obtain⟨t,h1,h2⟩:=h;refine⟨_,Yh h1 he,λ P0 P σ H Q ρ E h=>h2 P0 P σ H _ ρ E ?_⟩;dsimp only at h;refine YH h λ d h=>?_;intro v H' s hv;cases hv with
 |AK=>exact⟨false,rfl,h H' s⟩
 |bl b=>exact⟨b,rfl,h H' s⟩
 |int i=>exact⟨_,rfl,h H' s⟩
 |tup hs hl=>exact⟨_,.inr (.inl ⟨_,Fd.of (Ak hs).2,rfl⟩),by rw[<-Js hl];exact h H' s⟩
 |lst hs hl=>exact⟨_,.inl ⟨_,hs.B5,rfl⟩,by rw[<-Js hl];exact h H' s⟩
 |_=>exact h.elim
end
abbrev Jt (m:M (List D)):M OT:=match m with | .ok ys=>.ok (.lst (ys.map .sh)) | _=>.bad
section
variable {X:Cx}{WX:Str->Hp->Prop}{c:Bool}{P0:Es}{P:Addr->Prop}{H:Hp}{σ:St}{ρ:Ac}{a b e tg iter:Expr}{f g:Ac->M D}{ft:Ac->M Bool}{pos:Pos}{gt:D->Ac->M Ac}{fi:Ac->M (List D)}{es:List Expr}{fs:Ac->M (List D)}
def Zj {μ:List (Option Nat)}{wi:TI}{gg:TG}{tc:Shared->Hp->Addr->List Addr->TT}{te:Shared->Hp->Addr->List Addr->TE}{fe:Ac->M D}
 (i2:∀P0 P σ H R ρ,Al X.K P0 P H σ ρ->(match fi ρ with | .ok ds=>∀J H',Ae H H'->YW X.K J P H' ds->R J H' | .ex x=>∀H',Ae H H'->WX x H' | .bad=>False)->wi σ H R)
 (g2:∀P0 P σ H Q ρ v d,Al X.K P0 P H σ ρ->BV X.K (del H P) v d->gG X.K P0 P H Q (gt d ρ)->gg v σ H Q)
 (t2:∀s H' C ex P0 P σ H Q ρ,Al X.K P0 P H σ ρ->gT (λ _ _=>False) H Q (ft ρ)->tc s H' C ex σ H Q)
 (e2:∀s H' C ex P0 P σ H Q ρ,Al X.K P0 P H σ ρ->gV X.K (λ _ _=>False) (Lv true P0 P) H Q (fe ρ)->te s H' C ex σ H Q) {Q:VK}
 (E:Al X.K P0 P H σ ρ) (h:WZ X.K WX P H Q ((fi ρ).bind λ ds=>if ds.length<=1000 then Jt (Bv gt ft fe ds (BF μ ρ)) else .bad)):Vg wi μ gg tc te σ H Q:=by
 refine i2 P0 P σ H _ ρ E ?_;cases q:fi ρ with
 |bad|ex x=>rw[q] at h;exact h
 |ok ds =>
  rw[q] at h;simp only[M.A9] at h;by_cases hd:¬ ds.length<=1000
  ·rw[if_neg hd] at h;exact h.elim
  have hd:ds.length<=1000:=by omega
  rw[if_pos hd] at h;intro J H1 s1 ok s C ex;cases qc:Bv gt ft fe ds (BF μ ρ) with
  |bad|ex x=>rw[qc] at h;exact h.elim
  |ok total =>
   rw[qc] at h;unfold Jt at h;dsimp only at h;have E1:=E.same s1;refine⟨λ i m ys H2=>m=ds.length-i/\i<=ds.length/\ys.length<=i/\Ae H1 H2/\∃es rest,Ah X.K (del H2 P) ys es/\Bv gt ft fe (ds.drop i) (BF μ ρ)=.ok rest/\es++rest=total,
    ⟨ds.length,by simp,zM _,zv _,Ae.refl _,[],total,.nil,by rw[List.drop_zero];exact qc,rfl⟩,?_⟩
   rintro i m ys H2 ⟨rfl,hi,hy,s2,es,rest,fg,aj,aS⟩;by_cases af:i<ds.length
   ·refine .inr ⟨ok.go i P H2 s2.del af,Nat.lt_of_le_of_lt hy (AJ (by omega)),λ bj H'=>i+1<=ds.length/\bj.length<=i+1/\Ae H1 H'/\∃es rest,Ah X.K (del H' P) bj es/\Bv gt ft fe (ds.drop (i+1)) (BF μ ρ)=.ok rest/\es++rest=total,λ bj H' hq=>⟨ds.length-(i+1),by omega,rfl,hq.1,hq.2.1,hq.2.2.1,hq.2.2.2⟩,λ v H3 y=>?_⟩;have E2:=E1.same s2;obtain⟨s3,hv⟩:=ok.jY i P H2 v H3 ds[i] s2.del E2.BX (zh af) y;rw[EV af,Bv] at aj;have E3:=(E2.same s3).block μ;refine g2 P0 P _ H3 _ (BF μ ρ) v ds[i] E3 hv ?_;cases q1:gt ds[i] (BF μ ρ) with
    |bad|ex x=>rw[q1] at aj;cases aj
    |ok ρ1 =>
     rw[q1] at aj;dsimp only at aj;intro σ4 E4;refine t2 s H1 C ex P0 P σ4 H3 _ ρ1 E4 ?_;cases q2:ft ρ1 with
     |bad|ex x=>rw[q2] at aj;cases aj
     |ok k =>
      rw[q2] at aj;dsimp only at aj;intro H5 s5;cases k with
      |false =>
       simp only[zC,if_false] at aj ⊢;exact⟨af,by omega,(s2.trans s3).trans s5,es,rest,(fg.mono s3.del).mono s5.del,aj,aS⟩
      |true =>
       simp only[if_true] at aj ⊢;refine e2 s H1 C ex P0 P σ4 H5 _ ρ1 (E4.same s5) ?_;cases q3:fe ρ1 with
       |bad|ex x=>rw[q3] at aj;cases aj
       |ok y' =>
        rw[q3] at aj;dsimp only at aj;cases q4:Bv gt ft fe (ds.drop (i+1)) (BF μ ρ) with
        |bad|ex x=>rw[q4] at aj;cases aj
        |ok m9 =>
         rw[q4] at aj;cases aj;intro w H6 s6 hw;refine⟨af,by rw[zB,yP];omega,((s2.trans s3).trans s5).trans s6,es++[y'],m9,(((fg.mono s3.del).mono s5.del).mono s6.del).snoc hw,rfl,?_⟩;rw[zaa];exact aS
   ·have e:i=ds.length:=by omega
    subst e;rw[zam,Bv] at aj;cases aj;rw[zF] at aS;subst aS;exact .inl ⟨ok.stop _ P H2 s2.del (zv _),λ D0 hn=>h.KQ (s1.trans s2) fg D0 hn⟩
def CQ {scope:Scope}{NB:List Str}{ifs:List Expr}{elt:Expr}{fe:Ac->M D}(μ:List (Option Nat))(hc:X.calm=true)(hi:DI X WX tg iter fi)(a9:Gk scope X.env.scope=true)(bu:Qh X.N NB scope μ=true)(hg:sL X scope NB μ tg gt)
 (ht:∀s H C ex,sM (blockOf X s H scope C NB ex) ifs ft) (he:∀s H C ex,DE (blockOf X s H scope C NB ex) (λ _ _=>False) true elt fe) (hs:∀x,foldedSetIterable iter X.env x=pure x:=by intro _;rfl):
 DN X WX (.ListComp elt [⟨tg,iter,ifs,0⟩] scope pos) (λ ρ=>(fi ρ).bind λ ds=>if ds.length<=1000 then Jt (Bv gt ft fe ds (BF μ ρ)) else .bad):=by
 obtain⟨wi,i1,i2⟩:=hi;obtain⟨gg,g1,gk,g2⟩:=hg;refine⟨_,fJ hc i1 a9 bu gk (λ s H C ex=>⟨g1 s H C ex,(zb (ht s H C ex)).1,(zb (he s H C ex)).1⟩) hs,λ P0 P σ H Q ρ E h=>?_⟩;exact Zj i2 g2 (λ s H' C ex P0 P σ H Q ρ E h=>(zb (ht s H' C ex)).2 P0 P σ H Q ρ E h) (λ s H' C ex P0 P σ H Q ρ E h=>(zb (he s H' C ex)).2 P0 P σ H Q ρ E h) E h
def Zk {scope:Scope}{NB:List Str}{ifs:List Expr}{elt:Expr}{fe:Ac->M D}(i:Nat){x:Str}{px ao:Pos}(μ:List (Option Nat))(hN:X.N.Nodup)(iu:X.N[i]?=some x)(hx:Loc X.env.scope x)(hc:X.calm=true)(hi:DI X WX tg iter fi)(a9:Gk scope X.env.scope=true)(bu:Qh X.N NB scope μ=true)(hg:sL X scope NB μ tg gt)(ht:∀s H C ex,sM (blockOf X s H scope C NB ex) ifs ft)(he:∀s H C ex,DE (blockOf X s H scope C NB ex) (λ _ _=>False) true elt fe)(aR: ~~~(swapsWith (.ListComp elt [⟨tg,iter,ifs,0⟩] scope pos) (some (.Name x px)) ao.line X.env=pure true))(hs:∀x,foldedSetIterable iter X.env x=pure x:=by intro _;rfl)(hf:X.fn x=true\/X.env.scope.names.lookup x=some .local:=by first|exact .inl rfl|exact .inr rfl|assumption):
 DS X WX (.Assign [.Name x px] (.ListComp elt [⟨tg,iter,ifs,0⟩] scope pos) ao) (λ ρ=>(TH ((fi (Ew ρ)).bind λ ds=>if ds.length<=1000 then Jt (Bv gt ft fe ds (BF μ (Ew ρ))) else .bad)).bind (Se i ρ)):=by
 obtain⟨wi,i1,i2⟩:=hi;obtain⟨gg,g1,gk,g2⟩:=hg;refine⟨_,Vh hN iu hx hc i1 a9 bu gk (λ s H C ex=>⟨g1 s H C ex,(zb (ht s H C ex)).1,(zb (he s H C ex)).1⟩) aR hs hf,λ P0 P σ H Z ρ E h=>?_⟩;refine Zj (P0:=P0) (P:=P0) i2 g2 (λ s H' C ex P0 P σ H Q ρ E h=>(zb (ht s H' C ex)).2 P0 P σ H Q ρ E h) (λ s H' C ex P0 P σ H Q ρ E h=>(zb (he s H' C ex)).2 P0 P σ H Q ρ E h) E.low ?_;dsimp only at h;revert h;cases ((fi (Ew ρ)).bind λ ds=>if ds.length<=1000 then Jt (Bv gt ft fe ds (BF μ (Ew ρ))) else .bad) with
 |bad=>exact λ h=>h
 |ex y=>exact λ h H' s=>h H' P (E.tr s)
 |ok t =>
  unfold TH;simp only[M.A9];by_cases hf:Gz t=true
  ·rw[if_pos hf];exact λ h v fp H' s hn nd o=>kJ E s hn nd (o.clean (Fl (E.same s).BX o) hf) h
  ·rw[if_neg hf];exact λ h=>h.elim
end
abbrev wD (K:za)(WX:Str->Hp->Prop)(P:Addr->Prop)(p:Addr)(fp:List Addr)(H:Hp)(Q:VK):M (OT×OT)->Prop
 | .ok (t,r)=>∀v H' P' ag fr,(∀a,P a->a∉fp->P' a/\H' a=H a)->(∀a,P' a->Dq H' a)->Ae (del H P) (del H' P')->C8 K H' P' (.ref p) t ag->ag.Nodup->C8 K H' P' v r fr->fr.Nodup->(∀a∈fr,a∉ag)->
  (∀a∈ag,P' a/\(P a->a∈fp))->(∀a∈fr,P' a/\(P a->a∈fp))->Q v H'
 | .ex _| .bad=>False
abbrev N7 (K:za)(n:Nat)(F:OT->List D->M (OT×OT)):Sp:=λ vs H Q E=>vs.length=n/\∃P p t fp rest aw,vs=.ref p::rest/\(∀a,P a->Dq H a)/\(∀a∈fp,P a)/\fp.Nodup/\C8 K H P (.ref p) t fp/\Ah K (del H P) rest aw/\wD K (CB K E) P p fp H Q (F t aw)
abbrev CM (N:List Str)(t:OT)(aw:List D):Ac:=some (toCl (some 0) t)::(aw.map (λ d=>some (.val d))++zt (N.length-(aw.length+1)) none)
abbrev GA (ρ:Ac):Option OT:=match ρ[0]? with
 |some (some c)=>(match treeOf c with|some (some 0,t)=>some t|_=>none)
 |_=>none
abbrev Ea (m:M Out):M (OT×OT):=match m with
 | .ok (.next ρ)=>(match GA ρ with|some t=>.ok (t,.sh .AK)|none=>.bad)
 | .ok (.E5 r ρ)=>(match GA ρ with|some t=>.ok (t,r)|none=>.bad)
 |_=>.bad
def Sf (p:Option Nat)(t:OT):treeOf (toCl p t)=some (p,t):=by
 unfold toCl;split
 ·rename_i ts;cases q:Dx ts with
  |none=>rfl
  |some ds =>
   have e:=CC q;subst e;cases p<;>rfl
 ·rfl
def X1 (p:Option Nat)(t:OT):HY (toCl p t)=true:=by
 unfold toCl;split
 ·rename_i ts;cases q:Dx ts with
  |none=>rfl
  |some ds=>cases p<;>rfl
 ·rfl
def Ju {K:za}{P:Addr->Prop}{H:Hp}{N:List Str}{p:Addr}{t:OT}{fp:List Addr}{rest:List V}{aw:List D}(ht:∀a,P a->Dq H a)(hp:∀a∈fp,P a)(nd:fp.Nodup)(o:C8 K H P (.ref p) t fp)(h:Ah K (del H P) rest aw):
 Al K ⟨λ a=>P a/\a∉fp,λ _=>p⟩ P H (start N (.ref p::rest)) (CM N t aw):=by
 have hl:=h.length;have key:∀(i:Nat) (c:Cl),(aw.map (λ d=>some (Cl.val d))++zt (N.length-(aw.length+1)) none)[i]?=some (some c)->∃d,aw[i]?=some d/\c=.val d:=λ i c e=>by
  by_cases hi:i<aw.length
  ·rw[yJ (by simpa using hi),z5] at e;cases q:aw[i]? with
   |none=>rw[q] at e;cases e
   |some d=>rw[q] at e;cases e;exact⟨d,rfl,rfl⟩
  ·rw[yY (by simpa using hi),za7] at e;split at e<;>cases e
 have qz:(start N (.ref p::rest))[0]?=some (some (.ref p)):=by unfold start;rfl
 refine⟨λ a h=>h.1,ht,λ i d e=>?_,λ i c e io=>?_,λ i j c c' v v' fp ag e1 e2 _ _ o1 o2 ae=>?_,?_,λ i c n e i7=>?_⟩
 rotate_left 4
 ·cases i with
  |zero=>exact qz
  |succ i =>
   obtain⟨d',q,z⟩:=key i _ (by unfold CM at e;simpa using e);cases z;cases i7
 ·cases i with
  |zero =>
   have e':some (toCl (some 0) t)=some (.val d):=by simpa [CM] using e
   have:=X1 (some 0) t;rw[z7 e'] at this;cases this
  |succ i =>
   obtain⟨d',q,z⟩:=key i _ (by unfold CM at e;simpa using e);cases z;obtain⟨v,hv,hd⟩:=h.get q;refine⟨v,?_,hd⟩;unfold start;rw[zf,zb3,zK,yJ (by rw[zc];exact (zx.mp hv).1),z5,hv];rfl
 ·cases i with
  |zero =>
   have e':toCl (some 0) t=c:=by simpa [CM] using e
   subst e';exact⟨_,fp,qz,Dk.toCl o,λ a ha=>⟨hp a ha,λ z=>z.2 ha⟩,nd⟩
  |succ i =>
   obtain⟨d',q,z⟩:=key i _ (by unfold CM at e;simpa using e);cases z;cases io
 ·cases i with
  |zero =>
   cases j with
   |zero=>exact (ae rfl).elim
   |succ j =>
    obtain⟨d',q,z⟩:=key j _ (by unfold CM at e2;simpa using e2);cases z;exact o2.elim
  |succ i =>
   obtain⟨d',q,z⟩:=key i _ (by unfold CM at e1;simpa using e1);cases z;exact o1.elim
 ·unfold start CM;simp[hl]
section
variable {P:Program}{w:World}{K:za}{mg:Str->Option Value}{base:Heap}
def M6 {P0:Es}{P':Addr->Prop}{H':Hp}{σ':St}{ρ:Ac}{t:OT}(E:Al K P0 P' H' σ' ρ)(h:GA ρ=some t):∃c ag,ρ[0]?=some (some c)/\σ'[0]?=some (some (.ref (P0.g 0)))/\Dk K H' P' c (.ref (P0.g 0)) ag/\C8 K H' P' (.ref (P0.g 0)) t ag/\ag.Nodup/\∀a∈ag,P' a/\¬ P0 a:=by
 unfold GA at h;split at h
 ·rename_i c e;split at h
  ·rename_i t' e2;cases h;have io:HY c=true:=by cases c<;>first|rfl|cases e2
   obtain⟨v,fp,k1,k2,k3,k4⟩:=E.ows 0 c e io;have:=E.pin 0 c 0 e (IL e2);rw[k1] at this;cases this;exact⟨c,fp,e,k1,k2,k2.toT e2,k4,k3⟩
  ·cases h
 ·cases h
def nV {x qual:Str}{st:Stmt}{f:Addr}{fd:FuncData}{N ps:List Str}{k:Nat}(F:XX K x qual st f fd)(S:Ad N ps (A5 st))(g:Ac->M Out)
 (hb:∀(B4:Value) (A:Around) (outer:List Env) (s:Shared) (H:Hp) (E:XK),Bu k (A.deeper (envOfC qual (A5 st) s.heap.objs.size f B4))->S4 (kF P w K mg base N qual (A5 st) f B4 A outer s H E) (CB K E) (AN st) g):
 Di P w K mg base (Ui P w base) (k+1) f fd ps (N7 K ps.length λ t aw=>Ea (g (CM N t aw))):=by
 obtain⟨oc,od,kV,doc,pm,an,B4,ct,TF,rfl,lk,aZ⟩:=F.ex;refine Va lk aZ S (λ vs H Q E h=>h.1) λ A outer s H vs Q E hr h=>?_;obtain⟨hl,P',p,t,fp,rest,aw,rfl,ht,hp,nd,ho,hv,hq⟩:=h;obtain⟨tt,h1,h2⟩:=hb B4 A outer s H E hr;refine⟨tt,h1,h2 ⟨λ a=>P' a/\a∉fp,λ _=>p⟩ P' _ H _ _ (Ju ht hp nd ho hv) ?_⟩;dsimp only at hq;revert hq;cases g (CM N t aw) with
 |bad|ex x=>exact λ h=>h.elim
 |ok o =>
  have sub:∀ {P2:Addr->Prop} {H2:Hp} {σ2:St} {ρ:Ac},Al K ⟨λ a=>P' a/\a∉fp,λ _=>p⟩ P2 H2 σ2 ρ->∀a,P2 a/\¬ (P' a/\a∉fp)->P2 a/\(P' a->a∈fp):=λ E a ha=>⟨ha.1,λ z=>zad λ w=>ha.2 ⟨z,w⟩⟩;cases o with
  |ret d|Cv d=>exact λ h=>h.elim
  |next ρ =>
   intro hq σ' H' P2 t2 E2;unfold Ea at hq;dsimp only at hq;split at hq
   ·rename_i t' e;obtain⟨c,ag,k1,k2,k3,k4,k5,k6⟩:=M6 E2 e;exact hq .AK H' P2 ag [] (λ a ha hn=>⟨E2.sub a ⟨ha,hn⟩,t2.2 a ⟨ha,hn⟩⟩) E2.BX t2.1 k4 k5 (.sh .AK) yS (λ a ha=>by cases ha) (λ a ha=>sub E2 a (k6 a ha)) (λ a ha=>by cases ha)
   ·exact hq.elim
  |E5 r ρ =>
   intro hq v fr σ' H' P2 t2 E2 o2 aT hf;unfold Ea at hq;dsimp only at hq;split at hq
   ·rename_i t' e;obtain⟨c,ag,k1,k2,k3,k4,k5,k6⟩:=M6 E2 e;exact hq v H' P2 ag fr (λ a ha hn=>⟨E2.sub a ⟨ha,hn⟩,t2.2 a ⟨ha,hn⟩⟩) E2.BX t2.1 k4 k5 o2 aT (λ a ha=>(hf a ha).2.2 0 c _ ag k1 k2 k3) (λ a ha=>sub E2 a (k6 a ha)) (λ a ha=>sub E2 a ⟨(hf a ha).1,(hf a ha).2.1⟩)
   ·exact hq.elim
  |brk ρ|cont ρ=>exact λ h=>h.elim
end
structure Jv (P:Program)(w:World)(K:za)(mg:Str->Option Value)(base:Heap)(x:Str)(k n:Nat)(F:OT->List D->M (OT×OT)):Prop where
 ex:∃fa fd ps,Di P w K mg base (Ui P w base) k fa fd ps (N7 K n F)/\mg x=some (.ref fa)/\zV K (.ref fa)=true/\Binds K fd ps []
def N8 {P:Program}{w:World}{K:za}{mg:Str->Option Value}{base:Heap}{x:Str}{st:Stmt}{N ps:List Str}{k n:Nat}(T:AG K mg x st ps)(S:Ad N ps (A5 st))(g:Ac->M Out)(hb:∀(f:Addr) (B4:Value) (A:Around) (outer:List Env) (s:Shared) (H:Hp) (E:XK),Bu k (A.deeper (envOfC x (A5 st) s.heap.objs.size f B4))->S4 (kF P w K mg base N x (A5 st) f B4 A outer s H E) (CB K E) (AN st) g)(hn: ~~~(ps.length=n)):
 Jv P w K mg base x (k+1) n (λ t aw=>Ea (g (CM N t aw))):=by
 obtain⟨f,fd,F,hm,hB⟩:=T.ex;subst hn;exact⟨⟨f,fd,ps,nV F S g (hb f),hm,F.kp,hB⟩⟩
section
variable {X:Cx}{WX:Str->Hp->Prop}{c:Bool}{P0:Es}{P:Addr->Prop}{H:Hp}{σ:St}{ρ:Ac}{a b e:Expr}{f g:Ac->M D}{fn:Ac->M OT}{fp:Ac->M (List Nat)}{pos:Pos}{i:Nat}{es:List Expr}{fs:Ac->M (List D)}
def Al.new {K:za}{P':Addr->Prop}{H':Hp}(E:Al K P0 P H σ ρ)(s:Ae H H')(sm:Ae (del H P) (del H' P')){a:Addr}(hn:H a=none):∀(j:Nat) c v fq,ρ[j]?=some (some c)->σ[j]?=some (some v)->Dk K H' P' c v fq->a∉fq:=λ j c v fq h1 h2 h3 ha=>by
 have io:HY c=true:=by cases c<;>first|rfl|exact h3.elim
 obtain⟨w,fr,k1,k2,k3,k4⟩:=E.ows j c h1 io;rw[h2] at k1;cases k1;have m:=k2.move sm λ b hb=>by obtain⟨o,q⟩:=k2.at b hb;rw[q];exact s _ _ q
 rw[h3.Ci m] at ha;obtain⟨o,q⟩:=k2.at a ha;rw[hn] at q;cases q
def Qt (ha:DN X WX e fn):DS X WX (.Return (some e) pos) (λ ρ=>(fn ρ).bind λ t=>.ok (.E5 t ρ)):=by
 obtain⟨ta,a1,a2⟩:=ha;refine⟨_,Q4 a1,λ P0 P σ H Z ρ E h=>?_⟩;dsimp only at h;refine a2 P0 P σ H _ ρ E ?_;refine WL h E λ t h=>?_;intro v fp H' s hn nd o;exact h v fp σ H' (PU P fp) (E.Zg s hn) (E.more s Gy (Fl (E.same s).BX o) (C6 s hn)) o nd λ a ha=>⟨.inr ha,λ z=>(E.BX a (E.sub a z)).no (hn a ha),E.new s (C6 s hn) (hn a ha)⟩
def Al.sW {K:za}{P':Addr->Prop}{H':Hp}{π:List Nat}{v1 v2:V}{t1 u r:OT}{az fu fr:List Addr}(E:Al K P0 P H σ ρ)(pl:Bg K P H σ ρ i π v1 t1)(o:C8 K H P v1 t1 az)(hs:∀a,P a->a∉az->P' a/\H' a=H a)(ht:∀a,P' a->Dq H' a)(sm:Ae (del H P) (del H' P'))
 (o':C8 K H' P' v1 u fu) (nd:fu.Nodup) (hf:∀a∈fu,P' a/\(P a->a∈az)) (or:C8 K H' P' v2 r fr) (yo:fr.Nodup) (hr:∀a∈fr,P' a/\(P a->a∈az)) (dj:∀a∈fr,a∉fu):
 ∃c p t,ρ[i]?=some (some c)/\treeOf c=some (p,t)/\Al K P0 P' H' σ (ρ.set i (some (toCl p (EI t π u))))/\Tr P0 P H P' H'/\
  ∀a∈fr,P' a/\¬ P0 a/\∀(j:Nat) c' v fq,(ρ.set i (some (toCl p (EI t π u))))[j]?=some (some c')->σ[j]?=some (some v)->Dk K H' P' c' v fq->a∉fq:=by
 obtain⟨v0,c,p,t,h1,h2,h3,h4⟩:=pl.ex;have io:HY c=true:=by cases c<;>first|rfl|cases h2
 obtain⟨w,fp,k1,k2,k3,k4⟩:=E.ows i c h1 io;rw[h3] at k1;cases k1;have ot:=k2.toT h2;obtain⟨fz,oz,kz,_⟩:=ot.part h4;have:=oz.Ci o;subst this;obtain⟨ag,q1,q2,q3⟩:=ot.put sm h4 o o' (λ a ha hn=>(hs a (k3 a ha).1 hn).2) k4 nd (λ a ha hb=>(hf a ha).2 (k3 a hb).1);have q0:∀(j:Nat) c' v' fq,i≠j->ρ[j]?=some (some c')->σ[j]?=some (some v')->Dk K H P c' v' fq->∀a∈fq,P a/\a∉fp:=λ j c' v' fq ae g1 g2 g3 a ha=>by
  have i6:HY c'=true:=by cases c'<;>first|rfl|exact g3.elim
  obtain⟨w',np,m1,m2,m3,m4⟩:=E.ows j c' g1 i6;rw[g2] at m1;cases m1;have:=m2.Ci g3;subst this;exact⟨(m3 a ha).1,E.apart j i c' c v' v0 np fp g1 h1 g2 h3 g3 k2 (zY ae) a ha⟩
 have key:=E.sI (P':=P') (H':=H') (i:=i) (v:=v0) (c:=toCl p (EI t π u)) (fp:=ag) (λ a ha=>(hs a (E.sub a ha) λ z=>(k3 a (kz a z)).2 ha).1) ht sm (λ j c' v' fq ae g1 g2 g3 a ha=>?_) (Dk.toCl q1) (λ a ha=>?_) q2 (λ n z=>by rw[IK] at z;subst z;have:=E.pin i c n h1 (IL h2);rw[h3] at this;cases this;rfl)
 ·rw[KJ h3] at key;refine⟨c,p,t,h1,h2,key,⟨sm,λ a ha=>(hs a (E.sub a ha) λ z=>(k3 a (kz a z)).2 ha).2⟩,λ a ha=>⟨(hr a ha).1,λ z=>(k3 a (kz a ((hr a ha).2 (E.sub a z)))).2 z,λ j c' v fq g1 g2 g3 hb=>?_⟩⟩;rcases get_set g1 with ⟨rfl,hl,z⟩|⟨ae,g1⟩
  ·cases z;rw[h3] at g2;cases g2;rw[g3.Ci (Dk.toCl q1)] at hb;rcases q3 a hb with y|y
   ·exact dj a ha y
   ·exact y.2 ((hr a ha).2 (k3 a y.1).1)
  ·have i6:HY c'=true:=by cases c'<;>first|rfl|exact g3.elim
   obtain⟨w',np,m1,m2,m3,m4⟩:=E.ows j c' g1 i6;rw[g2] at m1;cases m1;have o2:=q0 j c' v np ae g1 g2 m2;have mv:=m2.move sm λ b aA=>(hs b (o2 b aA).1 λ z=>(o2 b aA).2 (kz b z)).2;rw[g3.Ci mv] at hb;exact (o2 a hb).2 (kz a ((hr a ha).2 (o2 a hb).1))
 ·have o2:=q0 j c' v' fq ae g1 g2 g3 a ha;have hk:=hs a o2.1 λ z=>o2.2 (kz a z);refine⟨hk.2,λ z=>?_,hk.1⟩;rcases q3 a z with y|y
  ·exact o2.2 (kz a ((hf a y).2 o2.1))
  ·exact o2.2 y.1
 ·rcases q3 a ha with y|y
  ·exact⟨(hf a y).1,λ z=>(k3 a (kz a ((hf a y).2 (E.sub a z)))).2 z⟩
  ·exact⟨(hs a (k3 a y.1).1 y.2).1,(k3 a y.1).2⟩
end
abbrev Fn (i:Nat)(ρ:Ac)(π:List Nat)(u:OT):M Out:=match ρ[i]? with
 |some (some c)=>(match treeOf c with|some (p,t)=>.ok (.next (ρ.set i (some (toCl p (EI t π u)))))|none=>.bad)
 |_=>.bad
abbrev CY (i:Nat)(ρ:Ac)(π:List Nat):M (List OT):=match TJ i ρ π with | some (.lst ts)=>.ok ts | _=>.bad
def Fo {i:Nat}{ρ:Ac}{π:List Nat}{u:OT}{c:Cl}{p:Option Nat}{t:OT}(h:ρ[i]?=some (some c))(ht:treeOf c=some (p,t)):Fn i ρ π u=.ok (.next (ρ.set i (some (toCl p (EI t π u))))):=by
 unfold Fn;simp only[h,ht]
def AD.append {K:za}{H:Hp}{P:Addr->Prop}:∀ {xs ys:List V}{ts us:List OT}{fp fq:List Addr},AD K H P xs ts fp->AD K H P ys us fq->AD K H P (xs++ys) (ts++us) (fp++fq)
 |_,_,_,_,_,_,.nil,h=>h
 |_,_,_,_,_,_,.cons a t,h=>by rw[zaa];exact .cons a (t.append h)
section
variable {X:Cx}{WX:Str->Hp->Prop}{c:Bool}{P0:Es}{P:Addr->Prop}{H:Hp}{σ:St}{ρ:Ac}{a b e:Expr}{f g:Ac->M D}{fn:Ac->M OT}{fp:Ac->M (List Nat)}{pos:Pos}{i:Nat}{es:List Expr}{fs:Ac->M (List D)}
def Bg.lst {K:za}{π:List Nat}{v:V}{t1:OT}{ts:List OT}(pl:Bg K P H σ ρ i π v t1)(E:Al K P0 P H σ ρ)(h:CY i ρ π=.ok ts):t1=.lst ts/\∃l xs fq,v=.ref l/\H l=some (.lst xs)/\AD K H P xs ts fq/\l∉fq/\fq.Nodup:=by
 unfold CY at h;rw[pl.at] at h;split at h
 ·rename_i nq e;cases e;cases h;obtain⟨az,o1,hp,nd⟩:=pl.own E;cases o1 with
  |lst hh hr=>exact⟨rfl,_,_,_,rfl,hh,hr,(zU.mp nd).1,(zU.mp nd).2⟩
 ·cases h
def nW (ha:DP X WX a i fp)(he:DN X WX e fn){apos ad:Pos}(hs: ~~~(starEach [e] X.env=[(false,eval e X.env)]))(aR: ~~~(swapsWith (.Call (.Attribute a "append" apos) [e] [] ad) none pos.line X.env=pure false))(al: ~~~(attributeBase a "append" X.env (eval a X.env)=eval a X.env))(aE: ~~~(((backTo ad (starEach [e] X.env)).all (λ x => !x.1)&&(backToKw ad (keywordEach [] X.env)).all (λ x=>x.1.isSome)&&decide (([e]:List Expr).length+([]:List Keyword).length+(if ([]:List Keyword).isEmpty then 0 else 1)<30))=true))(am: ~~~((apos.endLine==ad.line)=true))(ak: ~~~((backTo ad (starEach [] X.env)).any (·.1)=false)):
 DS X WX (.Expr (.Call (.Attribute a "append" apos) [e] [] ad) pos) (λ ρ=>(fp ρ).bind λ π=>(CY i ρ π).bind λ ts=>(fn ρ).bind λ t=>if ts.length<1000 then Fn i ρ π (.lst (ts++[t])) else .bad):=by
 obtain⟨ta,a1,a2⟩:=ha;obtain⟨te,e1,e2⟩:=he;refine⟨_,Ex (OQ yR PySem.F.slot_list_append PySem.F.type_list_append Kz a1 (Bf e1 Cp hs) al aE am hs ak) aR,λ P0 P σ H Z ρ E h=>?_⟩;dsimp only at h;refine a2 P0 P σ H _ ρ E ?_;refine WL h E λ π h=>?_;intro v t1 H1 s1 pl;have E1:=E.same s1;cases q1:CY i ρ π with
 |bad=>rw[q1] at h;exact h.elim
 |ex x=>unfold CY at q1;split at q1<;>cases q1
 |ok ts =>
  rw[q1] at h;simp only[M.A9] at h;obtain⟨rfl,l,xs,fq,rfl,hl,ol,nl,rb⟩:=pl.lst E1 q1;refine⟨.inl ⟨rfl,xs,.of hl⟩,e2 P0 P σ H1 _ ρ E1 ?_⟩;cases q2:fn ρ with
  |bad=>rw[q2] at h;exact h
  |ex y=>rw[q2] at h;exact λ H' s=>h H' P ((E.tr s1).trans (E1.tr s))
  |ok t =>
   rw[q2] at h;simp only[M.A9] at h;by_cases hz:ts.length<1000
   ·rw[if_pos hz] at h;intro w fw H2 s2 n2 aT o2;have sm:=C6 (P:=P) s2 n2;have E2:Al X.K P0 (PU P fw) H2 σ ρ:=E1.more s2 Gy (Fl (E1.same s2).BX o2) sm;have keep:∀b∈fq,H2 b=H1 b:=λ b hb=>by obtain⟨o,z,_⟩:=ol.BX b hb;rw[z];exact s2 _ _ z
    have dn:=ol.move sm keep;have aH:=s2 _ _ hl;have dj:∀b∈fq,b∉fw:=λ b hb hc=>(ol.BX b hb).no (n2 b hc);obtain⟨c,p,t0,g1,g2,E3,t3⟩:=E2.nS (pl.more sm s2) aH dn (us:=ts++[t]) (ys:=xs++[w]) (dn.append (.cons o2 .nil)) (by rw[zF];exact z8.mpr ⟨rb,aT,λ b hb d hd z=>dj b hb (by rw[z];exact hd)⟩) (by
     rw[zF];intro z;rcases zy.mp z with z|z
     ·exact nl z
     ·rw[n2 l z] at hl;cases hl) (by
     intro b hb;rw[zF] at hb;rcases zy.mp hb with z|z
     ·exact .inl z
     ·exact .inr ⟨.inr z,λ y=>(E1.BX b (E1.sub b y)).no (n2 b z),E1.new s2 sm (n2 b z)⟩)
    rw[Fo g1 g2] at h;exact⟨l,xs,w,rfl,rfl,aH,AJ (by rw[ol.len];exact yN hz),h _ _ _ (((E.tr s1).trans (E1.Zg s2 n2)).trans t3) E3⟩
   ·rw[if_neg hz] at h;exact h.elim
abbrev gM {α:Type}(o:Option α):M α:=match o with | some x=>.ok x | none=>.bad
abbrev TK (i:Nat)(ρ:Ac)(π:List Nat):M (List D):=match TJ i ρ π with | some (.lst ts)=>(match Dx ts with | some ds=>.ok ds | none=>.bad) | _=>.bad
def Bg.shl {K:za}{π:List Nat}{v:V}{t1:OT}{ds:List D}(pl:Bg K P H σ ρ i π v t1)(E:Al K P0 P H σ ρ)(h:TK i ρ π=.ok ds):t1=.lst (ds.map .sh)/\∃l xs,v=.ref l/\H l=some (.lst xs)/\Ah K (del H P) xs ds:=by
 unfold TK at h;rw[pl.at] at h;split at h
 ·rename_i nq e;split at h
  ·rename_i iz e';cases e;cases h;have z:=CC e';subst z;obtain⟨az,o1,hp,nd⟩:=pl.own E;cases o1 with
   |lst hh hr=>exact⟨rfl,_,_,rfl,hh,hr.nQ.2⟩
  ·cases h
 ·cases h
def Zl {π:List Nat}{x:Str}(h:TK i ρ π=.ex x):False:=by
 unfold TK at h;split at h
 ·split at h<;>cases h
 ·cases h
def Al.sX {K:za}{π:List Nat}{l:Addr}{xs ys:List V}{ds es:List D}(E:Al K P0 P H σ ρ)(pl:Bg K P H σ ρ i π (.ref l) (.lst (ds.map .sh)))(hH:H l=some (.lst xs))(o:Ah K (del H P) xs ds)(o':Ah K (del H P) ys es):
 ∃c p t,ρ[i]?=some (some c)/\treeOf c=some (p,t)/\Al K P0 P (upd H l (.lst ys)) σ (ρ.set i (some (toCl p (EI t π (.lst (es.map .sh))))))/\Tr P0 P H P (upd H l (.lst ys)):=
 E.nS pl hH o.ows o'.ows yS (λ z=>by cases z) (λ a ha=>by cases ha)
abbrev gN (t:OT):M (List D):=match t with | .lst us=>gM (Dx us) | _=>.bad
def Zm (ha:DP X WX a i fp)(he:DN X WX e fn){apos ad:Pos}(hs: ~~~(starEach [e] X.env=[(false,eval e X.env)]))(aR: ~~~(swapsWith (.Call (.Attribute a "extend" apos) [e] [] ad) none pos.line X.env=pure false))(al: ~~~(attributeBase a "extend" X.env (eval a X.env)=eval a X.env))(aE: ~~~(((backTo ad (starEach [e] X.env)).all (λ x => !x.1)&&(backToKw ad (keywordEach [] X.env)).all (λ x=>x.1.isSome)&&decide (([e]:List Expr).length+([]:List Keyword).length+(if ([]:List Keyword).isEmpty then 0 else 1)<30))=true))(am: ~~~((apos.endLine==ad.line)=true))(ak: ~~~((backTo ad (starEach [] X.env)).any (·.1)=false)):
 DS X WX (.Expr (.Call (.Attribute a "extend" apos) [e] [] ad) pos) (λ ρ=>(fp ρ).bind λ π=>(TK i ρ π).bind λ ds=>((fn ρ).bind gN).bind λ es=>if ds.length+es.length<=1000 then Fn i ρ π (.lst ((ds++es).map .sh)) else .bad):=by
 obtain⟨ta,a1,a2⟩:=ha;obtain⟨te,e1,e2⟩:=he;refine⟨_,Ex (OQ yR PySem.F.slot_list_extend PySem.F.type_list_extend Wx a1 (Bf e1 Cp hs) al aE am hs ak) aR,λ P0 P σ H Z ρ E h=>?_⟩;dsimp only at h;refine a2 P0 P σ H _ ρ E ?_;refine WL h E λ π h=>?_;intro v t1 H1 s1 pl;have E1:=E.same s1;cases q1:TK i ρ π with
 |bad=>rw[q1] at h;exact h.elim
 |ex x=>exact (Zl q1).elim
 |ok ds =>
  rw[q1] at h;simp only[M.A9] at h;obtain⟨rfl,l,xs,rfl,hl,ol⟩:=pl.shl E1 q1;refine⟨.inl ⟨rfl,xs,.of hl⟩,e2 P0 P σ H1 _ ρ E1 ?_⟩;cases q2:fn ρ with
  |bad=>rw[q2] at h;exact h
  |ex y=>rw[q2] at h;exact λ H' s=>h H' P ((E.tr s1).trans (E1.tr s))
  |ok t =>
   rw[q2] at h;simp only[M.A9] at h;intro w fw H2 s2 n2 aT o2;have sm:=C6 (P:=P) s2 n2;have E2:Al X.K P0 (PU P fw) H2 σ ρ:=E1.more s2 Gy (Fl (E1.same s2).BX o2) sm;cases t with
   |lst us =>
    simp only[gN] at h;cases q3:Dx us with
    |none=>rw[q3] at h;exact h.elim
    |some es =>
     rw[q3] at h;simp only[gM,M.A9] at h;have z:=CC q3;subst z;cases o2 with
     |lst hb hr =>
      by_cases hz:ds.length+es.length<=1000
      ·rw[if_pos hz] at h;have he:=hr.nQ.2;have dn:=ol.mono sm;have aH:=s2 _ _ hl;obtain⟨c,p,t0,g1,g2,E3,t3⟩:=E2.sX (pl.more sm s2) aH dn (dn.append he);rw[Fo g1 g2] at h;exact⟨l,_,xs,_,rfl,rfl,aH,hb,yN (AJ (by rw[ol.length,he.length];exact hz)),h _ _ _ (((E.tr s1).trans (E1.Zg s2 n2)).trans t3) E3⟩
      ·rw[if_neg hz] at h;exact h.elim
   |_=>exact h.elim
end
abbrev gX (K:za)(WX:Str->Hp->Prop)(P0:Es)(P:Addr->Prop)(H:Hp)(σ:St)(Q:VK):M (Ac×OT)->Prop
 | .ok (ρ,t)=>∀v fp H' P',Tr P0 P H P' H'->Al K P0 P' H' σ ρ->C8 K H' P' v t fp->fp.Nodup->(∀a∈fp,P' a/\¬ P0 a/\∀(j:Nat) c v' fq,ρ[j]?=some (some c)->σ[j]?=some (some v')->Dk K H' P' c v' fq->a∉fq)->Q v H'
 | .ex x=>∀H' P',Tr P0 P H P' H'->WX x H'
 | .bad=>False
abbrev DX (X:Cx)(WX:Str->Hp->Prop)(e:Expr)(f:Ac->M (Ac×OT)):Prop:=
 ∃t,PE X e t/\∀P0 P σ H Q ρ,Al X.K P0 P H σ ρ->gX X.K WX P0 P H σ Q (f ρ)->t σ H Q
abbrev Qu:OT->Bool
 | .sh _=>false
 |_=>true
abbrev Sg (i:Nat)(F:OT->List D->M (OT×OT))(ρ:Ac)(π:List Nat)(aw:List D):M (Ac×OT):=match ρ[i]? with
 |some (some c)=>(match treeOf c with
  |some (p,t)=>(match KO t π with
   |some t1=>if Qu t1=true then (match F t1 aw with | .ok (t2,r)=>.ok (ρ.set i (some (toCl p (EI t π t2))),r)|_=>.bad) else .bad
   |none=>.bad)
  |none=>.bad)
 |_=>.bad
section
variable {X:Cx}{E:XK}{WX:Str->Hp->Prop}{c:Bool}{P0:Es}{P:Addr->Prop}{H:Hp}{σ:St}{ρ:Ac}{a b e:Expr}{f g:Ac->M D}{fn:Ac->M OT}{fx:Ac->M (Ac×OT)}{fp:Ac->M (List Nat)}{pos:Pos}{i:Nat}{es:List Expr}{fs:Ac->M (List D)}
def Zn {F:OT->List D->M (OT×OT)}{π:List Nat}{aw:List D}{c:Cl}{p:Option Nat}{t t1 t2 r:OT}(h:ρ[i]?=some (some c))(ht:treeOf c=some (p,t))(hs:KO t π=some t1)(hN:Qu t1=true)(hF:F t1 aw=.ok (t2,r)):Sg i F ρ π aw=.ok (ρ.set i (some (toCl p (EI t π t2))),r):=by
 unfold Sg;simp only[h,ht,hs,hN,if_true,hF]
def Zo {k n:Nat}{F:OT->List D->M (OT×OT)}{x:Str}{p:Pos}(xo:EW X E)(G:Jv X.prog X.w X.K X.mg X.base x k n F)(hr:Bu k X.A)(hg:Gl X x)(hp:DP X (CB X.K E) a i fp)(ha:DA X (CB X.K E) true es fs)(hn:es.length+1=n)(aN:(x==("__debug__" : Str))=false:=by decide)(he: ~~~(starEach (a::es) X.env=(false,eval a X.env)::starEach es X.env))(aq: ~~~((backTo pos (starEach es X.env)).any (·.1)=false)):
 DX X (CB X.K E) (.Call (.Name x p) (a::es) [] pos) (λ ρ=>(fp ρ).bind λ π=>(fs ρ).bind λ aw=>Sg i F ρ π aw):=by
 obtain⟨fa,fd,ps,hF,hm,hk,hb⟩:=G.ex;obtain⟨tp,p1,p2⟩:=hp;obtain⟨ta,a1,a2,a3⟩:=ha;refine⟨_,Q9 hF hr hg hm hk hb .nil xo.call (Bf p1 a1 he) aN he aq,λ P0 P σ H Q ρ Ev h=>?_⟩;dsimp only at h;refine p2 P0 P σ H _ ρ Ev ?_;cases q:fp ρ with
 |bad=>rw[q] at h;exact h
 |ex x=>rw[q] at h;exact λ H' s=>h H' P (Ev.tr s)
 |ok π =>
  rw[q] at h;simp only[M.A9] at h;intro v t1 H1 s1 pl;have E1:=Ev.same s1;refine a2 P0 P σ H1 _ ρ E1 ?_;cases q2:fs ρ with
  |bad=>rw[q2] at h;exact h
  |ex y=>rw[q2] at h;exact λ H' s=>h H' P ((Ev.tr s1).trans (E1.tr s))
  |ok aw =>
   rw[q2] at h;simp only[M.A9] at h;intro vs H2 s2 ay;have E2:=E1.same s2;have cz:=pl.same s2;show N7 X.K n F ((v::vs)++[]) H2 Q E;rw[zF];obtain⟨v0,c,pp,t,g1,g2,g3,g4⟩:=cz.ex;unfold Sg at h;simp only[g1,g2,g4.sub] at h;by_cases hx:Qu t1=true
   ·rw[if_pos hx] at h;obtain⟨az,o1,u6,cv⟩:=cz.own E2;have i8:∃l,v=.ref l:=by
     cases o1 with
     |sh hv=>exact absurd hx (by simp[Qu])
     |lst _ _|tup _ _|dK _ _|dT _ _|ins _ _ _=>exact⟨_,rfl⟩
    obtain⟨l,rfl⟩:=i8;refine⟨by rw[zk,ay.length,a3 ρ aw q2];exact hn,P,l,t1,az,vs,aw,rfl,E2.BX,λ b hb=>(u6 b hb).1,cv,o1,ay,?_⟩;cases qF:F t1 aw with
    |bad|ex x=>rw[qF] at h;exact h.elim
    |ok z =>
    obtain⟨t2,r⟩:=z;rw[qF] at h;intro w H' P' fu fr k1 k2 k3 k4 k5 k6 k7 k8 k9 f7;obtain⟨c',p',t',m1,m2,m3,m4,m5⟩:=E2.sW cz o1 k1 k2 k3 k4 k5 k9 k6 k7 f7 k8;rw[g1] at m1;cases m1;rw[g2] at m2;cases m2;exact h w fr H' P' (((Ev.tr s1).trans (E1.tr s2)).trans m4) m3 k6 k7 m5
   ·rw[if_neg hx] at h;exact h.elim
def N9 (he:DX X WX e fx)(hs: ~~~(swapsWith e none pos.line X.env=pure false)):DS X WX (.Expr e pos) (λ ρ=>(fx ρ).bind λ z=>.ok (.next z.1)):=by
 obtain⟨te,e1,e2⟩:=he;refine⟨_,Ex e1 hs,λ P0 P σ H Z ρ E h=>?_⟩;dsimp only at h;refine e2 P0 P σ H _ ρ E ?_;cases q:fx ρ with
 |bad|ex x=>rw[q] at h;exact h
 |ok z=>rw[q] at h;exact λ v fp H' P' t E' o nd hf=>h σ H' P' t E'
end
abbrev FY (i:Nat)(ρ:Ac)(π:List Nat):M (Bool×List D×List D):=match TJ i ρ π with
 |some (.Bn b ks ts)=>(match Dx ts with|some vs=>.ok (b,ks,vs)|none=>.bad)
 |_=>.bad
abbrev putD (ks vs:List D)(k v:D):List D×List D:=if LS ks k=true then (ks,IQ ks vs k v) else (ks++[k],vs++[v])
section
variable {X:Cx}{E:XK}{WX:Str->Hp->Prop}{c:Bool}{P0:Es}{P:Addr->Prop}{H:Hp}{σ:St}{ρ:Ac}{a b e:Expr}{f g:Ac->M D}{fn:Ac->M OT}{fx:Ac->M (Ac×OT)}{fp:Ac->M (List Nat)}{pos:Pos}{i:Nat}{es:List Expr}{fs:Ac->M (List D)}
def Bg.Bn {K:za}{π:List Nat}{v:V}{t1:OT}{bl:Bool}{ks vs:List D}(pl:Bg K P H σ ρ i π v t1)(E:Al K P0 P H σ ρ)(h:FY i ρ π=.ok (bl,ks,vs)):t1=.Bn bl ks (vs.map .sh)/\∃l xs,v=.ref l/\P l/\Ah K (del H P) xs vs/\C8 K H P (.ref l) (.Bn bl ks (vs.map .sh)) [l]/\
 ((bl=false/\∃kvs,H l=some (.dK kvs)/\ks=(kvs.map λ kv=>Dj kv.1)/\xs=kvs.map yT)\/(bl=true/\∃kvs,H l=some (.dT kvs)/\ks=(kvs.map λ kv=>.tup (kv.1.map Dj))/\xs=kvs.map yT)):=by
 unfold FY at h;rw[pl.at] at h;split at h
 ·rename_i b' u5 nq e;split at h
  ·rename_i aU e';cases e;cases h;have z:=CC e';subst z;obtain⟨az,o1,hp,nd⟩:=pl.own E;generalize ht:OT.Bn bl ks (vs.map .sh)=t at o1;cases o1 with
   |dK hh hr =>
    injection ht with h1 h2 h3
    subst h1 h2 h3;obtain⟨rfl,hs⟩:=hr.nQ;exact⟨rfl,_,_,rfl,(hp _ zd).1,hs,.dK hh hr,.inl ⟨rfl,_,hh,rfl,rfl⟩⟩
   |dT hh hr =>
    injection ht with h1 h2 h3
    subst h1 h2 h3;obtain⟨rfl,hs⟩:=hr.nQ;exact⟨rfl,_,_,rfl,(hp _ zd).1,hs,.dT hh hr,.inr ⟨rfl,_,hh,rfl,rfl⟩⟩
   |_=>cases ht
  ·cases h
 ·cases h
def Zp {π:List Nat}{x:Str}(h:FY i ρ π=.ex x):False:=by
 unfold FY at h;split at h
 ·split at h<;>cases h
 ·cases h
def Al.nX {K:za}{π:List Nat}{l:Addr}{t1 u:OT}{o':HO}(E:Al K P0 P H σ ρ)(pl:Bg K P H σ ρ i π (.ref l) t1)(ot:C8 K H P (.ref l) t1 [l])(hn:∀xs,o'≠.tup xs/\∀z,o'≠.XS z (.tup xs))(new:Ae (del H P) (del (upd H l o') P)->C8 K (upd H l o') P (.ref l) u [l]):
 ∃c p t,ρ[i]?=some (some c)/\treeOf c=some (p,t)/\Al K P0 P (upd H l o') σ (ρ.set i (some (toCl p (EI t π u))))/\Tr P0 P H P (upd H l o'):=by
 obtain⟨az,o1,hp,_⟩:=pl.own E;have:=o1.Ci ot;subst this;have pP:P l:=(hp l zd).1;have sd:del (upd H l o') P=del H P:=by
  funext b;by_cases hb:P b
  ·rw[D4 hb,D4 hb]
  ·rw[As hb,As hb,Ai (λ z=>hb (by rw[z];exact pP))]
 have sm:Ae (del H P) (del (upd H l o') P):=by rw[sd];exact Ae.refl _
 refine E.sU pl ot (λ _ h=>h) (λ a h=>?_) sm (λ a ha hn=>Ai λ z=>hn (by rw[z];exact zd)) (new sm) (by simp) (λ a ha=>.inl ha);by_cases ha:a=l
 ·subst ha;exact⟨_,Aq,hn⟩
 ·unfold Dq;rw[Ai ha];exact E.BX a h
def M7 {n:Nat}(hu:X.A.units+n<cLine)(ha:DP X WX a i fp)(hk:DE X WX true b g)(hv:DE X WX true e f){pos':Pos}(hs: ~~~(swapsWith e (some (.Subscript a b pos')) pos.line X.env=pure false))(hn:1<=n:=by decide):
 DS X WX (.Assign [.Subscript a b pos'] e pos) (λ ρ=>(f ρ).bind λ v=>(fp ρ).bind λ π=>(g ρ).bind λ k=>(FY i ρ π).bind λ z=>if keyOk z.1 k=true/\z.2.1.length<1000 then Fn i ρ π (.Bn z.1 (putD z.2.1 z.2.2 k v).1 ((putD z.2.1 z.2.2 k v).2.map .sh)) else .bad):=by
 obtain⟨ta,a1,a2⟩:=ha;obtain⟨tk,k1,k2⟩:=hk;obtain⟨tv,v1,v2⟩:=hv;refine⟨_,fC (by omega) a1 k1 v1 hs,λ P0 P σ H Z ρ E h=>?_⟩;dsimp only at h;refine v2 P0 P σ H _ ρ E ?_;refine WL h E λ d h=>?_;intro w H0 s0 hw;have E0:=E.same s0;refine a2 P0 P σ H0 _ ρ E0 ?_;cases q:fp ρ with
 |bad=>rw[q] at h;exact h
 |ex x=>rw[q] at h;exact λ H' s=>h H' P ((E.tr s0).trans (E0.tr s))
 |ok π =>
  rw[q] at h;simp only[M.A9] at h;intro v t1 H1 s1 pl;have E1:=E0.same s1;refine k2 P0 P σ H1 _ ρ E1 ?_;cases q2:g ρ with
  |bad=>rw[q2] at h;exact h
  |ex y=>rw[q2] at h;exact λ H' s=>h H' P (((E.tr s0).trans (E0.tr s1)).trans (E1.tr s))
  |ok k =>
   rw[q2] at h;simp only[M.A9] at h;intro y H2 s2 hy;have E2:=E1.same s2;have cz:=pl.same s2;have kg:=(hw.mono s1.del).mono s2.del;have rc:=((E.tr s0).trans (E0.tr s1)).trans (E1.tr s2);cases q3:FY i ρ π with
   |bad=>rw[q3] at h;exact h.elim
   |ex x=>exact (Zp q3).elim
   |ok z =>
    obtain⟨bb,ks,vs⟩:=z;rw[q3] at h;simp only[M.A9] at h;by_cases hc:keyOk bb k=true/\ks.length<1000
    ·rw[if_pos hc] at h;obtain⟨rfl,l,xs,rfl,hP,cf,ot,i9⟩:=cz.Bn E2 q3;have hK:=F0 hc.1;rcases i9 with ⟨rfl,kvs,hH,rfl,rfl⟩|⟨rfl,kvs,hH,rfl,rfl⟩
     ·cases hK with
      |k κ =>
       have ey:=hy.nT;refine⟨l,_,rfl,.inl ⟨kvs,κ,hH,ey,AJ (by have:=hc.2;rw[zc] at this;omega),rfl⟩,?_⟩;have bt:∃aU,(putD (kvs.map λ kv=>Dj kv.1) vs (Dj κ) d)=((putK kvs κ w).map (λ kv=>Dj kv.1),aU)/\Ah X.K (del H2 P) ((putK kvs κ w).map yT) aU:=by
        unfold putD putK;rw[N4 N2];by_cases hh:(kvs.any λ kv=>decide (kv.1=κ))=true
        ·rw[if_pos hh,if_pos hh];refine⟨_,by rw[Jp (fk:=Dj) N2],?_⟩;rw[<-Jo (fk:=Dj) N2];exact Jq kg cf
        ·rw[if_neg hh,if_neg hh];refine⟨_,by rw[z6];rfl,?_⟩;rw[z6];exact cf.snoc kg
       obtain⟨aU,e1,e2⟩:=bt;obtain⟨c,p,t0,g1,g2,E3,t3⟩:=E2.nX (o':=.dK (putK kvs κ w)) (u:=.Bn false ((putK kvs κ w).map λ kv=>Dj kv.1) (aU.map .sh)) cz ot (λ _=>⟨λ z=>(by cases z),λ _ z=>by cases z⟩) (λ mv=>.dK Aq (e2.mono mv).ows);rw[e1,Fo g1 g2] at h;exact h _ _ _ (rc.trans t3) E3
     ·cases hK with
      |t κ =>
       cases hy with
       |tup ht aH =>
        have ey:=Ah.keys κ aH;subst ey;refine⟨l,_,rfl,.inr ⟨kvs,κ,_,hH,rfl,(Ak ht).2,AJ (by have:=hc.2;rw[zc] at this;omega),rfl⟩,?_⟩;have hf:∀a b:List Key,Ba (.tup (a.map Dj)) (.tup (b.map Dj))=decide (a=b):=λ a b=>by simp only[Ba];exact M4 a b
        have bt:∃aU,(putD (kvs.map λ kv=>.tup (kv.1.map Dj)) vs (.tup (κ.map Dj)) d)=((putK kvs κ w).map (λ kv=>.tup (kv.1.map Dj)),aU)/\Ah X.K (del H2 P) ((putK kvs κ w).map yT) aU:=by
         unfold putD putK;rw[N4 (fk:=λ κ:List Key=>D.tup (κ.map Dj)) hf];by_cases hh:(kvs.any λ kv=>decide (kv.1=κ))=true
         ·rw[if_pos hh,if_pos hh];refine⟨_,by rw[Jp (fk:=λ κ:List Key=>D.tup (κ.map Dj)) hf],?_⟩;rw[<-Jo (fk:=λ κ:List Key=>D.tup (κ.map Dj)) hf];exact Jq kg cf
         ·rw[if_neg hh,if_neg hh];refine⟨_,by rw[z6];rfl,?_⟩;rw[z6];exact cf.snoc kg
        obtain⟨aU,e1,e2⟩:=bt;obtain⟨c,p,t0,g1,g2,E3,t3⟩:=E2.nX (o':=.dT (putK kvs κ w)) (u:=.Bn true ((putK kvs κ w).map λ kv=>.tup (kv.1.map Dj)) (aU.map .sh)) cz ot (λ _=>⟨λ z=>(by cases z),λ _ z=>by cases z⟩) (λ mv=>.dT Aq (e2.mono mv).ows);rw[e1,Fo g1 g2] at h;exact h _ _ _ (rc.trans t3) E3
    ·rw[if_neg hc] at h;exact h.elim
def Sh (tk:Bool):DN X WX (.Dict [] [] pos) (λ _=>.ok (.Bn tk [] [])):=by
 cases tk with
 |false =>
  refine⟨_,Yx,λ P0 P σ H Q ρ E h p hp=>?_⟩;exact h _ [p] _ (AS hp _) (λ a ha=>by rw[zi.mp ha];exact hp) (by simp) (.dK (kvs:=[]) Aq .nil)
 |true =>
  refine⟨_,Yy,λ P0 P σ H Q ρ E h p hp=>?_⟩;exact h _ [p] _ (AS hp _) (λ a ha=>by rw[zi.mp ha];exact hp) (by simp) (.dT (kvs:=[]) Aq .nil)
end
section
variable {X:Cx}{WX:Str->Hp->Prop}{c:Bool}{e:Expr}{f:Ac->M D}{pos:Pos}
abbrev kL (K:za):List V->Hp->VK->Prop:=λ xs H Q=>∃(a:Addr) (bs:List (Addr×List Int)) (b:Addr×List Int),xs=[.ref a]/\D2 K H a (bs.map λ b=>V.ref b.1)/\(∀b∈bs,Fd K H b.1 (b.2.map V.int))/\B9 bs=some b/\Q (.ref b.1) H
def X2 (hc:X.calm=true)(hu:X.A.units+1<cLine):FV X (.builtin "min") (kL X.K):=by
 intro pins s σ H xs us Q I r h;obtain⟨a,bs,b0,rfl,hl,hb,he,q⟩:=h;obtain⟨ua,rfl,ra⟩:=r.one;cases ra;obtain⟨aa,rv,pl,hz⟩:=I.list hl;have ei:=KD rv;subst ei;have tv:∀a:Addr,∃t:Array Value,∀b∈bs,b.1=a->IsTup s.heap a t/\IntsAre t.toList b.2:=λ a=>by
  by_cases bV:∃b∈bs,b.1=a
  ·obtain⟨b,bV,rfl⟩:=bV;obtain⟨ts,rt,pt,_⟩:=I.tuple (hb b bV);refine⟨ts.toArray,λ b' aA e=>⟨pt,?_⟩⟩;have q2:=hb b' aA;rw[e] at q2;have e2:=I.Hn q2 (hb b bV);rw[<-e2] at rt;simpa using intsAre_of rt
  ·exact⟨#[],λ b aA e=>absurd ⟨b,aA,e⟩ bV⟩
 have ae:bs≠[]:=λ z=>by subst z;cases he
 refine MN bs (λ b=>zg (tv b)) a none (λ _=>ae) (I.ok.hd hc) hu pl.isList (λ b aA=>(zb (tv b.1) b aA rfl).1) (λ b aA=>(zb (tv b.1) b aA rfl).2) λ h' tk hk=>?_;rw[he];exact⟨.ref b0.1,H,I.kept (t':=tk) hk,rfl,q⟩
abbrev VA (ds:List D):M D:=match ds with
 |[.lst xs]=>(match Gu xs with|some ks=>(match B9 ks with|some k=>.ok k.1|none=>.bad)|none=>.bad)
 |_=>.bad
def gO:Jd X.K WX (kL X.K) VA:=by
 intro P H ds vs Q ht hl h;unfold VA at h;split at h
 ·rename_i xs;obtain⟨v,rfl,hv⟩:=hl.one;split at h
  ·rename_i ks e1;cases hv with
   |lst hs hh =>
    obtain⟨bs,rfl,h2,h3⟩:=IF hh e1;split at h
    ·rename_i k e2;rcases MU h3 with ⟨q1,q2⟩|⟨b,k',q1,q2,_,q3⟩
     ·rw[q2] at e2;cases e2
     ·rw[q2] at e2;cases e2;exact⟨_,bs,b,rfl,hs.B5,λ b hb=>(h2 b hb).B5,q1,h _ H (Ae.refl H) q3⟩
    ·exact h.elim
  ·exact h.elim
 ·exact h.elim
def gQ {p:Pos}{n:Nat}(hc:X.calm=true)(hu:X.A.units+n<cLine)(hg:Gl X "min")(hm:X.mg "min" = none)(ha:DE X WX c e f)(hb:bootBuiltins "min" = some (.builtin "min"):=by decide +kernel)(hs: ~~~(starEach [e] X.env=[(false,eval e X.env)]))(hn:1<=n:=by decide):DE X WX c (.Call (.Name "min" p) [e] [] pos) (λ ρ=>((f ρ).bind λ d=>(M.ok []).bind λ ds=>.ok (d::ds)).bind VA):=
 Je (X2 hc (by omega)) gO hg hm hb (A2 ha A4 hs) (he:=hs)
end
section
variable {X:Cx}{E:XK}{WX:Str->Hp->Prop}{c:Bool}{P0:Es}{P:Addr->Prop}{H:Hp}{σ:St}{ρ:Ac}{a b e:Expr}{f g:Ac->M D}{fn:Ac->M OT}{fp:Ac->M (List Nat)}{pos:Pos}{i:Nat}
abbrev gR:V->List V->Hp->VK->Prop:=λ x vs H Q=>∃(l:Addr) (ns:List Int) (k:Int),x=.ref l/\vs=[.int k]/\H l=some (.lst (ns.map V.int))/\k∈ns/\Q .AK (upd H l (.lst ((ns.erase k).map V.int)))
def Pf {α β:Type}(f:α->β):∀(l:List α) (k:Nat),(l.eraseIdx k).map f=(l.map f).eraseIdx k
 |[],_|_::_,0=>rfl
 |x::r,k+1=>by rw[List.eraseIdx_cons_succ,zf,zf,List.eraseIdx_cons_succ,Pf f r k]
abbrev Ur (k:Int):Value->Bool
 | .int i _=>i==k
 |_=>false
def X3:pR X "list.remove" gR:=by
 intro pins s σ H x vs v us Q I rx rv h;obtain⟨l,ns,k,rfl,rfl,hH,hk,q⟩:=h;cases rx;obtain⟨u,rfl,ru⟩:=rv.one;obtain⟨tk,rfl⟩:=ru;obtain⟨z,aa,n,r,hl,e⟩:=I.RP hH;have hlen:=r.length;have f8:ns.idxOf k<ns.length:=List.idxOf_lt_length_iff.mpr hk;have f9:∀m (hm:m<aa.toArray.size) (re:m<ns.length),∃t,aa.toArray[m]=Value.int ns[m] t:=λ m hm re=>by
  have hx:(ns.map V.int)[m]?=some (V.int ns[m]):=by rw[z5,zh re];rfl
  obtain⟨w,hw,bc⟩:=r.get hx;obtain⟨t,rfl⟩:=bc;refine⟨t,?_⟩;have:aa[m]?=some aa[m]:=zh (by simpa using hm);rw[hw] at this;simpa using (z7 this).symm
 have hsz:aa.toArray.size=ns.length:=by rw[zl,<-hlen,zc]
 have hm:=MeetsSeq.list_remove l aa.toArray n (.int k tk) (Ur k) (λ y hy=>by
  obtain⟨m,hm,rfl⟩:=Array.mem_iff_getElem.mp hy;obtain⟨t,ht⟩:=f9 m hm (by rw[<-hsz];exact hm);rw[ht];exact MeetsSeq.EqGives.int _ _ _ _) (ns.idxOf k) (by rw[hsz];exact f8) (by
  obtain⟨t,ht⟩:=f9 (ns.idxOf k) (by rw[hsz];exact f8) f8;rw[ht];simp[Ur]) (λ m hm af=>by
  obtain⟨t,ht⟩:=f9 m hm (by omega);rw[ht];have:=List.not_of_lt_findIdx (p:=(· == k)) (xs:=ns) (i:=m) af;simpa [Ur] using this) (by rw[zl];omega)
 refine call_meets F.slot_list_remove ⟨_,e,rfl⟩ F.entry_list_remove (F.args_list_remove_2 _ _) hm ⟨e,?_⟩;refine⟨.AK,_,I.Ww (its':=aa.eraseIdx (ns.idxOf k)) hH e ?_ ?_ ?_,rfl,q⟩
 ·show aa.toArray.eraseIdxIfInBounds _=_;rw[List.eraseIdxIfInBounds_toArray]
 ·rw[show ns.erase k=ns.eraseIdx (ns.idxOf k) from List.erase_eq_eraseIdx_of_idxOf rfl,Pf];exact r.eraseIdx _
 ·rw[zc];have:=List.length_erase_le (a:=k) (l:=ns);rw[zc] at z;omega
def X4 (ha:DP X WX a i fp)(he:DE X WX true e f){apos ad:Pos}(hs: ~~~(starEach [e] X.env=[(false,eval e X.env)]))(aR: ~~~(swapsWith (.Call (.Attribute a "remove" apos) [e] [] ad) none pos.line X.env=pure false))(al: ~~~(attributeBase a "remove" X.env (eval a X.env)=eval a X.env))(aE: ~~~(((backTo ad (starEach [e] X.env)).all (λ x => !x.1)&&(backToKw ad (keywordEach [] X.env)).all (λ x=>x.1.isSome)&&decide (([e]:List Expr).length+([]:List Keyword).length+(if ([]:List Keyword).isEmpty then 0 else 1)<30))=true))(am: ~~~((apos.endLine==ad.line)=true))(ak: ~~~((backTo ad (starEach [] X.env)).any (·.1)=false)):
 DS X WX (.Expr (.Call (.Attribute a "remove" apos) [e] [] ad) pos) (λ ρ=>(fp ρ).bind λ π=>(TK i ρ π).bind λ ds=>(f ρ).bind λ d=>match d,CO ds with
  | .int k,some ns=>if k∈ns then Fn i ρ π (.lst (((ns.erase k).map D.int).map .sh)) else .bad
  |_,_=>.bad):=by
 obtain⟨ta,a1,a2⟩:=ha;obtain⟨te,e1,e2⟩:=he;refine⟨_,Ex (OQ yR PySem.F.slot_list_remove PySem.F.type_list_remove X3 a1 (Bf e1 Cp hs) al aE am hs ak) aR,λ P0 P σ H Z ρ E h=>?_⟩;dsimp only at h;refine a2 P0 P σ H _ ρ E ?_;refine WL h E λ π h=>?_;intro v t1 H1 s1 pl;have E1:=E.same s1;cases q1:TK i ρ π with
 |bad=>rw[q1] at h;exact h.elim
 |ex x=>exact (Zl q1).elim
 |ok ds =>
  rw[q1] at h;simp only[M.A9] at h;obtain⟨rfl,l,xs,rfl,hl,ol⟩:=pl.shl E1 q1;refine⟨.inl ⟨rfl,xs,.of hl⟩,e2 P0 P σ H1 _ ρ E1 ?_⟩;cases q2:f ρ with
  |bad=>rw[q2] at h;exact h
  |ex y=>rw[q2] at h;exact λ H' s=>h H' P ((E.tr s1).trans (E1.tr s))
  |ok d =>
   rw[q2] at h;simp only[M.A9] at h;intro w H2 s2 hw;have E2:=E1.same s2;have cz:=pl.same s2;cases d with
   |int k =>
    cases q3:CO ds with
    |none=>rw[q3] at h;exact h.elim
    |some ns =>
     rw[q3] at h;dsimp only at h;by_cases hk:k∈ns
     ·rw[if_pos hk] at h;have:=EY q3;subst this;have dn:=ol.mono s2.del;have ex:=E7 dn;subst ex;have aH:=s2 _ _ hl;obtain⟨c,p,t0,g1,g2,E3,t3⟩:=E2.sX (ys:=(ns.erase k).map V.int) (es:=(ns.erase k).map D.int) cz aH dn (Ah.ints _);rw[Fo g1 g2] at h;exact⟨l,ns,k,rfl,by rw[hw.int_inv],aH,hk,h _ _ _ (((E.tr s1).trans (E1.tr s2)).trans t3) E3⟩
     ·rw[if_neg hk] at h;exact h.elim
   |_=>exact h.elim
end
abbrev GB (i n:Nat)(ds:List D)(ρ:Ac):Prop:=ρ[i]?=some (some (.ow (.Ia n ds)))
abbrev Us (i n:Nat)(ds:List D)(gt:D->Ac->M Ac)(d:D)(ρ:Ac):M Ac:=@ite _ (GB i n ds ρ) (yQ _) (gt d ρ) .bad
section
variable {X:Cx}{WX:Str->Hp->Prop}{c:Bool}{P0:Es}{P:Addr->Prop}{H:Hp}{σ:St}{ρ:Ac}{a b e:Expr}{f g:Ac->M D}{fn:Ac->M OT}{pos:Pos}{te:TE}
abbrev sY (ds:List D):M D:=match ds with
 |[.lst xs]=>(match CO xs with|some ns=>.ok (.int ns.sum)|none=>.bad)
 |_=>.bad
abbrev wF (te:TE):TE:=λ σ H Q=>te σ H λ x H1=>∃n:Nat,x=.int (n:Int)/\n<=1000/\∀r,H1 r=none->Q (.ref r) (upd H1 r (.lst ((yO n).map λ i:Nat=>V.int (i:Int))))
def X5 {acc:Array Value}{n:Nat}(h:ItemsOf (λ i v=>∃t,v=Value.int (0+(i:Int)*1) t) acc n):Vals ((yO n).map λ i:Nat=>V.int (i:Int)) acc.toList:=by
 obtain⟨h1,h2⟩:=h;have key:∀(l:List Value) (k:Nat),(∀i v,l[i]?=some v->∃t,v=Value.int ((k+i:Nat):Int) t)->Vals ((List.range' k l.length).map λ i:Nat=>V.int (i:Int)) l:=by
  intro l;induction l with
  |nil=>intro k _;exact .nil
  |cons v r ih =>
   intro k hk;rw[zk,List.range'_succ,zf];refine .cons (by obtain⟨t,e⟩:=hk 0 v rfl;exact⟨t,by simpa using e⟩) (ih (k+1) λ i w hw=>?_);obtain⟨t,e⟩:=hk (i+1) w (by simpa using hw);exact⟨t,by rw[e];congr 1;omega⟩
 have:=key acc.toList 0 (λ i v hv=>by
  obtain⟨t,e⟩:=h2 i v (by rw[<-Array.getElem?_toList];exact hv);exact⟨t,by rw[e];congr 1;omega⟩)
 rw[Array.length_toList,h1] at this;rw[List.range_eq_range'];exact this
def Qv {p p2 bz:Pos}(hc:X.calm=true)(hg:Gl X "list")(hm:X.mg "list" = none)(iy:Gl X "range")(bm:X.mg "range" = none)(he:PE X e te)(hv:bootBuiltins "list" = some (.type "list"):=by decide +kernel)(hs: ~~~(starEach [.Call (.Name "range" p2) [e] [] bz] X.env=[(false,eval (.Call (.Name "range" p2) [e] [] bz) X.env)]))(aG: ~~~(starEach [e] X.env=[(false,eval e X.env)])):
 PE X (.Call (.Name "list" p) [.Call (.Name "range" p2) [e] [] bz] [] pos) (wF te):=by
 intro pins s σ H Q I h;refine wpAny_Call_Name_kw (Dp I hg hm hv ?_);refine zW ?_ hs;rw[hs];refine zaq ?_;refine wpAny_Call_Name_kw (Dp I iy bm boot_range ?_);refine zW ?_ aG;rw[aG];refine zaq (Bi (he pins s σ H _ I h) λ u s1 zz=>?_);obtain⟨x,H1,I1,r1,q1⟩:=zz;obtain⟨n,rfl,hn,q⟩:=q1;obtain⟨t,rfl⟩:=r1;refine zau ?_;refine call_range_1 ?_;refine zau ?_;have h4:((n:Nat):Int)<2^62:=by omega
 refine call_list_range (n:=n) (I1.ok.hd hc) (IsRange.new ..) (small_one (by omega) (by omega) (by omega) h4) (by rw[rangeSize_one];split<;>omega) (by omega) λ h' tk nr c' hk be nu=>?_;have kp:∀b o,s1.heap.get? b=some o->h'.get? b=some o:=λ b o e=>hk b o (zp _ e);have rv:=X5 nu;have ja:∀o:Obj,s1.heap.objs.size<=(s1.heap.push o).objs.size:=λ o=>by simp[Heap.push]
 refine⟨.ref _,_,I1.laid (t':=tk) (o:=.lst ((yO n).map λ i:Nat=>V.int (i:Int))) kp (ja _) ⟨?_,nr.toList,c',rv,by simpa using be⟩,rfl,q _ (I1.Au.fresh (ja _))⟩;rw[zc,List.length_range];exact yN (AJ hn)
abbrev uE (d:D):M OT:=match d with
 | .int j=>@ite _ (0<=j/\j<=1000) (yQ _) (.ok (.lst ((Cs 0 j.toNat).map .sh))) .bad
 |_=>.bad
def Qw {n:Nat}(h:n<=1000):uE (.int (n:Int))=.ok (.lst (((yO n).map λ i:Nat=>D.int (i:Int)).map .sh)):=by
 unfold uE;dsimp only;rw[if_pos ⟨by omega,by omega⟩,yM,MV]
def Jw {p p2 bz:Pos}(hc:X.calm=true)(hg:Gl X "list")(hm:X.mg "list" = none)(iy:Gl X "range")(bm:X.mg "range" = none)(he:DE X WX true e f)(hv:bootBuiltins "list" = some (.type "list"):=by decide +kernel)(hs: ~~~(starEach [.Call (.Name "range" p2) [e] [] bz] X.env=[(false,eval (.Call (.Name "range" p2) [e] [] bz) X.env)]))(aG: ~~~(starEach [e] X.env=[(false,eval e X.env)])):
 DN X WX (.Call (.Name "list" p) [.Call (.Name "range" p2) [e] [] bz] [] pos) (λ ρ=>(f ρ).bind uE):=by
 obtain⟨te,e1,e2⟩:=he;refine⟨_,Qv hc hg hm iy bm e1 hv hs aG,λ P0 P σ H Q ρ E h=>?_⟩;refine e2 P0 P σ H _ ρ E ?_;dsimp only at h;refine YH h λ d h=>?_;intro v H1 s1 hv;cases d with
 |int j =>
  by_cases hj:0<=j/\j<=1000
  ·obtain⟨n,rfl⟩:∃n:Nat,j=n:=⟨j.toNat,by omega⟩;rw[Qw (by omega)] at h;refine⟨n,hv.int_inv,by omega,λ r hr=>h.KQ s1 (xs:=(yO n).map λ i:Nat=>V.int (i:Int)) ?_ r hr⟩;have:∀l:List Nat,Ah X.K (del H1 P) (l.map λ i:Nat=>V.int (i:Int)) (l.map λ i:Nat=>D.int (i:Int)):=λ l=>by
    induction l with
    |nil=>exact .nil
    |cons x r ih=>exact .cons (.int _) ih
   exact this _
  ·have e:uE (.int j)=.bad:=if_neg hj;rw[e] at h;exact h.elim
 |_=>exact h.elim
abbrev dU (lo hi:Option Int)(d:D):M OT:=match d with
 | .lst ds=>.ok (.lst (((ds.drop (HT.MB ds.length 0 lo)).take (HT.MB ds.length ds.length hi-HT.MB ds.length 0 lo)).map .sh))
 |_=>.bad
def Jx {lo hi:Option Expr}{nv fh:Ac->M (Option Int)}{p2:Pos}(ha:DE X WX true e f)(hl:DO X WX true lo nv)(hh:DO X WX true hi fh):DN X WX (.Subscript e (.Slice lo hi none p2) pos) (λ ρ=>(f ρ).bind λ d=>(nv ρ).bind λ l=>(fh ρ).bind λ u=>dU l u d):=by
 obtain⟨ta,a1,a2⟩:=ha;obtain⟨tl,l1,l2⟩:=hl;obtain⟨th,h1,h2⟩:=hh;refine⟨_,Yp eW a1 l1 h1,λ P0 P σ H Q ρ E h=>?_⟩;dsimp only at h;refine a2 P0 P σ H _ ρ E ?_;cases q:f ρ with
 |bad|ex x=>rw[q] at h;exact h
 |ok d =>
  rw[q] at h;intro v H1 s1 hv;refine l2 P0 P σ H1 _ ρ (E.same s1) ?_;cases q2:nv ρ with
  |bad=>rw[q2] at h;exact h
  |ex y=>rw[q2] at h;exact λ H' s=>h H' (s1.trans s)
  |ok l =>
   rw[q2] at h;intro H2 s2;refine h2 P0 P σ H2 _ ρ ((E.same s1).same s2) ?_;cases q3:fh ρ with
   |bad=>rw[q3] at h;exact h
   |ex y=>rw[q3] at h;exact λ H' s=>h H' ((s1.trans s2).trans s)
   |ok u =>
    rw[q3] at h;simp only[M.A9] at h;intro H3 s3;unfold dU at h;split at h
    ·cases hv with
     |lst hs hl =>
      refine⟨_,_,rfl,(s3.seq (s2.seq hs.B5)),λ p hp=>h.KQ ((s1.trans s2).trans s3) ?_ p hp⟩;unfold Yq;rw[hl.length];exact ((((hl.drop _).take _).mono s2.del).mono s3.del)
    ·exact h.elim
def Zq:xE X.K WX (kG X.K) Sd:=by
 intro P H x y v w Q ht hx hy h;unfold Sd at h;split at h
 ·rename_i ds es;by_cases hl:ds.length+es.length<=1000
  ·rw[if_pos hl] at h;cases hx with
   |lst h1 h2 =>
    cases hy with
    |lst h3 h4=>exact⟨_,_,_,_,rfl,rfl,h1.B5,h3.B5,yN (AJ (by rw[h2.length,h4.length];exact hl)),h.KQ (Ae.refl _) (h2.xC h4)⟩
  ·rw[if_neg hl] at h;exact h.elim
 ·exact h.elim
def gU (ha:DE X WX true a f)(hb:DE X WX true b g):DN X WX (.BinOp a .Add b pos) (λ ρ=>(f ρ).bind λ x=>(g ρ).bind λ y=>Sd x y):=by
 obtain⟨ta,a1,a2⟩:=ha;obtain⟨tb,b1,b2⟩:=hb;exact⟨_,Yc fQ a1 b1,λ P0 P σ H Q ρ E h=>sR a2 b2 Zq E h⟩
abbrev GK (μ:List (Option Nat))(g:TG):Prop:=∀σ0 σ x H Q,(∀(j:Nat) v,(EH μ σ0)[j]?=some (some v)->σ[j]?=some (some v))->g x σ H Q->g x σ H λ σ' H'=>Q σ' H'/\∀(j:Nat) v,(EH μ σ0)[j]?=some (some v)->σ'[j]?=some (some v)
abbrev sZ (μ:List (Option Nat))(g:XW):Prop:=∀σ0 σ x H Q,(∀(j:Nat) v,(EH μ σ0)[j]?=some (some v)->σ[j]?=some (some v))->g x σ H Q->g x σ H λ σ' H'=>Q σ' H'/\∀(j:Nat) v,(EH μ σ0)[j]?=some (some v)->σ'[j]?=some (some v)
def GK.keeps {μ:List (Option Nat)}{g:TG}(h:GK μ g):KC μ g:=λ σ x H Q q=>h σ (EH μ σ) x H Q (λ _ _ z=>z) q
def gW {μ:List (Option Nat)}{i:Nat}(h:μ[i]?=some none):GK μ (OI i):=λ σ0 σ x H Q hk q=>by
 refine⟨q,λ j v hj=>?_⟩;have ae:i≠j:=λ z=>by
  subst z;unfold EH at hj;rw[z5,h] at hj;cases hj
 rw[yL ae];exact hk j v hj
def gY {μ:List (Option Nat)}:sZ μ lT:=λ σ0 σ x H Q hk q=>⟨q.1,q.2,hk⟩
def Zr {μ:List (Option Nat)}{t:TG}{u:XW}(mono:∀v σ H Q Q',(∀σ' H',Q σ' H'->Q' σ' H')->t v σ H Q->t v σ H Q')(ht:GK μ t)(hu:sZ μ u):sZ μ (Y5 t u):=λ σ0 σ x H Q hk q=>by
 obtain⟨v,r,rfl,q⟩:=q;exact⟨v,r,rfl,mono _ _ _ _ _ (λ σ' H' z=>hu σ0 σ' r H' Q z.2 z.1) (ht σ0 σ v H _ hk q)⟩
def nY {K:za}{μ:List (Option Nat)}{n:Nat}{t:XW}(h:sZ μ t):GK μ (lU K n t):=λ σ0 σ x H Q hk q=>by
 obtain⟨a,xs,rfl,h1,h2,q⟩:=q;exact⟨a,xs,rfl,h1,h2,h σ0 σ xs H Q hk q⟩
variable {cr:List D->Ac->M Ac}{gt:D->Ac->M Ac}{es:List Expr}
abbrev gZ (X:Cx)(scope:Scope)(NB:List Str)(μ:List (Option Nat))(es:List Expr)(gt:List D->Ac->M Ac):Prop:=
 ∃g:XW,(∀s H C ex,pO (blockOf X s H scope C NB ex) es g)/\sZ μ g/\∀P0 P σ H Q ρ vs ds,Al X.K P0 P H σ ρ->Ah X.K (del H P) vs ds->gG X.K P0 P H Q (gt ds ρ)->g vs σ H Q
def Na {scope:Scope}{NB:List Str}{μ:List (Option Nat)}:gZ X scope NB μ [] (λ ds ρ=>match ds with | []=>.ok ρ | _=>.bad):=
 ⟨lT,λ s H C ex=>V5,gY,λ P0 P σ H Q ρ vs ds E hv h=>by
  cases hv with
  |nil=>exact⟨rfl,h σ E⟩
  |cons _ _=>exact h.elim⟩
def DM {scope:Scope}{NB:List Str}{μ:List (Option Nat)}(i:Nat){x:Str}{px:Pos}(hN:NB.Nodup)(hi:NB[i]?=some x)(hx:(relabel scope X.env).names.lookup x=some .local)(hm:μ[i]?=some none)(hr:gZ X scope NB μ es cr)
 (hs:∀s H C ex,(assignEach (.Name x px::es) (blockOf X s H scope C NB ex).env).map (·.2)=assign (.Name x px) (blockOf X s H scope C NB ex).env::(assignEach es (blockOf X s H scope C NB ex).env).map (·.2):=by intro _ _ _ _;rfl):
 gZ X scope NB μ (.Name x px::es) (λ ds ρ=>match ds with|d::r=>cr r (ρ.set i (some (.val d)))|[]=>.bad):=by
 obtain⟨gr,r1,r2,r3⟩:=hr;refine⟨Y5 (OI i) gr,λ s H C ex=>RJ (Q5 (X:=blockOf X s H scope C NB ex) hN hi (.inl hx) (.inr hx)) (r1 s H C ex) (hs s H C ex),Zr (λ v σ H Q Q' hq h=>hq _ _ h) (gW hm) r2,λ P0 P σ H Q ρ vs ds E hv h=>?_⟩;cases hv with
 |nil=>exact h.elim
 |cons h1 h2=>exact⟨_,_,rfl,r3 P0 P _ H Q _ _ _ (E.WJ h1) h2 h⟩
def Qx {scope:Scope}{NB:List Str}{μ:List (Option Nat)}{k n:Nat}{pt:Pos}(hc:X.calm=true)(h:gZ X scope NB μ es cr)
 (hn:∀s H C ex,(assignEach es (blockOf X s H scope C NB ex).env).length=n:=by intro _ _ _ _;rfl) (aL:∀s H C ex,(assignEach es (blockOf X s H scope C NB ex).env).findIdx? (·.1)=none:=by intro _ _ _ _;rfl):
 sL X scope NB μ (.Tuple es k pt) (λ d ρ=>match d with | .tup ds=>if ds.length=n then cr ds ρ else .bad|_=>.bad):=by
 obtain⟨t,a1,a2,a3⟩:=h;refine⟨lU X.K n t,λ s H C ex=>Y6 (X:=blockOf X s H scope C NB ex) hc (a1 s H C ex) (hn s H C ex) (aL s H C ex),(nY a2).keeps,λ P0 P σ H Q ρ v d E hv h=>?_⟩;cases hv with
 | @tup a xs ds hs hl =>
  dsimp only at h;by_cases hd:ds.length=n
  ·rw[if_pos hd] at h;exact⟨a,xs,rfl,Fd.of (Ak hs).2,by rw[hl.length];exact hd,a3 P0 P σ H Q ρ xs ds E hl h⟩
  ·rw[if_neg hd] at h;exact h.elim
 |_=>exact h.elim
end
abbrev WP (m:M Out)(nx:Ac->Prop)(rt:Out->Prop)(ex:Str->Prop):Prop:=match m with
 | .ok (.next ρ)=>nx ρ
 | .ok o=>rt o
 | .ex x=>ex x
 | .bad=>False
section
variable {nx:Ac->Prop}{rt:Out->Prop}{ex:Str->Prop}{m:M Out}{k:Ac->M Out}{ρ ρ':Ac}
def AY (h:m=.ok (.next ρ'))(hn:nx ρ'):WP m nx rt ex:=by rw[h];exact hn
def WP.mono {rf:Ac->Prop}{rh:Out->Prop}{lc:Str->Prop}(h:WP m nx rt ex)(h1:∀ρ,nx ρ->rf ρ)(h2:∀o,rt o->rh o)(h3:∀x,ex x->lc x):WP m rf rh lc:=by
 cases m with
 |bad=>exact h
 |ex x=>exact h3 x h
 |ok o =>
  cases o with
  |next ρ=>exact h1 ρ h
  |ret d|brk d|cont d|Cv d|E5 d ρ=>exact h2 _ h
def wp_seq (h:WP m (λ ρ=>WP (k ρ) nx rt ex) rt ex):WP (WI m k) nx rt ex:=by
 cases m with
 |bad|ex x=>exact h
 |ok o =>
  cases o with
  |next ρ|ret d|brk d|cont d|Cv d|E5 d ρ=>exact h
def wp_step (h:m=.ok (.next ρ'))(hk:WP (k ρ') nx rt ex):WP (WI m k) nx rt ex:=by rw[h];exact hk
def BC {I:Ac->Prop}(h:WP m I rt ex)(hk:∀ρ,I ρ->WP (k ρ) nx rt ex):WP (WI m k) nx rt ex:=wp_seq (h.mono hk (λ _ h=>h) λ _ h=>h)
abbrev inLoop (I:Ac->Prop)(nx:Ac->Prop)(rt:Out->Prop)(o:Out):Prop:=match o with
 | .cont ρ=>I ρ
 | .brk ρ=>nx ρ
 |o=>rt o
def Br {gt:D->Ac->M Ac}{gb:Ac->M Out}{ds:List D}(I:Nat->Ac->Prop)(h0:I 0 ρ)
 (step:∀i d ρ,ds[i]?=some d->I i ρ->∃ρ1,gt d ρ=.ok ρ1/\WP (gb ρ1) (I (i+1)) (inLoop (I (i+1)) nx rt) ex) (done:∀ρ,I ds.length ρ->nx ρ):WP (forM gt gb ds ρ) nx rt ex:=by
 have key:∀(n i:Nat) (ρ:Ac),i+n=ds.length->I i ρ->WP (forM gt gb (ds.drop i) ρ) nx rt ex:=by
  intro n;induction n with
  |zero =>
   intro i ρ hi h;have e:i=ds.length:=by omega
   subst e;rw[zam,forM];exact done ρ h
  |succ n ih =>
   intro i ρ hi h;have af:i<ds.length:=by omega
   obtain⟨ρ1,h1,h2⟩:=step i ds[i] ρ (zh af) h;rw[EV af,forM,h1];dsimp only;cases q:gb ρ1 with
   |bad|ex x=>rw[q] at h2;exact h2
   |ok o =>
    rw[q] at h2;cases o with
    |next ρ2=>exact ih (i+1) ρ2 (by omega) h2
    |ret d|Cv d|E5 d ρ2=>exact h2
    |cont ρ2=>exact ih (i+1) ρ2 (by omega) h2
    |brk ρ2=>exact h2
 have:=key ds.length 0 ρ (by omega) h0;rw[List.drop_zero] at this;exact this
def Si {α:Type}{c:Ac->M Bool}{b:Ac->M Out}{lt:α->α->Prop}(J:α->Ac->Prop){x:α}(hx:Acc lt x)(h0:J x ρ)
 (step:∀x ρ,J x ρ->(c ρ=.ok false/\nx ρ)\/(c ρ=.ok true/\WP (b ρ) (λ ρ2=>∃y,lt y x/\J y ρ2) (inLoop (λ ρ2=>∃y,lt y x/\J y ρ2) nx rt) ex)):WP (Li c b ρ) nx rt ex:=by
 have key:∀x,Acc lt x->∀ρ,J x ρ->∃n,Aw c b n ρ≠.bad/\WP (Aw c b n ρ) nx rt ex:=by
  intro x hx;induction hx with
  |intro x _ ih =>
   intro ρ h;rcases step x ρ h with ⟨h1,h2⟩|⟨h1,h2⟩
   ·refine⟨1,?_,?_⟩
    ·rw[Aw,h1];intro z;cases z
    ·rw[Aw,h1];exact h2
   ·cases q:b ρ with
    |bad=>rw[q] at h2;exact h2.elim
    |ex y =>
     rw[q] at h2;refine⟨1,?_,?_⟩
     ·rw[Aw,h1];dsimp only;rw[q];intro z;cases z
     ·rw[Aw,h1];dsimp only;rw[q];exact h2
    |ok o =>
     rw[q] at h2;have go:∀ρ2,(∃y,lt y x/\J y ρ2)->(∀n,Aw c b (n+1) ρ=Aw c b n ρ2)->∃n,Aw c b n ρ≠.bad/\WP (Aw c b n ρ) nx rt ex:=by
      rintro ρ2 ⟨y,hy,hJ⟩ e;obtain⟨n,h3,h4⟩:=ih y hy ρ2 hJ;exact⟨n+1,by rw[e];exact h3,by rw[e];exact h4⟩
     cases o with
     |next ρ2|cont ρ2=>exact go ρ2 h2 λ n=>by rw[Aw,h1];dsimp only;rw[q]
     |brk ρ2 =>
      refine⟨1,?_,?_⟩
      ·rw[Aw,h1];dsimp only;rw[q];intro z;cases z
      ·rw[Aw,h1];dsimp only;rw[q];exact h2
     |ret d =>
      refine⟨1,?_,?_⟩
      ·rw[Aw,h1];dsimp only;rw[q];intro z;cases z
      ·rw[Aw,h1];dsimp only;rw[q];exact h2
     |Cv d =>
      refine⟨1,?_,?_⟩
      ·rw[Aw,h1];dsimp only;rw[q];intro z;cases z
      ·rw[Aw,h1];dsimp only;rw[q];exact h2
     |E5 d ρ2 =>
      refine⟨1,?_,?_⟩
      ·rw[Aw,h1];dsimp only;rw[q];intro z;cases z
      ·rw[Aw,h1];dsimp only;rw[q];exact h2
 obtain⟨n,h1,h2⟩:=key x hx ρ h0;unfold Li;have hx:∃n,Aw c b n ρ≠.bad:=⟨n,h1⟩;rw[dif_pos hx];have e:Aw c b (zg hx) ρ=Aw c b n ρ:=by
  have a:=CJ (zb hx) n;have b':=CJ h1 (zg hx);rw[Nat.add_comm] at b';rw[<-a,<-b']
 rw[e];exact h2
abbrev xF (Q:OT->Prop)(o:Out):Prop:=match o with
 | .ret d=>Q (.sh d)
 | .Cv c=>∃t,sS c=.ok t/\Q t
 |_=>False
def Lj {Q:OT->Prop}(h:WP m (λ _=>Q (.sh .AK)) (xF Q) (λ _=>False)):∃t,Ze m=.ok t/\Q t:=by
 cases m with
 |bad|ex x=>exact h.elim
 |ok o =>
  cases o with
  |next ρ|ret d=>exact⟨_,rfl,h⟩
  |Cv c=>exact h
  |E5 c ρ|brk ρ|cont ρ=>exact h.elim
def Bd {t:OT}(h:WP m (λ _=>OT.sh .AK=t) (xF (·=t)) (λ _=>False)):Ze m=.ok t:=by
 obtain⟨u,h1,h2⟩:=Lj (Q:=(·=t)) h;rw[h1,h2]
abbrev xG (Q:D->Prop)(o:Out):Prop:=match o with
 | .ret d=>Q d
 | .Cv c=>∃t,wB c=.ok t/\Q t
 |_=>False
def tD {Q:D->Prop}(h:WP m (λ _=>Q .AK) (xG Q) (λ _=>False)):∃t,fin m=.ok t/\Q t:=by
 cases m with
 |bad|ex x=>exact h.elim
 |ok o =>
  cases o with
  |next ρ|ret d=>exact⟨_,rfl,h⟩
  |Cv c=>exact h
  |E5 c ρ|brk ρ|cont ρ=>exact h.elim
def tE {d:D}(h:WP m (λ _=>D.AK=d) (xG (·=d)) (λ _=>False)):fin m=.ok d:=by
 obtain⟨u,h1,h2⟩:=tD (Q:=(·=d)) h;rw[h1,h2]
end
section
variable {d:D}{ds es:List D}{ρ ρ':Ac}{o:Option Cl}{i n:Nat}{p:Option Nat}{t u:OT}{π:List Nat}{b:Bool}{ks vs:List D}{ts:List OT}{m:M D}
def uF:rv 0 (some (.val d)::ρ)=.ok d:=rfl
def uG:rv (i+1) (o::ρ)=rv i ρ:=rfl
abbrev Sj (f:Ac->Ac)(m:M Out):M Out:=match m with
 | .ok (.next ρ)=>.ok (.next (f ρ))
 |m=>m
def Jy {f:Ac->Ac}:Sj f (.ok (.next ρ))=.ok (.next (f ρ)):=rfl
def Jz:Oh 0 (some (.own ds)::ρ)=.ok []:=rfl
def JA:Oh 0 (some (.ow (.Ia n ds))::ρ)=.ok []:=rfl
def HA:Oh 0 (some (.ow (.tree p t))::ρ)=.ok []:=by unfold Oh TJ;simp[treeOf]
def VB:Oh (i+1) (o::ρ)=Oh i ρ:=rfl
def VC:TJ 0 (some (.own ds)::ρ) π=KO (.lst (ds.map .sh)) π:=rfl
def VD:TJ 0 (some (.ow (.Ia n ds))::ρ) π=KO (.lst (ds.map .sh)) π:=rfl
def Nb:TJ 0 (some (.ow (.tree p t))::ρ) π=KO t π:=rfl
def M8:TK 0 (some (.own ds)::ρ) []=.ok ds:=by unfold TK;simp[VC,CL]
def M9:TK 0 (some (.ow (.Ia n ds))::ρ) []=.ok ds:=by unfold TK;simp[VD,CL]
def JB:TK 0 (some (.ow (.tree p (.lst (ds.map .sh))))::ρ) []=.ok ds:=by unfold TK;simp[Nb,CL]
def hV:TK (i+1) (o::ρ) π=TK i ρ π:=rfl
def HB:CY 0 (some (.own ds)::ρ) []=.ok (ds.map .sh):=by unfold CY;simp[VC]
def HC:CY 0 (some (.ow (.Ia n ds))::ρ) []=.ok (ds.map .sh):=by unfold CY;simp[VD]
def Fp:CY 0 (some (.ow (.tree p (.lst ts)))::ρ) []=.ok ts:=by unfold CY;simp[Nb]
def Qy:CY (i+1) (o::ρ) π=CY i ρ π:=rfl
def D7:FY 0 (some (.ow (.tree p (.Bn b ks (vs.map .sh))))::ρ) []=.ok (b,ks,vs):=by unfold FY;simp[Nb,CL]
def Qz:FY (i+1) (o::ρ) π=FY i ρ π:=rfl
def JC:Fn 0 (some (.own ds)::ρ) [] u=.ok (.next (some (toCl none u)::ρ)):=by unfold Fn;simp[treeOf]
def JD:Fn 0 (some (.ow (.Ia n ds))::ρ) [] u=.ok (.next (some (toCl (some n) u)::ρ)):=by unfold Fn;simp[treeOf]
def HD:Fn 0 (some (.ow (.tree p t))::ρ) π u=.ok (.next (some (toCl p (EI t π u))::ρ)):=by unfold Fn;simp[treeOf]
def VE:Fn (i+1) (o::ρ) π u=Sj (o::·) (Fn i ρ π u):=by
 unfold Fn Sj;simp only[zK,zj];split
 ·rename_i c e;split<;>simp_all
 ·simp_all
def JE:WM 0 (some (.own ds)::ρ) (.ok d)=if ds.length<1000 then .ok (.next (some (.own (ds++[d]))::ρ)) else .bad:=rfl
def VF:WM (i+1) (o::ρ) m=Sj (o::·) (WM i ρ m):=by
 unfold WM;rw[zK];cases q:ρ[i]? with
 |none=>rfl
 |some oo =>
  cases oo with
  |none=>rfl
  |some c =>
   cases c with
   |own ds =>
    cases m with
    |ok d =>
     simp only[M.A9,zj];by_cases h:ds.length<1000
     ·rw[if_pos h,if_pos h];rfl
     ·rw[if_neg h,if_neg h];rfl
    |ex x|bad=>rfl
   |val d|ow w=>rfl
def JF {j:Int}:WU 0 (some (.own ds)::ρ) (.ok (.int j)) (.ok d)=if 0<=j/\j.toNat<=ds.length/\ds.length<1000 then .ok (.next (some (.own (ds.take j.toNat++d::ds.drop j.toNat))::ρ)) else .bad:=rfl
def VG {m2:M D}:WU (i+1) (o::ρ) m m2=Sj (o::·) (WU i ρ m m2):=by
 unfold WU;rw[zK];cases q:ρ[i]? with
 |none=>rfl
 |some oo =>
  cases oo with
  |none=>rfl
  |some c =>
   cases c with
   |own ds =>
    cases m with
    |ok d =>
     cases m2 with
     |ok d2 =>
      simp only[M.A9,zj];cases d with
      |int j =>
       dsimp only;by_cases h:0<=j/\j.toNat<=ds.length/\ds.length<1000
       ·rw[if_pos h,if_pos h];rfl
       ·rw[if_neg h,if_neg h];rfl
      |_=>rfl
     |ex x|bad=>rfl
    |ex x|bad=>rfl
   |val d|ow w=>rfl
def JG:Up 0 (some (.val d)::ρ)=.ok (.ret d):=rfl
def JH:Up 0 (some (.own ds)::ρ)=.ok (.Cv (.own ds)):=rfl
def Ma {w:Ow}:Up 0 (some (.ow w)::ρ)=.ok (.Cv (.ow w)):=rfl
def VH:Up (i+1) (o::ρ)=Up i ρ:=rfl
def xH:wC i ρ π=match TJ i ρ π with | some (.sh d)=>.ok d | _=>.bad:=rfl
def hX:Zh (i+1) (o::ρ)=o::Zh i ρ:=by
 unfold Zh;simp only[zK,zj];split<;>simp_all
def hZ {c:Cl}:Zh 0 (some c::ρ)=some (Jm c)::ρ:=rfl
def JI:Jm (.val d)=.val d:=rfl
def JJ:Jm (.own ds)=.val (.lst ds):=rfl
def JK:Jm (.ow (.Ia n ds))=.val (.lst ds):=rfl
def Mb:Jm (.ow (.tree p t))=.val (er t):=rfl
def IR:er (.Bn b ks (vs.map .sh))=.Bn b ks vs:=by rw[er,IM]
def Fq:er (.lst (ds.map .sh))=.lst ds:=by rw[er,IM]
def Pg:er (.sh d)=d:=rfl
def uH {l:List (Option Nat)}:BF (none::l) ρ=none::BF l ρ:=rfl
def uI:BF [] ρ=[]:=rfl
def iA {l:List (Option Nat)}:BF (some i::l) ρ=(match ρ[i]? with | some (some (.val d))=>some (.val d) | _=>none)::BF l ρ:=rfl
def iB {α:Type}{x y:α}:(if ([]:List D).length<=1000 then x else y)=x:=if_pos (by show 0<=1000;decide)
def iC {α:Type}{x y:α}{a:D}:(if [a].length<=1000 then x else y)=x:=if_pos (by show 1<=1000;decide)
def iD {α:Type}{x y:α}{a b:D}:(if [a,b].length<=1000 then x else y)=x:=if_pos (by show 2<=1000;decide)
def iE {α:Type}{x y:α}{a b c:D}:(if [a,b,c].length<=1000 then x else y)=x:=if_pos (by show 3<=1000;decide)
def iF {α:Type}{x y:α}{a b c d:D}:(if [a,b,c,d].length<=1000 then x else y)=x:=if_pos (by show 4<=1000;decide)
def toCl_nil:toCl none (.lst [])=.own []:=rfl
def CD {α:Type}{gt:D->Ac->M Ac}{ft:Ac->M Bool}{fe:Ac->M D}{g:α->D}(p:α->Bool)(f:α->D):∀ {l:List α},(∀x∈l,∃ρ1,gt (g x) ρ=.ok ρ1/\ft ρ1=.ok (p x)/\(p x=true->fe ρ1=.ok (f x)))->Bv gt ft fe (l.map g) ρ=.ok ((l.filter p).map f)
 |[],_=>rfl
 |x::r,h=>by
  obtain⟨ρ1,h1,h2,h3⟩:=h x zd;have ih:=CD (gt:=gt) (ft:=ft) (fe:=fe) (g:=g) p f (l:=r) λ y hy=>h y (ze _ hy);rw[zf,Bv,h1];dsimp only;rw[h2];dsimp only;rw[List.filter_cons];cases hp:p x with
  |true =>
   rw[if_pos rfl,h3 hp];dsimp only;rw[ih];simp
  |false=>simp[ih]
def Ca {α:Type}{gt:D->Ac->M Ac}{ft:Ac->M Bool}{fe:Ac->M D}{g:α->D}(f:α->D){l:List α}(h:∀x∈l,∃ρ1,gt (g x) ρ=.ok ρ1/\ft ρ1=.ok true/\fe ρ1=.ok (f x)):Bv gt ft fe (l.map g) ρ=.ok (l.map f):=by
 have:=CD (gt:=gt) (ft:=ft) (fe:=fe) (ρ:=ρ) (g:=g) (λ _=>true) f (l:=l) λ x hx=>by
  obtain⟨ρ1,h1,h2,h3⟩:=h x hx;exact⟨ρ1,h1,h2,λ _=>h3⟩
 rw[this,List.filter_eq_self.mpr (λ _ _=>rfl)]
def BL {α:Type}{g:α->D}{l:List α}{i:Nat}{d:D}(h:(l.map g)[i]?=some d):∃x,l[i]?=some x/\d=g x:=by
 rw[z5] at h;cases q:l[i]? with
 |none=>rw[q] at h;cases h
 |some x=>rw[q] at h;cases h;exact⟨x,rfl,rfl⟩
def QA:gN (.lst (ds.map .sh))=.ok ds:=by unfold gN;simp[CL,gM]
def HE {α:Type}{x:α}:gM (some x)=.ok x:=rfl
def Mc:Se i ρ (.sh d)=.ok (.next (ρ.set i (some (.val d)))):=rfl
def JL:Se i ρ (.lst ts)=.ok (.next (ρ.set i (some (toCl none (.lst ts))))):=rfl
def JM:Se i ρ (.tup ts)=.ok (.next (ρ.set i (some (.ow (.tree none (.tup ts)))))):=rfl
def JN:Se i ρ (.Bn b ks ts)=.ok (.next (ρ.set i (some (.ow (.tree none (.Bn b ks ts)))))):=rfl
def JO {x:Str}{ns:List Str}:Se i ρ (.ins x ns ts)=.ok (.next (ρ.set i (some (.ow (.tree none (.ins x ns ts)))))):=rfl
def Md:Zf (.sh d)=.ok (.ret d):=rfl
def JP:Zf (.lst ts)=.ok (.Cv (.ow (.tree none (.lst ts)))):=rfl
def JQ:Zf (.tup ts)=.ok (.Cv (.ow (.tree none (.tup ts)))):=rfl
def JR:Zf (.Bn b ks ts)=.ok (.Cv (.ow (.tree none (.Bn b ks ts)))):=rfl
def Sk {α:Type}{f:α->D}(h:∀x,Ji (f x)=true):∀l:List α,Jj (l.map f)=true
 |[]=>by simp[Jj]
 |x::r=>by rw[zf,Jj,h x,Sk h r];rfl
def Sl:∀ds:List D,FX (ds.map .sh)=Jj ds
 |[]=>by simp[Jj,FX]
 |d::r=>by rw[zf,FX,Gz,Sl r,Jj]
def nZ (h:Ji d=true):TH (.ok (.sh d))=.ok (.sh d):=by unfold TH;simp[Gz,h]
def iG (h:Jj ds=true):TH (.ok (.lst (ds.map .sh)))=.ok (.lst (ds.map .sh)):=by unfold TH;simp[Gz,Sl,h]
def iH {i:Int}:Ji (.int i)=true:=by simp[Ji]
def Zs:DB (.lst ds)=.ok (!ds.isEmpty):=rfl
def oA {a s m:Int}(h0:0<=a)(h1:a<m)(s0:1<=s)(s1:s<m):(a+s)%m≠a:=by
 by_cases h:a+s<m
 ·rw[Int.emod_eq_of_lt (by omega) h];omega
 ·have e:(a+s)%m=(a+s-m)%m:=by rw[Int.sub_emod_right]
  rw[e,Int.emod_eq_of_lt (by omega) (by omega)];omega
def Me {k:Nat}(i j:Int):fN k (.int i) (.int j)=.ok (.bl (decide (i=j))):=by
 rw[Uk (Gw _) (Gw _)];simp only[Ba,Bool.beq_eq_decide_eq]
def Mf {k:Nat}(i j:Int):dS k (.int i) (.int j)=.ok (.bl (!decide (i=j))):=by
 rw[Ul (Gw _) (Gw _)];simp only[Ba,Bool.beq_eq_decide_eq]
def JS {i j:Int}:sC (.int i) (.int j)=.ok (.int (i+j)):=rfl
def JT {i j:Int}:sD (.int i) (.int j)=.ok (.int (i-j)):=rfl
def Mg {i j:Int}:wY (.int i) (.int j)=.ok (.bl (decide (i<j))):=rfl
def Mh {i j:Int}:xY (.int i) (.int j)=.ok (.bl (decide (i<=j))):=rfl
def Mi {i j:Int}:wZ (.int i) (.int j)=.ok (.bl (decide (j<i))):=rfl
def Mj {i j:Int}:xZ (.int i) (.int j)=.ok (.bl (decide (j<=i))):=rfl
def Ml {i:Int}:xA (.int i)=.ok (some i):=rfl
def JU:WH [.lst ds]=.ok (.int ds.length):=rfl
def JV:WH [.tup ds]=.ok (.int ds.length):=rfl
def ite_tt {α:Type}{x y:α}:(if true=true then x else y)=x:=rfl
def ite_ff {α:Type}{x y:α}:(if false=true then x else y)=y:=rfl
def Zt {lo hi:Option Int}{x:D}(h:pT lo hi x=.ok (.lst ds)):dU lo hi x=.ok (.lst (ds.map .sh)):=by
 unfold pT at h;unfold dU;cases x with
 |lst xs=>dsimp only at h ⊢;injection h with h;injection h with h;rw[h]
 |_=>cases h
def Nc (xs:List D)(k:Nat):dU (some (k:Int)) none (.lst xs)=.ok (.lst ((xs.drop k).map .sh)):=Zt (Z0 xs k)
def iI (xs:List D)(a b:Nat):dU (some (a:Int)) (some (b:Int)) (.lst xs)=.ok (.lst (((xs.drop a).take (b-a)).map .sh)):=Zt (fR xs a b)
def JW:KQ (.lst ds)=.ok (.lst (ds.map .sh)):=rfl
def JX:KQ (.tup ds)=.ok (.lst (ds.map .sh)):=rfl
def HF {ns:List Int}:sY [.lst (ns.map D.int)]=.ok (.int ns.sum):=by unfold sY;dsimp only;rw[EX]
def HG {T:String}:Jf T (.lst ds)=.ok (.bl (Eu T (.lst ds))):=rfl
def HH {T:String}:Jf T (.tup ds)=.ok (.bl (Eu T (.tup ds))):=rfl
def HI {T:String}{k:Int}:Jf T (.int k)=.ok (.bl (Eu T (.int k))):=rfl
def HJ {T:String}:Jf T .AK=.ok (.bl (Eu T .AK)):=rfl
def JY {T:String}{k:Bool}:Jf T (.bl k)=.ok (.bl (Eu T (.bl k))):=rfl
def HK {T:String}{k:Str}:Jf T (.str k)=.ok (.bl (Eu T (.str k))):=rfl
def HL {T:String}:Jf T (.Bn b ks vs)=.ok (.bl (Eu T (.Bn b ks vs))):=rfl
def VI:Eu "list" (.lst ds)=true:=rfl
def VJ:Eu "tuple" (.tup ds)=true:=rfl
def VL {k:Int}:Eu "int" (.int k)=true:=rfl
def VM {k:Int}:Eu "bool" (.int k)=false:=rfl
def VN:Eu "dict" (.Bn b ks vs)=true:=rfl
def HM {neg:Bool}{k:Int}{ns:List Int}:Jr neg (.int k) (.lst (ns.map D.int))=.ok (.bl (if neg then !ns.contains k else ns.contains k)):=by
 unfold Jr uC;dsimp only;rw[EX]
abbrev vO (s:Option D):Option Cl:=s.map .val
def Mm {s:Option D}:Ew (vO s::ρ)=vO s::Ew ρ:=by cases s<;>rfl
end
abbrev Ut (x:Int):List Int->List Int
 |[]=>[x]
 |y::r=>if x<=y then x::y::r else y::Ut x r
abbrev GC:List Int->List Int
 |[]=>[]
 |x::r=>Ut x (GC r)
def KR (x:Int):∀l:List Int,(Ut x l).Perm (x::l)
 |[]=>.refl _
 |y::r=>by
  unfold Ut;split
  ·exact .refl _
  ·exact ((KR x r).cons y).trans (.swap x y r)
def Eb:∀l:List Int,(GC l).Perm l
 |[]=>.refl _
 |x::r=>(KR x (GC r)).trans ((Eb r).cons x)
def Lk (x:Int):∀l:List Int,l.Pairwise (·<=·)->(Ut x l).Pairwise (·<=·)
 |[],_=>by simp[Ut]
 |y::r,h=>by
  unfold Ut;have hy:=List.pairwise_cons.mp h;split
  ·rename_i bY;exact List.pairwise_cons.mpr ⟨λ z hz=>by
    rcases zq.mp hz with rfl|hz
    ·exact bY
    ·exact Int.le_trans bY (hy.1 z hz),h⟩
  ·rename_i bY;exact List.pairwise_cons.mpr ⟨λ z hz=>by
    rcases zq.mp ((KR x r).mem_iff.mp hz) with rfl|hz
    ·omega
    ·exact hy.1 z hz,Lk x r hy.2⟩
def Fs:∀l:List Int,(GC l).Pairwise (·<=·)
 |[]=>.nil
 |x::r=>Lk x _ (Fs r)
def GD:∀ {a b:List Int},a.Perm b->a.Pairwise (·<=·)->b.Pairwise (·<=·)->a=b
 |[],b,hp,_,_=>(List.nil_perm.mp hp).symm
 |x::r,[],hp,_,_=>by have:=hp.length_eq;simp at this
 |x::r,y::t,hp,ha,hb=>by
  have bK:=List.pairwise_cons.mp ha;have aA:=List.pairwise_cons.mp hb;have e:x=y:=by
   have h1:x∈y::t:=hp.mem_iff.mp (zd ..);have h2:y∈x::r:=hp.mem_iff.mpr (zd ..);rcases zq.mp h1 with e|h1
   ·exact e
   rcases zq.mp h2 with e|h2
   ·exact e.symm
   have:=bK.1 _ h2;have:=aA.1 _ h1;omega
  subst e;rw[GD (List.Perm.cons_inv hp) bK.2 aA.2]
def JZ:∀ {us:List Value}{ns:List Int},IntsAre us ns->Vals (ns.map V.int) us
 |_,_,.nil=>.nil
 |_,_,.cons n t h=>.cons ⟨t,rfl⟩ (JZ h)
def Nd {K:za}{H:Hp}:∀l:List Int,Ah K H (l.map V.int) (l.map D.int)
 |[]=>.nil
 |x::r=>.cons (.int _) (Nd r)
section
variable {X:Cx}{WX:Str->Hp->Prop}{c:Bool}{P0:Es}{P:Addr->Prop}{H:Hp}{σ:St}{ρ:Ac}{a b e:Expr}{f g:Ac->M D}{fn:Ac->M OT}{pos:Pos}{te:TE}
abbrev wG (X:Cx)(te:TE):TE:=λ σ H Q=>te σ H λ x H1=>∃p ns,x=.ref p/\D2 X.K H1 p (List.map V.int ns)/\ns.length<64/\∀r,H1 r=none->Q (.ref r) (upd H1 r (.lst ((GC ns).map V.int)))
def X6 {p:Pos}(hc:X.calm=true)(hg:Gl X "sorted")(hm:X.mg "sorted" = none)(he:PE X e te)(hv:bootBuiltins "sorted" = some (.builtin "sorted"):=by decide +kernel)(hs: ~~~(starEach [e] X.env=[(false,eval e X.env)])):
 PE X (.Call (.Name "sorted" p) [e] [] pos) (wG X te):=by
 intro pins s σ H Q I h;refine wpAny_Call_Name_kw (Dp I hg hm hv ?_);refine PyProof.Rows.callWith_builtin1 ?_ hs;rw[hs];refine zaq (Bi (he pins s σ H _ I h) λ u s1 zz=>?_);obtain⟨x,H1,I1,r1,q1⟩:=zz;obtain⟨q,ns,rfl,hq,u7,h⟩:=q1;cases r1;refine zau ?_;obtain⟨aa,r',pl,hz⟩:=I1.list hq;have hi:=intsAre_of r';have ny:=r'.length;rw[zc] at ny;refine sorted_ints pl.isList hi (by omega) λ out ck b1 b2 b3=>?_;obtain⟨c',be⟩:=sortedAll_at s1.heap aa out;have e:ck=GC ns:=GD (b2.trans (Eb ns).symm) b3 (Fs ns);subst e;refine⟨.ref _,_,I1.laid (t':=s1.toks) (o:=.lst ((GC ns).map V.int)) (λ b o e=>sortedAll_old e) (Nat.le_succ _) ⟨?_,out.toList,c',JZ b1,by simpa using be⟩,rfl,h _ (I1.Au.fresh (Nat.le_succ _))⟩;rw[zc,(Eb ns).length_eq];exact yN (AJ (by omega))
abbrev iJ (d:D):M OT:=match d with
 | .lst xs=>(match CO xs with|some ns=>if ns.length<64 then .ok (.lst (((GC ns).map .int).map .sh)) else .bad|none=>.bad)
 |_=>.bad
def X7 {ns:List Int}(h:ns.length<64):iJ (.lst (ns.map .int))=.ok (.lst (((GC ns).map .int).map .sh)):=by
 unfold iJ;dsimp only;rw[EX];dsimp only;rw[if_pos h]
def X8 {p:Pos}(hc:X.calm=true)(hg:Gl X "sorted")(hm:X.mg "sorted" = none)(he:DE X WX true e f)(hv:bootBuiltins "sorted" = some (.builtin "sorted"):=by decide +kernel)(hs: ~~~(starEach [e] X.env=[(false,eval e X.env)])):
 DN X WX (.Call (.Name "sorted" p) [e] [] pos) (λ ρ=>(f ρ).bind iJ):=by
 obtain⟨te,e1,e2⟩:=he;refine⟨_,X6 hc hg hm e1 hv hs,λ P0 P σ H Q ρ E h=>?_⟩;refine e2 P0 P σ H _ ρ E ?_;dsimp only at h;refine YH h λ d h=>?_;intro v H1 s1 hv;unfold iJ at h;split at h
 ·rename_i xs;split at h
  ·rename_i ns eb;have:=EY eb;subst this;split at h
   ·rename_i hl;cases hv with
    |lst hs hh =>
     have:=E7 hh;subst this;exact⟨_,ns,rfl,hs.B5,hl,h.KQ s1 (Nd _)⟩
   ·exact h.elim
  ·exact h.elim
 ·exact h.elim
abbrev iK (d k:D):M OT:=match k with
 | .int j=>if 0<=j/\j.toNat<=1000 then .ok (.lst ((zt j.toNat d).map .sh)) else .bad
 |_=>.bad
def Nf {d:D}{n:Nat}(h:n<=1000):iK d (.int (n:Int))=.ok (.lst ((zt n d).map .sh)):=by
 unfold iK;dsimp only;rw[if_pos ⟨by omega,by omega⟩,yM]
def Uu {cu:Pos}(ha:DE X WX true a f)(hb:DE X WX true b g)(aL: ~~~(starEach [a] X.env=[(false,eval a X.env)])):
 DN X WX (.BinOp (.List [a] cu) .Mult b pos) (λ ρ=>(f ρ).bind λ d=>(g ρ).bind λ k=>iK d k):=by
 obtain⟨ta,a1,a2⟩:=ha;obtain⟨tb,b1,b2⟩:=hb;refine⟨_,Yc mS (Q7 (Bf a1 Cp aL)) b1,λ P0 P σ H Q ρ E h=>?_⟩;dsimp only at h;refine a2 P0 P σ H _ ρ E ?_;refine YH h λ d h=>?_;intro v H1 s1 hv;have E1:=E.same s1;refine⟨yN (AJ (by simp)),λ p hp=>?_⟩;have s2:Ae H1 (upd H1 p (.lst [v])):=AS hp _;have E2:=E1.same s2;refine b2 P0 P σ _ _ ρ E2 ?_;cases q2:g ρ with
 |bad=>rw[q2] at h;exact h
 |ex x=>rw[q2] at h;exact λ H' s3=>h H' ((s1.trans s2).trans s3)
 |ok k =>
  rw[q2] at h;simp only[M.A9] at h;unfold iK at h;intro w H3 s3 hw;cases k with
  |int j =>
   dsimp only at h;by_cases hj:0<=j/\j.toNat<=1000
   ·rw[if_pos hj] at h;cases hw;refine⟨p,j,[v],rfl,rfl,s3 _ _ Aq,by omega,by omega,yN (AJ (by simp;omega)),?_⟩;rw[P9];exact h.KQ ((s1.trans s2).trans s3) (S7 ((hv.mono s2.del).mono s3.del) j.toNat)
   ·rw[if_neg hj] at h;exact h.elim
  |_=>exact h.elim
end
abbrev iL (f:Str):List Str->List D->Option D
 |n::ns,d::ds=>if f==n then some d else iL f ns ds
 |_,_=>none
def Sn {K:za}{H:Hp}{f:Str}:∀ {fs:List (Str×V)}{ds:List D}{d:D},Ah K H (fs.map yT) ds->iL f (fs.map zH) ds=some d->∃v,fs.lookup f=some v/\BV K H v d
 |[],ds,d,_,h=>by simp[iL] at h
 |(n,v)::fs,_,d,.cons hv ht,h=>by
  rw[zf,iL] at h;rw[yW];cases q:f==n with
  |true=>rw[q,if_pos rfl] at h;cases h;exact⟨v,rfl,hv⟩
  |false=>rw[q,if_neg (by simp)] at h;exact Sn ht h
def Ng {K:za}{H:Hp}{f:Str}:∀ {fs:List (Str×V)}{ds:List D},Ah K H (fs.map yT) ds->iL f (fs.map zH) ds=none->fs.lookup f=none
 |[],ds,_,h=>rfl
 |(n,v)::fs,_,.cons hv ht,h=>by
  rw[zf,iL] at h;rw[yW];cases q:f==n with
  |true=>rw[q,if_pos rfl] at h;cases h
  |false=>rw[q,if_neg (by simp)] at h;exact Ng ht h
structure Ic (K:za)(x f:Str):Prop where
 ex:∃C,zE K mainGlobals x=some (some (.ref C))/\Wt K C/\Iw K C f
abbrev Oj (cs:List Str)(f:Str)(d:D):M D:=match d with
 | .ins x ns ds=>if x∈cs then (match iL f ns ds with|some e=>.ok e|none=>.bad) else .bad
 |_=>.bad
section
variable {X:Cx}{E:XK}{WX:Str->Hp->Prop}{c:Bool}{P0:Es}{P:Addr->Prop}{H:Hp}{σ:St}{ρ:Ac}{a b e:Expr}{es:List Expr}{f g:Ac->M D}{fs:Ac->M (List D)}{fn:Ac->M OT}{pos:Pos}{te:TE}
def EJ (cs:List Str){fl:Str}(nz:∀x∈cs,Ic X.K x fl)(ha:DE X WX c a f)(hb: ~~~(attributeBase a fl X.env (eval a X.env)=eval a X.env)):DE X WX c (.Attribute a fl pos) (λ ρ=>(f ρ).bind (Oj cs fl)):=by
 obtain⟨ta,a1,a2⟩:=ha;refine⟨_,mG a1 hb,λ P0 P σ H Q ρ E h=>?_⟩;dsimp only at h;refine a2 P0 P σ H _ ρ E ?_;cases e:f ρ with
 |bad|ex x=>rw[e] at h;exact h
 |ok d =>
  rw[e] at h;simp only[M.A9] at h;intro v H1 s1 hv;unfold Oj at h;split at h
  ·rename_i x ns ds;split at h
   ·rename_i hx;split at h
    ·rename_i d' el;cases hv with
     |ins hn ha hl =>
      obtain⟨C,bB,hc,dq⟩:=(nz x hx).ex;rw[hn] at bB;cases bB;obtain⟨v',l1,l2⟩:=Sn hl el;exact⟨_,_,_,_,v',rfl,(Ak ha).2,hc,dq,l1,h v' H1 s1 l2⟩
    ·exact h.elim
   ·exact h.elim
  ·exact h.elim
structure Ph (K:za)(x m qual:Str)(st:Stmt)(ps:List Str):Prop where
 ex:∃C f fd,zE K mainGlobals x=some (some (.ref C))/\Wt K C/\Meth K C m f/\XX K m qual st f fd/\Binds K fd ps []
structure IS (P:Program)(w:World)(K:za)(mg:Str->Option Value)(base:Heap)(x m:Str)(k n:Nat)(F:List D->M OT):Prop where
 ex:∃C fa fd ps,zE K mainGlobals x=some (some (.ref C))/\Wt K C/\Meth K C m fa/\Di P w K mg base (Ui P w base) k fa fd ps (spT K n F)/\Binds K fd ps []
def Mn {P:Program}{w:World}{K:za}{mg:Str->Option Value}{base:Heap}{x m qual:Str}{st:Stmt}{N ps:List Str}{k n:Nat}(T:Ph K x m qual st ps)(S:Ad N ps (A5 st))(g:Ac->M Out)(hb:∀(f:Addr) (B4:Value) (A:Around) (outer:List Env) (s:Shared) (H:Hp) (E:XK),Bu k (A.deeper (envOfC qual (A5 st) s.heap.objs.size f B4))->S4 (kF P w K mg base N qual (A5 st) f B4 A outer s H E) (CB K E) (AN st) g)(hn: ~~~(ps.length=n)):
 IS P w K mg base x m (k+1) n (λ ds=>Ze (g (AE N ds))):=by
 obtain⟨C,f,fd,h1,h2,h3,F,hB⟩:=T.ex;subst hn;exact⟨⟨C,f,fd,ps,h1,h2,h3,sT F S g (hb f),hB⟩⟩
abbrev uJ (x:Str):List (Str×(List D->M OT))->Option (List D->M OT)
 |[]=>none
 |(y,F)::r=>if x=y then some F else uJ x r
def VO {x:Str}{F:List D->M OT}:∀ {ms:List (Str×(List D->M OT))},uJ x ms=some F->(x,F)∈ms
 |[],h=>by cases h
 |(y,G)::r,h=>by
  unfold uJ at h;split at h
  ·rename_i e;cases h;subst e;exact zd
  ·exact ze _ (VO h)
abbrev GF (ms:List (Str×(List D->M OT)))(m:Str)(d:D):M (List D->M OT):=match d with
 | .ins x ns es=>(match uJ x ms with
  |some F=>(match iL m ns es with|none=>.ok F|some _=>.bad)
  |none=>.bad)
 |_=>.bad
def So {ms:List (Str×(List D->M OT))}{m:Str}{d:D}{F:List D->M OT}(h:GF ms m d=.ok F):∃x ns es,d=.ins x ns es/\(x,F)∈ms/\iL m ns es=none:=by
 unfold GF at h;split at h
 ·rename_i x ns es;split at h
  ·rename_i G e;split at h
   ·rename_i e2;cases h;exact⟨x,ns,es,rfl,VO e,e2⟩
   ·cases h
  ·cases h
 ·cases h
def Pj {ms:List (Str×(List D->M OT))}{m:Str}{d:D}{x:Str}:GF ms m d≠.ex x:=λ h=>by
 unfold GF at h;split at h
 ·split at h
  ·split at h<;>cases h
  ·cases h
 ·cases h
abbrev Zu (X:Cx)(m:Str)(k:Nat)(E:XK)(ta:TE)(t:TA):TE:=λ σ H Q=>ta σ H λ x H1=>∃a C dx fs f fd ps n F,x=.ref a/\H1 a=some (.ins C dx fs)/\fs.lookup m=none/\Wt X.K C/\Meth X.K C m f/\Di X.prog X.w X.K X.mg X.base (Ui X.prog X.w X.base) k f fd ps (spT X.K n F)/\Binds X.K fd ps []/\
 t σ H1 λ vs H2=>spT X.K n F (x::vs) H2 Q E
def Zv {pl:Sem Bool}{o:Expr}{m:Str}{k:Nat}{ta:TE}{t:TA}{apos:Pos}(he:PE X o ta)(hr:Bu k X.A)(hx:Gh (Ui X.prog X.w X.base) X E)(ha:PA X (e::es) t)(aL: ~~~(starEach (e::es) X.env=(false,eval e X.env)::starEach es X.env))(aq: ~~~((backTo pos (starEach es X.env)).any (·.1)=false))(ht: ~~~(eval (.Call (.Attribute o m apos) (e::es) [] pos) X.env=(do
  let ov <-eval o X.env
  standAt apos.atName
  let (f,first) <-holding [ov] (getMethod ov m pl)
  callWith pos f first (backTo pos (starEach (e::es) X.env)) (backToKw pos (keywordEach [] X.env))))):
 PE X (.Call (.Attribute o m apos) (e::es) [] pos) (Zu X m k E ta t):=by
 intro pins s σ H Q I h;refine PySem.W.methodCall_KW (pl:=pl) (Bi (he pins s σ H _ I h) λ u s1 zz=>?_) ht;obtain⟨x,H1,I1,rx,a,C,dx,fs,f,fd,ps,n,F,ex,ea,l,c,hm,hF,hb,q⟩:=zz;subst ex;obtain rfl:u=yG a:=rx;refine Mx I1 ea c hm l ?_;refine PySem.W.callWith_K (first:=[.ref a]) (h₀:=X.base) I.ok.mod.XT hm.kp (Bi (ha pos pins s1 σ H1 _ I1 q) λ us s2 ⟨vs,H2,I2,r,q2⟩=>⟨I2.Mv,?_⟩) aL aq;exact Q8 (us:=.ref a::us) (vs:=.ref a::vs) hF hr hb .nil hx I2 (.cons rfl r) (by rw[zF];exact q2)
def X9 {pl:Sem Bool}{o:Expr}{m:Str}{k:Nat}{ta:TE}{apos:Pos}(he:PE X o ta)(hr:Bu k X.A)(hx:Gh (Ui X.prog X.w X.base) X E)(ht: ~~~(eval (.Call (.Attribute o m apos) [] [] pos) X.env=(do
  let ov <-eval o X.env
  standAt apos.atName
  let (f,first) <-holding [ov] (getMethod ov m pl)
  callWith pos f first (backTo pos (starEach [] X.env)) (backToKw pos (keywordEach [] X.env))))):
 PE X (.Call (.Attribute o m apos) [] [] pos) (Zu X m k E ta mI):=by
 intro pins s σ H Q I h;refine PySem.W.methodCall_KW (pl:=pl) (Bi (he pins s σ H _ I h) λ u s1 zz=>?_) ht;obtain⟨x,H1,I1,rx,a,C,dx,fs,f,fd,ps,n,F,ex,ea,l,c,hm,hF,hb,q⟩:=zz;subst ex;obtain rfl:u=yG a:=rx;refine Mx I1 ea c hm l ?_;exact PySem.W.callWith_K0 (first:=[.ref a]) I1.Mv hm.kp (Q8 (us:=[.ref a]) (vs:=[.ref a]) hF hr hb .nil hx I1 (.cons rfl .nil) q)
def VP {P:Program}{w:World}{K:za}{mg:Str->Option Value}{base:Heap}{CX:V8}{k k':Nat}{f:Addr}{fd:FuncData}{ps:List Str}{sp:Sp}(h:k<=k')(F:Di P w K mg base CX k f fd ps sp):Di P w K mg base CX k' f fd ps sp:=
 ⟨F.len,λ A stack s H args us vs Q E hr=>F.run A stack s H args us vs Q E (hr.mono h)⟩
def QB {o:Expr}{fo:Ac->M D}{m:Str}{k n:Nat}{apos:Pos}{pl:Sem Bool}(ms:List (Str×(List D->M OT)))(xo:EW X E)(n4:∀p∈ms,∃k',k'<=k/\IS X.prog X.w X.K X.mg X.base p.1 m k' n p.2)(hr:Bu k X.A)(ho:DE X (CB X.K E) true o fo)(ha:DA X (CB X.K E) true (e::es) fs)(aV:(e::es).length+1=n)(aL: ~~~(starEach (e::es) X.env=(false,eval e X.env)::starEach es X.env))(aq: ~~~((backTo pos (starEach es X.env)).any (·.1)=false))(ht: ~~~(eval (.Call (.Attribute o m apos) (e::es) [] pos) X.env=(do
  let ov <-eval o X.env
  standAt apos.atName
  let (f,first) <-holding [ov] (getMethod ov m pl)
  callWith pos f first (backTo pos (starEach (e::es) X.env)) (backToKw pos (keywordEach [] X.env))))):
 DN X (CB X.K E) (.Call (.Attribute o m apos) (e::es) [] pos) (λ ρ=>(fo ρ).bind λ d=>(GF ms m d).bind λ F=>(fs ρ).bind λ ds=>F (d::ds)):=by
 obtain⟨ta,a1,a2⟩:=ho;obtain⟨tb,b1,b2,b3⟩:=ha;refine⟨_,Zv (pl:=pl) a1 hr xo.call b1 aL aq ht,λ P0 P σ H Q ρ Ev h=>?_⟩;dsimp only at h;refine a2 P0 P σ H _ ρ Ev ?_;refine YH h λ d h=>?_;intro v H1 s1 hv;cases q2:GF ms m d with
 |bad=>rw[q2] at h;exact h.elim
 |ex y=>exact (Pj q2).elim
 |ok F =>
  rw[q2] at h;simp only[M.A9] at h;obtain⟨x,ns,u8,rfl,aQ,n5⟩:=So q2;obtain⟨k',fc,M0⟩:=n4 _ aQ;obtain⟨C,fa,fd,ps,h1,h2,h3,h4,h5⟩:=M0.ex;cases hv with
  |ins hn hH hl =>
   rw[hn] at h1;cases h1;refine⟨_,_,_,_,fa,fd,ps,n,F,rfl,(Ak hH).2,Ng hl n5,h2,h3,VP fc h4,h5,?_⟩;refine b2 P0 P σ H1 _ ρ (Ev.same s1) ?_;cases q3:fs ρ with
   |bad=>rw[q3] at h;exact h
   |ex y=>rw[q3] at h;exact λ H' s=>h H' (s1.trans s)
   |ok ds =>
    rw[q3] at h;simp only[M.A9] at h;intro vs H2 s2 ay;have jb:=(BV.ins hn hH hl).mono s2.del;exact⟨by rw[zk,ay.length,b3 ρ ds q3];exact aV,P,_,((Ev.same s1).same s2).BX,.cons jb ay,h.same (s1.trans s2)⟩
def F3 {o:Expr}{fo:Ac->M D}{m:Str}{k:Nat}{apos:Pos}{pl:Sem Bool}(ms:List (Str×(List D->M OT)))(xo:EW X E)(n4:∀p∈ms,∃k',k'<=k/\IS X.prog X.w X.K X.mg X.base p.1 m k' 1 p.2)(hr:Bu k X.A)(ho:DE X (CB X.K E) true o fo)(ht: ~~~(eval (.Call (.Attribute o m apos) [] [] pos) X.env=(do
  let ov <-eval o X.env
  standAt apos.atName
  let (f,first) <-holding [ov] (getMethod ov m pl)
  callWith pos f first (backTo pos (starEach [] X.env)) (backToKw pos (keywordEach [] X.env))))):
 DN X (CB X.K E) (.Call (.Attribute o m apos) [] [] pos) (λ ρ=>(fo ρ).bind λ d=>(GF ms m d).bind λ F=>F [d]):=by
 obtain⟨ta,a1,a2⟩:=ho;refine⟨_,X9 (pl:=pl) a1 hr xo.call ht,λ P0 P σ H Q ρ Ev h=>?_⟩;dsimp only at h;refine a2 P0 P σ H _ ρ Ev ?_;refine YH h λ d h=>?_;intro v H1 s1 hv;cases q2:GF ms m d with
 |bad=>rw[q2] at h;exact h.elim
 |ex y=>exact (Pj q2).elim
 |ok F =>
  rw[q2] at h;simp only[M.A9] at h;obtain⟨x,ns,u8,rfl,aQ,n5⟩:=So q2;obtain⟨k',fc,M0⟩:=n4 _ aQ;obtain⟨C,fa,fd,ps,h1,h2,h3,h4,h5⟩:=M0.ex;cases hv with
  |ins hn hH hl =>
   rw[hn] at h1;cases h1;refine⟨_,_,_,_,fa,fd,ps,1,F,rfl,(Ak hH).2,Ng hl n5,h2,h3,VP fc h4,h5,?_⟩;exact⟨rfl,P,_,(Ev.same s1).BX,.cons (BV.ins hn hH hl) .nil,h.same s1⟩
end
section
variable {X:Cx}{E:XK}{WX:Str->Hp->Prop}{c:Bool}{P0:Es}{P:Addr->Prop}{H:Hp}{σ:St}{ρ:Ac}{a b e:Expr}{es:List Expr}{f g:Ac->M D}{fs:Ac->M (List D)}{fn:Ac->M OT}{pos:Pos}{te:TE}
structure oB (K:za)(mg:Str->Option Value)(x:Str)(C:Addr):Prop where
 ns:zE K mainGlobals x=some (some (.ref C))
 xI:mg x=some (.ref C)
def Pk {p dx C:Addr}(hp:H p=none)(hd:H dx=none):Ae H (upd (upd H dx (.own p)) p (.ins C dx [])):=λ b u q=>by
 rw[Ai (Ax q hp),Ai (Ax q hd)];exact q
structure tF (P:Program)(w:World)(K:za)(mg:Str->Option Value)(base:Heap)(x:Str)(k n:Nat)(F:OT->List D->M (OT×OT)):Prop where
 ex:∃C fa fd ps,oB K mg x C/\Mk K C fa/\Di P w K mg base (Ui P w base) k fa fd ps (N7 K n F)/\Binds K fd ps []
abbrev Pm (m:M (OT×OT)):M OT:=match m with
 | .ok (t,.sh .AK)=>.ok t
 |_=>.bad
def iM {x:Str}{k n:Nat}{F:OT->List D->M (OT×OT)}{p:Pos}(xo:EW X E)(G:tF X.prog X.w X.K X.mg X.base x k n F)(hr:Bu (k+1) X.A)(hg:Gl X x)(ha:DA X (CB X.K E) true (e::es) fs)(aV:(e::es).length+1=n)(aN:(x==("__debug__" : Str))=false:=by decide)(he: ~~~(starEach (e::es) X.env=(false,eval e X.env)::starEach es X.env))(aq: ~~~((backTo pos (starEach es X.env)).any (·.1)=false)):
 DN X (CB X.K E) (.Call (.Name x p) (e::es) [] pos) (λ ρ=>(fs ρ).bind λ ds=>Pm (F (.ins x [] []) ds)):=by
 obtain⟨C,fa,fd,ps,hT,hM,hF,hb⟩:=G.ex;obtain⟨ta,a1,a2,a3⟩:=ha;refine⟨_,V9 hM hF hr hg hT.xI hb .nil xo.call a1 aN he aq,λ P0 P σ H Q ρ Ev h=>?_⟩;dsimp only at h;refine a2 P0 P σ H _ ρ Ev ?_;cases q:fs ρ with
 |bad|ex x=>rw[q] at h;exact h
 |ok ds =>
  rw[q] at h;simp only[M.A9] at h;intro vs H1 s1 ay y dx hy hd ae;rw[zF];have E1:=Ev.same s1;have sm:=Pk (C:=C) hy hd;have bG:∀a∈[y],H1 a=none:=λ a ha=>by rw[zi.mp ha];exact hy
  refine⟨by rw[zk,ay.length,a3 ρ ds q];exact aV,PU P [y],y,.ins x [] [],[y],vs,ds,rfl,λ a ha=>?_,λ a ha=>.inr ha,by simp,C8.ins (fs:=[]) hT.ns Aq .nil,ay.mono (C6 sm bG),?_⟩
  ·rcases ha with ha|ha
   ·exact (E1.BX a ha).same sm
   ·rw[zi.mp ha];exact⟨_,Aq,λ xs=>⟨(λ z=>by cases z),(λ z w=>by cases w)⟩⟩
  ·cases q2:F (.ins x [] []) ds with
   |bad|ex z=>rw[q2] at h;exact h
   |ok tr =>
    obtain⟨t,r⟩:=tr;rw[q2] at h;simp only[Pm] at h;intro v H' P' ag fr k1 k2 k3 k4 k5 k6 k7 k8 k9 f7;cases r with
    |sh d =>
     cases d with
     |AK =>
      cases k6 with
      |sh hv =>
       cases hv;refine⟨rfl,h _ ag H' ?_ ?_ k5 ?_⟩
       ·intro b u eb;have e1:=s1 b u eb;have bH:b≠y:=λ z=>by rw[z,hy] at e1;cases e1
        have e2:=sm b u e1;by_cases hP:P b
        ·exact (k1 b (.inl hP) (by simp[bH])).2.trans e2
        ·exact (Ak (k3 b u (by rw[As λ z=>z.elim hP λ w=>bH (zi.mp w)];exact e2))).2
       ·intro b dr;cases eb:H b with
        |none=>rfl
        |some u =>
         exfalso;have e1:=s1 b u eb;have bH:b≠y:=λ z=>by rw[z,hy] at e1;cases e1
         have e2:=sm b u e1;have hn:=λ z=>bH (zi.mp ((k9 b dr).2 z));exact (Ak (k3 b u (by rw[As hn];exact e2))).1 (k9 b dr).1
       ·refine k4.move (λ b u eb=>?_) λ _ _=>rfl;obtain⟨g1,g2⟩:=Ak eb;rw[As]
        ·exact g2
        ·rintro (z|z)
         ·have bH:b≠y:=λ w=>by
           obtain⟨o,e1,_⟩:=E1.BX b z;rw[w,hy] at e1;cases e1
          exact g1 (k1 b (.inl z) (by simp[bH])).1
         ·exact g1 (k9 b z).1
     |_=>exact h.elim
    |_=>exact h.elim
end
abbrev Pn (i:Nat)(ρ:Ac)(π:List Nat):M (Str×List Str×List D):=match TJ i ρ π with
 |some (.ins x ns ts)=>(match Dx ts with|some vs=>.ok (x,ns,vs)|none=>.bad)
 |_=>.bad
def Zw {i:Nat}{ρ:Ac}{π:List Nat}{x:Str}(h:Pn i ρ π=.ex x):False:=by
 unfold Pn at h;split at h
 ·split at h<;>cases h
 ·cases h
abbrev Zx (f:Str):List Str->List Str
 |[]=>[f]
 |g::r=>if g=f then g::r else g::Zx f r
abbrev Zy (f:Str)(d:D):List Str->List D->List D
 |[],_=>[d]
 |g::r,e::t=>if g=f then d::t else e::Zy f d r t
 |_::_,[]=>[]
def Sq (f:Str)(v:V):∀fs:List (Str×V),(DV f v fs).map zH=Zx f (fs.map zH)
 |[]=>rfl
 |(g,x)::r=>by
  rw[zf,Zx,DV];split
  ·rfl
  ·rw[zf,Sq f v r]
def Sr {K:za}{H:Hp}{f:Str}{v:V}{d:D}(hv:BV K H v d):∀ {fs:List (Str×V)}{ds:List D},Ah K H (fs.map yT) ds->Ah K H ((DV f v fs).map yT) (Zy f d (fs.map zH) ds)
 |[],_,.nil=>.cons hv .nil
 |(g,x)::r,_,.cons hx ht=>by
  rw[zf,Zy,DV];split
  ·exact .cons hv ht
  ·exact .cons hx (Sr hv ht)
section
variable {X:Cx}{E:XK}{WX:Str->Hp->Prop}{c:Bool}{P0:Es}{P:Addr->Prop}{H:Hp}{σ:St}{ρ:Ac}{a b e:Expr}{f g:Ac->M D}{fn:Ac->M OT}{fp:Ac->M (List Nat)}{pos:Pos}{i:Nat}{es:List Expr}{fs:Ac->M (List D)}
def Bg.ins {K:za}{π:List Nat}{v:V}{t1:OT}{x:Str}{ns:List Str}{vs:List D}(pl:Bg K P H σ ρ i π v t1)(E:Al K P0 P H σ ρ)(h:Pn i ρ π=.ok (x,ns,vs)):
 t1=.ins x ns (vs.map .sh)/\∃l C dx fs,v=.ref l/\Ah K (del H P) (fs.map yT) vs/\C8 K H P (.ref l) (.ins x ns (vs.map .sh)) [l]/\zE K mainGlobals x=some (some (.ref C))/\H l=some (.ins C dx fs)/\ns=fs.map zH:=by
 unfold Pn at h;rw[pl.at] at h;split at h
 ·rename_i x' ck nq e;split at h
  ·rename_i aU e';cases e;cases h;have z:=CC e';subst z;obtain⟨az,o1,hp,nd⟩:=pl.own E;generalize ht:OT.ins x ns (vs.map .sh)=t at o1;cases o1 with
   |ins hn hh hr =>
    injection ht with h1 h2 h3
    subst h1 h2 h3;obtain⟨rfl,hs⟩:=hr.nQ;exact⟨rfl,_,_,_,_,rfl,hs,.ins hn hh hr,hn,hh,rfl⟩
   |_=>cases ht
  ·cases h
 ·cases h
def Mo (cs:List Str){fl:Str}(nz:∀x∈cs,Ic X.K x fl)(ha:DP X WX a i fp)(hv:DE X WX true e f){pos':Pos}(hs: ~~~(swapsWith e (some (.Attribute a fl pos')) pos.line X.env=pure false)):
 DS X WX (.Assign [.Attribute a fl pos'] e pos) (λ ρ=>(f ρ).bind λ v=>(fp ρ).bind λ π=>(Pn i ρ π).bind λ z=>if z.1∈cs/\z.2.1.length<1000 then Fn i ρ π (.ins z.1 (Zx fl z.2.1) ((Zy fl v z.2.1 z.2.2).map .sh)) else .bad):=by
 obtain⟨ta,a1,a2⟩:=ha;obtain⟨tv,v1,v2⟩:=hv;refine⟨_,mH a1 v1 hs,λ P0 P σ H Z ρ E h=>?_⟩;dsimp only at h;refine v2 P0 P σ H _ ρ E ?_;refine WL h E λ d h=>?_;intro w H0 s0 hw;have E0:=E.same s0;refine a2 P0 P σ H0 _ ρ E0 ?_;cases q:fp ρ with
 |bad=>rw[q] at h;exact h
 |ex x=>rw[q] at h;exact λ H' s=>h H' P ((E.tr s0).trans (E0.tr s))
 |ok π =>
  rw[q] at h;simp only[M.A9] at h;intro v t1 H1 s1 pl;have E1:=E0.same s1;have u9:=(E.tr s0).trans (E0.tr s1);cases q3:Pn i ρ π with
  |bad=>rw[q3] at h;exact h.elim
  |ex x=>exact (Zw q3).elim
  |ok z =>
   obtain⟨x,ns,vs⟩:=z;rw[q3] at h;simp only[M.A9] at h;by_cases hc:x∈cs/\ns.length<1000
   ·rw[if_pos hc] at h;obtain⟨rfl,l,C,dx,fs,rfl,cf,ot,hn,hH,rfl⟩:=pl.ins E1 q3;obtain⟨C',bB,bP,dq⟩:=(nz x hc.1).ex;rw[hn] at bB;cases bB;have va:=hw.mono s1.del;obtain⟨c,p,t0,g1,g2,E3,t3⟩:=E1.nX (o':=.ins C dx (DV fl w fs)) (u:=.ins x (Zx fl (fs.map zH)) ((Zy fl d (fs.map zH) vs).map .sh)) pl ot (λ _=>⟨λ z=>(by cases z),λ _ z=>by cases z⟩) (λ mv=>by
     have:=C8.ins (K:=X.K) (H:=upd H1 l (.ins C dx (DV fl w fs))) (P:=P) (p:=l) (fs:=DV fl w fs) (x:=x) hn Aq (((Sr va cf).mono mv).ows);rw[Sq] at this;exact this)
    rw[Fo g1 g2] at h;exact⟨l,C,dx,fs,rfl,hH,bP,dq,by have:=hc.2;rw[zc] at this;exact this,h _ _ _ (u9.trans t3) E3⟩
   ·rw[if_neg hc] at h;exact h.elim
end
def C7 {K:za}{f:Str}:∀y∈([]:List Str),Ic K y f:=λ y h=>by cases h
def Bx {K:za}{f x:Str}{xs:List Str}(h:Ic K x f)(t:∀y∈xs,Ic K y f):∀y∈x::xs,Ic K y f:=λ y hy=>by
 rcases zq.mp hy with rfl|hy
 ·exact h
 ·exact t y hy
def DC {P:Program}{w:World}{K:za}{mg:Str->Option Value}{base:Heap}{m:Str}{k n:Nat}:∀p∈([]:List (Str×(List D->M OT))),∃k',k'<=k/\IS P w K mg base p.1 m k' n p.2:=λ p h=>by cases h
def CS {P:Program}{w:World}{K:za}{mg:Str->Option Value}{base:Heap}{m x:Str}{k k' n:Nat}{F:List D->M OT}{ms:List (Str×(List D->M OT))}(hk:k'<=k)(h:IS P w K mg base x m k' n F)(t:∀p∈ms,∃k',k'<=k/\IS P w K mg base p.1 m k' n p.2):
 ∀p∈(x,F)::ms,∃k',k'<=k/\IS P w K mg base p.1 m k' n p.2:=λ p hp=>by
 rcases zq.mp hp with rfl|hp
 ·exact⟨k',hk,h⟩
 ·exact t p hp
end L2
set_option maxRecDepth 1000000
set_option maxHeartbeats 0
namespace L2
open PySem
def Po:entryFor table "dict.update.loop" = some Builtin.«dict.update.loop»:=by unfold entryFor;rfl
open PySem PySem.Spec PySem.Calls PyProof.Rows PySem.W PySem.Builtin PySem.Builtin.ObjectAttr
section
variable {prog:Program}{w:World}{A:Around}{E:Value->Shared->Prop}{s:Shared}
def call_meets {T id:String}{nm:Str}{B:Builtin}{self:Value}{rest:List Value}{Sp:PySem.Spec}{Q:Value->Shared->Prop}(SL:Slot T nm id)(hB:entryFor table id=some B)(ht:s.TypeIs self T)(ha:argsOk id ⟨self::rest,[]⟩)(m:Meets (B ⟨self::rest,[]⟩) Sp)
 (h:Sp A (λ r s'=>match r with | .ok (.ret v)=>Q v s' | .ok _=>False | .error e=>E e s') s):wpAny (model prog w) A (call (.builtin id) (self::rest)) Q E s:=
 wpAny_call (codeAny_call_builtin SL.plain hB (SL.check _ _ _ _ _ _ _ _ ht ha (m prog w A _ s h)))
def Ss {l:Addr}{xs:Array Value}{k:Nat}{sl:Array (Option Value)}{Q:Option Value->Shared->Prop}(hh:A.handled=none)(hl:s.heap.get? l=some {cls:=.type "list",data:=.seq xs k,slots:=sl})
 (h:∀h' tk,(∀b o,s.heap.get? b=some o->h'.get? b=some o)->Q none {s with heap:=h',toks:=tk}):wpAny (model prog w) A (getAttr? (.ref l) "keys") Q E s:=by
 have miss:typeLookup (.type "list") "keys" = pure none:=am_miss_of_fast (by decide +kernel);have T0:∀hp:Heap,hp.get? l=some {cls:=.type "list",data:=.seq xs k,slots:=sl}->Looks (model prog w) hp (typeOf (.ref l)) (.type "list"):=λ hp e=>(Looks.ld e).andThen .now;have SL:=PySem.F.slot_list_getattribute;have aF:(onTheHeap (Value.type "list")&&Value.builtin "list.__getattribute__" == Value.builtin "object.__getattribute__")=false:=rfl;have gz:(false&&onTheHeap (Value.builtin "list.__getattribute__"))=false:=rfl;unfold getAttr? getAttrBy?;refine wpAny_bind (wpAny_mkText (wpAny_bind (wpAny_attempt ?_)));unfold getAttrBy;refine wpAny_holding (wpAny_bind ((T0 _ hl).at (wpAny_bind ?_)));rw[SL.lookup];refine wpAny_pure ?_;dsimp only;rw[aF,if_neg z4];unfold getAttrByItsOwn hookBefore;rw[if_neg (show ¬ onTheHeap (Value.type "list")=true from z4)];refine wpAny_bind (wpAny_pure (wpAny_bind (wpAny_attempt (wpAny_holding ?_))));unfold callGetattribute;rw[gz,if_neg z4];unfold boundAndCalled;rw[SL.bind];refine wpAny_bind (wpAny_pure ?_);dsimp only;refine call_meets SL am_entry_list_getattribute ⟨_,hl,rfl⟩ (PySem.F.args_list_getattribute_2 _ _) (meets_getattribute_miss_list l xs k sl "keys" s.toks miss rfl (by decide)) ⟨hl,hh,λ h' tk e ne=>?_⟩;dsimp only;obtain⟨kp,nw,t,u,he⟩:=ne;have T1:Looks (model prog w) h' (typeOf (.ref e)) (.type "AttributeError"):=(Looks.ld he).andThen .now;unfold getattributeRaised isInstance;refine wpAny_bind (wpAny_bind (T1.at ?_));rw[sub_AttributeError];refine wpAny_pure ?_;rw[if_pos rfl];unfold hookBehind;rw[if_neg (show ¬ onTheHeap (Value.type "list")=true from z4),am_list_getattr_none];refine wpAny_bind (wpAny_pure ?_);unfold hookOrError attributeErrorLeaves;dsimp only;rw[if_pos (show (!false)=true from rfl)];refine wpAny_bind (wpAny_throw ?_);refine wpAny_bind (wpAny_bind (T1.at ?_));rw[sub_AttributeError];refine wpAny_pure ?_;rw[if_pos rfl];exact wpAny_pure (h h' tk kp)
def Xa {t:Addr}{aa:Array Value}{Q:List Value->Shared->Prop}(ht:IsTup s.heap t aa)(h:Q aa.toList s):wpAny (model prog w) A (Dict.pairItems (.ref t)) Q E s:=by
 obtain⟨o,h1,h2,n,h3⟩:=ht;have T0:Looks (model prog w) s.heap (typeOf (.ref t)) (.type "tuple"):=h2▸(Looks.ld h1).andThen .now;unfold Dict.pairItems;refine wpAny_bind (T0.at ?_);have hx:(Value.type "tuple" == Value.type "list" || Value.type "tuple" == Value.type "tuple")=true:=by decide
 rw[if_pos hx];exact wpAny_bind (wpAny_seqItems h1 h3 (wpAny_pure h))
def HN:plainId "dict.update.loop" = true:=by decide +kernel
def Nh {K:Type}[DecidableEq K]{knd:KeyKind prog w K}{h h':Heap}{d I l:Addr}{i:Nat}{xs:List (List K×Addr×Value)}(hd:h.DictOfH (tupleKind knd) d xs)(hit:h.IsListIter I l i)(sb:∀b o,b≠I->h.get? b=some o->h'.get? b=some o):
 h'.DictOfH (tupleKind knd) d xs:=by
 obtain⟨o,es,ep,h1,h2,h3,h4,h5,h6⟩:=hd;obtain⟨oi,i1,i2,i3⟩:=hit;refine⟨o,es,ep,sb d o (λ z=>?_) h1,h2,h3,h4,λ x hx=>?_,h6⟩
 ·subst z;rw[i1] at h1;cases h1;rw[i3] at h3;cases h3
 ·obtain⟨ok,aa,n,k1,k2,k3,k4⟩:=h5 x hx;refine⟨ok,aa,n,sb _ _ (λ z=>?_) k1,k2,k3,k4⟩;rw[z,i1] at k1;cases k1;rw[i3] at k3;cases k3
def Uv {K:Type}[DecidableEq K]{knd:KeyKind prog w K}{R:Result->Shared->Prop}{d I l:Addr}{items:Array Value}{h0:Heap}(ps:List (List K×Addr×Value))(hh:A.handled=none)(du:A.in1.units<cLine)(j9:l≠I)(vb:d≠I)(rj:l≠d)
 (rn:ps.length=items.size) (hsz:items.size+1<=sizeLine) (hl:h0.IsList l items)
 (hp:∀(j:Nat) p,ps[j]?=some p->(p.2.1≠d/\p.2.1≠I/\(tupleKind knd).is h0 p.1 p.2.1)/\∃t,items[j]?=some (.ref t)/\t≠d/\t≠I/\IsTup h0 t #[.ref p.2.1,p.2.2]):
 ∀(m i:Nat) (xs:List (List K×Addr×Value)) (s:Shared),items.size-i=m->i<=items.size->xs.length<=i->s.heap.IsListIter I l i->s.heap.DictOfH (tupleKind knd) d xs->(∀b o,b≠d->b≠I->h0.get? b=some o->s.heap.get? b=some o)->
  (∀h' tk,h'.DictOfH (tupleKind knd) d ((ps.drop i).foldl (λ acc p=>storedH acc p.1 p.2.1 p.2.2) xs)->(∀b o,b≠d->b≠I->h0.get? b=some o->h'.get? b=some o)->R (.ok (.ret .none)) {s with heap:=h',toks:=tk})->
  codeAny (model prog w) A (.builtin "dict.update.loop" ⟨[.ref d,.ref I,rawInt i,.none],[]⟩) R s:=by
 intro m;induction m with
 |zero =>
  intro i xs s hm hi vc hit hd hf h;have bE:i=items.size:=by omega
  refine codeAny_builtin Po ?_;rw[Around.under_plainId HN _];show wpAny _ A.in1 (pyNext (.ref I) >>= _) _ _ s;refine wpAny_bind (wpAny_pyNext_list_end (A:=A.in1) hh hit (hl.at λ o e=>hf l o rj j9 e) (by simp[bE]) λ h' eb=>?_);have hd2:=Nh hd hit λ b o hb e=>eb b o hb e;show wpAny _ A.in1 (Dict.addKeywords d [] >>= _) _ _ _;unfold Dict.addKeywords;refine wpAny_bind (wpAny_bind ?_);refine wpAny_pure (wpAny_pure (wpAny_pure ?_));have ed:ps.drop i=[]:=by rw[List.drop_eq_nil_iff];omega
  rw[ed] at h;exact h h' s.toks hd2 λ b o h1 h2 e=>eb b o h2 (hf b o h1 h2 e)
 |succ m ih =>
  intro i xs s hm hi vc hit hd hf h;have af:i<items.size:=by omega
  obtain⟨p,n6⟩:∃p,ps[i]?=some p:=⟨ps[i]'(by omega),zh _⟩;obtain⟨⟨p1,p2,p3⟩,t,ht,t1,t2,t3⟩:=hp i p n6;refine codeAny_builtin Po ?_;rw[Around.under_plainId HN _];show wpAny _ A.in1 (pyNext (.ref I) >>= _) _ _ s;refine wpAny_bind (wpAny_pyNext_list_item (A:=A.in1) hit (hl.at λ o e=>hf l o rj j9 e) ht λ h' bT sb=>?_);have hd2:h'.DictOfH (tupleKind knd) d xs:=Nh hd hit λ b o hb e=>(sb.2 b hb).trans e;have n9:∀b o,b≠d->b≠I->h0.get? b=some o->h'.get? b=some o:=λ b o h1 h2 e=>(sb.2 b h2).trans (hf b o h1 h2 e);have t4:IsTup h' t #[.ref p.2.1,p.2.2]:=by
   obtain⟨o,e1,e2⟩:=t3;exact⟨o,n9 t o t1 t2 e1,e2⟩
  have p4:(tupleKind knd).is h' p.1 p.2.1:=by
   obtain⟨o,aa,n,e1,e2⟩:=p3;exact⟨o,aa,n,n9 _ o p1 p2 e1,e2⟩
  dsimp only;refine wpAny_bind (wpAny_holding (wpAny_bind (wpAny_tryCatch (Xa t4 ?_))));show wpAny _ A.in1 (holding [.ref p.2.1,p.2.2] (dictSet d (.ref p.2.1) p.2.2)) _ _ _;refine wpAny_holding (wpAny_dictSet_heap (knd:=tupleKind knd) (hsz:=by omega) du p4 hd2 λ h3 oe rq=>?_);refine wpAny_pure ⟨plainId_quiet HN _,?_⟩;have og:h3.IsListIter I l (i+1):=by
   obtain⟨o,e1,e2⟩:=bT;exact⟨o,(rq.2 I (zY vb)).trans e1,e2⟩
  have ed:ps.drop i=p::ps.drop (i+1):=by
   rw[zb0 (by omega:i<ps.length)];rw[zh (by omega:i<ps.length)] at n6;rw[z7 n6]
  rw[ed,zL] at h;have ny:(storedH xs p.1 p.2.1 p.2.2).length<=i+1:=by
   unfold storedH;split
   ·rw[zc];omega
   ·rw[zB,yP];omega
  have q:=ih (i+1) (storedH xs p.1 p.2.1 p.2.2) {s with heap:=h3,toks:=s.toks+(tupleKind knd).draws p.1} (by omega) (by omega) ny og oe (λ b o h1 h2 e=>(rq.2 b h1).trans (n9 b o h1 h2 e)) h;exact q
def LU {K:Type}[DecidableEq K]{knd:KeyKind prog w K}{Q:Value->Shared->Prop}{l:Addr}{items:Array Value}{n:Nat}{sl:Array (Option Value)}(ps:List (List K×Addr×Value))(hh:A.handled=none)(du:A.units+2<cLine)
 (rn:ps.length=items.size) (hsz:items.size+1<=sizeLine) (hl:s.heap.get? l=some {cls:=.type "list",data:=.seq items n,slots:=sl})
 (hp:∀(j:Nat) p,ps[j]?=some p->(tupleKind knd).is s.heap p.1 p.2.1/\∃t,items[j]?=some (.ref t)/\IsTup s.heap t #[.ref p.2.1,p.2.2])
 (h:∀h' tk,h'.DictOfH (tupleKind knd) s.heap.objs.size (ps.foldl (λ acc p=>storedH acc p.1 p.2.1 p.2.2) [])->(∀b o,s.heap.get? b=some o->h'.get? b=some o)->Q (.ref s.heap.objs.size) {s with heap:=h',toks:=tk}):
 wpAny (model prog w) A (call (.type "dict") [.ref l]) Q E s:=by
 refine callType_codes (Q₁:=λ obj s₁=>obj=.ref s.heap.objs.size/\s₁={s with heap:=s.heap.push {cls:=.type "dict",data:=.dict #[]} }) PySem.F.kt_called_dict (PySem.F.kt_typeCall_dict_1 _) PySem.F.entry_dict_init
  (kt_code_dict_new _ ⟨rfl,rfl⟩) λ obj s₁ h₁=>?_
 obtain⟨rfl,rfl⟩:=h₁;have hS:(s.heap.push {cls:=.type "dict",data:=.dict #[]}).get? s.heap.objs.size=some {cls:=.type "dict",data:=.dict #[]}:=z9 _ rfl;have ll:l<s.heap.objs.size:=zw hl;have c4:(s.heap.push {cls:=.type "dict",data:=.dict #[]}).get? l=some {cls:=.type "list",data:=.seq items n,slots:=sl}:=zp _ hl;refine⟨⟨_,hS,rfl⟩,PySem.F.args_dict_init_2 _ _,?_⟩;have TD:Looks (model prog w) (s.heap.push {cls:=.type "dict",data:=.dict #[]}) (typeOf (.ref s.heap.objs.size)) (.type "dict"):=(Looks.ld hS).andThen .now;have TL:Looks (model prog w) (s.heap.push {cls:=.type "dict",data:=.dict #[]}) (typeOf (.ref l)) (.type "list"):=(Looks.ld c4).andThen .now;unfold Builtin.«dict.__init__» Dict.selfAndRest Dict.notOrdered;dsimp only;rw[if_pos (by decide)];refine wpAny_bind (wpAny_bind (wpAny_bind (TD.at ?_)));rw[if_neg (by decide)];refine wpAny_pure ?_;unfold Dict.addrOf;refine wpAny_bind (wpAny_pure (wpAny_pure ?_));unfold Dict.updateCommon Dict.updateFrom;dsimp only;refine wpAny_bind (TL.at ?_);rw[if_pos (by decide)];refine wpAny_bind (Ss (A:=A.in1.in1) hh c4 λ h2 yp oh=>?_);rw[if_pos (show (none:Option Value).isNone=true from rfl)];refine wpAny_bind (wpAny_rule ?_);have aH:h2.IsList l items:=⟨_,oh _ _ c4,rfl,n,rfl⟩;have rz:=oh _ _ hS;refine wpAny_bind (wpAny_pyIter_list aH ?_);refine wpAny_pure ⟨plainId_quiet HN _,?_⟩;have lz:s.heap.objs.size<h2.objs.size:=zw rz;have vd:∀b o,s.heap.get? b=some o->(h2.push {cls:=.type "list_iterator",data:=.fields #[.ref l,.int 0 0]}).get? b=some o:=λ b o e=>zp _ (oh _ _ (zp _ e));have oe:(h2.push {cls:=.type "list_iterator",data:=.fields #[.ref l,.int 0 0]}).DictOfH (tupleKind knd) s.heap.objs.size []:=
  ⟨_,#[],0,zp _ rz,⟨rfl,rfl,rfl⟩,rfl,rfl,λ x hx=>absurd hx List.not_mem_nil,yS⟩
 have af:∀b o,s.heap.get? b=some o->b≠s.heap.objs.size/\b≠h2.objs.size:=λ b o e=>by
  have:=zw e;exact⟨zD this,zD (Nat.lt_trans this lz)⟩
 refine Uv (A:=A.in1) (knd:=knd) (l:=l) (h0:=s.heap) ps hh du (zD (Nat.lt_trans ll lz)) (zD lz) (zD ll) rn hsz ⟨_,hl,rfl,n,rfl⟩ (λ j p hj=>?_) items.size 0 [] _ (by omega) (by omega) (by simp) ⟨_,z9 _ rfl,rfl,rfl⟩ oe (λ b o h1 gx e=>vd b o e) λ h' tk ba ve=>?_
 ·obtain⟨q1,t,q2,q3⟩:=hp j p hj;obtain⟨o1,_,_,e1,_⟩:=id q1;obtain⟨o2,e2,_⟩:=id q3;exact⟨⟨(af _ _ e1).1,(af _ _ e1).2,q1⟩,t,q2,(af _ _ e2).1,(af _ _ e2).2,q3⟩
 ·exact⟨rfl,h h' tk ba λ b o e=>ve b o (af _ _ e).1 (af _ _ e).2 e⟩
end
structure Xb where
 (t:Addr) (κ:List Key) (b:Addr) (v:V)
abbrev iN (H:Hp)(p:Xb):Prop:=H p.t=some (.tup [.ref p.b,p.v])/\H p.b=some (.tup (p.κ.map kV))
abbrev uK (ps:List Xb):List (List Key×V):=ps.foldl (λ acc p=>putK acc p.κ p.v) []
abbrev yD (X:Cx)(te:TE):TE:=λ σ H Q=>te σ H λ x H1=>∃(l:Addr) (ps:List Xb),x=.ref l/\D2 X.K H1 l (ps.map λ p=>V.ref p.t)/\(∀p∈ps,iN H1 p)/\ps.length<=1000/\∀r,H1 r=none->Q (.ref r) (upd H1 r (.dT (uK ps)))
def Su:∀ {ps:List Xb}{us:List Value},Vals (ps.map λ p=>V.ref p.t) us->us=ps.map λ p=>yG p.t
 |[],_,.nil=>rfl
 |p::ps,_,.cons h t=>by
  cases h;rw[zf,<-Su t]
def kM {H:Hp}:∀ {ps:List Xb}{qs:List (List Key×Addr×Value)}{kvs:List (List Key×V)}{xs:List (List Key×Addr×Value)},(∀p∈ps,iN H p)->Paired (λ(p:Xb) (q:List Key×Addr×Value)=>p.κ=q.1/\p.b=q.2.1/\RelV p.v q.2.2) ps qs->KT H kvs xs->KT H (ps.foldl (λ acc p=>putK acc p.κ p.v) kvs) (qs.foldl (λ acc p=>storedH acc p.1 p.2.1 p.2.2) xs)
 |[],_,_,_,_,.nil,h=>h
 |p::ps,_,_,_,ho,.cons (b:=q) hq t,h=>by
  obtain⟨q1,q2,q3⟩:=q;obtain⟨e1,e2,e3⟩:=hq;dsimp only at e1 e2 e3;subst e1 e2;have r:=kM (ps:=ps) (λ p' hp=>ho p' (ze _ hp)) t (h.put p.κ (ho p zd).2 e3);exact r
def Zz:∀(ps:List Xb) (kvs:List (List Key×V)),(ps.foldl (λ acc p=>putK acc p.κ p.v) kvs).length<=kvs.length+ps.length
 |[],kvs=>zv _
 |p::ps,kvs=>by
  have h1:=Zz ps (putK kvs p.κ p.v);have h2:=Ey kvs p.κ p.v;rw[zL,zk];omega
def VQ {h:Heap}{H:Hp}{P:Program}{w:World}(ok:Ga P w H h):∀ {ps:List Xb},(∀p∈ps,iN H p)->∃qs:List (List Key×Addr×Value),Paired (λ(p:Xb) (q:List Key×Addr×Value)=>p.κ=q.1/\p.b=q.2.1/\RelV p.v q.2.2) ps qs/\
 ∀(j:Nat) q,qs[j]?=some q->(tupleKind (B8 P w)).is h q.1 q.2.1/\∃t,(ps.map λ p=>yG p.t)[j]?=some (.ref t)/\IsTup h t #[.ref q.2.1,q.2.2]
 |[],_=>⟨[],.nil,λ j q e=>by simp at e⟩
 |p::ps,ho=>by
  obtain⟨qs,h1,h2⟩:=VQ ok λ p hp=>ho p (ze _ hp);obtain⟨o1,o2⟩:=ho p zd;obtain⟨_,aa,r,it⟩:=(show BW P w H h p.t (.tup [.ref p.b,p.v]) from ok p.t _ o1);obtain⟨u,v,rfl,ru,rv⟩:=r.two;cases ru;refine⟨(p.κ,p.b,v)::qs,.cons ⟨rfl,rfl,rv⟩ h1,λ j q e=>?_⟩;cases j with
  |zero =>
   rw[yU] at e;cases e;exact⟨Iy ok o2,p.t,by simp,it⟩
  |succ j =>
   rw[zK] at e;obtain⟨a1,t,a2,a3⟩:=h2 j q e;exact⟨a1,t,by simpa using a2,a3⟩
section
variable {X:Cx}{WX:Str->Hp->Prop}{c:Bool}{P0:Es}{P:Addr->Prop}{H:Hp}{σ:St}{ρ:Ac}{a b e:Expr}{f g:Ac->M D}{fn:Ac->M OT}{pos:Pos}{te:TE}
def ZA {p:Pos}{n:Nat}(hc:X.calm=true)(hu:X.A.units+n<cLine)(hg:Gl X "dict")(hm:X.mg "dict" = none)(he:PE X e te)(hv:bootBuiltins "dict" = some (.type "dict"):=by decide +kernel)(hs: ~~~(starEach [e] X.env=[(false,eval e X.env)]))(hn:2<=n:=by decide):
 PE X (.Call (.Name "dict" p) [e] [] pos) (yD X te):=by
 intro pins s σ H Q I h;refine wpAny_Call_Name_kw (Dp I hg hm hv ?_);refine zW ?_ hs;rw[hs];refine zaq (Bi (he pins s σ H _ I h) λ u s1 zz=>?_);obtain⟨x,H1,I1,r1,q1⟩:=zz;obtain⟨l,ps,rfl,hq,ho,hlen,q⟩:=q1;cases r1;refine zau ?_;obtain⟨aa,r',pl,hz⟩:=I1.list hq;have hits:=Su r';subst hits;obtain⟨⟨vg,r6,r9,oj⟩,n0,o1,o2,o3,o4⟩:=pl;dsimp only at o2 o3 o4;subst o2 o3 o4;obtain⟨qs,h1,h2⟩:=VQ I1.Au ho;refine LU (knd:=B8 X.prog X.w) qs (I1.ok.hd hc) (by omega) (by rw[zl,zc,<-h1.length]) (AJ (by rw[zl,zc];omega)) o1 (λ j p hj=>?_) λ h' tk hd kp=>?_
 ·obtain⟨a1,t,a2,a3⟩:=h2 j p hj;exact⟨a1,t,by rw[List.getElem?_toArray];exact a2,a3⟩
 ·have vh:=kM ho h1 (show KT H1 [] [] from .nil);have ja:s1.heap.objs.size<=s1.heap.objs.size:=zv _;have dw:=I1.Au.fresh ja;have vi:=Zz ps [];obtain⟨o,es,ep,g1,g2,g3,g4,g5,g6⟩:=hd;refine⟨.ref _,_,I1.laid (t':=tk) (o:=.dT (uK ps)) kp ja ⟨yN (AJ (by unfold uK;simp at vi;omega)),beq_eq_false_iff_ne.mpr (zY (zD I1.big)),_,vh.keeps (λ b ys eb=>by rw[Ai (λ z=>by rw[z,dw] at eb;cases eb)];exact eb),o,es,ep,g1,g2,g3,g4,g6⟩,rfl,q _ dw⟩
abbrev Xc:List D->Option (List (D×D))
 |[]=>some []
 | .tup [k,v]::r=>(Xc r).map ((k,v)::·)
 |_=>none
abbrev uL (l:List (D×D)):List D×List D:=l.foldl (λ z kv=>putD z.1 z.2 kv.1 kv.2) ([],[])
abbrev iO (d:D):M OT:=match d with
 | .lst xs=>(match Xc xs with|some l=>if l.length<=1000/\(l.all λ kv=>keyOk true kv.1)=true then .ok (.Bn true (uL l).1 ((uL l).2.map .sh)) else .bad|none=>.bad)
 |_=>.bad
def VR {K:za}{H:Hp}{P:Addr->Prop}:∀ {xs:List V}{ds:List D}{l:List (D×D)},Ah K (del H P) xs ds->Xc ds=some l->(l.all λ kv=>keyOk true kv.1)=true->
 ∃ps:List Xb,xs=ps.map (λ p=>V.ref p.t)/\(∀p∈ps,iN H p)/\Paired (λ(p:Xb) (kv:D×D)=>kv.1=.tup (p.κ.map Dj)/\BV K (del H P) p.v kv.2) ps l
 |_,[],l,.nil,e,_=>by cases e;exact⟨[],rfl,λ p hp=>(by cases hp),.nil⟩
 |_,d::ds,l,.cons hd ht,e,hk=>by
  unfold Xc at e;split at e
  ·rename_i bF;cases bF
  ·rename_i k v r bF;cases bF;obtain⟨l',e1,e2⟩:=zaj.mp e;subst e2;rw[List.all_cons,zG] at hk;obtain⟨ps,q1,q2,q3⟩:=VR ht e1 hk.2;have hK:=F0 hk.1;cases hK with
   |t κ =>
    cases hd with
    |tup h1 h2 =>
     obtain⟨x,y,rfl,hx,hy⟩:=h2.two;cases hx with
     |tup g1 g2 =>
      rename_i tt bb dk;have ey:=Ah.keys κ g2;subst ey;refine⟨⟨tt,κ,bb,y⟩::ps,by rw[zf,q1],λ p hp=>?_,.cons ⟨rfl,hy⟩ q3⟩;rcases zq.mp hp with rfl|hp
      ·exact⟨(Ak h1).2,(Ak g1).2⟩
      ·exact q2 p hp
  ·cases e
def ZC {K:za}{H:Hp}{P:Addr->Prop}:∀ {ps:List Xb}{l:List (D×D)}{kvs:List (List Key×V)}{vs:List D},Paired (λ(p:Xb) (kv:D×D)=>kv.1=.tup (p.κ.map Dj)/\BV K (del H P) p.v kv.2) ps l->Ah K (del H P) (kvs.map yT) vs->
 ∃aU,l.foldl (λ z kv=>putD z.1 z.2 kv.1 kv.2) (kvs.map (λ kv=>D.tup (kv.1.map Dj)),vs)=((ps.foldl (λ acc p=>putK acc p.κ p.v) kvs).map (λ kv=>D.tup (kv.1.map Dj)),aU)/\Ah K (del H P) ((ps.foldl (λ acc p=>putK acc p.κ p.v) kvs).map yT) aU
 |[],_,kvs,vs,.nil,h=>⟨vs,rfl,h⟩
 |p::ps,_,kvs,vs,.cons (b:=kv) hq t,h=>by
  obtain⟨k,d⟩:=kv;obtain⟨e1,e2⟩:=hq;dsimp only at e1 e2;subst e1;have hf:∀a b:List Key,Ba (.tup (a.map Dj)) (.tup (b.map Dj))=decide (a=b):=λ a b=>by simp only[Ba];exact M4 a b
  have bt:∃aU,(putD (kvs.map λ kv=>.tup (kv.1.map Dj)) vs (.tup (p.κ.map Dj)) d)=((putK kvs p.κ p.v).map (λ kv=>.tup (kv.1.map Dj)),aU)/\Ah K (del H P) ((putK kvs p.κ p.v).map yT) aU:=by
   unfold putD putK;rw[N4 (fk:=λ κ:List Key=>D.tup (κ.map Dj)) hf];by_cases hh:(kvs.any λ kv=>decide (kv.1=p.κ))=true
   ·rw[if_pos hh,if_pos hh];refine⟨_,by rw[Jp (fk:=λ κ:List Key=>D.tup (κ.map Dj)) hf],?_⟩;rw[<-Jo (fk:=λ κ:List Key=>D.tup (κ.map Dj)) hf];exact Jq e2 h
   ·rw[if_neg hh,if_neg hh];refine⟨_,by rw[z6];rfl,?_⟩;rw[z6];exact h.snoc e2
  obtain⟨yq,g1,g2⟩:=bt;obtain⟨vj,g3,g4⟩:=ZC t g2;refine⟨vj,?_,g4⟩;rw[zL];dsimp only;rw[g1];exact g3
def Sv {p:Pos}{n:Nat}(hc:X.calm=true)(hu:X.A.units+n<cLine)(hg:Gl X "dict")(hm:X.mg "dict" = none)(he:DE X WX true e f)(hv:bootBuiltins "dict" = some (.type "dict"):=by decide +kernel)(hs: ~~~(starEach [e] X.env=[(false,eval e X.env)]))(hn:2<=n:=by decide):
 DN X WX (.Call (.Name "dict" p) [e] [] pos) (λ ρ=>(f ρ).bind iO):=by
 obtain⟨te,e1,e2⟩:=he;refine⟨_,ZA hc hu hg hm e1 hv hs hn,λ P0 P σ H Q ρ E h=>?_⟩;refine e2 P0 P σ H _ ρ E ?_;dsimp only at h;refine YH h λ d h=>?_;intro v H1 s1 hv;unfold iO at h;split at h
 ·rename_i xs;split at h
  ·rename_i l eb;split at h
   ·rename_i hl;cases hv with
    |lst hs hh =>
     obtain⟨ps,q1,q2,q3⟩:=VR hh eb hl.2;subst q1;obtain⟨aU,g1,g2⟩:=ZC (kvs:=[]) q3 .nil;refine⟨_,ps,rfl,hs.B5,q2,by rw[q3.length];exact hl.1,λ r hr=>?_⟩;have e3:uL l=((uK ps).map (λ kv=>D.tup (kv.1.map Dj)),aU):=g1;rw[e3] at h;have bB:∀a∈[r],H1 a=none:=λ a ha=>by rw[zi.mp ha];exact hr
     exact h _ [r] _ (s1.trans (AS hr _)) (λ a ha=>EZ s1 (bB a ha)) (by simp) (.dT Aq (g2.mono (C6 (AS hr _) bB)).ows)
   ·exact h.elim
  ·exact h.elim
 ·exact h.elim
end
open PySem PySem.Spec PyProof.Rows
section
variable {X:Cx}{WX:Str->Hp->Prop}{c:Bool}{P0:Es}{P:Addr->Prop}{H:Hp}{σ:St}{ρ:Ac}{a b e:Expr}{f g:Ac->M D}{fn:Ac->M OT}{pos:Pos}{te:TE}
abbrev ZD (x y:D):M D:=match x,y with
 | .tup xs,.tup ys=>(match CO xs,CO ys with|some ns,some ms=>.ok (.bl (HT.lexLt ns ms))|_,_=>.bad)
 |_,_=>.bad
def VS:Uc X.K WX (rK X.K) ZD:=by
 intro P H x y v w Q ht hx hy h;unfold ZD at h;split at h
 ·rename_i xs ys;split at h
  ·rename_i ns ms e1 e2;have:=EY e1;subst this;have:=EY e2;subst this;cases hx with
   |tup h1 h2 =>
    cases hy with
    |tup h3 h4 =>
     have:=E7 h2;subst this;have:=E7 h4;subst this;exact⟨_,_,ns,ms,rfl,rfl,Fd.of (Ak h1).2,Fd.of (Ak h3).2,h _ H (Ae.refl H) (.bl _)⟩
  ·exact h.elim
 ·exact h.elim
def wH {n:Nat}(hu:X.A.units+n<cLine)(ha:DE X WX c a f)(hb:DE X WX c b g):DE X WX c (.Compare a [.Lt] [b] pos) (λ ρ=>(f ρ).bind λ x=>(g ρ).bind λ y=>ZD x y):=YJ (Yr (by omega)) VS ha hb (Iv _)
def oC {n:Nat}(hu:X.A.units+n<cLine)(ha:DE X WX c a f)(hb:DE X WX c b g):DT X WX (.Compare a [.Lt] [b] pos) (λ ρ=>((f ρ).bind λ x=>(g ρ).bind λ y=>ZD x y).bind Og):=Ez (Yr (by omega)) VS ha hb (Iv _)
def ZE (hk:DE X WX true a f)(hv:DE X WX true b g):DN X WX (.Dict [some a] [b] pos) (λ ρ=>(f ρ).bind λ k=>(g ρ).bind λ v=>if keyOk false k=true then .ok (.Bn false [k] [.sh v]) else .bad):=by
 obtain⟨tk,k1,k2⟩:=hk;obtain⟨tv,v1,v2⟩:=hv;refine⟨_,fE (Yz k1 v1 fD) rfl rfl (by simp) (by simp),λ P0 P σ H Q ρ E h p hp=>?_⟩;dsimp only at h;have hn:∀a∈[p],H a=none:=λ a ha=>by rw[zi.mp ha];exact hp
 have s0:Ae H (upd H p (.dK [])):=AS hp _;have E1:Al X.K P0 (PU P [p]) (upd H p (.dK [])) σ ρ:=E.more s0 Gy (λ a ha=>ha.elim (λ z=>(E.BX a z).same s0) λ z=>by
  rw[zi.mp z];exact⟨_,Aq,λ _=>⟨λ z=>(by cases z),λ _ z=>by cases z⟩⟩) (C6 s0 hn)
 refine k2 P0 (PU P [p]) σ _ _ ρ E1 ?_;cases q:f ρ with
 |bad=>rw[q] at h;exact h
 |ex x=>rw[q] at h;exact λ H' s=>h H' (s0.trans s)
 |ok k =>
  rw[q] at h;simp only[M.A9] at h;intro y H2 s2 hy;have E2:=E1.same s2;refine v2 P0 (PU P [p]) σ H2 _ ρ E2 ?_;cases q2:g ρ with
  |bad=>rw[q2] at h;exact h
  |ex x=>rw[q2] at h;exact λ H' s=>h H' ((s0.trans s2).trans s)
  |ok d =>
   rw[q2] at h;simp only[M.A9] at h;intro w H3 s3 hw;by_cases hc:keyOk false k=true
   ·rw[if_pos hc] at h;have hK:=F0 hc;cases hK with
    |k κ =>
     have ey:=hy.nT;subst ey;refine⟨s3 _ _ (s2 _ _ Aq),[(κ,w)],rfl,by simp,?_⟩;have s4:Ae H (upd H3 p (.dK (Gj [] [(κ,w)]))):=λ a o ha=>by
      rw[Ai (λ z=>by rw[z,hp] at ha;cases ha)];exact s3 _ _ (s2 _ _ (s0 _ _ ha))
     have s5:Ae (del H3 (PU P [p])) (del (upd H3 p (.dK (Gj [] [(κ,w)]))) (PU P [p])):=λ a o ha=>by
      obtain⟨n1,n2⟩:=Ak ha;rw[As n1,Ai (λ z=>n1 (.inr (by rw[z];exact zi.mpr rfl)))];exact n2
     refine h _ [p] _ s4 hn (by simp) ?_;have e1:Gj [] [(κ,w)]=[(κ,w)]:=rfl;rw[e1] at s5 ⊢;exact .dK (kvs:=[(κ,w)]) Aq (.cons (.sh (hw.mono s5)) .nil)
   ·rw[if_neg hc] at h;exact h.elim
abbrev Pp (x:D)(m:M D):M D:=match x with
 | .Bn b ks vs=>m.bind λ y=>if keyOk b y=true then .ok ((G6 ks vs y).getD .AK) else .bad
 |_=>.bad
def iP {K:za}{v:V}{bb:Bool}{ks vs:List D}{P:Addr->Prop}(h:BV K (del H P) v (.Bn bb ks vs)):∃a,v=.ref a/\vW H a:=by
 cases h with
 |Vi h1 h2=>exact⟨_,rfl,.inl ⟨_,h1.B5⟩⟩
 |Vj h1 h2=>exact⟨_,rfl,.inr ⟨_,h1.B5⟩⟩
def Ni {n:Nat}{o k:Expr}{apos ad:Pos}(hu:X.A.units+n<cLine)(ha:DE X WX c o f)(hb:DE X WX c k g)(m:M1 X o "get" apos k ad:=by exact⟨rfl,rfl,rfl,rfl⟩)(hn:1<=n:=by decide):
 DE X WX c (.Call (.Attribute o "get" apos) [k] [] ad) (λ ρ=>(f ρ).bind λ x=>Pp x (g ρ)):=by
 obtain⟨ta,a1,a2⟩:=ha;obtain⟨tb,b1,b2⟩:=hb;refine⟨_,YA (by omega) a1 b1 m,λ P0 P σ H Q ρ E h=>?_⟩;dsimp only at h;refine a2 P0 P σ H _ ρ E ?_;refine YH h λ x h=>?_;intro v H1 s1 hv;unfold Pp at h;split at h
 ·rename_i bb ks vs;obtain⟨a,rfl,hD⟩:=iP hv;refine⟨a,rfl,hD,b2 P0 P σ H1 _ ρ (E.same s1) ?_⟩;cases e2:g ρ with
  |bad=>rw[e2] at h;exact h
  |ex y=>rw[e2] at h;exact gV.same (m:=.ex y) h s1
  |ok y =>
   rw[e2] at h;simp only[M.A9] at h;intro w H2 s2 hw;by_cases hk:keyOk bb y=true
   ·rw[if_pos hk] at h;obtain⟨a',xs,ea,g',hl,bB⟩:=Qs (hv.mono s2.del) hw (F0 hk);cases ea;refine⟨_,g',?_⟩;refine gV.same (gV.same h s1) s2 _ H2 (Ae.refl _) ?_;cases eg:G6 ks vs y with
    |none =>
     have:G6 ks xs y=none:=by
      cases vn:G6 ks xs y with
      |none=>rfl
      |some z =>
       have h1:=Hz (xs:=xs) (y:=y) bB;have h2:=Hz (ks:=ks) (xs:=vs) (y:=y) (by rw[<-hl.length,bB]);rw[h1,vn,eg] at h2;cases h2
     rw[this];exact .AK
    |some d =>
     obtain⟨x,e3,e4⟩:=N5 hl eg;rw[e3];exact e4
   ·rw[if_neg hk] at h;exact h.elim
 ·exact h.elim
end
abbrev xJ (K:za)(a:Addr)(n:Nat):It:=
 ⟨λ i H=>∃xs x,D2 K H a xs/\xs.length=n/\i<n/\xs[n-1-i]?=some x,λ i H x H'=>H'=H/\∀xs,D2 K H a xs->xs[n-1-i]?=some x,λ i H=>∃xs,D2 K H a xs/\xs.length=n/\n<=i⟩
def ZF {h:Heap}{it a:Addr}{i:Int}{xs:Array Value}(h1:h.IsRevIter it a i)(h2:h.IsList a xs):a≠it:=λ z=>by
 subst z;obtain⟨o,e1,e2,_⟩:=h1;obtain⟨o2,e3,e4,_⟩:=h2;rw[e1] at e3;cases e3;rw[e2] at e4;exact absurd (Value.type.inj e4) (by decide)
def ZG {P:Program}{w:World}{K:za}{tg:Expr}(a it:Addr)(n:Nat):Turn P w K tg (xJ K a n) [it] it (λ i h=>i<=n/\h.IsRevIter it a ((n:Int)-1-i)) where
 mem:=by simp
 obj:=λ i h st b hb=>by
  have e:b=it:=by simpa using hb
  subst e;obtain⟨_,o,e,c,d⟩:=st;exact⟨o,e,λ v z=>by rw[d] at z;cases z⟩
 keep:=λ i h h' st k=>⟨st.1,st.2.at λ o e=>k it (by simp) o e⟩
 item:=by
  intro X hP hw hK hc i pins s σ H E I hf st hg;subst hP hw hK;obtain⟨xs,x,hq,om,bE,hx⟩:=hg;obtain⟨aa,rv,p,hz⟩:=I.list hq;obtain⟨u,hu,ru⟩:=rv.get hx;obtain⟨f0,f1,f2,f3,f4,f5⟩:=hf it (by simp);have hl:=rv.length;have on:aa.toArray.size=n:=by rw[zl,<-hl,om]
  have W:=Walks.listRev (prog:=X.prog) (w:=X.w) (A:=X.A) (I.ok.hd hc) it a (ZF st.2 p.isList) aa.toArray;rw[on] at W;refine W.item i s _ _ bE ⟨st.1,st.2,p.isList⟩ λ v h' tk hv b7 kp=>?_;have ev:v=u:=by
   rw[List.getElem?_toArray,hu] at hv;exact (z7 hv).symm
  subst ev;have I1:Inv X pins σ H {s with heap:=h',toks:=tk}:=I.turned (t':=tk) (λ b o hb e=>kp b o (by simpa using hb) e) f0 f1 f3 f4 f5;obtain⟨o,e,c,d⟩:=id b7.2.1;exact⟨v,rfl,V6 (s:={s with heap:=h',toks:=tk}) e c d (by decide) ⟨x,H,I1,ru,⟨rfl,λ ys hy=>by rw[I.Gf hy hq];exact hx⟩,⟨b7.1,b7.2.1⟩,λ b hb=>(hf b hb).1⟩⟩
 done:=by
  intro X hP hw hK hc i pins s σ H E I hf st hg;subst hP hw hK;obtain⟨xs,hq,om,bE⟩:=hg;obtain⟨aa,rv,p,hz⟩:=I.list hq;obtain⟨f0,f1,f2,f3,f4,f5⟩:=hf it (by simp);have hl:=rv.length;have on:aa.toArray.size=n:=by rw[zl,<-hl,om]
  have W:=Walks.listRev (prog:=X.prog) (w:=X.w) (A:=X.A) (I.ok.hd hc) it a (ZF st.2 p.isList) aa.toArray;rw[on] at W;have vo:i=n:=Nat.le_antisymm st.1 bE;subst vo;exact W.done s _ _ ⟨st.1,st.2,p.isList⟩ λ h' tk kp=>⟨rfl,I.turned (t':=tk) (λ b o hb e=>kp b o (by simpa using hb) e) f0 f1 f3 f4 f5⟩
 self:=λ _ _ _ _ _ st h=>wpAny_pyIter_revIter st.2 h
section
variable {X:Cx}{WX:Str->Hp->Prop}{tg a:Expr}{f:Ac->M D}{pos p:Pos}{te:TE}
abbrev wI (K:za)(ta:TA):TI:=λ σ H R=>ta σ H λ vs H1=>∃a xs,vs=[.ref a]/\D2 K H1 a xs/\R (xJ K a xs.length) H1
def oE {ta:TA}(hg:Gl X "reversed")(hm:X.mg "reversed" = none)(ha:PA X [a] ta)(hb:bootBuiltins "reversed" = some (.type "reversed"):=by decide +kernel)(hs: ~~~(starEach [a] X.env=[(false,eval a X.env)])):
 PI X tg (.Call (.Name "reversed" p) [a] [] pos) (wI X.K ta):=by
 intro pins s σ H R I h;refine Call_ (Dp I hg hm hb (zW (Bi (ha pos pins s σ H _ I h) λ us s1 zz=>?_) hs rfl));obtain⟨vs,H1,I1,r1,q1⟩:=zz;obtain⟨j,xs,e,hq,q⟩:=q1;subst e;cases r1 with
 |cons r rr =>
  cases rr;cases r;obtain⟨aa,rv,p,hz⟩:=I1.list hq;have hl:=rv.length;refine call_reversed_list p.isList ?_;have hit:(s1.heap.push (revObj j ((aa.toArray.size:Int)-1))).IsRevIter s1.heap.objs.size j ((xs.length:Int)-1-(0:Nat)):=by
   rw[zl,<-hl];exact⟨_,z9 _ rfl,rfl,by simp[revObj]⟩
  refine wpAny_pyIter_revIter (s:={s1 with heap:=s1.heap.push (revObj j ((aa.toArray.size:Int)-1))}) hit ?_;refine⟨s1.heap.objs.size,[s1.heap.objs.size],_,_,H1,rfl,I1.kept (t':=s1.toks) λ b o e=>zp _ e,ZG j _ xs.length,⟨zM _,hit⟩,λ b hb=>?_,q⟩;have e:b=s1.heap.objs.size:=by simpa using hb
  subst e;exact I1.Wm (zv _) (I1.Au.fresh (zv _))
def ZH (hg:Gl X "reversed")(hm:X.mg "reversed" = none)(ha:DE X WX true a f)(hb:bootBuiltins "reversed" = some (.type "reversed"):=by decide +kernel)(hs: ~~~(starEach [a] X.env=[(false,eval a X.env)])):
 DI X WX tg (.Call (.Name "reversed" p) [a] [] pos) (λ ρ=>(f ρ).bind λ d=>match d with | .lst ds=>.ok ds.reverse|_=>.bad):=by
 obtain⟨ta,a1,a2⟩:=ha;refine⟨_,oE hg hm (Bf a1 Cp hs) hb hs,λ P0 P σ H R ρ E h=>?_⟩;dsimp only at h;refine a2 P0 P σ H _ ρ E ?_;cases q:f ρ with
 |bad|ex x=>rw[q] at h;exact h
 |ok d =>
  rw[q] at h;cases d with
  |lst ds =>
   intro v H1 s1 hv;cases hv with
   | @lst a xs _ hs hl =>
    have hlen:=hl.length;refine⟨a,xs,rfl,hs.B5,h _ H1 s1 ⟨λ i P' H' s hi=>?_,λ i P' H' s hi=>?_,λ i P' H' v dl d s ht hd y=>?_⟩⟩
    ·rw[zR] at hi;obtain⟨x,hx,_⟩:=hl.get (zh (show xs.length-1-i<ds.length by omega));exact⟨xs,x,(s.seq hs).B5,rfl,by omega,hx⟩
    ·rw[zR] at hi;exact⟨xs,(s.seq hs).B5,rfl,by omega⟩
    ·obtain⟨rfl,y⟩:=y;have af:=(zx.mp hd).1;rw[zR] at af;rw[List.getElem?_reverse af] at hd;obtain⟨x,hx,ba⟩:=hl.get hd;have e:=y xs (s.seq hs).B5;rw[hlen,hx] at e;cases e;exact⟨Ae.refl _,ba.mono s⟩
  |_=>exact h.elim
end
structure oF (K:za)(x qual:Str)(st:Stmt)(f:Addr)(fd:FuncData):Prop where
 ex:∃(oc:Value) (od:Option Addr) (dV kV doc pm:Value) (an:Option Addr) (B4 ct:Value) (TF:Array (Option Value)),
  fd=zX x qual (Bm st) (AN st) (A5 st) dV kV doc pm an B4 ct/\K.lookup f=some ⟨oc,od,.func fd,TF⟩/\yZ K B4 qual=true
 kp:zV K (.ref f)=true
section
variable {P:Program}{w:World}{K:za}{mg:Str->Option Value}{base:Heap}
def iQ {x qual:Str}{st:Stmt}{f:Addr}{fd:FuncData}{N ps:List Str}{k:Nat}(F:oF K x qual st f fd)(S:Ad N ps (A5 st))(g:Ac->M Out)
 (hb:∀(B4:Value) (A:Around) (outer:List Env) (s:Shared) (H:Hp) (E:XK),Bu k (A.deeper (envOfC qual (A5 st) s.heap.objs.size f B4))->S4 (kF P w K mg base N qual (A5 st) f B4 A outer s H E) (CB K E) (AN st) g):
 Di P w K mg base (Ui P w base) (k+1) f fd ps (N7 K ps.length λ t aw=>Ea (g (CM N t aw))):=by
 obtain⟨oc,od,dV,kV,doc,pm,an,B4,ct,TF,rfl,lk,aZ⟩:=F.ex;refine Va lk aZ S (λ vs H Q E h=>h.1) λ A outer s H vs Q E hr h=>?_;obtain⟨hl,P',p,t,fp,rest,aw,rfl,ht,hp,nd,ho,hv,hq⟩:=h;obtain⟨tt,h1,h2⟩:=hb B4 A outer s H E hr;refine⟨tt,h1,h2 ⟨λ a=>P' a/\a∉fp,λ _=>p⟩ P' _ H _ _ (Ju ht hp nd ho hv) ?_⟩;dsimp only at hq;revert hq;cases g (CM N t aw) with
 |bad|ex x=>exact λ h=>h.elim
 |ok o =>
  have sub:∀ {P2:Addr->Prop} {H2:Hp} {σ2:St} {ρ:Ac},Al K ⟨λ a=>P' a/\a∉fp,λ _=>p⟩ P2 H2 σ2 ρ->∀a,P2 a/\¬ (P' a/\a∉fp)->P2 a/\(P' a->a∈fp):=λ E a ha=>⟨ha.1,λ z=>zad λ w=>ha.2 ⟨z,w⟩⟩;cases o with
  |ret d|Cv d=>exact λ h=>h.elim
  |next ρ =>
   intro hq σ' H' P2 t2 E2;unfold Ea at hq;dsimp only at hq;split at hq
   ·rename_i t' e;obtain⟨c,ag,k1,k2,k3,k4,k5,k6⟩:=M6 E2 e;exact hq .AK H' P2 ag [] (λ a ha hn=>⟨E2.sub a ⟨ha,hn⟩,t2.2 a ⟨ha,hn⟩⟩) E2.BX t2.1 k4 k5 (.sh .AK) yS (λ a ha=>by cases ha) (λ a ha=>sub E2 a (k6 a ha)) (λ a ha=>by cases ha)
   ·exact hq.elim
  |E5 r ρ =>
   intro hq v fr σ' H' P2 t2 E2 o2 aT hf;unfold Ea at hq;dsimp only at hq;split at hq
   ·rename_i t' e;obtain⟨c,ag,k1,k2,k3,k4,k5,k6⟩:=M6 E2 e;exact hq v H' P2 ag fr (λ a ha hn=>⟨E2.sub a ⟨ha,hn⟩,t2.2 a ⟨ha,hn⟩⟩) E2.BX t2.1 k4 k5 o2 aT (λ a ha=>(hf a ha).2.2 0 c _ ag k1 k2 k3) (λ a ha=>sub E2 a (k6 a ha)) (λ a ha=>sub E2 a ⟨(hf a ha).1,(hf a ha).2.1⟩)
   ·exact hq.elim
  |brk ρ|cont ρ=>exact λ h=>h.elim
end
def iR {K:za}{x qual:Str}{st:Stmt}{f:Addr}{oc:Value}{od an:Option Addr}{TF:Array (Option Value)}{dV kV doc pm B4 ct:Value}(l:K.lookup f=some ⟨oc,od,.func (zX x qual (Bm st) (AN st) (A5 st) dV kV doc pm an B4 ct),TF⟩)
 (c:yZ K B4 qual=true) (k:zV K (.ref f)=true):oF K x qual st f (zX x qual (Bm st) (AN st) (A5 st) dV kV doc pm an B4 ct):=⟨⟨oc,od,dV,kV,doc,pm,an,B4,ct,TF,rfl,l,c⟩,k⟩
structure Pq (P:Program)(w:World)(K:za)(mg:Str->Option Value)(base:Heap)(x:Str)(k n:Nat)(F:OT->List D->M (OT×OT)):Prop where
 ex:∃C fa fd ps,oB K mg x C/\Mk K C fa/\Di P w K mg base (Ui P w base) k fa fd ps (N7 K n F)/\Binds K fd ps []/\Binds K fd ps [.none]
def Pq.yE {P:Program}{w:World}{K:za}{mg:Str->Option Value}{base:Heap}{x:Str}{k n:Nat}{F:OT->List D->M (OT×OT)}(G:Pq P w K mg base x k n F):tF P w K mg base x k n F:=by
 obtain⟨C,fa,fd,ps,h1,h2,h3,h4,_⟩:=G.ex;exact⟨⟨C,fa,fd,ps,h1,h2,h3,h4⟩⟩
structure Uw (K:za)(mg:Str->Option Value)(x qual:Str)(st:Stmt)(ps:List Str):Prop where
 ex:∃C f fd,oB K mg x C/\Mk K C f/\oF K "__init__" qual st f fd/\Binds K fd ps []/\Binds K fd ps [.none]
def ZI {P:Program}{w:World}{K:za}{mg:Str->Option Value}{base:Heap}{x qual:Str}{st:Stmt}{N ps:List Str}{k n:Nat}(T:Uw K mg x qual st ps)(S:Ad N ps (A5 st))(g:Ac->M Out)(hb:∀(f:Addr) (B4:Value) (A:Around) (outer:List Env) (s:Shared) (H:Hp) (E:XK),Bu k (A.deeper (envOfC qual (A5 st) s.heap.objs.size f B4))->S4 (kF P w K mg base N qual (A5 st) f B4 A outer s H E) (CB K E) (AN st) g)(hn: ~~~(ps.length=n)):
 Pq P w K mg base x (k+1) n (λ t aw=>Ea (g (CM N t aw))):=by
 obtain⟨C,f,fd,h1,h2,F,hB⟩:=T.ex;subst hn;exact⟨⟨C,f,fd,ps,h1,h2,iQ F S g (hb f),hB⟩⟩
section
variable {X:Cx}{E:XK}{WX:Str->Hp->Prop}{c:Bool}{e:Expr}{es:List Expr}{fs:Ac->M (List D)}{pos:Pos}{H:Hp}
def ZJ {x:Str}{k n:Nat}{F:OT->List D->M (OT×OT)}{p:Pos}(xo:EW X E)(G:Pq X.prog X.w X.K X.mg X.base x k n F)(hr:Bu (k+1) X.A)(hg:Gl X x)(ha:DA X (CB X.K E) true (e::es) fs)(aV:(e::es).length+2=n)(aN:(x==("__debug__" : Str))=false:=by decide)(he: ~~~(starEach (e::es) X.env=(false,eval e X.env)::starEach es X.env))(aq: ~~~((backTo pos (starEach es X.env)).any (·.1)=false)):
 DN X (CB X.K E) (.Call (.Name x p) (e::es) [] pos) (λ ρ=>(fs ρ).bind λ ds=>Pm (F (.ins x [] []) (ds++[.AK]))):=by
 obtain⟨C,fa,fd,ps,hT,hM,hF,_,hb⟩:=G.ex;obtain⟨ta,a1,a2,a3⟩:=ha;refine⟨_,V9 hM hF hr hg hT.xI hb (show Vals [.AK] [.none] from .cons (show RelV .AK .none from rfl) .nil) xo.call a1 aN he aq,λ P0 P σ H Q ρ Ev h=>?_⟩;dsimp only at h;refine a2 P0 P σ H _ ρ Ev ?_;cases q:fs ρ with
 |bad|ex x=>rw[q] at h;exact h
 |ok ds =>
  rw[q] at h;simp only[M.A9] at h;intro vs H1 s1 ay y dx hy hd ae;have E1:=Ev.same s1;have sm:=Pk (C:=C) hy hd;have bG:∀a∈[y],H1 a=none:=λ a ha=>by rw[zi.mp ha];exact hy
  refine⟨by rw[zk,zB,ay.length,a3 ρ ds q];exact aV,PU P [y],y,.ins x [] [],[y],vs++[.AK],ds++[.AK],rfl,λ a ha=>?_,λ a ha=>.inr ha,by simp,C8.ins (fs:=[]) hT.ns Aq .nil,(ay.mono (C6 sm bG)).append (.cons .AK .nil),?_⟩
  ·rcases ha with ha|ha
   ·exact (E1.BX a ha).same sm
   ·rw[zi.mp ha];exact⟨_,Aq,λ xs=>⟨(λ z=>by cases z),(λ z w=>by cases w)⟩⟩
  ·cases q2:F (.ins x [] []) (ds++[.AK]) with
   |bad|ex z=>rw[q2] at h;exact h
   |ok tr =>
    obtain⟨t,r⟩:=tr;rw[q2] at h;simp only[Pm] at h;intro v H' P' ag fr k1 k2 k3 k4 k5 k6 k7 k8 k9 f7;cases r with
    |sh d =>
     cases d with
     |AK =>
      cases k6 with
      |sh hv =>
       cases hv;refine⟨rfl,h _ ag H' ?_ ?_ k5 ?_⟩
       ·intro b u eb;have e1:=s1 b u eb;have bH:b≠y:=λ z=>by rw[z,hy] at e1;cases e1
        have e2:=sm b u e1;by_cases hP:P b
        ·exact (k1 b (.inl hP) (by simp[bH])).2.trans e2
        ·exact (Ak (k3 b u (by rw[As λ z=>z.elim hP λ w=>bH (zi.mp w)];exact e2))).2
       ·intro b dr;cases eb:H b with
        |none=>rfl
        |some u =>
         exfalso;have e1:=s1 b u eb;have bH:b≠y:=λ z=>by rw[z,hy] at e1;cases e1
         have e2:=sm b u e1;have hn:=λ z=>bH (zi.mp ((k9 b dr).2 z));exact (Ak (k3 b u (by rw[As hn];exact e2))).1 (k9 b dr).1
       ·refine k4.move (λ b u eb=>?_) λ _ _=>rfl;obtain⟨g1,g2⟩:=Ak eb;rw[As]
        ·exact g2
        ·rintro (z|z)
         ·have bH:b≠y:=λ w=>by
           obtain⟨o,e1,_⟩:=E1.BX b z;rw[w,hy] at e1;cases e1
          exact g1 (k1 b (.inl z) (by simp[bH])).1
         ·exact g1 (k9 b z).1
     |_=>exact h.elim
    |_=>exact h.elim
end
def yF {P:List Value->Prop}(h:P [])(us:List Value)(hl:us.length=0):P us:=by
 cases us with
 |nil=>exact h
 |cons _ _=>cases hl
def uM {P:List Value->Prop}(h:∀a,P [a])(us:List Value)(hl:us.length=1):P us:=by
 cases us with
 |nil=>cases hl
 |cons a us=>exact yF (P:=λ l=>P (a::l)) (h a) us (Nat.succ.inj hl)
def ln2 {P:List Value->Prop}(h:∀a b,P [a,b])(us:List Value)(hl:us.length=2):P us:=by
 cases us with
 |nil=>cases hl
 |cons a us=>exact uM (P:=λ l=>P (a::l)) (λ b=>h a b) us (Nat.succ.inj hl)
def wJ {P:List Value->Prop}(h:∀a b c,P [a,b,c])(us:List Value)(hl:us.length=3):P us:=by
 cases us with
 |nil=>cases hl
 |cons a us=>exact ln2 (P:=λ l=>P (a::l)) (λ b c=>h a b c) us (Nat.succ.inj hl)
def xK {P:List Value->Prop}(h:∀a b c d,P [a,b,c,d])(us:List Value)(hl:us.length=4):P us:=by
 cases us with
 |nil=>cases hl
 |cons a us=>exact wJ (P:=λ l=>P (a::l)) (λ b c d=>h a b c d) us (Nat.succ.inj hl)
def AO {K:za}{mg:Str->Option Value}{h:Heap}{x:Str}{st:Stmt}{ps:List Str}(X:K.In h)(G:h.Ns mainGlobals mg)(p:FP K x st)(hb:∀(kV dc pm:Value) (an:Option Addr) (cd ct:Value) (us:List Value),us.length=ps.length->bindArgs (zX x x (Bm st) (AN st) (A5 st) .none kV dc pm an cd ct) ⟨us,[]⟩=pure (ps.zip us):=by first | exact (λ _ _ _ _ _ _=>uM λ _=>rfl) | exact (λ _ _ _ _ _ _=>ln2 λ _ _=>rfl) | exact (λ _ _ _ _ _ _=>wJ λ _ _ _=>rfl) | exact (λ _ _ _ _ _ _=>xK λ _ _ _ _=>rfl)):AG K mg x st ps:=by
 obtain⟨f,oc,od,an,sl,kV,dc,pm,cd,ct,a,l,c,k⟩:=p.ex;have F:=U7 (st:=st) l c k;exact⟨⟨_,_,F,PySem.W.mg_of X G a,F.binds hb⟩⟩
def VT {K:za}{C:Addr}{x m qual:Str}{st:Stmt}{ps:List Str}(aC:zE K mainGlobals x=some (some (.ref C)))(cl:Wt K C)(p:MP K C m qual st)(hb:∀(kV dc pm:Value) (an:Option Addr) (cd ct:Value) (us:List Value),us.length=ps.length->bindArgs (zX m qual (Bm st) (AN st) (A5 st) .none kV dc pm an cd ct) ⟨us,[]⟩=pure (ps.zip us):=by first | exact (λ _ _ _ _ _ _=>uM λ _=>rfl) | exact (λ _ _ _ _ _ _=>ln2 λ _ _=>rfl) | exact (λ _ _ _ _ _ _=>wJ λ _ _ _=>rfl) | exact (λ _ _ _ _ _ _=>xK λ _ _ _ _=>rfl)):Ph K x m qual st ps:=by
 obtain⟨f,oc,od,an,sl,kV,dc,pm,cd,ct,a,i,l,c,k⟩:=p.ex;have F:=U7 (st:=st) l c k;exact⟨⟨_,_,_,aC,cl,⟨a,i,k⟩,F,F.binds hb⟩⟩
open PySem PySem.W PySem.Calls PyProof.Rows
abbrev R0:Rn:=⟨topRun,Heap.nsMap,importEnds,fenceModules?,PySem.start,treeTable⟩
def oG:R0=R1:=by
 unfold R0 R1;rw[PySem.W.Fast.te14082659384304107361,PySem.W.Fast.te8920871248978507458,PySem.W.Fast.te10274390034422433532,PySem.W.Fast.te14289696077712309145,PySem.W.Fast.te1435165496053646825,PySem.W.Fast.te14364793385576792824]
def VU (p:Program)(w:World)(N:Nat):openEnds treeTable p w N=Mu R0 p w N:=by
 unfold openEnds fencedOpening Mu;rfl
def Nj {h:Heap}{a:Addr}{o:Obj}:∀ {as:List Addr},(tT h as).lookup a=some o->h.get? a=some o
 |[],e=>by cases e
 |b::r,e=>by
  unfold tT at e;rw[zab] at e;cases q:h.get? b with
  |none=>rw[q] at e;exact Nj (as:=r) e
  |some u =>
   rw[q] at e;dsimp only [za9] at e;rw[yW] at e;cases c:a==b with
   |true=>rw[c] at e;cases e;rw[eq_of_beq c];exact q
   |false=>rw[c] at e;exact Nj (as:=r) e
abbrev tG (h h':Heap):Prop:=∀(b:Addr) (o:Obj),h.get? b=some o->h'.get? b=some o
def oH {h h':Heap}{as:List Addr}(s:tG h h'):(tT h as).In h':=λ a o e=>s a o (Nj e)
def iS {p q:Program}{Xt:Shared->Bool}{N:Nat}(h:∀w:World,(openEnds treeTable p w N).map (λ s=>openSeen q [] (importedModules p.main.body) Xt true s)=some (openGood q [])):LeftO p q [] Xt (λ s=>s.heap) (λ w=>XY R0 p w N) N:=λ w=>by
 have e:=h w;unfold XY;dsimp only;rw[<-VU];cases q':openEnds treeTable p w N with
 |none=>rw[q'] at e;cases e
 |some s =>
  rw[q'] at e;rw[za9] at e ⊢;dsimp only;rw[z7 e]
def QC {α β γ:Type}{o:Option γ}{f:γ->α×β}{a:α×β}(h:o.map (λ s=>(f s).1)=some a.1)(k:o.map (λ s=>(f s).2)=some a.2):o.map f=some a:=by
 cases o with
 |none=>cases h
 |some s =>
  rw[za9] at h k ⊢;exact congrArg some (Prod.ext (z7 h) (z7 k))
def tH {l:PySem.W.OpenLaw}{n k:Nat}{q:Program}{loose:List Str}{XP:(Str->Option Value)->Heap->Prop}{YP:World->Heap->Prop}{d:DefRec}{K:World->za}{CX:World->V8}{sp:World->Sp}{x:Str}
 (hn:l.most=some n) (aD:n<=sizeLine) (fm:d.params.defaults=[]) (hr:Bu k callerA) (hY:∀(w:World) (h:Heap),YP w h->(K w).In h)
 (F:∀(w:World) (mg:Str->Option Value) (fa:Addr) (h:Heap),(K w).In h->h.Ns mainGlobals mg->mg d.name=some (.ref fa)->∃fd:FuncData,(∀(s:Shared) (u:Value),BindsTo s fd ⟨[u],[]⟩ [(x,u)])/\
  ∀base:Heap,(K w).In base->base.Ns mainGlobals mg->Di l.prog w (K w) mg base (CX w) k fa fd [x] (sp w))
 (bC:∀(w:World) (H:Hp) (a:Addr) (ns:List Int),(∀n∈ns,Sm n)->ns.length<=n->eZ H->D2 (K w) H a (ns.map V.int)->sp w [.ref a] H (λ v _=>v=.bl true) λ _ _ _=>False)
 (im:∀(w:World) (H:Hp) (s:Shared) (e:Value) (s':Shared),CX w [] H s (λ _ _ _=>False) e s'->False):PySem.W.WalkO q loose XP YP l.row.toRowW d [] (λ f vs=>PySem.call f vs):=by
 refine HT.Pa hn fm λ w s₀ s₁ mg mb fa o pm cd doc a vs ns bo G Y ho hd aZ fv bW bf hlen hg=>?_;have KX:=hY w _ Y;obtain⟨fd,hb,hF⟩:=F w mg fa _ KX G.T.g fv;exact RS KX G.T.g G.T.b G.T.builtins G.T.nolimit hg bW bf (zZ hlen aD) hr hF hb (λ H hO hS=>bC w H a ns bo hlen hO hS) λ H e s'=>im w H s₁ e s'
abbrev cst:Option (Int×Int)->D
 |none=>.AK
 |some p=>.tup [.int p.1,.int p.2]
abbrev Aj:Option (Int×Int)->Option (Int×Int)->Option (Int×Int)
 |some p,some q=>some (p.1+q.1,p.2+q.2)
 |_,_=>none
abbrev kN (p q:Int×Int):Int×Int:=if p.1<q.1\/(p.1=q.1/\p.2<=q.2) then p else q
abbrev DD:Option (Int×Int)->Option (Int×Int)->Option (Int×Int)
 |none,b=>b
 |some p,none=>some p
 |some p,some q=>some (kN p q)
abbrev Ft (cs:List (Option (Int×Int))):Option (Int×Int):=cs.foldl DD none
def GG (cs:List (Option (Int×Int))):Bv (λ d ρ=>.ok (ρ.set 0 (some (.val d)))) (λ ρ=>(rv 0 ρ).bind λ x=>.ok (!Cr x)) (rv 0) (cs.map cst) [none]=.ok ((cs.filterMap id).map λ p=>cst (some p)):=by
 induction cs with
 |nil=>rfl
 |cons c r ih =>
  rw[zf,Bv];cases c with
  |none =>
   show Bv _ _ _ (r.map cst) [none]=_;rw[ih];rfl
  |some p =>
   show (match Bv _ _ _ (r.map cst) [none] with | .ok ys=>M.ok (cst (some p)::ys)|_=>.bad)=_;rw[ih];rfl
def Xd (ps:List (Int×Int)):Gu (ps.map λ p=>cst (some p))=some (ps.map λ p=>(cst (some p),[p.1,p.2])):=by
 induction ps with
 |nil=>rfl
 |cons p r ih=>rw[zf,Gu,ih];rfl
def ZK (cs:List (Option (Int×Int))):B9 ((cs.filterMap id).map λ p=>(cst (some p),[p.1,p.2]))=(Ft cs).map λ p=>(cst (some p),[p.1,p.2]):=by
 have key:∀(cs:List (Option (Int×Int))) (z:Option (Int×Int)),((cs.filterMap id).map λ p=>(cst (some p),[p.1,p.2])).foldl BO (z.map λ p=>(cst (some p),[p.1,p.2]))=(cs.foldl DD z).map λ p=>(cst (some p),[p.1,p.2]):=by
  intro cs;induction cs with
  |nil=>intro z;rfl
  |cons c r ih =>
   intro z;cases c with
   |none =>
    rw[show List.filterMap id (none::r)=List.filterMap id r from rfl,zL,ih z];cases z<;>rfl
   |some q =>
    rw[show List.filterMap id (some q::r)=q::List.filterMap id r from rfl,zf,zL,zL,<-ih (DD z (some q))];congr 1;cases z with
    |none=>rfl
    |some p =>
     simp only[za9,BO,HT.Ff,HT.EG,DD,kN];by_cases h1:q.1=p.1
     ·by_cases h2:q.2=p.2
      ·rw[if_pos (show p.1<q.1\/(p.1=q.1/\p.2<=q.2) by omega)];simp[h1,h2]
      ·by_cases h3:q.2<p.2
       ·rw[if_neg (show ¬ (p.1<q.1\/(p.1=q.1/\p.2<=q.2)) by omega)];simp[h1,h2,h3]
       ·rw[if_pos (show p.1<q.1\/(p.1=q.1/\p.2<=q.2) by omega)];simp[h1,h2,h3]
     ·by_cases h3:q.1<p.1
      ·rw[if_neg (show ¬ (p.1<q.1\/(p.1=q.1/\p.2<=q.2)) by omega)];simp[h1,h3]
      ·rw[if_pos (show p.1<q.1\/(p.1=q.1/\p.2<=q.2) by omega)];simp[h1,h3]
 exact key cs none
def VW (cs:List (Option (Int×Int))):Vq (.lst ((cs.filterMap id).map λ p=>cst (some p))) .AK=.ok (cst (Ft cs)):=by
 simp only[Vq,Xd,ZK];cases Ft cs<;>rfl
def Sw (cs:List (Option (Int×Int))):Jh (Bv (λ d ρ=>.ok (ρ.set 0 (some (.val d)))) (λ ρ=>(rv 0 ρ).bind λ x=>.ok (!Cr x)) (rv 0) (cs.map cst) [none])=.ok (.lst ((cs.filterMap id).map λ p=>cst (some p))):=by
 rw[GG];rfl
noncomputable abbrev Co:=Option (Int×Int)
abbrev BQ:Co->Co->Prop
 |_,none=>True
 |none,some _=>False
 |some p,some q=>p.1<q.1\/(p.1=q.1/\p.2<=q.2)
def Cb:∀a:Co,BQ a a
 |none=>trivial
 |some p=>.inr ⟨rfl,Int.le_refl _⟩
def Ao:∀ {a b c:Co},BQ a b->BQ b c->BQ a c
 |_,_,none,_,_=>trivial
 |none,none,some _,_,h|some _,none,some _,_,h|none,some _,some _,h,_=>h.elim
 |some p,some q,some r,h1,h2=>by simp only[BQ] at *;omega
def K1:∀ {a b:Co},BQ a b->BQ b a->a=b
 |none,none,_,_=>rfl
 |none,some _,h,_|some _,none,_,h=>h.elim
 |some p,some q,h1,h2=>by
  obtain⟨p1,p2⟩:=p;obtain⟨q1,q2⟩:=q;simp only[BQ] at h1 h2;have e1:p1=q1:=by omega
  have e2:p2=q2:=by omega
  rw[e1,e2]
def Bs:∀a b:Co,(DD a b=a/\BQ a b)\/(DD a b=b/\BQ b a/\a≠b)
 |none,none=>.inl ⟨rfl,trivial⟩
 |none,some q=>.inr ⟨rfl,trivial,λ h=>by cases h⟩
 |some p,none=>.inl ⟨rfl,trivial⟩
 |some p,some q=>by
  unfold DD kN;by_cases h:p.1<q.1\/(p.1=q.1/\p.2<=q.2)
  ·dsimp only;rw[if_pos h];exact .inl ⟨rfl,h⟩
  ·dsimp only;rw[if_neg h];refine .inr ⟨rfl,?_,λ e=>?_⟩
   ·simp only[BQ];omega
   ·cases e;exact h (.inr ⟨rfl,Int.le_refl _⟩)
def EB (a b:Co):BQ (DD a b) a:=by
 rcases Bs a b with ⟨e,h⟩|⟨e,h,_⟩
 ·rw[e];exact Cb a
 ·rw[e];exact h
def EC (a b:Co):BQ (DD a b) b:=by
 rcases Bs a b with ⟨e,h⟩|⟨e,h,_⟩
 ·rw[e];exact h
 ·rw[e];exact Cb b
def Sx (cs:List Co):∀z:Co,BQ (cs.foldl DD z) z/\(∀x∈cs,BQ (cs.foldl DD z) x)/\(cs.foldl DD z=z\/cs.foldl DD z∈cs):=by
 induction cs with
 |nil=>intro z;exact⟨Cb z,(λ x h=>by cases h),.inl rfl⟩
 |cons c r ih =>
  intro z;obtain⟨h1,h2,h3⟩:=ih (DD z c);rw[zL];refine⟨Ao h1 (EB z c),λ x hx=>?_,?_⟩
  ·rcases zq.mp hx with rfl|hx
   ·exact Ao h1 (EC z x)
   ·exact h2 x hx
  ·rcases h3 with h3|h3
   ·rw[h3];rcases Bs z c with ⟨e,_⟩|⟨e,_⟩
    ·exact .inl e
    ·rw[e];exact .inr zd
   ·exact .inr (ze _ h3)
def Mp {cs:List Co}{x:Co}(h:x∈cs):BQ (Ft cs) x:=(Sx cs none).2.1 x h
def K2 (cs:List Co):Ft cs=none\/Ft cs∈cs:=(Sx cs none).2.2
def iT {cs:List Co}{v:Co}(h1:∀x∈cs,BQ v x)(h2:v≠none->∃x∈cs,BQ x v):Ft cs=v:=by
 refine K1 ?_ ?_
 ·cases v with
  |none=>cases Ft cs<;>exact trivial
  |some p =>
   obtain⟨x,hx,hl⟩:=h2 (by intro z;cases z);exact Ao (Mp hx) hl
 ·rcases K2 cs with h|h
  ·rw[h];cases v<;>exact trivial
  ·exact h1 _ h
def Bb:∀a b:Co,Aj a b=Aj b a
 |none,none=>rfl
 |none,some _|some _,none=>rfl
 |some p,some q=>by simp only[Aj];rw[Int.add_comm,Int.add_comm p.2]
def C3:∀ {a b:Co}(c:Co),BQ a b->BQ (Aj a c) (Aj b c)
 |_,none,c,_=>by cases c<;>exact trivial
 |none,some _,c,h=>h.elim
 |some p,some q,none,h=>trivial
 |some p,some q,some r,h=>by simp only[Aj,BQ] at *;omega
abbrev NN:Co->Prop
 |none=>True
 |some p=>0<=p.1/\0<=p.2
def Nk:∀ {a b:Co},NN a->NN b->NN (Aj a b)
 |none,none,_,_=>trivial
 |none,some _,_,_|some _,none,_,_=>trivial
 |some p,some q,h1,h2=>by simp only[Aj,NN] at *;omega
def ZL {a b:Co}(h1:NN a)(h2:NN b):NN (DD a b):=by
 rcases Bs a b with ⟨e,_⟩|⟨e,_⟩
 ·rw[e];exact h1
 ·rw[e];exact h2
abbrev ltN (a b:Co):Prop:=NN a/\BQ a b/\a≠b
def Xe (a b c:Co)(h1:ltN a b)(h2:ltN b c):ltN a c:=
 ⟨h1.1,Ao h1.2.1 h2.2.1,λ e=>by subst e;exact h1.2.2 (K1 h1.2.1 h2.2.1)⟩
abbrev rank:Co->Nat×Nat×Nat
 |none=>(1,0,0)
 |some p=>(0,p.1.toNat,p.2.toNat)
def oI:∀a:Co,NN a->Acc ltN a:=by
 have wf:WellFounded (InvImage (Prod.Lex (· < ·) (Prod.Lex (· < ·) (· < ·))) rank):=InvImage.wf rank (Prod.lex Nat.lt_wfRel (Prod.lex Nat.lt_wfRel Nat.lt_wfRel)).wf;intro a;induction a using wf.induction with
 |h a ih =>
  intro ha;refine .intro _ λ b ⟨hb,hl,ae⟩=>ih b ?_ hb;cases b with
  |none=>cases a with
   |none=>exact (ae rfl).elim
   |some p=>exact hl.elim
  |some q=>cases a with
   |none=>exact Prod.Lex.left _ _ (by decide)
   |some p =>
    obtain⟨p1,p2⟩:=p;obtain⟨q1,q2⟩:=q;simp only[BQ,NN] at hl ha hb;show Prod.Lex _ _ (0,q1.toNat,q2.toNat) (0,p1.toNat,p2.toNat);refine Prod.Lex.right _ ?_;by_cases h:q1<p1
    ·exact Prod.Lex.left _ _ (by omega)
    ·have e:q1=p1:=by omega
     subst e;have h2:q2≠p2:=λ e=>ae (by rw[e]);exact Prod.Lex.right _ (by omega)
def iU (a:Co):Acc ltN a:=.intro _ λ b h=>oI b h.1
def Xf (cs:List Co):Acc (O8 ltN) cs:=N0 ltN iU cs.length cs rfl
structure Road where
 a:Int
 b:Int
 l:Option Int
 w:Int
abbrev GH:Option Int->D
 |none=>.AK
 |some i=>.int i
abbrev BH (r:Road):D:=.tup [.int r.a,.int r.b,GH r.l,.int r.w]
abbrev Ap (m:Int)(rs:List Road):D:=.tup [.int m,.lst (rs.map BH)]
abbrev Cc (r:Road):Co:=match r.l with | none=>none | some l=>some (l,1)
structure G7 (m:Nat)(r:Road):Prop where
 a0:0<=r.a
 a1:r.a<m
 b0:0<=r.b
 b1:r.b<m
 l0:∀l,r.l=some l->0<=l
abbrev K3 (r:Road):Road:=⟨r.b,r.a,r.l,r.w⟩
def VX {m:Nat}{r:Road}(h:G7 m r):NN (Cc r):=by
 unfold Cc;split
 ·trivial
 ·rename_i l e;exact⟨h.l0 l e,by show (0:Int)<=1;decide⟩
abbrev atC (cs:List Co)(i:Int):Co:=cs.getD i.toNat none
def DF {cs:List Co}{i:Int}(h0:0<=i)(h1:i<cs.length):cs[i.toNat]?=some (atC cs i):=by
 unfold atC;rw[zu,zh (show i.toNat<cs.length by omega)];rfl
def set_same {α:Type}:∀ {l:List α}{i:Nat}{x:α},l[i]?=some x->l.set i x=l
 |[],_,_,h=>by cases h
 |y::r,0,x,h=>by cases h;rfl
 |y::r,i+1,x,h=>by rw[zj,set_same (by simpa using h)]
abbrev D8 (r:Road)(cs:List Co):List Co:=cs.set r.b.toNat (DD (atC cs r.b) (Aj (atC cs r.a) (Cc r)))
def HP {cs:List Co}{i j:Int}{v:Co}(hi:0<=i)(hj:0<=j)(h1:i<cs.length):atC (cs.set i.toNat v) j=if j=i then v else atC cs j:=by
 unfold atC;rw[zu,zu];by_cases h:j=i
 ·subst h;rw[if_pos rfl,zI (by omega)];rfl
 ·rw[if_neg h,yL (by omega)]
structure Good (m s:Nat)(rs:List Road)(cs:List Co):Prop where
 len:cs.length=m
 st:atC cs s=some (0,0)
 nn:∀c∈cs,NN c
 sup:∀p:Int,0<=p->p<m->p≠s->atC cs p≠none->∃r∈rs,r.b=p/\BQ (Aj (atC cs r.a) (Cc r)) (atC cs p)
def Good.kO {m s:Nat}{rs:List Road}{cs:List Co}(g:Good m s rs cs){i:Int}(h0:0<=i)(h1:i<m):NN (atC cs i):=
 g.nn _ (zr (DF h0 (by rw[g.len];exact h1)))
def Xg {m s:Nat}{rs:List Road}{cs:List Co}{r:Road}(g:Good m s rs cs)(hr:r∈rs)(Au:∀r∈rs,G7 m r):
 Good m s rs (D8 r cs)/\(∀i:Int,0<=i->BQ (atC (D8 r cs) i) (atC cs i))/\(DD (atC cs r.b) (Aj (atC cs r.a) (Cc r))=atC cs r.b->D8 r cs=cs)/\
 (DD (atC cs r.b) (Aj (atC cs r.a) (Cc r))≠atC cs r.b->O8 ltN (D8 r cs) cs):=by
 have ok:=Au r hr;have b9:r.b<cs.length:=by rw[g.len];exact ok.b1
 have hx:NN (Aj (atC cs r.a) (Cc r)):=Nk (g.kO ok.a0 ok.a1) (VX ok);have hv:NN (DD (atC cs r.b) (Aj (atC cs r.a) (Cc r))):=ZL (g.kO ok.b0 ok.b1) hx;have aW:∀i:Int,0<=i->atC (D8 r cs) i=if i=r.b then DD (atC cs r.b) (Aj (atC cs r.a) (Cc r)) else atC cs i:=λ i hi=>HP ok.b0 hi b9
 have le:∀i:Int,0<=i->BQ (atC (D8 r cs) i) (atC cs i):=λ i hi=>by
  rw[aW i hi];by_cases h:i=r.b
  ·rw[if_pos h,h];exact EB _ _
  ·rw[if_neg h];exact Cb _
 refine⟨⟨by unfold D8;rw[yI];exact g.len,?_,λ c hc=>?_,λ p h0 h1 hp hn=>?_⟩,le,λ h=>?_,λ h=>?_⟩
 ·rw[aW s (by omega)];by_cases h:(s:Int)=r.b
  ·rw[if_pos h,<-h,g.st];cases q:Aj (atC cs r.a) (Cc r) with
   |none=>rfl
   |some x =>
    rw[q] at hx;unfold DD kN;dsimp only;rw[if_pos (by simp only[NN] at hx;omega)]
  ·rw[if_neg h];exact g.st
 ·unfold D8 at hc;rcases zaz hc with h|h
  ·exact g.nn c h
  ·rw[h];exact hv
 ·rw[aW p h0] at hn ⊢;by_cases h:p=r.b
  ·rw[if_pos h] at hn ⊢;rcases Bs (atC cs r.b) (Aj (atC cs r.a) (Cc r)) with ⟨e,_⟩|⟨e,_⟩
   ·rw[e] at hn ⊢;subst h;obtain⟨r',h2,h3,h4⟩:=g.sup r.b h0 h1 hp hn;exact⟨r',h2,h3,Ao (C3 _ (le r'.a (Au r' h2).a0)) h4⟩
   ·rw[e];exact⟨r,hr,h.symm,C3 _ (le r.a ok.a0)⟩
  ·rw[if_neg h] at hn ⊢;obtain⟨r',h2,h3,h4⟩:=g.sup p h0 h1 hp hn;exact⟨r',h2,h3,Ao (C3 _ (le r'.a (Au r' h2).a0)) h4⟩
 ·unfold D8;rw[h];exact set_same (DF ok.b0 b9)
 ·unfold D8;exact Vv ltN (DF ok.b0 b9) ⟨hv,EB _ _,h⟩
abbrev Right (m s:Nat)(rs:List Road)(cs:List Co):Prop:=
 cs.length=m/\atC cs s=some (0,0)/\(∀c∈cs,NN c)/\∀p:Int,0<=p->p<m->p≠s->atC cs p=Ft ((rs.filter λ r=>decide (r.b=p)).map λ r=>Aj (Cc r) (atC cs r.a))
def right_of {m s:Nat}{rs:List Road}{cs:List Co}(g:Good m s rs cs)(h:∀r∈rs,DD (atC cs r.b) (Aj (atC cs r.a) (Cc r))=atC cs r.b):Right m s rs cs:=by
 refine⟨g.len,g.st,g.nn,λ p h0 h1 hp=>?_⟩;symm;refine iT (λ x hx=>?_) λ hn=>?_
 ·obtain⟨r,hr,rfl⟩:=zA.mp hx;obtain⟨h2,h3⟩:=yH.mp hr;have e:r.b=p:=by simpa using h3
  have:=EC (atC cs r.b) (Aj (atC cs r.a) (Cc r));rw[h r h2,e] at this;rw[Bb];exact this
 ·obtain⟨r,h2,h3,h4⟩:=g.sup p h0 h1 hp hn;refine⟨_,zA.mpr ⟨r,yH.mpr ⟨h2,by simpa using h3⟩,rfl⟩,?_⟩;rw[Bb];exact h4
def Nl {m s:Nat}(rs:List Road)(h:s<m):Good m s rs ((zt m none).set s (some (0,0))):=by
 have hl:(zt m (none:Co)).length=m:=zas;have aW:∀i:Int,0<=i->atC ((zt m none).set s (some (0,0))) i=if i=s then some (0,0) else none:=λ i hi=>by
  have:=HP (cs:=zt m none) (i:=(s:Int)) (j:=i) (v:=some (0,0)) (by omega) hi (by rw[hl];omega);rw[yM] at this;rw[this];by_cases h:i=s
  ·rw[if_pos h,if_pos h]
  ·rw[if_neg h,if_neg h];unfold atC;rw[zu,za7];split<;>rfl
 refine⟨by rw[yI,hl],?_,λ c hc=>?_,λ p h0 h1 hp hn=>?_⟩
 ·rw[aW s (by omega),if_pos rfl]
 ·rcases zaz hc with h|h
  ·rw[List.eq_of_mem_replicate h];trivial
  ·rw[h];exact⟨Int.le_refl _,Int.le_refl _⟩
 ·rw[aW p h0,if_neg hp] at hn;exact (hn rfl).elim
def oJ {α:Type}{l:List α}{n:Int}(h:0<=n/\n<l.length):RO l n=l[n.toNat]? :=by
 unfold RO OP;obtain⟨h1,h2⟩:=h;simp[h1,h2]
def Mq {n:Nat}{j:Int}(h:0<=j/\j<n):OP n j=some j.toNat:=by
 unfold OP;obtain⟨h1,h2⟩:=h;simp[h1,h2]
def HQ {α:Type}{f:α->D}{l:List α}{n:Int}{x:α}(h0:0<=n)(h:l[n.toNat]?=some x):fO (.lst (l.map f)) (.int n)=.ok (f x):=by
 have h1:=(zx.mp h).1;unfold fO;dsimp only;rw[oJ (by rw[zc];omega),z5,h];rfl
def Cd {cs:List Co}{i:Int}(h0:0<=i)(h1:i<cs.length):fO (.lst (cs.map cst)) (.int i)=.ok (cst (atC cs i)):=HQ h0 (DF h0 h1)
def Nm {n:Nat}(c:Co):Pl (n+1) (cst c):=by
 cases c with
 |none=>exact nJ
 |some p=>exact Z1 (M2 (Gw _) (M2 (Gw _) Z3))
def VY (a b:Co):Ba (cst a) (cst b)=decide (a=b):=by
 rcases a with _|⟨a1,a2⟩<;>rcases b with _|⟨b1,b2⟩
 ·simp[cst,Ba]
 ·simp[cst,Ba]
 ·simp[cst,Ba]
 ·rw[zah];simp[cst,Ba,Cq]
def iV (a b:Co):dS 16 (cst a) (cst b)=.ok (.bl (!decide (a=b))):=by rw[Ul (Nm (n:=15) a) (Nm (n:=15) b),VY]
def QD (a b:Co):fN 16 (cst a) (cst b)=.ok (.bl (decide (a=b))):=by rw[Uk (Nm (n:=15) a) (Nm (n:=15) b),VY]
def VZ (c:Co):Ji (cst c)=true:=by
 cases c<;>simp[cst,Ji,Jj]
def QE (c:Co):dp (.ok (cst c))=.ok (cst c):=by
 unfold dp;rw[M.A9,if_pos (VZ c)]
def AZ {a b:Int}(h:0<b):Et (.int a) (.int b)=.ok (.int (a%b)):=by
 unfold Et BB;dsimp only;rw[if_pos h]
def F4 {a b:Int}(h:Yd a b):Le (.int a) (.int b)=.ok (.int (a / b)):=by
 unfold Le BB;dsimp only;rw[if_pos h]
inductive Wk (rs:List Road):Int->Int->Int×Int->Prop
 |nil (u:Int):Wk rs u u (0,0)
 |cons {r:Road} {l:Int} {w:Int} {c:Int×Int}:r∈rs->r.l=some l->Wk rs r.b w c->Wk rs r.a w (l+c.1,1+c.2)
def Wk.trans {rs:List Road}{u v w:Int}{c d:Int×Int}(h:Wk rs u v c)(k:Wk rs v w d):Wk rs u w (c.1+d.1,c.2+d.2):=by
 induction h with
 |nil u=>simpa using k
 |cons hr hl _ ih =>
  have:=Wk.cons hr hl (ih k);simpa [zax] using this
def Wk.one {rs:List Road}{r:Road}{l:Int}(hr:r∈rs)(hl:r.l=some l):Wk rs r.a r.b (l,1):=by
 have:=Wk.cons hr hl (Wk.nil (rs:=rs) r.b);simpa using this
abbrev BI (rs:List Road)(u w:Int)(x:Co):Prop:=(∀c,Wk rs u w c->BQ x (some c))/\∀p,x=some p->Wk rs u w p
def BI.Ci {rs:List Road}{u w:Int}{x y:Co}(h:BI rs u w x)(k:BI rs u w y):x=y:=by
 refine K1 ?_ ?_
 ·cases y with
  |none=>cases x<;>exact trivial
  |some q=>exact h.1 q (k.2 q rfl)
 ·cases x with
  |none=>cases y<;>exact trivial
  |some q=>exact k.1 q (h.2 q rfl)
def K4 {r:Road}{c:Int×Int}(h:Cc r=some c):∃l,r.l=some l/\c=(l,1):=by
 unfold Cc at h;split at h
 ·cases h
 ·rename_i l e;cases h;exact⟨l,e,rfl⟩
def DQ {a b:Co}{c:Int×Int}(h:Aj a b=some c):∃p q,a=some p/\b=some q/\c=(p.1+q.1,p.2+q.2):=by
 cases a with
 |none=>cases h
 |some p=>cases b with
  |none=>cases h
  |some q=>cases h;exact⟨p,q,rfl,rfl,rfl⟩
def Right.min_le {m s:Nat}{rs:List Road}{cs:List Co}(h:Right m s rs cs){r:Road}(hr:r∈rs)(Au:G7 m r):BQ (atC cs r.b) (Aj (Cc r) (atC cs r.a)):=by
 obtain⟨h1,h2,h3,h4⟩:=h;by_cases hs:r.b=s
 ·rw[hs,h2];have hn:NN (Aj (Cc r) (atC cs r.a)):=Nk (VX Au) (h3 _ (zr (DF Au.a0 (by rw[h1];exact Au.a1))));cases q:Aj (Cc r) (atC cs r.a) with
  |none=>exact trivial
  |some p=>rw[q] at hn;simp only[NN] at hn;simp only[BQ];omega
 ·rw[h4 r.b Au.b0 Au.b1 hs];exact Mp (zA.mpr ⟨r,yH.mpr ⟨hr,by simp⟩,rfl⟩)
def Xh {m s:Nat}{rs:List Road}{cs:List Co}(h:Right m s rs cs)(Au:∀r∈rs,G7 m r){u w:Int}{c:Int×Int}(k:Wk rs u w c):BQ (atC cs w) (Aj (atC cs u) (some c)):=by
 induction k with
 |nil u =>
  cases atC cs u with
  |none=>exact trivial
  |some p=>simp only[Aj,BQ];omega
 | @cons r l w c hr hl _ ih =>
  refine Ao ih ?_;have h1:=h.min_le hr (Au r hr);have e:Cc r=some (l,1):=by unfold Cc;rw[hl]
  rw[e] at h1;cases q:atC cs r.a with
  |none=>exact trivial
  |some p =>
   rw[q] at h1;cases q2:atC cs r.b with
   |none=>rw[q2] at h1;exact h1.elim
   |some p2=>rw[q2] at h1;simp only[Aj,BQ] at *;omega
def Xi {m s:Nat}{rs:List Road}{cs:List Co}(h:Right m s rs cs)(Au:∀r∈rs,G7 m r):∀(n:Nat) (w:Int) (p:Int×Int),0<=w->w<m->atC cs w=some p->p.2.toNat=n->Wk rs s w p:=by
 obtain⟨h1,h2,h3,h4⟩:=h;intro n;induction n with
 |zero =>
  intro w p h0 hw hp hn;by_cases hs:w=s
  ·rw[hs,h2] at hp;cases hp;rw[hs];exact .nil _
  ·exfalso;have e:=h4 w h0 hw hs;rw[hp] at e;rcases K2 ((rs.filter λ r=>decide (r.b=w)).map λ r=>Aj (Cc r) (atC cs r.a)) with z|z
   ·rw[z] at e;cases e
   ·rw[<-e] at z;obtain⟨r,hr,e2⟩:=zA.mp z;have du:=(yH.mp hr).1;obtain⟨p1,p2,e3,e4,e5⟩:=DQ e2;obtain⟨l,hl,rfl⟩:=K4 e3;have ok:=Au r du;have nn:=h3 _ (zr (DF ok.a0 (by rw[h1];exact ok.a1)));rw[e4] at nn;simp only[NN] at nn;rw[e5] at hn;simp only at hn;omega
 |succ n ih =>
  intro w p h0 hw hp hn;by_cases hs:w=s
  ·rw[hs,h2] at hp;cases hp;rw[hs];exact .nil _
  ·have e:=h4 w h0 hw hs;rw[hp] at e;rcases K2 ((rs.filter λ r=>decide (r.b=w)).map λ r=>Aj (Cc r) (atC cs r.a)) with z|z
   ·rw[z] at e;cases e
   ·rw[<-e] at z;obtain⟨r,hr,e2⟩:=zA.mp z;obtain⟨du,oq⟩:=yH.mp hr;have oq:r.b=w:=by simpa using oq
    obtain⟨p1,p2,e3,e4,e5⟩:=DQ e2;obtain⟨l,hl,rfl⟩:=K4 e3;have ok:=Au r du;have nn:=h3 _ (zr (DF ok.a0 (by rw[h1];exact ok.a1)));rw[e4] at nn;simp only[NN] at nn;subst e5;simp only at hn;have w1:=ih r.a p2 ok.a0 ok.a1 e4 (by omega);have w2:=w1.trans (Wk.one du hl);rw[oq] at w2;have e6:((l+p2.1,1+p2.2):Int×Int)=(p2.1+l,p2.2+1):=by rw[Int.add_comm l,Int.add_comm 1]
    show Wk rs s w (l+p2.1,1+p2.2);rw[e6];exact w2
def Right.ZM {m s:Nat}{rs:List Road}{cs:List Co}(h:Right m s rs cs)(Au:∀r∈rs,G7 m r){w:Int}(h0:0<=w)(hw:w<m):BI rs s w (atC cs w):=by
 refine⟨λ c k=>?_,λ p hp=>Xi h Au _ w p h0 hw hp rfl⟩;have:=Xh h Au k;rw[h.2.1] at this;have e:Aj (some (0,0)) (some c)=some c:=by simp[Aj]
 rw[e] at this;exact this
def Ux {a b c d:Co}(h:BQ a b)(k:BQ c d):BQ (Aj a c) (Aj b d):=by
 refine Ao (C3 c h) ?_;rw[Bb b c,Bb b d];exact C3 b k
def D9:∀a b c:Co,Aj (Aj a b) c=Aj a (Aj b c)
 |none,b,c=>by cases b<;>cases c<;>rfl
 |some p,none,c=>by cases c<;>rfl
 |some p,some q,none=>rfl
 |some p,some q,some r=>by simp only[Aj];rw[zax,zax]
def Pr:∀a:Co,Aj a (some (0,0))=a
 |none=>rfl
 |some p=>by simp[Aj]
def Xj (a:Co):Aj (some (0,0)) a=a:=by rw[Bb];exact Pr a
def Sy (a:Co):DD a a=a:=by rcases Bs a a with ⟨e,_⟩ | ⟨e,_⟩<;>exact e
def ZN {a b:Co}(h:NN b):BQ a (Aj a b):=by
 cases a with
 |none=>exact trivial
 |some p=>cases b with
  |none=>exact trivial
  |some q=>simp only[NN] at h;simp only[Aj,BQ];omega
structure FW (m k:Nat)(rs:List Road)(A:Int->Int->Co):Prop where
 dg:∀x:Int,0<=x->x<m->A x x=some (0,0)
 nn:∀x y:Int,0<=x->x<m->0<=y->y<m->NN (A x y)
 sd:∀x y:Int,0<=x->x<m->0<=y->y<m->∀p,A x y=some p->Wk rs x y p
 ed:∀r∈rs,BQ (A r.a r.b) (Cc r)
 tr:∀v x y:Int,0<=v->v<k->0<=x->x<m->0<=y->y<m->BQ (A x y) (Aj (A x v) (A v y))
abbrev over (k:Int)(A:Int->Int->Co):Int->Int->Co:=λ x y=>DD (A x y) (Aj (A x k) (A k y))
def Sz {m k:Nat}{rs:List Road}{A:Int->Int->Co}(F:FW m k rs A)(hk:k<m)(x:Int):over k A x k=A x k:=by
 unfold over;rw[F.dg k (by omega) (by omega),Pr,Sy]
def SA {m k:Nat}{rs:List Road}{A:Int->Int->Co}(F:FW m k rs A)(hk:k<m)(y:Int):over k A k y=A k y:=by
 unfold over;rw[F.dg k (by omega) (by omega),Xj,Sy]
def ZO {m k:Nat}{rs:List Road}{A:Int->Int->Co}(F:FW m k rs A)(hk:k<m):FW m (k+1) rs (over k A):=by
 have k0:(0:Int)<=k:=by omega
 have k1:(k:Int)<m:=by omega
 refine⟨λ x h0 h1=>?_,λ x y h0 h1 h2 h3=>ZL (F.nn x y h0 h1 h2 h3) (Nk (F.nn x k h0 h1 k0 k1) (F.nn k y k0 k1 h2 h3)),λ x y h0 h1 h2 h3 p hp=>?_,λ r hr=>Ao (EB _ _) (F.ed r hr),λ v x y v0 v1 h0 h1 h2 h3=>?_⟩
 ·unfold over;rw[F.dg x h0 h1];have hn:NN (Aj (A x k) (A k x)):=Nk (F.nn x k h0 h1 k0 k1) (F.nn k x k0 k1 h0 h1);cases q:Aj (A x k) (A k x) with
  |none=>rfl
  |some z =>
   rw[q] at hn;simp only[NN] at hn;unfold DD kN;dsimp only;rw[if_pos (by omega)]
 ·unfold over at hp;rcases Bs (A x y) (Aj (A x k) (A k y)) with ⟨e,_⟩|⟨e,_⟩
  ·rw[e] at hp;exact F.sd x y h0 h1 h2 h3 p hp
  ·rw[e] at hp;obtain⟨p1,p2,e1,e2,rfl⟩:=DQ hp;exact (F.sd x k h0 h1 k0 k1 p1 e1).trans (F.sd k y k0 k1 h2 h3 p2 e2)
 ·by_cases hv:v=k
  ·subst hv;rw[Sz F hk,SA F hk];exact EC _ _
  ·have vk:v<k:=by omega
   have vm:v<m:=by omega
   have vp:=F.tr v x y v0 vk h0 h1 h2 h3;have vq:=F.tr v k y v0 vk k0 k1 h2 h3;have vt:=F.tr v x k v0 vk h0 h1 k0 k1;have g1:BQ (over k A x y) (A x y):=EB _ _;have g2:BQ (over k A x y) (Aj (A x k) (A k y)):=EC _ _;have vw:=F.nn k v k0 k1 v0 vm;have vx:=F.nn v k v0 vm k0 k1;have e1:over k A x v=DD (A x v) (Aj (A x k) (A k v)):=rfl;have e2:over k A v y=DD (A v y) (Aj (A v k) (A k y)):=rfl;rw[e1,e2];rcases Bs (A x v) (Aj (A x k) (A k v)) with ⟨e,_⟩|⟨e,_⟩<;>rcases Bs (A v y) (Aj (A v k) (A k y)) with ⟨e',_⟩|⟨e',_⟩<;>rw[e,e']
   ·exact Ao g1 vp
   ·refine Ao g2 ?_;rw[<-D9];exact C3 _ vt
   ·refine Ao g2 ?_;rw[D9,Bb (A x k),Bb (A x k)];exact C3 _ vq
   ·refine Ao g2 ?_;have e3:Aj (Aj (A x k) (A k v)) (Aj (A v k) (A k y))=Aj (Aj (A x k) (A k y)) (Aj (A k v) (A v k)):=by
     rw[D9,D9,<-D9 (A k v),Bb (Aj (A k v) (A v k))]
    rw[e3];exact ZN (Nk vw vx)
def oK {m:Nat}{rs:List Road}{A:Int->Int->Co}(F:FW m m rs A)(Au:∀r∈rs,G7 m r){x y:Int}(h0:0<=x)(h1:x<m)(h2:0<=y)(h3:y<m):BI rs x y (A x y):=by
 refine⟨λ c k=>?_,F.sd x y h0 h1 h2 h3⟩;induction k with
 |nil u=>rw[F.dg u h0 h1];exact Cb _
 | @cons r l w c hr hl k' ih =>
  have ok:=Au r hr;have i1:=ih ok.b0 ok.b1 h2 h3;have t:=F.tr r.b r.a w ok.b0 (by have:=ok.b1;omega) h0 h1 h2 h3;have e:=F.ed r hr;have e':Cc r=some (l,1):=by unfold Cc;rw[hl]
  rw[e'] at e;refine Ao t (Ao (Ux e i1) ?_);exact Cb _
structure Nn (m:Nat)(rs:List Road)(u:Int)(n:Nat)(R:List Co):Prop where
 len:R.length=m
 st:atC R u=some (0,0)
 nn:∀c∈R,NN c
 sd:∀y:Int,0<=y->y<m->∀p,atC R y=some p->Wk rs u y p
 ed:∀r∈rs.take n,r.a=u->BQ (atC R r.b) (Cc r)
def Xk {m u:Nat}(rs:List Road)(h:u<m):Nn m rs u 0 ((zt m none).set u (some (0,0))):=by
 have g:=Nl (m:=m) (s:=u) rs h;refine⟨g.len,g.st,g.nn,λ y h0 h1 p hp=>?_,λ r hr=>by rw[List.take_zero] at hr;cases hr⟩;by_cases hy:y=u
 ·rw[hy,g.st] at hp;cases hp;rw[hy];exact .nil _
 ·have:=HP (cs:=zt m none) (i:=(u:Int)) (j:=y) (v:=some (0,0)) (by omega) h0 (by rw[zas];omega);rw[yM,if_neg hy] at this;rw[this] at hp;unfold atC at hp;rw[zu,za7] at hp;split at hp<;>cases hp
def ZP {m:Nat}{rs:List Road}{u:Int}{n:Nat}{R:List Co}{r:Road}(g:Nn m rs u n R)(hr:rs[n]?=some r)(hu:r.a≠u):Nn m rs u (n+1) R:=
 ⟨g.len,g.st,g.nn,g.sd,λ r' aX ai=>by
  rw[y9,hr] at aX;rcases zy.mp aX with h|h
  ·exact g.ed r' h ai
  ·have:r'=r:=by simpa using h
   rw[this] at ai;exact (hu ai).elim⟩
def ZQ {m:Nat}{rs:List Road}{u:Int}{n:Nat}{R:List Co}{r:Road}(g:Nn m rs u n R)(hr:rs[n]?=some r)(hu:r.a=u)(Au:∀r∈rs,G7 m r):Nn m rs u (n+1) (R.set r.b.toNat (DD (atC R r.b) (Cc r))):=by
 have hm:=zr hr;have ok:=Au r hm;have b9:r.b<R.length:=by rw[g.len];exact ok.b1
 have aW:∀i:Int,0<=i->atC (R.set r.b.toNat (DD (atC R r.b) (Cc r))) i=if i=r.b then DD (atC R r.b) (Cc r) else atC R i:=λ i hi=>HP ok.b0 hi b9
 have nb:NN (atC R r.b):=g.nn _ (zr (DF ok.b0 b9));refine⟨by rw[yI];exact g.len,?_,λ c hc=>?_,λ y h0 h1 p hp=>?_,λ r' aX ai=>?_⟩
 ·rw[aW u (by rw[<-hu];exact ok.a0)];by_cases h:u=r.b
  ·rw[if_pos h,<-h,g.st];have hx:=VX ok;cases q:Cc r with
   |none=>rfl
   |some z =>
    rw[q] at hx;simp only[NN] at hx;unfold DD kN;dsimp only;rw[if_pos (by omega)]
  ·rw[if_neg h];exact g.st
 ·rcases zaz hc with h|h
  ·exact g.nn c h
  ·rw[h];exact ZL nb (VX ok)
 ·rw[aW y h0] at hp;by_cases h:y=r.b
  ·rw[if_pos h] at hp;rcases Bs (atC R r.b) (Cc r) with ⟨e,_⟩|⟨e,_⟩
   ·rw[e] at hp;rw[h];exact g.sd r.b ok.b0 ok.b1 p hp
   ·rw[e] at hp;obtain⟨l,hl,rfl⟩:=K4 hp;rw[h,<-hu];exact Wk.one hm hl
  ·rw[if_neg h] at hp;exact g.sd y h0 h1 p hp
 ·have oy:r'∈rs:=zS aX;rw[aW r'.b (Au r' oy).b0];rw[y9,hr] at aX;rcases zy.mp aX with h|h
  ·by_cases hb:r'.b=r.b
   ·rw[if_pos hb];have:=g.ed r' h ai;rw[hb] at this;exact Ao (EB _ _) this
   ·rw[if_neg hb];exact g.ed r' h ai
  ·have e:r'=r:=by simpa using h
   rw[e,if_pos rfl];exact EC _ _
abbrev at2 (ac:List (List Co))(x y:Int):Co:=atC (ac.getD x.toNat []) y
abbrev Av (ac:List (List Co)):List (List D):=ac.map λ R=>R.map cst
structure Ol (m:Nat)(ac:List (List Co)):Prop where
 len:ac.length=m
 row:∀R∈ac,R.length=m
def Ol.get {m:Nat}{ac:List (List Co)}(h:Ol m ac){x:Int}(h0:0<=x)(h1:x<m):ac[x.toNat]?=some (ac.getD x.toNat [])/\(ac.getD x.toNat []).length=m:=by
 have hl:x.toNat<ac.length:=by rw[h.len];omega
 have e:ac[x.toNat]?=some (ac.getD x.toNat []):=by rw[zu,zh hl];rfl
 exact⟨e,h.row _ (zr e)⟩
abbrev put2 (ac:List (List Co))(x y:Int)(v:Co):List (List Co):=ac.set x.toNat ((ac.getD x.toNat []).set y.toNat v)
def Ol.put {m:Nat}{ac:List (List Co)}(h:Ol m ac){x y:Int}(h0:0<=x)(h1:x<m)(h2:0<=y)(h3:y<m)(v:Co):Ol m (put2 ac x y v)/\∀x' y':Int,0<=x'->0<=y'->at2 (put2 ac x y v) x' y'=if x'=x/\y'=y then v else at2 ac x' y':=by
 obtain⟨e,hl⟩:=h.get h0 h1;refine⟨⟨by unfold put2;rw[yI];exact h.len,λ R hR=>?_⟩,λ x' y' hx hy=>?_⟩
 ·unfold put2 at hR;rcases zaz hR with z|z
  ·exact h.row R z
  ·rw[z,yI];exact hl
 ·unfold at2 put2;by_cases se:x'=x
  ·subst se;have e2:(ac.set x'.toNat ((ac.getD x'.toNat []).set y.toNat v)).getD x'.toNat []=(ac.getD x'.toNat []).set y.toNat v:=by
    rw[zu (l:=ac.set _ _),zI (by rw[h.len];omega)];rfl
   rw[e2,HP h2 hy (by rw[hl];exact h3)];by_cases kh:y'=y
   ·rw[if_pos kh,if_pos ⟨rfl,kh⟩]
   ·rw[if_neg kh,if_neg (λ z=>kh z.2)]
  ·have e2:(ac.set x.toNat ((ac.getD x.toNat []).set y.toNat v)).getD x'.toNat []=ac.getD x'.toNat []:=by
    rw[zu,yL (by omega),zu]
   rw[e2,if_neg (λ z=>se z.1)]
def SD {m:Nat}{ac:List (List Co)}(h:Ol m ac){x:Int}(h0:0<=x)(h1:x<m):rowAt (Av ac) (.int x)=.ok ((ac.getD x.toNat []).map cst):=by
 obtain⟨e,hl⟩:=h.get h0 h1;have e1:OP (Av ac).length x=some x.toNat:=Mq ⟨h0,by unfold Av;rw[zc,h.len];exact h1⟩;have e2:(Av ac)[x.toNat]?=some ((ac.getD x.toNat []).map cst):=by unfold Av;rw[z5,e];rfl
 unfold rowAt;simp only[e1,e2]
def iW {m:Nat}{ac:List (List Co)}(h:Ol m ac){x y:Int}(h0:0<=x)(h1:x<m)(h2:0<=y)(h3:y<m):fO (.lst ((ac.getD x.toNat []).map cst)) (.int y)=.ok (cst (at2 ac x y)):=
 Cd h2 (by rw[(h.get h0 h1).2];exact h3)
def iX {m:Nat}{ac:List (List Co)}(h:Ol m ac){x y:Int}(h0:0<=x)(h1:x<m)(h2:0<=y)(h3:y<m)(i:Nat)(ρ:Ac)(v:Co):gC i ρ (Av ac) (cst v) (.int x) ((ac.getD x.toNat []).map cst) (.int y)=.ok (.next (ρ.set i (some (.ow (.rows (Av (put2 ac x y v))))))):=by
 have e1:OP (Av ac).length x=some x.toNat:=Mq ⟨h0,by unfold Av;rw[zc,h.len];exact h1⟩;have e2:OP ((ac.getD x.toNat []).map cst).length y=some y.toNat:=Mq ⟨h2,by rw[zc,(h.get h0 h1).2];exact h3⟩;unfold gC;simp only[e1,e2];unfold Av put2;rw[List.map_set,List.map_set]
def FW.congr {m k:Nat}{rs:List Road}{A B:Int->Int->Co}(F:FW m k rs A)(hk:k<=m)(Au:∀r∈rs,G7 m r)(h:∀x y:Int,0<=x->x<m->0<=y->y<m->B x y=A x y):FW m k rs B:=by
 refine⟨λ x h0 h1=>?_,λ x y h0 h1 h2 h3=>?_,λ x y h0 h1 h2 h3 p hp=>?_,λ r hr=>?_,λ v x y v0 v1 h0 h1 h2 h3=>?_⟩
 ·rw[h x x h0 h1 h0 h1];exact F.dg x h0 h1
 ·rw[h x y h0 h1 h2 h3];exact F.nn x y h0 h1 h2 h3
 ·rw[h x y h0 h1 h2 h3] at hp;exact F.sd x y h0 h1 h2 h3 p hp
 ·have ok:=Au r hr;rw[h r.a r.b ok.a0 ok.a1 ok.b0 ok.b1];exact F.ed r hr
 ·rw[h x y h0 h1 h2 h3,h x v h0 h1 v0 (by omega),h v y v0 (by omega) h2 h3];exact F.tr v x y v0 v1 h0 h1 h2 h3
def ZR {m:Nat}{rs:List Road}{ac:List (List Co)}(hM:Ol m ac)(Au:∀r∈rs,G7 m r)(h:∀u:Nat,u<m->Nn m rs u rs.length (ac.getD u [])):FW m 0 rs (at2 ac):=by
 have key:∀x:Int,0<=x->x<m->Nn m rs x rs.length (ac.getD x.toNat []):=λ x h0 h1=>by
  have:=h x.toNat (by omega);rw[Int.toNat_of_nonneg h0] at this;exact this
 refine⟨λ x h0 h1=>(key x h0 h1).st,λ x y h0 h1 h2 h3=>(key x h0 h1).nn _ (zr (DF h2 (by rw[(key x h0 h1).len];exact h3))),λ x y h0 h1 h2 h3 p hp=>(key x h0 h1).sd y h2 h3 p hp,λ r hr=>?_,λ v x y v0 v1=>by omega⟩;have ok:=Au r hr;exact (key r.a ok.a0 ok.a1).ed r (by rw[y8];exact hr) rfl
abbrev hit (rs:List Road)(cs:List Co)(p:Nat)(k:Nat):Bool:=match rs[k]? with
 |some r=>decide (r.b=(p:Int))&&decide (Aj (atC cs r.a) (Cc r)≠none)&&decide (Aj (atC cs r.a) (Cc r)=atC cs (p:Int))
 |none=>false
def Wk.nn {m:Nat}{rs:List Road}(Au:∀r∈rs,G7 m r){u w:Int}{c:Int×Int}(h:Wk rs u w c):0<=c.1/\0<=c.2:=by
 induction h with
 |nil=>exact⟨Int.le_refl _,Int.le_refl _⟩
 |cons hr hl _ ih =>
  have:=(Au _ hr).l0 _ hl;simp only;omega
abbrev pD (p:Int×Int):D:=.tup [.int p.1,.int p.2]
def GI (p q:Int×Int):Ba (pD p) (pD q)=decide (p=q):=by
 obtain⟨a,b⟩:=p;obtain⟨c,d⟩:=q;unfold pD;simp only[Ba,Cq,Bool.and_true];rw[zah];simp
def GJ (p:Int×Int):keyOk true (pD p)=true:=rfl
def W0 (B:List (Int×Int))(p:Int×Int):LS (B.map pD) (pD p)=decide (p∈B):=by
 unfold LS;rw[List.any_map,zah];simp only[za3,Function.comp,GI,decide_eq_true_eq];constructor
 ·rintro ⟨x,hx,rfl⟩;exact hx
 ·intro h;exact⟨p,h,rfl⟩
def QF (B:List (Int×Int))(vs:List D)(neg:Bool)(a b:Int):Jr neg (.tup [.int a,.int b]) (.Bn true (B.map pD) vs)=.ok (.bl (if neg=true then !decide ((a,b)∈B) else decide ((a,b)∈B))):=by
 unfold Jr;dsimp only;have h1:keyOk true (D.tup [D.int a,D.int b])=true:=rfl;have h2:LS (B.map pD) (D.tup [D.int a,D.int b])=decide ((a,b)∈B):=W0 B (a,b);rw[if_pos h1,h2]
abbrev KS (B:List (Int×Int))(p:Int×Int):List (Int×Int):=if p∈B then B else B++[p]
abbrev CZ {α:Type}(B:List α):List D:=B.map λ _=>.bl true
def Pt {α:Type}(f:α->D)(y:D):∀B:List α,IQ (B.map f) (CZ B) y (.bl true)=CZ B
 |[]=>rfl
 |b::r=>by
  show IQ (f b::r.map f) (.bl true::CZ r) y (.bl true)=.bl true::CZ r;rw[IQ,Pt f y r];split<;>rfl
def W3 (B:List (Int×Int))(p:Int×Int):putD (B.map pD) (CZ B) (pD p) (.bl true)=((KS B p).map pD,CZ (KS B p)):=by
 unfold putD KS;rw[W0];by_cases h:p∈B
 ·rw[decide_eq_true h,if_pos rfl,if_pos h,Pt]
 ·rw[decide_eq_false h,if_neg (by simp),if_neg h];unfold CZ;simp
def SE {B:List (Int×Int)}{p q:Int×Int}:q∈KS B p↔q∈B\/q=p:=by
 unfold KS;split
 ·constructor
  ·exact .inl
  ·rintro (h|rfl)
   ·exact h
   ·assumption
 ·simp
def Uy {B:List (Int×Int)}{p:Int×Int}(h:B.Nodup):(KS B p).Nodup:=by
 unfold KS;split
 ·exact h
 ·rename_i hn;exact z8.mpr ⟨h,by simp,λ a ha b hb z=>by simp at hb;subst hb;subst z;exact hn ha⟩
def KU {α:Type}[DecidableEq α]:∀ {l u:List α},l.Nodup->(∀x∈l,x∈u)->l.length<=u.length
 |[],_,_,_=>zM _
 |x::r,u,nd,h=>by
  have aT:=zU.mp nd;have hx:=h x zd;have ih:=KU (l:=r) (u:=u.erase x) aT.2 λ y hy=>(List.mem_erase_of_ne (λ z=>aT.1 (by rw[<-z];exact hy))).mpr (h y (ze _ hy));have e:=List.length_erase_of_mem hx;have:0<u.length:=List.length_pos_of_mem hx;rw[zk];omega
def ZS (p:Int×Int):Ji (pD p)=true:=by simp[pD,Ji,Jj]
abbrev AR (m:Nat):List Int:=(yO m).map λ i:Nat=>(i:Int)
def Np (m:Nat):((yO m).map λ i:Nat=>D.int (i:Int))=(AR m).map D.int:=by unfold AR;rw[yK];rfl
def F5 (m:Nat):(AR m).length=m:=by unfold AR;simp
def GL {m:Nat}{p:Int}:p∈AR m↔0<=p/\p<m:=by
 unfold AR;constructor
 ·intro h;obtain⟨i,hi,rfl⟩:=zA.mp h;have:=zao.mp hi;omega
 ·rintro ⟨h0,h1⟩;exact zA.mpr ⟨p.toNat,zao.mpr (by omega),by omega⟩
abbrev B6 (B:List (Int×Int))(L:List Int)(v:Int):List (Int×Int):=(L.filter λ u=>decide ((u,v)∈B)).flatMap λ u=>((L.filter λ w=>decide ((v,w)∈B)).filter λ w=>decide (u≠w) && !decide ((u,w)∈B)).map λ w=>(u,w)
abbrev oM (B:List (Int×Int)):Prop:=∀x,(x,x)∉B
def Xl (B:List (Int×Int))(L:List Int)(v:Int):(B6 B L v).length<=L.length*L.length:=by
 unfold B6;rw[List.length_flatMap];have key:∀l:List Int,(l.map λ u=>(((L.filter λ w=>decide ((v,w)∈B)).filter λ w=>decide (u≠w) && !decide ((u,w)∈B)).map λ w=>(u,w)).length).sum<=l.length*L.length:=by
  intro l;induction l with
  |nil=>simp
  |cons u r ih =>
   rw[zf,List.sum_cons,zk,Nat.succ_mul];have:(((L.filter λ w=>decide ((v,w)∈B)).filter λ w=>decide (u≠w) && !decide ((u,w)∈B)).map λ w=>(u,w)).length<=L.length:=by
    rw[zc];exact zZ (List.length_filter_le _ _) (List.length_filter_le _ _)
   omega
 exact zZ (key _) (Nat.mul_le_mul_right _ (List.length_filter_le _ _))
def Pu {α:Type}(f:α->List Int):∀l:List α,Gu (l.map λ x=>D.tup ((f x).map D.int))=some (l.map λ x=>(D.tup ((f x).map D.int),f x))
 |[]=>rfl
 |x::r=>by
  rw[zf,Gu,Pu f r];simp[YY,EX]
def Pw {B:List (Int×Int)}{L:List Int}{v:Int}{p:Int×Int}(h:p∈B6 B L v):p.1∈L/\p.2∈L/\p.1≠p.2:=by
 unfold B6 at h;obtain⟨u,hu,h⟩:=List.mem_flatMap.mp h;obtain⟨w,hw,rfl⟩:=zA.mp h;have h1:=yH.mp hw;have h2:=yH.mp h1.1;have h3:=yH.mp hu;simp at h1;exact⟨h3.1,h2.1,h1.2.1⟩
abbrev Ct (B ps:List (Int×Int)):List (Int×Int):=ps.foldl KS B
structure Cu (m:Nat)(B:List (Int×Int)):Prop where
 nd:B.Nodup
 no:oM B
 xM:∀p∈B,(0<=p.1/\p.1<m)/\(0<=p.2/\p.2<m)
def Cu.add {m:Nat}{B:List (Int×Int)}(h:Cu m B){p:Int×Int}(hp:p.1≠p.2)(h1:0<=p.1/\p.1<m)(h2:0<=p.2/\p.2<m):Cu m (KS B p):=by
 refine⟨Uy h.nd,λ x hx=>?_,λ q hq=>?_⟩
 ·rcases SE.mp hx with z|z
  ·exact h.no x z
  ·subst z;exact hp rfl
 ·rcases SE.mp hq with z|z
  ·exact h.xM q z
  ·subst z;exact⟨h1,h2⟩
def Cu.Ct {m:Nat}{B:List (Int×Int)}(h:Cu m B):∀ {ps:List (Int×Int)},(∀p∈ps,p.1≠p.2/\(0<=p.1/\p.1<m)/\(0<=p.2/\p.2<m))->Cu m (L2.Ct B ps):=by
 intro ps;induction ps generalizing B with
 |nil=>intro _;exact h
 |cons p r ih =>
  intro hp;have:=hp p zd;exact ih (h.add this.1 this.2.1 this.2.2) λ q hq=>hp q (ze _ hq)
def Cu.len {m:Nat}{B:List (Int×Int)}(h:Cu m B)(hm:m<=20):B.length<1000:=by
 have key:=KU (l:=B) (u:=(yO m).flatMap λ i:Nat=>(yO m).map λ j:Nat=>((i:Int),(j:Int))) h.nd λ p hp=>by
  obtain⟨h1,h2⟩:=h.xM p hp;refine List.mem_flatMap.mpr ⟨p.1.toNat,zao.mpr (by omega),zA.mpr ⟨p.2.toNat,zao.mpr (by omega),?_⟩⟩;rw[Int.toNat_of_nonneg h1.1,Int.toNat_of_nonneg h2.1]
 have e:((yO m).flatMap λ i:Nat=>(yO m).map λ j:Nat=>((i:Int),(j:Int))).length=m*m:=by
  rw[List.length_flatMap];simp[List.map_const',List.sum_replicate_nat]
 rw[e] at key;have:m*m<=20*20:=Nat.mul_le_mul hm hm;omega
def EK (a b c d:Int):HT.lexLt [a,b] [c,d]=decide (a<c\/(a=c/\b<d)):=by
 rw[HT.Ff,HT.Ff,HT.EG,zah];by_cases h1:a=c
 ·subst h1;by_cases h2:b=d
  ·subst h2;simp
  ·simp[h2]
 ·simp[h1]
def Xm {α β:Type}(f:α->β):∀bs:List (α×List Int),B9 (bs.map λ b=>(f b.1,b.2))=(B9 bs).map λ b=>(f b.1,b.2):=by
 intro bs;unfold B9
 suffices z:∀o:Option (α×List Int),(bs.map λ b=>(f b.1,b.2)).foldl BO (o.map λ b=>(f b.1,b.2))=(bs.foldl BO o).map λ b=>(f b.1,b.2) from z none
 induction bs with
 |nil=>intro o;rfl
 |cons b r ih =>
  intro o;rw[zf,zL,zL,<-ih];congr 1;cases o with
  |none=>rfl
  |some c =>
   unfold BO;dsimp only [za9];split<;>rfl
def ZT {α:Type}:∀(bs:List (α×List Int)) (o:Option (α×List Int)) (b:α×List Int),bs.foldl BO o=some b->b∈bs\/o=some b:=by
 intro bs;induction bs with
 |nil=>intro o b h;exact .inr h
 |cons x r ih =>
  intro o b h;rw[zL] at h;rcases ih _ _ h with q|q
  ·exact .inl (ze _ q)
  ·cases o with
   |none=>cases q;exact .inl zd
   |some c =>
    unfold BO at q;dsimp only at q;split at q
    ·cases q;exact .inl zd
    ·exact .inr q
def Xn {α:Type}{bs:List (α×List Int)}(h2:∀b∈bs,∃x y:Int,b.2=[x,y]){b:α×List Int}(hb:B9 bs=some b):∀c∈bs,HT.lexLt c.2 b.2=false:=by
 unfold B9 at hb
 suffices z:∀(bs:List (α×List Int)) (o:Option (α×List Int)),(∀b∈bs,∃x y:Int,b.2=[x,y])->(∀b,o=some b->∃x y:Int,b.2=[x,y])->∀b,bs.foldl BO o=some b->(∀c∈bs,HT.lexLt c.2 b.2=false)/\(∀c,o=some c->HT.lexLt c.2 b.2=false) from (z bs none h2 (λ b h=>by cases h) b hb).1
 intro bs;induction bs with
 |nil =>
  intro o _ ho b h;refine⟨λ c hc=>(by cases hc),λ c hc=>?_⟩;have e:o=some b:=h;rw[hc] at e;cases e;obtain⟨x,y,e⟩:=ho _ hc;rw[e,EK];simp
 |cons d r ih =>
  intro o h2 ho b h;rw[zL] at h;have hd:=h2 d zd;have aL:∀b,BO o d=some b->∃x y:Int,b.2=[x,y]:=λ b hb=>by
   unfold BO at hb;cases o with
   |none=>cases hb;exact hd
   |some c =>
    dsimp only at hb;split at hb
    ·cases hb;exact hd
    ·cases hb;exact ho _ rfl
  obtain⟨i1,i2⟩:=ih (BO o d) (λ c hc=>h2 c (ze _ hc)) aL b h;have vy:=IB o d;obtain⟨k,hk⟩:∃k,BO o d=some k:=by
   cases q:BO o d with
   |none=>exact (vy q).elim
   |some k=>exact⟨k,rfl⟩
  have vz:=i2 k hk;obtain⟨kx,ky,ek⟩:=aL k hk;have fb:∃x y:Int,b.2=[x,y]:=by
   have:=ZT r (BO o d) b h;rcases this with z|z
   ·exact h2 b (ze _ z)
   ·exact aL b z
  obtain⟨bx,yr,eb⟩:=fb;obtain⟨dx,dy,ed⟩:=hd;rw[ek,eb,EK,decide_eq_false_iff_not] at vz;have bZ:HT.lexLt d.2 b.2=false/\∀c,o=some c->HT.lexLt c.2 b.2=false:=by
   unfold BO at hk;cases o with
   |none =>
    cases hk;rw[ed] at ek;injection ek with e1 e2
    injection e2 with e2 _
    refine⟨?_,λ c hc=>by cases hc⟩;rw[ed,eb,EK,decide_eq_false_iff_not];omega
   |some c =>
    obtain⟨cx,cy,ec⟩:=ho c rfl;dsimp only at hk;rw[ed,ec,EK] at hk;by_cases hl:dx<cx\/(dx=cx/\dy<cy)
    ·rw[if_pos (decide_eq_true hl)] at hk;cases hk;rw[ed] at ek;injection ek with e1 e2
     injection e2 with e2 _
     refine⟨?_,λ c' b6=>?_⟩
     ·rw[ed,eb,EK,decide_eq_false_iff_not];omega
     ·cases b6;rw[ec,eb,EK,decide_eq_false_iff_not];omega
    ·rw[if_neg (by simpa using hl)] at hk;cases hk;rw[ec] at ek;injection ek with e1 e2
     injection e2 with e2 _
     refine⟨?_,λ c' b6=>?_⟩
     ·rw[ed,eb,EK,decide_eq_false_iff_not];omega
     ·cases b6;rw[ec,eb,EK,decide_eq_false_iff_not];omega
  refine⟨λ c hc=>?_,bZ.2⟩;rcases zq.mp hc with z|z
  ·rw[z];exact bZ.1
  ·exact i1 c z
abbrev Bo (B:List (Int×Int))(L:List Int):Int:=match B9 (L.map λ p=>(p,[((B6 B L p).length:Int),p])) with
 |some k=>k.1
 |none=>0
def Px {B:List (Int×Int)}{L:List Int}(h:L≠[]):Bo B L∈L/\∀p∈L,¬ (((B6 B L p).length:Int)<(B6 B L (Bo B L)).length\/(((B6 B L p).length:Int)=(B6 B L (Bo B L)).length/\p<Bo B L)):=by
 unfold Bo;cases q:B9 (L.map λ p=>(p,[((B6 B L p).length:Int),p])) with
 |none=>exact (MM (λ z=>h (List.map_eq_nil_iff.mp z)) q).elim
 |some k =>
  obtain⟨p,hp,rfl⟩:=zA.mp (OV _ _ q);refine⟨hp,λ p' dh=>?_⟩;have:=Xn (λ b hb=>by obtain⟨x,_,rfl⟩:=zA.mp hb;exact⟨_,_,rfl⟩) q _ (zA.mpr ⟨p',dh,rfl⟩);rw[EK,decide_eq_false_iff_not] at this;exact this
abbrev QG:Nat->List (Int×Int)->List Int->List Int
 |0,_,_=>[]
 |n+1,B,L=>if L=[] then [] else Bo B L::QG n (Ct B (B6 B L (Bo B L))) (L.erase (Bo B L))
abbrev Bl (rs:List Road):List (Int×Int):=rs.foldl (λ B r=>match r.l with | none=>B | some _=>KS B (r.a,r.b)) []
def SF {m:Nat}:∀ {rs:List Road},(∀r∈rs,G7 m r/\r.a≠r.b)->Cu m (Bl rs):=by
 intro rs
 suffices z:∀(rs:List Road) (B:List (Int×Int)),Cu m B->(∀r∈rs,G7 m r/\r.a≠r.b)->Cu m (rs.foldl (λ B r=>match r.l with|none=>B|some _=>KS B (r.a,r.b)) B) from λ h=>z rs [] ⟨yS,λ x h=>(by cases h),λ p h=>(by cases h)⟩ h
 intro rs;induction rs with
 |nil=>intro B h _;exact h
 |cons r t ih =>
  intro B h hr;rw[zL];refine ih _ ?_ λ r' h'=>hr r' (ze _ h');have:=hr r zd;cases r.l with
  |none=>exact h
  |some l=>exact h.add this.2 ⟨this.1.a0,this.1.a1⟩ ⟨this.1.b0,this.1.b1⟩
def F6 {f:Int->Int->M D}{a b:Int}:BB f (.int a) (.int b)=f a b:=rfl
def GN {bs:List Bool}:WQ [.lst (bs.map D.bl)]=.ok (.bl (bs.all id)):=by unfold WQ;dsimp only;rw[MY]
def K5 {bs:List Bool}:Zc [.lst (bs.map D.bl)]=.ok (.bl (bs.any id)):=by unfold Zc;dsimp only;rw[MY]
def iY {a b:List D}(h:a.length+b.length<=1000):Sd (.lst a) (.lst b)=.ok (.lst ((a++b).map .sh)):=if_pos h
def SG (m:Nat):(AR m).Pairwise (·<=·):=by
 unfold AR;rw[List.pairwise_map];exact (List.pairwise_lt_range (n:=m)).imp λ h=>by omega
def Nq (m:Nat):(AR m).Nodup:=by
 unfold AR List.Nodup;rw[List.pairwise_map];exact (List.pairwise_lt_range (n:=m)).imp λ h=>by omega
def Xo {m:Nat}{L:List Int}:GC L=AR m↔L.Perm (AR m):=
 ⟨λ h=>by rw[<-h];exact (Eb L).symm,λ h=>GD ((Eb L).trans h) (Fs L) (SG m)⟩
def Ec {m:Nat}{L:List Int}(h:L.Perm (AR m)):L.length=m:=by rw[h.length_eq,F5]
def AM {m:Nat}{L:List Int}(h:L.Perm (AR m)){p:Int}:p∈L↔0<=p/\p<m:=by rw[h.mem_iff,GL]
def Fu {m:Nat}{L:List Int}(h:L.Perm (AR m)):L.Nodup:=h.nodup_iff.mpr (Nq m)
def Py:∀ {a b:List Int},Cq (a.map D.int) (b.map D.int)=decide (a=b)
 |[],[]=>by simp[Cq]
 |[],y::t=>by simp[Cq]
 |x::r,[]=>by simp[Cq]
 |x::r,y::t=>by
  rw[zf,zf,Cq,Py,Ba];by_cases h:x=y<;>by_cases k:r=t<;>simp[h,k]
def ZU {a b:List Int}:Ba (.lst (a.map D.int)) (.lst (b.map D.int))=decide (a=b):=by rw[Ba];exact Py
def ZV {a b:List Int}:fN 16 (.lst (a.map D.int)) (.lst (b.map D.int))=.ok (.bl (decide (a=b))):=by rw[Uk (Vs (n:=15) a) (Vs (n:=15) b),ZU]
def Xp {i:Nat}{L:List Int}(h:L.Perm (AR i))(n:Nat):(L.take n++(i:Int)::L.drop n).Perm (AR (i+1)):=by
 have e:AR (i+1)=AR i++[(i:Int)]:=by unfold AR;rw[List.range_succ,z6];rfl
 rw[e];refine List.perm_middle.trans ?_;rw[za1];exact ((h.cons _).trans (List.perm_append_singleton _ _).symm)
def K6 {i:Nat}{ρ:Ac}{ds:List D}{d:D}{p:Int}(hi:ρ[i]?=some (some (.own ds)))(h0:0<=p)(h1:p<ds.length):fS i ρ (.ok (.int p)) d=.ok (.next (ρ.set i (some (.own (ds.set p.toNat d))))):=by
 unfold fS;rw[hi];dsimp only;rw[M.A9];unfold nK;dsimp only;rw[Mq ⟨h0,h1⟩]
def iZ {ρ:Ac}:Zh 0 (none::ρ)=none::ρ:=rfl
def ZW:∃T Q:Int,WE (.int 10) (.int 60)=.ok (.int T)/\WE (.int 982451653) (.int 7)=.ok (.int Q)/\1000000<T/\T.natAbs<2^200/\0<Q/\Q.natAbs<2^250:=⟨10^60,982451653^7,rfl,rfl,by decide,by decide,by decide,by decide⟩
abbrev O9:Int:=zg ZW
def kP:∃Q:Int,WE (.int 10) (.int 60)=.ok (.int O9)/\WE (.int 982451653) (.int 7)=.ok (.int Q)/\1000000<O9/\O9.natAbs<2^200/\0<Q/\Q.natAbs<2^250:=zb ZW
def kQ:WE (.int 10) (.int 60)=.ok (.int O9):=(zb kP).1
def QH:1000000<O9:=(zb kP).2.2.1
def jA {i:Int}:Et (.int i) (.int O9)=.ok (.int (i%O9)):=AZ (by have:=QH;omega)
abbrev cl:Nat->D->Prop
 |0,d=>sH d=false
 |n+1,d=>sH d=false/\∀ds,(d=.tup ds\/d=.lst ds)->∀e∈ds,cl n e
structure IT (m:Nat)(r:Road):Prop where
 a0:0<=r.a
 a1:r.a<m
 b0:0<=r.b
 b1:r.b<m
 ab:r.a≠r.b
 l0:∀l,r.l=some l->0<=l/\l<O9
 w0:0<=r.w
 w1:r.w<O9
def ZX {S:List D}{q:Int}(h:0<S.length)(h0:0<=q):Et (.int q) (.int (S.length:Int))=.ok (.int (q%S.length))/\∃y,y∈S/\AX (.lst S) (.int (q%(S.length:Int)))=.ok y:=by
 have bC:(0:Int)<(S.length:Int):=by omega
 have b0:0<=q%(S.length:Int):=zac _ (by omega);have b1:q%(S.length:Int)<S.length:=za4 _ bC;refine⟨AZ bC,S[(q%(S.length:Int)).toNat]'(by omega),zal _,?_⟩;have:=HQ (f:=λ d:D=>d) (l:=S) b0 (zh (by omega));rw[List.map_id'] at this;exact this
def jB {a b:OT}:er (.tup [a,b])=.tup [er a,er b]:=by simp[er,OX]
section
variable {α β:Type}{a b c d e f g:α}{x y:β}
def jC:(if [a,b,c,d,e].length<=1000 then x else y)=x:=rfl
def jD:(if [a,b,c,d,e,f].length<=1000 then x else y)=x:=rfl
def jE:(if [a,b,c,d,e,f,g].length<=1000 then x else y)=x:=rfl
def Mr {t:Bool}:er (.Bn t [] [])=.Bn t [] []:=by simp[er,OX]
end
structure TM (m:Nat)(rs:List Road)(rk:Int->Nat)(Af:Int->Int->Co):Prop where
 snd:∀x y c,Af x y=some c->Wk rs x y c/\x≠y/\(0<=x/\x<m)/\0<=y/\y<m
 road:∀r∈rs,BQ (Af r.a r.b) (Cc r)
 xN:∀p x y,x≠y->rk p<rk x->rk p<rk y->BQ (Af x y) (Aj (Af x p) (Af p y))
 inj:∀x y:Int,0<=x->x<m->0<=y->y<m->rk x=rk y->x=y
 nn:∀x y c,Wk rs x y c->0<=c.1/\0<=c.2
inductive Om (Af:Int->Int->Co) (rk:Int->Nat) (s:Int):Int->Int×Int->Prop
 |nil:Om Af rk s s (0,0)
 |snoc {x y:Int} {c d:Int×Int}:Om Af rk s x c->rk x<rk y->Af x y=some d->Om Af rk s y (c.1+d.1,c.2+d.2)
inductive SH (Af:Int->Int->Co) (rk:Int->Nat) (t:Int):Nat->Int->Int×Int->Prop
 |nil:SH Af rk t 0 t (0,0)
 |snoc {n:Nat} {x y:Int} {c d:Int×Int}:SH Af rk t n x c->rk y<rk x->Af x y=some d->SH Af rk t (n+1) y (c.1+d.1,c.2+d.2)
abbrev TN (p q:Int×Int):Prop:=p.1<q.1\/(p.1=q.1/\p.2<=q.2)
def ZY {a:Co}{q:Int×Int}(h:BQ a (some q)):∃p,a=some p/\TN p q:=by
 cases a with
 |none=>exact h.elim
 |some p=>exact⟨p,rfl,h⟩
abbrev UD (Af:Int->Int->Co)(rk:Int->Nat)(s w:Int)(c:Int×Int):Prop:=∃t n c1 c2,Om Af rk s t c1/\SH Af rk t n w c2/\TN (c1.1+c2.1,c1.2+c2.2) c
section
variable {m:Nat}{rs:List Road}{rk:Int->Nat}{Af Cf:Int->Int->Co}{s w:Int}
def Om.walk (L:TM m rs rk Af){t:Int}{c:Int×Int}(h:Om Af rk s t c):Wk rs s t c:=by
 induction h with
 |nil=>exact .nil s
 |snoc _ _ ha ih=>exact ih.trans (L.snd _ _ _ ha).1
def SH.walk (L:TM m rs rk Af){t x:Int}{n:Nat}{c:Int×Int}(h:SH Af rk t n x c):Wk rs t x c:=by
 induction h with
 |nil=>exact .nil t
 |snoc _ _ ha ih=>exact ih.trans (L.snd _ _ _ ha).1
def oN (L:TM m rs rk Af):∀(n:Nat){t x y:Int}{c1 c2 d:Int×Int},Om Af rk s t c1->SH Af rk t n x c2->Af x y=some d->UD Af rk s y (c1.1+c2.1+d.1,c1.2+c2.2+d.2):=by
 intro n;induction n with
 |zero =>
  intro t x y c1 c2 d hu hd ha;obtain⟨_,ae,hx,hy⟩:=L.snd _ _ _ ha;cases hd with
  |nil =>
   by_cases h:rk y<rk t
   ·exact⟨t,1,c1,_,hu,.snoc .nil h ha,by simp only[TN];omega⟩
   ·have h2:rk t<rk y:=by
     have hq:rk t≠rk y:=λ e=>ae (L.inj t y hx.1 hx.2 hy.1 hy.2 e);omega
    exact⟨y,0,_,_,.snoc hu h2 ha,.nil,by simp only[TN];omega⟩
 |succ n ih =>
  intro t x y c1 c2 d hu hd ha;obtain⟨hw,ae,hx,hy⟩:=L.snd _ _ _ ha;by_cases h:rk y<rk x
  ·exact⟨t,n+2,c1,_,hu,.snoc hd h ha,by simp only[TN];omega⟩
  ·have h2:rk x<rk y:=by
    have hq:rk x≠rk y:=λ e=>ae (L.inj x y hx.1 hx.2 hy.1 hy.2 e);omega
   cases hd with
   | @snoc _ z _ c e ba hr bK =>
    have n1:=L.nn _ _ _ hw;have n2:=L.nn _ _ _ (L.snd _ _ _ bK).1;by_cases hz:z=y
    ·subst hz;exact⟨t,n,c1,c,hu,ba,by simp only[TN];omega⟩
    ·have q:=L.xN x z y hz hr h2;rw[bK,ha] at q;obtain⟨f,hf,hle⟩:=ZY q;obtain⟨t',n',o5,o6,g1,g2,g3⟩:=ih hu ba hf;refine⟨t',n',o5,o6,g1,g2,?_⟩;simp only[TN] at *;omega
def jF (L:TM m rs rk Af){u:Int}{c:Int×Int}(h:Wk rs u w c):∀ {c0:Int×Int},UD Af rk s u c0->UD Af rk s w (c0.1+c.1,c0.2+c.2):=by
 induction h with
 |nil u =>
  intro c0 h;simpa using h
 | @cons r l w c hr hl _ ih =>
  intro c0 h0;obtain⟨t,n,c1,c2,g1,g2,g3⟩:=h0;have q:=L.road r hr;unfold Cc at q;rw[hl] at q;obtain⟨d,hd,hle⟩:=ZY q;obtain⟨t',n',o5,o6,k1,k2,k3⟩:=oN L n g1 g2 hd;have r1:=@ih (c0.1+l,c0.2+1) ⟨t',n',o5,o6,k1,k2,by simp only[TN] at *;omega⟩;simpa [zax] using r1
abbrev Kept (rs:List Road)(Af Cf:Int->Int->Co):Prop:=∀x y c,Cf x y=some c↔(Af x y=some c/\BI rs x y (some c))
def jG (L:TM m rs rk Af)(K:Kept rs Af Cf){t:Int}{c1:Int×Int}(h:Om Af rk s t c1):∀ {c2:Int×Int},Wk rs t w c2->(∀c,Wk rs s w c->TN (c1.1+c2.1,c1.2+c2.2) c)->Om Cf rk s t c1:=by
 induction h with
 |nil=>exact λ _ _=>.nil
 | @snoc x y c d hu hr ha ih =>
  intro c2 hw hm;have bK:=(L.snd _ _ _ ha).1;refine .snoc (ih (c2:=(d.1+c2.1,d.2+c2.2)) (bK.trans hw) λ c' b6=>?_) hr ((K x y d).mpr ⟨ha,λ e he=>?_,λ p hp=>by cases hp;exact bK⟩)
  ·have:=hm c' b6;simp only[TN] at *;omega
  ·have:=hm _ (((hu.walk L).trans he).trans hw);simp only[TN,BQ] at *;omega
def jH (L:TM m rs rk Af)(K:Kept rs Af Cf){t x:Int}{n:Nat}{c2:Int×Int}{c1:Int×Int}(hs:Wk rs s t c1)(h:SH Af rk t n x c2):(∀c,Wk rs s x c->TN (c1.1+c2.1,c1.2+c2.2) c)->SH Cf rk t n x c2:=by
 induction h with
 |nil=>exact λ _=>.nil
 | @snoc n x y c d hd hr ha ih =>
  intro hm;have bK:=(L.snd _ _ _ ha).1;refine .snoc (ih λ c' b6=>?_) hr ((K x y d).mpr ⟨ha,λ e he=>?_,λ p hp=>by cases hp;exact bK⟩)
  ·have:=hm _ (b6.trans bK);simp only[TN] at *;omega
  ·have:=hm _ ((hs.trans (hd.walk L)).trans he);simp only[TN,BQ] at *;omega
def ZZ (L:TM m rs rk Af)(K:Kept rs Af Cf){c:Int×Int}(h:BI rs s w (some c)):∃t n c1 c2,Om Cf rk s t c1/\SH Cf rk t n w c2/\c=(c1.1+c2.1,c1.2+c2.2):=by
 obtain⟨t,n,c1,c2,g1,g2,g3⟩:=jF L (h.2 c rfl) (c0:=(0,0)) ⟨s,0,_,_,.nil,.nil,by simp[TN]⟩;have hw:=(g1.walk L).trans (g2.walk L);have q:=h.1 _ hw;have e:c=(c1.1+c2.1,c1.2+c2.2):=by
  obtain⟨a,b⟩:=c;simp only[TN,BQ] at *;refine Prod.ext ?_ ?_<;>dsimp only<;>omega
 refine⟨t,n,c1,c2,jG L K g1 (g2.walk L) λ c' b6=>?_,jH L K (g1.walk L) g2 λ c' b6=>?_,e⟩
 ·have:=h.1 _ b6;rw[e] at this;exact this
 ·have:=h.1 _ b6;rw[e] at this;exact this
structure uN (rk:Int->Nat)(Cf:Int->Int->Co)(s:Int)(R:Int->Co):Prop where
 st:BQ (R s) (some (0,0))
 cl:∀x y,rk x<rk y->BQ (R y) (Aj (R x) (Cf x y))
 sd:∀x c,R x=some c->Om Cf rk s x c
def uN.le {R:Int->Co}(h:uN rk Cf s R){t:Int}{c:Int×Int}(u:Om Cf rk s t c):BQ (R t) (some c):=by
 induction u with
 |nil=>exact h.st
 | @snoc x y c d hu hr ha ih =>
  refine Ao (h.cl x y hr) ?_;rw[ha];exact C3 (some d) ih
structure tI (rk:Int->Nat)(Cf:Int->Int->Co)(s:Int)(R T:Int->Co)(m:Nat):Prop where
 top:∀x:Int,0<=x->x<m->BQ (T x) (R x)
 cl:∀x y:Int,0<=x->x<m->0<=y->y<m->rk y<rk x->BQ (T y) (Aj (T x) (Cf x y))
 sd:∀x c,T x=some c->∃t n c1 c2,Om Cf rk s t c1/\SH Cf rk t n x c2/\c=(c1.1+c2.1,c1.2+c2.2)
def Kept.kR (K:Kept rs Af Cf){x y:Int}{c:Int×Int}(h:Cf x y=some c):Af x y=some c:=((K x y c).mp h).1
def Om.of_kept (K:Kept rs Af Cf){t:Int}{c:Int×Int}(h:Om Cf rk s t c):Om Af rk s t c:=by
 induction h with
 |nil=>exact .nil
 |snoc _ hr ha ih=>exact .snoc ih hr (K.kR ha)
def SH.of_kept (K:Kept rs Af Cf){t x:Int}{n:Nat}{c:Int×Int}(h:SH Cf rk t n x c):SH Af rk t n x c:=by
 induction h with
 |nil=>exact .nil
 |snoc _ hr ha ih=>exact .snoc ih hr (K.kR ha)
def tJ (L:TM m rs rk Af)(K:Kept rs Af Cf){t x:Int}{n:Nat}{c:Int×Int}(h:SH Cf rk t n x c)(ht:0<=t/\t<m):0<=x/\x<m:=by
 cases h with
 |nil=>exact ht
 |snoc _ hr ha=>exact (L.snd _ _ _ (K.kR ha)).2.2.2
def tK (L:TM m rs rk Af)(K:Kept rs Af Cf){t:Int}{c:Int×Int}(h:Om Cf rk s t c)(ht:0<=s/\s<m):0<=t/\t<m:=by
 cases h with
 |nil=>exact ht
 |snoc _ hr ha=>exact (L.snd _ _ _ (K.kR ha)).2.2.2
def tI.le (L:TM m rs rk Af)(K:Kept rs Af Cf){R T:Int->Co}(h:tI rk Cf s R T m){t x:Int}{n:Nat}{c1 c2:Int×Int}(ht:0<=t/\t<m)(hT:BQ (T t) (some c1))(u:SH Cf rk t n x c2):BQ (T x) (some (c1.1+c2.1,c1.2+c2.2)):=by
 induction u with
 |nil=>simpa using hT
 | @snoc n x y c d hd hr ha ih =>
  have hx:=tJ L K hd ht;have hy:=(L.snd _ _ _ (K.kR ha)).2.2.2;refine Ao (h.cl x y hx.1 hx.2 hy.1 hy.2 hr) ?_;rw[ha];have:=C3 (some d) ih;simp only[Aj,zax] at this;exact this
def Pz (L:TM m rs rk Af)(K:Kept rs Af Cf){R T:Int->Co}(hs:0<=s/\s<m)(hR:uN rk Cf s R)(hT:tI rk Cf s R T m){x:Co}(hx:BI rs s w x):BI rs s w (T w):=by
 have key:BQ (T w) x:=by
  cases x with
  |none=>cases T w<;>exact trivial
  |some c =>
   obtain⟨t,n,c1,c2,g1,g2,e⟩:=ZZ L K hx;have ht:=tK L K g1 hs;rw[e];exact hT.le L K ht (Ao (hT.top t ht.1 ht.2) (hR.le g1)) g2
 refine⟨λ c hc=>Ao key (hx.1 c hc),λ p hp=>?_⟩;obtain⟨t,n,c1,c2,g1,g2,rfl⟩:=hT.sd w p hp;exact ((g1.of_kept K).walk L).trans ((g2.of_kept K).walk L)
end
def Wk.turn {rs:List Road}{u w:Int}{c:Int×Int}(h:Wk rs u w c):Wk (rs.map K3) w u c:=by
 induction h with
 |nil u=>exact .nil u
 | @cons r l w c hr hl _ ih =>
  have h1:Wk (rs.map K3) (K3 r).a (K3 r).b (l,1):=Wk.one (zA.mpr ⟨r,hr,rfl⟩) hl;have:=ih.trans h1;have e:(c.1+l,c.2+1)=(l+c.1,1+c.2):=by rw[Int.add_comm,Int.add_comm c.2]
  rw[<-e];exact this
def HR (rs:List Road):(rs.map K3).map K3=rs:=by
 rw[yK];exact (List.map_congr_left λ r _=>rfl).trans (List.map_id rs)
def BI.turn {rs:List Road}{u w:Int}{x:Co}(h:BI rs u w x):BI (rs.map K3) w u x:=by
 refine⟨λ c hc=>h.1 c ?_,λ p hp=>(h.2 p hp).turn⟩;have:=hc.turn;rw[HR] at this;exact this
def TM.turn {m:Nat}{rs:List Road}{rk:Int->Nat}{Af:Int->Int->Co}(L:TM m rs rk Af):TM m (rs.map K3) rk (λ x y=>Af y x):=by
 refine⟨λ x y c h=>?_,λ r hr=>?_,λ p x y ae h1 h2=>?_,L.inj,λ x y c h=>?_⟩
 ·obtain⟨a,b,c,d⟩:=L.snd _ _ _ h;exact⟨a.turn,zY b,d,c⟩
 ·obtain⟨r',aX,rfl⟩:=zA.mp hr;exact L.road r' aX
 ·rw[Bb];exact L.xN p y x (zY ae) h2 h1
 ·have:=h.turn;rw[HR] at this;exact L.nn _ _ _ this
def Kept.turn {rs:List Road}{Af Cf:Int->Int->Co}(K:Kept rs Af Cf):Kept (rs.map K3) (λ x y=>Af y x) (λ x y=>Cf y x):=λ x y c=>by
 refine (K y x c).trans ⟨λ h=>⟨h.1,h.2.turn⟩,λ h=>⟨h.1,?_⟩⟩;have:=h.2.turn;rw[HR] at this;exact this
section
variable {κ β:Type} [DecidableEq κ]
abbrev AH:List (κ×β)->κ->Option β
 |[],_=>none
 |(k,v)::r,x=>if k=x then some v else AH r x
abbrev Ds (A:List (κ×β))(k:κ)(v:β):List (κ×β):=if (AH A k).isSome=true then A.map λ kv=>if kv.1=k then (kv.1,v) else kv else A++[(k,v)]
def QI (k j:κ)(v:β):∀A:List (κ×β),AH (A.map λ kv=>if kv.1=k then (kv.1,v) else kv) j=if j=k then (AH A j).map λ _=>v else AH A j
 |[]=>by simp[AH]
 |(k',v')::r=>by
  rw[zf];by_cases h1:k'=k
  ·rw[if_pos h1];subst h1;simp only[AH];by_cases h2:k'=j
   ·subst h2;simp
   ·rw[if_neg h2,if_neg h2,QI k' j v r]
  ·rw[if_neg h1];simp only[AH];by_cases h2:k'=j
   ·subst h2;rw[if_pos rfl,if_pos rfl,if_neg h1]
   ·rw[if_neg h2,if_neg h2,QI k j v r]
def SI (k j:κ)(v:β):∀A:List (κ×β),AH A k=none->AH (A++[(k,v)]) j=if j=k then some v else AH A j
 |[],_=>by
  simp only[List.nil_append,AH];by_cases h:k=j
  ·subst h;simp
  ·rw[if_neg h,if_neg (zY h)]
 |(k',v')::r,h=>by
  simp only[AH] at h;by_cases h1:k'=k
  ·rw[if_pos h1] at h;cases h
  ·rw[if_neg h1] at h;rw[zb3];simp only[AH];rw[SI k j v r h];by_cases h2:k'=j
   ·subst h2;rw[if_pos rfl,if_pos rfl,if_neg h1]
   ·rw[if_neg h2,if_neg h2]
def HS (A:List (κ×β))(k j:κ)(v:β):AH (Ds A k v) j=if j=k then some v else AH A j:=by
 unfold Ds;by_cases h:(AH A k).isSome=true
 ·rw[if_pos h,QI];by_cases hj:j=k
  ·subst hj;rw[if_pos rfl,if_pos rfl];obtain⟨x,hx⟩:=zb2.mp h;rw[hx];rfl
  ·rw[if_neg hj,if_neg hj]
 ·rw[if_neg h];exact SI k j v A (by cases e:AH A k with|none=>rfl|some x=>rw[e] at h;exact (h rfl).elim)
def HU:∀ {A:List (κ×β)}{k:κ},(AH A k).isSome=true↔k∈A.map zH
 |[],k=>by simp[AH]
 |(k',v')::r,k=>by
  simp only[AH,zf,zq];by_cases h:k'=k
  ·rw[if_pos h];simp[h]
  ·rw[if_neg h,HU];simp[zY h]
def cB {A:List (κ×β)}{k:κ}:AH A k=none↔k∉A.map zH:=by
 rw[<-HU];cases AH A k<;>simp
def SJ (A:List (κ×β))(k:κ)(v:β):(Ds A k v).map zH=if (AH A k).isSome=true then A.map zH else A.map zH++[k]:=by
 unfold Ds;split
 ·rw[yK];refine List.map_congr_left λ kv _=>?_;dsimp only [Function.comp];split<;>rfl
 ·rw[z6];rfl
def KW {A:List (κ×β)}{k:κ}{v:β}(h:(A.map zH).Nodup):((Ds A k v).map zH).Nodup:=by
 rw[SJ];split
 ·exact h
 ·rename_i hn;rw[HU] at hn;rw[z8];exact⟨h,by simp,λ x hx y hy=>by rw[zi.mp hy];exact λ e=>hn (e▸hx)⟩
def Nr {A:List (κ×β)}{k x:κ}{v:β}(h:x∈(Ds A k v).map zH):x∈A.map zH\/x=k:=by
 rw[SJ] at h;split at h
 ·exact .inl h
 ·rcases zy.mp h with h|h
  ·exact .inl h
  ·exact .inr (zi.mp h)
def QJ:∀ {A:List (κ×β)}{k:κ}{v:β},AH A k=some v->(k,v)∈A
 |(k',v')::r,k,v,h=>by
  simp only[AH] at h;split at h
  ·rename_i e;cases h;subst e;exact zd
  ·exact ze _ (QJ h)
def cC:∀ {A:List (κ×β)}{k:κ}{v:β},(A.map zH).Nodup->(k,v)∈A->AH A k=some v
 |(k',v')::r,k,v,hn,h=>by
  rw[zf,zU] at hn;simp only[AH];rcases zq.mp h with e|h
  ·cases e;rw[if_pos rfl]
  ·have:k'≠k:=λ e=>hn.1 (e▸zA.mpr ⟨_,h,rfl⟩);rw[if_neg this];exact cC hn.2 h
variable {kf:κ->D}{vf:β->D}(he:∀a b,Ba (kf a) (kf b)=decide (a=b))
include he
def K7 (A:List (κ×β))(k:κ):LS (A.map λ kv=>kf kv.1) (kf k)=(AH A k).isSome:=by
 induction A with
 |nil=>rfl
 |cons kv r ih =>
  obtain⟨k',v'⟩:=kv;unfold LS at ih ⊢;rw[zf,yV,ih,he];simp only[AH];by_cases h:k'=k
  ·rw[if_pos h,decide_eq_true h];rfl
  ·rw[if_neg h,decide_eq_false h];rfl
def GO (A:List (κ×β))(k:κ):G6 (A.map λ kv=>kf kv.1) (A.map λ kv=>vf kv.2) (kf k)=(AH A k).map vf:=by
 induction A with
 |nil=>rfl
 |cons kv r ih =>
  obtain⟨k',v'⟩:=kv;rw[zf,zf,G6,he,ih];simp only[AH];by_cases h:k'=k
  ·rw[decide_eq_true h,if_pos rfl,if_pos h];rfl
  ·rw[decide_eq_false h,if_neg z4,if_neg h]
def cD (k:κ)(v:β)(A:List (κ×β)):IQ (A.map λ kv=>kf kv.1) (A.map λ kv=>vf kv.2) (kf k) (vf v)=(A.map λ kv=>if kv.1=k then (kv.1,v) else kv).map λ kv=>vf kv.2:=by
 induction A with
 |nil=>rfl
 |cons kv r ih =>
  obtain⟨k',v'⟩:=kv;rw[zf,zf,IQ,he,ih,zf,zf];by_cases h:k'=k
  ·rw[decide_eq_true h,if_pos rfl,if_pos h]
  ·rw[decide_eq_false h,if_neg z4,if_neg h]
def Nt (A:List (κ×β))(k:κ)(v:β):putD (A.map λ kv=>kf kv.1) (A.map λ kv=>vf kv.2) (kf k) (vf v)=((Ds A k v).map (λ kv=>kf kv.1),(Ds A k v).map λ kv=>vf kv.2):=by
 unfold putD Ds;rw[K7 he];by_cases h:(AH A k).isSome=true
 ·rw[if_pos h,if_pos h,cD he];refine Prod.ext ?_ rfl;dsimp only;rw[yK];refine List.map_congr_left λ kv _=>?_;dsimp only [Function.comp];split<;>rfl
 ·rw[if_neg h,if_neg h,z6,z6];rfl
end
def K8 (a b:Int):Ba (.int a) (.int b)=decide (a=b):=by
 simp only[Ba];by_cases h:a=b
 ·subst h;simp
 ·simp[h]
noncomputable abbrev LA:=List ((Int×Int)×((Int×Int)×Option Int))
abbrev Xq (v:(Int×Int)×Option Int):D:=.tup [cst (some v.1),GH v.2]
abbrev Ll (A:LA):D:=.Bn true (A.map λ kv=>pD kv.1) (A.map λ kv=>Xq kv.2)
abbrev J4 (A:LA):OT:=.Bn true (A.map λ kv=>pD kv.1) ((A.map λ kv=>Xq kv.2).map .sh)
abbrev An (A:LA)(p:Int×Int):Co:=(AH A p).map zH
abbrev layA (A:LA)(p:Int×Int)(c:Co)(mid:Option Int):LA:=match c with
 |none=>A
 |some c=>(match AH A p with
  |none=>Ds A p (c,mid)
  |some z=>if c.1<z.1.1\/(c.1=z.1.1/\c.2<z.1.2) then Ds A p (c,mid) else A)
def GP (A:LA)(p q:Int×Int)(c:Co)(mid:Option Int):An (layA A p c mid) q=if q=p then DD (An A p) c else An A q:=by
 unfold layA An;cases c with
 |none =>
  by_cases h:q=p
  ·subst h;rw[if_pos rfl];cases AH A q<;>rfl
  ·rw[if_neg h]
 |some c =>
  cases e:AH A p with
  |none =>
   dsimp only;rw[HS];by_cases h:q=p
   ·rw[if_pos h,if_pos h];rfl
   ·rw[if_neg h,if_neg h]
  |some z =>
   dsimp only;by_cases hc:c.1<z.1.1\/(c.1=z.1.1/\c.2<z.1.2)
   ·rw[if_pos hc,HS];by_cases h:q=p
    ·rw[if_pos h,if_pos h];simp only[za9,DD,kN];rw[if_neg (by omega)]
    ·rw[if_neg h,if_neg h]
   ·rw[if_neg hc];by_cases h:q=p
    ·subst h;rw[if_pos rfl,e];simp only[za9,DD,kN];rw[if_pos (by omega)]
    ·rw[if_neg h]
def Uz (A:LA)(p q:Int×Int)(c:Co)(mid:Option Int):BQ (An (layA A p c mid) q) (An A q):=by
 rw[GP];split
 ·rename_i h;subst h;exact EB _ _
 ·exact Cb _
def cE {A:LA}{p x:Int×Int}{c:Co}{mid:Option Int}(h:x∈(layA A p c mid).map zH):x∈A.map zH\/x=p:=by
 unfold layA at h;split at h
 ·exact .inl h
 ·split at h
  ·exact Nr h
  ·split at h
   ·exact Nr h
   ·exact .inl h
def Xr {A:LA}{p:Int×Int}{c:Co}{mid:Option Int}(h:(A.map zH).Nodup):((layA A p c mid).map zH).Nodup:=by
 unfold layA;split
 ·exact h
 ·split
  ·exact KW h
  ·split
   ·exact KW h
   ·exact h
abbrev QK (p u:Int)(A:LA)(w:Int):LA:=if u=w then A else layA A (u,w) (Aj (An A (u,p)) (An A (p,w))) (some p)
abbrev jI (p:Int)(H:List Int)(A:LA)(u:Int):LA:=H.foldl (QK p u) A
abbrev oO (A:LA)(p:Int)(H:List Int):LA:=H.foldl (jI p H) A
abbrev UA:LA->List Int->LA
 |A,[]=>A
 |A,p::r=>UA (oO A p r) r
abbrev lay0 (rs:List Road):LA:=rs.foldl (λ A r=>layA A (r.a,r.b) (Cc r) none) []
abbrev BZ (rs:List Road)(L:List Int):LA:=UA (lay0 rs) L
structure Fc (m:Nat)(A:LA):Prop where
 nd:(A.map zH).Nodup
 rg:∀p∈A.map zH,p.1≠p.2/\(0<=p.1/\p.1<m)/\0<=p.2/\p.2<m
def Fc.lay {m:Nat}{A:LA}(h:Fc m A){p:Int×Int}{c:Co}{mid:Option Int}(hp:p.1≠p.2/\(0<=p.1/\p.1<m)/\0<=p.2/\p.2<m):Fc m (layA A p c mid):=
 ⟨Xr h.nd,λ q hq=>(cE hq).elim (h.rg q) λ e=>e▸hp⟩
def Fc.len {m:Nat}{A:LA}(h:Fc m A)(hm:m<=20):A.length<1000:=by
 have:=Cu.len (B:=A.map zH) (m:=m) ⟨h.nd,λ x hx=>(h.rg _ hx).1 rfl,λ q hq=>⟨(h.rg q hq).2.1,(h.rg q hq).2.2⟩⟩ hm;rwa[zc] at this
def K9 {α β:Type}{f:β->α->β}(P:List α->β->Prop):∀ {L pre:List α}{b:β},P pre b->(∀a∈L,∀pre b,P pre b->P (pre++[a]) (f b a))->P (pre++L) (L.foldl f b)
 |[],pre,b,h,_=>by rw[zF];exact h
 |a::L,pre,b,h,hs=>by
  have:=K9 P (L:=L) (hs a zd pre b h) λ x hx=>hs x (ze _ hx);rw[zaa] at this;exact this
abbrev jJ (rs:List Road)(A:LA):Prop:=∀x y c,An A (x,y)=some c->Wk rs x y c
def jJ.lay {rs:List Road}{A:LA}(h:jJ rs A){x y:Int}{c:Co}{mid:Option Int}(hc:∀p,c=some p->Wk rs x y p):jJ rs (layA A (x,y) c mid):=λ u w d hd=>by
 rw[GP] at hd;split at hd
 ·rename_i e;cases e;rcases Bs (An A (x,y)) c with ⟨e,_⟩|⟨e,_⟩
  ·rw[e] at hd;exact h _ _ _ hd
  ·rw[e] at hd;exact hc d hd
 ·exact h _ _ _ hd
structure Over (m:Nat)(rs:List Road)(p:Int)(H:List Int)(A0 A:LA):Prop where
 ok:Fc m A
 sd:jJ rs A
 le:∀q,BQ (An A q) (An A0 q)
 sm:∀x y,(x∉H\/y∉H)->An A (x,y)=An A0 (x,y)
def Xs {m:Nat}{rs:List Road}{p:Int}{H:List Int}{A0 A:LA}(hp:p∉H)(hH:∀x∈H,0<=x/\x<m)(h:Over m rs p H A0 A){u w:Int}(hu:u∈H)(hw:w∈H):Over m rs p H A0 (QK p u A w)/\(u≠w->BQ (An (QK p u A w) (u,w)) (Aj (An A0 (u,p)) (An A0 (p,w)))):=by
 unfold QK;by_cases e:u=w
 ·rw[if_pos e];exact⟨h,λ z=>(z e).elim⟩
 ·rw[if_neg e];have e1:=h.sm u p (.inr hp);have e2:=h.sm p w (.inl hp);refine⟨⟨h.ok.lay ⟨e,hH u hu,hH w hw⟩,h.sd.lay λ c hc=>?_,λ q=>Ao (Uz _ _ _ _ _) (h.le q),λ x y bY=>?_⟩,λ _=>?_⟩
  ·obtain⟨a,b,ha,hb,rfl⟩:=DQ hc;exact (h.sd _ _ _ ha).trans (h.sd _ _ _ hb)
  ·rw[GP,if_neg (λ z=>by cases z;exact bY.elim (λ q=>q hu) λ q=>q hw)];exact h.sm x y bY
  ·rw[GP,if_pos rfl,e1,e2];exact EC _ _
def kS {p u:Int}{A:LA}{w:Int}(q:Int×Int):BQ (An (QK p u A w) q) (An A q):=by
 unfold QK;split
 ·exact Cb _
 ·exact Uz _ _ _ _ _
def kT {p u:Int}(q:Int×Int):∀(H:List Int) (A:LA),BQ (An (H.foldl (QK p u) A) q) (An A q)
 |[],A=>Cb _
 |w::H,A=>Ao (kT q H (QK p u A w)) (kS q)
def oP {m:Nat}{rs:List Road}{p:Int}{H:List Int}{A0 A:LA}(hp:p∉H)(hH:∀x∈H,0<=x/\x<m)(h:Over m rs p H A0 A){u:Int}(hu:u∈H):Over m rs p H A0 (jI p H A u)/\∀w∈H,u≠w->BQ (An (jI p H A u) (u,w)) (Aj (An A0 (u,p)) (An A0 (p,w))):=by
 unfold jI;have:=K9 (L:=H) (pre:=[]) (f:=QK p u) (b:=A) (λ W A=>Over m rs p H A0 A/\∀w∈W,u≠w->BQ (An A (u,w)) (Aj (An A0 (u,p)) (An A0 (p,w)))) ⟨h,λ w hw=>by cases hw⟩ λ w hw W B hB=>by
  obtain⟨b1,b2⟩:=hB;obtain⟨c1,c2⟩:=Xs hp hH b1 hu hw;refine⟨c1,λ x hx ae=>?_⟩;rcases zy.mp hx with hx|hx
  ·exact Ao (kS _) (b2 x hx ae)
  ·rw[zi.mp hx] at ae ⊢;exact c2 ae
 exact this
def cF {m:Nat}{rs:List Road}{p:Int}{H:List Int}{A:LA}(hp:p∉H)(hH:∀x∈H,0<=x/\x<m)(h1:Fc m A)(h2:jJ rs A):Over m rs p H A (oO A p H)/\∀u∈H,∀w∈H,u≠w->BQ (An (oO A p H) (u,w)) (Aj (An A (u,p)) (An A (p,w))):=by
 unfold oO;have:=K9 (L:=H) (pre:=[]) (f:=jI p H) (b:=A) (λ U B=>Over m rs p H A B/\∀u∈U,∀w∈H,u≠w->BQ (An B (u,w)) (Aj (An A (u,p)) (An A (p,w)))) ⟨⟨h1,h2,λ q=>Cb _,λ x y _=>rfl⟩,λ u hu=>by cases hu⟩ λ u hu U B hB=>by
  obtain⟨b1,b2⟩:=hB;obtain⟨c1,c2⟩:=oP hp hH b1 hu;refine⟨c1,λ x hx w hw ae=>?_⟩;rcases zy.mp hx with hx|hx
  ·exact Ao (kT _ H B) (b2 x hx w hw ae)
  ·rw[zi.mp hx] at ae ⊢;exact c2 w hw ae
 exact this
def QL {m:Nat}{rs:List Road}(Au:∀r∈rs,G7 m r/\r.a≠r.b):Fc m (lay0 rs)/\jJ rs (lay0 rs)/\∀r∈rs,BQ (An (lay0 rs) (r.a,r.b)) (Cc r):=by
 unfold lay0;have:=K9 (L:=rs) (pre:=[]) (f:=λ A r=>layA A (r.a,r.b) (Cc r) none) (b:=[]) (λ W A=>Fc m A/\jJ rs A/\∀r∈W,BQ (An A (r.a,r.b)) (Cc r)) ⟨⟨by simp,λ p hp=>by cases hp⟩,⟨(λ _ _ _ h=>by cases h),λ r hr=>by cases hr⟩⟩ λ r hr W B hB=>by
  obtain⟨b1,b2,b3⟩:=hB;obtain⟨o1,o2⟩:=Au r hr;refine⟨b1.lay ⟨o2,⟨o1.a0,o1.a1⟩,o1.b0,o1.b1⟩,b2.lay λ c hc=>?_,λ x hx=>?_⟩
  ·obtain⟨l,hl,rfl⟩:=K4 hc;exact Wk.one hr hl
  ·rcases zy.mp hx with hx|hx
   ·exact Ao (Uz _ _ _ _ _) (b3 x hx)
   ·rw[zi.mp hx,GP,if_pos rfl];exact EC _ _
 exact this
abbrev DH:List Int->Int->Nat
 |[],_=>0
 |a::l,x=>if a=x then 0 else DH l x+1
def W4:∀ {pre post:List Int}{p:Int},p∉pre->DH (pre++p::post) p=pre.length
 |[],post,p,_=>by simp[DH]
 |a::pre,post,p,h=>by
  rw[zq,not_or] at h;rw[zb3,DH,if_neg (zY h.1),W4 h.2];rfl
def UB:∀ {pre post:List Int}{x:Int},x∈pre->DH (pre++post) x<pre.length
 |a::pre,post,x,h=>by
  rw[zb3,DH];by_cases e:a=x
  ·rw[if_pos e];simp
  ·rw[if_neg e,zk];have:=UB (post:=post) ((zq.mp h).resolve_left (zY e));omega
def QM:∀ {pre post:List Int}{x:Int},x∉pre->pre.length<=DH (pre++post) x
 |[],post,x,_=>zM _
 |a::pre,post,x,h=>by
  rw[zq,not_or] at h;rw[zb3,DH,if_neg (zY h.1),zk];have:=QM (post:=post) h.2;omega
def QN:∀ {L:List Int}{x y:Int},x∈L->y∈L->DH L x=DH L y->x=y
 |a::l,x,y,hx,hy,e=>by
  rw[DH,DH] at e;by_cases h1:a=x
  ·by_cases h2:a=y
   ·rw[<-h1,<-h2]
   ·rw[if_pos h1,if_neg h2] at e;omega
  ·by_cases h2:a=y
   ·rw[if_neg h1,if_pos h2] at e;omega
   ·rw[if_neg h1,if_neg h2] at e;exact QN ((zq.mp hx).resolve_left (zY h1)) ((zq.mp hy).resolve_left (zY h2)) (by omega)
def UC {L:List Int}{x:Int}(h:DH L x<L.length):x∈L:=by
 refine zad λ hn=>?_;have:=QM (pre:=L) (post:=[]) hn;rw[zF] at this;omega
def cG:∀(L:List Int) (x:Int),DH L x<=L.length
 |[],_=>zv _
 |a::l,x=>by
  rw[DH,zk];split
  ·omega
  ·have:=cG l x;omega
def Lm:∀ {L:List Int}{p:Int},p∈L->∃pre post,L=pre++p::post/\p∉pre
 |a::l,p,h=>by
  by_cases ha:a=p
  ·subst ha;exact⟨[],l,rfl,by simp⟩
  ·obtain⟨pre,post,e2,hn⟩:=Lm ((zq.mp h).resolve_left (zY ha));exact⟨a::pre,post,by rw[zb3,<-e2],by simp[zY ha,hn]⟩
def cH {L:List Int}{p:Int}(h:DH L p<L.length):∃pre post,L=pre++p::post/\p∉pre/\∀x,DH L p<DH L x->x∈L->x∈post:=by
 obtain⟨pre,post,e,hn⟩:=Lm (UC h);refine⟨pre,post,e,hn,λ x hr hx=>?_⟩;subst e;rw[W4 hn] at hr;rcases zy.mp hx with hx|hx
 ·have:=UB (post:=p::post) hx;omega
 ·rcases zq.mp hx with rfl|hx
  ·rw[W4 hn] at hr;omega
  ·exact hx
def oQ {m:Nat}{rs:List Road}{L:List Int}(hL:L.Nodup)(hr:∀x∈L,0<=x/\x<m):∀(post pre:List Int) (A:LA),L=pre++post->Fc m A->jJ rs A->(∀r∈rs,BQ (An A (r.a,r.b)) (Cc r))->
 (∀pa p pb,L=pa++p::pb->pa.length<pre.length->∀x∈pb,∀y∈pb,x≠y->BQ (An A (x,y)) (Aj (An A (x,p)) (An A (p,y))))->
 Fc m (UA A post)/\jJ rs (UA A post)/\(∀r∈rs,BQ (An (UA A post) (r.a,r.b)) (Cc r))/\∀pa p pb,L=pa++p::pb->∀x∈pb,∀y∈pb,x≠y->BQ (An (UA A post) (x,y)) (Aj (An (UA A post) (x,p)) (An (UA A post) (p,y))):=by
 intro post;induction post with
 |nil =>
  intro pre A e h1 h2 h3 h4;rw[zF] at e;refine⟨h1,h2,h3,λ pa p pb e2=>h4 pa p pb e2 ?_⟩;rw[<-e,e2,zB,zk];omega
 |cons p post ih =>
  intro pre A e h1 h2 h3 h4;rw[UA];have hn:(pre++p::post).Nodup:=e▸hL;rw[z8,zU] at hn;have bE:∀x∈post,0<=x/\x<m:=λ x hx=>hr x (by rw[e];simp[hx]);obtain⟨o,ov⟩:=cF (p:=p) hn.2.1.1 bE h1 h2;refine ih (pre++[p]) (oO A p post) (by rw[e];simp) o.ok o.sd (λ r aX=>Ao (o.le _) (h3 r aX)) λ pa q pb e2 af x hx y hy ae=>?_;rw[zB,yP] at af;by_cases hq:pa.length<pre.length
  ·-- an ko one
   have sf:q∉post:=λ ef=>by
    have e3:pre++p::post=pa++q::pb:=by rw[<-e,e2]
    have q1:q∈pre:=by
     have:=congrArg (λ l=>l[pa.length]?) e3;rw[yJ hq,yY (zv _),Nat.sub_self] at this;exact zr this
    exact hn.2.2 q q1 q (ze _ ef) rfl
   rw[o.sm x q (.inr sf),o.sm q y (.inl sf)];exact Ao (o.le _) (h4 pa q pb e2 hq x hx y hy ae)
  ·have aq:pa.length=pre.length:=by omega
   have e3:pa++q::pb=pre++p::post:=by rw[<-e2,e]
   obtain⟨rfl,e4⟩:=List.append_inj e3 aq;cases e4;rw[o.sm x p (.inr hn.2.1.1),o.sm p y (.inl hn.2.1.1)];exact ov x hx y hy ae
def Nu {m:Nat}{rs:List Road}{L:List Int}(hL:L.Perm (AR m))(Au:∀r∈rs,G7 m r/\r.a≠r.b):Fc m (BZ rs L)/\TM m rs (DH L) (λ x y=>An (BZ rs L) (x,y)):=by
 have i8:L.Nodup:=Fu hL;obtain⟨a1,a2,a3⟩:=QL Au;obtain⟨b1,b2,b3,b4⟩:=oQ i8 (λ x hx=>(AM hL).mp hx) L [] (lay0 rs) rfl a1 a2 a3 (λ pa p pb _ h=>by simp at h);refine⟨b1,λ x y c h=>?_,b3,λ p x y ae h1 h2=>?_,λ x y x0 x1 y0 y1 e=>QN ((AM hL).mpr ⟨x0,x1⟩) ((AM hL).mpr ⟨y0,y1⟩) e,λ x y c h=>Wk.nn (λ r hr=>(Au r hr).1) h⟩
 ·have hm:(x,y)∈(UA (lay0 rs) L).map zH:=by
   rw[<-HU];unfold An at h;cases q:AH (BZ rs L) (x,y) with
   |none=>rw[q] at h;cases h
   |some z=>unfold BZ at q;rw[q];rfl
  have:=b1.rg _ hm;exact⟨b2 _ _ _ h,this.1,this.2.1,this.2.2⟩
 ·have aQ:∀ {x y:Int} {c:Int×Int},An (BZ rs L) (x,y)=some c->x∈L/\y∈L:=fun {x y c} h=>by
   have hm:(x,y)∈(UA (lay0 rs) L).map zH:=by
    rw[<-HU];unfold An at h;cases q:AH (BZ rs L) (x,y) with
    |none=>rw[q] at h;cases h
    |some z=>unfold BZ at q;rw[q];rfl
   have:=b1.rg _ hm;exact⟨(AM hL).mpr this.2.1,(AM hL).mpr this.2.2⟩
  have aq:DH L p<L.length:=z3 h1 (cG L x);obtain⟨pre,post,e,hn,dz⟩:=cH aq;cases q1:An (BZ rs L) (x,p) with
  |none=>cases An (BZ rs L) (x,y)<;>exact trivial
  |some c1 =>
   cases q2:An (BZ rs L) (p,y) with
   |none=>cases An (BZ rs L) (x,y)<;>exact trivial
   |some c2 =>
    have r:=b4 pre p post e x (dz x h1 (aQ q1).1) y (dz y h2 (aQ q2).2) ae;rw[<-q1,<-q2];exact r
noncomputable abbrev CA:=List ((Int×Int)×(Int×Int))
abbrev Ms (C:CA):D:=.Bn true (C.map λ kv=>pD kv.1) (C.map λ kv=>cst (some kv.2))
abbrev pV (C:CA):OT:=.Bn true (C.map λ kv=>pD kv.1) ((C.map λ kv=>cst (some kv.2)).map .sh)
noncomputable abbrev RA:=List (Int×(Int×Int))
abbrev cI (R:RA):D:=.Bn false (R.map λ kv=>D.int kv.1) (R.map λ kv=>cst (some kv.2))
abbrev dW (R:RA):OT:=.Bn false (R.map λ kv=>D.int kv.1) ((R.map λ kv=>cst (some kv.2)).map .sh)
def QO (A:LA):er (J4 A)=Ll A:=IR
def QP (C:CA):er (pV C)=Ms C:=IR
def QQ (R:RA):er (dW R)=cI R:=IR
def KY (i:Int):keyOk false (.int i)=true:=rfl
def QR (A:LA)(p:Int×Int)(neg:Bool):Jr neg (pD p) (Ll A)=.ok (.bl (if neg=true then !(AH A p).isSome else (AH A p).isSome)):=by
 unfold Ll Jr;dsimp only;rw[if_pos (GJ p),K7 GI]
def QS {A:LA}{p:Int×Int}{v:(Int×Int)×Option Int}(h:AH A p=some v):AX (Ll A) (pD p)=.ok (Xq v):=by
 unfold Ll AX;dsimp only;rw[if_pos (GJ p),GO GI,h];rfl
def oR (C:CA)(p:Int×Int)(neg:Bool):Jr neg (pD p) (Ms C)=.ok (.bl (if neg=true then !(AH C p).isSome else (AH C p).isSome)):=by
 unfold Ms Jr;dsimp only;rw[if_pos (GJ p),K7 GI]
def oS {C:CA}{p:Int×Int}{c:Int×Int}(h:AH C p=some c):AX (Ms C) (pD p)=.ok (cst (some c)):=by
 unfold Ms AX;dsimp only;rw[if_pos (GJ p),GO (vf:=λ c=>cst (some c)) GI,h];rfl
def oT (C:CA)(p:Int×Int):Pp (Ms C) (.ok (pD p))=.ok (cst (AH C p)):=by
 unfold Ms Pp;simp only[M.A9];rw[if_pos (GJ p),GO (vf:=λ c=>cst (some c)) GI];cases AH C p<;>rfl
def oU (R:RA)(p:Int)(neg:Bool):Jr neg (.int p) (cI R)=.ok (.bl (if neg=true then !(AH R p).isSome else (AH R p).isSome)):=by
 unfold cI Jr;dsimp only;rw[if_pos (KY p),K7 (kf:=D.int) K8]
def oV {R:RA}{p:Int}{c:Int×Int}(h:AH R p=some c):AX (cI R) (.int p)=.ok (cst (some c)):=by
 unfold cI AX;dsimp only;rw[if_pos (KY p),GO (kf:=D.int) (vf:=λ c=>cst (some c)) K8,h];rfl
def cJ (R:RA)(p:Int):Pp (cI R) (.ok (.int p))=.ok (cst (AH R p)):=by
 unfold cI Pp;simp only[M.A9];rw[if_pos (KY p),GO (kf:=D.int) (vf:=λ c=>cst (some c)) K8];cases AH R p<;>rfl
def cK (A:LA)(p:Int×Int)(v:(Int×Int)×Option Int):putD (A.map λ kv=>pD kv.1) (A.map λ kv=>Xq kv.2) (pD p) (Xq v)=((Ds A p v).map (λ kv=>pD kv.1),(Ds A p v).map λ kv=>Xq kv.2):=Nt GI A p v
def oW (R:RA)(p:Int)(c:Int×Int):putD (R.map λ kv=>D.int kv.1) (R.map λ kv=>cst (some kv.2)) (.int p) (cst (some c))=((Ds R p c).map (λ kv=>D.int kv.1),(Ds R p c).map λ kv=>cst (some kv.2)):=Nt (kf:=D.int) (vf:=λ c=>cst (some c)) K8 R p c
def W5 {α:Type}(k v:α->D):∀l:List α,Xc (l.map λ x=>.tup [k x,v x])=some (l.map λ x=>(k x,v x))
 |[]=>rfl
 |x::l=>by rw[zf,Xc,W5 k v l];rfl
def kU:∀(C C0:CA),((C0++C).map zH).Nodup->(C.map λ kv=>(pD kv.1,cst (some kv.2))).foldl (λ z kv=>putD z.1 z.2 kv.1 kv.2) (C0.map (λ kv=>pD kv.1),C0.map λ kv=>cst (some kv.2))=((C0++C).map (λ kv=>pD kv.1),(C0++C).map λ kv=>cst (some kv.2))
 |[],C0,_=>by simp
 |kv::C,C0,hn=>by
  obtain⟨p,c⟩:=kv;rw[zf,zL];dsimp only;have h0:AH C0 p=none:=by
   rw[cB];intro hm;rw[z6,z8] at hn;exact hn.2.2 p hm p (by simp) rfl
  have e:Ds C0 p c=C0++[(p,c)]:=by unfold Ds;rw[h0];rfl
  rw[Nt (vf:=λ c=>cst (some c)) GI,e,kU C (C0++[(p,c)]) (by rw[zaa];exact hn),zaa];rfl
def cL {C:CA}(hn:(C.map zH).Nodup)(hl:C.length<=1000):iO (.lst (C.map λ kv=>.tup [pD kv.1,cst (some kv.2)]))=.ok (pV C):=by
 unfold iO;dsimp only;rw[W5 (λ kv:(Int×Int)×(Int×Int)=>pD kv.1) (λ kv=>cst (some kv.2))];dsimp only;have e:=kU C [] hn;rw[if_pos ⟨by rw[zc];exact hl,by rw[List.all_map];exact List.all_eq_true.mpr λ x _=>rfl⟩];have e2:uL (C.map λ kv=>(pD kv.1,cst (some kv.2)))=(C.map (λ kv=>pD kv.1),C.map λ kv=>cst (some kv.2)):=e;rw[e2];rfl
abbrev AI (m:Nat)(rs:List Road)(L:List Int)(A:LA)(K:List (Int×Int)):D:=.ins "Ladder" ["own_map","own_order","laid","kept_ones"] [Ap m rs,.lst (L.map D.int),Ll A,.lst (K.map pD)]
structure BM (m:Nat)(rs:List Road)(L:List Int)(A:LA)(K:List (Int×Int)):Prop where
 m1:1<=m
 m2:m<=16
 rl:rs.length<=60
 ok:∀r∈rs,G7 m r/\r.a≠r.b
 pm:L.Perm (AR m)
 la:A=BZ rs L
 kn:K.Nodup
 km:∀p,p∈K↔∃c,An A p=some c/\BI rs p.1 p.2 (some c)
def BM.wK {m:Nat}{rs:List Road}{L:List Int}{A:LA}{K:List (Int×Int)}(h:BM m rs L A K):Fc m A:=by
 rw[h.la];exact (Nu h.pm h.ok).1
def BM.kR {m:Nat}{rs:List Road}{L:List Int}{A:LA}{K:List (Int×Int)}(h:BM m rs L A K):TM m rs (DH L) (λ x y=>An A (x,y)):=by
 rw[h.la];exact (Nu h.pm h.ok).2
def F7 {A:LA}{p:Int×Int}{c:Int×Int}(h:An A p=some c):p∈A.map zH:=by
 rw[<-HU];unfold An at h;cases q:AH A p with
 |none=>rw[q] at h;cases h
 |some z=>rfl
def BM.XT {m:Nat}{rs:List Road}{L:List Int}{A:LA}{K:List (Int×Int)}(h:BM m rs L A K){p:Int×Int}(hp:p∈K):p.1≠p.2/\(0<=p.1/\p.1<m)/\0<=p.2/\p.2<m:=by
 obtain⟨c,hc,_⟩:=(h.km p).mp hp;exact h.wK.rg p (F7 hc)
def BM.kl {m:Nat}{rs:List Road}{L:List Int}{A:LA}{K:List (Int×Int)}(h:BM m rs L A K):K.length<1000:=
 Cu.len (m:=m) ⟨h.kn,λ x hx=>(h.XT hx).1 rfl,λ q hq=>⟨(h.XT hq).2.1,(h.XT hq).2.2⟩⟩ (by have:=h.m2;omega)
abbrev Ie (A:LA)(K:List (Int×Int)):CA:=K.map λ p=>(p,(An A p).getD (0,0))
def Nv (A:LA)(K:List (Int×Int)):(Ie A K).map zH=K:=by
 unfold Ie;rw[yK];exact (List.map_congr_left λ p _=>rfl).trans (List.map_id K)
def BM.kept {m:Nat}{rs:List Road}{L:List Int}{A:LA}{K:List (Int×Int)}(h:BM m rs L A K):Kept rs (λ x y=>An A (x,y)) (λ x y=>AH (Ie A K) (x,y)):=λ x y c=>by
 have hn:((Ie A K).map zH).Nodup:=by rw[Nv];exact h.kn
 constructor
 ·intro hf;have hm:=QJ hf;unfold Ie at hm;obtain⟨p,hp,e⟩:=zA.mp hm;obtain⟨c',hc,bI⟩:=(h.km p).mp hp;rw[hc] at e;cases e;exact⟨hc,bI⟩
 ·rintro ⟨h1,h2⟩;refine cC hn ?_;unfold Ie;exact zA.mpr ⟨(x,y),(h.km (x,y)).mpr ⟨c,h1,h2⟩,by rw[show An A (x,y)=some c from h1];rfl⟩
abbrev SK (C:CA):CA:=C.map λ kv=>((kv.1.2,kv.1.1),kv.2)
def Xu {C:CA}(h:(C.map zH).Nodup):((SK C).map zH).Nodup:=by
 have e:(SK C).map zH=(C.map zH).map λ p=>(p.2,p.1):=by
  unfold SK;rw[yK,yK];rfl
 rw[e];exact (List.pairwise_map.mpr (h.imp fun {a b} g7 e=>g7 (by cases a;cases b;cases e;rfl)))
def QT (x y:Int):∀C:CA,AH (SK C) (x,y)=AH C (y,x)
 |[]=>rfl
 |((a,b),c)::C=>by
  unfold SK;rw[zf,AH,AH];have:=QT x y C;unfold SK at this;rw[this];by_cases h:a=y/\b=x
  ·rw[if_pos (by rw[h.1,h.2]),if_pos (by rw[h.1,h.2])]
  ·rw[if_neg (λ e=>h (by cases e;exact⟨rfl,rfl⟩)),if_neg (λ e=>h (by cases e;exact⟨rfl,rfl⟩))]
def wL (p q:Int×Int):ZD (cst (some p)) (cst (some q))=.ok (.bl (decide (p.1<q.1\/(p.1=q.1/\p.2<q.2)))):=by
 rw[<-EK];rfl
def QU {m:M Out}{t r:OT}(h:WP m (λ ρ=>GA ρ=some t/\OT.sh .AK=r) (λ o=>match o with | .E5 r' ρ=>GA ρ=some t/\r'=r | _=>False) (λ _=>False)):Ea m=.ok (t,r):=by
 cases m with
 |bad|ex x=>exact h.elim
 |ok o =>
  cases o with
  |next ρ=>obtain⟨h1,h2⟩:=(show GA ρ=some t/\OT.sh .AK=r from h);unfold Ea;dsimp only;rw[h1,<-h2]
  |E5 r' ρ=>obtain⟨h1,h2⟩:=(show GA ρ=some t/\r'=r from h);unfold Ea;dsimp only;rw[h1,<-h2]
  |ret d|Cv d|brk d|cont d=>exact h.elim
def KZ {F:OT->List D->M (OT×OT)}{ρ:Ac}{p:Option Nat}{t t2 r:OT}{aw:List D}{i:Nat}(h:ρ[i]?=some (some (.ow (.tree p t))))(hN:Qu t=true)(hF:F t aw=.ok (t2,r)):Sg i F ρ [] aw=.ok (ρ.set i (some (toCl p t2)),r):=by
 rw[Zn h rfl rfl hN hF,E8]
def DR {A:LA}{p:Option Nat}{ρ:Ac}:FY 0 (some (.ow (.tree p (J4 A)))::ρ) []=.ok (true,A.map (λ kv=>pD kv.1),A.map λ kv=>Xq kv.2):=D7
def HV {R:RA}{p:Option Nat}{ρ:Ac}:FY 0 (some (.ow (.tree p (dW R)))::ρ) []=.ok (false,R.map (λ kv=>D.int kv.1),R.map λ kv=>cst (some kv.2)):=D7
def Fc.ov {m:Nat}{A:LA}(h:Fc m A){p u w:Int}(hu:0<=u/\u<m)(hw:0<=w/\w<m):Fc m (QK p u A w):=by
 unfold QK;split
 ·exact h
 ·rename_i e;exact h.lay ⟨e,hu,hw⟩
def Fc.ou {m:Nat}{p u:Int}(hu:0<=u/\u<m):∀ {H:List Int}{A:LA},Fc m A->(∀x∈H,0<=x/\x<m)->Fc m (H.foldl (QK p u) A)
 |[],A,h,_=>h
 |w::H,A,h,hH=>by
  have r:=Fc.ou (A:=QK p u A w) (H:=H) (p:=p) hu (h.ov hu (hH w zd)) λ x hx=>hH x (ze _ hx);exact r
def Ed {α β:Type}{f:β->α->β}{l:List α}{i:Nat}{x:α}{b:β}(h:l[i]?=some x):(l.take (i+1)).foldl f b=f ((l.take i).foldl f b) x:=by
 rw[y9,h,Option.toList_some,List.foldl_append];rfl
def Fc.lo {m:Nat}{p:Int}{H0:List Int}(h0:∀x∈H0,0<=x/\x<m):∀ {H:List Int}{A:LA},Fc m A->(∀x∈H,0<=x/\x<m)->Fc m (H.foldl (jI p H0) A)
 |[],A,h,_=>h
 |w::H,A,h,hH=>by
  have r:=Fc.lo (p:=p) (A:=jI p H0 A w) (H:=H) h0 (Fc.ou (hH w zd) h h0) λ x hx=>hH x (ze _ hx);exact r
def Mt (c:Co):TH (.ok (.sh (cst c)))=.ok (.sh (cst c)):=by
 cases c<;>rfl
abbrev wM (a b:List Co×Bool):Prop:=b.2=true/\(a.2=false\/(a.2=true/\O8 ltN a.1 b.1))
def oX (x:List Co):Acc wM (x,false):=.intro _ λ y h=>by cases h.1
def oY (x:List Co):Acc wM (x,true):=by
 have:=Xf x;induction this with
 |intro x _ ih =>
  refine .intro _ λ y h=>?_;obtain⟨y,b⟩:=y;rcases h.2 with e|⟨e,h2⟩
  ·dsimp only at e;subst e;exact oX y
  ·dsimp only at e;subst e;exact ih y h2
def UE (n:Nat):Cs 0 n=(AR n).map D.int:=by rw[MV,Np]
def IT.xO {m:Nat}{r:Road}(h:IT m r):G7 m r/\r.a≠r.b:=⟨⟨h.a0,h.a1,h.b0,h.b1,λ l hl=>(h.l0 l hl).1⟩,h.ab⟩
abbrev KP (rs:List Road)(A:LA)(p:Int×Int):Prop:=∃c,An A p=some c/\BI rs p.1 p.2 (some c)
abbrev tL (A:LA)(cs:List Co)(u w:Int):Bool:=match An A (u,w) with
 |none=>false
 |some c=>decide (some c=atC cs w)
def cM {m s:Nat}{rs:List Road}{cs:List Co}{A:LA}(hR:Right m s rs cs)(Au:∀r∈rs,G7 m r){w:Int}(h0:0<=w)(h1:w<m):tL A cs s w=true↔KP rs A (s,w):=by
 have hm:=hR.ZM Au h0 h1;unfold tL KP;cases q:An A ((s:Int),w) with
 |none=>simp
 |some c =>
  dsimp only;constructor
  ·intro h;have e:=of_decide_eq_true h;exact⟨c,rfl,e▸hm⟩
  ·rintro ⟨c',e,h⟩;cases e;exact decide_eq_true (h.Ci hm)
def oZ {m:Nat}{rs:List Road}{A:LA}{K:List (Int×Int)}(hA:Fc m A)(hm:m<=20)(hn:K.Nodup)(hK:∀p∈K,KP rs A p):K.length<1000:=by
 have hr:∀p∈K,p.1≠p.2/\(0<=p.1/\p.1<m)/\0<=p.2/\p.2<m:=λ p hp=>by
  obtain⟨c,hc,_⟩:=hK p hp;exact hA.rg p (F7 hc)
 exact Cu.len (m:=m) ⟨hn,λ x hx=>(hr _ hx).1 rfl,λ q hq=>⟨(hr q hq).2.1,(hr q hq).2.2⟩⟩ hm
def L0:∀ds:List D,(∀d∈ds,Ji d=true)->FX (ds.map .sh)=true
 |[],_=>rfl
 |d::ds,h=>by
  rw[zf,FX,Gz,h d zd,L0 ds λ x hx=>h x (ze _ hx)];rfl
def Nw {ds:List D}(h:∀d∈ds,Ji d=true):TH (.ok (.lst (ds.map .sh)))=.ok (.lst (ds.map .sh)):=by
 unfold TH;simp only[M.A9];rw[Gz,L0 ds h];rfl
def cN (L:List Int):TH (.ok (.lst ((L.map D.int).map .sh)))=.ok (.lst ((L.map D.int).map .sh)):=Nw λ d hd=>by
 obtain⟨x,_,rfl⟩:=zA.mp hd;rfl
def jK (K:List (Int×Int)):TH (.ok (.lst ((K.map pD).map .sh)))=.ok (.lst ((K.map pD).map .sh)):=Nw λ d hd=>by
 obtain⟨x,_,rfl⟩:=zA.mp hd;exact ZS x
def cO (cs:List Co):TH (.ok (.lst ((cs.map cst).map .sh)))=.ok (.lst ((cs.map cst).map .sh)):=Nw λ d hd=>by
 obtain⟨x,_,rfl⟩:=zA.mp hd;exact VZ x
def pA (v:(Int×Int)×Option Int):Ji (Xq v)=true:=by
 obtain⟨c,l⟩:=v;cases l<;>rfl
def jL (A:LA):TH (.ok (J4 A))=.ok (J4 A):=by
 unfold TH J4;simp only[M.A9];rw[Gz,L0 _ λ d hd=>by
  obtain⟨x,_,rfl⟩:=zA.mp hd;exact pA x.2]
 rfl
def QV {L:List Int}(hn:L.Nodup){i:Nat}{x:Int}(h:L[i]?=some x):DH L x=i:=by
 have af:=(zx.mp h).1;have e:L=L.take i++x::L.drop (i+1):=by
  have h2:L.drop i=x::L.drop (i+1):=by
   rw[zb0 af];rw[zh af] at h;rw[z7 h]
  rw[<-h2,za1]
 have hx:x∉L.take i:=λ hm=>by
  rw[e,z8] at hn;exact hn.2.2 x hm x zd rfl
 rw[e,W4 hx,zT];omega
def W6 {L:List Int}(hn:L.Nodup){i:Nat}{y:Int}(h:y∈L.drop i):i<=DH L y:=by
 have hy:y∉L.take i:=λ hm=>by
  rw[<-za1 i L,z8] at hn;exact hn.2.2 y hm y h rfl
 have h1:=QM (pre:=L.take i) (post:=L.drop i) hy;rw[za1,zT] at h1;have h2:L.drop i≠[]:=λ e=>by rw[e] at h;cases h
 have h3:i<L.length:=by
  rw[Ne,List.drop_eq_nil_iff] at h2;omega
 omega
def jM {L:List Int}{i:Nat}{y:Int}(h:y∈L)(hr:i<=DH L y):y∈L.drop i:=by
 rw[<-za1 i L] at h;rcases zy.mp h with h|h
 ·have h1:=UB (post:=L.drop i) h;rw[za1,zT] at h1;omega
 ·exact h
structure RB (L:List Int)(C:CA)(s:Int)(i:Nat)(R:RA):Prop where
 nd:(R.map zH).Nodup
 rg:∀k∈R.map zH,k∈L
 st:BQ (AH R s) (some (0,0))
 sd:∀y c,AH R y=some c->Om (λ x y=>AH C (x,y)) (DH L) s y c
 cl:∀x y,DH L x<i->DH L x<DH L y->BQ (AH R y) (Aj (AH R x) (AH C (x,y)))
structure kW (L:List Int)(C:CA)(s:Int)(i:Nat)(x:Int)(c0:Int×Int)(W:List Int)(R0 R:RA):Prop where
 nd:(R.map zH).Nodup
 rg:∀k∈R.map zH,k∈L
 sd:∀y c,AH R y=some c->Om (λ x y=>AH C (x,y)) (DH L) s y c
 le:∀y,BQ (AH R y) (AH R0 y)
 sm:∀y,DH L y<=i->AH R y=AH R0 y
 cw:∀y∈W,BQ (AH R y) (Aj (some c0) (AH C (x,y)))
def kW.put {L:List Int}{C:CA}{s:Int}{i:Nat}{x:Int}{c0:Int×Int}{W:List Int}{R0 R:RA}(h:kW L C s i x c0 W R0 R){y:Int}{d v:Int×Int}(hy:y∈L)(hr:i<DH L y)(hx:DH L x=i)(gz:AH R0 x=some c0)(hd:AH C (x,y)=some d)(hv:DD (AH R y) (some (c0.1+d.1,c0.2+d.2))=some v):kW L C s i x c0 (W++[y]) R0 (Ds R y v):=by
 have hle:BQ (some v) (AH R y):=hv▸EB _ _;refine⟨KW h.nd,λ k hk=>(Nr hk).elim (h.rg k) λ e=>e▸hy,λ z c hz=>?_,λ z=>?_,λ z hz=>?_,λ z hz=>?_⟩
 ·rw[HS] at hz;split at hz
  ·rename_i e;subst e;cases hz;rcases Bs (AH R z) (some (c0.1+d.1,c0.2+d.2)) with ⟨e,_⟩|⟨e,_⟩
   ·rw[hv] at e;exact h.sd z _ e.symm
   ·rw[hv] at e;cases e;have aF:=h.sd x c0 (by rw[h.sm x (by omega)];exact gz);exact .snoc aF (by omega) hd
  ·exact h.sd z c hz
 ·rw[HS];split
  ·rename_i e;subst e;exact Ao hle (h.le z)
  ·exact h.le z
 ·rw[HS,if_neg (λ e=>by subst e;omega)];exact h.sm z hz
 ·rw[HS];split
  ·rename_i e;subst e;rw[hd];exact hv▸EC _ _
  ·rename_i e;rcases zy.mp hz with hz|hz
   ·exact h.cw z hz
   ·exact (e (zi.mp hz)).elim
def kW.skip {L:List Int}{C:CA}{s:Int}{i:Nat}{x:Int}{c0:Int×Int}{W:List Int}{R0 R:RA}(h:kW L C s i x c0 W R0 R){y:Int}(hd:AH C (x,y)=none):kW L C s i x c0 (W++[y]) R0 R:=
 ⟨h.nd,h.rg,h.sd,h.le,h.sm,λ z hz=>by
  rcases zy.mp hz with hz|hz
  ·exact h.cw z hz
  ·rw[zi.mp hz,hd];cases AH R y<;>exact trivial⟩
def RB.go {L:List Int}{C:CA}{s:Int}{i:Nat}{x:Int}{c0:Int×Int}{R0 R:RA}(hC:∀p c,AH C p=some c->p.2∈L)(h0:RB L C s i R0)(hx:L[i]?=some x)(hn:L.Nodup)(hc:AH R0 x=some c0)(h:kW L C s i x c0 (L.drop (i+1)) R0 R):RB L C s (i+1) R:=by
 have o7:=QV hn hx;refine⟨h.nd,h.rg,Ao (h.le s) h0.st,h.sd,λ u y hu hy=>?_⟩;by_cases e:DH L u<i
 ·rw[h.sm u (by omega)];exact Ao (h.le y) (h0.cl u y e hy)
 ·have e2:DH L u=i:=by omega
  have hi:=(zx.mp hx).1;have o8:u∈L:=UC (by omega);have eu:u=x:=QN o8 (zr hx) (by omega);subst eu;rw[h.sm u (by omega),hc];cases q:AH C (u,y) with
  |none=>cases AH R y<;>exact trivial
  |some d =>
   have:=h.cw y (jM (hC _ _ q) (by omega));rw[q] at this;exact this
def RB.skip {L:List Int}{C:CA}{s:Int}{i:Nat}{x:Int}{R:RA}(h0:RB L C s i R)(hx:L[i]?=some x)(hn:L.Nodup)(hc:AH R x=none):RB L C s (i+1) R:=by
 have o7:=QV hn hx;refine⟨h0.nd,h0.rg,h0.st,h0.sd,λ u y hu hy=>?_⟩;by_cases e:DH L u<i
 ·exact h0.cl u y e hy
 ·have hi:=(zx.mp hx).1;have eu:u=x:=QN (UC (by omega)) (zr hx) (by omega);subst eu;rw[hc];cases AH C (u,y)<;>cases AH R y<;>exact trivial
def RB.start {L:List Int}{C:CA}{s:Int}(hs:s∈L):RB L C s 0 [(s,(0,0))]:=by
 refine⟨by simp,λ k hk=>by simp at hk;rw[hk];exact hs,by simp[AH,BQ],λ y c h=>?_,λ x y h=>by omega⟩;simp only[AH] at h;split at h
 ·rename_i e;subst e;cases h;exact .nil
 ·cases h
def RB.xP {m:Nat}{L:List Int}{C:CA}{s:Int}{R:RA}(h:RB L C s L.length R)(hC:∀p c,AH C p=some c->p.1∈L/\p.2∈L):uN (DH L) (λ x y=>AH C (x,y)) s (AH R):=by
 refine⟨h.st,λ x y hr=>?_,h.sd⟩;cases q:AH C (x,y) with
 |none=>cases AH R x<;>cases AH R y<;>exact trivial
 |some d =>
  have hx:DH L x<L.length:=z3 hr (cG L y);have:=h.cl x y hx hr;rw[q] at this;exact this
structure cP (m:Nat)(L:List Int)(C:CA)(s:Int)(R:RA)(W:List Int)(T:List Co):Prop where
 len:T.length=m
 no:∀x:Int,0<=x->x<m->x∉W->atC T x=none
 top:∀x∈W,BQ (atC T x) (AH R x)
 cl:∀x∈W,∀y∈W,DH L y<DH L x->BQ (atC T y) (Aj (atC T x) (AH C (x,y)))
 sd:∀(x:Int) c,0<=x->x<m->atC T x=some c->∃t n c1 c2,Om (λ x y=>AH C (x,y)) (DH L) s t c1/\SH (λ x y=>AH C (x,y)) (DH L) t n x c2/\c=(c1.1+c2.1,c1.2+c2.2)
def cP.step {m:Nat}{L:List Int}{C:CA}{s:Int}{R:RA}{W:List Int}{T:List Co}(hR:∀y c,AH R y=some c->Om (λ x y=>AH C (x,y)) (DH L) s y c)(h:cP m L C s R W T){y:Int}(o9:0<=y)(v3:y<m)(pc:y∉W)(hW:∀x∈W,(0<=x/\x<m)/\DH L y<DH L x):
 cP m L C s R (W++[y]) (T.set y.toNat (Ft (AH R y::W.map λ x=>Aj (atC T x) (AH C (x,y))))):=by
 obtain⟨v,hv⟩:∃v,v=Ft (AH R y::W.map λ x=>Aj (atC T x) (AH C (x,y))):=⟨_,rfl⟩;rw[<-hv];have aW:∀i:Int,0<=i->atC (T.set y.toNat v) i=if i=y then v else atC T i:=λ i hi=>HP o9 hi (by rw[h.len];exact v3)
 have bY:∀x∈W,x≠y:=λ x hx e=>pc (e▸hx);refine⟨by rw[yI];exact h.len,λ x h0 h1 hx=>?_,λ x hx=>?_,λ x hx z hz hr=>?_,λ x c h0 h1 hx=>?_⟩
 ·rw[zy,not_or] at hx;rw[aW x h0,if_neg (λ e=>hx.2 (zi.mpr e))];exact h.no x h0 h1 hx.1
 ·rcases zy.mp hx with hx|hx
  ·rw[aW x (hW x hx).1.1,if_neg (bY x hx)];exact h.top x hx
  ·have e:=zi.mp hx;subst e;rw[aW x o9,if_pos rfl,hv];exact Mp zd
 ·rcases zy.mp hx with aF|aF
  ·rcases zy.mp hz with bn|bn
   ·rw[aW x (hW x aF).1.1,if_neg (bY x aF),aW z (hW z bn).1.1,if_neg (bY z bn)];exact h.cl x aF z bn hr
   ·have e:=zi.mp bn;rw[e] at hr ⊢;rw[aW x (hW x aF).1.1,if_neg (bY x aF),aW y o9,if_pos rfl,hv];exact Mp (ze _ (zA.mpr ⟨x,aF,rfl⟩))
  ·have e:=zi.mp aF;rw[e] at hr;rcases zy.mp hz with bn|bn
   ·have:=(hW z bn).2;omega
   ·rw[zi.mp bn] at hr;omega
 ·rw[aW x h0] at hx;split at hx
  ·rename_i e;subst e;rw[hv] at hx;rcases K2 (AH R x::W.map λ z=>Aj (atC T z) (AH C (z,x))) with e|e
   ·rw[e] at hx;cases hx
   ·rw[hx] at e;rcases zq.mp e with e|e
    ·exact⟨x,0,c,(0,0),hR x c e.symm,.nil,by simp⟩
    ·obtain⟨z,hz,e⟩:=zA.mp e;obtain⟨p,q,e1,e2,rfl⟩:=DQ e;obtain⟨t,n,c1,c2,g1,g2,rfl⟩:=h.sd z p (hW z hz).1.1 (hW z hz).1.2 e1;exact⟨t,n+1,c1,_,g1,.snoc g2 (hW z hz).2 e2,by simp only[zax]⟩
  ·exact h.sd x c h0 h1 hx
def cP.start {m:Nat}{L:List Int}{C:CA}{s:Int}{R:RA}:cP m L C s R [] (zt m none):=by
 have dq:∀x:Int,atC (zt m none) x=none:=λ x=>by
  unfold atC;rw[zu,za7];split<;>rfl
 exact⟨by simp,λ x _ _ _=>dq x,(λ x hx=>by cases hx),(λ x hx=>by cases hx),λ x c _ _ h=>by rw[dq] at h;cases h⟩
def pB {a b g i:Int}(ha:0<=a/\a<O9)(hb:0<=b/\b<O9)(hg:0<=g/\g<O9)(h0:0<=i)(h1:i<8):∃l:Option Int,AX (.lst [.AK,.int 0,.int 0,.int 1,.int a,.int b,.int g,.int g]) (.int i)=.ok (GH l)/\∀z,l=some z->0<=z/\z<O9:=by
 have ht:=QH;have hi:i=0\/i=1\/i=2\/i=3\/i=4\/i=5\/i=6\/i=7:=by omega
 rcases hi with rfl|rfl|rfl|rfl|rfl|rfl|rfl|rfl
 ·exact⟨none,rfl,λ z e=>by cases e⟩
 ·exact⟨some 0,rfl,λ z e=>by cases e;omega⟩
 ·exact⟨some 0,rfl,λ z e=>by cases e;omega⟩
 ·exact⟨some 1,rfl,λ z e=>by cases e;omega⟩
 ·exact⟨some a,rfl,λ z e=>by cases e;exact ha⟩
 ·exact⟨some b,rfl,λ z e=>by cases e;exact hb⟩
 ·exact⟨some g,rfl,λ z e=>by cases e;exact hg⟩
 ·exact⟨some g,rfl,λ z e=>by cases e;exact hg⟩
def pC {a b i:Int}(ha:0<=a/\a<O9)(hb:0<=b/\b<O9)(h0:0<=i)(h1:i<2):∃w:Int,AX (.lst [.int a,.int b]) (.int i)=.ok (.int w)/\0<=w/\w<O9:=by
 have hi:i=0\/i=1:=by omega
 rcases hi with rfl|rfl
 ·exact⟨a,rfl,ha⟩
 ·exact⟨b,rfl,hb⟩
def jN {α:Type}{a b c d e f g h:D}{x y:α}:(if [a,b,c,d,e,f,g,h].length<=1000 then x else y)=x:=if_pos (by simp)
def W7 (r:Road):dp (.ok (BH r))=.ok (BH r):=by
 obtain⟨a,b,l,w⟩:=r;cases l<;>rfl
def QW (i:Int):dp (.ok (.int i))=.ok (.int i):=rfl
def UG {ρ:Ac}{i m:Nat}{ac:List (List Co)}{x y:Int}(h:ρ[i]?=some (some (.ow (.rows (Av ac)))))(hM:Ol m ac)(h0:0<=x)(h1:x<m)(h2:0<=y)(h3:y<m):gB i ρ (.ok (.int x)) (.ok (.int y))=.ok (cst (at2 ac x y)):=by
 unfold gB;rw[h];simp only[M.A9];rw[SD hM h0 h1];exact iW hM h0 h1 h2 h3
def jO {ρ:Ac}{i m:Nat}{ac:List (List Co)}{x y:Int}{v:Co}(h:ρ[i]?=some (some (.ow (.rows (Av ac)))))(hM:Ol m ac)(h0:0<=x)(h1:x<m)(h2:0<=y)(h3:y<m):Vx i ρ (.ok (.int x)) (.ok (.int y)) (cst v)=.ok (.next (ρ.set i (some (.ow (.rows (Av (put2 ac x y v))))))):=by
 unfold Vx;rw[h];simp only[M.A9];rw[SD hM h0 h1];exact iX hM h0 h1 h2 h3 i ρ v
def SM:∀(n:Nat) (B:List (Int×Int)) (L:List Int),L.length=n->(QG n B L).Perm L
 |0,B,L,h=>by rw[List.length_eq_zero_iff.mp h];exact .refl _
 |n+1,B,L,h=>by
  have ae:L≠[]:=λ e=>by rw[e] at h;cases h
  have hm:=(Px (B:=B) ae).1;rw[QG,if_neg ae];refine List.Perm.trans ?_ (List.perm_cons_erase hm).symm;exact (SM n _ _ (by rw[List.length_erase_of_mem hm,h];rfl)).cons _
section
variable {X:Cx}{WX:Str->Hp->Prop}{a:Expr}{i:Nat}{fp:Ac->M (List Nat)}{pos:Pos}
def Xv (ha:DP X WX a i fp){apos ad:Pos}(aR: ~~~(swapsWith (.Call (.Attribute a "clear" apos) [] [] ad) none pos.line X.env=pure false))(al: ~~~(attributeBase a "clear" X.env (eval a X.env)=eval a X.env))(am: ~~~((apos.endLine==ad.line)=true)):
 DS X WX (.Expr (.Call (.Attribute a "clear" apos) [] [] ad) pos) (λ ρ=>(fp ρ).bind λ π=>(CY i ρ π).bind λ _=>Fn i ρ π (.lst [])):=by
 obtain⟨ta,a1,a2⟩:=ha;refine⟨_,Ex (mQ yR PySem.F.slot_list_clear PySem.F.type_list_clear Yu a1 al am) aR,λ P0 P σ H Z ρ E h=>?_⟩;dsimp only at h;refine a2 P0 P σ H _ ρ E ?_;refine WL h E λ π h=>?_;intro v t1 H1 s1 pl;have E1:=E.same s1;cases q1:CY i ρ π with
 |bad=>rw[q1] at h;exact h.elim
 |ex x=>unfold CY at q1;split at q1<;>cases q1
 |ok ts =>
  rw[q1] at h;simp only[M.A9] at h;obtain⟨rfl,l,xs,fq,rfl,hl,ol,nl,rb⟩:=pl.lst E1 q1;refine⟨.inl ⟨rfl,xs,.of hl⟩,l,xs,rfl,rfl,hl,?_⟩;obtain⟨c,p,t0,g1,g2,E3,t3⟩:=E1.nS pl hl ol (us:=[]) (ys:=[]) .nil yS (by simp) (λ b hb=>by cases hb);rw[Fo g1 g2] at h;exact h _ _ _ ((E.tr s1).trans t3) E3
end
def tM {α:Type}(l:List α):WQ [.lst (l.map λ _=>D.bl true)]=.ok (.bl true):=by
 have e:(l.map λ _=>D.bl true)=(l.map λ _=>true).map D.bl:=by rw[yK];rfl
 rw[e,GN];simp
abbrev Ig (c:Int->Int->Co)(p:Int)(D:List Int)(h:Int):Bool:=decide (c p h≠none) && !(D.any λ x=>decide (Aj (c p x) (c x h)=c p h))
abbrev C1 (c:Int->Int->Co)(p:Int)(D:List Int):List Int:=(yO D.length).filterMap λ i=>if Ig c p (D.take i) (D.getD i 0)=true then some (D.getD i 0) else none
def L1 (c:Int->Int->Co)(p:Int)(D:List Int)(h:Int):C1 c p (D++[h])=C1 c p D++(if Ig c p D h=true then [h] else []):=by
 unfold C1;rw[zB,yP,List.range_succ,List.filterMap_append];congr 1
 ·have cg:∀(l:List Nat) (f g:Nat->Option Int),(∀i∈l,f i=g i)->l.filterMap f=l.filterMap g:=by
   intro l f g;induction l with
   |nil=>intro _;rfl
   |cons a r ih=>intro h;rw[zab,zab,h a zd,ih λ i hi=>h i (ze _ hi)]
  refine cg _ _ _ λ i hi=>?_;have hi:=zao.mp hi;rw[List.take_append_of_le_length (by omega),zu,zu,yJ hi]
 ·have e1:(D++[h]).take D.length=D:=by rw[List.take_append_of_le_length (zv _),y8]
  have e2:(D++[h]).getD D.length 0=h:=by rw[zu,yY (zv _)];simp
  rw[zab,List.filterMap_nil,e1,e2];by_cases q:Ig c p D h=true
  ·rw[if_pos q,if_pos q]
  ·rw[if_neg q,if_neg q]
def SN (c:Int->Int->Co)(p:Int)(D:List Int):∀x∈C1 c p D,x∈D:=by
 intro x hx;obtain⟨i,hi,e⟩:=List.mem_filterMap.mp hx;have hi:=zao.mp hi;split at e
 ·cases e;rw[zu,zh hi];exact zal hi
 ·cases e
abbrev kX (m:Nat)(c:Int->Int->Co):Prop:=∀x y z:Int,(0<=x/\x<m)->(0<=y/\y<m)->(0<=z/\z<m)->BQ (c x z) (Aj (c x y) (c y z))
def kX.turn {m:Nat}{c:Int->Int->Co}(h:kX m c):kX m λ x y=>c y x:=λ x y z a b d=>by rw[Bb];exact h z y x d b a
def cQ {m:Nat}{c:Int->Int->Co}(T:kX m c){p y x h:Int}(hp:0<=p/\p<m)(hy:0<=y/\y<m)(hx:0<=x/\x<m)(hh:0<=h/\h<m)(h1:Aj (c p y) (c y x)=c p x)(h2:Aj (c p x) (c x h)=c p h):Aj (c p y) (c y h)=c p h:=by
 refine K1 ?_ (T p y h hp hy hh);rw[<-h2,<-h1,D9,Bb (c p y),Bb (c p y)];exact C3 _ (T y x h hy hx hh)
def Xw {m:Nat}{c:Int->Int->Co}(T:kX m c){p h:Int}(hp:0<=p/\p<m)(hh:0<=h/\h<m){D:List Int}(hD:∀x∈D,0<=x/\x<(m:Int))(hn:c p h≠none):(C1 c p D).any (λ x=>decide (Aj (c p x) (c x h)=c p h))=D.any λ x=>decide (Aj (c p x) (c x h)=c p h):=by
 have key:∀n:Nat,n<=D.length->((D.take n).any (λ x=>decide (Aj (c p x) (c x h)=c p h))=true->(C1 c p (D.take n)).any (λ x=>decide (Aj (c p x) (c x h)=c p h))=true):=by
  intro n;induction n with
  |zero=>intro _ q;simp at q
  |succ n ih =>
   intro hl q;have af:n<D.length:=by omega
   have e:D.take (n+1)=D.take n++[D[n]]:=by rw[y9,zh af];rfl
   rw[e,List.any_append,Bool.or_eq_true] at q;rw[e,L1,List.any_append,Bool.or_eq_true];by_cases z:(D.take n).any (λ x=>decide (Aj (c p x) (c x h)=c p h))=true
   ·exact .inl (ih (by omega) z)
   ·right;have q2:Aj (c p D[n]) (c D[n] h)=c p h:=by
     rcases q with q|q
     ·exact absurd q z
     ·simpa using q
    have v4:Ig c p (D.take n) D[n]=true:=by
     unfold Ig;rw[zG];refine⟨decide_eq_true λ w=>hn ?_,?_⟩
     ·rw[<-q2,w];rfl
     ·rw[Bool.not_eq_true',zaw];intro w;apply z;obtain⟨y,hy,w⟩:=za3.mp w;exact za3.mpr ⟨y,hy,decide_eq_true (cQ T hp (hD y (zS hy)) (hD _ (zal af)) hh (of_decide_eq_true w) q2)⟩
    rw[if_pos v4,yV,decide_eq_true q2];rfl
 have k2:=key D.length (zv _);rw[y8] at k2;cases q:D.any λ x=>decide (Aj (c p x) (c x h)=c p h) with
 |true=>exact k2 q
 |false =>
  rw[zaw];intro w;obtain⟨x,hx,w⟩:=za3.mp w;rw[zaw] at q;exact q (za3.mpr ⟨x,SN c p D x hx,w⟩)
structure Xx (K:za)(mg:Str->Option Value)(x:Str):Prop where
 ex:∃f,zE K mainGlobals x=some (some (.ref f))/\mg x=some (.ref f)
def kY {K:za}{mg:Str->Option Value}{h:Heap}{x:Str}{st:Stmt}(X:K.In h)(G:h.Ns mainGlobals mg)(p:FP K x st):Xx K mg x:=by
 obtain⟨f,_,_,_,_,_,_,_,_,_,a,_⟩:=p.ex;exact⟨f,a,PySem.W.mg_of X G a⟩
abbrev Xy (x1:Str)(F1:List D->M OT)(x2:Str)(F2:List D->M OT)(m:M (List D))(d:D):M OT:=match d with
 | .ET x=>if x=x1 then m.bind F1 else if x=x2 then m.bind F2 else .bad
 |_=>.bad
section
variable {X:Cx}{E:XK}{WX:Str->Hp->Prop}{c:Bool}{e:Expr}{es:List Expr}{fs:Ac->M (List D)}{f:Ac->M D}{pos:Pos}
def cR {x:Str}(G:Xx X.K X.mg x)(hg:Gl X x)(hd:(x==("__debug__" : Str))=false:=by decide):DE X WX c (.Name x pos) (λ _=>.ok (.ET x)):=by
 obtain⟨f,a,b⟩:=G.ex;exact⟨_,eE (v:=.ref f) hg b rfl hd,λ P0 P σ H Q ρ E h=>h _ H (Ae.refl H) (.ET a trivial)⟩
abbrev pE (X:Cx)(E:XK)(tc:TE)(t:TA):TE:=λ σ H Q=>tc σ H λ v H1=>∃fa fd ps k sp,v=.ref fa/\Di X.prog X.w X.K X.mg X.base (Ui X.prog X.w X.base) k fa fd ps sp/\Bu k X.A/\zV X.K (.ref fa)=true/\Binds X.K fd ps []/\t σ H1 λ vs H2=>sp (vs++[]) H2 Q E
def cS {y:Str}{p:Pos}{tc:TE}{t:TA}(hx:Gh (Ui X.prog X.w X.base) X E)(hc:PE X (.Name y p) tc)(ha:PA X (e::es) t)(he: ~~~(starEach (e::es) X.env=(false,eval e X.env)::starEach es X.env))(aq: ~~~((backTo pos (starEach es X.env)).any (·.1)=false)):
 PE X (.Call (.Name y p) (e::es) [] pos) (pE X E tc t):=by
 intro pins s σ H Q I h;refine wpAny_Call_Name_kw (Bi (hc pins s σ H _ I h) λ u s1 zz=>?_);obtain⟨v,H1,I1,r,fa,fd,ps,k,sp,ev,F,hr,hk,hb,q⟩:=zz;subst ev;obtain rfl:u=yG fa:=r;refine PySem.W.callWith_K (h₀:=X.base) I1.ok.mod.XT hk (Bi (ha pos pins s1 σ H1 _ I1 q) λ us s2 zz=>?_) he aq;obtain⟨vs,H2,I2,r2,q2⟩:=zz;exact⟨I2.Mv,Q8 F hr hb .nil hx I2 r2 q2⟩
def SO {k1 k2 n:Nat}{F1 F2:List D->M OT}{x1 x2 y:Str}{p:Pos}(xo:EW X E)(V1:Xx X.K X.mg x1)(G1:BG X.prog X.w X.K X.mg X.base x1 k1 n F1)(h1:Bu k1 X.A)(V2:Xx X.K X.mg x2)(G2:BG X.prog X.w X.K X.mg X.base x2 k2 n F2)(h2:Bu k2 X.A)(hv:DE X (CB X.K E) true (.Name y p) f)(ha:DA X (CB X.K E) true (e::es) fs)(hn:(e::es).length=n)(he: ~~~(starEach (e::es) X.env=(false,eval e X.env)::starEach es X.env))(aq: ~~~((backTo pos (starEach es X.env)).any (·.1)=false)):
 DN X (CB X.K E) (.Call (.Name y p) (e::es) [] pos) (λ ρ=>(f ρ).bind (Xy x1 F1 x2 F2 (fs ρ))):=by
 obtain⟨f1,n1,m1⟩:=V1.ex;obtain⟨f2,n2,m2⟩:=V2.ex;obtain⟨yt,v6,v7,d0,bL,v8,b9⟩:=G1.ex;obtain⟨yu,v9,wa,pd,bm,kr,wb⟩:=G2.ex;rw[m1] at bL;rw[m2] at bm;cases bL;cases bm;obtain⟨tc,c1,c2⟩:=hv;obtain⟨ta,a1,a2,a3⟩:=ha;refine⟨_,cS xo.call c1 a1 he aq,λ P0 P σ H Q ρ V h=>?_⟩;dsimp only at h;refine c2 P0 P σ H _ ρ V ?_;cases q:f ρ with
 |bad|ex x=>rw[q] at h;exact h
 |ok d =>
  rw[q] at h;simp only[M.A9] at h;intro v H1 s1 hv;have fin:∀ds,fs ρ=.ok ds->∀ {F:List D->M OT},WZ X.K (CB X.K E) P H Q (F ds)->∀vs H2,Ae H1 H2->Ah X.K (del H2 P) vs ds->spT X.K n F (vs++[]) H2 Q E:=λ ds qs F h vs H2 s2 ay=>by
   rw[zF];exact⟨by rw[ay.length,a3 ρ ds qs];exact hn,P,ds,((V.same s1).same s2).BX,ay,(h.same s1).same s2⟩
  have go:∀ {F:List D->M OT},WZ X.K (CB X.K E) P H Q ((fs ρ).bind F)->ta σ H1 λ vs H2=>spT X.K n F (vs++[]) H2 Q E:=fun {F} h=>by
   refine a2 P0 P σ H1 _ ρ (V.same s1) ?_;cases qs:fs ρ with
   |bad=>rw[qs] at h;exact h
   |ex x=>rw[qs] at h;exact λ H' s'=>h H' (s1.trans s')
   |ok ds =>
    rw[qs] at h;exact λ vs H2 s2 ay=>fin ds qs h vs H2 s2 ay
  cases hv with
  | @ET a x hx _ =>
   by_cases e1:x=x1
   ·subst e1;rw[n1] at hx;cases hx;refine⟨_,v6,v7,k1,_,rfl,d0,h1,v8,b9,go ?_⟩;simpa [Xy] using h
   ·by_cases e2:x=x2
    ·subst e2;rw[n2] at hx;cases hx;refine⟨_,v9,wa,k2,_,rfl,pd,h2,kr,wb,go ?_⟩;simpa [Xy,e1] using h
    ·simp only[Xy,if_neg e1,if_neg e2] at h;exact h.elim
  |_=>exact h.elim
end
abbrev uO (lo:Int)(n:Nat):It:=⟨λ i _=>i<n,λ i H x H'=>H'=H/\x=.int (lo-i),λ i _=>n<=i⟩
def SQ {P:Program}{w:World}{K:za}{tg:Expr}(it:Addr)(lo:Int)(n:Nat):Turn P w K tg (uO lo n) [it] it (λ i h=>IsRangeIter h it (lo+(i:Nat)*(-1)) ((n:Int)-(i:Nat)) (-1)) where
 mem:=by simp
 obj:=λ i h st b hb=>by
  have e:b=it:=by simpa using hb
  subst e;exact⟨_,st,λ v z=>by
   have z':Data.fields _=Data.cell v:=z;cases z'⟩
 keep:=λ i h h' st k=>k it (by simp) _ st
 item:=by
  intro X hP hw hK hc i pins s σ H E I hf st hg;subst hP hw hK;obtain⟨f0,f1,f2,f3,f4,f5⟩:=hf it (by simp);have W:=Walks.range (prog:=X.prog) (w:=X.w) (I.ok.hd hc) it lo (-1) n;refine W.item i s _ _ hg st λ v h' tk hv b7 kk=>?_;obtain⟨t,rfl⟩:=hv;have I1:Inv X pins σ H {s with heap:=h',toks:=tk}:=I.turned (λ b o hb e=>kk b o (by simpa using hb) e) f0 f1 f3 f4 f5;refine⟨_,rfl,V6 (s:={s with heap:=h',toks:=tk}) (n := "range_iterator") b7 rfl rfl (by decide) ⟨.int (lo-i),H,I1,⟨t,?_⟩,⟨rfl,rfl⟩,b7,λ b hb=>(hf b hb).1⟩⟩;congr 1;omega
 done:=by
  intro X hP hw hK hc i pins s σ H E I hf st hg;subst hP hw hK;obtain⟨f0,f1,f2,f3,f4,f5⟩:=hf it (by simp);exact wpAny_pyNext_range_end (I.ok.hd hc) st (by have:n<=i:=hg;omega) λ h' eb=>⟨rfl,I.turned (t':=s.toks) (λ b o hb e=>eb b o hb e) f0 f1 f3 f4 f5⟩
 self:=λ _ _ _ _ _ st h=>wpAny_pyIter_rangeiter st h
def rangeSize_down (a:Int):zay a (-1) (-1)=if a > -1 then a+1 else 0:=by
 unfold zay;rw[if_neg (by decide)];split
 ·rw[show -(-1:Int)=1 by decide,Int.ediv_one];omega
 ·rfl
def small_down {a:Int}(ha : -(2^62)<=a)(bK:a<2^62):Builtin.Range.small a (-1) (-1)=true:=by
 unfold Builtin.Range.small;rw[rangeSize_down];simp only[Builtin.Range.rangeFitsLong,zG,Bool.or_eq_true,decide_eq_true_eq,beq_iff_eq];split<;>simp<;>omega
section
variable {X:Cx}{tg:Expr}{WX:Str->Hp->Prop}{c:Bool}{a b s:Expr}{fs:Ac->M (List D)}{pos:Pos}
def Xz {pins:List (Addr×Obj)}{σ:St}{H:Hp}{s:Shared}{R:It->Hp->Prop}{E:Value->Shared->Prop}{lo:Int}{t u v:Tok}{tk:Nat}(I:Inv X pins σ H s)(h1 : -(2^62)<=lo)(h2:lo<2^62)
 (q:R (uO lo (lo+1).toNat) H):wpAny (model X.prog X.w) X.A (pyIter (.ref s.heap.objs.size)) (vF X pins σ tg R) E {s with heap:=s.heap.push {cls:=.type "range",data:=.fields #[.int lo t,.int (-1) u,.int (-1) v]},toks:=tk}:=by
 refine wpAny_pyIter_range (IsRange.new ..) (small_down h1 h2) ?_;have I1:Inv X pins σ H {s with heap:=s.heap.push {cls:=.type "range",data:=.fields #[.int lo t,.int (-1) u,.int (-1) v]},toks:=tk}:=I.kept λ b o e=>zp _ e;refine⟨(s.heap.push {cls:=.type "range",data:=.fields #[.int lo t,.int (-1) u,.int (-1) v]}).objs.size,[(s.heap.push {cls:=.type "range",data:=.fields #[.int lo t,.int (-1) u,.int (-1) v]}).objs.size],_,_,H,rfl,
  I1.kept (t':=tk) λ b o e=>zp _ e,SQ _ lo (lo+1).toNat,?_,λ b hb=>?_,q⟩
 ·have e1:lo+((0:Nat):Int)*(-1)=lo:=by simp
  have e2:(((lo+1).toNat:Nat):Int)-((0:Nat):Int)=zay lo (-1) (-1):=by rw[rangeSize_down];split<;>omega
  show IsRangeIter _ _ (lo+((0:Nat):Int)*(-1)) ((((lo+1).toNat:Nat):Int)-((0:Nat):Int)) (-1);rw[e1,e2];exact z9 _ rfl
 ·have e:b=(s.heap.push {cls:=.type "range",data:=.fields #[.int lo t,.int (-1) u,.int (-1) v]}).objs.size:=by simpa using hb
  subst e;exact I1.Wm (zv _) (I1.Au.fresh (zv _))
abbrev tN (ta:TA):TI:=λ σ H R=>ta σ H λ vs H1=>∃i:Int,vs=[.int i,.int (-1),.int (-1)]/\(-(2^62)<=i/\i<2^62)/\R (uO i (i+1).toNat) H1
def XA {ta:TA}{p:Pos}(hg:Gl X "range")(hm:X.mg "range" = none)(ha:PA X [a,b,s] ta)(hs: ~~~(starEach [a,b,s] X.env=(false,eval a X.env)::starEach [b,s] X.env))(aG: ~~~((backTo pos (starEach [b,s] X.env)).any (·.1)=false)):
 PI X tg (.Call (.Name "range" p) [a,b,s] [] pos) (tN ta):=by
 intro pins s σ H R I h;refine Call_ (Dp I hg hm boot_range (zW (Bi (ha pos pins s σ H _ I h) λ us s1 zz=>?_) hs aG));obtain⟨vs,H1,I1,r1,i,e,⟨q1,q2⟩,q⟩:=zz;subst e;cases r1 with
 |cons r rr =>
  cases rr with
  |cons r' rr =>
   cases rr with
   |cons r2 rr =>
    cases rr;obtain⟨t,rfl⟩:=r;obtain⟨t',rfl⟩:=r';obtain⟨t2,rfl⟩:=r2;exact call_range_3 (by decide) (Xz I1 q1 q2 q) (.inl (PyProof.noPylong_small (by omega)))
abbrev Ln (lo:Int)(n:Nat):List D:=(yO n).map λ i:Nat=>D.int (lo-i)
def L3 (lo:Int)(n:Nat):(Ln lo n).length=n:=by unfold Ln;rw[zc,List.length_range]
def PB {lo:Int}{n i:Nat}{d:D}(h:(Ln lo n)[i]?=some d):d=.int (lo-i)/\i<n:=by
 unfold Ln at h;rw[z5] at h;obtain⟨j,hj,rfl⟩:=zaj.mp h;obtain⟨hl,e⟩:=zx.mp hj;rw[List.length_range] at hl;rw[List.getElem_range] at e;subst e;exact⟨rfl,hl⟩
def XB {K:za}{P:Addr->Prop}{H:Hp}(lo:Int)(n:Nat):YW K (uO lo n) P H (Ln lo n):=
 ⟨λ i P' H' _ hi=>by rw[L3] at hi;exact hi,λ i P' H' _ hi=>by rw[L3] at hi;exact hi,λ i P' H' v dl d _ _ hd y=>by
  obtain⟨rfl,rfl⟩:=y;obtain⟨rfl,_⟩:=PB hd;exact⟨Ae.refl _,.int _⟩⟩
abbrev XC:List D->M (List D)
 |[.int j,.int x,.int y]=>@ite _ (x = -1/\y = -1/\-(2^62)<=j/\j<2^62) (yQ _) (.ok (Ln j (j+1).toNat)) .bad
 |_=>.bad
def cT {n:Nat}(h:n<=1000):XC [.int ((n:Int)-1),.int (-1),.int (-1)]=.ok (Ln ((n:Int)-1) n):=by
 have e:((n:Int)-1+1).toNat=n:=by omega
 unfold XC;dsimp only;rw[if_pos ⟨rfl,rfl,by omega,by omega⟩,e]
def UH (ds:List D):XC ds=.bad\/∃j:Int,ds=[.int j,.int (-1),.int (-1)]/\-(2^62)<=j/\j<2^62/\XC ds=.ok (Ln j (j+1).toNat):=by
 unfold XC;split
 ·rename_i j x y;by_cases hj:x = -1/\y = -1/\-(2^62)<=j/\j<2^62
  ·obtain⟨rfl,rfl,h1,h2⟩:=hj;exact .inr ⟨j,rfl,h1,h2,if_pos ⟨rfl,rfl,h1,h2⟩⟩
  ·exact .inl (if_neg hj)
 ·exact .inl rfl
def XD {p:Pos}(hg:Gl X "range")(hm:X.mg "range" = none)(ha:DA X WX c [a,b,s] fs)(hs: ~~~(starEach [a,b,s] X.env=(false,eval a X.env)::starEach [b,s] X.env))(aG: ~~~((backTo pos (starEach [b,s] X.env)).any (·.1)=false)):
 DI X WX tg (.Call (.Name "range" p) [a,b,s] [] pos) (λ ρ=>(fs ρ).bind XC):=by
 obtain⟨ta,a1,a2,_⟩:=ha;refine⟨_,XA hg hm a1 hs aG,λ P0 P σ H R ρ E h=>?_⟩;dsimp only at h;refine a2 P0 P σ H _ ρ E ?_;cases q:fs ρ with
 |bad|ex x=>rw[q] at h;exact h
 |ok ds =>
  rw[q] at h;simp only[M.A9] at h;intro v H1 s1 hv;rcases UH ds with z|⟨j,rfl,h1,h2,z⟩
  ·rw[z] at h;exact h.elim
  ·rw[z] at h;cases hv with
   |cons r hv =>
    cases hv with
    |cons r' hv =>
     cases hv with
     |cons r2 hv =>
      cases hv;cases r;cases r';cases r2;exact⟨j,rfl,⟨h1,h2⟩,h _ H1 s1 (XB j _)⟩
end
abbrev pW (F:OT->List D->M (OT×OT))(t0:OT)(ds:List D):M OT:=if Qu t0=true then (match F t0 ds with | .ok z=>.ok z.2 | _=>.bad) else .bad
section
variable {X:Cx}{E:XK}{e:Expr}{es:List Expr}{fs:Ac->M (List D)}{fn:Ac->M OT}{pos:Pos}
def W8 {k n:Nat}{F:OT->List D->M (OT×OT)}{x:Str}{p:Pos}(xo:EW X E)(G:Jv X.prog X.w X.K X.mg X.base x k n F)(hr:Bu k X.A)(hg:Gl X x)(hp:DN X (CB X.K E) e fn)(ha:DA X (CB X.K E) true es fs)(hn:es.length+1=n)(aN:(x==("__debug__" : Str))=false:=by decide)(he: ~~~(starEach (e::es) X.env=(false,eval e X.env)::starEach es X.env))(aq: ~~~((backTo pos (starEach es X.env)).any (·.1)=false)):
 DN X (CB X.K E) (.Call (.Name x p) (e::es) [] pos) (λ ρ=>(fn ρ).bind λ t0=>(fs ρ).bind (pW F t0)):=by
 obtain⟨fa,fd,ps,hF,hm,hk,hb⟩:=G.ex;obtain⟨tp,p1,p2⟩:=hp;obtain⟨ta,a1,a2,a3⟩:=ha;refine⟨_,Q9 hF hr hg hm hk hb .nil xo.call (Bf p1 a1 he) aN he aq,λ P0 P σ H Q ρ Ev h=>?_⟩;dsimp only at h;refine p2 P0 P σ H _ ρ Ev ?_;cases q:fn ρ with
 |bad|ex x=>rw[q] at h;exact h
 |ok t0 =>
  rw[q] at h;simp only[M.A9] at h;intro v fp H1 s1 n1 cv o1;have E1:Al X.K P0 (PU P fp) H1 σ ρ:=Ev.more s1 Gy (Fl (Ev.same s1).BX o1) (C6 s1 n1);refine a2 P0 (PU P fp) σ H1 _ ρ E1 ?_;cases q2:fs ρ with
  |bad=>rw[q2] at h;exact h
  |ex y=>rw[q2] at h;exact λ H' s=>h H' (s1.trans s)
  |ok ds =>
   rw[q2] at h;simp only[M.A9] at h;intro vs H2 s2 ay;have E2:=E1.same s2;have o2:C8 X.K H2 (PU P fp) v t0 fp:=o1.move (λ b u eb=>by
    obtain⟨g1,g2⟩:=Ak eb;rw[As g1];exact s2 _ _ g2) λ a ha=>by
     obtain⟨o,z,_⟩:=o1.BX a ha;rw[z];exact s2 _ _ z
   show N7 X.K n F ((v::vs)++[]) H2 Q E;rw[zF];unfold pW at h;by_cases hx:Qu t0=true
   ·rw[if_pos hx] at h;have i8:∃l,v=.ref l:=by
     cases o2 with
     |sh hv=>exact absurd hx (by simp[Qu])
     |lst _ _|tup _ _|dK _ _|dT _ _|ins _ _ _=>exact⟨_,rfl⟩
    obtain⟨l,rfl⟩:=i8;refine⟨by rw[zk,ay.length,a3 ρ ds q2];exact hn,PU P fp,l,t0,fp,vs,ds,rfl,E2.BX,λ b hb=>.inr hb,cv,o2,ay,?_⟩;cases qF:F t0 ds with
    |bad|ex x=>rw[qF] at h;exact h.elim
    |ok z =>
     obtain⟨t2,r⟩:=z;rw[qF] at h;dsimp only at h;intro w H' P' fu fr k1 k2 k3 k4 k5 k6 k7 k8 k9 f7;have nf:∀ {b u},H b=some u->b∉fp:=fun {b u} eb hf=>by rw[n1 b hf] at eb;cases eb
     have tP:∀b,P b->b∉fp:=λ b hP=>by
      obtain⟨o,z,_⟩:=Ev.BX b hP;exact nf z
     refine h _ fr H' ?_ ?_ k7 ?_
     ·intro b u eb;have e2:=s2 b u (s1 b u eb);by_cases hP:P b
      ·exact (k1 b (.inl hP) (nf eb)).2.trans e2
      ·exact (Ak (k3 b u (by rw[As λ z=>z.elim hP (nf eb)];exact e2))).2
     ·intro b dr;cases eb:H b with
      |none=>rfl
      |some u =>
       exfalso;have e2:=s2 b u (s1 b u eb);have hn:=λ z=>nf eb ((f7 b dr).2 z);exact (Ak (k3 b u (by rw[As hn];exact e2))).1 (f7 b dr).1
     ·refine k6.move (λ b u eb=>?_) λ _ _=>rfl;obtain⟨g1,g2⟩:=Ak eb;rw[As]
      ·exact g2
      ·rintro (z|z)
       ·exact g1 (k1 b (.inl z) (tP b z)).1
       ·exact g1 (f7 b z).1
   ·rw[if_neg hx] at h;exact h.elim
end
abbrev UI (i n:Nat)(ds:List D)(m:M Out):M Out:=match m with
 | .ok (.next ρ)=>@ite _ (GB i n ds ρ) (yQ _) (.ok (.next ρ)) .bad
 |_=>.bad
abbrev QX (i:Nat)(gt:D->Ac->M Ac)(gb:Ac->M Out)(ρ:Ac):M Out:=match ρ[i]? with
 |some (some (.ow (.Ia n ds)))=>UI i n ds (forM (Us i n ds gt) gb ds ρ)
 |_=>.bad
section
variable {X:Cx}{WX:Str->Hp->Prop}{tg:Expr}{gt:D->Ac->M Ac}{gb:Ac->M Out}{pos:Pos}
def XE (i:Nat){x:Str}{p1:Pos}{body:List Stmt}(hp:PassesOwn (model X.prog X.w) X.A X.env X.xe)(hc:X.calm=true)(hv:PE X (.Name x p1) (Kw i))(hg:DG X tg gt)(hb:S4 X WX body gb)(hs:∀y,foldedSetIterable (.Name x p1) X.env y=pure y:=by intro _;rfl):
 DS X WX (.For tg (.Name x p1) body [] pos) (QX i gt gb):=by
 obtain⟨t,a1,a2⟩:=hg;obtain⟨tb,b1,b2⟩:=hb;refine⟨_,Yb hp hc (V7 hv) a1 b1 hs,λ P0 P σ H Z ρ E h=>?_⟩;unfold QX at h;split at h
 rotate_left
 ·exact h.elim
 rename_i n ds e1;obtain⟨p,wc⟩:∃p,p=P0.g n:=⟨_,rfl⟩;have look:∀ {P':Addr->Prop} {H':Hp} {σ':St} {ρ':Ac},Al X.K P0 P' H' σ' ρ'->GB i n ds ρ'->σ'[i]?=some (some (.ref p))/\∃xs,H' p=some (.lst xs)/\Ah X.K (del H' P') xs ds:=λ E' dh=>by
  obtain⟨v,fp,k1,⟨q,xs,rfl,rfl,k2,k5⟩,k3,k4⟩:=E'.ows i _ dh rfl;have:=E'.pin i _ n dh rfl;rw[k1] at this;cases this;rw[<-wc] at k1 k2;exact⟨k1,xs,k2,k5⟩
 obtain⟨h1,we,h2,_⟩:=look E e1;refine⟨_,h1,p,rfl,⟨we,.of h2⟩,?_⟩;refine⟨λ k m σ' H'=>m=ds.length-k/\k<=ds.length/\∃P' ρ',Tr P0 P H P' H'/\Al X.K P0 P' H' σ' ρ'/\gS X.K WX P0 P' H' Z (UI i n ds (forM (Us i n ds gt) gb (ds.drop k) ρ')),
  ⟨ds.length,by simp,zM _,P,_,Tr.refl,E,by rw[List.drop_zero];exact h⟩,?_⟩
 rintro k m σ' H' ⟨rfl,hk,P',ρ',t',E',g'⟩;by_cases af:k<ds.length
 ·rw[EV af,forM] at g';by_cases i7:GB i n ds ρ'
  rotate_left
  ·have e:Us i n ds gt ds[k] ρ'=.bad:=if_neg i7;rw[e] at g';exact g'.elim
  have e:Us i n ds gt ds[k] ρ'=gt ds[k] ρ':=if_pos i7;rw[e] at g';obtain⟨_,xs,k2,k5⟩:=look E' i7;obtain⟨x0,gz,wg⟩:=k5.get (zh af);refine .inr ⟨⟨xs,x0,.of k2,gz⟩,λ σ2 H2=>k+1<=ds.length/\∃P2 ρ2,Tr P0 P H P2 H2/\Al X.K P0 P2 H2 σ2 ρ2/\gS X.K WX P0 P2 H2 Z (UI i n ds (forM (Us i n ds gt) gb (ds.drop (k+1)) ρ2)),λ σ2 H2 hq=>⟨ds.length-(k+1),by omega,rfl,hq.1,hq.2⟩,λ v H2 y=>?_⟩;obtain⟨rfl,y⟩:=y;have ev:=y xs (.of k2);rw[gz] at ev;cases ev;refine a2 P0 P' σ' H2 _ ρ' x0 ds[k] E' wg ?_;cases q1:gt ds[k] ρ' with
  |bad=>rw[q1] at g';exact g'
  |ex x=>rw[q1] at g';exact g'.elim
  |ok ρ1 =>
   rw[q1] at g';dsimp only at g';intro σ3 E3;refine b2 P0 P' σ3 H2 _ ρ1 E3 ?_;cases q2:gb ρ1 with
   |bad=>rw[q2] at g';exact g'
   |ex x=>rw[q2] at g';exact g'.elim
   |ok o =>
    rw[q2] at g';cases o with
    |ret d|Cv d|E5 d ρ2=>exact g'.elim
    |brk ρ2 =>
     intro σ4 H4 P4 t4 E4;dsimp only [UI] at g';by_cases hz:GB i n ds ρ2
     ·rw[if_pos hz] at g';exact g' σ4 H4 P4 t4 E4
     ·rw[if_neg hz] at g';exact g'.elim
    |next ρ2|cont ρ2=>exact λ σ4 H4 P4 t4 E4=>⟨af,P4,ρ2,t'.trans t4,E4,gS.tr g' t4⟩
 ·have e:k=ds.length:=by omega
  subst e;rw[zam,forM] at g';dsimp only [UI] at g';by_cases hz:GB i n ds ρ'
  ·rw[if_pos hz] at g';obtain⟨_,xs,k2,k5⟩:=look E' hz;exact .inl ⟨⟨xs,.of k2,by rw[k5.length];exact zv _⟩,g' σ' H' P' Tr.refl E'⟩
  ·rw[if_neg hz] at g';exact g'.elim
def XF {i n:Nat}{ds:List D}{ρ:Ac}{nx:Ac->Prop}{rt:Out->Prop}{ex:Str->Prop}(h:GB i n ds ρ)(I:Nat->Ac->Prop)(h0:I 0 ρ)(hI:∀k ρ,I k ρ->GB i n ds ρ)
 (step:∀k d ρ,ds[k]?=some d->I k ρ->∃ρ1,gt d ρ=.ok ρ1/\WP (gb ρ1) (I (k+1)) (λ o=>match o with | .cont ρ=>I (k+1) ρ|_=>False) λ _=>False)
 (done:∀ρ,I ds.length ρ->nx ρ):WP (QX i gt gb ρ) nx rt ex:=by
 unfold QX;have h':ρ[i]?=some (some (.ow (.Ia n ds))):=h;simp only[h'];have key:∀(r k:Nat) (ρ:Ac),k+r=ds.length->I k ρ->WP (UI i n ds (forM (Us i n ds gt) gb (ds.drop k) ρ)) nx rt ex:=by
  intro r;induction r with
  |zero =>
   intro k ρ hk hi;have e:k=ds.length:=by omega
   subst e;rw[zam,forM];have e2:UI i n ds (.ok (.next ρ))=.ok (.next ρ):=if_pos (hI _ _ hi);rw[e2];exact done ρ hi
  |succ r ih =>
   intro k ρ hk hi;have af:k<ds.length:=by omega
   obtain⟨ρ1,h1,h2⟩:=step k ds[k] ρ (zh af) hi;have e2:Us i n ds gt ds[k] ρ=.ok ρ1:=(if_pos (hI _ _ hi)).trans h1;rw[EV af,forM,e2];dsimp only;cases q:gb ρ1 with
   |bad|ex x=>rw[q] at h2;exact h2.elim
   |ok oo =>
    rw[q] at h2;cases oo with
    |next ρ2|cont ρ2=>exact ih (k+1) ρ2 (by omega) h2
    |ret d|Cv c|E5 _ _|brk _=>exact h2.elim
 have:=key ds.length 0 _ (by omega) h0;rw[List.drop_zero] at this;exact this
end
def W9 {α β:Type}{e:α->Bool}{g:β->Bool}:∀ {us:List α}{ds:List β},(∀(j:Nat) (w:α) (d:β),us[j]?=some w->ds[j]?=some d->e w=g d)->us.length=ds.length->us.any e=ds.any g
 |[],[],_,_=>rfl
 |w::us,d::ds,h,hl=>by
  rw[yV,yV,h 0 w d rfl rfl,W9 (λ j w d a b=>h (j+1) w d (by simpa using a) (by simpa using b)) (by simpa using hl)]
 |[],_::_,_,hl|_::_,[],_,hl=>by cases hl
section
variable {X:Cx}{WX:Str->Hp->Prop}{c:Bool}{a b:Expr}{f g:Ac->M D}{pos:Pos}
def jP (hu:X.A.units+8<cLine):Gb X (compareOp .NotIn) (λ x y H Q=>∃(l:Addr) (xs:List V) (ds:List D) (dx:D),y=.ref l/\D2 X.K H l xs/\Ah X.K H xs ds/\BV X.K H x dx/\(Gn ds=true/\KG ds<=4/\C9 dx=true)/\Q (.bl (!ds.any λ d=>Ba d dx)) H):=by
 classical
 intro pins s σ H x y v u Q I rx ry h;obtain⟨l,xs,ds,dx,rfl,hq,hs,hx,⟨hn,hd,wj⟩,q⟩:=h;cases ry;obtain⟨aa,r,pl,hz⟩:=I.list hq;let e:Value->Bool:=λ w=>decide (∃(j:Nat) (d:D),aa[j]?=some w/\ds[j]?=some d/\Ba d dx=true);have at':∀(j:Nat) (w:Value) (d:D),aa[j]?=some w->ds[j]?=some d->e w=Ba d dx:=λ j w d hw pe=>by
  cases q2:Ba d dx with
  |true=>exact decide_eq_true ⟨j,d,hw,pe,q2⟩
  |false =>
   refine decide_eq_false λ z=>?_;obtain⟨j',d',wk,ba,q'⟩:=z;obtain⟨v1,e1,g1⟩:=hs.get pe;obtain⟨v2,e2,g2⟩:=hs.get ba;obtain⟨u1,f1,r1⟩:=r.get e1;obtain⟨u2,f2,r2⟩:=r.get e2;rw[hw] at f1;cases f1;rw[wk] at f2;cases f2;have:=r1.inj r2;subst this;have:=Vm I (Hq (zr pe) hn) (Hq (zr ba) hn) g1 g2;rw[this,q'] at q2;cases q2
 refine SeqAt.notIn_listAt e pl.isList (λ w hw=>?_) ⟨.bl _,H,I,rfl,?_⟩
 ·have hw:w∈aa:=by simpa using hw
  obtain⟨j,hj,ej⟩:=List.getElem_of_mem hw;have pf:j<ds.length:=by rw[<-hs.length,r.length];exact hj
  obtain⟨v1,e1,g1⟩:=hs.get (zh pf);obtain⟨u1,f1,r1⟩:=r.get e1;have ew:aa[j]?=some w:=by rw[zh hj,ej]
  rw[ew] at f1;cases f1;rw[at' j w _ ew (zh pf)];have hm:=zal pf;exact (YF I 4 X.A.in1 ds[j] dx _ _ _ _ (zZ (Qj hm) hd) (Hq hm hn) wj (by show X.A.units+1+4<cLine;omega) g1 hx r1 rx).1
 ·have ea:aa.toArray.any e=ds.any λ d=>Ba d dx:=by
   rw[List.any_toArray];exact W9 at' (by rw[<-hs.length,r.length])
  rw[ea];exact q
abbrev SR (x y:D):M D:=match y with
 | .lst ds=>if Gn ds=true/\KG ds<=4/\C9 x=true then .ok (.bl (!ds.any λ d=>Ba d x)) else .bad
 |_=>.bad
def cU:Uc X.K WX (λ x y H Q=>∃(l:Addr) (xs:List V) (ds:List D) (dx:D),y=.ref l/\D2 X.K H l xs/\Ah X.K H xs ds/\BV X.K H x dx/\(Gn ds=true/\KG ds<=4/\C9 dx=true)/\Q (.bl (!ds.any λ d=>Ba d dx)) H) SR:=by
 intro P H x y v w Q ht hx hy h;have un:Ae (del H P) H:=λ b o e=>(Ak e).2;unfold SR at h;split at h
 ·rename_i ds;by_cases hi:Gn ds=true/\KG ds<=4/\C9 x=true
  ·rw[if_pos hi] at h;cases hy with
   |lst hs hh=>exact⟨_,_,ds,x,rfl,hs.B5,hh.mono un,hx.mono un,hi,h _ H (Ae.refl H) (.bl _)⟩
  ·rw[if_neg hi] at h;exact h.elim
 ·exact h.elim
def jQ {n:Nat}(hu:X.A.units+n<cLine)(ha:DE X WX c a f)(hb:DE X WX c b g)(hm: ~~~(behindInMarks .NotIn b=false))(hn:8<=n:=by decide):DT X WX (.Compare a [.NotIn] [b] pos) (λ ρ=>((f ρ).bind λ x=>(g ρ).bind λ y=>SR x y).bind Og):=Ez (jP (by omega)) cU ha hb hm
end
abbrev jR (k:Int×List Co):OT:=.tup [.sh (.int k.1),.lst ((k.2.map cst).map .sh)]
abbrev dX (k:Int×List Co):D:=.tup [.int k.1,.lst (k.2.map cst)]
abbrev pX (K:List (Int×List Co)):OT:=.lst (K.map jR)
abbrev XG (K:List (Int×List Co)):Cl:=toCl none (pX K)
def pF (k:Int×List Co):er (jR k)=dX k:=by
 have e:=Fq (ds:=k.2.map cst);unfold jR dX;rw[er,OX,OX,OX,e,Pg]
def cV:∀K:List (Int×List Co),OX (K.map jR)=K.map dX
 |[]=>by simp[OX]
 |k::r=>by rw[zf,OX,cV r,pF,zf]
def pG (K:List (Int×List Co)):er (pX K)=.lst (K.map dX):=by unfold pX;rw[er,cV]
def L4 (K:List (Int×List Co)):treeOf (XG K)=some (none,pX K):=Sf _ _
def QY (K:List (Int×List Co)):Jm (XG K)=.val (.lst (K.map dX)):=by rw[X0 (L4 K),pG]
section
variable {K:List (Int×List Co)}{ρ:Ac}{k:Int×List Co}
def cW:TJ 0 (some (XG K)::ρ) []=some (pX K):=by
 unfold TJ;simp only[yU,L4,Sb]
def jS:Oh 0 (some (XG K)::ρ)=.ok []:=by unfold Oh;rw[cW]
def cX:CY 0 (some (XG K)::ρ) []=.ok (K.map jR):=by unfold CY;rw[cW];rfl
def jT:Fn 0 (some (XG K)::ρ) [] (.lst (K.map jR++[jR k]))=.ok (.next (some (XG (K++[k]))::ρ)):=by
 unfold Fn;simp only[yU,L4,E8,zo];unfold XG pX;rw[z6];rfl
end
def pH {α:Type}{l:List α}{f g:α->Bool}(h:∀x∈l,f x=g x):l.any f=l.any g:=by
 induction l with
 |nil=>rfl
 |cons a r ih=>rw[yV,yV,h a zd,ih λ x hx=>h x (ze _ hx)]
abbrev B7 (c:Int->Int->Co)(p h:Int):D:=.tup [.int h,cst (c p h)]
def Ka (c:Int->Int->Co)(p:Int)(D:List Int):(C1 c p D).length<=D.length:=by
 unfold C1;refine zZ (List.length_filterMap_le _ _) ?_;rw[List.length_range];exact zv _
def IU {c:Int->Int->Co}{p h:Int}{D:List Int}(hn:c p h≠none):Ig c p D h = !(D.any λ x=>decide (Aj (c p x) (c x h)=c p h)):=by unfold Ig;rw[decide_eq_true hn,Bool.true_and]
def Nx {c:Int->Int->Co}{p h:Int}{D:List Int}(hn:c p h=none):Ig c p D h=false:=by unfold Ig;rw[decide_eq_false (λ z=>z hn),Bool.false_and]
def Wa {m:Nat}{rs:List Road}{c:Int->Int->Co}(h:∀x y:Int,0<=x->x<m->0<=y->y<m->BI rs x y (c x y)):kX m c:=λ x y z hx hy hz=>by
 cases e1:c x y with
 |none=>cases c x z<;>exact trivial
 |some p =>
  cases e2:c y z with
  |none=>cases c x z<;>exact trivial
  |some q =>
   have w1:=(h x y hx.1 hx.2 hy.1 hy.2).2 p e1;have w2:=(h y z hy.1 hy.2 hz.1 hz.2).2 q e2;exact (h x z hx.1 hx.2 hz.1 hz.2).1 _ (w1.trans w2)
def pI (C:Int->Int->Co)(p h:Int):Pl 2 (B7 C p h):=Z1 (M2 (Gw _) (M2 (Nm (n:=0) _) Z3))
def Wb (C:Int->Int->Co)(p:Int)(W:List Int):Pl 3 (.lst (W.map (B7 C p))):=Z2 λ d hd=>by
 obtain⟨h,_,rfl⟩:=zA.mp hd;exact pI C p h
def jU {C:Int->Int->Co}{p:Int}{W:List Int}(hp:p∈W)(h0:C p p=some (0,0)):SR (.tup [.int p,.tup [.int 0,.int 0]]) (.lst (W.map (B7 C p)))=.ok (.bl false):=by
 obtain⟨h1,h2⟩:=Wb C p W;rw[OW] at h1;rw[C9] at h2;have ea:((W.map (B7 C p)).any λ d=>Ba d (.tup [.int p,.tup [.int 0,.int 0]]))=true:=za3.mpr ⟨B7 C p p,List.mem_map_of_mem hp,by
  have e:B7 C p p=.tup [.int p,.tup [.int 0,.int 0]]:=by unfold B7;rw[h0];rfl
  rw[e];exact MO _⟩
 unfold SR;dsimp only;rw[if_pos ⟨h2,by omega,rfl⟩,ea];rfl
def cY (D:List Int)(f:Int->Bool):decide (((D.reverse.filter f).length:Int)=0) = !(D.any f):=by
 have e:D.any f=D.reverse.any f:=by rw[List.any_reverse]
 rw[e];cases h:D.reverse.any f with
 |true =>
  obtain⟨x,hx,hf⟩:=za3.mp h;exact decide_eq_false λ z=>by
   have:=List.length_pos_of_mem (yH.mpr ⟨hx,hf⟩);omega
 |false =>
  have:D.reverse.filter f=[]:=List.filter_eq_nil_iff.mpr λ x hx hf=>by
   rw[zaw] at h;exact h (za3.mpr ⟨x,hx,hf⟩)
  rw[this];rfl
abbrev Zg (b:Bool)(c:Int->Int->Co):Int->Int->Co:=if b=true then c else λ x y=>c y x
def PD {c:Int->Int->Co}{p:Int}{D:List Int}:∀x∈C1 c p D,∃q,c p x=some q:=by
 intro x hx;obtain⟨i,hi,e⟩:=List.mem_filterMap.mp hx;split at e
 ·rename_i h;cases e;unfold Ig at h;rw[zG] at h;exact Option.ne_none_iff_exists'.mp (of_decide_eq_true h.1)
 ·cases e
def PF {c:Int->Int->Co}{p:Int}{D:List Int}(hD:p∈D)(hn:D.Nodup)(h0:c p p=some (0,0))(h1:∀x∈D,x≠p->Aj (c p x) (c x p)≠some (0,0)):p∈C1 c p D:=by
 obtain⟨i,hi,e⟩:=List.getElem_of_mem hD;have eg:D.getD i 0=p:=by rw[zu,zh hi,e];rfl
 refine List.mem_filterMap.mpr ⟨i,zao.mpr hi,?_⟩;rw[eg,if_pos];rw[IU (by rw[h0];exact λ z=>by cases z),Bool.not_eq_true',zaw];intro w;obtain⟨x,hx,w⟩:=za3.mp w;have w:=of_decide_eq_true w;rw[h0] at w;refine h1 x (zS hx) (λ z=>?_) w;obtain⟨j,hj,ej⟩:=List.getElem_of_mem hx;rw[zT] at hj;rw[List.getElem_take] at ej;exact List.pairwise_iff_getElem.mp hn j i (by omega) hi (by omega) (by rw[ej,z,e])
def Wk.tO {m:Nat}{rs:List Road}(Au:∀r∈rs,G7 m r){u w:Int}{c:Int×Int}(h:Wk rs u w c)(ae:u≠w):1<=c.2:=by
 cases h with
 |nil u=>exact absurd rfl ae
 |cons hr hl k=>have:=(k.nn Au).2;show (1:Int)<=1+_;omega
def min_self {m:Nat}{rs:List Road}(Au:∀r∈rs,G7 m r)(u:Int):BI rs u u (some (0,0)):=
 ⟨λ c h=>by have:=h.nn Au;show (0:Int)<c.1\/_;simp only;omega,λ p e=>by cases e;exact .nil u⟩
def cZ {m:Nat}{rs:List Road}{c:Int->Int->Co}{L:List Int}{p:Nat}(Au:∀r∈rs,G7 m r)(hA:∀x y:Int,0<=x->x<m->0<=y->y<m->BI rs x y (c x y))(hL:L.Perm (AR m))(hp:p<m):
 (p:Int)∈C1 c p L.reverse/\c p p=some (0,0)/\(p:Int)∈C1 (λ x y=>c y x) p L.reverse:=by
 have h0:c p p=some (0,0):=(hA p p (by omega) (by omega) (by omega) (by omega)).Ci (min_self Au p);have hm:(p:Int)∈L.reverse:=za2.mpr ((AM hL).mpr ⟨by omega,by omega⟩);have hn:L.reverse.Nodup:=(List.reverse_perm L).nodup_iff.mpr (Fu hL);have tO:∀x∈L.reverse,x≠(p:Int)->Aj (c p x) (c x p)≠some (0,0):=λ x hx ae z=>by
  have bA:=(AM hL).mp (za2.mp hx);obtain⟨a,b,e1,e2,e3⟩:=DQ z;have w1:=((hA p x (by omega) (by omega) bA.1 bA.2).2 a e1).tO Au (zY ae);have w2:=((hA x p bA.1 bA.2 (by omega) (by omega)).2 b e2).tO Au ae;have:=congrArg yT e3;simp only at this;omega
 exact⟨PF hm hn h0 tO,h0,PF hm hn h0 λ x hx ae z=>tO x hx ae (by rw[Bb];exact z)⟩
def Wc {F:OT->List D->M (OT×OT)}{ts:List OT}{ds:List D}{t r:OT}(h:F (.lst ts) ds=.ok (t,r)):pW F (.lst ts) ds=.ok r:=by
 unfold pW;rw[if_pos (show Qu (.lst ts)=true from rfl),h]
end L2
set_option maxHeartbeats 4000000
namespace ci
open PySem L2
abbrev top (i:Nat):Stmt:=PySem.Challenge.pw_nodeladder_k61_labels_by_meaning.main.body.getD i (.Pass ⟨0,0,0,0⟩)
noncomputable abbrev F8:Stmt:=top 7
def Kb:Ad ["thing","bound"] ["thing","bound"] (A5 F8):=nofun
noncomputable abbrev Kc:Stmt:=top 8
def Oo:Ad ["thing"] ["thing"] (A5 Kc):=nofun
noncomputable abbrev PH:Stmt:=top 9
def UJ:Ad ["thing","many"] ["thing","many"] (A5 PH):=nofun
noncomputable abbrev SS:Stmt:=top 10
def L5:Ad ["thing","many","roads"] ["thing"] (A5 SS):=nofun
noncomputable abbrev PJ:Stmt:=top 11
def UK:Ad ["thing"] ["thing"] (A5 PJ):=nofun
noncomputable abbrev Wd:Stmt:=top 12
def dA:Ad ["one","other"] ["one","other"] (A5 Wd):=nofun
noncomputable abbrev We:Stmt:=top 13
def dB:Ad ["some"] ["some"] (A5 We):=nofun
noncomputable abbrev Lp:Stmt:=top 14
def QZ:Ad ["road"] ["road"] (A5 Lp):=nofun
noncomputable abbrev Kd:Stmt:=top 16
def Oq:Ad ["ladder"] ["ladder"] (A5 Kd):=nofun
noncomputable abbrev Dy:Stmt:=top 17
def GQ:Ad ["ladder"] ["ladder"] (A5 Dy):=nofun
noncomputable abbrev PL:Stmt:=top 18
def Dc:Ad ["order","costs","place","reached","rank","lower","higher","cost"] ["order","costs","place"] (A5 PL):=nofun
noncomputable abbrev Wf:Stmt:=top 20
def F9:Ad ["order","costs","place","reached","told","higher","lower","over"] ["order","costs","place"] (A5 Wf):=nofun
noncomputable abbrev Lq:Stmt:=top 21
def R3:Ad ["ladder","start"] ["ladder","start"] (A5 Lq):=nofun
noncomputable abbrev Ny:Stmt:=top 22
def SU:Ad ["ladder","goal"] ["ladder","goal"] (A5 Ny):=nofun
noncomputable abbrev Lr:Stmt:=top 24
def R4:Ad ["costs","known","hub"] ["costs","known","hub"] (A5 Lr):=nofun
noncomputable abbrev Nz:Stmt:=top 25
def Dm:Ad ["ladder","place","costs_of","costs","label","known","hub"] ["ladder","place","costs_of"] (A5 Nz):=nofun
noncomputable abbrev Ls:Stmt:=top 26
def R5:Ad ["ladder","place"] ["ladder","place"] (A5 Ls):=nofun
noncomputable abbrev Ke:Stmt:=top 27
def Ot:Ad ["ladder","place"] ["ladder","place"] (A5 Ke):=nofun
noncomputable abbrev Ih:Stmt:=top 29
def NA:Ad ["laid","pair"] ["laid","pair"] (A5 Ih):=nofun
noncomputable abbrev kZ:Stmt:=top 30
def pJ:Ad ["laid","pair","cost","middle"] ["laid","pair","cost","middle"] (A5 kZ):=nofun
noncomputable abbrev NC:Stmt:=top 31
def ED:Ad ["laid","place","higher","u","w","cost"] ["laid","place","higher"] (A5 NC):=nofun
noncomputable abbrev Lu:Stmt:=top 32
def CT:Ad ["net","order","laid","road","rank","place"] ["net","order"] (A5 Lu):=nofun
noncomputable abbrev ND:Stmt:=top 34
def SV:Ad ["net","thing"] ["net","thing"] (A5 ND):=nofun
noncomputable abbrev FZ:Stmt:=top 35
def L6:Ad ["net","thing"] ["net","thing"] (A5 FZ):=nofun
noncomputable abbrev Kf:Stmt:=top 36
def EL:Ad ["net","bows","road"] ["net"] (A5 Kf):=nofun
noncomputable abbrev GR:Stmt:=top 37
def C2:Ad ["bows","left","place","ahead","behind","missing","u"] ["bows","left","place"] (A5 GR):=nofun
noncomputable abbrev NE:Stmt:=top 38
def SW:Ad ["bows","left"] ["bows","left"] (A5 NE):=nofun
noncomputable abbrev SX:Stmt:=top 39
def DU:Ad ["net","bows","left","order","place","bow"] ["net"] (A5 SX):=nofun
noncomputable abbrev Kg:Stmt:=top 41
def BD:Ad ["net","start","costs","changed","road","cost"] ["net","start"] (A5 Kg):=nofun
noncomputable abbrev EE:Stmt:=top 43
def IV:Ad ["net","order"] ["net","order"] (A5 EE):=nofun
noncomputable abbrev Lw:Stmt:=top 44
def DJ:Ad ["net","laid","kept","u","costs"] ["net","laid"] (A5 Lw):=nofun
noncomputable abbrev Az:Stmt:=inClass (top 45) 0
def IW:Ad ["self","net","order"] ["self","net","order"] (A5 Az):=nofun
noncomputable abbrev GS:Stmt:=inClass (top 45) 2
def LV:Ad ["self"] ["self"] (A5 GS):=nofun
noncomputable abbrev Dn:Stmt:=inClass (top 45) 4
def D1:Ad ["self","u","w","many"] ["self","u","w"] (A5 Dn):=nofun
noncomputable abbrev Ii:Stmt:=inClass (top 45) 5
def NF:Ad ["self","u","w"] ["self","u","w"] (A5 Ii):=nofun
noncomputable abbrev Ij:Stmt:=inClass (top 45) 8
def NG:Ad ["self"] ["self"] (A5 Ij):=nofun
noncomputable abbrev Ik:Stmt:=top 47
def NH:Ad ["_law_script","_law_k"] ["_law_script","_law_k"] (A5 Ik):=nofun
noncomputable abbrev PM:Stmt:=top 48
def NI:Ad ["_law_cell","_law_k","_law_number"] ["_law_cell","_law_k"] (A5 PM):=nofun
noncomputable abbrev Lx:Stmt:=top 49
def R6:Ad ["_law_cell","_law_k"] ["_law_cell","_law_k"] (A5 Lx):=nofun
noncomputable abbrev Ly:Stmt:=top 50
def R7:Ad ["_law_found"] ["_law_found"] (A5 Ly):=nofun
noncomputable abbrev Il:Stmt:=top 51
def NJ:Ad ["_law_found"] ["_law_found"] (A5 Il):=nofun
noncomputable abbrev Lz:Stmt:=top 52
def Bh:Ad ["_law_cells","_law_many","_law_roads_here","_law_k","_law_mixed","_law_great_here","_law_one","_law_other","_law_small","_law_length"] ["_law_cells","_law_many"] (A5 Lz):=nofun
noncomputable abbrev LB:Stmt:=top 53
def Fv:Ad ["_law_cell","_law_many","_law_order_here","_law_place"] ["_law_cell","_law_many"] (A5 LB):=nofun
noncomputable abbrev LC:Stmt:=top 54
def R8:Ad ["_law_one","_law_other"] ["_law_one","_law_other"] (A5 LC):=nofun
noncomputable abbrev LD:Stmt:=top 55
def R9:Ad ["_law_some"] ["_law_some"] (A5 LD):=nofun
noncomputable abbrev NK:Stmt:=top 56
def SY:Ad ["_law_road"] ["_law_road"] (A5 NK):=nofun
noncomputable abbrev LF:Stmt:=top 57
def By:Ad ["_law_roads_here","_law_many","_law_costs_here","_law_u","_law_v","_law_row","_law_road","_law_w"] ["_law_roads_here","_law_many"] (A5 LF):=nofun
noncomputable abbrev NL:Stmt:=top 58
def BR:Ad ["_law_costs_here","_law_order_here","_law_place","_law_out","_law_due","_law_k","_law_one","_law_other","_law_lies"] ["_law_costs_here","_law_order_here","_law_place","_law_out"] (A5 NL):=nofun
noncomputable abbrev LG:Stmt:=top 59
def Kh:Ad ["_law_found","_law_due","_law_place","_law_row"] ["_law_found","_law_due","_law_place"] (A5 LG):=nofun
noncomputable abbrev PN:Stmt:=top 60
def Dt:Ad ["_law_script","_law_first","_law_many","_law_roads_here","_law_order_here","_law_ladder","_law_costs_here","_law_k","_law_place"] ["_law_script"] (A5 PN):=nofun
structure Txt (K:za)(mg:Str->Option Value):Prop where
 L7:AG K mg "is_whole_below" F8 ["thing","bound"]
 Ra:AG K mg "is_measure" Kc ["thing"]
 XH:AG K mg "is_road" PH ["thing","many"]
 dC:AG K mg "is_map" SS ["thing"]
 XI:AG K mg "checked" PJ ["thing"]
 jV:AG K mg "added" Wd ["one","other"]
 jW:AG K mg "least" We ["some"]
 T4:AG K mg "road_cost" Lp ["road"]
 Rb:AG K mg "kept_costs" Kd ["ladder"]
 HZ:AG K mg "kept_costs_turned" Dy ["ladder"]
 XJ:AG K mg "climbed" PL ["order","costs","place"]
 jX:AG K mg "swept" Wf ["order","costs","place"]
 T5:AG K mg "costs_out" Lq ["ladder","start"]
 UL:AG K mg "costs_in" Ny ["ladder","goal"]
 T6:AG K mg "lies_over" Lr ["costs","known","hub"]
 UM:AG K mg "label_by" Nz ["ladder","place","costs_of"]
 T7:AG K mg "label_out" Ls ["ladder","place"]
 Rc:AG K mg "label_into" Ke ["ladder","place"]
 Ou:AG K mg "cost_so_far" Ih ["laid","pair"]
 tQ:AG K mg "lay" kZ ["laid","pair","cost","middle"]
 UN:AG K mg "lay_over" NC ["laid","place","higher"]
 T8:AG K mg "laid_arcs" Lu ["net","order"]
 UO:AG K mg "is_order" ND ["net","thing"]
 LW:AG K mg "checked_order" FZ ["net","thing"]
 Rf:AG K mg "first_bows" Kf ["net"]
 NM:AG K mg "missing_bows" GR ["bows","left","place"]
 UP:AG K mg "lightest" NE ["bows","left"]
 dD:AG K mg "ranked" SX ["net"]
 Rg:AG K mg "costs_from" Kg ["net","start"]
 Ki:AG K mg "order_or_ranked" EE ["net","order"]
 T9:AG K mg "kept_arcs" Lw ["net","laid"]
 Kj:Uw K mg "Ladder" "Ladder.__init__" Az ["self","net","order"]
 NO:Ph K "Ladder" "order" "Ladder.order" GS ["self"]
 GU:Ph K "Ladder" "checked_arc" "Ladder.checked_arc" Dn ["self","u","w"]
 Ov:Ph K "Ladder" "cost" "Ladder.cost" Ii ["self","u","w"]
 Ox:Ph K "Ladder" "kept" "Ladder.kept" Ij ["self"]
 Oy:AG K mg "_law_cell_at" Ik ["_law_script","_law_k"]
 XM:AG K mg "_law_mix" PM ["_law_cell","_law_k"]
 Ta:AG K mg "_law_great" Lx ["_law_cell","_law_k"]
 Tb:AG K mg "_law_whole" Ly ["_law_found"]
 Oz:AG K mg "_law_is_cost" Il ["_law_found"]
 Tc:AG K mg "_law_roads" Lz ["_law_cells","_law_many"]
 Td:AG K mg "_law_order" LB ["_law_cell","_law_many"]
 Te:AG K mg "_law_added" LC ["_law_one","_law_other"]
 Tf:AG K mg "_law_least" LD ["_law_some"]
 UQ:AG K mg "_law_open" NK ["_law_road"]
 Tg:AG K mg "_law_costs" LF ["_law_roads_here","_law_many"]
 UR:AG K mg "_law_hubs" NL ["_law_costs_here","_law_order_here","_law_place","_law_out"]
 Th:AG K mg "_law_right" LG ["_law_found","_law_due","_law_place"]
 xQ:AG K mg "law" PN ["_law_script"]
 lA:mg "all" = none
 tR:mg "any" = none
 dE:mg "bool" = none
 dG:mg "dict" = none
 LH:mg "enumerate" = none
 dH:mg "int" = none
 B0:mg "isinstance" = none
 Fb:mg "len" = none
 Ee:mg "list" = none
 dI:mg "min" = none
 Cw:mg "range" = none
 NP:mg "reversed" = none
 dJ:mg "sorted" = none
 Kk:mg "tuple" = none
 IX:Xx K mg "costs_in"
 GV:Xx K mg "costs_out"
 Ef:Ic K "Ladder" "kept_ones"
 Dh:Ic K "Ladder" "laid"
 BN:Ic K "Ladder" "own_map"
 CF:Ic K "Ladder" "own_order"
local macro_rules|`(tactic|simp_arith[$xs,*])=>do `(tactic|simp only[$[$(("uF uG Mm List.set_cons_zero List.set_cons_succ M.A9 Hx Hw Jn JI JJ JK Mb IR Fq Pg Jz JA HA VB M8 M9 JB hV HB HC Fp Qy D7 Qz JC JD HD VE Jy E8 toCl_list toCl_listP toCl_dct Mc JL JM JN JO Md JP JQ JR kI sQ JE VF JF VG JG JH Ma VH uH uI iA iB iC iD iE iF toCl_nil Jh Jt Og QA HE Me Mf JS JT Mg Mh Mi Mj Ml JU JV JW JX HF HG HH HI HJ JY HK HL VI VJ VL VM VN HM ite_tt ite_ff Bool.not_true Bool.not_false List.getElem?_cons_zero List.getElem?_cons_succ F6 GN K5 hZ iZ hX jC jD jE Mr QO QP QQ DR HV Mt QE jN W7 QW".splitOn " ").toArray.map λ x=>Lean.mkIdent x.toName):term],*,$xs,*])
variable {P:Program}{w:World}{K:za}{mg:Str->Option Value}{base:Heap}
def CU:∃F:List D->M OT,(∀ {P w K mg base},Txt K mg->BG P w K mg base "is_whole_below" 1 2 F)/\(∀i n:Int,0<=i->i<n->F [.int i,.int n]=.ok (.sh (.bl true))):=by
 refine⟨_,λ T=>Ay (k:=0) T.L7 Kb _ (λ f B4 A outer s H E hr=>(A6 (Am (AV (MS (DZ (S3 _) rfl T.B0 rfl T.dH (by decide +kernel) (A1 0 (pv 0))) (MS (YO (DZ (P6 _) rfl T.B0 rfl T.dE (by decide +kernel) (A1 0 (pv 0)))) (MR (WG rA jZ A7 (A1 0 (pv 0)) (A1 1 (pv 1)))))))))),?_⟩;intro i n h0 h1;have e0:AE ["thing","bound"] [.int i,.int n]=[some (.val (.int i)),some (.val (.int n))]:=rfl;rw[e0];refine Bd ?_;have a:=decide_eq_true h0;have b:=decide_eq_true h1;simp_arith[F6,a,b,DB];rfl
abbrev G0:List D->M OT:=zg CU
def B1:Txt K mg->BG P w K mg base "is_whole_below" 1 2 G0:=(zb CU).1
def B2:∀i n:Int,0<=i->i<n->G0 [.int i,.int n]=.ok (.sh (.bl true)):=(zb CU).2
def EM:∃F:List D->M OT,(∀ {P w K mg base},Txt K mg->BG P w K mg base "is_measure" 2 1 F)/\(∀i:Int,0<=i->i<O9->F [.int i]=.ok (.sh (.bl true))):=by
 refine⟨_,λ T=>Ay (k:=1) T.Ra Oo _ (λ f B4 A outer s H E hr=>(A6 (Am (Aa A8.toXCall (B1 T) (hr.mono (by decide)) rfl (A2 (A1 0 (pv 0)) (A2 (YL A7 A7) A4)) rfl)))),?_⟩;intro i h0 h1;have e0:AE ["thing"] [.int i]=[some (.val (.int i))]:=rfl;rw[e0];have h:=B2 i O9 h0 h1;refine Bd ?_;simp_arith[kQ,h];rfl
abbrev LI:List D->M OT:=zg EM
def Im:Txt K mg->BG P w K mg base "is_measure" 2 1 LI:=(zb EM).1
def Io:∀i:Int,0<=i->i<O9->LI [.int i]=.ok (.sh (.bl true)):=(zb EM).2
def IY:∃F:List D->M OT,(∀ {P w K mg base},Txt K mg->BG P w K mg base "is_road" 3 2 F)/\(∀(m:Nat) (r:Road),IT m r->F [BH r,.int m]=.ok (.sh (.bl true))):=by
 refine⟨_,λ T=>Ay (k:=2) T.XH UJ _ (λ f B4 A outer s H E hr=>(A3 (B3 (DW.dt (Dw (Bj (Bc (c:=true) (DZ (Fh _) rfl T.B0 rfl T.Kk (by decide +kernel) (A1 0 (pv 0))))) (D5 (Lg (c:=true) (AQ hr 16 (by decide)) (D6 rfl T.Fb (A1 0 (pv 0))) A7)))) (A6 (Am (AV BP))) Ar) (A3 (B3 (DW.dt (Dw (Bj (Bc (c:=true) (Ag (Aa A8.toXCall (B1 T) (hr.mono (by decide)) rfl (A2 (Ab (AQ hr 16 (by decide)) (A1 0 (pv 0)) A7) (A2 (A1 1 (pv 1)) A4)) rfl)))) (D5 (Bj (Bc (c:=true) (Ag (Aa A8.toXCall (B1 T) (hr.mono (by decide)) rfl (A2 (Ab (AQ hr 16 (by decide)) (A1 0 (pv 0)) A7) (A2 (A1 1 (pv 1)) A4)) rfl))))))) (A6 (Am (AV BP))) Ar) (A3 (B3 (Lf (c:=true) (AQ hr 16 (by decide)) (Ab (AQ hr 16 (by decide)) (A1 0 (pv 0)) A7) (Ab (AQ hr 16 (by decide)) (A1 0 (pv 0)) A7)) (A6 (Am (AV BP))) Ar) (A6 (Am (AV (MS (sG (nE (Ab (AQ hr 16 (by decide)) (A1 0 (pv 0)) A7)) (MR (Ag (Aa A8.toXCall (Im T) (hr.mono (by decide)) rfl (A2 (Ab (AQ hr 16 (by decide)) (A1 0 (pv 0)) A7) A4) rfl)))) (MR (Ag (Aa A8.toXCall (Im T) (hr.mono (by decide)) rfl (A2 (Ab (AQ hr 16 (by decide)) (A1 0 (pv 0)) A7) A4) rfl))))))))))),?_⟩;intro m r ok;have e0:AE ["thing","many"] [BH r,.int m]=[some (.val (BH r)),some (.val (.int m))]:=rfl;rw[e0];refine Bd ?_;have i0:AX (BH r) (.int 0)=.ok (.int r.a):=rfl;have i1:AX (BH r) (.int 1)=.ok (.int r.b):=rfl;have i2:AX (BH r) (.int 2)=.ok (GH r.l):=rfl;have i3:AX (BH r) (.int 3)=.ok (.int r.w):=rfl;have ha:=B2 r.a m ok.a0 ok.a1;have hb:=B2 r.b m ok.b0 ok.b1;have hw:=Io r.w ok.w0 ok.w1;apply wp_step
 ·rfl
 apply wp_step
 ·simp_arith[i0,i1,ha,hb,DB];rfl
 apply wp_step
 ·simp_arith[i0,i1,decide_eq_false ok.ab];rfl
 simp_arith[i2,i3,hw];cases q:r.l with
 |none=>rfl
 |some z =>
  have hl:=Io z (ok.l0 z q).1 (ok.l0 z q).2;have e:GH (some z)=.int z:=rfl;simp_arith[e,hl];rfl
abbrev Ti:List D->M OT:=zg IY
def US:Txt K mg->BG P w K mg base "is_road" 3 2 Ti:=(zb IY).1
def UT:∀(m:Nat) (r:Road),IT m r->Ti [BH r,.int m]=.ok (.sh (.bl true)):=(zb IY).2
def L8:∃F:List D->M OT,(∀ {P w K mg base},Txt K mg->BG P w K mg base "is_map" 4 1 F)/\(∀(m:Nat) (rs:List Road),1<=m->m<=16->rs.length<=60->(∀r∈rs,IT m r)->F [Ap m rs]=.ok (.sh (.bl true))):=by
 refine⟨_,λ T=>Ay (k:=3) T.dC L5 _ (λ f B4 A outer s H E hr=>(A3 (B3 (DW.dt (Dw (Bj (Bc (c:=true) (DZ (Fh _) rfl T.B0 rfl T.Kk (by decide +kernel) (A1 0 (pv 0))))) (D5 (Lg (c:=true) (AQ hr 16 (by decide)) (D6 rfl T.Fb (A1 0 (pv 0))) A7)))) (A6 (Am (AV BP))) Ar) (A3 (AU 1 L5.nd rfl (Or.inr rfl) (Ab (AQ hr 16 (by decide)) (A1 0 (pv 0)) A7)) (A3 (AU 2 L5.nd rfl (zO rfl) (Ab (AQ hr 16 (by decide)) (A1 0 (pv 0)) A7)) (A3 (B3 (DW.dt (Dw (Bj (Bc (c:=true) (Ag (Aa A8.toXCall (B1 T) (hr.mono (by decide)) rfl (A2 (A1 1 (pv 1)) (A2 A7 A4)) rfl)))) (D5 (Lf (c:=true) (AQ hr 16 (by decide)) (A1 1 (pv 1)) A7)))) (A6 (Am (AV BP))) Ar) (A3 (B3 (DW.dt (Dw (Bj (Bc (c:=true) (DZ (KI _) rfl T.B0 rfl T.Ee (by decide +kernel) (A1 2 (pv 2))))) (D5 (Vo (c:=true) (D6 rfl T.Fb (A1 2 (pv 2))) A7)))) (A6 (Am (AV BP))) Ar) (A6 (Am (AV (Z6 rfl rfl T.lA (Ag (CQ (NB:=["road","many"]) [none,some 1] rfl (AW (A1 2 (pv 2))) rfl rfl (BY 0 (by decide) rfl rfl rfl) (λ _ _ _ _=>EA) (λ _ _ _ _=>(Ag (Bq (Aa (AL rfl).toXCall (US T) (hr.mono (by decide)) rfl (A2 (A1 0 (pv 0)) (A2 (A1 1 (pv 1)) A4)) rfl)))))))))))))))),?_⟩;intro m rs h1 h2 hl Au;have e0:AE ["thing","many","roads"] [Ap m rs]=[some (.val (Ap m rs)),none,none]:=rfl;rw[e0];refine Bd ?_;have i0:AX (Ap m rs) (.int 0)=.ok (.int m):=rfl;have i1:AX (Ap m rs) (.int 1)=.ok (.lst (rs.map BH)):=rfl;have hn:=B2 m 17 (by omega) (by omega);have hm:decide ((m:Int)=0)=false:=decide_eq_false (by omega);have c4:decide ((60:Int)<((rs.map BH).length:Int))=false:=decide_eq_false (by rw[zc];omega);have aH:(rs.map BH).length<=1000:=by rw[zc];omega
 apply wp_step
 ·rfl
 apply wp_step
 ·simp_arith[i0];rfl
 apply wp_step
 ·simp_arith[i1];rfl
 apply wp_step
 ·simp_arith[hn,hm,DB];rfl
 apply wp_step
 ·simp_arith[c4,DB];rfl
 simp_arith[if_pos aH];rw[Ca (λ _:Road=>D.bl true) (λ r hr=>⟨_,rfl,rfl,by
  have:=UT m r (Au r hr);simp_arith[this]⟩)]
 simp_arith[tM];rfl
abbrev Wg:List D->M OT:=zg L8
def XN:Txt K mg->BG P w K mg base "is_map" 4 1 Wg:=(zb L8).1
def XO:∀(m:Nat) (rs:List Road),1<=m->m<=16->rs.length<=60->(∀r∈rs,IT m r)->Wg [Ap m rs]=.ok (.sh (.bl true)):=(zb L8).2
def IZ:∃F:List D->M OT,(∀ {P w K mg base},Txt K mg->BG P w K mg base "checked" 5 1 F)/\(∀(m:Nat) (rs:List Road),1<=m->m<=16->rs.length<=60->(∀r∈rs,IT m r)->F [Ap m rs]=.ok (.tup [.sh (.int m),.lst ((rs.map BH).map .sh)])):=by
 refine⟨_,λ T=>Ay (k:=4) T.XI UK _ (λ f B4 A outer s H E hr=>(A3 (B3 (Bj (Bc (c:=true) (Ag (Aa A8.toXCall (XN T) (hr.mono (by decide)) rfl (A2 (A1 0 (pv 0)) A4) rfl)))) (A6 Uj) Ar) (A6 (Am (Zd (Jl (AV (Ab (AQ hr 16 (by decide)) (A1 0 (pv 0)) A7)) (Jl (CQ (NB:=["road"]) [none] rfl (AW (Ab (AQ hr 16 (by decide)) (A1 0 (pv 0)) A7)) rfl rfl (BY 0 (by decide) rfl rfl rfl) (λ _ _ _ _=>EA) (λ _ _ _ _=>(YT rfl T.Kk (A1 0 (pv 0))))) CP))))))),?_⟩;intro m rs h1 h2 hl Au;have e0:AE ["thing"] [Ap m rs]=[some (.val (Ap m rs))]:=rfl;rw[e0];have h1:=XO m rs h1 h2 hl Au;have n0:AX (Ap m rs) (.int 0)=.ok (.int m):=rfl;have n1:AX (Ap m rs) (.int 1)=.ok (.lst (rs.map BH)):=rfl;have aH:(rs.map BH).length<=1000:=by rw[zc];omega
 refine Bd ?_;apply wp_step
 ·simp_arith[h1,DB];rfl
 simp_arith[n0,n1,if_pos aH];rw[Ca BH (λ r hr=>⟨_,rfl,rfl,rfl⟩)];simp_arith[];exact⟨_,rfl,rfl⟩
abbrev Tj:List D->M OT:=zg IZ
def UU:Txt K mg->BG P w K mg base "checked" 5 1 Tj:=(zb IZ).1
def UW:∀(m:Nat) (rs:List Road),1<=m->m<=16->rs.length<=60->(∀r∈rs,IT m r)->Tj [Ap m rs]=.ok (.tup [.sh (.int m),.lst ((rs.map BH).map .sh)]):=(zb IZ).2
def NQ:∃F:List D->M OT,(∀ {P w K mg base},Txt K mg->BG P w K mg base "added" 1 2 F)/\(∀a b:Co,F [cst a,cst b]=.ok (.sh (cst (Aj a b)))):=by
 refine⟨_,λ T=>Ay (k:=0) T.jV dA _ (λ f B4 A outer s H E hr=>(A3 (B3 (DW.dt (Dw (ID (c:=true) (A1 0 (pv 0))) (D5 (ID (c:=true) (A1 1 (pv 1)))))) (A6 (Am (AV Dr))) Ar) (A6 (Am (AV (AB (A2 (BS (Ab (AQ hr 16 (by decide)) (A1 0 (pv 0)) A7) (Ab (AQ hr 16 (by decide)) (A1 1 (pv 1)) A7)) (A2 (BS (Ab (AQ hr 16 (by decide)) (A1 0 (pv 0)) A7) (Ab (AQ hr 16 (by decide)) (A1 1 (pv 1)) A7)) A4)))))))),?_⟩;intro a b;rcases a with _|⟨a1,a2⟩<;>rcases b with _|⟨b1,b2⟩<;>rfl
abbrev dM:List D->M OT:=zg NQ
def GW:Txt K mg->BG P w K mg base "added" 1 2 dM:=(zb NQ).1
def GX:∀a b:Co,dM [cst a,cst b]=.ok (.sh (cst (Aj a b))):=(zb NQ).2
def NR:∃F:List D->M OT,(∀ {P w K mg base},Txt K mg->BG P w K mg base "least" 1 1 F)/\(∀cs:List Co,cs.length<=1000->F [.lst (cs.map cst)]=.ok (.sh (cst (Ft cs)))):=by
 refine⟨_,λ T=>Ay (k:=0) T.jW dB _ (λ f B4 A outer s H E hr=>(A6 (Am (AV (Vr rfl (AQ hr 1 (by decide)) rfl T.dI (Ag (CQ (NB:=["cost"]) [none] rfl (AW (A1 0 (pv 0))) rfl rfl (BY 0 (by decide) rfl rfl rfl) (λ _ _ _ _=>Fi (Hs (c:=true) (A1 0 (pv 0)))) (λ _ _ _ _=>(A1 0 (pv 0))))) Dr))))),?_⟩;intro cs hc;have e0:∀x:D,AE ["some"] [x]=[some (.val x)]:=λ x=>rfl;rw[e0];refine Bd ?_;have hl:(cs.map cst).length<=1000:=by rw[zc];exact hc
 have wl:=Sw cs;have ph:=VW cs;simp_arith[if_pos hl];rw[GG];simp_arith[ph];rfl
abbrev Rh:List D->M OT:=zg NR
def NS:Txt K mg->BG P w K mg base "least" 1 1 Rh:=(zb NR).1
def NT:∀cs:List Co,cs.length<=1000->Rh [.lst (cs.map cst)]=.ok (.sh (cst (Ft cs))):=(zb NR).2
def Fw:∃F:List D->M OT,(∀ {P w K mg base},Txt K mg->BG P w K mg base "road_cost" 1 1 F)/\(∀r:Road,F [BH r]=.ok (.sh (cst (Cc r)))):=by
 refine⟨_,λ T=>Ay (k:=0) T.T4 QZ _ (λ f B4 A outer s H E hr=>(A3 (B3 (ID (c:=true) (Ab (AQ hr 16 (by decide)) (A1 0 (pv 0)) A7)) (A6 (Am (AV Dr))) Ar) (A6 (Am (AV (AB (A2 (Ab (AQ hr 16 (by decide)) (A1 0 (pv 0)) A7) (A2 A7 A4)))))))),?_⟩;intro r;obtain⟨a,b,l,w⟩:=r;cases l<;>rfl
abbrev NU:List D->M OT:=zg Fw
def Fx:Txt K mg->BG P w K mg base "road_cost" 1 1 NU:=(zb Fw).1
def Fy:∀r:Road,NU [BH r]=.ok (.sh (cst (Cc r))):=(zb Fw).2
def C4:∃F:List D->M OT,(∀ {P w K mg base},Txt K mg->IS P w K mg base "Ladder" "checked_arc" 2 3 F)/\(∀(m:Nat) (rs:List Road) (L:List Int) (A:LA) (K:List (Int×Int)) (u w:Int),0<=u->u<m->0<=w->w<m->(AH A (u,w)).isSome=true->F [AI m rs L A K,.int u,.int w]=.ok (.sh (pD (u,w)))):=by
 refine⟨_,λ T=>Mn (k:=1) T.GU D1 _ (λ f B4 A outer s H E hr=>(A3 (AU 3 D1.nd rfl (zO rfl) (Ab (AQ hr 16 (by decide)) (EJ ["Ladder"] (Bx T.BN C7) (A1 0 (pv 0))) A7)) (A3 (B3 (DW.dt (Dw (Bj (Bc (c:=true) (Ag (Aa A8.toXCall (B1 T) (hr.mono (by decide)) rfl (A2 (A1 1 (pv 1)) (A2 (A1 3 (pv 3)) A4)) rfl)))) (Dw (Bj (Bc (c:=true) (Ag (Aa A8.toXCall (B1 T) (hr.mono (by decide)) rfl (A2 (A1 2 (pv 2)) (A2 (A1 3 (pv 3)) A4)) rfl)))) (D5 (M5 (c:=true) (AQ hr 16 (by decide)) (AB (A2 (A1 1 (pv 1)) (A2 (A1 2 (pv 2)) A4))) (EJ ["Ladder"] (Bx T.Dh C7) (A1 0 (pv 0)))))))) (A6 Uj) Ar) (A6 (Am (AV (AB (A2 (A1 1 (pv 1)) (A2 (A1 2 (pv 2)) A4))))))))),?_⟩;intro m rs L A K u w u0 u1 w0 w1 hf;have e0:AE ["self","u","w","many"] [AI m rs L A K,.int u,.int w]=[some (.val (AI m rs L A K)),some (.val (.int u)),some (.val (.int w)),none]:=rfl;rw[e0];refine Bd ?_;have f1:Oj ["Ladder"] "own_map" (AI m rs L A K)=.ok (Ap m rs):=rfl;have f2:Oj ["Ladder"] "laid" (AI m rs L A K)=.ok (Ll A):=rfl;have n0:AX (Ap m rs) (.int 0)=.ok (.int m):=rfl;have h1:=B2 u m u0 u1;have h2:=B2 w m w0 w1;have hp:D.tup [.int u,.int w]=pD (u,w):=rfl;have hm:=QR A (u,w) true;rw[hf] at hm;apply wp_step
 ·simp_arith[f1,n0];rfl
 apply wp_step
 ·simp_arith[h1,h2,f2,hp,hm,DB];rfl
 rfl
abbrev Be:List D->M OT:=zg C4
def G8:Txt K mg->IS P w K mg base "Ladder" "checked_arc" 2 3 Be:=(zb C4).1
def G9:∀(m:Nat) (rs:List Road) (L:List Int) (A:LA) (K:List (Int×Int)) (u w:Int),0<=u->u<m->0<=w->w<m->(AH A (u,w)).isSome=true->Be [AI m rs L A K,.int u,.int w]=.ok (.sh (pD (u,w))):=(zb C4).2
def Eg:∃F:List D->M OT,(∀ {P w K mg base},Txt K mg->IS P w K mg base "Ladder" "cost" 3 3 F)/\(∀(m:Nat) (rs:List Road) (L:List Int) (A:LA) (K:List (Int×Int)) (u w:Int) (c:Int×Int),Fc m A->An A (u,w)=some c->F [AI m rs L A K,.int u,.int w]=.ok (.sh (cst (some c)))):=by
 refine⟨_,λ T=>Mn (k:=2) T.Ov NF _ (λ f B4 A outer s H E hr=>(A6 (Am (AV (Ab (AQ hr 16 (by decide)) (Ab (AQ hr 16 (by decide)) (EJ ["Ladder"] (Bx T.Dh C7) (A1 0 (pv 0))) (Ag (QB (k:=2) [("Ladder",Be)] A8.toXCall (CS (by decide) (G8 T) DC) (hr.mono (by decide)) (A1 0 (pv 0)) (A2 (A1 1 (pv 1)) (A2 (A1 2 (pv 2)) A4)) rfl))) A7))))),?_⟩;intro m rs L A K u w c hA hc;have e0:AE ["self","u","w"] [AI m rs L A K,.int u,.int w]=[some (.val (AI m rs L A K)),some (.val (.int u)),some (.val (.int w))]:=rfl;rw[e0];refine Bd ?_;have f2:Oj ["Ladder"] "laid" (AI m rs L A K)=.ok (Ll A):=rfl;have hk:=hA.rg _ (F7 hc);obtain⟨v,hv⟩:∃v,AH A (u,w)=some (c,v):=by
  unfold An at hc;cases q:AH A (u,w) with
  |none=>rw[q] at hc;cases hc
  |some z=>rw[q] at hc;obtain⟨z1,z2⟩:=z;cases hc;exact⟨z2,rfl⟩
 have h1:=G9 m rs L A K u w hk.2.1.1 hk.2.1.2 hk.2.2.1 hk.2.2.2 (by rw[hv];rfl);have hi:=QS hv;have h0:AX (Xq (c,v)) (.int 0)=.ok (cst (some c)):=rfl;have hs:GF [("Ladder",Be)] "checked_arc" (AI m rs L A K)=.ok Be:=rfl;simp_arith[f2,hs,h1,hi,h0];rfl
abbrev Bz:List D->M OT:=zg Eg
def GY:Txt K mg->IS P w K mg base "Ladder" "cost" 3 3 Bz:=(zb Eg).1
def GZ:∀(m:Nat) (rs:List Road) (L:List Int) (A:LA) (K:List (Int×Int)) (u w:Int) (c:Int×Int),Fc m A->An A (u,w)=some c->Bz [AI m rs L A K,.int u,.int w]=.ok (.sh (cst (some c))):=(zb Eg).2
def Eh:∃F:List D->M OT,(∀ {P w K mg base},Txt K mg->IS P w K mg base "Ladder" "kept" 1 1 F)/\(∀(m:Nat) (rs:List Road) (L:List Int) (A:LA) (K:List (Int×Int)),F [AI m rs L A K]=.ok (.lst ((K.map pD).map .sh))):=by
 refine⟨_,λ T=>Mn (k:=0) T.Ox NG _ (λ f B4 A outer s H E hr=>(A6 (Am (Hy rfl T.Ee (EJ ["Ladder"] (Bx T.Ef C7) (A1 0 (pv 0))))))),?_⟩;intro m rs L A K;rfl
abbrev BA:List D->M OT:=zg Eh
def H9:Txt K mg->IS P w K mg base "Ladder" "kept" 1 1 BA:=(zb Eh).1
def Ha:∀(m:Nat) (rs:List Road) (L:List Int) (A:LA) (K:List (Int×Int)),BA [AI m rs L A K]=.ok (.lst ((K.map pD).map .sh)):=(zb Eh).2
def EN:∃F:List D->M OT,(∀ {P w K mg base},Txt K mg->BG P w K mg base "kept_costs" 4 1 F)/\(∀(m:Nat) (rs:List Road) (L:List Int) (A:LA) (K:List (Int×Int)),BM m rs L A K->F [AI m rs L A K]=.ok (pV (Ie A K))):=by
 refine⟨_,λ T=>Ay (k:=3) T.Rb Oq _ (λ f B4 A outer s H E hr=>(A6 (Am (Sv rfl (AQ hr 16 (by decide)) rfl T.dG (Ag (CQ (NB:=["u","w","ladder"]) [none,none,some 0] rfl (AW (Ag (F3 (k:=1) [("Ladder",BA)] A8.toXCall (CS (by decide) (H9 T) DC) (hr.mono (by decide)) (A1 0 (pv 0))))) rfl rfl (Qx (n:=2) rfl (DM 0 (by decide) rfl rfl rfl (DM 1 (by decide) rfl rfl rfl Na))) (λ _ _ _ _=>EA) (λ _ _ _ _=>(AB (A2 (AB (A2 (A1 0 (pv 0)) (A2 (A1 1 (pv 1)) A4))) (A2 (Ag (Bq (QB (k:=3) [("Ladder",Bz)] (AL rfl).toXCall (CS (by decide) (GY T) DC) (hr.mono (by decide)) (A1 2 (pv 2)) (A2 (A1 0 (pv 0)) (A2 (A1 1 (pv 1)) A4)) rfl))) A4)))))))))),?_⟩;intro m rs L A K ok;have e0:AE ["ladder"] [AI m rs L A K]=[some (.val (AI m rs L A K))]:=rfl;rw[e0];refine Bd ?_;have hs:GF [("Ladder",BA)] "kept" (AI m rs L A K)=.ok BA:=rfl;have aG:GF [("Ladder",Bz)] "cost" (AI m rs L A K)=.ok Bz:=rfl;have hk:=Ha m rs L A K;have hl:(K.map pD).length<=1000:=by rw[zc];have:=ok.kl;omega
 have hn:((Ie A K).map zH).Nodup:=by rw[Nv];exact ok.kn
 have hd:=cL (C:=Ie A K) hn (by simp only[Ie,zc];have:=ok.kl;omega);simp_arith[hs,hk,if_pos hl];rw[Ca (λ p=>D.tup [pD p,cst (some ((An A p).getD (0,0)))]) (λ p hp=>⟨_,rfl,rfl,by
  obtain⟨c,hc,_⟩:=(ok.km p).mp hp;have h1:=GZ m rs L A K p.1 p.2 c ok.wK hc;simp_arith[aG,h1];rw[hc];rfl⟩)]
 have e1:(K.map λ p=>D.tup [pD p,cst (some ((An A p).getD (0,0)))])=(Ie A K).map λ kv=>D.tup [pD kv.1,cst (some kv.2)]:=by
  simp only[SK,Ie,yK];rfl
 rw[e1];simp_arith[hd];exact⟨_,rfl,rfl⟩
abbrev LJ:List D->M OT:=zg EN
def OA:Txt K mg->BG P w K mg base "kept_costs" 4 1 LJ:=(zb EN).1
def OB:∀(m:Nat) (rs:List Road) (L:List Int) (A:LA) (K:List (Int×Int)),BM m rs L A K->LJ [AI m rs L A K]=.ok (pV (Ie A K)):=(zb EN).2
def Ce:∃F:List D->M OT,(∀ {P w K mg base},Txt K mg->BG P w K mg base "kept_costs_turned" 4 1 F)/\(∀(m:Nat) (rs:List Road) (L:List Int) (A:LA) (K:List (Int×Int)),BM m rs L A K->F [AI m rs L A K]=.ok (pV (SK (Ie A K)))):=by
 refine⟨_,λ T=>Ay (k:=3) T.HZ GQ _ (λ f B4 A outer s H E hr=>(A6 (Am (Sv rfl (AQ hr 16 (by decide)) rfl T.dG (Ag (CQ (NB:=["u","w","ladder"]) [none,none,some 0] rfl (AW (Ag (F3 (k:=1) [("Ladder",BA)] A8.toXCall (CS (by decide) (H9 T) DC) (hr.mono (by decide)) (A1 0 (pv 0))))) rfl rfl (Qx (n:=2) rfl (DM 0 (by decide) rfl rfl rfl (DM 1 (by decide) rfl rfl rfl Na))) (λ _ _ _ _=>EA) (λ _ _ _ _=>(AB (A2 (AB (A2 (A1 1 (pv 1)) (A2 (A1 0 (pv 0)) A4))) (A2 (Ag (Bq (QB (k:=3) [("Ladder",Bz)] (AL rfl).toXCall (CS (by decide) (GY T) DC) (hr.mono (by decide)) (A1 2 (pv 2)) (A2 (A1 0 (pv 0)) (A2 (A1 1 (pv 1)) A4)) rfl))) A4)))))))))),?_⟩;intro m rs L A K ok;have e0:AE ["ladder"] [AI m rs L A K]=[some (.val (AI m rs L A K))]:=rfl;rw[e0];refine Bd ?_;have hs:GF [("Ladder",BA)] "kept" (AI m rs L A K)=.ok BA:=rfl;have aG:GF [("Ladder",Bz)] "cost" (AI m rs L A K)=.ok Bz:=rfl;have hk:=Ha m rs L A K;have hl:(K.map pD).length<=1000:=by rw[zc];have:=ok.kl;omega
 have hn:((Ie A K).map zH).Nodup:=by rw[Nv];exact ok.kn
 have hd:=cL (C:=SK (Ie A K)) (Xu hn) (by unfold SK;simp only[Ie,zc];have:=ok.kl;omega);simp_arith[hs,hk,if_pos hl];rw[Ca (λ p=>D.tup [pD (p.2,p.1),cst (some ((An A p).getD (0,0)))]) (λ p hp=>⟨_,rfl,rfl,by
  obtain⟨c,hc,_⟩:=(ok.km p).mp hp;have h1:=GZ m rs L A K p.1 p.2 c ok.wK hc;simp_arith[aG,h1];rw[hc];rfl⟩)]
 have e1:(K.map λ p=>D.tup [pD (p.2,p.1),cst (some ((An A p).getD (0,0)))])=(SK (Ie A K)).map λ kv=>D.tup [pD kv.1,cst (some kv.2)]:=by
  simp only[SK,Ie,yK];rfl
 rw[e1];simp_arith[hd];exact⟨_,rfl,rfl⟩
abbrev Ei:List D->M OT:=zg Ce
def Hb:Txt K mg->BG P w K mg base "kept_costs_turned" 4 1 Ei:=(zb Ce).1
def Hc:∀(m:Nat) (rs:List Road) (L:List Int) (A:LA) (K:List (Int×Int)),BM m rs L A K->Ei [AI m rs L A K]=.ok (pV (SK (Ie A K))):=(zb Ce).2
def J0:∃F:List D->M OT,(∀ {P w K mg base},Txt K mg->BG P w K mg base "climbed" 2 3 F)/\(∀(m:Nat) (L:List Int) (C:CA) (s:Int),m<=20->L.Perm (AR m)->s∈L->(∀p c,AH C p=some c->p.1∈L/\p.2∈L)->∃R:RA,F [.lst (L.map D.int),Ms C,.int s]=.ok (dW R)/\RB L C s L.length R):=by
 refine⟨_,λ T=>Ay (k:=1) T.XJ Dc _ (λ f B4 A outer s H E hr=>(A3 (Bw 3 Dc.nd rfl (zO rfl) (ZE (A1 2 (pv 2)) (AB (A2 A7 (A2 A7 A4))))) (A3 (Bp A8.toXCall.own rfl (Vp rfl T.LH (A1 0 (pv 0))) (Qn (n:=2) rfl (Dl (AF 4 Dc.nd rfl (zO rfl)) (Dl (AF 5 Dc.nd rfl (zO rfl)) LZ))) (A6 (B3 (IJ (N6 (c:=true) (AQ hr 16 (by decide)) (A1 5 (pv 5)) (A1 3 (pv 3)))) (A6 (Bp A8.toXCall.own rfl (AW (Ag (Jx (A1 0 (pv 0)) (Jg (BS (A1 4 (pv 4)) A7)) Qm))) (AF 6 Dc.nd rfl (zO rfl)) (A6 (B3 (N6 (c:=true) (AQ hr 16 (by decide)) (AB (A2 (A1 5 (pv 5)) (A2 (A1 6 (pv 6)) A4))) (A1 1 (pv 1))) (A3 (AU 7 Dc.nd rfl (zO rfl) (Ag (E9 (Aa A8.toXCall (GW T) (hr.mono (by decide)) rfl (A2 (Ab (AQ hr 16 (by decide)) (A1 3 (pv 3)) (A1 5 (pv 5))) (A2 (Ab (AQ hr 16 (by decide)) (A1 1 (pv 1)) (AB (A2 (A1 5 (pv 5)) (A2 (A1 6 (pv 6)) A4)))) A4)) rfl)))) (A6 (M7 (AQ hr 16 (by decide)) (BJ 3 (pv 3)) (A1 6 (pv 6)) (Ag (E9 (Aa A8.toXCall (NS T) (hr.mono (by decide)) rfl (A2 (Gr (A2 (Ni (AQ hr 16 (by decide)) (A1 3 (pv 3)) (A1 6 (pv 6))) (A2 (A1 7 (pv 7)) A4))) A4) rfl)))))) Ar)))) Ar))) (A6 (Ck 3 (pv 3)))))),?_⟩;intro m L C s hm hL hs hC;have hn:=Fu hL;have hlen:=Ec hL;have e0:AE ["order","costs","place","reached","rank","lower","higher","cost"] [.lst (L.map D.int),Ms C,.int s]=[some (.val (.lst (L.map D.int))),some (.val (Ms C)),some (.val (.int s)),none,none,none,none,none]:=rfl;rw[e0];refine (λ h:∃t,_/\∃R:RA,t=dW R/\RB L C s L.length R=>by
  obtain⟨t,h1,R,rfl,h2⟩:=h;exact⟨R,h1,h2⟩) (Lj ?_)
 refine wp_step (ρ':=[some (.val (.lst (L.map D.int))),some (.val (Ms C)),some (.val (.int s)),some (.ow (.tree none (dW [(s,(0,0))]))),none,none,none,none]) (by rfl) ?_;refine BC (I:=λ ρ=>∃(R:RA) (s4 s5 s6 s7:Option Cl),ρ=[some (.val (.lst (L.map D.int))),some (.val (Ms C)),some (.val (.int s)),some (.ow (.tree none (dW R))),s4,s5,s6,s7]/\RB L C s L.length R) ?_ ?_
 ·simp_arith[];refine Br (λ i ρ=>i<=L.length/\∃(R:RA) (s4 s5 s6 s7:Option Cl),ρ=[some (.val (.lst (L.map D.int))),some (.val (Ms C)),some (.val (.int s)),some (.ow (.tree none (dW R))),s4,s5,s6,s7]/\RB L C s i R) ⟨zM _,_,none,none,none,none,rfl,RB.start hs⟩ ?_ ?_
  ·rintro i d ρ hd ⟨hi,R,s4,s5,s6,s7,rfl,hR⟩;obtain⟨d',aB,rfl⟩:=KL hd;obtain⟨x,hx,rfl⟩:=BL aB;have af:=(zx.mp hx).1;rw[Nat.zero_add];refine⟨_,rfl,?_⟩;have c5:=oU R x false;have o7:=QV hn hx;cases q:AH R x with
   |none =>
    rw[q] at c5;refine AY (ρ':=_) (by simp_arith[c5];rfl) ⟨af,R,_,_,_,_,rfl,hR.skip hx hn q⟩
   |some c0 =>
    rw[q] at c5;have sl:dU (some ((i:Int)+1)) none (.lst (L.map D.int))=.ok (.lst (((L.drop (i+1)).map D.int).map .sh)):=by rw[List.map_drop];exact Nc _ (i+1)
    simp_arith[c5,sl,if_true,Option.isSome_some,zC,if_false];refine Br (λ j ρ=>j<=(L.drop (i+1)).length/\∃(R':RA) (s6 s7:Option Cl),ρ=[some (.val (.lst (L.map D.int))),some (.val (Ms C)),some (.val (.int s)),some (.ow (.tree none (dW R'))),some (.val (.int i)),some (.val (.int x)),s6,s7]/\kW L C s i x c0 ((L.drop (i+1)).take j) R R') ⟨zM _,R,s6,s7,rfl,hR.nd,hR.rg,hR.sd,λ y=>Cb _,λ y _=>rfl,λ y hy=>by rw[List.take_zero] at hy;cases hy⟩ ?_ ?_
    ·rintro j d ρ hd ⟨hj,R',s6,s7,rfl,hI⟩;obtain⟨y,hy,rfl⟩:=BL hd;have jc:=(zx.mp hy).1;have sg:=zr hy;have wm:y∈L:=List.mem_of_mem_drop sg;have aM:i<DH L y:=W6 hn sg;have et:(L.drop (i+1)).take (j+1)=(L.drop (i+1)).take j++[y]:=by rw[y9,hy];rfl
     refine⟨_,rfl,?_⟩;rw[et];have t1:∀a b:Int,D.tup [.int a,.int b]=pD (a,b):=λ a b=>rfl;have kt:=oR C (x,y) false;cases q2:AH C (x,y) with
     |none =>
      rw[q2] at kt;refine AY (ρ':=_) (by simp_arith[t1,kt];rfl) ⟨jc,R',_,_,rfl,hI.skip q2⟩
     |some dd =>
      rw[q2] at kt;have aF:AH R' x=some c0:=by rw[hI.sm x (by omega)];exact q
      have i1:=oV aF;have i2:=oS q2;have h1:=GX (some c0) (some dd);have g1:=cJ R' y;obtain⟨v,hv⟩:∃v,DD (AH R' y) (some (c0.1+dd.1,c0.2+dd.2))=some v:=by
       cases AH R' y with
       |none|some z=>exact⟨_,rfl⟩
      have h2:Rh [.lst [cst (AH R' y),cst (some (c0.1+dd.1,c0.2+dd.2))]]=.ok (.sh (cst (DD (AH R' y) (some (c0.1+dd.1,c0.2+dd.2))))):=NT [AH R' y,some (c0.1+dd.1,c0.2+dd.2)] (by simp);rw[hv] at h2;have a7:=hI.put wm aM o7 q q2 hv;have hl:(R'.map λ kv=>D.int kv.1).length<1000:=by
       have:=KU hI.nd hI.rg;rw[zc] at this ⊢;omega
      have g8:∀z:Int,keyOk false (.int z)=true:=λ z=>rfl;have ha:Aj (some c0) (some dd)=some (c0.1+dd.1,c0.2+dd.2):=rfl;rw[ha] at h1;simp_arith[t1,kt,if_true,Option.isSome_some,zC,if_false];apply wp_step
      ·simp_arith[t1,i1,i2,h1];rfl
      refine AY (ρ':=[some (.val (.lst (L.map D.int))),some (.val (Ms C)),some (.val (.int s)),some (.ow (.tree none (dW (Ds R' y v)))),some (.val (.int i)),some (.val (.int x)),some (.val (.int y)),some (.val (cst (some (c0.1+dd.1,c0.2+dd.2))))]) (by
       simp_arith[g1,h2,g8,hl,and_self,if_true,oW];rfl) ⟨jc,_,_,_,rfl,a7⟩
    ·rintro ρ ⟨_,R',s6,s7,rfl,hI⟩;rw[zc,y8] at hI;exact⟨af,R',_,_,s6,s7,rfl,hR.go (λ p c h=>(hC p c h).2) hx hn q hI⟩
  ·rintro ρ ⟨_,R,s4,s5,s6,s7,rfl,hR⟩;rw[Hu,zc] at hR;exact⟨R,s4,s5,s6,s7,rfl,hR⟩
 ·rintro ρ ⟨R,s4,s5,s6,s7,rfl,hR⟩;exact⟨_,rfl,R,rfl,hR⟩
abbrev Tn:List D->M OT:=zg J0
def UX:Txt K mg->BG P w K mg base "climbed" 2 3 Tn:=(zb J0).1
def UY:∀(m:Nat) (L:List Int) (C:CA) (s:Int),m<=20->L.Perm (AR m)->s∈L->(∀p c,AH C p=some c->p.1∈L/\p.2∈L)->∃R:RA,Tn [.lst (L.map D.int),Ms C,.int s]=.ok (dW R)/\RB L C s L.length R:=(zb J0).2
def NV:∃F:List D->M OT,(∀ {P w K mg base},Txt K mg->BG P w K mg base "swept" 3 3 F)/\(∀(m:Nat) (L:List Int) (C:CA) (s:Int),m<=20->L.Perm (AR m)->s∈L->(∀p c,AH C p=some c->p.1∈L/\p.2∈L)->∃(R:RA) (T:List Co),F [.lst (L.map D.int),Ms C,.int s]=.ok (.lst ((T.map cst).map .sh))/\RB L C s L.length R/\cP m L C s R L.reverse T):=by
 refine⟨_,λ T=>Ay (k:=2) T.jX F9 _ (λ f B4 A outer s H E hr=>(A3 (AU 3 F9.nd rfl (zO rfl) (Ag (Aa A8.toXCall (UX T) (hr.mono (by decide)) rfl (A2 (A1 0 (pv 0)) (A2 (A1 1 (pv 1)) (A2 (A1 2 (pv 2)) A4))) rfl))) (A3 (Bw 4 F9.nd rfl (Or.inr rfl) (Uu Dr (D6 rfl T.Fb (A1 0 (pv 0))))) (A3 (Bw 5 F9.nd rfl (zO rfl) (Fm CP)) (A3 (Bp A8.toXCall.own rfl (ZH rfl T.NP (A1 0 (pv 0))) (AF 6 F9.nd rfl (Or.inr rfl)) (A3 (Zk (NB:=["high","told","costs","lower"]) 7 [none,some 4,some 1,some 6] F9.nd rfl (zO rfl) rfl (AW (A1 5 (pv 5))) rfl rfl (BY 0 (by decide) rfl rfl rfl) (λ _ _ _ _=>EA) (λ _ _ _ _=>(Ag (Bq (Aa (AL rfl).toXCall (GW T) (hr.mono (by decide)) rfl (A2 (Ab (AQ hr 16 (by decide)) (A1 1 (pv 1)) (A1 0 (pv 0))) (A2 (Ni (AQ hr 16 (by decide)) (A1 2 (pv 2)) (AB (A2 (A1 0 (pv 0)) (A2 (A1 3 (pv 3)) A4)))) A4)) rfl))))) (A3 (MX 4 (pv 4) (Ag (E9 (Aa A8.toXCall (NS T) (hr.mono (by decide)) rfl (A2 (Ag (gU (Gr (A2 (Ni (AQ hr 16 (by decide)) (A1 3 (pv 3)) (A1 6 (pv 6))) A4)) (A1 7 (pv 7)))) A4) rfl))) (A1 6 (pv 6))) (A6 (DL 5 (pv 5) (A1 6 (pv 6))))))) (A6 (Ck 4 (pv 4)))))))),?_⟩;intro m L C s hm hL hs hC;have hn:=Fu hL;have hlen:=Ec hL;obtain⟨R,hF,hR⟩:=UY m L C s hm hL hs hC;have e0:AE ["order","costs","place","reached","told","higher","lower","over"] [.lst (L.map D.int),Ms C,.int s]=[some (.val (.lst (L.map D.int))),some (.val (Ms C)),some (.val (.int s)),none,none,none,none,none]:=rfl;rw[e0];refine (λ h:∃t,_/\∃T:List Co,t=.lst ((T.map cst).map .sh)/\cP m L C s R L.reverse T=>by
  obtain⟨t,h1,T,rfl,h2⟩:=h;exact⟨R,T,h1,hR,h2⟩) (Lj ?_)
 have jd:((L.map D.int).length:Int)=(m:Int):=by rw[zc,hlen]
 have bg:=Nf (d:=.AK) (n:=m) (by omega);have ca:zt m D.AK=(zt m (none:Co)).map cst:=by rw[List.map_replicate];rfl
 rw[ca] at bg;apply wp_step
 ·simp_arith[hF];rfl
 try simp only[zo,zj]
 apply wp_step
 ·simp_arith[jd,bg];rfl
 try simp only[zo,zj]
 apply wp_step
 ·rfl
 try simp only[zo,zj]
 refine BC (I:=λ ρ=>∃(T:List Co) (s5 s6 s7:Option Cl),ρ=[some (.val (.lst (L.map D.int))),some (.val (Ms C)),some (.val (.int s)),some (.val (cI R)),some (.own (T.map cst)),s5,s6,s7]/\cP m L C s R L.reverse T) ?_ ?_
 ·have ga:(L.map D.int).reverse=L.reverse.map D.int:=by rw[List.map_reverse]
  simp_arith[ga];refine Br (λ i ρ=>i<=L.reverse.length/\∃(T:List Co) (s6 s7:Option Cl),ρ=[some (.val (.lst (L.map D.int))),some (.val (Ms C)),some (.val (.int s)),some (.val (cI R)),some (.own (T.map cst)),some (.own ((L.reverse.take i).map D.int)),s6,s7]/\cP m L C s R (L.reverse.take i) T) ⟨zM _,_,none,none,rfl,cP.start⟩ ?_ ?_
  ·rintro i d ρ hd ⟨hi,T,s6,s7,rfl,hT⟩;obtain⟨y,hy,rfl⟩:=BL hd;have af:=(zx.mp hy).1;have aM:=(AM hL).mp (za2.mp (zr hy));have et:L.reverse.take (i+1)=L.reverse.take i++[y]:=by rw[y9,hy];rfl
   rw[zR] at af;have pi:L[L.length-1-i]?=some y:=by rw[List.getElem?_reverse af] at hy;exact hy
   have yv:=QV hn pi;have pk:∀x∈L.reverse.take i,(0<=x/\x<m)/\DH L y<DH L x:=λ x hx=>by
    have wn:=za2.mp (zS hx);refine⟨(AM hL).mp wn,?_⟩;rw[List.take_reverse,za2] at hx;have:=W6 hn hx;omega
   have pc:y∉L.reverse.take i:=λ hx=>by have:=(pk y hx).2;omega
   have sn:=hT.len;refine⟨_,rfl,?_⟩;have c4:((L.reverse.take i).map D.int).length<=1000:=by rw[zc,zT,zR];omega
   have t1:∀a b:Int,D.tup [.int a,.int b]=pD (a,b):=λ a b=>rfl;have g1:=cJ R y;obtain⟨vs,ay⟩:∃vs:List Co,vs=(L.reverse.take i).map λ x=>Aj (atC T x) (AH C (x,y)):=⟨_,rfl⟩;apply wp_step
   ·simp_arith[if_pos c4];rw[Ca (λ x=>cst (Aj (atC T x) (AH C (x,y)))) (λ x hx=>⟨_,rfl,rfl,by
     have bA:=(pk x hx).1;have x1:AX (.lst (T.map cst)) (.int x)=.ok (cst (atC T x)):=Cd bA.1 (by rw[sn];exact bA.2);have g2:=oT C (x,y);have h1:=GX (atC T x) (AH C (x,y));simp_arith[t1,x1,g2,h1]⟩)]
    have ev:(L.reverse.take i).map (λ x=>cst (Aj (atC T x) (AH C (x,y))))=vs.map cst:=by rw[ay,yK];rfl
    rw[ev];have dv:=cO vs;simp_arith[dv];rfl
   try simp only[zo,zj]
   have aq:Sd (.lst [cst (AH R y)]) (.lst (vs.map cst))=.ok (.lst (((AH R y::vs).map cst).map .sh)):=iY (by rw[ay,zc,zc,zT,zR,yP];omega);have h3:=NT (AH R y::vs) (by rw[ay,zk,zc,zT,zR];omega);have a7:=K6 (i:=4) (ρ:=[some (.val (.lst (L.map D.int))),some (.val (Ms C)),some (.val (.int s)),some (.val (cI R)),some (.own (T.map cst)),some (.own ((L.reverse.take i).map D.int)),some (.val (.int y)),some (.own (vs.map cst))]) (d:=cst (Ft (AH R y::vs))) (p:=y) rfl aM.1 (by rw[zc,sn];exact aM.2);have aY:(T.map cst).set y.toNat (cst (Ft (AH R y::vs)))=(T.set y.toNat (Ft (AH R y::vs))).map cst:=by rw[List.map_set]
   rw[aY] at a7;apply wp_step
   ·simp_arith[g1,aq,h3,a7];rfl
   try simp only[zo,zj]
   have wo:((L.reverse.take i).map D.int).length<1000:=by rw[zc,zT,zR];omega
   refine AY (ρ':=[some (.val (.lst (L.map D.int))),some (.val (Ms C)),some (.val (.int s)),some (.val (cI R)),some (.own ((T.set y.toNat (Ft (AH R y::vs))).map cst)),some (.own ((L.reverse.take (i+1)).map D.int)),some (.val (.int y)),some (.own (vs.map cst))]) (by simp_arith[if_pos wo,et,z6,zf,zai]) ⟨by rw[zR];exact af,_,_,_,rfl,?_⟩;rw[et,ay];exact hT.step hR.sd aM.1 aM.2 pc pk
  ·rintro ρ ⟨_,T,s6,s7,rfl,hT⟩;rw[zc,y8] at hT;exact⟨T,_,s6,s7,rfl,hT⟩
 ·rintro ρ ⟨T,s5,s6,s7,rfl,hT⟩;exact⟨_,rfl,T,rfl,hT⟩
abbrev dN:List D->M OT:=zg NV
def To:Txt K mg->BG P w K mg base "swept" 3 3 dN:=(zb NV).1
def Tp:∀(m:Nat) (L:List Int) (C:CA) (s:Int),m<=20->L.Perm (AR m)->s∈L->(∀p c,AH C p=some c->p.1∈L/\p.2∈L)->∃(R:RA) (T:List Co),dN [.lst (L.map D.int),Ms C,.int s]=.ok (.lst ((T.map cst).map .sh))/\RB L C s L.length R/\cP m L C s R L.reverse T:=(zb NV).2
def EO:∃F:List D->M OT,(∀ {P w K mg base},Txt K mg->BG P w K mg base "costs_from" 2 2 F)/\(∀(m s:Nat) (rs:List Road),s<m->m<=900->(∀r∈rs,G7 m r)->∃cs:List Co,Right m s rs cs/\F [Ap m rs,.int s]=.ok (.lst ((cs.map cst).map .sh))):=by
 refine⟨_,λ T=>Ay (k:=1) T.Rg BD _ (λ f B4 A outer s H E hr=>(A3 (Bw 2 BD.nd rfl (zO rfl) (Uu Dr (Ab (AQ hr 16 (by decide)) (A1 0 (pv 0)) A7))) (A3 (MX 2 (pv 2) (AB (A2 A7 (A2 A7 A4))) (A1 1 (pv 1))) (A3 (AU 3 BD.nd rfl (zO rfl) BP) (A3 (S8 A8.toXCall.own (Bc (c:=true) (A1 3 (pv 3))) (A3 (AU 3 BD.nd rfl (zO rfl) BP) (A6 (Bp A8.toXCall.own rfl (AW (Ab (AQ hr 16 (by decide)) (A1 0 (pv 0)) A7)) (AF 4 BD.nd rfl (zO rfl)) (A3 (AU 5 BD.nd rfl (zO rfl) (Ag (E9 (Aa A8.toXCall (NS T) (hr.mono (by decide)) rfl (A2 (Gr (A2 (Ab (AQ hr 16 (by decide)) (A1 2 (pv 2)) (Ab (AQ hr 16 (by decide)) (A1 4 (pv 4)) A7)) (A2 (Ag (Aa A8.toXCall (GW T) (hr.mono (by decide)) rfl (A2 (Ab (AQ hr 16 (by decide)) (A1 2 (pv 2)) (Ab (AQ hr 16 (by decide)) (A1 4 (pv 4)) A7)) (A2 (Ag (Aa A8.toXCall (Fx T) (hr.mono (by decide)) rfl (A2 (A1 4 (pv 4)) A4) rfl)) A4)) rfl)) A4))) A4) rfl)))) (A6 (B3 (IJ (Lg (c:=true) (AQ hr 16 (by decide)) (A1 5 (pv 5)) (Ab (AQ hr 16 (by decide)) (A1 2 (pv 2)) (Ab (AQ hr 16 (by decide)) (A1 4 (pv 4)) A7)))) (A3 (MX 2 (pv 2) (A1 5 (pv 5)) (Ab (AQ hr 16 (by decide)) (A1 4 (pv 4)) A7)) (A6 (AU 3 BD.nd rfl (zO rfl) BP))) Ar))))))) (A6 (Ck 2 (pv 2)))))))),?_⟩;intro m s rs hs hm Au;have e0:AE ["net","start","costs","changed","road","cost"] [Ap m rs,.int s]=[some (.val (Ap m rs)),some (.val (.int s)),none,none,none,none]:=rfl;rw[e0];refine (λ h:∃t,_/\∃cs:List Co,Right m s rs cs/\t=.lst ((cs.map cst).map .sh)=>by
  obtain⟨t,h1,cs,h2,rfl⟩:=h;exact⟨cs,h2,h1⟩) (Lj ?_)
 have n0:AX (Ap m rs) (.int 0)=.ok (.int m):=rfl;have n1:AX (Ap m rs) (.int 1)=.ok (.lst (rs.map BH)):=rfl;have bg:=Nf (d:=.AK) (n:=m) (by omega);have ca:zt m D.AK=(zt m (none:Co)).map cst:=by rw[List.map_replicate];rfl
 rw[ca] at bg;apply wp_step
 ·simp_arith[n0,bg];rfl
 try simp only[zo,zj]
 have a7:=K6 (i:=2) (ρ:=[some (.val (Ap m rs)),some (.val (.int s)),some (.own ((zt m (none:Co)).map cst)),none,none,none]) (d:=.tup [.int 0,.int 0]) (p:=(s:Int)) rfl (by omega) (by rw[zc,zas];omega);have aY:((zt m (none:Co)).map cst).set (s:Int).toNat (.tup [.int 0,.int 0])=((zt m none).set s (some (0,0))).map cst:=by rw[yM,List.map_set];rfl
 rw[aY] at a7;apply wp_step
 ·simp_arith[a7];rfl
 try simp only[zo,zj]
 apply wp_step
 ·rfl
 try simp only[zo,zj]
 refine BC (I:=λ ρ=>∃(cs:List Co) (s3 s4 s5:Option Cl),ρ=[some (.val (Ap m rs)),some (.val (.int s)),some (.own (cs.map cst)),s3,s4,s5]/\Right m s rs cs) ?_ ?_
 ·refine Si (lt:=wM) (λ z ρ=>∃(s4 s5:Option Cl),ρ=[some (.val (Ap m rs)),some (.val (.int s)),some (.own (z.1.map cst)),some (.val (.bl z.2)),s4,s5]/\Good m s rs z.1/\(z.2=false->Right m s rs z.1)) (oY _) ⟨none,none,rfl,Nl rs hs,λ e=>by cases e⟩ ?_;rintro ⟨cs,b⟩ ρ ⟨s4,s5,rfl,g,hR⟩;cases b with
  |false=>exact .inl ⟨rfl,cs,_,s4,s5,rfl,hR rfl⟩
  |true =>
   refine .inr ⟨rfl,?_⟩;apply wp_step
   ·rfl
   try simp only[zo,zj]
   simp_arith[n1];refine Br (λ i ρ=>∃(ax:List Co) (ch:Bool) (s4 s5:Option Cl),ρ=[some (.val (Ap m rs)),some (.val (.int s)),some (.own (ax.map cst)),some (.val (.bl ch)),s4,s5]/\Good m s rs ax/\(ch=true->O8 ltN ax cs)/\(ch=false->ax=cs/\∀r∈rs.take i,DD (atC cs r.b) (Aj (atC cs r.a) (Cc r))=atC cs r.b)) ⟨cs,false,s4,s5,rfl,g,(λ h=>by cases h),λ _=>⟨rfl,λ r hr=>by rw[List.take_zero] at hr;cases hr⟩⟩ ?_ ?_
   ·rintro i d ρ hd ⟨ax,ch,s4,s5,rfl,g1,h1,h2⟩;obtain⟨r,hq,rfl⟩:=BL hd;have hr:=zr hq;have ok:=Au r hr;obtain⟨g2,_,g4,g5⟩:=Xg g1 hr Au;have b9:r.b<ax.length:=by rw[g1.len];exact ok.b1
    have wp:r.a<ax.length:=by rw[g1.len];exact ok.a1
    have r0:AX (BH r) (.int 0)=.ok (.int r.a):=rfl;have r1:AX (BH r) (.int 1)=.ok (.int r.b):=rfl;have x0:AX (.lst (ax.map cst)) (.int r.a)=.ok (cst (atC ax r.a)):=Cd ok.a0 wp;have x1:AX (.lst (ax.map cst)) (.int r.b)=.ok (cst (atC ax r.b)):=Cd ok.b0 b9;have wq:=Fy r;have d4:=GX (atC ax r.a) (Cc r);have hle:Rh [.lst [cst (atC ax r.b),cst (Aj (atC ax r.a) (Cc r))]]=.ok (.sh (cst (DD (atC ax r.b) (Aj (atC ax r.a) (Cc r))))):=NT [atC ax r.b,Aj (atC ax r.a) (Cc r)] (by simp);have ae:=iV (DD (atC ax r.b) (Aj (atC ax r.a) (Cc r))) (atC ax r.b);refine⟨_,rfl,?_⟩;apply wp_step
    ·simp_arith[r0,r1,x0,x1,wq,d4,hle];rfl
    try simp only[zo,zj]
    by_cases hc:DD (atC ax r.b) (Aj (atC ax r.a) (Cc r))=atC ax r.b
    ·rw[decide_eq_true hc] at ae;refine AY (ρ':=_) (by simp_arith[r1,x1,ae];rfl) ⟨ax,ch,_,_,rfl,g1,h1,λ hf=>?_⟩;obtain⟨e1,e2⟩:=h2 hf;subst e1;refine⟨rfl,λ r' aX=>?_⟩;rw[y9,hq] at aX;rcases zy.mp aX with aX|aX
     ·exact e2 r' aX
     ·have:r'=r:=by simpa using aX
      rw[this];exact hc
    ·rw[decide_eq_false hc] at ae;have a7:=K6 (i:=2) (ρ:=[some (.val (Ap m rs)),some (.val (.int s)),some (.own (ax.map cst)),some (.val (.bl ch)),some (.val (BH r)),some (.val (cst (DD (atC ax r.b) (Aj (atC ax r.a) (Cc r)))))]) (d:=cst (DD (atC ax r.b) (Aj (atC ax r.a) (Cc r)))) (p:=r.b) rfl ok.b0 (by rw[zc];exact b9);have aY:(ax.map cst).set r.b.toNat (cst (DD (atC ax r.b) (Aj (atC ax r.a) (Cc r))))=(D8 r ax).map cst:=by unfold D8;rw[List.map_set]
     rw[aY] at a7;simp_arith[r1,x1,ae,if_true];apply wp_step
     ·simp_arith[r1,a7];rfl
     refine AY (ρ':=_) rfl ⟨D8 r ax,true,_,_,rfl,g2,λ _=>?_,λ hf=>by cases hf⟩;cases ch with
     |false=>obtain⟨e1,_⟩:=h2 rfl;subst e1;exact g5 hc
     |true=>exact O8.trans ltN Xe (g5 hc) (h1 rfl)
   ·rintro ρ' ⟨ax,ch,s4,s5,rfl,g1,h1,h2⟩;cases ch with
    |true=>exact⟨(ax,true),⟨rfl,.inr ⟨rfl,h1 rfl⟩⟩,s4,s5,rfl,g1,λ e=>by cases e⟩
    |false =>
     obtain⟨e1,e2⟩:=h2 rfl;subst e1;rw[zc,y8] at e2;exact⟨(ax,false),⟨rfl,.inl rfl⟩,s4,s5,rfl,g1,λ _=>right_of g1 e2⟩
 ·rintro ρ' ⟨cs,s3,s4,s5,rfl,hR⟩;exact⟨_,rfl,cs,hR,rfl⟩
abbrev LK:List D->M OT:=zg EO
def OC:Txt K mg->BG P w K mg base "costs_from" 2 2 LK:=(zb EO).1
def EQ:∀(m s:Nat) (rs:List Road),s<m->m<=900->(∀r∈rs,G7 m r)->∃cs:List Co,Right m s rs cs/\LK [Ap m rs,.int s]=.ok (.lst ((cs.map cst).map .sh)):=(zb EO).2
def Du:∃F:List D->M OT,(∀ {P w K mg base},Txt K mg->IS P w K mg base "Ladder" "order" 1 1 F)/\(∀(m:Nat) (rs:List Road) (L:List Int) (A:LA) (K:List (Int×Int)),F [AI m rs L A K]=.ok (.lst ((L.map D.int).map .sh))):=by
 refine⟨_,λ T=>Mn (k:=0) T.NO LV _ (λ f B4 A outer s H E hr=>(A6 (Am (Hy rfl T.Ee (EJ ["Ladder"] (Bx T.CF C7) (A1 0 (pv 0))))))),?_⟩;intro m rs L A K;rfl
abbrev AA:List D->M OT:=zg Du
def Cy:Txt K mg->IS P w K mg base "Ladder" "order" 1 1 AA:=(zb Du).1
def Cz:∀(m:Nat) (rs:List Road) (L:List Int) (A:LA) (K:List (Int×Int)),AA [AI m rs L A K]=.ok (.lst ((L.map D.int).map .sh)):=(zb Du).2
def Fz:∃F:List D->M OT,(∀ {P w K mg base},Txt K mg->BG P w K mg base "costs_out" 5 2 F)/\(∀(m:Nat) (rs:List Road) (L:List Int) (A:LA) (K:List (Int×Int)) (s:Nat),BM m rs L A K->s<m->∃T:List Co,F [AI m rs L A K,.int s]=.ok (.lst ((T.map cst).map .sh))/\T.length=m/\∀w:Int,0<=w->w<m->BI rs s w (atC T w)):=by
 refine⟨_,λ T=>Ay (k:=4) T.T5 R3 _ (λ f B4 A outer s H E hr=>(A6 (Am (Aa A8.toXCall (To T) (hr.mono (by decide)) rfl (A2 (Ag (F3 (k:=1) [("Ladder",AA)] A8.toXCall (CS (by decide) (Cy T) DC) (hr.mono (by decide)) (A1 0 (pv 0)))) (A2 (Ag (Aa A8.toXCall (OA T) (hr.mono (by decide)) rfl (A2 (A1 0 (pv 0)) A4) rfl)) (A2 (A1 1 (pv 1)) A4))) rfl)))),?_⟩;intro m rs L A K s ok hs;have hm:=ok.m2;have e0:AE ["ladder","start"] [AI m rs L A K,.int s]=[some (.val (AI m rs L A K)),some (.val (.int s))]:=rfl;rw[e0];have h1:=OB m rs L A K ok;have h2:=Cz m rs L A K;have gc:GF [("Ladder",AA)] "order" (AI m rs L A K)=.ok AA:=rfl;have pq:(s:Int)∈L:=(AM ok.pm).mpr ⟨by omega,by omega⟩;have ge:∀p c,AH (Ie A K) p=some c->p.1∈L/\p.2∈L:=λ p c h=>by
  have hm:=QJ h;unfold Ie at hm;obtain⟨q,hq,e⟩:=zA.mp hm;cases e;have:=ok.XT hq;exact⟨(AM ok.pm).mpr this.2.1,(AM ok.pm).mpr this.2.2⟩
 have hC:∀p c,AH (Ie A K) p=some c->p.1∈L/\p.2∈L:=λ p c h=>by
  exact ge p c h
 obtain⟨R,T,hF,hR,hT⟩:=Tp m L (Ie A K) s (by omega) ok.pm pq hC;refine⟨T,Bd ?_,hT.len,λ w h0 h1=>?_⟩
 ·simp_arith[gc,h2,h1,hF];exact⟨_,rfl,rfl⟩
 ·have hU:=hR.xP (m:=m) hC;have a8:∀x:Int,0<=x->x<m->x∈L.reverse:=λ x a b=>za2.mpr ((AM ok.pm).mpr ⟨a,b⟩);obtain⟨T',je⟩:∃T':Int->Co,T'=λ x:Int=>if 0<=x/\x<(m:Int) then atC T x else none:=⟨_,rfl⟩
  have cb:∀x:Int,0<=x->x<m->T' x=atC T x:=λ x a b=>by rw[je];exact if_pos ⟨a,b⟩
  have hS:tI (DH L) (λ x y=>AH (Ie A K) (x,y)) s (AH R) T' m:=⟨λ x a b=>by rw[cb x a b];exact hT.top x (a8 x a b),λ x y a b c d hr=>by rw[cb x a b,cb y c d];exact hT.cl x (a8 x a b) y (a8 y c d) hr,λ x c hx=>by
   have au:0<=x/\x<m:=by
    refine zad λ hn=>?_;rw[je] at hx;dsimp only at hx;rw[if_neg hn] at hx;cases hx
   rw[cb x au.1 au.2] at hx;exact hT.sd x c au.1 au.2 hx⟩
  obtain⟨cs,pw,_⟩:=EQ m s rs hs (by omega) (λ r hr=>(ok.ok r hr).1);have bI:=pw.ZM (λ r hr=>(ok.ok r hr).1) h0 h1;have q:=Pz (s:=(s:Int)) (w:=w) ok.kR ok.kept ⟨by omega,by omega⟩ hU hS bI;rw[cb w h0 h1] at q;exact q
abbrev FA:List D->M OT:=zg Fz
def Kl:Txt K mg->BG P w K mg base "costs_out" 5 2 FA:=(zb Fz).1
def Ri:∀(m:Nat) (rs:List Road) (L:List Int) (A:LA) (K:List (Int×Int)) (s:Nat),BM m rs L A K->s<m->∃T:List Co,FA [AI m rs L A K,.int s]=.ok (.lst ((T.map cst).map .sh))/\T.length=m/\∀w:Int,0<=w->w<m->BI rs s w (atC T w):=(zb Fz).2
def Hd:∃F:List D->M OT,(∀ {P w K mg base},Txt K mg->BG P w K mg base "costs_in" 5 2 F)/\(∀(m:Nat) (rs:List Road) (L:List Int) (A:LA) (K:List (Int×Int)) (s:Nat),BM m rs L A K->s<m->∃T:List Co,F [AI m rs L A K,.int s]=.ok (.lst ((T.map cst).map .sh))/\T.length=m/\∀w:Int,0<=w->w<m->BI rs w s (atC T w)):=by
 refine⟨_,λ T=>Ay (k:=4) T.UL SU _ (λ f B4 A outer s H E hr=>(A6 (Am (Aa A8.toXCall (To T) (hr.mono (by decide)) rfl (A2 (Ag (F3 (k:=1) [("Ladder",AA)] A8.toXCall (CS (by decide) (Cy T) DC) (hr.mono (by decide)) (A1 0 (pv 0)))) (A2 (Ag (Aa A8.toXCall (Hb T) (hr.mono (by decide)) rfl (A2 (A1 0 (pv 0)) A4) rfl)) (A2 (A1 1 (pv 1)) A4))) rfl)))),?_⟩;intro m rs L A K s ok hs;have hm:=ok.m2;have e0:AE ["ladder","goal"] [AI m rs L A K,.int s]=[some (.val (AI m rs L A K)),some (.val (.int s))]:=rfl;rw[e0];have h1:=Hc m rs L A K ok;have h2:=Cz m rs L A K;have gc:GF [("Ladder",AA)] "order" (AI m rs L A K)=.ok AA:=rfl;have pq:(s:Int)∈L:=(AM ok.pm).mpr ⟨by omega,by omega⟩;have ge:∀p c,AH (Ie A K) p=some c->p.1∈L/\p.2∈L:=λ p c h=>by
  have hm:=QJ h;unfold Ie at hm;obtain⟨q,hq,e⟩:=zA.mp hm;cases e;have:=ok.XT hq;exact⟨(AM ok.pm).mpr this.2.1,(AM ok.pm).mpr this.2.2⟩
 have hC:∀p c,AH (SK (Ie A K)) p=some c->p.1∈L/\p.2∈L:=λ p c h=>by
  rw[show p=(p.1,p.2) from rfl,QT] at h;have:=ge _ _ h;exact⟨this.2,this.1⟩
 obtain⟨R,T,hF,hR,hT⟩:=Tp m L (SK (Ie A K)) s (by omega) ok.pm pq hC;refine⟨T,Bd ?_,hT.len,λ w h0 h1=>?_⟩
 ·simp_arith[gc,h2,h1,hF];exact⟨_,rfl,rfl⟩
 ·have hU:=hR.xP (m:=m) hC;have a8:∀x:Int,0<=x->x<m->x∈L.reverse:=λ x a b=>za2.mpr ((AM ok.pm).mpr ⟨a,b⟩);obtain⟨T',je⟩:∃T':Int->Co,T'=λ x:Int=>if 0<=x/\x<(m:Int) then atC T x else none:=⟨_,rfl⟩
  have cb:∀x:Int,0<=x->x<m->T' x=atC T x:=λ x a b=>by rw[je];exact if_pos ⟨a,b⟩
  have hS:tI (DH L) (λ x y=>AH (SK (Ie A K)) (x,y)) s (AH R) T' m:=⟨λ x a b=>by rw[cb x a b];exact hT.top x (a8 x a b),λ x y a b c d hr=>by rw[cb x a b,cb y c d];exact hT.cl x (a8 x a b) y (a8 y c d) hr,λ x c hx=>by
   have au:0<=x/\x<m:=by
    refine zad λ hn=>?_;rw[je] at hx;dsimp only at hx;rw[if_neg hn] at hx;cases hx
   rw[cb x au.1 au.2] at hx;exact hT.sd x c au.1 au.2 hx⟩
  have wr:(λ x y=>AH (SK (Ie A K)) (x,y))=λ x y=>AH (Ie A K) (y,x):=by funext x y;exact QT x y _
  rw[wr] at hU hS;obtain⟨cs,pw,_⟩:=EQ m w.toNat rs (by omega) (by omega) (λ r hr=>(ok.ok r hr).1);have bI:=pw.ZM (λ r hr=>(ok.ok r hr).1) (w:=(s:Int)) (by omega) (by omega);have ew:((w.toNat:Nat):Int)=w:=by omega
  rw[ew] at bI;have q:=(Pz (s:=(s:Int)) (w:=w) ok.kR.turn ok.kept.turn ⟨by omega,by omega⟩ hU hS bI.turn).turn;rw[HR,cb w h0 h1] at q;exact q
abbrev HW:List D->M OT:=zg Hd
def LL:Txt K mg->BG P w K mg base "costs_in" 5 2 HW:=(zb Hd).1
def Tq:∀(m:Nat) (rs:List Road) (L:List Int) (A:LA) (K:List (Int×Int)) (s:Nat),BM m rs L A K->s<m->∃T:List Co,HW [AI m rs L A K,.int s]=.ok (.lst ((T.map cst).map .sh))/\T.length=m/\∀w:Int,0<=w->w<m->BI rs w s (atC T w):=(zb Hd).2
def FC:∃F:List D->M OT,(∀ {P w K mg base},Txt K mg->BG P w K mg base "lies_over" 2 3 F)/\(∀(m:Nat) (T:List Co) (W:List (Int×List Co)) (h:Int),m<=20->T.length=m->W.length<=900->(∀k∈W,(0<=k.1/\k.1<m)/\k.2.length=m)->0<=h->h<m->F [.lst (T.map cst),.lst (W.map dX),.int h]=.ok (.sh (.bl (W.any λ k=>decide (Aj (atC T k.1) (atC k.2 h)=atC T h))))):=by
 refine⟨_,λ T=>Ay (k:=1) T.T6 R4 _ (λ f B4 A outer s H E hr=>(A6 (Am (AV (gF rfl rfl T.tR (Ag (CQ (NB:=["higher","row","costs","hub"]) [none,none,some 0,some 2] rfl (AW (A1 1 (pv 1))) rfl rfl (Qx (n:=2) rfl (DM 0 (by decide) rfl rfl rfl (DM 1 (by decide) rfl rfl rfl Na))) (λ _ _ _ _=>EA) (λ _ _ _ _=>(YN (AQ hr 16 (by decide)) (Ag (Bq (Aa (AL rfl).toXCall (GW T) (hr.mono (by decide)) rfl (A2 (Ab (AQ hr 16 (by decide)) (A1 2 (pv 2)) (A1 0 (pv 0))) (A2 (Ab (AQ hr 16 (by decide)) (A1 1 (pv 1)) (A1 3 (pv 3))) A4)) rfl))) (Ab (AQ hr 16 (by decide)) (A1 2 (pv 2)) (A1 3 (pv 3)))))))))))),?_⟩;intro m T W h hm hT hW hk h0 h1;have e0:AE ["costs","known","hub"] [.lst (T.map cst),.lst (W.map dX),.int h]=[some (.val (.lst (T.map cst))),some (.val (.lst (W.map dX))),some (.val (.int h))]:=rfl;rw[e0];refine Bd ?_;have x1:AX (.lst (T.map cst)) (.int h)=.ok (cst (atC T h)):=Cd h0 (by omega);have hl:(W.map dX).length<=1000:=by rw[zc];omega
 simp_arith[if_pos hl];rw[Ca (λ k:Int×List Co=>D.bl (decide (Aj (atC T k.1) (atC k.2 h)=atC T h))) (λ k fc=>⟨_,rfl,rfl,by
  obtain⟨⟨k0,k1⟩,k2⟩:=hk k fc;have x2:AX (.lst (T.map cst)) (.int k.1)=.ok (cst (atC T k.1)):=Cd k0 (by omega);have x3:AX (.lst (k.2.map cst)) (.int h)=.ok (cst (atC k.2 h)):=Cd h0 (by omega);have d4:=GX (atC T k.1) (atC k.2 h);have pz:=QD (Aj (atC T k.1) (atC k.2 h)) (atC T h);simp_arith[x1,x2,x3,d4,pz]⟩)]
 have e1:(W.map λ k=>D.bl (decide (Aj (atC T k.1) (atC k.2 h)=atC T h)))=(W.map λ k=>decide (Aj (atC T k.1) (atC k.2 h)=atC T h)).map D.bl:=by rw[yK];rfl
 simp_arith[e1];rw[List.any_map];rfl
abbrev NW:List D->M OT:=zg FC
def Rj:Txt K mg->BG P w K mg base "lies_over" 2 3 NW:=(zb FC).1
def Rk:∀(m:Nat) (T:List Co) (W:List (Int×List Co)) (h:Int),m<=20->T.length=m->W.length<=900->(∀k∈W,(0<=k.1/\k.1<m)/\k.2.length=m)->0<=h->h<m->NW [.lst (T.map cst),.lst (W.map dX),.int h]=.ok (.sh (.bl (W.any λ k=>decide (Aj (atC T k.1) (atC k.2 h)=atC T h)))):=(zb FC).2
def He:∃F:List D->M OT,(∀ {P w K mg base},Txt K mg->BG P w K mg base "label_by" 6 3 F)/\(∀(m:Nat) (rs:List Road) (L:List Int) (A:LA) (K:List (Int×Int)) (C:Int->Int->Co) (p:Nat) (x:Str),BM m rs L A K->kX m C->p<m->(∀s:Int,0<=s->s<m->∃T:List Co,(Xy) "costs_out" (FA) "costs_in" (HW) (.ok [AI m rs L A K,.int s]) (.ET x)=.ok (.lst ((T.map cst).map .sh))/\T.length=m/\∀w:Int,0<=w->w<m->atC T w=C s w)->F [AI m rs L A K,.int p,.ET x]=.ok (.lst (((C1 C p L.reverse).map (B7 C p)).map .sh))):=by
 refine⟨_,λ T=>Ay (k:=5) T.UM Dm _ (λ f B4 A outer s H E hr=>(A3 (AU 3 Dm.nd rfl (zO rfl) (Ag (SO A8.toXCall T.GV (Kl T) (hr.mono (by decide)) T.IX (LL T) (hr.mono (by decide)) (A1 2 (pv 2)) (A2 (A1 0 (pv 0)) (A2 (A1 1 (pv 1)) A4)) rfl))) (A3 (Bw 4 Dm.nd rfl (zO rfl) (Fm CP)) (A3 (Bw 5 Dm.nd rfl (zO rfl) (Fm CP)) (A3 (Bp A8.toXCall.own rfl (ZH rfl T.NP (Ag (F3 (k:=1) [("Ladder",AA)] A8.toXCall (CS (by decide) (Cy T) DC) (hr.mono (by decide)) (A1 0 (pv 0))))) (AF 6 Dm.nd rfl (zO rfl)) (A6 (B3 (IJ (DW.dt (IE (Hs (c:=true) (Ab (AQ hr 16 (by decide)) (A1 3 (pv 3)) (A1 6 (pv 6)))) (Ht (Bj (Bc (c:=true) (Ag (Aa A8.toXCall (Rj T) (hr.mono (by decide)) rfl (A2 (A1 3 (pv 3)) (A2 (A1 5 (pv 5)) (A2 (A1 6 (pv 6)) A4))) rfl)))))))) (A3 (DL 4 (pv 4) (AB (A2 (A1 6 (pv 6)) (A2 (Ab (AQ hr 16 (by decide)) (A1 3 (pv 3)) (A1 6 (pv 6))) A4)))) (A6 (nW (BJ 5 (pv 5)) (Zd (Jl (AV (A1 6 (pv 6))) (Jl (SO A8.toXCall T.GV (Kl T) (hr.mono (by decide)) T.IX (LL T) (hr.mono (by decide)) (A1 2 (pv 2)) (A2 (A1 0 (pv 0)) (A2 (A1 6 (pv 6)) A4)) rfl) CP)))))) Ar))) (A6 (Ck 4 (pv 4)))))))),?_⟩;intro m rs L A K C p x ok hC hp hG;have hm:=ok.m2;have hL:=ok.pm;have hlen:=Ec hL;obtain⟨T,g1,l1,t1⟩:=hG p (by omega) (by omega);have e0:AE ["ladder","place","costs_of","costs","label","known","hub"] [AI m rs L A K,.int p,.ET x]=[some (.val (AI m rs L A K)),some (.val (.int p)),some (.val (.ET x)),none,none,none,none]:=rfl;rw[e0];refine Bd ?_;have hs:GF [("Ladder",AA)] "order" (AI m rs L A K)=.ok AA:=rfl;have ho:=Cz m rs L A K;apply wp_step
 ·simp_arith[g1];rfl
 try simp only[zo,zj]
 apply wp_step
 ·rfl
 try simp only[zo,zj]
 refine wp_step (ρ':=[some (.val (AI m rs L A K)),some (.val (.int p)),some (.val (.ET x)),some (.val (.lst (T.map cst))),some (.own []),some (XG []),none]) (by simp_arith[];try rfl) ?_;refine BC (I:=λ ρ=>∃(s5 s6:Option Cl),ρ=[some (.val (AI m rs L A K)),some (.val (.int p)),some (.val (.ET x)),some (.val (.lst (T.map cst))),some (.own ((C1 C p L.reverse).map (B7 C p))),s5,s6]) ?_ ?_
 ·have ga:(L.map D.int).reverse=L.reverse.map D.int:=by rw[List.map_reverse]
  simp_arith[hs,ho,ga];refine Br (λ i ρ=>∃(W:List (Int×List Co)) (s6:Option Cl),ρ=[some (.val (AI m rs L A K)),some (.val (.int p)),some (.val (.ET x)),some (.val (.lst (T.map cst))),some (.own ((C1 C p (L.reverse.take i)).map (B7 C p))),some (XG W),s6]/\W.map zH=C1 C p (L.reverse.take i)/\∀k∈W,k.2.length=m/\∀w:Int,0<=w->w<m->atC k.2 w=C k.1 w) ⟨[],none,rfl,rfl,λ k hk=>by cases hk⟩ ?_ ?_
  ·rintro i d ρ hd ⟨W,s6,rfl,hW,hk⟩;obtain⟨y,hy,rfl⟩:=BL hd;have aM:=(AM hL).mp (za2.mp (zr hy));have et:L.reverse.take (i+1)=L.reverse.take i++[y]:=by rw[y9,hy];rfl
   have hD:∀z∈L.reverse.take i,0<=z/\z<(m:Int):=λ z hz=>(AM hL).mp (za2.mp (zS hz));have qw:=Ka C p (L.reverse.take i);rw[zT,zR] at qw;have yw:W.length<=20:=by
    have:=congrArg List.length hW;rw[zc] at this;omega
   have so:∀k∈W,(0<=k.1/\k.1<m)/\k.2.length=m:=λ k h=>⟨hD _ (SN C p _ _ (by rw[<-hW];exact List.mem_map_of_mem h)),(hk k h).1⟩;refine⟨_,rfl,?_⟩;have x1:AX (.lst (T.map cst)) (.int y)=.ok (cst (C p y)):=by rw[<-t1 y aM.1 aM.2];exact Cd aM.1 (by omega)
   rw[et,L1];cases hc:C p y with
   |none =>
    rw[hc] at x1;have aV:Cr (cst none)=true:=rfl;rw[Nx hc,if_neg (by decide),zF];exact AY (ρ':=[some (.val (AI m rs L A K)),some (.val (.int p)),some (.val (.ET x)),some (.val (.lst (T.map cst))),some (.own ((C1 C p (L.reverse.take i)).map (B7 C p))),some (XG W),some (.val (.int y))]) (by simp_arith[QY,x1,aV];try rfl) ⟨W,_,rfl,hW,hk⟩
   |some c =>
    have ae:C p y≠none:=by rw[hc];exact λ z=>by cases z
    rw[hc] at x1;have aV:Cr (cst (some c))=false:=rfl;have gy:=Rk m T W y (by omega) l1 (by omega) so aM.1 aM.2;have wt:(W.any λ k=>decide (Aj (atC T k.1) (atC k.2 y)=atC T y))=(L.reverse.take i).any λ z=>decide (Aj (C p z) (C z y)=C p y):=by
     rw[<-Xw hC ⟨by omega,by omega⟩ aM hD ae,<-hW,List.any_map];refine pH λ k h=>?_;obtain⟨⟨a,b⟩,_⟩:=so k h;rw[Function.comp,t1 k.1 a b,t1 y aM.1 aM.2,(hk k h).2 y aM.1 aM.2]
    rw[wt] at gy;rw[IU ae];cases hz:(L.reverse.take i).any λ z=>decide (Aj (C p z) (C z y)=C p y) with
    |true =>
     rw[hz] at gy;rw[Bool.not_true,if_neg (by decide),zF];exact AY (ρ':=[some (.val (AI m rs L A K)),some (.val (.int p)),some (.val (.ET x)),some (.val (.lst (T.map cst))),some (.own ((C1 C p (L.reverse.take i)).map (B7 C p))),some (XG W),some (.val (.int y))]) (by simp_arith[QY,x1,aV,gy,DB];try rfl) ⟨W,_,rfl,hW,hk⟩
    |false =>
     rw[hz] at gy;rw[Bool.not_false,if_pos rfl];obtain⟨U,g2,l2,t2⟩:=hG y aM.1 aM.2;have aI:((C1 C p (L.reverse.take i)).map (B7 C p)).length<1000:=by rw[zc];omega
     have gf:(W.map jR).length<1000:=by rw[zc];omega
     have eh:B7 C p y=.tup [.int y,cst (some c)]:=by unfold B7;rw[hc]
     have ek:OT.tup [.sh (.int y),.lst ((U.map cst).map .sh)]=jR (y,U):=rfl;refine AY (ρ':=[some (.val (AI m rs L A K)),some (.val (.int p)),some (.val (.ET x)),some (.val (.lst (T.map cst))),some (.own ((C1 C p (L.reverse.take i)++[y]).map (B7 C p))),some (XG (W++[(y,U)])),some (.val (.int y))]) (by
      rw[z6,List.map_singleton,eh];simp_arith[QY,x1,aV,gy,DB,if_pos aI,if_true,WI];simp_arith[jS,cX,g2,ek,if_pos gf,jT];try rfl) ⟨_,_,rfl,by rw[z6,hW];rfl,λ k h=>?_⟩
     rcases zy.mp h with h|h
     ·exact hk k h
     ·rw[zi.mp h];exact⟨l2,t2⟩
  ·rintro ρ ⟨W,s6,rfl,_,_⟩;have e:L.reverse.take (L.reverse.map D.int).length=L.reverse:=by rw[zc,y8]
   rw[e];exact⟨_,_,rfl⟩
 ·rintro ρ ⟨s5,s6,rfl⟩;exact⟨_,rfl,rfl⟩
abbrev PP:List D->M OT:=zg He
def LM:Txt K mg->BG P w K mg base "label_by" 6 3 PP:=(zb He).1
def LN:∀(m:Nat) (rs:List Road) (L:List Int) (A:LA) (K:List (Int×Int)) (C:Int->Int->Co) (p:Nat) (x:Str),BM m rs L A K->kX m C->p<m->(∀s:Int,0<=s->s<m->∃T:List Co,(Xy) "costs_out" (FA) "costs_in" (HW) (.ok [AI m rs L A K,.int s]) (.ET x)=.ok (.lst ((T.map cst).map .sh))/\T.length=m/\∀w:Int,0<=w->w<m->atC T w=C s w)->PP [AI m rs L A K,.int p,.ET x]=.ok (.lst (((C1 C p L.reverse).map (B7 C p)).map .sh)):=(zb He).2
def FD:∃F:List D->M OT,(∀ {P w K mg base},Txt K mg->BG P w K mg base "label_out" 7 2 F)/\(∀(m:Nat) (rs:List Road) (L:List Int) (A:LA) (K:List (Int×Int)) (c:Int->Int->Co) (p:Nat),BM m rs L A K->(∀x y:Int,0<=x->x<m->0<=y->y<m->BI rs x y (c x y))->p<m->F [AI m rs L A K,.int p]=.ok (.lst (((C1 c p L.reverse).map (B7 c p)).map .sh))):=by
 refine⟨_,λ T=>Ay (k:=6) T.T7 R5 _ (λ f B4 A outer s H E hr=>(A6 (Am (Aa A8.toXCall (LM T) (hr.mono (by decide)) rfl (A2 (A1 0 (pv 0)) (A2 (A1 1 (pv 1)) (A2 (cR T.GV rfl) A4))) rfl)))),?_⟩;intro m rs L A K c p ok hA hp;have h:=LN m rs L A K c p "costs_out" ok (Wa hA) hp λ s h0 h1=>by
  obtain⟨s',rfl⟩:∃s':Nat,(s':Int)=s:=⟨s.toNat,by omega⟩;obtain⟨T,g1,l1,t1⟩:=Ri m rs L A K s' ok (by omega);exact⟨T,g1,l1,λ w a b=>(t1 w a b).Ci (hA _ _ h0 h1 a b)⟩
 have e0:AE ["ladder","place"] [AI m rs L A K,.int p]=[some (.val (AI m rs L A K)),some (.val (.int p))]:=rfl;rw[e0];refine Bd ?_;simp_arith[h];exact⟨_,rfl,rfl⟩
abbrev J1:List D->M OT:=zg FD
def Km:Txt K mg->BG P w K mg base "label_out" 7 2 J1:=(zb FD).1
def Rl:∀(m:Nat) (rs:List Road) (L:List Int) (A:LA) (K:List (Int×Int)) (c:Int->Int->Co) (p:Nat),BM m rs L A K->(∀x y:Int,0<=x->x<m->0<=y->y<m->BI rs x y (c x y))->p<m->J1 [AI m rs L A K,.int p]=.ok (.lst (((C1 c p L.reverse).map (B7 c p)).map .sh)):=(zb FD).2
def ER:∃F:List D->M OT,(∀ {P w K mg base},Txt K mg->BG P w K mg base "label_into" 7 2 F)/\(∀(m:Nat) (rs:List Road) (L:List Int) (A:LA) (K:List (Int×Int)) (c:Int->Int->Co) (p:Nat),BM m rs L A K->(∀x y:Int,0<=x->x<m->0<=y->y<m->BI rs x y (c x y))->p<m->F [AI m rs L A K,.int p]=.ok (.lst (((C1 (λ x y=>c y x) p L.reverse).map (B7 (λ x y=>c y x) p)).map .sh))):=by
 refine⟨_,λ T=>Ay (k:=6) T.Rc Ot _ (λ f B4 A outer s H E hr=>(A6 (Am (Aa A8.toXCall (LM T) (hr.mono (by decide)) rfl (A2 (A1 0 (pv 0)) (A2 (A1 1 (pv 1)) (A2 (cR T.IX rfl) A4))) rfl)))),?_⟩;intro m rs L A K c p ok hA hp;have h:=LN m rs L A K (λ x y=>c y x) p "costs_in" ok (Wa hA).turn hp λ s h0 h1=>by
  obtain⟨s',rfl⟩:∃s':Nat,(s':Int)=s:=⟨s.toNat,by omega⟩;obtain⟨T,g1,l1,t1⟩:=Tq m rs L A K s' ok (by omega);exact⟨T,g1,l1,λ w a b=>(t1 w a b).Ci (hA _ _ a b h0 h1)⟩
 have e0:AE ["ladder","place"] [AI m rs L A K,.int p]=[some (.val (AI m rs L A K)),some (.val (.int p))]:=rfl;rw[e0];refine Bd ?_;simp_arith[h];exact⟨_,rfl,rfl⟩
abbrev Hf:List D->M OT:=zg ER
def Ip:Txt K mg->BG P w K mg base "label_into" 7 2 Hf:=(zb ER).1
def OD:∀(m:Nat) (rs:List Road) (L:List Int) (A:LA) (K:List (Int×Int)) (c:Int->Int->Co) (p:Nat),BM m rs L A K->(∀x y:Int,0<=x->x<m->0<=y->y<m->BI rs x y (c x y))->p<m->Hf [AI m rs L A K,.int p]=.ok (.lst (((C1 (λ x y=>c y x) p L.reverse).map (B7 (λ x y=>c y x) p)).map .sh)):=(zb ER).2
def Ej:∃F:List D->M OT,(∀ {P w K mg base},Txt K mg->BG P w K mg base "cost_so_far" 1 2 F)/\(∀(A:LA) (p:Int×Int),F [Ll A,pD p]=.ok (.sh (cst (An A p)))):=by
 refine⟨_,λ T=>Ay (k:=0) T.Ou NA _ (λ f B4 A outer s H E hr=>(A3 (B3 (M5 (c:=true) (AQ hr 16 (by decide)) (A1 1 (pv 1)) (A1 0 (pv 0))) (A6 (Am (AV Dr))) Ar) (A6 (Am (AV (Ab (AQ hr 16 (by decide)) (Ab (AQ hr 16 (by decide)) (A1 0 (pv 0)) (A1 1 (pv 1))) A7)))))),?_⟩;intro A p;have e0:AE ["laid","pair"] [Ll A,pD p]=[some (.val (Ll A)),some (.val (pD p))]:=rfl;rw[e0];refine Bd ?_;have hm:=QR A p true;unfold An;cases q:AH A p with
 |none =>
  rw[q] at hm;simp_arith[hm,DB];rfl
 |some v =>
  rw[q] at hm;have hi:=QS q;have h0:AX (Xq v) (.int 0)=.ok (cst (some v.1)):=rfl;apply wp_step
  ·simp_arith[hm,DB];rfl
  simp_arith[hi,h0];rfl
abbrev Kn:List D->M OT:=zg Ej
def Hg:Txt K mg->BG P w K mg base "cost_so_far" 1 2 Kn:=(zb Ej).1
def Hh:∀(A:LA) (p:Int×Int),Kn [Ll A,pD p]=.ok (.sh (cst (An A p))):=(zb Ej).2
def UZ:∃F:OT->List D->M (OT×OT),(∀ {P w K mg base},Txt K mg->Jv P w K mg base "lay" 1 4 F)/\(∀(A:LA) (p:Int×Int) (c:Co) (mid:Option Int),A.length<1000->F (J4 A) [pD p,cst c,GH mid]=.ok (J4 (layA A p c mid),.sh .AK)):=by
 refine⟨_,λ T=>N8 (k:=0) T.tQ pJ _ (λ f B4 A outer s H E hr=>(A6 (B3 (IJ (DW.dt (IE (Hs (c:=true) (A1 2 (pv 2))) (Ht (DW.dt (Dw (M5 (c:=true) (AQ hr 16 (by decide)) (A1 1 (pv 1)) (A1 0 (pv 0))) (D5 (oC (c:=true) (AQ hr 16 (by decide)) (A1 2 (pv 2)) (Ab (AQ hr 16 (by decide)) (Ab (AQ hr 16 (by decide)) (A1 0 (pv 0)) (A1 1 (pv 1))) A7))))))))) (A6 (M7 (AQ hr 16 (by decide)) (BJ 0 (pv 0)) (A1 1 (pv 1)) (AB (A2 (A1 2 (pv 2)) (A2 (A1 3 (pv 3)) A4))))) Ar))),?_⟩;intro A p c mid hA;have e0:CM ["laid","pair","cost","middle"] (J4 A) [pD p,cst c,GH mid]=[some (.ow (.tree (some 0) (J4 A))),some (.val (pD p)),some (.val (cst c)),some (.val (GH mid))]:=rfl;rw[e0];refine QU ?_;have hm:=QR A p true;have sq:∀c:Int×Int,D.tup [cst (some c),GH mid]=Xq (c,mid):=λ c=>rfl;have hl:(A.map λ kv=>pD kv.1).length<1000:=by rw[zc];exact hA
 have g8:keyOk true (pD p)=true:=rfl;have af:∀v,(List.map (λ kv=>pD kv.1) (Ds A p v))=(List.map (λ kv=>pD kv.1) (Ds A p v)):=λ _=>rfl;cases c with
 |none =>
  refine AY (ρ':=_) (by simp_arith[cst,Cr];rfl) ⟨rfl,rfl⟩
 |some c =>
  have aV:Cr (cst (some c))=false:=rfl;cases q:AH A p with
  |none =>
   rw[q] at hm;have el:layA A p (some c) mid=Ds A p (c,mid):=by unfold layA;dsimp only;rw[q]
   rw[el];refine AY (ρ':=[some (.ow (.tree (some 0) (J4 (Ds A p (c,mid))))),some (.val (pD p)),some (.val (cst (some c))),some (.val (GH mid))]) (by
    simp_arith[aV,hm,DB,DR,sq,if_pos (And.intro g8 hl),cK,g8,hl,and_self,if_true];rfl) ⟨rfl,rfl⟩
  |some z =>
   rw[q] at hm;have hi:=QS q;have h0:AX (Xq z) (.int 0)=.ok (cst (some z.1)):=rfl;have hx:=wL c z.1;by_cases hc:c.1<z.1.1\/(c.1=z.1.1/\c.2<z.1.2)
   ·have el:layA A p (some c) mid=Ds A p (c,mid):=by unfold layA;dsimp only;rw[q];dsimp only;rw[if_pos hc]
    rw[decide_eq_true hc] at hx;rw[el];refine AY (ρ':=[some (.ow (.tree (some 0) (J4 (Ds A p (c,mid))))),some (.val (pD p)),some (.val (cst (some c))),some (.val (GH mid))]) (by
     simp_arith[aV,hm,hi,h0,hx,DB,DR,sq,if_pos (And.intro g8 hl),cK,g8,hl,and_self,if_true];rfl) ⟨rfl,rfl⟩
   ·have el:layA A p (some c) mid=A:=by unfold layA;dsimp only;rw[q];dsimp only;rw[if_neg hc]
    rw[decide_eq_false hc] at hx;rw[el];refine AY (ρ':=_) (by simp_arith[aV,hm,hi,h0,hx,DB];rfl) ⟨rfl,rfl⟩
abbrev tS:OT->List D->M (OT×OT):=zg UZ
def dO:Txt K mg->Jv P w K mg base "lay" 1 4 tS:=(zb UZ).1
def dP:∀(A:LA) (p:Int×Int) (c:Co) (mid:Option Int),A.length<1000->tS (J4 A) [pD p,cst c,GH mid]=.ok (J4 (layA A p c mid),.sh .AK):=(zb UZ).2
def Hi:∃F:OT->List D->M (OT×OT),(∀ {P w K mg base},Txt K mg->Jv P w K mg base "lay_over" 2 3 F)/\(∀(m:Nat) (A:LA) (p:Int) (H:List Int),m<=20->Fc m A->(∀x∈H,0<=x/\x<m)->F (J4 A) [.int p,.lst (H.map D.int)]=.ok (J4 (oO A p H),.sh .AK)):=by
 refine⟨_,λ T=>N8 (k:=1) T.UN ED _ (λ f B4 A outer s H E hr=>(A6 (Bp A8.toXCall.own rfl (AW (A1 2 (pv 2))) (AF 3 ED.nd rfl (zO rfl)) (A6 (Bp A8.toXCall.own rfl (AW (A1 2 (pv 2))) (AF 4 ED.nd rfl (zO rfl)) (A6 (B3 (Lg (c:=true) (AQ hr 16 (by decide)) (A1 3 (pv 3)) (A1 4 (pv 4))) (A3 (AU 5 ED.nd rfl (zO rfl) (Ag (E9 (Aa A8.toXCall (GW T) (hr.mono (by decide)) rfl (A2 (Ag (Aa A8.toXCall (Hg T) (hr.mono (by decide)) rfl (A2 (A1 0 (pv 0)) (A2 (AB (A2 (A1 3 (pv 3)) (A2 (A1 1 (pv 1)) A4))) A4)) rfl)) (A2 (Ag (Aa A8.toXCall (Hg T) (hr.mono (by decide)) rfl (A2 (A1 0 (pv 0)) (A2 (AB (A2 (A1 1 (pv 1)) (A2 (A1 4 (pv 4)) A4))) A4)) rfl)) A4)) rfl)))) (A6 (N9 (Zo A8.toXCall (dO T) (hr.mono (by decide)) rfl (BJ 0 (pv 0)) (A2 (AB (A2 (A1 3 (pv 3)) (A2 (A1 4 (pv 4)) A4))) (A2 (A1 5 (pv 5)) (A2 (A1 1 (pv 1)) A4))) rfl)))) Ar))))))),?_⟩;intro m A p H hm hA hH;have e0:CM ["laid","place","higher","u","w","cost"] (J4 A) [.int p,.lst (H.map D.int)]=[some (.ow (.tree (some 0) (J4 A))),some (.val (.int p)),some (.val (.lst (H.map D.int))),none,none,none]:=rfl;rw[e0];refine QU ?_;simp_arith[];refine Br (λ i ρ=>∃s3 s4 s5:Option Cl,ρ=[some (.ow (.tree (some 0) (J4 ((H.take i).foldl (jI p H) A)))),some (.val (.int p)),some (.val (.lst (H.map D.int))),s3,s4,s5]) ⟨none,none,none,rfl⟩ ?_ ?_
 ·rintro i d ρ hd ⟨s3,s4,s5,rfl⟩;obtain⟨u,hu,rfl⟩:=BL hd;have o8:=hH u (zr hu);refine⟨_,rfl,?_⟩;obtain⟨B,hB⟩:∃B,B=(H.take i).foldl (jI p H) A:=⟨_,rfl⟩;have gh:Fc m B:=by rw[hB];exact Fc.lo hH hA λ x hx=>hH x (zS hx)
  rw[<-hB,Ed hu,<-hB];simp_arith[];refine Br (λ j ρ=>∃s4 s5:Option Cl,ρ=[some (.ow (.tree (some 0) (J4 ((H.take j).foldl (QK p u) B)))),some (.val (.int p)),some (.val (.lst (H.map D.int))),some (.val (.int u)),s4,s5]) ⟨s4,s5,rfl⟩ ?_ ?_
  ·rintro j d ρ hd ⟨s4,s5,rfl⟩;obtain⟨w,hw,rfl⟩:=BL hd;have yx:=hH w (zr hw);refine⟨_,rfl,?_⟩;obtain⟨C,hC⟩:∃C,C=(H.take j).foldl (QK p u) B:=⟨_,rfl⟩;have p6:Fc m C:=by rw[hC];exact Fc.ou o8 gh λ x hx=>hH x (zS hx)
   rw[Ed hw,<-hC];by_cases e:u=w
   ·have ev:QK p u C w=C:=by unfold QK;rw[if_pos e]
    rw[ev];refine AY (ρ':=_) (by simp_arith[decide_eq_true e];rfl) ⟨_,_,rfl⟩
   ·have ev:QK p u C w=layA C (u,w) (Aj (An C (u,p)) (An C (p,w))) (some p):=by unfold QK;rw[if_neg e]
    rw[ev];have h1:=Hh C (u,p);have h2:=Hh C (p,w);have h3:=GX (An C (u,p)) (An C (p,w));have h4:=dP C (u,w) (Aj (An C (u,p)) (An C (p,w))) (some p) (p6.len hm);have t1:∀a b:Int,D.tup [.int a,.int b]=pD (a,b):=λ a b=>rfl;have t2:GH (some p)=.int p:=rfl;rw[t2] at h4;have h5:=KZ (ρ:=[some (.ow (.tree (some 0) (J4 C))),some (.val (.int p)),some (.val (.lst (H.map D.int))),some (.val (.int u)),some (.val (.int w)),some (.val (cst (Aj (An C (u,p)) (An C (p,w)))))]) (i:=0) rfl rfl h4;simp_arith[decide_eq_false e,if_true];apply wp_step
    ·simp_arith[t1,h1,h2,h3];rfl
    refine AY (ρ':=_) (by simp_arith[t1,h5];rfl) ⟨_,_,rfl⟩
  ·rintro ρ ⟨s4,s5,rfl⟩;rw[zc,y8];exact⟨_,s4,s5,rfl⟩
 ·rintro ρ ⟨s3,s4,s5,rfl⟩;rw[zc,y8];exact⟨rfl,trivial⟩
abbrev PQ:OT->List D->M (OT×OT):=zg Hi
def Ts:Txt K mg->Jv P w K mg base "lay_over" 2 3 PQ:=(zb Hi).1
def Tt:∀(m:Nat) (A:LA) (p:Int) (H:List Int),m<=20->Fc m A->(∀x∈H,0<=x/\x<m)->PQ (J4 A) [.int p,.lst (H.map D.int)]=.ok (J4 (oO A p H),.sh .AK):=(zb Hi).2
def FE:∃F:List D->M OT,(∀ {P w K mg base},Txt K mg->BG P w K mg base "laid_arcs" 3 2 F)/\(∀(m:Nat) (rs:List Road) (L:List Int),m<=20->L.Perm (AR m)->(∀r∈rs,G7 m r/\r.a≠r.b)->F [Ap m rs,.lst (L.map D.int)]=.ok (J4 (BZ rs L))):=by
 refine⟨_,λ T=>Ay (k:=2) T.T8 CT _ (λ f B4 A outer s H E hr=>(A3 (Bw 2 CT.nd rfl (zO rfl) (Sh true)) (A3 (Bp A8.toXCall.own rfl (AW (Ab (AQ hr 16 (by decide)) (A1 0 (pv 0)) A7)) (AF 3 CT.nd rfl (zO rfl)) (A6 (N9 (Zo A8.toXCall (dO T) (hr.mono (by decide)) rfl (BJ 2 (pv 2)) (A2 (AB (A2 (Ab (AQ hr 16 (by decide)) (A1 3 (pv 3)) A7) (A2 (Ab (AQ hr 16 (by decide)) (A1 3 (pv 3)) A7) A4))) (A2 (Ag (Aa A8.toXCall (Fx T) (hr.mono (by decide)) rfl (A2 (A1 3 (pv 3)) A4) rfl)) (A2 Dr A4))) rfl)))) (A3 (Bp A8.toXCall.own rfl (Vp rfl T.LH (A1 1 (pv 1))) (Qn (n:=2) rfl (Dl (AF 4 CT.nd rfl (zO rfl)) (Dl (AF 5 CT.nd rfl (zO rfl)) LZ))) (A6 (N9 (Zo A8.toXCall (Ts T) (hr.mono (by decide)) rfl (BJ 2 (pv 2)) (A2 (A1 5 (pv 5)) (A2 (Ag (Jx (A1 1 (pv 1)) (Jg (BS (A1 4 (pv 4)) A7)) Qm)) A4)) rfl)))) (A6 (Ck 2 (pv 2))))))),?_⟩;intro m rs L hm hL Au;have e0:AE ["net","order","laid","road","rank","place"] [Ap m rs,.lst (L.map D.int)]=[some (.val (Ap m rs)),some (.val (.lst (L.map D.int))),none,none,none,none]:=rfl;rw[e0];refine Bd ?_;have n1:AX (Ap m rs) (.int 1)=.ok (.lst (rs.map BH)):=rfl;apply wp_step
 ·rfl
 try simp only[zo,zj]
 have gi:∀i,i<=rs.length->Fc m ((rs.take i).foldl (λ A r=>layA A (r.a,r.b) (Cc r) none) []):=λ i hi=>by
  have:=(QL (m:=m) (rs:=rs.take i) λ r hr=>Au r (zS hr)).1;exact this
 refine BC (I:=λ ρ=>∃s3 s4 s5:Option Cl,ρ=[some (.val (Ap m rs)),some (.val (.lst (L.map D.int))),some (.ow (.tree none (J4 (lay0 rs)))),s3,s4,s5]) ?_ ?_
 ·simp_arith[n1];refine Br (λ i ρ=>i<=rs.length/\∃s3 s4 s5:Option Cl,ρ=[some (.val (Ap m rs)),some (.val (.lst (L.map D.int))),some (.ow (.tree none (J4 ((rs.take i).foldl (λ A r=>layA A (r.a,r.b) (Cc r) none) [])))),s3,s4,s5]) ⟨zM _,none,none,none,rfl⟩ ?_ ?_
  ·rintro i d ρ hd ⟨hi,s3,s4,s5,rfl⟩;obtain⟨r,hr,rfl⟩:=BL hd;have af:=(zx.mp hr).1;refine⟨_,rfl,?_⟩;rw[Ed hr];obtain⟨B,hB⟩:∃B,B=(rs.take i).foldl (λ A r=>layA A (r.a,r.b) (Cc r) none) []:=⟨_,rfl⟩;have gh:Fc m B:=by rw[hB];exact gi i hi
   rw[<-hB];have i0:AX (BH r) (.int 0)=.ok (.int r.a):=rfl;have i1:AX (BH r) (.int 1)=.ok (.int r.b):=rfl;have h1:=Fy r;have h2:=dP B (r.a,r.b) (Cc r) none (gh.len hm);have t1:∀a b:Int,D.tup [.int a,.int b]=pD (a,b):=λ a b=>rfl;have t2:GH none=.AK:=rfl;rw[t2] at h2;have h5:=KZ (ρ:=[some (.val (Ap m rs)),some (.val (.lst (L.map D.int))),some (.ow (.tree none (J4 B))),some (.val (BH r)),s4,s5]) (i:=2) rfl rfl h2;refine AY (ρ':=_) (by simp_arith[i0,i1,h1,t1,h5];rfl) ⟨af,_,_,_,rfl⟩
  ·rintro ρ ⟨_,s3,s4,s5,rfl⟩;rw[zc,y8];exact⟨s3,s4,s5,rfl⟩
 ·rintro ρ ⟨s3,s4,s5,rfl⟩;have jd:=QL Au;refine BC (I:=λ ρ=>∃s3 s4 s5:Option Cl,ρ=[some (.val (Ap m rs)),some (.val (.lst (L.map D.int))),some (.ow (.tree none (J4 (BZ rs L)))),s3,s4,s5]) ?_ ?_
  ·simp_arith[];refine Br (λ i ρ=>i<=L.length/\∃(G:LA) (s3 s4 s5:Option Cl),ρ=[some (.val (Ap m rs)),some (.val (.lst (L.map D.int))),some (.ow (.tree none (J4 G))),s3,s4,s5]/\Fc m G/\UA G (L.drop i)=UA (lay0 rs) L) ⟨zM _,lay0 rs,s3,s4,s5,rfl,jd.1,rfl⟩ ?_ ?_
   ·rintro i d ρ hd ⟨hi,G,s3,s4,s5,rfl,hG,jf⟩;obtain⟨d',aB,rfl⟩:=KL hd;obtain⟨p,hp,rfl⟩:=BL aB;have af:=(zx.mp hp).1;rw[Nat.zero_add];refine⟨_,rfl,?_⟩;have bE:∀x∈L.drop (i+1),0<=x/\x<m:=λ x hx=>(AM hL).mp (List.mem_of_mem_drop hx);have ed:L.drop i=p::L.drop (i+1):=by
     rw[zb0 af];rw[zh af] at hp;rw[z7 hp]
    rw[ed,UA] at jf;have h2:=Tt m G p (L.drop (i+1)) hm hG bE;have sl:dU (some ((i:Int)+1)) none (.lst (L.map D.int))=.ok (.lst (((L.drop (i+1)).map D.int).map .sh)):=by rw[List.map_drop];exact Nc _ (i+1)
    have h5:=KZ (ρ:=[some (.val (Ap m rs)),some (.val (.lst (L.map D.int))),some (.ow (.tree none (J4 G))),s3,some (.val (.int i)),some (.val (.int p))]) (i:=2) rfl rfl h2;refine AY (ρ':=_) (by simp_arith[sl,h5];rfl) ⟨af,_,_,_,_,rfl,Fc.lo bE hG bE,jf⟩
   ·rintro ρ ⟨_,G,s3,s4,s5,rfl,hG,jf⟩;rw[Hu,zc,zam,UA] at jf;exact⟨s3,s4,s5,by rw[jf];rfl⟩
  ·rintro ρ ⟨s3,s4,s5,rfl⟩;exact⟨_,rfl,rfl⟩
abbrev NX:List D->M OT:=zg FE
def Rm:Txt K mg->BG P w K mg base "laid_arcs" 3 2 NX:=(zb FE).1
def Ro:∀(m:Nat) (rs:List Road) (L:List Int),m<=20->L.Perm (AR m)->(∀r∈rs,G7 m r/\r.a≠r.b)->NX [Ap m rs,.lst (L.map D.int)]=.ok (J4 (BZ rs L)):=(zb FE).2
def Hj:∃F:List D->M OT,(∀ {P w K mg base},Txt K mg->BG P w K mg base "is_order" 2 2 F)/\(∀(m:Nat) (x:D) (L:List Int),m<=60->L.Perm (AR m)->F [.tup [.int m,x],.lst (L.map .int)]=.ok (.sh (.bl true))):=by
 refine⟨_,λ T=>Ay (k:=1) T.UO SV _ (λ f B4 A outer s H E hr=>(A3 (B3 (DW.dt (Dw (Bj (Bc (c:=true) (DZ (KI _) rfl T.B0 rfl T.Ee (by decide +kernel) (A1 1 (pv 1))))) (D5 (Lg (c:=true) (AQ hr 16 (by decide)) (D6 rfl T.Fb (A1 1 (pv 1))) (Ab (AQ hr 16 (by decide)) (A1 0 (pv 0)) A7))))) (A6 (Am (AV BP))) Ar) (A3 (B3 (Bj (Bc (c:=true) (Z6 rfl rfl T.lA (Ag (CQ (NB:=["place","net"]) [none,some 0] rfl (AW (A1 1 (pv 1))) rfl rfl (BY 0 (by decide) rfl rfl rfl) (λ _ _ _ _=>EA) (λ _ _ _ _=>(Ag (Bq (Aa (AL rfl).toXCall (B1 T) (hr.mono (by decide)) rfl (A2 (A1 0 (pv 0)) (A2 (Ab (AQ hr 16 (by decide)) (A1 1 (pv 1)) A7) A4)) rfl))))))))) (A6 (Am (AV BP))) Ar) (A6 (Am (AV (YN (AQ hr 16 (by decide)) (Ag (X8 rfl rfl T.dJ (A1 1 (pv 1)))) (Ag (Jw rfl rfl T.Ee rfl T.Cw (Ab (AQ hr 16 (by decide)) (A1 0 (pv 0)) A7)))))))))),?_⟩;intro m x L hm hL;have e0:AE ["net","thing"] [.tup [.int m,x],.lst (L.map .int)]=[some (.val (.tup [.int m,x])),some (.val (.lst (L.map .int)))]:=rfl;rw[e0];have n0:AX (.tup [.int m,x]) (.int 0)=.ok (.int m):=rfl;refine Bd ?_;have hlen:=Ec hL;have h1:decide (((L.map D.int).length:Int)=(m:Int))=true:=decide_eq_true (by rw[zc];omega);have hl:(L.map D.int).length<=1000:=by rw[zc];omega
 have hs:=X7 (ns:=L) (by omega);have h3:=Qw (n:=m) (by omega);rw[Np] at h3;have e:decide (GC L=AR m)=true:=decide_eq_true (Xo.mpr hL);apply wp_step
 ·simp_arith[n0,h1];rfl
 apply wp_step
 ·simp_arith[if_pos hl];rw[Ca (λ _:Int=>D.bl true) (λ j hj=>⟨_,rfl,rfl,by
   have yy:=GL.mp (hL.mem_iff.mp hj);have:=B2 j m (by omega) (by omega);simp_arith[n0,this]⟩)]
  simp_arith[tM];rfl
 simp_arith[n0,hs,h3,ZV,e];rfl
abbrev PR:List D->M OT:=zg Hj
def Tu:Txt K mg->BG P w K mg base "is_order" 2 2 PR:=(zb Hj).1
def Tv:∀(m:Nat) (x:D) (L:List Int),m<=60->L.Perm (AR m)->PR [.tup [.int m,x],.lst (L.map .int)]=.ok (.sh (.bl true)):=(zb Hj).2
def Dd:∃F:List D->M OT,(∀ {P w K mg base},Txt K mg->BG P w K mg base "checked_order" 3 2 F)/\(∀(m:Nat) (x:D) (L:List Int),m<=60->L.Perm (AR m)->F [.tup [.int m,x],.lst (L.map .int)]=.ok (.lst ((L.map D.int).map .sh))):=by
 refine⟨_,λ T=>Ay (k:=2) T.LW L6 _ (λ f B4 A outer s H E hr=>(A3 (B3 (Bj (Bc (c:=true) (Ag (Aa A8.toXCall (Tu T) (hr.mono (by decide)) rfl (A2 (A1 0 (pv 0)) (A2 (A1 1 (pv 1)) A4)) rfl)))) (A6 Uj) Ar) (A6 (Am (Hy rfl T.Ee (A1 1 (pv 1))))))),?_⟩;intro m x L hm hL;have e0:AE ["net","thing"] [.tup [.int m,x],.lst (L.map .int)]=[some (.val (.tup [.int m,x])),some (.val (.lst (L.map .int)))]:=rfl;rw[e0];have h1:=Tv m x L hm hL;refine Bd ?_;apply wp_step
 ·simp_arith[h1];rfl
 simp_arith[];exact⟨_,rfl,rfl⟩
abbrev Ek:List D->M OT:=zg Dd
def L9:Txt K mg->BG P w K mg base "checked_order" 3 2 Ek:=(zb Dd).1
def La:∀(m:Nat) (x:D) (L:List Int),m<=60->L.Perm (AR m)->Ek [.tup [.int m,x],.lst (L.map .int)]=.ok (.lst ((L.map D.int).map .sh)):=(zb Dd).2
def ES:∃F:List D->M OT,(∀ {P w K mg base},Txt K mg->BG P w K mg base "first_bows" 2 1 F)/\(∀(m:Nat) (rs:List Road),m<=20->(∀r∈rs,G7 m r/\r.a≠r.b)->F [Ap m rs]=.ok (.Bn true ((Bl rs).map pD) ((CZ (Bl rs)).map .sh))):=by
 refine⟨_,λ T=>Ay (k:=1) T.Rf EL _ (λ f B4 A outer s H E hr=>(A3 (Bw 1 EL.nd rfl (zO rfl) (Sh true)) (A3 (Bp A8.toXCall.own rfl (AW (Ab (AQ hr 16 (by decide)) (A1 0 (pv 0)) A7)) (AF 2 EL.nd rfl (zO rfl)) (A6 (B3 (Hs (c:=true) (Ag (Aa A8.toXCall (Fx T) (hr.mono (by decide)) rfl (A2 (A1 2 (pv 2)) A4) rfl))) (A6 (M7 (AQ hr 16 (by decide)) (BJ 1 (pv 1)) (AB (A2 (Ab (AQ hr 16 (by decide)) (A1 2 (pv 2)) A7) (A2 (Ab (AQ hr 16 (by decide)) (A1 2 (pv 2)) A7) A4))) BP)) Ar))) (A6 (Ck 1 (pv 1)))))),?_⟩;intro m rs hm Au;have e0:AE ["net","bows","road"] [Ap m rs]=[some (.val (Ap m rs)),none,none]:=rfl;rw[e0];refine Bd ?_;apply wp_step
 ·rfl
 have n1:AX (Ap m rs) (.int 1)=.ok (.lst (rs.map BH)):=rfl;refine BC (I:=λ ρ=>∃s2,ρ=[some (.val (Ap m rs)),some (.ow (.tree none (.Bn true ((Bl rs).map pD) ((CZ (Bl rs)).map .sh)))),s2]) ?_ ?_
 ·simp_arith[n1];refine Br (λ i ρ=>∃s2,ρ=[some (.val (Ap m rs)),some (.ow (.tree none (.Bn true ((Bl (rs.take i)).map pD) ((CZ (Bl (rs.take i))).map .sh)))),s2]) ⟨none,rfl⟩ ?_ ?_
  ·rintro i d ρ hd ⟨s2,rfl⟩;rw[z5] at hd;cases hq:rs[i]? with
   |none=>rw[hq] at hd;cases hd
   |some r =>
    rw[hq] at hd;cases hd;have hr:=zr hq;have et:rs.take (i+1)=rs.take i++[r]:=by rw[y9,hq];rfl
    have eb:Bl (rs.take (i+1))=(match r.l with|none=>Bl (rs.take i)|some _=>KS (Bl (rs.take i)) (r.a,r.b)):=by
     unfold Bl;rw[et,List.foldl_append];rfl
    have wu:=SF (m:=m) (rs:=rs.take i) λ r' h'=>Au r' (zS h');have hlen:=wu.len hm;have h1:=Fy r;refine⟨_,rfl,?_⟩;cases hl:r.l with
    |none =>
     have e1:Cc r=none:=by unfold Cc;rw[hl]
     rw[hl] at eb;rw[e1] at h1;simp_arith[h1,cst,Cr];exact⟨_,by rw[eb]⟩
    |some l =>
     have e1:Cc r=some (l,1):=by unfold Cc;rw[hl]
     rw[hl] at eb;rw[e1] at h1;have i0:AX (BH r) (.int 0)=.ok (.int r.a):=rfl;have i1:AX (BH r) (.int 1)=.ok (.int r.b):=rfl;have kk:keyOk true (D.tup [.int r.a,.int r.b])=true/\((Bl (rs.take i)).map pD).length<1000:=⟨rfl,by rw[zc];exact hlen⟩;have pp:putD ((Bl (rs.take i)).map pD) (CZ (Bl (rs.take i))) (D.tup [.int r.a,.int r.b]) (.bl true)=_:=W3 (Bl (rs.take i)) (r.a,r.b);simp_arith[h1,cst,Cr,Bool.not_false,if_true,i0,i1,if_pos kk,pp];exact⟨_,by rw[eb]⟩
  ·rintro ρ ⟨s2,rfl⟩;rw[zc,y8];exact⟨s2,rfl⟩
 ·rintro ρ ⟨s2,rfl⟩;exact⟨_,rfl,rfl⟩
abbrev LO:List D->M OT:=zg ES
def OE:Txt K mg->BG P w K mg base "first_bows" 2 1 LO:=(zb ES).1
def OF:∀(m:Nat) (rs:List Road),m<=20->(∀r∈rs,G7 m r/\r.a≠r.b)->LO [Ap m rs]=.ok (.Bn true ((Bl rs).map pD) ((CZ (Bl rs)).map .sh)):=(zb ES).2
def Dv:∃F:List D->M OT,(∀ {P w K mg base},Txt K mg->BG P w K mg base "missing_bows" 1 3 F)/\(∀(B:List (Int×Int)) (vs:List D) (L:List Int) (v:Int),L.length<=30->F [.Bn true (B.map pD) vs,.lst (L.map .int),.int v]=.ok (.lst (((B6 B L v).map pD).map .sh))):=by
 refine⟨_,λ T=>Ay (k:=0) T.NM C2 _ (λ f B4 A outer s H E hr=>(A3 (Qo (NB:=["u","bows","place"]) 3 [none,some 0,some 2] C2.nd rfl (zO rfl) rfl (AW (A1 1 (pv 1))) rfl rfl (BY 0 (by decide) rfl rfl rfl) (λ _ _ _ _=>Fi (N6 (c:=true) (AQ hr 16 (by decide)) (AB (A2 (A1 0 (pv 0)) (A2 (A1 2 (pv 2)) A4))) (A1 1 (pv 1)))) (λ _ _ _ _=>(A1 0 (pv 0)))) (A3 (Qo (NB:=["w","bows","place"]) 4 [none,some 0,some 2] C2.nd rfl (zO rfl) rfl (AW (A1 1 (pv 1))) rfl rfl (BY 0 (by decide) rfl rfl rfl) (λ _ _ _ _=>Fi (N6 (c:=true) (AQ hr 16 (by decide)) (AB (A2 (A1 2 (pv 2)) (A2 (A1 0 (pv 0)) A4))) (A1 1 (pv 1)))) (λ _ _ _ _=>(A1 0 (pv 0)))) (A3 (Bw 5 C2.nd rfl (zO rfl) (Fm CP)) (A3 (Bp A8.toXCall.own rfl (AW (A1 3 (pv 3))) (AF 6 C2.nd rfl (Or.inr rfl)) (A6 (Zm (BJ 5 (pv 5)) (by exact (CQ (NB:=["w","u","bows"]) [none,some 6,some 0] rfl (AW (A1 4 (pv 4))) rfl rfl (BY 0 (by decide) rfl rfl rfl) (λ _ _ _ _=>Fi (DW.dt (IE (Lg (c:=true) (AQ hr 16 (by decide)) (A1 1 (pv 1)) (A1 0 (pv 0))) (Ht (M5 (c:=true) (AQ hr 16 (by decide)) (AB (A2 (A1 1 (pv 1)) (A2 (A1 0 (pv 0)) A4))) (A1 2 (pv 2))))))) (λ _ _ _ _=>(AB (A2 (A1 1 (pv 1)) (A2 (A1 0 (pv 0)) A4))))))))) (A6 (Ck 5 (pv 5)))))))),?_⟩;intro B vs L v hl;have e0:AE ["bows","left","place","ahead","behind","missing","u"] [.Bn true (B.map pD) vs,.lst (L.map .int),.int v]=[some (.val (.Bn true (B.map pD) vs)),some (.val (.lst (L.map .int))),some (.val (.int v)),none,none,none,none]:=rfl;rw[e0];refine Bd ?_;have hL:(L.map D.int).length<=1000:=by rw[zc];omega
 apply wp_step
 ·simp_arith[if_pos hL];rw[CD (λ u=>decide ((u,v)∈B)) D.int (λ u hu=>⟨_,rfl,by simp[uF,uG,Mm,zo,zj,M.A9,Hx,Hw,Jn,JI,JJ,JK,Mb,IR,Fq,Pg,Jz,JA,HA,VB,M8,M9,JB,hV,HB,HC,Fp,Qy,D7,Qz,JC,JD,HD,VE,Jy,E8,toCl_list,toCl_listP,toCl_dct,Mc,JL,JM,JN,JO,Md,JP,JQ,JR,kI,sQ,JE,VF,JF,VG,JG,JH,Ma,VH,uH,uI,iA,iB,iC,iD,iE,iF,toCl_nil,Jh,Jt,Og,QA,HE,Me,Mf,JS,JT,Mg,Mh,Mi,Mj,Ml,JU,JV,JW,JX,HF,HG,HH,HI,HJ,JY,HK,HL,VI,VJ,VL,VM,VN,HM,ite_tt,ite_ff,Bool.not_true,Bool.not_false,yU,zK,F6,GN,K5,hZ,iZ,hX,jC,jD,jE,Mr,QO,QP,QQ,DR,HV,Mt,QE,jN,W7,QW,QF],λ _=>by simp_arith[]⟩)];simp_arith[];rfl
 apply wp_step
 ·simp_arith[if_pos hL];rw[CD (λ w=>decide ((v,w)∈B)) D.int (λ u hu=>⟨_,rfl,by simp[uF,uG,Mm,zo,zj,M.A9,Hx,Hw,Jn,JI,JJ,JK,Mb,IR,Fq,Pg,Jz,JA,HA,VB,M8,M9,JB,hV,HB,HC,Fp,Qy,D7,Qz,JC,JD,HD,VE,Jy,E8,toCl_list,toCl_listP,toCl_dct,Mc,JL,JM,JN,JO,Md,JP,JQ,JR,kI,sQ,JE,VF,JF,VG,JG,JH,Ma,VH,uH,uI,iA,iB,iC,iD,iE,iF,toCl_nil,Jh,Jt,Og,QA,HE,Me,Mf,JS,JT,Mg,Mh,Mi,Mj,Ml,JU,JV,JW,JX,HF,HG,HH,HI,HJ,JY,HK,HL,VI,VJ,VL,VM,VN,HM,ite_tt,ite_ff,Bool.not_true,Bool.not_false,yU,zK,F6,GN,K5,hZ,iZ,hX,jC,jD,jE,Mr,QO,QP,QQ,DR,HV,Mt,QE,jN,W7,QW,QF],λ _=>by simp_arith[]⟩)];simp_arith[];rfl
 apply wp_step
 ·rfl
 try simp only[zo,zj]
 have sr:((L.filter λ w=>decide ((v,w)∈B)).map D.int).length<=1000:=by rw[zc];exact zZ (List.length_filter_le _ _) (by omega)
 have hlen:=Xl B L v;have yz:L.length*L.length<=30*30:=Nat.mul_le_mul hl hl;generalize hA:L.filter (λ u=>decide ((u,v)∈B))=A;generalize hW:L.filter (λ w=>decide ((v,w)∈B))=W at sr ⊢;obtain⟨G,hG⟩:∃G:Int->List (Int×Int),G=λ u=>((W.filter λ w=>decide (u≠w) && !decide ((u,w)∈B)).map λ w=>(u,w)):=⟨_,rfl⟩;have d5:B6 B L v=A.flatMap G:=by unfold B6;rw[hA,hW,hG]
 refine BC (I:=λ ρ=>∃s6,ρ=[some (.val (.Bn true (B.map pD) vs)),some (.val (.lst (L.map .int))),some (.val (.int v)),some (.val (.lst (A.map .int))),some (.val (.lst (W.map .int))),some (.own ((A.flatMap G).map pD)),s6]) ?_ ?_
 ·simp_arith[];refine Br (λ i ρ=>∃s6,ρ=[some (.val (.Bn true (B.map pD) vs)),some (.val (.lst (L.map .int))),some (.val (.int v)),some (.val (.lst (A.map .int))),some (.val (.lst (W.map .int))),some (.own (((A.take i).flatMap G).map pD)),s6]) ⟨none,rfl⟩ ?_ ?_
  ·rintro i d ρ hd ⟨s6,rfl⟩;obtain⟨u,hu,rfl⟩:=BL hd;have et:A.take (i+1)=A.take i++[u]:=by rw[y9,hu];rfl
   refine⟨_,rfl,?_⟩;have hb:(((A.take i).flatMap G).map pD).length+((G u).map pD).length<=1000:=by
    have h1:((A.take (i+1)).flatMap G).length<=(A.flatMap G).length:=by
     conv=>rhs;rw[<-za1 (i+1) A,List.flatMap_append,zB]
     omega
    rw[et,List.flatMap_append,zB] at h1;rw[d5] at hlen;simp only[List.flatMap_cons,List.flatMap_nil,zF] at h1;rw[zc,zc];omega
   have gq:(((W.filter λ w=>decide (u≠w) && !decide ((u,w)∈B)).map λ w=>(u,w)).map pD)=(W.filter λ w=>decide (u≠w) && !decide ((u,w)∈B)).map λ w=>D.tup [.int u,.int w]:=by rw[yK];rfl
   refine AY (ρ':=[some (.val (.Bn true (B.map pD) vs)),some (.val (.lst (L.map .int))),some (.val (.int v)),some (.val (.lst (A.map .int))),some (.val (.lst (W.map .int))),some (.own (((A.take (i+1)).flatMap G).map pD)),some (.val (.int u))]) ?_ ⟨_,rfl⟩;simp_arith[if_pos sr];rw[CD (λ w=>decide (u≠w) && !decide ((u,w)∈B)) (λ w=>D.tup [.int u,.int w]) (λ w hw=>⟨_,rfl,by
    simp[uF,uG,Mm,zo,zj,M.A9,Hx,Hw,Jn,JI,JJ,JK,Mb,IR,Fq,Pg,Jz,JA,HA,VB,M8,M9,JB,hV,HB,HC,Fp,Qy,D7,Qz,JC,JD,HD,VE,Jy,E8,toCl_list,toCl_listP,toCl_dct,Mc,JL,JM,JN,JO,Md,JP,JQ,JR,kI,sQ,JE,VF,JF,VG,JG,JH,Ma,VH,uH,uI,iA,iB,iC,iD,iE,iF,toCl_nil,Jh,Jt,Og,QA,HE,Me,Mf,JS,JT,Mg,Mh,Mi,Mj,Ml,JU,JV,JW,JX,HF,HG,HH,HI,HJ,JY,HK,HL,VI,VJ,VL,VM,VN,HM,ite_tt,ite_ff,Bool.not_true,Bool.not_false,yU,zK,F6,GN,K5,hZ,iZ,hX,jC,jD,jE,Mr,QO,QP,QQ,DR,HV,Mt,QE,jN,W7,QW,QF,dS,OW,C9,Ba];by_cases h:u=w<;>simp[h],λ _=>by simp_arith[]⟩)]
   rw[<-gq];have wv:((W.filter λ w=>decide (u≠w) && !decide ((u,w)∈B)).map λ w=>(u,w))=G u:=by rw[hG]
   rw[wv];simp_arith[if_pos hb];rw[et,List.flatMap_append,List.flatMap_cons,List.flatMap_nil,zF,<-z6]
  ·rintro ρ ⟨s6,rfl⟩;rw[zc,y8];exact⟨s6,rfl⟩
 ·rintro ρ ⟨s6,rfl⟩;rw[d5];exact⟨_,rfl,rfl⟩
abbrev Iq:List D->M OT:=zg Dv
def G3:Txt K mg->BG P w K mg base "missing_bows" 1 3 Iq:=(zb Dv).1
def G4:∀(B:List (Int×Int)) (vs:List D) (L:List Int) (v:Int),L.length<=30->Iq [.Bn true (B.map pD) vs,.lst (L.map .int),.int v]=.ok (.lst (((B6 B L v).map pD).map .sh)):=(zb Dv).2
def Hk:∃F:List D->M OT,(∀ {P w K mg base},Txt K mg->BG P w K mg base "lightest" 2 2 F)/\(∀(B:List (Int×Int)) (vs:List D) (L:List Int),L≠[]->L.length<=30->F [.Bn true (B.map pD) vs,.lst (L.map .int)]=.ok (.sh (.int (Bo B L)))):=by
 refine⟨_,λ T=>Ay (k:=1) T.UP SW _ (λ f B4 A outer s H E hr=>(A6 (Am (AV (Ab (AQ hr 16 (by decide)) (gQ rfl (AQ hr 16 (by decide)) rfl T.dI (Ag (CQ (NB:=["place","bows","left"]) [none,some 0,some 1] rfl (AW (A1 1 (pv 1))) rfl rfl (BY 0 (by decide) rfl rfl rfl) (λ _ _ _ _=>EA) (λ _ _ _ _=>(AB (A2 (D6 rfl T.Fb (Ag (Bq (Aa (AL rfl).toXCall (G3 T) (hr.mono (by decide)) rfl (A2 (A1 1 (pv 1)) (A2 (A1 2 (pv 2)) (A2 (A1 0 (pv 0)) A4))) rfl)))) (A2 (A1 0 (pv 0)) A4))))))) A7))))),?_⟩;intro B vs L ae hl;have e0:AE ["bows","left"] [.Bn true (B.map pD) vs,.lst (L.map .int)]=[some (.val (.Bn true (B.map pD) vs)),some (.val (.lst (L.map .int)))]:=rfl;rw[e0];refine Bd ?_;have hL:(L.map D.int).length<=1000:=by rw[zc];omega
 simp_arith[if_pos hL];rw[Ca (λ p=>D.tup ([((B6 B L p).length:Int),p].map D.int)) (λ p hp=>⟨_,rfl,rfl,by
  have h1:=G4 B vs L p hl;simp_arith[h1,WH,zc,zf,zai]⟩)]
 simp_arith[VA];rw[Pu];have hb:=Xm (λ p=>D.tup ([((B6 B L p).length:Int),p].map D.int)) (L.map λ p=>(p,[((B6 B L p).length:Int),p]));rw[yK] at hb;have e2:((λ b:Int×List Int=>(D.tup ([((B6 B L b.1).length:Int),b.1].map D.int),b.2)) ∘ λ p=>(p,[((B6 B L p).length:Int),p]))=λ p=>(D.tup ([((B6 B L p).length:Int),p].map D.int),[((B6 B L p).length:Int),p]):=rfl;rw[e2] at hb;dsimp only;rw[hb];unfold Bo;cases q:B9 (L.map λ p=>(p,[((B6 B L p).length:Int),p])) with
 |none=>exact (MM (λ z=>ae (List.map_eq_nil_iff.mp z)) q).elim
 |some k =>
  simp only[za9,M.A9];rfl
abbrev PV:List D->M OT:=zg Hk
def Tw:Txt K mg->BG P w K mg base "lightest" 2 2 PV:=(zb Hk).1
def Tx:∀(B:List (Int×Int)) (vs:List D) (L:List Int),L≠[]->L.length<=30->PV [.Bn true (B.map pD) vs,.lst (L.map .int)]=.ok (.sh (.int (Bo B L))):=(zb Hk).2
def Lb:∃F:List D->M OT,(∀ {P w K mg base},Txt K mg->BG P w K mg base "ranked" 3 1 F)/\(∀(m:Nat) (rs:List Road),m<=20->(∀r∈rs,G7 m r/\r.a≠r.b)->F [Ap m rs]=.ok (.lst (((QG m (Bl rs) (AR m)).map D.int).map .sh))):=by
 refine⟨_,λ T=>Ay (k:=2) T.dD DU _ (λ f B4 A outer s H E hr=>(A3 (Bw 1 DU.nd rfl (zO rfl) (Aa A8.toXCall (OE T) (hr.mono (by decide)) rfl (A2 (A1 0 (pv 0)) A4) rfl)) (A3 (Bw 2 DU.nd rfl (zO rfl) (Jw rfl rfl T.Ee rfl T.Cw (Ab (AQ hr 16 (by decide)) (A1 0 (pv 0)) A7))) (A3 (Bw 3 DU.nd rfl (zO rfl) (Fm CP)) (A3 (S8 A8.toXCall.own (IJ (Bc (c:=true) (A1 2 (pv 2)))) (A3 (AU 4 DU.nd rfl (zO rfl) (Ag (E9 (Aa A8.toXCall (Tw T) (hr.mono (by decide)) rfl (A2 (A1 1 (pv 1)) (A2 (A1 2 (pv 2)) A4)) rfl)))) (A3 (Bp A8.toXCall.own rfl (AW (Ag (E9 (Aa A8.toXCall (G3 T) (hr.mono (by decide)) rfl (A2 (A1 1 (pv 1)) (A2 (A1 2 (pv 2)) (A2 (A1 4 (pv 4)) A4))) rfl)))) (AF 5 DU.nd rfl (zO rfl)) (A6 (M7 (AQ hr 16 (by decide)) (BJ 1 (pv 1)) (A1 5 (pv 5)) BP))) (A3 (X4 (BJ 2 (pv 2)) (A1 4 (pv 4))) (A6 (DL 3 (pv 3) (A1 4 (pv 4)))))))) (A6 (Ck 3 (pv 3)))))))),?_⟩;intro m rs hm Au;have e0:AE ["net","bows","left","order","place","bow"] [Ap m rs]=[some (.val (Ap m rs)),none,none,none,none,none]:=rfl;rw[e0];refine Bd ?_;have h1:=OF m rs hm Au;have n0:AX (Ap m rs) (.int 0)=.ok (.int m):=rfl;have h2:=Qw (n:=m) (by omega);rw[Np] at h2;apply wp_step
 ·simp_arith[h1];rfl
 apply wp_step
 ·simp_arith[n0,h2];rfl
 apply wp_step
 ·rfl
 try simp only[zo,zj]
 refine BC (I:=λ ρ=>∃s1 s2 s4 s5,ρ=[some (.val (Ap m rs)),s1,s2,some (.own ((QG m (Bl rs) (AR m)).map D.int)),s4,s5]) ?_ ?_
 ·refine Si (lt:=λ a b:Nat=>a<b) (λ n ρ=>∃(B:List (Int×Int)) (L O:List Int) (s4 s5:Option Cl),ρ=[some (.val (Ap m rs)),some (.ow (.tree none (.Bn true (B.map pD) ((CZ B).map .sh)))),some (.own (L.map D.int)),some (.own (O.map D.int)),s4,s5]/\L.length=n/\n+O.length=m/\Cu m B/\(∀p∈L,0<=p/\p<(m:Int))/\O++QG n B L=QG m (Bl rs) (AR m)) (Nat.lt_wfRel.wf.apply m) ⟨Bl rs,AR m,[],none,none,rfl,F5 m,by simp,SF Au,λ p hp=>GL.mp hp,rfl⟩ ?_;rintro n ρ ⟨B,L,O,s4,s5,rfl,hn,hO,hB,hL,c6⟩;by_cases jg:L=[]
  ·subst jg;left;have:n=0:=by simpa using hn.symm
   subst this;rw[QG,zF] at c6;exact⟨rfl,⟨_,_,_,_,by rw[c6]⟩⟩
  ·right;have jh:L.length<=30:=by omega
   have q1:=Tx B (CZ B) L jg jh;have q2:=G4 B (CZ B) L (Bo B L) jh;obtain⟨aQ,_⟩:=Px (B:=B) jg;have ww:0<L.length:=List.length_pos_of_mem aQ;obtain⟨n',rfl⟩:∃n',n=n'+1:=⟨n-1,by omega⟩;rw[QG,if_neg jg] at c6;constructor
   ·simp_arith[Zs];cases L with
    |nil=>exact (jg rfl).elim
    |cons x r=>rfl
   apply wp_step
   ·simp_arith[q1,nZ iH];rfl
   try simp only[zo,zj]
   have dq:Jj ((B6 B L (Bo B L)).map pD)=true:=Sk ZS _;refine BC (I:=λ ρ=>∃s5,ρ=[some (.val (Ap m rs)),some (.ow (.tree none (.Bn true ((Ct B (B6 B L (Bo B L))).map pD) ((CZ (Ct B (B6 B L (Bo B L)))).map .sh)))),some (.own (L.map D.int)),some (.own (O.map D.int)),some (.val (.int (Bo B L))),s5]) ?_ ?_
   ·simp_arith[q2,iG dq];refine Br (λ i ρ=>∃s5,ρ=[some (.val (Ap m rs)),some (.ow (.tree none (.Bn true ((Ct B ((B6 B L (Bo B L)).take i)).map pD) ((CZ (Ct B ((B6 B L (Bo B L)).take i))).map .sh)))),some (.own (L.map D.int)),some (.own (O.map D.int)),some (.val (.int (Bo B L))),s5]) ⟨s5,rfl⟩ ?_ ?_
    ·rintro i d ρ hd ⟨s5,rfl⟩;obtain⟨p,hp,rfl⟩:=BL hd;refine⟨_,rfl,?_⟩;have wx:Cu m (Ct B ((B6 B L (Bo B L)).take i)):=hB.Ct λ q hq=>by
      have:=Pw (zS hq);exact⟨this.2.2,hL _ this.1,hL _ this.2.1⟩
     have kk:keyOk true (pD p)=true/\((Ct B ((B6 B L (Bo B L)).take i)).map pD).length<1000:=⟨rfl,by rw[zc];exact wx.len hm⟩;have et:(B6 B L (Bo B L)).take (i+1)=(B6 B L (Bo B L)).take i++[p]:=by rw[y9,hp];rfl
     have ea:Ct B ((B6 B L (Bo B L)).take (i+1))=KS (Ct B ((B6 B L (Bo B L)).take i)) p:=by
      unfold Ct;rw[et,List.foldl_append];rfl
     simp_arith[if_pos kk,W3];exact⟨_,by rw[ea]⟩
    ·rintro ρ ⟨s5,rfl⟩;rw[zc,y8];exact⟨s5,rfl⟩
   ·rintro ρ ⟨s5,rfl⟩;have wy:(O.map D.int).length<1000:=by rw[zc];omega
    apply wp_step
    ·simp_arith[EX,if_pos aQ];rfl
    refine AY (ρ':=[some (.val (Ap m rs)),some (.ow (.tree none (.Bn true ((Ct B (B6 B L (Bo B L))).map pD) ((CZ (Ct B (B6 B L (Bo B L)))).map .sh)))),some (.own ((L.erase (Bo B L)).map D.int)),some (.own ((O++[Bo B L]).map D.int)),some (.val (.int (Bo B L))),s5]) ?_ ?_
    ·simp_arith[if_pos wy,z6,zf,zai]
    ·have hlen:=List.length_erase_of_mem aQ;refine⟨n',by omega,_,_,_,_,_,rfl,by omega,by rw[zB];simp;omega,hB.Ct λ q hq=>?_,λ p hp=>hL p (List.mem_of_mem_erase hp),?_⟩
     ·have:=Pw hq;exact⟨this.2.2,hL _ this.1,hL _ this.2.1⟩
     ·rw[zaa];exact c6
 ·rintro ρ ⟨s1,s2,s4,s5,rfl⟩;exact⟨_,rfl,rfl⟩
abbrev Wh:List D->M OT:=zg Lb
def XQ:Txt K mg->BG P w K mg base "ranked" 3 1 Wh:=(zb Lb).1
def XR:∀(m:Nat) (rs:List Road),m<=20->(∀r∈rs,G7 m r/\r.a≠r.b)->Wh [Ap m rs]=.ok (.lst (((QG m (Bl rs) (AR m)).map D.int).map .sh)):=(zb Lb).2
def CG:∃F:List D->M OT,(∀ {P w K mg base},Txt K mg->BG P w K mg base "order_or_ranked" 4 2 F)/\(∀(m:Nat) (rs:List Road),m<=20->(∀r∈rs,G7 m r/\r.a≠r.b)->(∀L:List Int,L.Perm (AR m)->F [Ap m rs,.lst (L.map .int)]=.ok (.lst ((L.map D.int).map .sh)))/\F [Ap m rs,.AK]=.ok (.lst (((QG m (Bl rs) (AR m)).map D.int).map .sh))):=by
 refine⟨_,λ T=>Ay (k:=3) T.Ki IV _ (λ f B4 A outer s H E hr=>(A3 (B3 (ID (c:=true) (A1 1 (pv 1))) (A6 (Am (Aa A8.toXCall (XQ T) (hr.mono (by decide)) rfl (A2 (A1 0 (pv 0)) A4) rfl))) Ar) (A6 (Am (Aa A8.toXCall (L9 T) (hr.mono (by decide)) rfl (A2 (A1 0 (pv 0)) (A2 (A1 1 (pv 1)) A4)) rfl))))),?_⟩;intro m rs hm Au;have h1:=XR m rs hm Au;refine⟨λ L hL=>?_,?_⟩
 ·have h2:Ek [Ap m rs,.lst (L.map .int)]=.ok (.lst ((L.map D.int).map .sh)):=La m (.lst (rs.map BH)) L (by omega) hL;have e0:AE ["net","order"] [Ap m rs,.lst (L.map .int)]=[some (.val (Ap m rs)),some (.val (.lst (L.map .int)))]:=rfl;rw[e0];refine Bd ?_;apply wp_step
  ·rfl
  simp_arith[h2];exact⟨_,rfl,rfl⟩
 ·have e0:AE ["net","order"] [Ap m rs,.AK]=[some (.val (Ap m rs)),some (.val .AK)]:=rfl;rw[e0];refine Bd ?_;simp_arith[Cr,h1];exact⟨_,rfl,rfl⟩
abbrev Cm:List D->M OT:=zg CG
def J2:Txt K mg->BG P w K mg base "order_or_ranked" 4 2 Cm:=(zb CG).1
def El:∀(m:Nat) (rs:List Road),m<=20->(∀r∈rs,G7 m r/\r.a≠r.b)->(∀L:List Int,L.Perm (AR m)->Cm [Ap m rs,.lst (L.map .int)]=.ok (.lst ((L.map D.int).map .sh)))/\Cm [Ap m rs,.AK]=.ok (.lst (((QG m (Bl rs) (AR m)).map D.int).map .sh)):=(zb CG).2
def FF:∃F:List D->M OT,(∀ {P w K mg base},Txt K mg->BG P w K mg base "kept_arcs" 3 2 F)/\(∀(m:Nat) (rs:List Road) (A:LA),m<=20->(∀r∈rs,G7 m r)->Fc m A->∃K:List (Int×Int),F [Ap m rs,Ll A]=.ok (.lst ((K.map pD).map .sh))/\K.Nodup/\∀p,p∈K↔KP rs A p):=by
 refine⟨_,λ T=>Ay (k:=2) T.T9 DJ _ (λ f B4 A outer s H E hr=>(A3 (Bw 2 DJ.nd rfl (zO rfl) (Fm CP)) (A3 (Bp A8.toXCall.own rfl (Cj (c:=true) rfl T.Cw (Ab (AQ hr 16 (by decide)) (A1 0 (pv 0)) A7)) (AF 3 DJ.nd rfl (Or.inr rfl)) (A3 (AU 4 DJ.nd rfl (Or.inr rfl) (Ag (Aa A8.toXCall (OC T) (hr.mono (by decide)) rfl (A2 (A1 0 (pv 0)) (A2 (A1 3 (pv 3)) A4)) rfl))) (A6 (Zm (BJ 2 (pv 2)) (by exact (CQ (NB:=["w","u","laid","costs"]) [none,some 3,some 1,some 4] rfl (Cj (c:=true) rfl T.Cw (Ab (AQ hr 16 (by decide)) (A1 0 (pv 0)) A7)) rfl rfl (BY 0 (by decide) rfl rfl rfl) (λ _ _ _ _=>Fi (DW.dt (IE (N6 (c:=true) (AQ hr 16 (by decide)) (AB (A2 (A1 1 (pv 1)) (A2 (A1 0 (pv 0)) A4))) (A1 2 (pv 2))) (Ht (Lf (c:=true) (AQ hr 16 (by decide)) (Ab (AQ hr 16 (by decide)) (Ab (AQ hr 16 (by decide)) (A1 2 (pv 2)) (AB (A2 (A1 1 (pv 1)) (A2 (A1 0 (pv 0)) A4)))) A7) (Ab (AQ hr 16 (by decide)) (A1 3 (pv 3)) (A1 0 (pv 0)))))))) (λ _ _ _ _=>(AB (A2 (A1 1 (pv 1)) (A2 (A1 0 (pv 0)) A4)))))))))) (A6 (Ck 2 (pv 2)))))),?_⟩;intro m rs A hm Au hA;have e0:AE ["net","laid","kept","u","costs"] [Ap m rs,Ll A]=[some (.val (Ap m rs)),some (.val (Ll A)),none,none,none]:=rfl;rw[e0];refine (λ h:∃t,_/\∃K:List (Int×Int),t=.lst ((K.map pD).map .sh)/\K.Nodup/\∀p,p∈K↔KP rs A p=>by
  obtain⟨t,h1,K,rfl,h2⟩:=h;exact⟨K,h1,h2⟩) (Lj ?_)
 have n0:AX (Ap m rs) (.int 0)=.ok (.int m):=rfl;have hr:Ug (.int (m:Int))=.ok ((AR m).map D.int):=by rw[Gs (by omega),UE]
 have hl:((AR m).map D.int).length<=1000:=by rw[zc,F5];omega
 apply wp_step
 ·rfl
 try simp only[zo,zj]
 refine BC (I:=λ ρ=>∃(K:List (Int×Int)) (s3 s4:Option Cl),ρ=[some (.val (Ap m rs)),some (.val (Ll A)),some (.own (K.map pD)),s3,s4]/\K.Nodup/\∀p,p∈K↔KP rs A p) ?_ ?_
 ·simp_arith[n0,hr];refine Br (λ i ρ=>i<=m/\∃(K:List (Int×Int)) (s3 s4:Option Cl),ρ=[some (.val (Ap m rs)),some (.val (Ll A)),some (.own (K.map pD)),s3,s4]/\K.Nodup/\∀p,p∈K↔(p.1<i/\KP rs A p)) ⟨zM _,[],none,none,rfl,yS,λ p=>⟨(λ h=>by cases h),λ h=>by
   obtain⟨c,hc,_⟩:=h.2;have:=(hA.rg p (F7 hc)).2.1;omega⟩⟩ ?_ ?_
  ·rintro i d ρ hd ⟨hi,K,s3,s4,rfl,hn,hK⟩;obtain⟨u,hu,rfl⟩:=BL hd;have af:i<m:=by have:=(zx.mp hu).1;rw[F5] at this;exact this
   have eu:u=(i:Int):=by
    unfold AR at hu;rw[z5,List.getElem?_range af] at hu;exact (z7 hu).symm
   subst eu;obtain⟨cs,hR,hF⟩:=EQ m i rs af (by omega) Au;refine⟨_,rfl,?_⟩;apply wp_step
   ·simp_arith[hF];rfl
   try simp only[zo,zj]
   obtain⟨W,hW⟩:∃W,W=(AR m).filter λ w=>tL A cs i w:=⟨_,rfl⟩;have ss:∀w,w∈W↔KP rs A ((i:Int),w):=λ w=>by
    rw[hW,yH,GL];constructor
    ·rintro ⟨hw,h⟩;exact (cM hR Au hw.1 hw.2).mp h
    ·intro h;obtain⟨c,hc,_⟩:=id h;have:=(hA.rg _ (F7 hc)).2.2;exact⟨this,(cM hR Au this.1 this.2).mpr h⟩
   have wz:W.Nodup:=by rw[hW];exact (Nq m).filter _
   have aD:(K++W.map λ w=>((i:Int),w)).Nodup:=by
    rw[z8];refine⟨hn,List.pairwise_map.mpr (wz.imp fun {a b} g7 e=>g7 (by cases e;rfl)),λ x hx y hy e=>?_⟩;subst e;obtain⟨w,_,rfl⟩:=zA.mp hy;have:=(hK _).mp hx;simp at this
   have su:∀p,p∈K++W.map (λ w=>((i:Int),w))↔(p.1<((i+1:Nat):Int)/\KP rs A p):=λ p=>by
    rw[zy,hK];constructor
    ·rintro (h|h)
     ·exact⟨by have:=h.1;omega,h.2⟩
     ·obtain⟨w,hw,rfl⟩:=zA.mp h;exact⟨by dsimp only;omega,(ss w).mp hw⟩
    ·rintro ⟨h1,h2⟩;by_cases e:p.1<(i:Int)
     ·exact .inl ⟨e,h2⟩
     ·have e2:p.1=(i:Int):=by omega
      obtain⟨p1,p2⟩:=p;dsimp only at e2;subst e2;exact .inr (zA.mpr ⟨p2,(ss p2).mpr h2,rfl⟩)
   have hlen:=oZ hA hm aD λ p hp=>((su p).mp hp).2;have hb:(K.map pD).length+((W.map λ w=>((i:Int),w)).map pD).length<=1000:=by
    rw[zB] at hlen;rw[zc,zc];omega
   refine AY (ρ':=[some (.val (Ap m rs)),some (.val (Ll A)),some (.own ((K++W.map λ w=>((i:Int),w)).map pD)),some (.val (.int i)),some (.val (.lst (cs.map cst)))]) ?_ ⟨af,_,_,_,rfl,aD,su⟩;have t1:∀a b:Int,D.tup [.int a,.int b]=pD (a,b):=λ a b=>rfl;simp_arith[n0,hr,if_pos hl];rw[CD (λ w=>tL A cs i w) (λ w=>pD ((i:Int),w)) (λ w hw=>⟨_,rfl,by
    have sv:=GL.mp hw;have x1:AX (.lst (cs.map cst)) (.int w)=.ok (cst (atC cs w)):=Cd sv.1 (by rw[hR.1];exact sv.2);have c5:=QR A ((i:Int),w) false;unfold tL An;cases q:AH A ((i:Int),w) with
    |none =>
     rw[q] at c5;simp_arith[t1,c5];rfl
    |some v =>
     rw[q] at c5;have hit:=QS q;have h0:AX (Xq v) (.int 0)=.ok (cst (some v.1)):=rfl;have he:=QD (some v.1) (atC cs w);simp_arith[t1,c5,hit,h0,x1,he];rfl,λ _=>by simp_arith[t1]⟩)]
   rw[<-hW];have ew:W.map (λ w=>pD ((i:Int),w))=(W.map λ w=>((i:Int),w)).map pD:=by rw[yK];rfl
   rw[ew];simp_arith[if_pos hb];rw[<-z6]
  ·rintro ρ ⟨_,K,s3,s4,rfl,hn,hK⟩;refine⟨K,s3,s4,rfl,hn,λ p=>(hK p).trans ⟨λ h=>h.2,λ h=>⟨?_,h⟩⟩⟩;obtain⟨c,hc,_⟩:=h;have:=(hA.rg p (F7 hc)).2.1;rw[zc,F5];omega
 ·rintro ρ ⟨K,s3,s4,rfl,hn,hK⟩;exact⟨_,rfl,K,rfl,hn,hK⟩
abbrev NY:List D->M OT:=zg FF
def Rp:Txt K mg->BG P w K mg base "kept_arcs" 3 2 NY:=(zb FF).1
def Rq:∀(m:Nat) (rs:List Road) (A:LA),m<=20->(∀r∈rs,G7 m r)->Fc m A->∃K:List (Int×Int),NY [Ap m rs,Ll A]=.ok (.lst ((K.map pD).map .sh))/\K.Nodup/\∀p,p∈K↔KP rs A p:=(zb FF).2
def CH:∃F:OT->List D->M (OT×OT),(∀ {P w K mg base},Txt K mg->Pq P w K mg base "Ladder" 6 3 F)/\(∀(m:Nat) (rs:List Road) (o:D) (L:List Int),1<=m->m<=16->rs.length<=60->(∀r∈rs,IT m r)->L.Perm (AR m)->(o=.lst (L.map D.int)\/(o=.AK/\L=QG m (Bl rs) (AR m)))->∃(A:LA) (K:List (Int×Int)),BM m rs L A K/\∃t,F (.ins "Ladder" [] []) [Ap m rs,o]=.ok (t,.sh .AK)/\er t=AI m rs L A K):=by
 refine⟨_,λ T=>ZI (k:=5) T.Kj IW _ (λ f B4 A outer s H E hr=>(A3 (Mo ["Ladder"] (Bx T.BN C7) (BJ 0 (pv 0)) (Ag (Aa A8.toXCall (UU T) (hr.mono (by decide)) rfl (A2 (A1 1 (pv 1)) A4) rfl))) (A3 (Mo ["Ladder"] (Bx T.CF C7) (BJ 0 (pv 0)) (Ag (E9 (Aa A8.toXCall (J2 T) (hr.mono (by decide)) rfl (A2 (EJ ["Ladder"] (Bx T.BN C7) (A1 0 (pv 0))) (A2 (A1 2 (pv 2)) A4)) rfl)))) (A3 (Mo ["Ladder"] (Bx T.Dh C7) (BJ 0 (pv 0)) (Ag (E9 (Aa A8.toXCall (Rm T) (hr.mono (by decide)) rfl (A2 (EJ ["Ladder"] (Bx T.BN C7) (A1 0 (pv 0))) (A2 (EJ ["Ladder"] (Bx T.CF C7) (A1 0 (pv 0))) A4)) rfl)))) (A6 (Mo ["Ladder"] (Bx T.Ef C7) (BJ 0 (pv 0)) (Ag (E9 (Aa A8.toXCall (Rp T) (hr.mono (by decide)) rfl (A2 (EJ ["Ladder"] (Bx T.BN C7) (A1 0 (pv 0))) (A2 (EJ ["Ladder"] (Bx T.Dh C7) (A1 0 (pv 0))) A4)) rfl))))))))),?_⟩;intro m rs o L bL bm cc f6 hL ho;have Au:∀r∈rs,G7 m r/\r.a≠r.b:=λ r hr=>(f6 r hr).xO;have h1:=UW m rs bL bm cc f6;have h2:Cm [Ap m rs,o]=.ok (.lst ((L.map D.int).map .sh)):=by
  rcases ho with rfl|⟨rfl,rfl⟩
  ·exact (El m rs (by omega) Au).1 L hL
  ·exact (El m rs (by omega) Au).2
 have h3:=Ro m rs L (by omega) hL Au;have hA:=(Nu hL Au).1;obtain⟨K,h4,hn,hK⟩:=Rq m rs (BZ rs L) (by omega) (λ r hr=>(Au r hr).1) hA;refine⟨BZ rs L,K,⟨bL,bm,cc,Au,hL,rfl,hn,hK⟩,.ins "Ladder" ["own_map","own_order","laid","kept_ones"] [.sh (Ap m rs),.sh (.lst (L.map D.int)),.sh (Ll (BZ rs L)),.sh (.lst (K.map pD))],?_,rfl⟩;have e0:CM ["self","net","order"] (.ins "Ladder" [] []) [Ap m rs,o]=[some (.ow (.tree (some 0) (.ins "Ladder" [] []))),some (.val (Ap m rs)),some (.val o)]:=rfl;rw[e0];refine QU ?_;have e1:er (.tup [.sh (.int m),.lst ((rs.map BH).map .sh)])=Ap m rs:=by rw[jB,Pg,Fq];rfl
 have T:∀(ns:List Str) (ds:List D),er (.ins "Ladder" ns (ds.map .sh))=.ins "Ladder" ns ds:=λ ns ds=>by rw[er,IM]
 have T1:=T ["own_map"] [Ap m rs];have T2:=T ["own_map","own_order"] [Ap m rs,.lst (L.map D.int)];have T3:=T ["own_map","own_order","laid"] [Ap m rs,.lst (L.map D.int),Ll (BZ rs L)];simp only[zf,zai] at T1 T2 T3;have d1:=cN L;have d2:=jL (BZ rs L);have d3:=jK K;have f1:Oj ["Ladder"] "own_map" (.ins "Ladder" ["own_map"] [Ap m rs])=.ok (Ap m rs):=rfl;have f2:Oj ["Ladder"] "own_map" (.ins "Ladder" ["own_map","own_order"] [Ap m rs,.lst (L.map D.int)])=.ok (Ap m rs):=rfl;have f3:Oj ["Ladder"] "own_order" (.ins "Ladder" ["own_map","own_order"] [Ap m rs,.lst (L.map D.int)])=.ok (.lst (L.map D.int)):=rfl;have f4:Oj ["Ladder"] "own_map" (.ins "Ladder" ["own_map","own_order","laid"] [Ap m rs,.lst (L.map D.int),Ll (BZ rs L)])=.ok (Ap m rs):=rfl;have f5:Oj ["Ladder"] "laid" (.ins "Ladder" ["own_map","own_order","laid"] [Ap m rs,.lst (L.map D.int),Ll (BZ rs L)])=.ok (Ll (BZ rs L)):=rfl;refine wp_step (ρ':=[some (.ow (.tree (some 0) (.ins "Ladder" ["own_map"] [.sh (Ap m rs)]))),some (.val (Ap m rs)),some (.val o)]) (by simp_arith[h1,e1];rfl) ?_;refine wp_step (ρ':=[some (.ow (.tree (some 0) (.ins "Ladder" ["own_map","own_order"] [.sh (Ap m rs),.sh (.lst (L.map D.int))]))),some (.val (Ap m rs)),some (.val o)]) (by simp_arith[T1,f1,h2,d1];rfl) ?_;refine wp_step (ρ':=[some (.ow (.tree (some 0) (.ins "Ladder" ["own_map","own_order","laid"] [.sh (Ap m rs),.sh (.lst (L.map D.int)),.sh (Ll (BZ rs L))]))),some (.val (Ap m rs)),some (.val o)]) (by simp_arith[T2,f2,f3,h3,d2];rfl) ?_;refine AY (ρ':=[some (.ow (.tree (some 0) (.ins "Ladder" ["own_map","own_order","laid","kept_ones"] [.sh (Ap m rs),.sh (.lst (L.map D.int)),.sh (Ll (BZ rs L)),.sh (.lst (K.map pD))]))),some (.val (Ap m rs)),some (.val o)]) (by simp_arith[T3,f4,f5,h4,d3];rfl) ⟨rfl,rfl⟩
abbrev Cn:OT->List D->M (OT×OT):=zg CH
def Em:Txt K mg->Pq P w K mg base "Ladder" 6 3 Cn:=(zb CH).1
def En:∀(m:Nat) (rs:List Road) (o:D) (L:List Int),1<=m->m<=16->rs.length<=60->(∀r∈rs,IT m r)->L.Perm (AR m)->(o=.lst (L.map D.int)\/(o=.AK/\L=QG m (Bl rs) (AR m)))->∃(A:LA) (K:List (Int×Int)),BM m rs L A K/\∃t,Cn (.ins "Ladder" [] []) [Ap m rs,o]=.ok (t,.sh .AK)/\er t=AI m rs L A K:=(zb CH).2
def Eo:∃F:List D->M OT,(∀ {P w K mg base},Txt K mg->BG P w K mg base "_law_cell_at" 1 2 F)/\(∀(ns:List Int) (k:Nat),(∀n∈ns,Sm n)->∃v:Int,Sm v/\F [.lst (ns.map D.int),.int k]=.ok (.sh (.int v))):=by
 refine⟨_,λ T=>Ay (k:=0) T.Oy NH _ (λ f B4 A outer s H E hr=>(A3 (B3 (sF (c:=true) (A1 1 (pv 1)) (D6 rfl T.Fb (A1 0 (pv 0)))) (A6 (Am (AV (Ab (AQ hr 16 (by decide)) (A1 0 (pv 0)) (A1 1 (pv 1)))))) Ar) (A6 (Am (AV A7))))),?_⟩;intro ns k bo;have e0:AE ["_law_script","_law_k"] [.lst (ns.map D.int),.int k]=[some (.val (.lst (ns.map D.int))),some (.val (.int k))]:=rfl;rw[e0];by_cases hk:(k:Int)<((ns.map D.int).length:Int)
 ·have kr:=hk;rw[zc] at kr;have i1:AX (.lst (ns.map D.int)) (.int k)=.ok (.int (ns[k]'(by omega))):=HQ (by omega) (by rw[yM];exact zh _);refine⟨ns[k]'(by omega),bo _ (zal _),Bd ?_⟩;simp_arith[decide_eq_true hk,i1];rfl
 ·refine⟨0,by unfold Sm;decide,Bd ?_⟩;simp_arith[decide_eq_false hk];rfl
abbrev CV:List D->M OT:=zg Eo
def Cg:Txt K mg->BG P w K mg base "_law_cell_at" 1 2 CV:=(zb Eo).1
def Ep:∀(ns:List Int) (k:Nat),(∀n∈ns,Sm n)->∃v:Int,Sm v/\CV [.lst (ns.map D.int),.int k]=.ok (.sh (.int v)):=(zb Eo).2
def J3:∃F:List D->M OT,(∀ {P w K mg base},Txt K mg->BG P w K mg base "_law_mix" 1 2 F)/\(∀c k:Int,0<=k->k<=1000->∃v:Int,0<=v/\F [.int c,.int k]=.ok (.sh (.int v))):=by
 refine⟨_,λ T=>Ay (k:=0) T.XM NI _ (λ f B4 A outer s H E hr=>(A3 (AU 2 NI.nd rfl (zO rfl) (BK (BS (BS (BS (Fj (A1 0 (pv 0)) A7) (Fj (Fj (A1 1 (pv 1)) (A1 1 (pv 1))) A7)) (Fj A7 (A1 1 (pv 1)))) A7) A7)) (A6 (Am (AV (BK (Fj (A1 2 (pv 2)) (A1 2 (pv 2))) A7)))))),?_⟩;intro c k h0 h1;have e0:AE ["_law_cell","_law_k","_law_number"] [.int c,.int k]=[some (.val (.int c)),some (.val (.int k)),none]:=rfl;rw[e0];have m1:Ib (.int c) (.int 48271)=.ok (.int (c*48271)):=E6 (.inr (.inr (.inr (by decide))));have m2:Ib (.int k) (.int k)=.ok (.int (k*k)):=E6 (.inr (.inr (.inr ⟨by omega,by omega⟩)));have m3:Ib (.int (k*k)) (.int 69621)=.ok (.int (k*k*69621)):=E6 (.inr (.inr (.inr (by decide))));have m4:Ib (.int 11) (.int k)=.ok (.int (11*k)):=E6 (.inr (.inr (.inr ⟨by omega,by omega⟩)));have q1:Et (.int (c*48271+k*k*69621+11*k+1)) (.int 2147483647)=.ok (.int ((c*48271+k*k*69621+11*k+1)%2147483647)):=AZ (by decide);obtain⟨x,hx⟩:∃x,x=(c*48271+k*k*69621+11*k+1)%2147483647:=⟨_,rfl⟩;have x0:0<=x:=by omega
 have x1:x<2147483647:=by omega
 have m5:Ib (.int x) (.int x)=.ok (.int (x*x)):=E6 (.inr (.inr (.inr ⟨by omega,by omega⟩)));have q2:Et (.int (x*x)) (.int 2147483629)=.ok (.int (x*x%2147483629)):=AZ (by decide);refine⟨x*x%2147483629,zac _ (by decide),Bd ?_⟩;rw[<-hx] at q1;apply wp_step
 ·simp_arith[m1,m2,m3,m4,q1];rfl
 simp_arith[m5,q2];rfl
abbrev Tz:List D->M OT:=zg J3
def De:Txt K mg->BG P w K mg base "_law_mix" 1 2 Tz:=(zb J3).1
def Df:∀c k:Int,0<=k->k<=1000->∃v:Int,0<=v/\Tz [.int c,.int k]=.ok (.sh (.int v)):=(zb J3).2
def FG:∃F:List D->M OT,(∀ {P w K mg base},Txt K mg->BG P w K mg base "_law_great" 1 2 F)/\(∀c k:Int,Sm c->0<=k->k<=100->∃v:Int,(0<=v/\v<O9)/\F [.int c,.int k]=.ok (.sh (.int v))):=by
 refine⟨_,λ T=>Ay (k:=0) T.Ta R6 _ (λ f B4 A outer s H E hr=>(A6 (Am (AV (BK (Fj (BS (BS (A1 0 (pv 0)) (Fj (A1 1 (pv 1)) (A1 1 (pv 1)))) A7) A7) (YL A7 A7)))))),?_⟩;intro c k hs h0 h1;have ht:=QH;have e0:AE ["_law_cell","_law_k"] [.int c,.int k]=[some (.val (.int c)),some (.val (.int k))]:=rfl;rw[e0];have m2:Ib (.int k) (.int k)=.ok (.int (k*k)):=E6 (.inr (.inr (.inr ⟨by omega,by omega⟩)));have hk:0<=k*k:=Int.mul_nonneg h0 h0;have kr:k*k<=100*100:=Int.mul_le_mul h1 h1 h0 (by decide);have hb:PySem.Builtin.Int.intBits (c+(k*k+1))<=2^20+1:=WS hs (by omega);have m3:Ib (.int (c+(k*k+1))) (.int 5172390846617502938471650293846571029384756102938477)=.ok (.int ((c+(k*k+1))*5172390846617502938471650293846571029384756102938477)):=E6 (.inl ⟨hb,bits_le (by decide)⟩);rw[<-zax] at m3;refine⟨(c+k*k+1)*5172390846617502938471650293846571029384756102938477%O9,⟨zac _ (by omega),za4 _ (by omega)⟩,Bd ?_⟩;simp_arith[m2,m3,kQ,jA];rfl
abbrev NZ:List D->M OT:=zg FG
def Rr:Txt K mg->BG P w K mg base "_law_great" 1 2 NZ:=(zb FG).1
def Rt:∀c k:Int,Sm c->0<=k->k<=100->∃v:Int,(0<=v/\v<O9)/\NZ [.int c,.int k]=.ok (.sh (.int v)):=(zb FG).2
def FH:∃F:List D->M OT,(∀ {P w K mg base},Txt K mg->BG P w K mg base "_law_whole" 1 1 F)/\(∀i:Int,F [.int i]=.ok (.sh (.bl true))):=by
 refine⟨_,λ T=>Ay (k:=0) T.Tb R7 _ (λ f B4 A outer s H E hr=>(A6 (Am (AV (MS (DZ (S3 _) rfl T.B0 rfl T.dH (by decide +kernel) (A1 0 (pv 0))) (MR (YO (DZ (P6 _) rfl T.B0 rfl T.dE (by decide +kernel) (A1 0 (pv 0)))))))))),?_⟩;intro i;rfl
abbrev O0:List D->M OT:=zg FH
def FI:Txt K mg->BG P w K mg base "_law_whole" 1 1 O0:=(zb FH).1
def FJ:∀i:Int,O0 [.int i]=.ok (.sh (.bl true)):=(zb FH).2
def Er:∃F:List D->M OT,(∀ {P w K mg base},Txt K mg->BG P w K mg base "_law_is_cost" 2 1 F)/\(∀a b:Int,F [.tup [.int a,.int b]]=.ok (.sh (.bl true))):=by
 refine⟨_,λ T=>Ay (k:=1) T.Oz NJ _ (λ f B4 A outer s H E hr=>(A3 (B3 (DW.dt (Dw (Bj (Bc (c:=true) (DZ (Fh _) rfl T.B0 rfl T.Kk (by decide +kernel) (A1 0 (pv 0))))) (D5 (Lg (c:=true) (AQ hr 16 (by decide)) (D6 rfl T.Fb (A1 0 (pv 0))) A7)))) (A6 (Am (AV BP))) Ar) (A6 (Am (AV (MS (Ag (Aa A8.toXCall (FI T) (hr.mono (by decide)) rfl (A2 (Ab (AQ hr 16 (by decide)) (A1 0 (pv 0)) A7) A4) rfl)) (MR (Ag (Aa A8.toXCall (FI T) (hr.mono (by decide)) rfl (A2 (Ab (AQ hr 16 (by decide)) (A1 0 (pv 0)) A7) A4) rfl))))))))),?_⟩;intro a b;have e0:AE ["_law_found"] [.tup [.int a,.int b]]=[some (.val (.tup [.int a,.int b]))]:=rfl;rw[e0];refine Bd ?_;have h1:=FJ a;have h2:=FJ b;have i0:AX (.tup [.int a,.int b]) (.int 0)=.ok (.int a):=rfl;have i1:AX (.tup [.int a,.int b]) (.int 1)=.ok (.int b):=rfl;apply wp_step
 ·rfl
 simp_arith[i0,i1,h1,h2,DB];rfl
abbrev Ko:List D->M OT:=zg Er
def O1:Txt K mg->BG P w K mg base "_law_is_cost" 2 1 Ko:=(zb Er).1
def O2:∀a b:Int,Ko [.tup [.int a,.int b]]=.ok (.sh (.bl true)):=(zb Er).2
def FK:∃F:List D->M OT,(∀ {P w K mg base},Txt K mg->BG P w K mg base "_law_roads" 2 2 F)/\(∀(cells:List Int) (m:Nat),1<=m->m<=16->cells.length<=60->(∀c∈cells,Sm c)->∃rs:List Road,rs.length<=cells.length/\(∀r∈rs,IT m r)/\F [.lst (cells.map D.int),.int m]=.ok (.lst ((rs.map BH).map .sh))):=by
 refine⟨_,λ T=>Ay (k:=1) T.Tc Bh _ (λ f B4 A outer s H E hr=>(A3 (Bw 2 Bh.nd rfl (zO rfl) (Fm CP)) (A3 (Bp A8.toXCall.own rfl (Cj (c:=true) rfl T.Cw (D6 rfl T.Fb (A1 0 (pv 0)))) (AF 3 Bh.nd rfl (zO rfl)) (A3 (AU 4 Bh.nd rfl (zO rfl) (Ag (Aa A8.toXCall (De T) (hr.mono (by decide)) rfl (A2 (Ab (AQ hr 16 (by decide)) (A1 0 (pv 0)) (A1 3 (pv 3))) (A2 (A1 3 (pv 3)) A4)) rfl))) (A3 (AU 5 Bh.nd rfl (zO rfl) (Ag (Aa A8.toXCall (Rr T) (hr.mono (by decide)) rfl (A2 (Ab (AQ hr 16 (by decide)) (A1 0 (pv 0)) (A1 3 (pv 3))) (A2 (A1 3 (pv 3)) A4)) rfl))) (A6 (B3 (IJ (DW.dt (IE (Vo (c:=true) (A1 1 (pv 1)) A7) (IE (Vo (c:=true) (D6 rfl T.Fb (A1 2 (pv 2))) A7) (Ht (Lf (c:=true) (AQ hr 16 (by decide)) (BK (A1 4 (pv 4)) A7) A7)))))) (A6 (DL 2 (pv 2) (fX (nR (c:=true) (Ab (AQ hr 16 (by decide)) (A1 2 (pv 2)) (BK (Hr (A1 4 (pv 4)) A7) (D6 rfl T.Fb (A1 2 (pv 2))))))))) (A6 (B3 (Vo (c:=true) (A1 1 (pv 1)) A7) (A3 (AU 6 Bh.nd rfl (zO rfl) (BK (Hr (A1 4 (pv 4)) A7) (A1 1 (pv 1)))) (A3 (AU 7 Bh.nd rfl (zO rfl) (BK (BS (BS (A1 6 (pv 6)) A7) (BK (Hr (A1 4 (pv 4)) A7) (YK (A1 1 (pv 1)) A7))) (A1 1 (pv 1)))) (A3 (AU 8 Bh.nd rfl (zO rfl) (Hr (A1 4 (pv 4)) A7)) (A3 (AU 9 Bh.nd rfl (zO rfl) (Ab (AQ hr 16 (by decide)) (Gr (A2 Dr (A2 A7 (A2 A7 (A2 A7 (A2 (BK (A1 8 (pv 8)) A7) (A2 (BK (A1 8 (pv 8)) A7) (A2 (A1 5 (pv 5)) (A2 (A1 5 (pv 5)) A4))))))))) (BK (Hr (A1 4 (pv 4)) A7) A7))) (A6 (DL 2 (pv 2) (AB (A2 (A1 6 (pv 6)) (A2 (A1 7 (pv 7)) (A2 (A1 9 (pv 9)) (A2 (Ab (AQ hr 16 (by decide)) (Gr (A2 (BK (A1 8 (pv 8)) A7) (A2 (A1 5 (pv 5)) A4))) (BK (A1 4 (pv 4)) A7)) A4))))))))))) Ar))))))) (A6 (Ck 2 (pv 2)))))),?_⟩;intro cells m bL bm hl bo;have ht:=QH;have e0:AE ["_law_cells","_law_many","_law_roads_here","_law_k","_law_mixed","_law_great_here","_law_one","_law_other","_law_small","_law_length"] [.lst (cells.map D.int),.int m]=[some (.val (.lst (cells.map D.int))),some (.val (.int m)),none,none,none,none,none,none,none,none]:=rfl;rw[e0];refine (λ h:∃t,_/\∃rs:List Road,t=.lst ((rs.map BH).map .sh)/\rs.length<=cells.length/\(∀r∈rs,IT m r)=>by
  obtain⟨t,h1,rs,rfl,h2,h3⟩:=h;exact⟨rs,h2,h3,h1⟩) (Lj ?_)
 have hr:Ug (.int ((cells.map D.int).length:Int))=.ok (Cs 0 cells.length):=by rw[zc];exact Gs (by omega)
 apply wp_step
 ·rfl
 try simp only[zo,zj]
 refine BC (I:=λ ρ=>∃(rs:List Road) (s3 s4 s5 s6 s7 s8 s9:Option Cl),ρ=[some (.val (.lst (cells.map D.int))),some (.val (.int m)),some (.own (rs.map BH)),s3,s4,s5,s6,s7,s8,s9]/\rs.length<=cells.length/\∀r∈rs,IT m r) ?_ ?_
 ·simp_arith[hr];refine Br (λ i ρ=>i<=60/\∃(rs:List Road) (s3 s4 s5 s6 s7 s8 s9:Option Cl),ρ=[some (.val (.lst (cells.map D.int))),some (.val (.int m)),some (.own (rs.map BH)),s3,s4,s5,s6,s7,s8,s9]/\rs.length<=i/\∀r∈rs,IT m r) ⟨by omega,[],none,none,none,none,none,none,none,rfl,by simp,λ r hr=>by cases hr⟩ ?_ ?_
  ·rintro i d ρ hd ⟨_,rs,s3,s4,s5,s6,s7,s8,s9,rfl,cc,Au⟩;obtain⟨aB,hi⟩:=BU hd;rw[Int.zero_add] at aB;subst aB;have hq:cells[i]?=some cells[i]:=zh hi;have aj:=bo _ (zal hi);have x1:AX (.lst (cells.map D.int)) (.int (i:Int))=.ok (.int cells[i]):=HQ (by omega) (by rw[yM];exact hq);obtain⟨v,v0,hv⟩:=Df cells[i] i (by omega) (by omega);obtain⟨g,g0,hg⟩:=Rt cells[i] i aj (by omega) (by omega);have aI:(rs.map BH).length<1000:=by rw[zc];omega
   refine⟨_,rfl,?_⟩;apply wp_step
   ·simp_arith[x1,hv];rfl
   try simp only[zo,zj]
   apply wp_step
   ·simp_arith[x1,hg];rfl
   try simp only[zo,zj]
   have d7:Le (.int v) (.int 7)=.ok (.int (v / 7)):=F4 ⟨by decide,by decide⟩;have q7:Et (.int v) (.int 7)=.ok (.int (v%7)):=AZ (by decide);by_cases hm:(1:Int)<(m:Int)
   ·have c7:(0:Int)<(m:Int):=by omega
    have ji:(0:Int)<(m:Int)-1:=by omega
    by_cases hz:(0:Int)<((rs.map BH).length:Int)/\v%7=3
    ·have hlen:0<(rs.map BH).length:=by omega
     obtain⟨p1,y,hy,p2⟩:=ZX hlen (show 0<=v / 7 by omega);obtain⟨r,aX,rfl⟩:=zA.mp hy;refine AY (ρ':=[some (.val (.lst (cells.map D.int))),some (.val (.int m)),some (.own ((rs++[r]).map BH)),some (.val (.int i)),some (.val (.int v)),some (.val (.int g)),s6,s7,s8,s9]) ?_ ⟨by omega,rs++[r],_,_,_,_,_,_,_,rfl,by simp;omega,λ r2 jj=>by
      rcases zy.mp jj with h|h
      ·exact Au r2 h
      ·rw[zi.mp h];exact Au r aX⟩
     simp_arith[decide_eq_true hm,decide_eq_true hz.1,q7,decide_eq_true hz.2,d7,p1,p2,if_pos aI,if_true];rw[z6];rfl
    ·obtain⟨o,ho⟩:∃o,o=v / 7%(m:Int):=⟨_,rfl⟩;obtain⟨o',bi⟩:∃o',o'=(o+1+v / 112%((m:Int)-1))%(m:Int):=⟨_,rfl⟩;have o0:0<=o:=by rw[ho];exact zac _ (by omega)
     have o1:o<m:=by rw[ho];exact za4 _ c7
     have p0:0<=o':=by rw[bi];exact zac _ (by omega)
     have p1:o'<m:=by rw[bi];exact za4 _ c7
     have s0:0<=v / 112%((m:Int)-1):=zac _ (by omega);have s1:v / 112%((m:Int)-1)<(m:Int)-1:=za4 _ ji;have g7:o≠o':=by
      have:=oA (a:=o) (s:=1+v / 112%((m:Int)-1)) (m:=m) o0 o1 (by omega) (by omega);rw[bi,zax];exact λ z=>this z.symm
     have jk:Le (.int v) (.int 112)=.ok (.int (v / 112)):=F4 ⟨by decide,by decide⟩;have d6:Le (.int v) (.int 8064)=.ok (.int (v / 8064)):=F4 ⟨by decide,by decide⟩;have d8:Le (.int v) (.int 1008)=.ok (.int (v / 1008)):=F4 ⟨by decide,by decide⟩;have q1:Et (.int (v / 7)) (.int (m:Int))=.ok (.int o):=by rw[ho];exact AZ c7
     have q2:Et (.int (v / 112)) (.int ((m:Int)-1))=.ok (.int (v / 112%((m:Int)-1))):=AZ ji;have q3:Et (.int (o+1+v / 112%((m:Int)-1))) (.int (m:Int))=.ok (.int o'):=by rw[bi];exact AZ c7
     have q4:Et (.int (v / 8064)) (.int 3)=.ok (.int (v / 8064%3)):=AZ (by decide);have q5:Et (.int (v / 8064)) (.int 100)=.ok (.int (v / 8064%100)):=AZ (by decide);have q6:Et (.int (v / 1008)) (.int 8)=.ok (.int (v / 1008%8)):=AZ (by decide);have q8:Et (.int (v / 8064)) (.int 5)=.ok (.int (v / 8064%5)):=AZ (by decide);have q9:Et (.int v) (.int 2)=.ok (.int (v%2)):=AZ (by decide);obtain⟨l,aq,l0⟩:=pB (a:=v / 8064%3) (b:=v / 8064%100) (g:=g) (i:=v / 1008%8) (by omega) (by omega) g0 (by omega) (by omega);obtain⟨w,sw,w0⟩:=pC (a:=v / 8064%5) (b:=g) (i:=v%2) (by omega) g0 (by omega) (by omega);have sx:D.tup [.int o,.int o',GH l,.int w]=BH ⟨o,o',l,w⟩:=rfl;rcases Classical.em ((0:Int)<((rs.map BH).length:Int)) with bn|bn
     ·have na:¬ v%7=3:=λ z=>hz ⟨bn,z⟩;simp_arith[decide_eq_true hm,decide_eq_true bn,q7,decide_eq_false na,zC,if_false,if_true];apply wp_step
      ·simp_arith[d7,q1];rfl
      apply wp_step
      ·simp_arith[jk,q2,q3];rfl
      apply wp_step
      ·simp_arith[d6];rfl
      apply wp_step
      ·simp_arith[q4,q5,d8,q6,aq];rfl
      refine AY (ρ':=[some (.val (.lst (cells.map D.int))),some (.val (.int m)),some (.own ((rs++[(⟨o,o',l,w⟩:Road)]).map BH)),some (.val (.int i)),some (.val (.int v)),some (.val (.int g)),some (.val (.int o)),some (.val (.int o')),some (.val (.int (v / 8064))),some (.val (GH l))]) (by simp_arith[q8,q9,sw,sx,if_pos aI,z6,zf,zai]) ⟨by omega,_,_,_,_,_,_,_,_,rfl,by simp;omega,λ r2 jj=>by
       rcases zy.mp jj with h|h
       ·exact Au r2 h
       ·rw[zi.mp h];exact⟨o0,o1,p0,p1,g7,l0,w0.1,w0.2⟩⟩
     ·simp_arith[decide_eq_true hm,decide_eq_false bn,zC,if_false,if_true];apply wp_step
      ·simp_arith[d7,q1];rfl
      apply wp_step
      ·simp_arith[jk,q2,q3];rfl
      apply wp_step
      ·simp_arith[d6];rfl
      apply wp_step
      ·simp_arith[q4,q5,d8,q6,aq];rfl
      refine AY (ρ':=[some (.val (.lst (cells.map D.int))),some (.val (.int m)),some (.own ((rs++[(⟨o,o',l,w⟩:Road)]).map BH)),some (.val (.int i)),some (.val (.int v)),some (.val (.int g)),some (.val (.int o)),some (.val (.int o')),some (.val (.int (v / 8064))),some (.val (GH l))]) (by simp_arith[q8,q9,sw,sx,if_pos aI,z6,zf,zai]) ⟨by omega,_,_,_,_,_,_,_,_,rfl,by simp;omega,λ r2 jj=>by
       rcases zy.mp jj with h|h
       ·exact Au r2 h
       ·rw[zi.mp h];exact⟨o0,o1,p0,p1,g7,l0,w0.1,w0.2⟩⟩
   ·refine AY (ρ':=_) (by simp_arith[decide_eq_false hm];rfl) ⟨by omega,rs,_,_,_,_,_,_,_,rfl,by omega,Au⟩
  ·rintro ρ ⟨_,rs,s3,s4,s5,s6,s7,s8,s9,rfl,cc,Au⟩;rw[Bk] at cc;exact⟨rs,s3,s4,s5,s6,s7,s8,s9,rfl,cc,Au⟩
 ·rintro ρ ⟨rs,s3,s4,s5,s6,s7,s8,s9,rfl,cc,Au⟩;exact⟨_,rfl,rs,rfl,cc,Au⟩
abbrev O3:List D->M OT:=zg FK
def Ru:Txt K mg->BG P w K mg base "_law_roads" 2 2 O3:=(zb FK).1
def Rv:∀(cells:List Int) (m:Nat),1<=m->m<=16->cells.length<=60->(∀c∈cells,Sm c)->∃rs:List Road,rs.length<=cells.length/\(∀r∈rs,IT m r)/\O3 [.lst (cells.map D.int),.int m]=.ok (.lst ((rs.map BH).map .sh)):=(zb FK).2
def FL:∃F:List D->M OT,(∀ {P w K mg base},Txt K mg->BG P w K mg base "_law_order" 2 2 F)/\(∀(c:Int) (m:Nat),m<=60->∃L:List Int,L.Perm (AR m)/\F [.int c,.int m]=.ok (.lst ((L.map D.int).map .sh))):=by
 refine⟨_,λ T=>Ay (k:=1) T.Td Fv _ (λ f B4 A outer s H E hr=>(A3 (Bw 2 Fv.nd rfl (zO rfl) (Fm CP)) (A3 (Bp A8.toXCall.own rfl (Cj (c:=true) rfl T.Cw (A1 1 (pv 1))) (AF 3 Fv.nd rfl (zO rfl)) (A6 (WV 2 (pv 2) (BK (Ag (Aa A8.toXCall (De T) (hr.mono (by decide)) rfl (A2 (A1 0 (pv 0)) (A2 (BS A7 (A1 3 (pv 3))) A4)) rfl)) (BS (A1 3 (pv 3)) A7)) (A1 3 (pv 3))))) (A6 (Ck 2 (pv 2)))))),?_⟩;intro c m hm;have e0:AE ["_law_cell","_law_many","_law_order_here","_law_place"] [.int c,.int m]=[some (.val (.int c)),some (.val (.int m)),none,none]:=rfl;rw[e0];refine (λ h:∃t,_/\∃L:List Int,t=OT.lst ((L.map D.int).map .sh)/\L.Perm (AR m)=>by
  obtain⟨t,h1,L,rfl,h2⟩:=h;exact⟨L,h2,h1⟩) (Lj ?_)
 have hr:=Gs (n:=m) (by omega);apply wp_step
 ·rfl
 try simp only[zo,zj]
 refine BC (I:=λ ρ=>∃(L:List Int) (s3:Option Cl),ρ=[some (.val (.int c)),some (.val (.int m)),some (.own (L.map D.int)),s3]/\L.Perm (AR m)) ?_ ?_
 ·simp_arith[hr];refine Br (λ i ρ=>i<=m/\∃(L:List Int) (s3:Option Cl),ρ=[some (.val (.int c)),some (.val (.int m)),some (.own (L.map D.int)),s3]/\L.Perm (AR i)) ⟨zM _,[],none,rfl,.refl _⟩ ?_ ?_
  ·rintro i d ρ hd ⟨_,L,s3,rfl,hL⟩;obtain⟨aB,hi⟩:=BU hd;rw[Int.zero_add] at aB;subst aB;have hlen:=Ec hL;refine⟨_,rfl,?_⟩;obtain⟨v,v0,hv⟩:=Df c (40+i) (by omega) (by omega);have bL:Et (.int v) (.int ((i:Int)+1))=.ok (.int (v%((i:Int)+1))):=AZ (by omega);have b0:0<=v%((i:Int)+1):=zac _ (by omega);have b1:v%((i:Int)+1)<(i:Int)+1:=za4 _ (by omega);refine AY (ρ':=[some (.val (.int c)),some (.val (.int m)),some (.own ((L.take (v%((i:Int)+1)).toNat++(i:Int)::L.drop (v%((i:Int)+1)).toNat).map D.int)),some (.val (.int i))]) ?_ ⟨by omega,_,_,rfl,Xp hL _⟩;simp_arith[hv,bL];rw[if_pos ⟨b0,by rw[zc];omega,by rw[zc];omega⟩];simp only[z6,zf,List.map_take,List.map_drop];rfl
  ·rintro ρ ⟨_,L,s3,rfl,hL⟩;exact⟨L,s3,rfl,by rw[Bk] at hL;exact hL⟩
 ·rintro ρ ⟨L,s3,rfl,hL⟩;exact⟨_,rfl,L,rfl,hL⟩
abbrev O4:List D->M OT:=zg FL
def Rw:Txt K mg->BG P w K mg base "_law_order" 2 2 O4:=(zb FL).1
def Rx:∀(c:Int) (m:Nat),m<=60->∃L:List Int,L.Perm (AR m)/\O4 [.int c,.int m]=.ok (.lst ((L.map D.int).map .sh)):=(zb FL).2
def FN:∃F:List D->M OT,(∀ {P w K mg base},Txt K mg->BG P w K mg base "_law_added" 1 2 F)/\(∀a b:Co,F [cst a,cst b]=.ok (.sh (cst (Aj a b)))):=by
 refine⟨_,λ T=>Ay (k:=0) T.Te R8 _ (λ f B4 A outer s H E hr=>(A3 (B3 (DW.dt (Dw (ID (c:=true) (A1 0 (pv 0))) (D5 (ID (c:=true) (A1 1 (pv 1)))))) (A6 (Am (AV Dr))) Ar) (A6 (Am (AV (AB (A2 (BS (Ab (AQ hr 16 (by decide)) (A1 0 (pv 0)) A7) (Ab (AQ hr 16 (by decide)) (A1 1 (pv 1)) A7)) (A2 (BS (Ab (AQ hr 16 (by decide)) (A1 0 (pv 0)) A7) (Ab (AQ hr 16 (by decide)) (A1 1 (pv 1)) A7)) A4)))))))),?_⟩;intro a b;rcases a with _|⟨a1,a2⟩<;>rcases b with _|⟨b1,b2⟩<;>rfl
abbrev O5:List D->M OT:=zg FN
def Kq:Txt K mg->BG P w K mg base "_law_added" 1 2 O5:=(zb FN).1
def Kr:∀a b:Co,O5 [cst a,cst b]=.ok (.sh (cst (Aj a b))):=(zb FN).2
def FO:∃F:List D->M OT,(∀ {P w K mg base},Txt K mg->BG P w K mg base "_law_least" 1 1 F)/\(∀cs:List Co,cs.length<=1000->F [.lst (cs.map cst)]=.ok (.sh (cst (Ft cs)))):=by
 refine⟨_,λ T=>Ay (k:=0) T.Tf R9 _ (λ f B4 A outer s H E hr=>(A6 (Am (AV (Vr rfl (AQ hr 1 (by decide)) rfl T.dI (Ag (CQ (NB:=["_law_cost"]) [none] rfl (AW (A1 0 (pv 0))) rfl rfl (BY 0 (by decide) rfl rfl rfl) (λ _ _ _ _=>Fi (Hs (c:=true) (A1 0 (pv 0)))) (λ _ _ _ _=>(A1 0 (pv 0))))) Dr))))),?_⟩;intro cs hc;have e0:∀x:D,AE ["_law_some"] [x]=[some (.val x)]:=λ x=>rfl;rw[e0];refine Bd ?_;have hl:(cs.map cst).length<=1000:=by rw[zc];exact hc
 have wl:=Sw cs;have ph:=VW cs;simp_arith[if_pos hl];rw[GG];simp_arith[ph];rfl
abbrev FQ:List D->M OT:=zg FO
def Ks:Txt K mg->BG P w K mg base "_law_least" 1 1 FQ:=(zb FO).1
def Kt:∀cs:List Co,cs.length<=1000->FQ [.lst (cs.map cst)]=.ok (.sh (cst (Ft cs))):=(zb FO).2
def Hl:∃F:List D->M OT,(∀ {P w K mg base},Txt K mg->BG P w K mg base "_law_open" 1 1 F)/\(∀r:Road,F [BH r]=.ok (.sh (cst (Cc r)))):=by
 refine⟨_,λ T=>Ay (k:=0) T.UQ SY _ (λ f B4 A outer s H E hr=>(A3 (B3 (ID (c:=true) (Ab (AQ hr 16 (by decide)) (A1 0 (pv 0)) A7)) (A6 (Am (AV Dr))) Ar) (A6 (Am (AV (AB (A2 (Ab (AQ hr 16 (by decide)) (A1 0 (pv 0)) A7) (A2 A7 A4)))))))),?_⟩;intro r;obtain⟨a,b,l,w⟩:=r;cases l<;>rfl
abbrev PX:List D->M OT:=zg Hl
def TB:Txt K mg->BG P w K mg base "_law_open" 1 1 PX:=(zb Hl).1
def TC:∀r:Road,PX [BH r]=.ok (.sh (cst (Cc r))):=(zb Hl).2
def FR:∃F:List D->M OT,(∀ {P w K mg base},Txt K mg->BG P w K mg base "_law_costs" 2 2 F)/\(∀(m:Nat) (rs:List Road),m<=900->rs.length<=900->(∀r∈rs,G7 m r)->∃ac:List (List Co),Ol m ac/\(∀x y:Int,0<=x->x<m->0<=y->y<m->BI rs x y (at2 ac x y))/\∃t,F [.lst (rs.map BH),.int m]=.ok t/\er t=.lst ((Av ac).map D.lst)):=by
 refine⟨_,λ T=>Ay (k:=1) T.Tg By _ (λ f B4 A outer s H E hr=>(A3 (fY 2 By.nd rfl (zO rfl)) (A3 (Bp A8.toXCall.own rfl (Cj (c:=true) rfl T.Cw (A1 1 (pv 1))) (AF 3 By.nd rfl (zO rfl)) (A3 (Bw 5 By.nd rfl (zO rfl) (Uu Dr (A1 1 (pv 1)))) (A3 (MX 5 (pv 5) (AB (A2 A7 (A2 A7 A4))) (A1 3 (pv 3))) (A3 (Bp A8.toXCall.own rfl (AW (A1 0 (pv 0))) (AF 6 By.nd rfl (zO rfl)) (A6 (B3 (Lf (c:=true) (AQ hr 16 (by decide)) (Ab (AQ hr 16 (by decide)) (A1 6 (pv 6)) A7) (A1 3 (pv 3))) (A6 (MX 5 (pv 5) (Ag (E9 (Aa A8.toXCall (Ks T) (hr.mono (by decide)) rfl (A2 (Gr (A2 (Ab (AQ hr 16 (by decide)) (A1 5 (pv 5)) (Ab (AQ hr 16 (by decide)) (A1 6 (pv 6)) A7)) (A2 (Ag (Aa A8.toXCall (TB T) (hr.mono (by decide)) rfl (A2 (A1 6 (pv 6)) A4) rfl)) A4))) A4) rfl))) (Ab (AQ hr 16 (by decide)) (A1 6 (pv 6)) A7))) Ar))) (A6 (fZ 2 5 (pv 2) (pv 5))))))) (A3 (Bp A8.toXCall.own rfl (Cj (c:=true) rfl T.Cw (A1 1 (pv 1))) (AF 4 By.nd rfl (zO rfl)) (A6 (Bp A8.toXCall.own rfl (Cj (c:=true) rfl T.Cw (A1 1 (pv 1))) (AF 3 By.nd rfl (zO rfl)) (A6 (Bp A8.toXCall.own rfl (Cj (c:=true) rfl T.Cw (A1 1 (pv 1))) (AF 7 By.nd rfl (zO rfl)) (A6 (gD 2 (pv 2) (Ag (Aa A8.toXCall (Ks T) (hr.mono (by decide)) rfl (A2 (Gr (A2 (Um 2 (pv 2) (A1 3 (pv 3)) (A1 7 (pv 7))) (A2 (Ag (Aa A8.toXCall (Kq T) (hr.mono (by decide)) rfl (A2 (Um 2 (pv 2) (A1 3 (pv 3)) (A1 4 (pv 4))) (A2 (Um 2 (pv 2) (A1 4 (pv 4)) (A1 7 (pv 7))) A4)) rfl)) A4))) A4) rfl)) (A1 3 (pv 3)) (A1 7 (pv 7))))))))) (A6 (Ck 2 (pv 2))))))),?_⟩;intro m rs hm cc Au;have e0:AE ["_law_roads_here","_law_many","_law_costs_here","_law_u","_law_v","_law_row","_law_road","_law_w"] [.lst (rs.map BH),.int m]=[some (.val (.lst (rs.map BH))),some (.val (.int m)),none,none,none,none,none,none]:=rfl;rw[e0];refine (λ h:∃t,_/\∃ac:List (List Co),Ol m ac/\(∀x y:Int,0<=x->x<m->0<=y->y<m->BI rs x y (at2 ac x y))/\er t=.lst ((Av ac).map D.lst)=>by
  obtain⟨t,h1,ac,h2,h3,h4⟩:=h;exact⟨ac,h2,h3,t,h1,h4⟩) (Lj ?_)
 have c8:=Gs (n:=m) (by omega);refine wp_step (ρ':=[some (.val (.lst (rs.map BH))),some (.val (.int m)),some (.ow (.rows [])),none,none,none,none,none]) rfl ?_;refine BC (I:=λ ρ=>∃(ac:List (List Co)) (s3 s5 s6:Option Cl),ρ=[some (.val (.lst (rs.map BH))),some (.val (.int m)),some (.ow (.rows (Av ac))),s3,none,s5,s6,none]/\ac.length=m/\∀u:Nat,u<m->Nn m rs u rs.length (ac.getD u [])) ?_ ?_
 ·simp_arith[c8];refine Br (λ i ρ=>∃(ac:List (List Co)) (s3 s5 s6:Option Cl),ρ=[some (.val (.lst (rs.map BH))),some (.val (.int m)),some (.ow (.rows (Av ac))),s3,none,s5,s6,none]/\ac.length=i/\∀u:Nat,u<i->Nn m rs u rs.length (ac.getD u [])) ⟨[],none,none,none,rfl,rfl,λ u h=>by omega⟩ ?_ ?_
  ·rintro i d ρ hd ⟨ac,s3,s5,s6,rfl,bP,aJ⟩;obtain⟨aB,hi⟩:=BU hd;rw[Int.zero_add] at aB;subst aB;refine⟨_,rfl,?_⟩;have bg:=Nf (d:=.AK) (n:=m) (by omega);have ca:zt m D.AK=(zt m (none:Co)).map cst:=by rw[List.map_replicate];rfl
   rw[ca] at bg;apply wp_step
   ·simp_arith[bg];rfl
   try simp only[zo,zj]
   have a7:=K6 (i:=5) (ρ:=[some (.val (.lst (rs.map BH))),some (.val (.int m)),some (.ow (.rows (Av ac))),some (.val (.int i)),none,some (.own ((zt m (none:Co)).map cst)),s6,none]) (d:=.tup [.int 0,.int 0]) (p:=(i:Int)) rfl (by omega) (by rw[zc,zas];omega);have aY:((zt m (none:Co)).map cst).set (i:Int).toNat (.tup [.int 0,.int 0])=((zt m none).set i (some (0,0))).map cst:=by rw[yM,List.map_set];rfl
   rw[aY] at a7;apply wp_step
   ·simp_arith[a7];rfl
   try simp only[zo,zj]
   refine BC (I:=λ ρ=>∃(R:List Co) (s6:Option Cl),ρ=[some (.val (.lst (rs.map BH))),some (.val (.int m)),some (.ow (.rows (Av ac))),some (.val (.int i)),none,some (.own (R.map cst)),s6,none]/\Nn m rs i rs.length R) ?_ ?_
   ·simp_arith[];refine Br (λ j ρ=>∃(R:List Co) (s6:Option Cl),ρ=[some (.val (.lst (rs.map BH))),some (.val (.int m)),some (.ow (.rows (Av ac))),some (.val (.int i)),none,some (.own (R.map cst)),s6,none]/\Nn m rs i j R) ⟨_,s6,rfl,Xk rs hi⟩ ?_ ?_
    ·rintro j d ρ hd ⟨R,s6,rfl,g⟩;obtain⟨r,hq,rfl⟩:=BL hd;have hr:=zr hq;have ok:=Au r hr;have r0:AX (BH r) (.int 0)=.ok (.int r.a):=rfl;have r1:AX (BH r) (.int 1)=.ok (.int r.b):=rfl;have b9:r.b<R.length:=by rw[g.len];exact ok.b1
     have x1:AX (.lst (R.map cst)) (.int r.b)=.ok (cst (atC R r.b)):=Cd ok.b0 b9;have w4:=TC r;have hle:FQ [.lst [cst (atC R r.b),cst (Cc r)]]=.ok (.sh (cst (DD (atC R r.b) (Cc r)))):=Kt [atC R r.b,Cc r] (by simp);refine⟨_,rfl,?_⟩;by_cases hu:r.a=(i:Int)
     ·have a7:=K6 (i:=5) (ρ:=[some (.val (.lst (rs.map BH))),some (.val (.int m)),some (.ow (.rows (Av ac))),some (.val (.int i)),none,some (.own (R.map cst)),some (.val (BH r)),none]) (d:=cst (DD (atC R r.b) (Cc r))) (p:=r.b) rfl ok.b0 (by rw[zc];exact b9);have aY:(R.map cst).set r.b.toNat (cst (DD (atC R r.b) (Cc r)))=(R.set r.b.toNat (DD (atC R r.b) (Cc r))).map cst:=by rw[List.map_set]
      rw[aY] at a7;refine AY (ρ':=[some (.val (.lst (rs.map BH))),some (.val (.int m)),some (.ow (.rows (Av ac))),some (.val (.int i)),none,some (.own ((R.set r.b.toNat (DD (atC R r.b) (Cc r))).map cst)),some (.val (BH r)),none]) (by simp_arith[r0,r1,decide_eq_true hu,x1,w4,hle,a7];rfl) ⟨_,_,rfl,ZQ g hq hu Au⟩
     ·refine AY (ρ':=_) (by simp_arith[r0,decide_eq_false hu];rfl) ⟨_,_,rfl,ZP g hq hu⟩
    ·rintro ρ ⟨R,s6,rfl,g⟩;rw[zc] at g;exact⟨R,s6,rfl,g⟩
   ·rintro ρ ⟨R,s6,rfl,g⟩;have hl:(Av ac).length<1000/\2≠5:=⟨by unfold Av;rw[zc];omega,by decide⟩;refine AY (ρ':=[some (.val (.lst (rs.map BH))),some (.val (.int m)),some (.ow (.rows (Av (ac++[R])))),some (.val (.int i)),none,none,s6,none]) ?_ ⟨_,_,_,_,rfl,by simp[bP],λ u hu=>?_⟩
    ·simp only[Z9,yU,zK,if_pos hl,zo,zj];unfold Av;rw[z6];rfl
    ·by_cases h:u=i
     ·subst h;have e:(ac++[R]).getD u []=R:=by rw[zu,yY (by omega)];simp[bP]
      rw[e];exact g
     ·have e:(ac++[R]).getD u []=ac.getD u []:=by rw[zu,yJ (by omega),zu]
      rw[e];exact aJ u (by omega)
  ·rintro ρ ⟨ac,s3,s5,s6,rfl,bP,aJ⟩;rw[Bk] at bP aJ;exact⟨ac,s3,s5,s6,rfl,bP,aJ⟩
 rintro ρ ⟨ac,s3,s5,s6,rfl,bP,aJ⟩;have hM:Ol m ac:=⟨bP,λ R hR=>by
  obtain⟨u,hu,e⟩:=List.getElem_of_mem hR;have:=(aJ u (by omega)).len;rw[zu,zh hu] at this;rw[<-e];exact this⟩
 have hF:=ZR hM Au aJ;refine BC (I:=λ ρ=>∃(ac:List (List Co)) (s3 s4 s5 s6 s7:Option Cl),ρ=[some (.val (.lst (rs.map BH))),some (.val (.int m)),some (.ow (.rows (Av ac))),s3,s4,s5,s6,s7]/\Ol m ac/\FW m m rs (at2 ac)) ?_ ?_
 ·simp_arith[c8];refine Br (λ k ρ=>∃(ac:List (List Co)) (s3 s4 s5 s6 s7:Option Cl),ρ=[some (.val (.lst (rs.map BH))),some (.val (.int m)),some (.ow (.rows (Av ac))),s3,s4,s5,s6,s7]/\Ol m ac/\FW m k rs (at2 ac)) ⟨ac,s3,none,s5,s6,none,rfl,hM,hF⟩ ?_ ?_
  ·rintro k d ρ hd ⟨av,s3,s4,s5,s6,s7,rfl,w5,jl⟩;obtain⟨aB,hk⟩:=BU hd;rw[Int.zero_add] at aB;subst aB;refine⟨_,rfl,?_⟩;have k0:(0:Int)<=k:=by omega
   have k1:(k:Int)<m:=by omega
   have oc:=Sz jl hk;have orr:=SA jl hk;simp_arith[c8];refine Br (λ u ρ=>∃(ac:List (List Co)) (s3 s5 s6 s7:Option Cl),ρ=[some (.val (.lst (rs.map BH))),some (.val (.int m)),some (.ow (.rows (Av ac))),s3,some (.val (.int k)),s5,s6,s7]/\Ol m ac/\∀x y:Int,0<=x->x<m->0<=y->y<m->at2 ac x y=if x<u then over k (at2 av) x y else at2 av x y) ⟨av,s3,s5,s6,s7,rfl,w5,λ x y h0 h1 h2 h3=>by rw[if_neg (by omega)]⟩ ?_ ?_
   ·rintro u d ρ hd ⟨b5,s3,s5,s6,s7,rfl,gj,ku⟩;obtain⟨aB,hu⟩:=BU hd;rw[Int.zero_add] at aB;subst aB;have u0:(0:Int)<=u:=by omega
    have u1:(u:Int)<m:=by omega
    refine⟨_,rfl,?_⟩;simp_arith[c8];refine Br (λ w ρ=>∃(ac:List (List Co)) (s5 s6 s7:Option Cl),ρ=[some (.val (.lst (rs.map BH))),some (.val (.int m)),some (.ow (.rows (Av ac))),some (.val (.int u)),some (.val (.int k)),s5,s6,s7]/\Ol m ac/\∀x y:Int,0<=x->x<m->0<=y->y<m->at2 ac x y=if x<u\/(x=u/\y<w) then over k (at2 av) x y else at2 av x y) ⟨b5,s5,s6,s7,rfl,gj,λ x y h0 h1 h2 h3=>by
     rw[ku x y h0 h1 h2 h3];by_cases h:x<u
     ·rw[if_pos h,if_pos (.inl h)]
     ·rw[if_neg h,if_neg (by omega)]⟩ ?_ ?_
    ·rintro w d ρ hd ⟨aK,s5,s6,s7,rfl,gl,gm⟩;obtain⟨aB,hw⟩:=BU hd;rw[Int.zero_add] at aB;subst aB;have w0:(0:Int)<=w:=by omega
     have w1:(w:Int)<m:=by omega
     have a1:at2 aK u w=at2 av u w:=by rw[gm u w u0 u1 w0 w1,if_neg (by omega)]
     have a2:at2 aK u k=at2 av u k:=by
      rw[gm u k u0 u1 k0 k1];split
      ·exact oc u
      ·rfl
     have a3:at2 aK k w=at2 av k w:=by
      rw[gm k w k0 k1 w0 w1];split
      ·exact orr w
      ·rfl
     obtain⟨w6,hP⟩:=gl.put u0 u1 w0 w1 (over k (at2 av) u w);obtain⟨R0,y2⟩:∃R0:Ac,R0=[some (.val (.lst (rs.map BH))),some (.val (.int m)),some (.ow (.rows (Av aK))),some (.val (.int u)),some (.val (.int k)),s5,s6,some (.val (.int w))]:=⟨_,rfl⟩;have c1:=UG (ρ:=[some (.val (.lst (rs.map BH))),some (.val (.int m)),some (.ow (.rows (Av aK))),some (.val (.int u)),some (.val (.int k)),s5,s6,some (.val (.int w))]) (i:=2) rfl gl u0 u1 w0 w1;have c2:=UG (ρ:=[some (.val (.lst (rs.map BH))),some (.val (.int m)),some (.ow (.rows (Av aK))),some (.val (.int u)),some (.val (.int k)),s5,s6,some (.val (.int w))]) (i:=2) rfl gl u0 u1 k0 k1;have c3:=UG (ρ:=[some (.val (.lst (rs.map BH))),some (.val (.int m)),some (.ow (.rows (Av aK))),some (.val (.int u)),some (.val (.int k)),s5,s6,some (.val (.int w))]) (i:=2) rfl gl k0 k1 w0 w1;rw[a1] at c1;rw[a2] at c2;rw[a3] at c3;have d4:=Kr (at2 av u k) (at2 av k w);have hle:FQ [.lst [cst (at2 av u w),cst (Aj (at2 av u k) (at2 av k w))]]=.ok (.sh (cst (over k (at2 av) u w))):=Kt [at2 av u w,Aj (at2 av u k) (at2 av k w)] (by simp);have pj:=jO (ρ:=[some (.val (.lst (rs.map BH))),some (.val (.int m)),some (.ow (.rows (Av aK))),some (.val (.int u)),some (.val (.int k)),s5,s6,some (.val (.int w))]) (i:=2) (v:=over k (at2 av) u w) rfl gl u0 u1 w0 w1;refine⟨_,rfl,?_⟩;refine AY (ρ':=[some (.val (.lst (rs.map BH))),some (.val (.int m)),some (.ow (.rows (Av (put2 aK u w (over k (at2 av) u w))))),some (.val (.int u)),some (.val (.int k)),s5,s6,some (.val (.int w))]) (by simp_arith[c1,c2,c3,d4,hle,pj]) ⟨_,_,_,_,rfl,w6,λ x y h0 h1 h2 h3=>?_⟩;rw[hP x y h0 h2];by_cases h:x=u/\y=w
     ·rw[if_pos h,if_pos (by omega),h.1,h.2]
     ·rw[if_neg h,gm x y h0 h1 h2 h3];by_cases h':x<u\/(x=u/\y<w)
      ·rw[if_pos h',if_pos (by omega)]
      ·rw[if_neg h',if_neg (by omega)]
    ·rintro ρ ⟨aK,s5,s6,s7,rfl,gl,gm⟩;rw[Bk] at gm;refine⟨aK,_,_,_,_,rfl,gl,λ x y h0 h1 h2 h3=>?_⟩;rw[gm x y h0 h1 h2 h3];by_cases h:x<u\/(x=u/\y<m)
     ·rw[if_pos h,if_pos (by omega)]
     ·rw[if_neg h,if_neg (by omega)]
   ·rintro ρ ⟨b5,s3,s5,s6,s7,rfl,gj,ku⟩;rw[Bk] at ku;refine⟨b5,_,_,_,_,_,rfl,gj,(ZO jl hk).congr (by omega) Au λ x y h0 h1 h2 h3=>?_⟩;rw[ku x y h0 h1 h2 h3,if_pos h1]
  ·rintro ρ ⟨b5,s3,s4,s5,s6,s7,rfl,gj,d0⟩;rw[Bk] at d0;exact⟨b5,s3,s4,s5,s6,s7,rfl,gj,d0⟩
 ·rintro ρ ⟨b5,s3,s4,s5,s6,s7,rfl,gj,d0⟩;refine⟨_,rfl,b5,gj,λ x y h0 h1 h2 h3=>oK d0 Au h0 h1 h2 h3,?_⟩;rw[er,Qk,yK];congr 1;refine List.map_congr_left λ R _=>?_;dsimp only [Function.comp];rw[Fq]
abbrev O6:List D->M OT:=zg FR
def Ry:Txt K mg->BG P w K mg base "_law_costs" 2 2 O6:=(zb FR).1
def Rz:∀(m:Nat) (rs:List Road),m<=900->rs.length<=900->(∀r∈rs,G7 m r)->∃ac:List (List Co),Ol m ac/\(∀x y:Int,0<=x->x<m->0<=y->y<m->BI rs x y (at2 ac x y))/\∃t,O6 [.lst (rs.map BH),.int m]=.ok t/\er t=.lst ((Av ac).map D.lst):=(zb FR).2
def Hm:∃F:List D->M OT,(∀ {P w K mg base},Txt K mg->BG P w K mg base "_law_hubs" 2 4 F)/\(∀(m:Nat) (ac:List (List Co)) (L:List Int) (p:Nat) (b:Bool),m<=20->Ol m ac->L.Perm (AR m)->p<m->F [.lst ((Av ac).map D.lst),.lst (L.map D.int),.int p,.bl b]=.ok (.lst (((C1 (Zg b (at2 ac)) p L.reverse).map (B7 (Zg b (at2 ac)) p)).map .sh))):=by
 refine⟨_,λ T=>Ay (k:=1) T.UR BR _ (λ f B4 A outer s H E hr=>(A3 (Bw 4 BR.nd rfl (zO rfl) (Fm CP)) (A3 (Bp A8.toXCall.own rfl (XD (c:=true) rfl T.Cw (A2 (YK (D6 rfl T.Fb (A1 1 (pv 1))) A7) (A2 (YQ A7) (A2 (YQ A7) A4)))) (AF 5 BR.nd rfl (zO rfl)) (A3 (YX (AB (A2 (A1 2 (pv 2)) (A2 (Ab (AQ hr 16 (by decide)) (A1 1 (pv 1)) (A1 5 (pv 5))) A4))) (Qn (n:=2) rfl (Dl (AF 6 BR.nd rfl (Or.inr rfl)) (Dl (AF 7 BR.nd rfl (Or.inr rfl)) LZ)))) (A3 (B3 (Bj (Bc (c:=true) (A1 3 (pv 3)))) (A6 (YX (AB (A2 (Ab (AQ hr 16 (by decide)) (A1 1 (pv 1)) (A1 5 (pv 5))) (A2 (A1 2 (pv 2)) A4))) (Qn (n:=2) rfl (Dl (AF 6 BR.nd rfl (Or.inr rfl)) (Dl (AF 7 BR.nd rfl (Or.inr rfl)) LZ))))) Ar) (A3 (Qo (NB:=["_law_x","_law_other","_law_costs_here","_law_one"]) 8 [none,some 7,some 0,some 6] BR.nd rfl (zO rfl) rfl (AW (Ag (Jx (A1 1 (pv 1)) (Jg (BS (A1 5 (pv 5)) A7)) Qm))) rfl rfl (BY 0 (by decide) rfl rfl rfl) (λ _ _ _ _=>Fi (Lf (c:=true) (AQ hr 16 (by decide)) (Ag (Bq (Aa (AL rfl).toXCall (Kq T) (hr.mono (by decide)) rfl (A2 (Ab (AQ hr 16 (by decide)) (Ab (AQ hr 16 (by decide)) (A1 2 (pv 2)) (A1 3 (pv 3))) (A1 0 (pv 0))) (A2 (Ab (AQ hr 16 (by decide)) (Ab (AQ hr 16 (by decide)) (A1 2 (pv 2)) (A1 0 (pv 0))) (A1 1 (pv 1))) A4)) rfl))) (Ab (AQ hr 16 (by decide)) (Ab (AQ hr 16 (by decide)) (A1 2 (pv 2)) (A1 3 (pv 3))) (A1 1 (pv 1))))) (λ _ _ _ _=>(A1 0 (pv 0)))) (A6 (B3 (DW.dt (IE (Hs (c:=true) (Ab (AQ hr 16 (by decide)) (Ab (AQ hr 16 (by decide)) (A1 0 (pv 0)) (A1 6 (pv 6))) (A1 7 (pv 7)))) (Ht (Lf (c:=true) (AQ hr 16 (by decide)) (D6 rfl T.Fb (A1 8 (pv 8))) A7)))) (A6 (DL 4 (pv 4) (AB (A2 (Ab (AQ hr 16 (by decide)) (A1 1 (pv 1)) (A1 5 (pv 5))) (A2 (Ab (AQ hr 16 (by decide)) (Ab (AQ hr 16 (by decide)) (A1 0 (pv 0)) (A1 6 (pv 6))) (A1 7 (pv 7))) A4))))) Ar)))))) (A6 (Ck 4 (pv 4)))))),?_⟩;intro m ac L p b hm hM hL hp;have hlen:=Ec hL;have e0:AE ["_law_costs_here","_law_order_here","_law_place","_law_out","_law_due","_law_k","_law_one","_law_other","_law_lies"] [.lst ((Av ac).map D.lst),.lst (L.map D.int),.int p,.bl b]=[some (.val (.lst ((Av ac).map D.lst))),some (.val (.lst (L.map D.int))),some (.val (.int p)),some (.val (.bl b)),none,none,none,none,none]:=rfl;rw[e0];refine Bd ?_;obtain⟨C,hC⟩:∃C,C=Zg b (at2 ac):=⟨_,rfl⟩;have jd:(((L.map D.int).length:Int)-1)=(m:Int)-1:=by rw[zc,hlen]
 have hr:=cT (n:=m) (by omega);apply wp_step
 ·rfl
 try simp only[zo,zj]
 rw[<-hC];refine BC (I:=λ ρ=>∃(s5 s6 s7 s8:Option Cl),ρ=[some (.val (.lst ((Av ac).map D.lst))),some (.val (.lst (L.map D.int))),some (.val (.int p)),some (.val (.bl b)),some (.own ((C1 C p L.reverse).map (B7 C p))),s5,s6,s7,s8]) ?_ ?_
 ·simp_arith[jd,hr];refine Br (λ i ρ=>∃(s5 s6 s7 s8:Option Cl),ρ=[some (.val (.lst ((Av ac).map D.lst))),some (.val (.lst (L.map D.int))),some (.val (.int p)),some (.val (.bl b)),some (.own ((C1 C p (L.reverse.take i)).map (B7 C p))),s5,s6,s7,s8]) ⟨none,none,none,none,rfl⟩ ?_ ?_
  ·rintro i d ρ hd ⟨s5,s6,s7,s8,rfl⟩;obtain⟨aB,hi⟩:=PB hd;subst aB;obtain⟨k,hk⟩:∃k:Nat,(k:Int)=(m:Int)-1-i:=⟨m-1-i,by omega⟩;rw[<-hk];obtain⟨y,hy⟩:∃y,L[k]?=some y:=⟨_,zh (by omega)⟩;have aM:=(AM hL).mp (zr hy);have pi:L.reverse[i]?=some y:=by rw[List.getElem?_reverse (by omega),show L.length-1-i=k by omega];exact hy
   have et:L.reverse.take (i+1)=L.reverse.take i++[y]:=by rw[y9,pi];rfl
   have ed:L.drop (k+1)=(L.reverse.take i).reverse:=by rw[List.take_reverse,List.reverse_reverse,show L.length-i=k+1 by omega]
   have xo:AX (.lst (L.map D.int)) (.int (k:Int))=.ok (.int y):=HQ (by omega) (by rw[yM];exact hy);have aJ:∀x:Int,0<=x->x<m->AX (.lst ((Av ac).map D.lst)) (.int x)=.ok (.lst ((ac.getD x.toNat []).map cst)):=λ x a b=>by
    have g:=(hM.get a b).1;unfold Av;rw[yK];exact HQ a g
   have p7:∀x z:Int,0<=x->x<m->0<=z->z<m->AX (.lst ((ac.getD x.toNat []).map cst)) (.int z)=.ok (cst (at2 ac x z)):=λ x z a b c d=>Cd c (by rw[(hM.get a b).2];exact d);refine⟨_,rfl,?_⟩;refine wp_step (ρ':=[some (.val (.lst ((Av ac).map D.lst))),some (.val (.lst (L.map D.int))),some (.val (.int p)),some (.val (.bl b)),some (.own ((C1 C p (L.reverse.take i)).map (B7 C p))),some (.val (.int k)),some (.val (.int p)),some (.val (.int y)),s8]) (by simp_arith[xo];try rfl) ?_;refine BC (I:=λ ρ=>∃(u v:Int),ρ=[some (.val (.lst ((Av ac).map D.lst))),some (.val (.lst (L.map D.int))),some (.val (.int p)),some (.val (.bl b)),some (.own ((C1 C p (L.reverse.take i)).map (B7 C p))),some (.val (.int k)),some (.val (.int u)),some (.val (.int v)),s8]/\(0<=u/\u<m)/\(0<=v/\v<m)/\at2 ac u v=C p y/\∀x:Int,Aj (at2 ac u x) (at2 ac x v)=Aj (C p x) (C x y)) ?_ ?_
   ·cases b with
    |true=>exact AY (ρ':=[some (.val (.lst ((Av ac).map D.lst))),some (.val (.lst (L.map D.int))),some (.val (.int p)),some (.val (.bl true)),some (.own ((C1 C p (L.reverse.take i)).map (B7 C p))),some (.val (.int k)),some (.val (.int p)),some (.val (.int y)),s8]) (by simp_arith[DB];try rfl) ⟨p,y,rfl,⟨by omega,by omega⟩,aM,by rw[hC];rfl,λ x=>by rw[hC];rfl⟩
    |false=>exact AY (ρ':=[some (.val (.lst ((Av ac).map D.lst))),some (.val (.lst (L.map D.int))),some (.val (.int p)),some (.val (.bl false)),some (.own ((C1 C p (L.reverse.take i)).map (B7 C p))),some (.val (.int k)),some (.val (.int y)),some (.val (.int p)),s8]) (by simp_arith[xo,DB];try rfl) ⟨y,p,rfl,aM,⟨by omega,by omega⟩,by rw[hC];rfl,λ x=>by rw[hC,Bb];rfl⟩
   rintro ρ ⟨u,v,rfl,hu,hv,w9,p8⟩;have x0:=p7 u v hu.1 hu.2 hv.1 hv.2;rw[w9] at x0;have sl:dU (some ((k:Int)+1)) none (.lst (L.map D.int))=.ok (.lst (((L.drop (k+1)).map D.int).map .sh)):=by
    have:=Nc (L.map D.int) (k+1);rw[<-List.map_drop] at this;exact this
   have c4:((L.drop (k+1)).map D.int).length<=1000:=by rw[zc,zak];omega
   refine wp_step (ρ':=[some (.val (.lst ((Av ac).map D.lst))),some (.val (.lst (L.map D.int))),some (.val (.int p)),some (.val (.bl b)),some (.own ((C1 C p (L.reverse.take i)).map (B7 C p))),some (.val (.int k)),some (.val (.int u)),some (.val (.int v)),some (.val (.lst (((L.drop (k+1)).filter λ x=>decide (Aj (C p x) (C x y)=C p y)).map D.int)))]) (by
    simp_arith[sl,if_pos c4];rw[CD (λ x:Int=>decide (Aj (C p x) (C x y)=C p y)) (λ x:Int=>D.int x) (λ x hx=>⟨_,rfl,by
     have bA:=(AM hL).mp (List.mem_of_mem_drop hx);have r1:=aJ u hu.1 hu.2;have r2:=aJ x bA.1 bA.2;have x1:=p7 u x hu.1 hu.2 bA.1 bA.2;have x2:=p7 x v bA.1 bA.2 hv.1 hv.2;have d4:=Kr (at2 ac u x) (at2 ac x v);rw[p8 x] at d4;have pz:=QD (Aj (C p x) (C x y)) (C p y);simp_arith[r1,r2,x0,x1,x2,d4,pz];try rfl,λ _=>rfl⟩)]
    simp_arith[];try rfl) ?_
   have r1:=aJ u hu.1 hu.2;rw[et,L1];cases hc:C p y with
   |none =>
    rw[hc] at x0;have aV:Cr (cst none)=true:=rfl;rw[Nx hc,if_neg (by decide),zF];exact AY (ρ':=_) (by simp_arith[r1,x0,aV];rfl) ⟨_,_,_,_,rfl⟩
   |some c =>
    have ae:C p y≠none:=by rw[hc];exact λ z=>by cases z
    have aV:Cr (cst (some c))=false:=rfl;have eh:B7 C p y=.tup [.int y,cst (some c)]:=by unfold B7;rw[hc]
    have aI:((C1 C p (L.reverse.take i)).map (B7 C p)).length<1000:=by
     have:=Ka C p (L.reverse.take i);rw[zT,zR] at this;rw[zc];omega
    have bh:decide (((((L.drop (k+1)).filter λ x=>decide (Aj (C p x) (C x y)=C p y)).map D.int).length:Int)=0) = !((L.reverse.take i).any λ x=>decide (Aj (C p x) (C x y)=C p y)):=by
     rw[zc,ed];exact cY _ _
    rw[hc] at x0;rw[IU ae];rw[hc] at bh ⊢;cases hz:(L.reverse.take i).any λ z=>decide (Aj (C p z) (C z y)=some c) with
    |true =>
     rw[hz] at bh;rw[Bool.not_true,if_neg (by decide),zF];exact AY (ρ':=_) (by simp_arith[r1,x0,aV,bh];rfl) ⟨_,_,_,_,rfl⟩
    |false =>
     rw[hz] at bh;rw[Bool.not_false,if_pos rfl];refine AY (ρ':=[some (.val (.lst ((Av ac).map D.lst))),some (.val (.lst (L.map D.int))),some (.val (.int p)),some (.val (.bl b)),some (.own ((C1 C p (L.reverse.take i)++[y]).map (B7 C p))),some (.val (.int k)),some (.val (.int u)),some (.val (.int v)),some (.val (.lst (((L.drop (k+1)).filter λ x=>decide (Aj (C p x) (C x y)=some c)).map D.int)))]) (by
      rw[z6,List.map_singleton,eh];simp_arith[r1,x0,aV,bh,xo,if_pos aI];try rfl) ⟨_,_,_,_,rfl⟩
  ·rintro ρ ⟨s5,s6,s7,s8,rfl⟩;rw[L3,zap (by rw[zR];omega)];exact⟨_,_,_,_,rfl⟩
 ·rintro ρ ⟨s5,s6,s7,s8,rfl⟩;exact⟨_,rfl,rfl⟩
abbrev HX:List D->M OT:=zg Hm
def EF:Txt K mg->BG P w K mg base "_law_hubs" 2 4 HX:=(zb Hm).1
def LP:∀(m:Nat) (ac:List (List Co)) (L:List Int) (p:Nat) (b:Bool),m<=20->Ol m ac->L.Perm (AR m)->p<m->HX [.lst ((Av ac).map D.lst),.lst (L.map D.int),.int p,.bl b]=.ok (.lst (((C1 (Zg b (at2 ac)) p L.reverse).map (B7 (Zg b (at2 ac)) p)).map .sh)):=(zb Hm).2
def FT:∃F:OT->List D->M (OT×OT),(∀ {P w K mg base},Txt K mg->Jv P w K mg base "_law_right" 3 3 F)/\(∀(C:Int->Int->Co) (p:Nat) (W:List Int),W.length<=900->(∀h∈W,∃c,C p h=some c)->(p:Int)∈W->C p p=some (0,0)->F (.lst ((W.map (B7 C p)).map .sh)) [.lst (W.map (B7 C p)),.int p]=.ok (.lst [],.sh (.bl true))):=by
 refine⟨_,λ T=>N8 (k:=2) T.Th Kh _ (λ f B4 A outer s H E hr=>(A3 (B3 (IJ (DW.dt (Dw (Bj (Bc (c:=true) (DZ (KI _) rfl T.B0 rfl T.Ee (by decide +kernel) (A1 0 (pv 0))))) (Dw (Lg (c:=true) (AQ hr 16 (by decide)) (A1 0 (pv 0)) (A1 1 (pv 1))) (D5 (jQ (c:=true) (AQ hr 16 (by decide)) (AB (A2 (A1 2 (pv 2)) (A2 (AB (A2 A7 (A2 A7 A4))) A4))) (A1 0 (pv 0)))))))) (A6 (Qt (AV BP))) Ar) (A3 (XE 0 A8.toXCall.own rfl (pv 0) (AF 3 Kh.nd rfl (zO rfl)) (A6 (B3 (DW.dt (Dw (Bj (Bc (c:=true) (DZ (Fh _) rfl T.B0 rfl T.Kk (by decide +kernel) (A1 3 (pv 3))))) (Dw (Bj (Bc (c:=true) (Ag (Aa A8.toXCall (FI T) (hr.mono (by decide)) rfl (A2 (Ab (AQ hr 16 (by decide)) (A1 3 (pv 3)) A7) A4) rfl)))) (D5 (Bj (Bc (c:=true) (Ag (Aa A8.toXCall (O1 T) (hr.mono (by decide)) rfl (A2 (Ab (AQ hr 16 (by decide)) (A1 3 (pv 3)) A7) A4) rfl)))))))) (A6 (Qt (AV BP))) Ar))) (A3 (Xv (BJ 0 (pv 0))) (A6 (Qt (AV BP))))))),?_⟩;intro C p W hl hc hp h0;have e0:CM ["_law_found","_law_due","_law_place","_law_row"] (.lst ((W.map (B7 C p)).map .sh)) [.lst (W.map (B7 C p)),.int p]=[some (.ow (.Ia 0 (W.map (B7 C p)))),some (.val (.lst (W.map (B7 C p)))),some (.val (.int p)),none]:=by unfold CM;rw[toCl_listP];rfl
 rw[e0];refine QU ?_;have ae:dS 16 (.lst (W.map (B7 C p))) (.lst (W.map (B7 C p)))=.ok (.bl false):=Z4 ((Wb C p W).le (by decide));have wE:=jU hp h0;apply wp_step
 ·simp_arith[ae,wE,DB];rfl
 try simp only[zo,zj]
 refine BC (I:=λ ρ=>∃s3:Option Cl,ρ=[some (.ow (.Ia 0 (W.map (B7 C p)))),some (.val (.lst (W.map (B7 C p)))),some (.val (.int p)),s3]) ?_ ?_
 ·refine XF (n:=0) (ds:=W.map (B7 C p)) rfl (λ i ρ=>∃s3:Option Cl,ρ=[some (.ow (.Ia 0 (W.map (B7 C p)))),some (.val (.lst (W.map (B7 C p)))),some (.val (.int p)),s3]) ⟨none,rfl⟩ (λ k ρ h=>by obtain⟨s3,rfl⟩:=h;rfl) ?_ ?_
  ·rintro k d ρ hd ⟨s3,rfl⟩;rw[z5] at hd;obtain⟨h,hh,rfl⟩:=zaj.mp hd;obtain⟨c,gq⟩:=hc h (zr hh);refine⟨_,rfl,?_⟩;have eh:B7 C p h=.tup [.int h,.tup [.int c.1,.int c.2]]:=by unfold B7;rw[gq];rfl
   have j0:AX (.tup [.int h,.tup [.int c.1,.int c.2]]) (.int 0)=.ok (.int h):=rfl;have j1:AX (.tup [.int h,.tup [.int c.1,.int c.2]]) (.int 1)=.ok (.tup [.int c.1,.int c.2]):=rfl;have w1:=FJ h;have w2:=O2 c.1 c.2;refine AY (ρ':=[some (.ow (.Ia 0 (W.map (B7 C p)))),some (.val (.lst (W.map (B7 C p)))),some (.val (.int p)),some (.val (B7 C p h))]) (by
    rw[eh];simp_arith[j0,j1,w1,w2,DB];try rfl) ⟨_,rfl⟩
  ·rintro ρ ⟨s3,rfl⟩;exact⟨_,rfl⟩
 rintro ρ ⟨s3,rfl⟩;apply wp_step
 ·simp_arith[];rfl
 try simp only[zo,zj]
 exact⟨rfl,rfl⟩
abbrev FU:OT->List D->M (OT×OT):=zg FT
def DK:Txt K mg->Jv P w K mg base "_law_right" 3 3 FU:=(zb FT).1
def Ku:∀(C:Int->Int->Co) (p:Nat) (W:List Int),W.length<=900->(∀h∈W,∃c,C p h=some c)->(p:Int)∈W->C p p=some (0,0)->FU (.lst ((W.map (B7 C p)).map .sh)) [.lst (W.map (B7 C p)),.int p]=.ok (.lst [],.sh (.bl true)):=(zb FT).2
def V0:∃F:List D->M D,(∀ {P w K mg base f fd},Txt K mg->XX K "law" "law" PN f fd->Di P w K mg base fA 8 f fd ["_law_script"] (Uh K 1 F))/\(∀ns:List Int,ns.length<=63->(∀n∈ns,Sm n)->F [.lst (ns.map D.int)]=.ok (.bl true)):=by
 refine⟨_,fun {P w K mg base f fd} T F=>sJ (k:=7) F Dt _ (λ B4 A outer s H E hr=>(A3 (AU 1 Dt.nd rfl (zO rfl) (Ag (Bq (Aa (AL rfl).toXCall (De T) (hr.mono (by decide)) rfl (A2 (Ag (Aa (AL rfl).toXCall (Cg T) (hr.mono (by decide)) rfl (A2 (A1 0 (pv 0)) (A2 A7 A4)) rfl)) (A2 A7 A4)) rfl)))) (A3 (AU 2 Dt.nd rfl (zO rfl) (Ab (AQ hr 16 (by decide)) (Gr (A2 (BS A7 (BK (A1 1 (pv 1)) A7)) (A2 (BS A7 (BK (A1 1 (pv 1)) A7)) A4))) (fU rfl T.dH (YN (AQ hr 16 (by decide)) (BK (Hr (A1 1 (pv 1)) A7) A7) A7)))) (A3 (AU 3 Dt.nd rfl (zO rfl) (Ag (Bq (Aa (AL rfl).toXCall (Ru T) (hr.mono (by decide)) rfl (A2 (Ag (Jx (A1 0 (pv 0)) (Jg A7) (Jg A7))) (A2 (A1 2 (pv 2)) A4)) rfl)))) (A3 (AU 4 Dt.nd rfl (zO rfl) (Ag (Bq (Aa (AL rfl).toXCall (Rw T) (hr.mono (by decide)) rfl (A2 (Ag (Aa (AL rfl).toXCall (Cg T) (hr.mono (by decide)) rfl (A2 (A1 0 (pv 0)) (A2 A7 A4)) rfl)) (A2 (A1 2 (pv 2)) A4)) rfl)))) (A3 (AU 5 Dt.nd rfl (zO rfl) (Ag (Bq (iM (AL rfl).toXCall (Em T).yE (hr.mono (by decide)) rfl (A2 (AB (A2 (A1 2 (pv 2)) (A2 (Ag (Hy rfl T.Ee (A1 3 (pv 3)))) A4))) (A2 (Ag (Hy rfl T.Ee (A1 4 (pv 4)))) A4)) rfl)))) (A3 (B3 (Lf (c:=true) (AQ hr 16 (by decide)) (BK (Ag (Bq (Aa (AL rfl).toXCall (De T) (hr.mono (by decide)) rfl (A2 (Ag (Aa (AL rfl).toXCall (Cg T) (hr.mono (by decide)) rfl (A2 (A1 0 (pv 0)) (A2 A7 A4)) rfl)) (A2 A7 A4)) rfl))) A7) A7) (A3 (AU 5 Dt.nd rfl (zO rfl) (Ag (Bq (ZJ (AL rfl).toXCall (Em T) (hr.mono (by decide)) rfl (A2 (AB (A2 (A1 2 (pv 2)) (A2 (Ag (Hy rfl T.Ee (A1 3 (pv 3)))) A4))) A4) rfl)))) (A6 (AU 4 Dt.nd rfl (zO rfl) (Ag (Bq (F3 (k:=1) [("Ladder",AA)] (AL rfl).toXCall (CS (by decide) (Cy T) DC) (hr.mono (by decide)) (A1 5 (pv 5)))))))) Ar) (A3 (AU 6 Dt.nd rfl (zO rfl) (Ag (Bq (Aa (AL rfl).toXCall (Ry T) (hr.mono (by decide)) rfl (A2 (A1 3 (pv 3)) (A2 (A1 2 (pv 2)) A4)) rfl)))) (A3 (Bp PassesOwn.never rfl (Cj (c:=true) rfl T.Cw A7) (AF 7 Dt.nd rfl (zO rfl)) (A3 (AU 8 Dt.nd rfl (zO rfl) (BK (Ag (Bq (Aa (AL rfl).toXCall (De T) (hr.mono (by decide)) rfl (A2 (Ag (Aa (AL rfl).toXCall (Cg T) (hr.mono (by decide)) rfl (A2 (A1 0 (pv 0)) (A2 A7 A4)) rfl)) (A2 (BS A7 (A1 7 (pv 7))) A4)) rfl))) (A1 2 (pv 2)))) (A3 (B3 (Bj (Bc (c:=true) (Ag (Bq (W8 (AL rfl).toXCall (DK T) (hr.mono (by decide)) rfl (Aa (AL rfl).toXCall (Km T) (hr.mono (by decide)) rfl (A2 (A1 5 (pv 5)) (A2 (A1 8 (pv 8)) A4)) rfl) (A2 (Ag (Aa (AL rfl).toXCall (EF T) (hr.mono (by decide)) rfl (A2 (A1 6 (pv 6)) (A2 (A1 4 (pv 4)) (A2 (A1 8 (pv 8)) (A2 BP A4)))) rfl)) (A2 (A1 8 (pv 8)) A4)) rfl))))) (A6 (MT (KH BP))) Ar) (A6 (B3 (Bj (Bc (c:=true) (Ag (Bq (W8 (AL rfl).toXCall (DK T) (hr.mono (by decide)) rfl (Aa (AL rfl).toXCall (Ip T) (hr.mono (by decide)) rfl (A2 (A1 5 (pv 5)) (A2 (A1 8 (pv 8)) A4)) rfl) (A2 (Ag (Aa (AL rfl).toXCall (EF T) (hr.mono (by decide)) rfl (A2 (A1 6 (pv 6)) (A2 (A1 4 (pv 4)) (A2 (A1 8 (pv 8)) (A2 BP A4)))) rfl)) (A2 (A1 8 (pv 8)) A4)) rfl))))) (A6 (MT (KH BP))) Ar))))) (A3 (AU 8 Dt.nd rfl (zO rfl) (BK (Ag (Bq (Aa (AL rfl).toXCall (De T) (hr.mono (by decide)) rfl (A2 (Ag (Aa (AL rfl).toXCall (Cg T) (hr.mono (by decide)) rfl (A2 (A1 0 (pv 0)) (A2 A7 A4)) rfl)) (A2 A7 A4)) rfl))) (A1 2 (pv 2)))) (A3 (B3 (Bj (Bc (c:=true) (Ag (Bq (W8 (AL rfl).toXCall (DK T) (hr.mono (by decide)) rfl (Aa (AL rfl).toXCall (Km T) (hr.mono (by decide)) rfl (A2 (A1 5 (pv 5)) (A2 (A1 8 (pv 8)) A4)) rfl) (A2 (Ag (Aa (AL rfl).toXCall (EF T) (hr.mono (by decide)) rfl (A2 (A1 6 (pv 6)) (A2 (A1 4 (pv 4)) (A2 (A1 8 (pv 8)) (A2 BP A4)))) rfl)) (A2 (A1 8 (pv 8)) A4)) rfl))))) (A6 (MT (KH BP))) Ar) (A3 (B3 (Bj (Bc (c:=true) (Ag (Bq (W8 (AL rfl).toXCall (DK T) (hr.mono (by decide)) rfl (Aa (AL rfl).toXCall (Ip T) (hr.mono (by decide)) rfl (A2 (A1 5 (pv 5)) (A2 (A1 8 (pv 8)) A4)) rfl) (A2 (Ag (Aa (AL rfl).toXCall (EF T) (hr.mono (by decide)) rfl (A2 (A1 6 (pv 6)) (A2 (A1 4 (pv 4)) (A2 (A1 8 (pv 8)) (A2 BP A4)))) rfl)) (A2 (A1 8 (pv 8)) A4)) rfl))))) (A6 (MT (KH BP))) Ar) (A6 (MT (KH BP))))))))))))))),?_⟩;intro ns l8 bo;have e0:AE ["_law_script","_law_first","_law_many","_law_roads_here","_law_order_here","_law_ladder","_law_costs_here","_law_k","_law_place"] [.lst (ns.map D.int)]=[some (.val (.lst (ns.map D.int))),none,none,none,none,none,none,none,none]:=rfl;rw[e0];refine tE ?_;obtain⟨z0,y3,jl⟩:=Ep ns 0 bo;obtain⟨z1,bn,d0⟩:=Ep ns 1 bo;obtain⟨z2,na,pd⟩:=Ep ns 2 bo;have p9:CV [.lst (ns.map D.int),.int 0]=.ok (.sh (.int z0)):=jl;have qa:CV [.lst (ns.map D.int),.int 1]=.ok (.sh (.int z1)):=d0;have c9:CV [.lst (ns.map D.int),.int 2]=.ok (.sh (.int z2)):=pd;obtain⟨v,v0,hv⟩:=Df z0 0 (by decide) (by decide);have q1:Et (.int v) (.int 6)=.ok (.int (v%6)):=AZ (by decide);have q3:Le (.int v) (.int 77)=.ok (.int (v / 77)):=F4 ⟨by decide,by decide⟩;have q4:Et (.int (v / 77)) (.int 8)=.ok (.int (v / 77%8)):=AZ (by decide);obtain⟨m,bL,bm,jm⟩:∃m:Nat,1<=m/\m<=16/\((Vt [.bl (decide (v / 77%8=3))]).bind λ y=>AX (.lst [.int (1+v%6),.int (7+v%6)]) y)=.ok (.int m):=by
  by_cases h:v / 77%8=3
  ·refine⟨(7+v%6).toNat,by omega,by omega,?_⟩;rw[decide_eq_true h,show (((7+v%6).toNat:Nat):Int)=7+v%6 by omega];rfl
  ·refine⟨(1+v%6).toNat,by omega,by omega,?_⟩;rw[decide_eq_false h,show (((1+v%6).toNat:Nat):Int)=1+v%6 by omega];rfl
 have c7:(0:Int)<(m:Int):=by omega
 apply wp_step
 ·simp_arith[p9,hv];rfl
 try simp only[zo,zj]
 apply wp_step
 ·simp_arith[q1,q3,q4,jm];rfl
 try simp only[zo,zj]
 have sl:dU (some 3) (some 27) (.lst (ns.map D.int))=.ok (.lst ((((ns.drop 3).take 24).map D.int).map .sh)):=by rw[List.map_take,List.map_drop];exact iI _ 3 27
 obtain⟨rs,cc,f6,wP⟩:=Rv ((ns.drop 3).take 24) m bL bm (by rw[zT];omega) λ c hc=>bo c (List.mem_of_mem_drop (zS hc));have jn:rs.length<=60:=by rw[zT] at cc;omega
 have jo:∀r∈rs,G7 m r:=λ r hr=>(f6 r hr).xO.1;apply wp_step
 ·simp_arith[sl,wP];rfl
 try simp only[zo,zj]
 obtain⟨Lo,wS,wT⟩:=Rx z1 m (by omega);apply wp_step
 ·simp_arith[qa,wT];rfl
 try simp only[zo,zj]
 have nn:D.tup [.int m,.lst (rs.map BH)]=Ap m rs:=rfl;obtain⟨A0,K0,xa,t0,xb,xc⟩:=En m rs (.lst (Lo.map D.int)) Lo bL bm jn f6 wS (.inl rfl);have qb:Pm (Cn (.ins "Ladder" [] []) [Ap m rs,.lst (Lo.map D.int)])=.ok t0:=by rw[xb];rfl
 refine wp_step (ρ':=[some (.val (.lst (ns.map D.int))),some (.val (.int v)),some (.val (.int m)),some (.val (.lst (rs.map BH))),some (.val (.lst (Lo.map D.int))),some (.val (AI m rs Lo A0 K0)),none,none,none]) (by simp_arith[nn,qb,xc];try rfl) ?_;obtain⟨v5,y4,sy⟩:=Df z2 5 (by decide) (by decide);have q5:Et (.int v5) (.int 4)=.ok (.int (v5%4)):=AZ (by decide);refine BC (I:=λ ρ=>∃(L:List Int) (A:LA) (K:List (Int×Int)),ρ=[some (.val (.lst (ns.map D.int))),some (.val (.int v)),some (.val (.int m)),some (.val (.lst (rs.map BH))),some (.val (.lst (L.map D.int))),some (.val (AI m rs L A K)),none,none,none]/\BM m rs L A K) ?_ ?_
 ·by_cases c1:v5%4=1
  ·obtain⟨A,K,ok,t,hI,hE⟩:=En m rs .AK (QG m (Bl rs) (AR m)) bL bm jn f6 (SM m _ _ (F5 m)) (.inr ⟨rfl,rfl⟩);have xf:Pm (Cn (.ins "Ladder" [] []) ([Ap m rs]++[.AK]))=.ok t:=by
    rw[show [Ap m rs]++[D.AK]=[Ap m rs,.AK] from rfl,hI];rfl
   have hs:GF [("Ladder",AA)] "order" (AI m rs (QG m (Bl rs) (AR m)) A K)=.ok AA:=rfl;have ho:=Cz m rs (QG m (Bl rs) (AR m)) A K;refine AY (ρ':=[some (.val (.lst (ns.map D.int))),some (.val (.int v)),some (.val (.int m)),some (.val (.lst (rs.map BH))),some (.val (.lst ((QG m (Bl rs) (AR m)).map D.int))),some (.val (AI m rs (QG m (Bl rs) (AR m)) A K)),none,none,none]) (by
    simp_arith[c9,sy,q5,decide_eq_true c1,nn,xf,hE,WI];simp_arith[hs,ho];try rfl) ⟨_,A,K,rfl,ok⟩
  ·refine AY (ρ':=[some (.val (.lst (ns.map D.int))),some (.val (.int v)),some (.val (.int m)),some (.val (.lst (rs.map BH))),some (.val (.lst (Lo.map D.int))),some (.val (AI m rs Lo A0 K0)),none,none,none]) (by simp_arith[c9,sy,q5,decide_eq_false c1];try rfl) ⟨_,A0,K0,rfl,xa⟩
 rintro ρ ⟨L,A,K,rfl,ok⟩;obtain⟨ac,hM,hA,tc,xg,xh⟩:=Rz m rs (by omega) (by omega) jo;apply wp_step
 ·simp_arith[xg,xh];rfl
 try simp only[zo,zj]
 have hL:=ok.pm;have hlen:=Ec hL;have sB:∀s:Nat,s<m->∃W1 W2:D,∃T1 T2:OT,J1 [AI m rs L A K,.int s]=.ok T1/\Hf [AI m rs L A K,.int s]=.ok T2/\(HX [.lst ((Av ac).map D.lst),.lst (L.map D.int),.int s,.bl true]).bind kI=.ok W1/\(HX [.lst ((Av ac).map D.lst),.lst (L.map D.int),.int s,.bl false]).bind kI=.ok W2/\pW FU T1 [W1,.int s]=.ok (.sh (.bl true))/\pW FU T2 [W2,.int s]=.ok (.sh (.bl true)):=λ s hs=>by
  obtain⟨b1,b2,b3⟩:=cZ jo hA hL hs;have l1:=Ka (at2 ac) s L.reverse;have l2:=Ka (λ x y=>at2 ac y x) s L.reverse;rw[zR] at l1 l2;have h1:=LP m ac L s true (by omega) hM hL hs;have h2:=LP m ac L s false (by omega) hM hL hs;have r1:=Ku (at2 ac) s (C1 (at2 ac) s L.reverse) (by omega) PD b1 b2;have r2:=Ku (λ x y=>at2 ac y x) s (C1 (λ x y=>at2 ac y x) s L.reverse) (by omega) PD b3 b2;refine⟨_,_,_,_,Rl m rs L A K (at2 ac) s ok hA hs,OD m rs L A K (at2 ac) s ok hA hs,by rw[h1];exact congrArg M.ok Fq,by rw[h2];exact congrArg M.ok Fq,Wc r1,Wc r2⟩
 have hr:Ug (.int 3)=.ok (Cs 0 3):=Gs (n:=3) (by omega);refine BC (I:=λ ρ=>∃s7 s8:Option Cl,ρ=[some (.val (.lst (ns.map D.int))),some (.val (.int v)),some (.val (.int m)),some (.val (.lst (rs.map BH))),some (.val (.lst (L.map D.int))),some (.val (AI m rs L A K)),some (.val (.lst ((Av ac).map D.lst))),s7,s8]) ?_ ?_
 ·simp_arith[hr];refine Br (λ i ρ=>∃s7 s8:Option Cl,ρ=[some (.val (.lst (ns.map D.int))),some (.val (.int v)),some (.val (.int m)),some (.val (.lst (rs.map BH))),some (.val (.lst (L.map D.int))),some (.val (AI m rs L A K)),some (.val (.lst ((Av ac).map D.lst))),s7,s8]) ⟨none,none,rfl⟩ ?_ ?_
  ·rintro i d ρ hd ⟨s7,s8,rfl⟩;obtain⟨aB,hi⟩:=BU hd;rw[Int.zero_add] at aB;subst aB;refine⟨_,rfl,?_⟩;obtain⟨p,p0,hp⟩:=Df z2 (30+i) (by omega) (by omega);have q7:Et (.int p) (.int (m:Int))=.ok (.int (p%m)):=AZ c7;obtain⟨s,hs⟩:∃s:Nat,(s:Int)=p%m:=⟨(p%m).toNat,by have:=zac p (b:=(m:Int)) (by omega);omega⟩;have gn:s<m:=by have:=za4 p c7;omega
   rw[<-hs] at q7;obtain⟨W1,W2,T1,T2,a1,a2,a3,a4,a5,a6⟩:=sB s gn;refine wp_step (ρ':=[some (.val (.lst (ns.map D.int))),some (.val (.int v)),some (.val (.int m)),some (.val (.lst (rs.map BH))),some (.val (.lst (L.map D.int))),some (.val (AI m rs L A K)),some (.val (.lst ((Av ac).map D.lst))),some (.val (.int i)),some (.val (.int s))]) (by simp_arith[c9,hp,q7];try rfl) ?_;apply wp_step
   ·simp_arith[a1,a3,a5,DB];rfl
   exact AY (ρ':=[some (.val (.lst (ns.map D.int))),some (.val (.int v)),some (.val (.int m)),some (.val (.lst (rs.map BH))),some (.val (.lst (L.map D.int))),some (.val (AI m rs L A K)),some (.val (.lst ((Av ac).map D.lst))),some (.val (.int i)),some (.val (.int s))]) (by simp_arith[a2,a4,a6,DB];try rfl) ⟨_,_,rfl⟩
  ·rintro ρ ⟨s7,s8,rfl⟩;exact⟨_,_,rfl⟩
 rintro ρ ⟨s7,s8,rfl⟩;obtain⟨p,p0,hp⟩:=Df z2 30 (by decide) (by decide);have q7:Et (.int p) (.int (m:Int))=.ok (.int (p%m)):=AZ c7;obtain⟨s,hs⟩:∃s:Nat,(s:Int)=p%m:=⟨(p%m).toNat,by have:=zac p (b:=(m:Int)) (by omega);omega⟩;have gn:s<m:=by have:=za4 p c7;omega
 rw[<-hs] at q7;obtain⟨W1,W2,T1,T2,a1,a2,a3,a4,a5,a6⟩:=sB s gn;refine wp_step (ρ':=[some (.val (.lst (ns.map D.int))),some (.val (.int v)),some (.val (.int m)),some (.val (.lst (rs.map BH))),some (.val (.lst (L.map D.int))),some (.val (AI m rs L A K)),some (.val (.lst ((Av ac).map D.lst))),s7,some (.val (.int s))]) (by simp_arith[c9,hp,q7];try rfl) ?_;apply wp_step
 ·simp_arith[a1,a3,a5,DB];rfl
 apply wp_step
 ·simp_arith[a2,a4,a6,DB];rfl
 rfl
abbrev dQ:List D->M D:=zg V0
def pK {P w K mg base f fd}:Txt K mg->XX K "law" "law" PN f fd->Di P w K mg base fA 8 f fd ["_law_script"] (Uh K 1 dQ):=(zb V0).1
def pL:∀ns:List Int,ns.length<=63->(∀n∈ns,Sm n)->dQ [.lst (ns.map D.int)]=.ok (.bl true):=(zb V0).2
set_option maxHeartbeats 0 in
set_option maxHeartbeats 0 in
set_option maxHeartbeats 0 in
set_option maxHeartbeats 0 in
def left (w:World):(PySem.W.openEnds treeTable PySem.Challenge.pw_nodeladder_k61_labels_by_meaning w 6100).map (λ s=>PySem.W.openSeen (CW PySem.Challenge.pw_nodeladder_k61_labels_by_meaning) [] (importedModules PySem.Challenge.pw_nodeladder_k61_labels_by_meaning.main.body) (λ s=>PySem.W.xlAt (CW PySem.Challenge.pw_nodeladder_k61_labels_by_meaning) [] s&&PySem.W.recOk [] s) true s)=some (PySem.W.openGood (CW PySem.Challenge.pw_nodeladder_k61_labels_by_meaning) []):=by
 rw[VU,oG,PySem.W.Fast.te4187177175401517315,PySem.W.Fast.te5923862056798008813,PySem.W.Fast.te14218315394596529533];exact QC (qB w) (QC (qC w) (QC (qD w) (qE w)))
set_option maxHeartbeats 0 in
def pM (w:World):PY (Kp R0 PySem.Challenge.pw_nodeladder_k61_labels_by_meaning w) PySem.Challenge.pw_nodeladder_k61_labels_by_meaning:=by
 rw[oG,PySem.W.Fast.te14218315394596529533];exact dY w
set_option maxHeartbeats 0 in
def pN (w:World):PZ (Kp R0 PySem.Challenge.pw_nodeladder_k61_labels_by_meaning w) PySem.Challenge.pw_nodeladder_k61_labels_by_meaning:=by
 rw[oG,PySem.W.Fast.te14218315394596529533];exact dZ w
def all_mk {l:PySem.W.OpenLaw}{w:World}{K:za}{h:Heap}{mg:Str->Option Value}{fa:Addr}(X:K.In h)(G:h.Ns mainGlobals mg)(xi:mg "law" = some (.ref fa))(u0:PY K PySem.Challenge.pw_nodeladder_k61_labels_by_meaning)(u1:PZ K PySem.Challenge.pw_nodeladder_k61_labels_by_meaning):
 ∃fd:FuncData,(∀(s:Shared) (v:Value),BindsTo s fd ⟨[v],[]⟩ [("_law_script",v)])/\∀base:Heap,K.In base->base.Ns mainGlobals mg->Di l.prog w K mg base fA 8 fa fd ["_law_script"] (Uh K 1 dQ):=by
 have ah:Wt K _:=⟨u0.1.1.1.1.1.2,u0.1.1.1.1.2,u0.1.1.1.2.1,u0.1.1.1.2.2⟩;obtain⟨y6,jp,xj,to32,xk,jq,xl,xm,xn,xp,jr,js,jt,ju,jv,xq,xr,xt,xu,xv,jw⟩:=u1.2.2.2.2.1.ex;have xw:=iR (st:=Az) xt xu xv;have xx:Binds K (zX "__init__" "Ladder.__init__" (Bm Az) (AN Az) (A5 Az) (.ref jp) jr js jt jq ju jv) ["self","net","order"] []:=λ s us hK hl=>by
  have aH:us.length=3:=by simpa using hl
  rcases us with _|⟨_,_|⟨_,_|⟨_,_|⟨_,us⟩⟩⟩⟩<;>first|exact PySem.W.binds_K hK rfl jw rfl rfl rfl|(simp at aH)
 have xy:Binds K (zX "__init__" "Ladder.__init__" (Bm Az) (AN Az) (A5 Az) (.ref jp) jr js jt jq ju jv) ["self","net","order"] [.none]:=λ s us hK hl=>by
  have aH:us.length=2:=by simpa using hl
  rcases us with _|⟨_,_|⟨_,_|⟨_,_|⟨_,us⟩⟩⟩⟩<;>first|exact PySem.W.binds_K hK rfl jw rfl rfl rfl|(simp at aH)
 have xz:Uw K mg "Ladder" "Ladder.__init__" Az ["self","net","order"]:=⟨_,_,_,⟨u0.1.1.1.1.1.1,PySem.W.mg_of X G u0.1.1.1.1.1.1⟩,⟨u0.1.1.2.1.1.1,xq,xr,u0.1.1.2.1.1.2⟩,xw,xx,xy⟩;obtain⟨y7,x4,x5,x6,x8,x9,xL,ya,yb,yc,sK,yd,ye,yf⟩:=u1.2.2.2.2.2.ex;cases xi.symm.trans (PySem.W.mg_of X G sK);have qd:=U7 (st:=PN) yd ye yf;have yg:AG K mg "law" PN ["_law_script"]:=⟨_,_,qd,PySem.W.mg_of X G sK,qd.binds (λ _ _ _ _ _ _=>uM λ _=>rfl)⟩;have T:Txt K mg:=⟨AO X G u0.1.1.2.1.2,AO X G u0.1.1.2.2.1,AO X G u0.1.1.2.2.2,AO X G u0.1.2.1.1.1.1,AO X G u0.1.2.1.1.1.2,AO X G u0.1.2.1.1.2,AO X G u0.1.2.1.2.1,AO X G u0.1.2.1.2.2,AO X G u0.1.2.2.1.1,AO X G u0.1.2.2.1.2,AO X G u0.1.2.2.2.1,AO X G u0.1.2.2.2.2,AO X G u0.2.1.1.1.1.1,AO X G u0.2.1.1.1.1.2,AO X G u0.2.1.1.1.2,AO X G u0.2.1.1.2.1,AO X G u0.2.1.1.2.2,AO X G u0.2.1.2.1.1.1,AO X G u0.2.1.2.1.1.2,AO X G u0.2.1.2.1.2,AO X G u0.2.1.2.2.1,AO X G u0.2.1.2.2.2,AO X G u0.2.2.1.1.1.1,AO X G u0.2.2.1.1.1.2,AO X G u0.2.2.1.1.2,AO X G u0.2.2.1.2.1,AO X G u0.2.2.1.2.2,AO X G u0.2.2.2.1.1,AO X G u0.2.2.2.1.2,AO X G u0.2.2.2.2.1,AO X G u0.2.2.2.2.2,xz,VT u0.1.1.1.1.1.1 ah u1.1.1.1.1.1.1,VT u0.1.1.1.1.1.1 ah u1.1.1.1.1.1.2,VT u0.1.1.1.1.1.1 ah u1.1.1.1.1.2,VT u0.1.1.1.1.1.1 ah u1.1.1.1.2.1,AO X G u1.1.1.1.2.2,AO X G u1.1.1.2.1.1.1,AO X G u1.1.1.2.1.1.2,AO X G u1.1.1.2.1.2,AO X G u1.1.1.2.2.1,AO X G u1.1.1.2.2.2,AO X G u1.1.2.1.1.1.1,AO X G u1.1.2.1.1.1.2,AO X G u1.1.2.1.1.2,AO X G u1.1.2.1.2.1,AO X G u1.1.2.1.2.2,AO X G u1.1.2.2.1.1,AO X G u1.1.2.2.1.2,yg,zQ X G u1.1.2.2.2.1,zQ X G u1.1.2.2.2.2,zQ X G u1.2.1.1.1.1.1,zQ X G u1.2.1.1.1.1.2,zQ X G u1.2.1.1.1.2,zQ X G u1.2.1.1.2.1,zQ X G u1.2.1.1.2.2,zQ X G u1.2.1.2.1.1,zQ X G u1.2.1.2.1.2,zQ X G u1.2.1.2.2.1,zQ X G u1.2.1.2.2.2,zQ X G u1.2.2.1.1.1.1,zQ X G u1.2.2.1.1.1.2,zQ X G u1.2.2.1.1.2,kY X G u0.2.1.1.1.1.2,kY X G u0.2.1.1.1.1.1,⟨_,u0.1.1.1.1.1.1,ah,u1.2.2.1.2.1⟩,⟨_,u0.1.1.1.1.1.1,ah,u1.2.2.1.2.2⟩,⟨_,u0.1.1.1.1.1.1,ah,u1.2.2.2.1.1⟩,⟨_,u0.1.1.1.1.1.1,ah,u1.2.2.2.1.2⟩⟩;refine⟨_,?_,λ base _ _=>pK T qd⟩;exact λ s v=>.of_eq rfl
def walk {l:PySem.W.OpenLaw}{q:Program}{loose:List Str}{XP:(Str->Option Value)->Heap->Prop}{YP:World->Heap->Prop}{d:DefRec}{K:World->za}(hn:l.most=some 63)(fm:d.params.defaults=[])
 (hY:∀(w:World) (h:Heap),YP w h->(K w).In h)
 (F:∀(w:World) (mg:Str->Option Value) (fa:Addr) (h:Heap),(K w).In h->h.Ns mainGlobals mg->mg d.name=some (.ref fa)->
  ∃fd:FuncData,(∀(s:Shared) (u:Value),BindsTo s fd ⟨[u],[]⟩ [("_law_script",u)])/\∀base:Heap,(K w).In base->base.Ns mainGlobals mg->Di l.prog w (K w) mg base fA 8 fa fd ["_law_script"] (Uh (K w) 1 dQ)):
 PySem.W.WalkO q loose XP YP l.row.toRowW d [] (λ f vs=>PySem.call f vs):=
 L2.tH (n:=63) (k:=8) (x := "_law_script") (CX:=λ _=>fA) (sp:=λ w=>Uh (K w) 1 dQ) hn (by decide) fm ⟨rfl,by decide,by decide⟩ hY F (λ w H a ns bo hl _ hS=>fV pL (K w) H a ns bo hl hS) λ _ _ _ _ _ z=>z
end ci
open PySem PySem.W PyProof.Rows L2
set_option maxRecDepth 100000 in
set_option maxHeartbeats 0 in
theorem PySem.Challenge.cw_nodeladder_k61_labels_by_meaning_holds : PySem.Challenge.rw_nodeladder_k61_labels_by_meaning.Holds := by
 w_on;o_law
 refine holds_open (q:=CW PySem.Challenge.pw_nodeladder_k61_labels_by_meaning) (loose:=[]) (Xt:=λ s=>xlAt (CW PySem.Challenge.pw_nodeladder_k61_labels_by_meaning) [] s&&recOk [] s) (XP:=XL (CW PySem.Challenge.pw_nodeladder_k61_labels_by_meaning) []) (Yf:=λ s=>s.heap) (Ya:=λ w=>XY R0 PySem.Challenge.pw_nodeladder_k61_labels_by_meaning w 6100) (YP:=λ w h=>tG (XY R0 PySem.Challenge.pw_nodeladder_k61_labels_by_meaning w 6100) h) (N:=6100) (iS ci.left) (λ w s e b o q=>by rw[<-e] at q;exact q) (λ w h h' a b c o q=>b c o (a c o q)) (λ s e=>xl_of s (Bool.and_eq_true_iff.mp e).1) XL.keeps (by rfl) (by rfl) (by rfl) (λ s e=>recFacts_of (Bool.and_eq_true_iff.mp e).2) (by rfl) (by first|assumption|decide +kernel) (by decide +kernel) ⟨rfl,rfl,rfl,rfl,rfl,by decide +kernel⟩ ?hw ?hc;case hw=>w_witness2
 case hc =>
  refine ci.walk (l:=PySem.Challenge.rw_nodeladder_k61_labels_by_meaning) (K:=ci.Kp R0 PySem.Challenge.pw_nodeladder_k61_labels_by_meaning) rfl rfl (λ w h Y=>oH Y) ?F;intro w mg fa h KX G fv;exact ci.all_mk KX G fv (ci.pM w) (ci.pN w)
