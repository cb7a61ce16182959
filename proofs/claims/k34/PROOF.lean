import PyProof.Rows.All
import Wide.All
import OpenK.AllK
import Wide.FinOn
import Lean
import PyProof.EqAt
import PyProof.EqKinds
import PyProof.TupleCall
import PyProof.NeKinds
import KE.KRevSl
import KE.KIsAll
import PyProof.ExcArgsOwn
import PyProof.ExcAttrAll.ValueError
import PyProof.ExcBaseAll.ValueError
import PyProof.FitsBits
import KE.LcSums
import KE.KRevIter
import PyProof.ListRange
import PyProof.Rows.SumAny
import PyProof.Rows.SortWalk
import PyProof.AttrMissHeap
import KE.KDictOf
import PyProof.ZipIter
import PyProof.DictWalks
import KE.KDictList
import KE.KFind
import KE.KDictSum
import KE.KSortTup
import PySem.Challenge.RW_nodeladder_k34_ladder_refused
set_option Elab.async false
set_option linter.all false
set_option maxRecDepth 1000000
open PySem.W renaming Frag→za0,nsIn→za1,findIn→za6,kitOne→za7,mroIn→zb5,keepIn→zb6,fnOf→zb8,hasDictIn→zbf,mg_none_of→zbh,mg_of→zbk,codeIn→zbn,hideAll_get→zbt,emptyDict→zc3,excIn→zcn,specialIn→zcu,kia_one→zcv,instObj→zcw,hideAll→zcx,takesIn→zd8,hideAll_none→zdc,plainGet→zdf,isFn→zdg
open Classical renaming choose_spec→za2,choose→zab,propDecidable→zbc
open List renaming mem_cons_self→za3,mem_cons_of_mem→za4,length_map→za5,map_cons→za8,mem_cons→za9,size_toArray→zaa,mem_append_right→zac,length_cons→zad,getElem?_eq_getElem→zaf,mem_of_getElem?→zag,length_append→zah,replicate→zai,mem_singleton→zaj,set_cons_succ→zam,getElem?_eq_some_iff→zan,mem_append→zar,mem_append_left→zas,getElem?_map→zat,range→zav,set_cons_zero→zaw,mem_map→zay,getD_eq_getElem?_getD→zb0,nodup_append→zb2,getElem?_set_ne→zb3,getElem?_cons_succ→zb7,getElem?_set_self→zbb,foldl_cons→zbd,nodup_cons→zbi,append_nil→zbj,map_append→zbm,mem_filter→zbo,mem_of_mem_take→zbq,replicate_succ→zbv,pairwise_cons→zby,map_map→zbz,take_of_length_le→zc4,getElem?_append_left→zc8,length_singleton→zc9,getElem?_eq_none→zca,take_length→zcc,length_take→zcd,getElem?_replicate→zci,nodup_nil→zcj,append_assoc→zck,length_set→zcl,length_nil→zcm,length_drop→zcp,mem_range→zcs,take_add_one→zd0,flatten_cons→zd1,getElem?_cons_zero→zd5,lookup_cons→zd6,find?_cons→zdb,any_cons→zdd,getElem?_append_right→zde,cons_append→zdi
open PySem.Heap renaming get?_push_of_some→zae,lt_size→zak,get?_push_size→zau,get?_update_self→zcq,SameBut→zd4,get?_update_other→zd7
open Nat renaming le_refl→zal,lt_of_lt_of_le→zaq,ne_of_lt→zaz,zero_le→zb9,le_of_lt→zbl,le_trans→zbw
open Bool renaming false_ne_true→zao,false_eq_true→zap,and_eq_true→zb1,eq_iff_iff→zd3
open Option.some renaming inj→zax
open Or renaming inl→zb4
open PySem.F renaming plain_min_loop→zba,plainAttrs_list→zce
open PySem.Value renaming ref→zbe,none→zco
open Prod renaming fst→zbg,snd→zch
open Ne renaming symm→zbp
open PySem.Builtin.Int renaming intBits→zbr
open Option renaming isSome_iff_exists→zbs,map_some→zc0
open Array renaming getD_eq_getD_getElem?→zbu,length_toList→zc6,getElem?_eq_getElem→zcr,getElem?_toList→zda
open Int renaming emod_nonneg→zbx,emod_lt_of_pos→zc1,toNat_natCast→zc7
open PySem.Obj renaming mapSeq→zc2
open PySem.Builtin.List renaming listTooLong→zc5
open PyProof.Rows renaming callWith_type1→zcb
open PySem.W.Fast renaming tw5923862056798008813→zcf,tw4187177175401517315→zcg
open PySem.Heap.SameBut renaming update→zct
open PySem.Around renaming under_plainId→zcy
open False renaming elim→zcz
open PySem.Builtin.Builtins renaming bindParams→zd2
open PySem.NameKind renaming free→zd9
open PySem renaming mem_of_lookup→zdh
open ForInStep renaming yield→zdj
section
set_option maxHeartbeats 0
namespace L2
open PySem PySem.Spec PyProof.Rows PySem.W PySem.Calls
noncomputable def inClass (s:Stmt)(j:Nat):Stmt:=match s with
 | .ClassDef _ _ _ body _ _ _ _ _ _ _=>body.getD j (.Pass ⟨0,0,0,0⟩)
 |_=>.Pass ⟨0,0,0,0⟩
noncomputable def B2 (s:Stmt):Arguments:=match s with
 | .FunctionDef _ a _ _ _ _ _ _ _ _=>a
 |_=>{posonlyargs:=[],args:=[],vararg:=none,kwonlyargs:=[],kw_defaults:=[],kwarg:=none,defaults:=[]}
noncomputable def AM (s:Stmt):List Stmt:=match s with
 | .FunctionDef _ _ b _ _ _ _ _ _ _=>b
 |_=>[]
noncomputable def A6 (s:Stmt):Scope:=match s with
 | .FunctionDef _ _ _ _ _ _ sc _ _ _=>sc
 |_=>{kind:=.function,names:=[],isGenerator:=false,isCoroutine:=false}
structure FP (K:za0)(x:Str)(st:Stmt):Prop where
 ex:∃(f:Addr) (oc:Value) (od an:Option Addr) (sl:Array (Option Value)) (kV dc pm cd ct:Value),za1 K mainGlobals x=some (some (.ref f))/\K.lookup f=some ⟨oc,od,.func (zb8 x x (B2 st) (AM st) (A6 st) .none kV dc pm an cd ct),sl⟩/\zbn K cd x=true/\zb6 K (.ref f)=true
theorem rM {K:za0}{x:Str}{st:Stmt}{f:Addr}{oc:Value}{od an:Option Addr}{sl:Array (Option Value)}{kV dc pm cd ct:Value}(a:za1 K mainGlobals x=some (some (.ref f)))(l:K.lookup f=some ⟨oc,od,.func (zb8 x x (B2 st) (AM st) (A6 st) .none kV dc pm an cd ct),sl⟩)(c:zbn K cd x=true)(k:zb6 K (.ref f)=true):FP K x st:=⟨⟨f,oc,od,an,sl,kV,dc,pm,cd,ct,a,l,c,k⟩⟩
structure MP (K:za0)(C:Addr)(m qual:Str)(st:Stmt):Prop where
 ex:∃(f:Addr) (oc:Value) (od an:Option Addr) (sl:Array (Option Value)) (kV dc pm cd ct:Value),za6 K (.ref C) m=some (some (.ref f))/\zdg K (.ref f)=true/\K.lookup f=some ⟨oc,od,.func (zb8 m qual (B2 st) (AM st) (A6 st) .none kV dc pm an cd ct),sl⟩/\zbn K cd qual=true/\zb6 K (.ref f)=true
theorem rN {K:za0}{C:Addr}{m qual:Str}{st:Stmt}{f:Addr}{oc:Value}{od an:Option Addr}{sl:Array (Option Value)}{kV dc pm cd ct:Value}(a:za6 K (.ref C) m=some (some (.ref f)))(i:zdg K (.ref f)=true)(l:K.lookup f=some ⟨oc,od,.func (zb8 m qual (B2 st) (AM st) (A6 st) .none kV dc pm an cd ct),sl⟩)(c:zbn K cd qual=true)(k:zb6 K (.ref f)=true):MP K C m qual st:=⟨⟨f,oc,od,an,sl,kV,dc,pm,cd,ct,a,i,l,c,k⟩⟩
noncomputable def Dg (p:Program):Program:={p with main:={p.main with body:=p.main.body.filter λ s=>match s with | .FunctionDef .. =>true | .ClassDef .. =>true | _=>false} }
structure Rn where
 run:(String->Option Builtin)->Program->World->Nat->Option Value->Nat->Shared->Thread->Option Shared
 ns:Heap->Addr->Str->Option Value
 imp:(String->Option Builtin)->Program->World->Nat->Shared->Thread->Option Shared
 yL:Program->Shared->Option Shared
 st:Program->Shared×Thread
 tb:String->Option Builtin
noncomputable def ML (R:Rn)(p:Program)(w:World)(N:Nat):Option Shared:=
 ((R.imp R.tb (opening p) w N (R.st (opening p)).fst (R.st (opening p)).snd).bind (R.yL p)).bind λ s₀ =>
 match s₀.heap.isNs mainGlobals&&s₀.gens.size==0 with
 |true=>(R.run R.tb p w s₀.heap.objs.size (R.ns s₀.heap mainGlobals (Str.ofString "__annotations__")) N s₀ (topStub p)).bind λ s₁ =>
  match staticsOk (importedModules p.main.body) s₀.heap s₁.heap&&namesBound p s₁.heap&&gensDone s₁&&laidKept s₀.heap s₁.heap with
  |true=>some s₁
  |false=>none
 |false=>none
noncomputable def R1:Rn:=⟨PySem.W.Fast.tw14082659384304107361,PySem.W.Fast.tw8920871248978507458,PySem.W.Fast.tw10274390034422433532,PySem.W.Fast.tw14289696077712309145,PySem.W.Fast.tw1435165496053646825,PySem.W.Fast.tw14364793385576792824⟩
noncomputable def Xy (R:Rn)(p:Program)(w:World)(N:Nat):Heap:=match ML R p w N with | some s=>s.heap | none=>⟨#[],default⟩
noncomputable def vA (h:Heap)(as:List Addr):za0:=as.filterMap λ a=>(h.get? a).map λ o=>(a,o)
noncomputable def Ay (v:Option (Option Value)):Addr:=match v with | some (some (.ref f))=>f | _=>0
noncomputable def DZ (K:za0)(f:Addr):Obj:=(K.lookup f).getD ⟨.none,none,.plain,#[]⟩
noncomputable def Im (d:Data)(st:Stmt):FuncData:=match d with | .func fd=>fd | _=>zb8 Str.empty Str.empty (B2 st) [] (A6 st) .none .none .none .none none .none .none
noncomputable def VH (v:Value):Addr:=match v with | .ref a=>a | _=>0
noncomputable def vT (d:Data):Nat:=match d with | .seq _ n=>n | _=>0
theorem AG {K:za0}{x:Str}{st:Stmt}(a:za1 K mainGlobals x=some (some (.ref (Ay (za1 K mainGlobals x)))):=by kernel_rfl)
 (l:K.lookup (Ay (za1 K mainGlobals x))=some ⟨(DZ K (Ay (za1 K mainGlobals x))).cls,(DZ K (Ay (za1 K mainGlobals x))).dict,.func (zb8 x x (B2 st) (AM st) (A6 st) .none (Im (DZ K (Ay (za1 K mainGlobals x))).data st).kwdefaults (Im (DZ K (Ay (za1 K mainGlobals x))).data st).doc (Im (DZ K (Ay (za1 K mainGlobals x))).data st).pyModule (Im (DZ K (Ay (za1 K mainGlobals x))).data st).annotations (Im (DZ K (Ay (za1 K mainGlobals x))).data st).code (Im (DZ K (Ay (za1 K mainGlobals x))).data st).closureTuple),(DZ K (Ay (za1 K mainGlobals x))).slots⟩:=by kernel_rfl)
 (c:zbn K (Im (DZ K (Ay (za1 K mainGlobals x))).data st).code x=true:=by kernel_rfl) (k:zb6 K (.ref (Ay (za1 K mainGlobals x)))=true:=by kernel_rfl):FP K x st:=rM a l c k
theorem JY {K:za0}{C:Addr}{m qual:Str}{st:Stmt}(a:za6 K (.ref C) m=some (some (.ref (Ay (za6 K (.ref C) m)))):=by kernel_rfl)(i:zdg K (.ref (Ay (za6 K (.ref C) m)))=true:=by kernel_rfl)
 (l:K.lookup (Ay (za6 K (.ref C) m))=some ⟨(DZ K (Ay (za6 K (.ref C) m))).cls,(DZ K (Ay (za6 K (.ref C) m))).dict,.func (zb8 m qual (B2 st) (AM st) (A6 st) .none (Im (DZ K (Ay (za6 K (.ref C) m))).data st).kwdefaults (Im (DZ K (Ay (za6 K (.ref C) m))).data st).doc (Im (DZ K (Ay (za6 K (.ref C) m))).data st).pyModule (Im (DZ K (Ay (za6 K (.ref C) m))).data st).annotations (Im (DZ K (Ay (za6 K (.ref C) m))).data st).code (Im (DZ K (Ay (za6 K (.ref C) m))).data st).closureTuple),(DZ K (Ay (za6 K (.ref C) m))).slots⟩:=by kernel_rfl)
 (c:zbn K (Im (DZ K (Ay (za6 K (.ref C) m))).data st).code qual=true:=by kernel_rfl) (k:zb6 K (.ref (Ay (za6 K (.ref C) m)))=true:=by kernel_rfl):MP K C m qual st:=rN a i l c k
end L2
namespace fc
open PySem L2
theorem prim:(PySem.W.chainsOk PySem.Challenge.pw_nodeladder_k34_ladder_refused||true)=true:=by k_qdec
theorem rO (w:World):(ML R1 PySem.W.Fast.tw18047755658444858975 w 6100).map (λ s=>(zcg (Dg PySem.W.Fast.tw18047755658444858975) [] (zcf PySem.W.Fast.tw18047755658444858975.main.body) (λ s=>PySem.W.xlAt (Dg PySem.W.Fast.tw18047755658444858975) [] s&&PySem.W.recOk [] s) true s).1)=some (PySem.W.openGood (Dg PySem.W.Fast.tw18047755658444858975) []).1:=by kernel_rfl
theorem rP (w:World):(ML R1 PySem.W.Fast.tw18047755658444858975 w 6100).map (λ s=>(zcg (Dg PySem.W.Fast.tw18047755658444858975) [] (zcf PySem.W.Fast.tw18047755658444858975.main.body) (λ s=>PySem.W.xlAt (Dg PySem.W.Fast.tw18047755658444858975) [] s&&PySem.W.recOk [] s) true s).2.1)=some (PySem.W.openGood (Dg PySem.W.Fast.tw18047755658444858975) []).2.1:=by kernel_rfl
theorem rQ (w:World):(ML R1 PySem.W.Fast.tw18047755658444858975 w 6100).map (λ s=>(zcg (Dg PySem.W.Fast.tw18047755658444858975) [] (zcf PySem.W.Fast.tw18047755658444858975.main.body) (λ s=>PySem.W.xlAt (Dg PySem.W.Fast.tw18047755658444858975) [] s&&PySem.W.recOk [] s) true s).2.2.1)=some (PySem.W.openGood (Dg PySem.W.Fast.tw18047755658444858975) []).2.2.1:=by kernel_rfl
theorem rR (w:World):(ML R1 PySem.W.Fast.tw18047755658444858975 w 6100).map (λ s=>(zcg (Dg PySem.W.Fast.tw18047755658444858975) [] (zcf PySem.W.Fast.tw18047755658444858975.main.body) (λ s=>PySem.W.xlAt (Dg PySem.W.Fast.tw18047755658444858975) [] s&&PySem.W.recOk [] s) true s).2.2.2)=some (PySem.W.openGood (Dg PySem.W.Fast.tw18047755658444858975) []).2.2.2:=by kernel_rfl
noncomputable def topP (p:Program)(i:Nat):Stmt:=p.main.body.getD i (.Pass ⟨0,0,0,0⟩)
noncomputable def Kp (R:Rn)(p:Program)(w:World):za0:=vA (Xy R p w 6100) (zav 560)
def Xz (K:za0)(p:Program):Prop:=
 (za1 K mainGlobals "Ladder" = some (some (.ref (Ay (za1 K mainGlobals "Ladder")))))/\
 (zdf K (Ay (za1 K mainGlobals "Ladder")) Str.empty=true)/\
 (zbf K (Ay (za1 K mainGlobals "Ladder"))=true)/\
 (PySem.W.plainOver K (Ay (za1 K mainGlobals "Ladder"))=true)/\
 (za6 K (.ref (Ay (za1 K mainGlobals "Ladder"))) "__setattr__" = some (some (.builtin "object.__setattr__")))/\
 (PySem.W.makesIn K (Ay (za1 K mainGlobals "Ladder"))=true)/\
 (zb6 K (.ref (Ay (za1 K mainGlobals "Ladder")))=true)/\
 (FP K "is_whole_below" (topP p 14))/\
 (FP K "is_measure" (topP p 15))/\
 (FP K "is_road" (topP p 16))/\
 (FP K "is_map" (topP p 17))/\
 (FP K "checked" (topP p 18))/\
 (FP K "added" (topP p 19))/\
 (FP K "least" (topP p 20))/\
 (FP K "road_cost" (topP p 21))/\
 (FP K "cost_so_far" (topP p 23))/\
 (FP K "lay" (topP p 24))/\
 (FP K "lay_over" (topP p 25))/\
 (FP K "laid_arcs" (topP p 26))/\
 (FP K "is_order" (topP p 28))/\
 (FP K "checked_order" (topP p 29))/\
 (FP K "first_bows" (topP p 30))/\
 (FP K "missing_bows" (topP p 31))/\
 (FP K "lightest" (topP p 32))/\
 (FP K "ranked" (topP p 33))/\
 (FP K "costs_from" (topP p 35))/\
 (FP K "order_or_ranked" (topP p 37))/\
 (FP K "kept_arcs" (topP p 38))/\
 (FP K "road_under" (topP p 39))/\
 (MP K (Ay (za1 K mainGlobals "Ladder")) "arcs" "Ladder.arcs" (inClass (topP p 40) 3))/\
 (MP K (Ay (za1 K mainGlobals "Ladder")) "checked_arc" "Ladder.checked_arc" (inClass (topP p 40) 4))/\
 (MP K (Ay (za1 K mainGlobals "Ladder")) "cost" "Ladder.cost" (inClass (topP p 40) 5))/\
 (MP K (Ay (za1 K mainGlobals "Ladder")) "middle" "Ladder.middle" (inClass (topP p 40) 6))/\
 (MP K (Ay (za1 K mainGlobals "Ladder")) "unpacked" "Ladder.unpacked" (inClass (topP p 40) 7))/\
 (FP K "_law_mixed" (topP p 42))/\
 (FP K "_law_road" (topP p 43))/\
 (FP K "_law_map" (topP p 44))/\
 (FP K "_law_order" (topP p 45))/\
 (FP K "_law_marks" (topP p 46))/\
 (FP K "_law_made" (topP p 47))/\
 (FP K "_law_asked" (topP p 48))/\
 (FP K "_law_bad_map" (topP p 49))/\
 (FP K "_law_bad_order" (topP p 50))/\
 (FP K "_law_thing" (topP p 51))/\
 (FP K "_law_no_arc" (topP p 52))/\
 (za6 K (.ref (Ay (za1 K mainGlobals "Ladder"))) "__init__" = some (some (.ref (Ay (za6 K (.ref (Ay (za1 K mainGlobals "Ladder"))) "__init__")))))/\
 (zdg K (.ref (Ay (za6 K (.ref (Ay (za1 K mainGlobals "Ladder"))) "__init__")))=true)/\
 (K.lookup (Ay (za6 K (.ref (Ay (za1 K mainGlobals "Ladder"))) "__init__"))=some ⟨(DZ K (Ay (za6 K (.ref (Ay (za1 K mainGlobals "Ladder"))) "__init__"))).cls,(DZ K (Ay (za6 K (.ref (Ay (za1 K mainGlobals "Ladder"))) "__init__"))).dict,.func (zb8 "__init__" "Ladder.__init__" (B2 (inClass (topP p 40) 0)) (AM (inClass (topP p 40) 0)) (A6 (inClass (topP p 40) 0)) (.ref (VH (Im (DZ K (Ay (za6 K (.ref (Ay (za1 K mainGlobals "Ladder"))) "__init__"))).data (inClass (topP p 40) 0)).defaults)) (Im (DZ K (Ay (za6 K (.ref (Ay (za1 K mainGlobals "Ladder"))) "__init__"))).data (inClass (topP p 40) 0)).kwdefaults (Im (DZ K (Ay (za6 K (.ref (Ay (za1 K mainGlobals "Ladder"))) "__init__"))).data (inClass (topP p 40) 0)).doc (Im (DZ K (Ay (za6 K (.ref (Ay (za1 K mainGlobals "Ladder"))) "__init__"))).data (inClass (topP p 40) 0)).pyModule (Im (DZ K (Ay (za6 K (.ref (Ay (za1 K mainGlobals "Ladder"))) "__init__"))).data (inClass (topP p 40) 0)).annotations (Im (DZ K (Ay (za6 K (.ref (Ay (za1 K mainGlobals "Ladder"))) "__init__"))).data (inClass (topP p 40) 0)).code (Im (DZ K (Ay (za6 K (.ref (Ay (za1 K mainGlobals "Ladder"))) "__init__"))).data (inClass (topP p 40) 0)).closureTuple),(DZ K (Ay (za6 K (.ref (Ay (za1 K mainGlobals "Ladder"))) "__init__"))).slots⟩)/\
 (zbn K (Im (DZ K (Ay (za6 K (.ref (Ay (za1 K mainGlobals "Ladder"))) "__init__"))).data (inClass (topP p 40) 0)).code "Ladder.__init__" = true)/\
 (zb6 K (.ref (Ay (za6 K (.ref (Ay (za1 K mainGlobals "Ladder"))) "__init__")))=true)/\
 (K.lookup (VH (Im (DZ K (Ay (za6 K (.ref (Ay (za1 K mainGlobals "Ladder"))) "__init__"))).data (inClass (topP p 40) 0)).defaults)=some ⟨(DZ K (VH (Im (DZ K (Ay (za6 K (.ref (Ay (za1 K mainGlobals "Ladder"))) "__init__"))).data (inClass (topP p 40) 0)).defaults)).cls,(DZ K (VH (Im (DZ K (Ay (za6 K (.ref (Ay (za1 K mainGlobals "Ladder"))) "__init__"))).data (inClass (topP p 40) 0)).defaults)).dict,.seq #[.none] (vT (DZ K (VH (Im (DZ K (Ay (za6 K (.ref (Ay (za1 K mainGlobals "Ladder"))) "__init__"))).data (inClass (topP p 40) 0)).defaults)).data),(DZ K (VH (Im (DZ K (Ay (za6 K (.ref (Ay (za1 K mainGlobals "Ladder"))) "__init__"))).data (inClass (topP p 40) 0)).defaults)).slots⟩)/\
 (za1 K mainGlobals "law" = some (some (.ref (Ay (za1 K mainGlobals "law")))))/\
 (K.lookup (Ay (za1 K mainGlobals "law"))=some ⟨(DZ K (Ay (za1 K mainGlobals "law"))).cls,(DZ K (Ay (za1 K mainGlobals "law"))).dict,.func (zb8 "law" "law" (B2 (topP p 53)) (AM (topP p 53)) (A6 (topP p 53)) .none (Im (DZ K (Ay (za1 K mainGlobals "law"))).data (topP p 53)).kwdefaults (Im (DZ K (Ay (za1 K mainGlobals "law"))).data (topP p 53)).doc (Im (DZ K (Ay (za1 K mainGlobals "law"))).data (topP p 53)).pyModule (Im (DZ K (Ay (za1 K mainGlobals "law"))).data (topP p 53)).annotations (Im (DZ K (Ay (za1 K mainGlobals "law"))).data (topP p 53)).code (Im (DZ K (Ay (za1 K mainGlobals "law"))).data (topP p 53)).closureTuple),(DZ K (Ay (za1 K mainGlobals "law"))).slots⟩)/\
 (zbn K (Im (DZ K (Ay (za1 K mainGlobals "law"))).data (topP p 53)).code "law" = true)/\
 (zb6 K (.ref (Ay (za1 K mainGlobals "law")))=true)/\
 (za1 K mainGlobals "ValueError" = some none)/\
 (za1 K mainGlobals "all" = some none)/\
 (za1 K mainGlobals "bool" = some none)/\
 (za1 K mainGlobals "enumerate" = some none)/\
 (za1 K mainGlobals "int" = some none)/\
 (za1 K mainGlobals "isinstance" = some none)/\
 (za1 K mainGlobals "len" = some none)/\
 (za1 K mainGlobals "list" = some none)/\
 (za1 K mainGlobals "min" = some none)/\
 (za1 K mainGlobals "range" = some none)/\
 (za1 K mainGlobals "sorted" = some none)/\
 (za1 K mainGlobals "sum" = some none)/\
 (za1 K mainGlobals "tuple" = some none)/\
 (za1 K mainGlobals "LadderError" = some (some (.ref (Ay (za1 K mainGlobals "LadderError")))))/\
 (za1 K mainGlobals "NoArc" = some (some (.ref (Ay (za1 K mainGlobals "NoArc")))))/\
 (za1 K mainGlobals "NoDeed" = some (some (.ref (Ay (za1 K mainGlobals "NoDeed")))))/\
 (za1 K mainGlobals "NoLength" = some (some (.ref (Ay (za1 K mainGlobals "NoLength")))))/\
 (za1 K mainGlobals "NoMap" = some (some (.ref (Ay (za1 K mainGlobals "NoMap")))))/\
 (za1 K mainGlobals "NoOrder" = some (some (.ref (Ay (za1 K mainGlobals "NoOrder")))))/\
 (za1 K mainGlobals "NoPlace" = some (some (.ref (Ay (za1 K mainGlobals "NoPlace")))))
theorem fA (w:World):Xz (Kp R1 PySem.W.Fast.tw18047755658444858975 w) PySem.W.Fast.tw18047755658444858975:=
 ⟨by kernel_rfl,by kernel_rfl,by kernel_rfl,by kernel_rfl,by kernel_rfl,by kernel_rfl,by kernel_rfl,AG,AG,AG,AG,AG,AG,AG,AG,AG,AG,AG,AG,AG,AG,AG,AG,AG,AG,AG,AG,AG,AG,JY,JY,JY,JY,JY,AG,AG,AG,AG,AG,AG,AG,AG,AG,AG,AG,by kernel_rfl,by kernel_rfl,by kernel_rfl,by kernel_rfl,by kernel_rfl,by kernel_rfl,by kernel_rfl,by kernel_rfl,by kernel_rfl,by kernel_rfl,by kernel_rfl,by kernel_rfl,by kernel_rfl,by kernel_rfl,by kernel_rfl,by kernel_rfl,by kernel_rfl,by kernel_rfl,by kernel_rfl,by kernel_rfl,by kernel_rfl,by kernel_rfl,by kernel_rfl,by kernel_rfl,by kernel_rfl,by kernel_rfl,by kernel_rfl,by kernel_rfl,by kernel_rfl,by kernel_rfl⟩
def XA (K:za0)(p:Program):Prop:=
 (za1 K mainGlobals "NoRoad" = some (some (.ref (Ay (za1 K mainGlobals "NoRoad")))))/\
 (za1 K mainGlobals "NoRow" = some (some (.ref (Ay (za1 K mainGlobals "NoRow")))))/\
 (za1 K mainGlobals "NoText" = some (some (.ref (Ay (za1 K mainGlobals "NoText")))))/\
 (za1 K mainGlobals "NoWay" = some (some (.ref (Ay (za1 K mainGlobals "NoWay")))))/\
 (zcn K (Ay (za1 K mainGlobals "NoArc")) [.type "ValueError",.type "Exception",.type "BaseException",.type "object"] "ValueError.__new__" = true)/\
 (zcn K (Ay (za1 K mainGlobals "NoMap")) [.type "ValueError",.type "Exception",.type "BaseException",.type "object"] "ValueError.__new__" = true)/\
 (zcn K (Ay (za1 K mainGlobals "NoOrder")) [.type "ValueError",.type "Exception",.type "BaseException",.type "object"] "ValueError.__new__" = true)/\
 (PySem.W.instIn K (.ref (Ay (za1 K mainGlobals "LadderError"))) (.type "tuple")=some false)/\
 (zbf K (Ay (za1 K mainGlobals "LadderError"))=true)/\
 (zb5 K (Ay (za1 K mainGlobals "LadderError")) (.type "BaseException")=some true)/\
 (zb5 K (Ay (za1 K mainGlobals "NoArc")) (.ref (Ay (za1 K mainGlobals "LadderError")))=some true)/\
 (zb5 K (Ay (za1 K mainGlobals "NoOrder")) (.ref (Ay (za1 K mainGlobals "LadderError")))=some true)/\
 (zb5 K (Ay (za1 K mainGlobals "NoMap")) (.ref (Ay (za1 K mainGlobals "LadderError")))=some true)/\
 (za6 K (.ref (Ay (za1 K mainGlobals "NoMap"))) "__getattribute__" = some (some (.builtin "BaseException.__getattribute__")))/\
 (za6 K (.ref (Ay (za1 K mainGlobals "NoMap"))) "__getattr__" = some none)/\
 (zb5 K (Ay (za1 K mainGlobals "NoMap")) (.type "BaseException")=some true)/\
 (zbf K (Ay (za1 K mainGlobals "NoMap"))=true)/\
 (za6 K (.ref (Ay (za1 K mainGlobals "NoMap"))) "__class__" = some (some (.builtin "object.__class__")))/\
 (zcu K (.builtin "object.__class__") "__get__" = some (some (.builtin "getset_descriptor.__get__")))/\
 (zd8 K (.builtin "object.__class__")=some true)/\
 (zb5 K (Ay (za1 K mainGlobals "NoMap")) (.type "object")=some true)/\
 (za6 K (.ref (Ay (za1 K mainGlobals "NoOrder"))) "__getattribute__" = some (some (.builtin "BaseException.__getattribute__")))/\
 (za6 K (.ref (Ay (za1 K mainGlobals "NoOrder"))) "__getattr__" = some none)/\
 (zb5 K (Ay (za1 K mainGlobals "NoOrder")) (.type "BaseException")=some true)/\
 (zbf K (Ay (za1 K mainGlobals "NoOrder"))=true)/\
 (za6 K (.ref (Ay (za1 K mainGlobals "NoOrder"))) "__class__" = some (some (.builtin "object.__class__")))/\
 (zcu K (.builtin "object.__class__") "__get__" = some (some (.builtin "getset_descriptor.__get__")))/\
 (zd8 K (.builtin "object.__class__")=some true)/\
 (zb5 K (Ay (za1 K mainGlobals "NoOrder")) (.type "object")=some true)/\
 (za6 K (.ref (Ay (za1 K mainGlobals "NoArc"))) "__getattribute__" = some (some (.builtin "BaseException.__getattribute__")))/\
 (za6 K (.ref (Ay (za1 K mainGlobals "NoArc"))) "__getattr__" = some none)/\
 (zb5 K (Ay (za1 K mainGlobals "NoArc")) (.type "BaseException")=some true)/\
 (zbf K (Ay (za1 K mainGlobals "NoArc"))=true)/\
 (za6 K (.ref (Ay (za1 K mainGlobals "NoArc"))) "__class__" = some (some (.builtin "object.__class__")))/\
 (zcu K (.builtin "object.__class__") "__get__" = some (some (.builtin "getset_descriptor.__get__")))/\
 (zd8 K (.builtin "object.__class__")=some true)/\
 (zb5 K (Ay (za1 K mainGlobals "NoArc")) (.type "object")=some true)/\
 (za7 K (.ref (Ay (za1 K mainGlobals "NoArc"))) (.ref (Ay (za1 K mainGlobals "NoArc")))=some true)/\
 (za7 K (.ref (Ay (za1 K mainGlobals "NoOrder"))) (.ref (Ay (za1 K mainGlobals "NoArc")))=some false)/\
 (za7 K (.ref (Ay (za1 K mainGlobals "NoMap"))) (.ref (Ay (za1 K mainGlobals "NoArc")))=some false)/\
 (za7 K (.ref (Ay (za1 K mainGlobals "NoArc"))) (.ref (Ay (za1 K mainGlobals "NoDeed")))=some false)/\
 (za7 K (.ref (Ay (za1 K mainGlobals "NoOrder"))) (.ref (Ay (za1 K mainGlobals "NoDeed")))=some false)/\
 (za7 K (.ref (Ay (za1 K mainGlobals "NoMap"))) (.ref (Ay (za1 K mainGlobals "NoDeed")))=some false)/\
 (za7 K (.ref (Ay (za1 K mainGlobals "NoArc"))) (.ref (Ay (za1 K mainGlobals "NoLength")))=some false)/\
 (za7 K (.ref (Ay (za1 K mainGlobals "NoOrder"))) (.ref (Ay (za1 K mainGlobals "NoLength")))=some false)/\
 (za7 K (.ref (Ay (za1 K mainGlobals "NoMap"))) (.ref (Ay (za1 K mainGlobals "NoLength")))=some false)/\
 (za7 K (.ref (Ay (za1 K mainGlobals "NoArc"))) (.ref (Ay (za1 K mainGlobals "NoMap")))=some false)/\
 (za7 K (.ref (Ay (za1 K mainGlobals "NoOrder"))) (.ref (Ay (za1 K mainGlobals "NoMap")))=some false)/\
 (za7 K (.ref (Ay (za1 K mainGlobals "NoMap"))) (.ref (Ay (za1 K mainGlobals "NoMap")))=some true)/\
 (za7 K (.ref (Ay (za1 K mainGlobals "NoArc"))) (.ref (Ay (za1 K mainGlobals "NoOrder")))=some false)/\
 (za7 K (.ref (Ay (za1 K mainGlobals "NoOrder"))) (.ref (Ay (za1 K mainGlobals "NoOrder")))=some true)/\
 (za7 K (.ref (Ay (za1 K mainGlobals "NoMap"))) (.ref (Ay (za1 K mainGlobals "NoOrder")))=some false)/\
 (za7 K (.ref (Ay (za1 K mainGlobals "NoArc"))) (.ref (Ay (za1 K mainGlobals "NoPlace")))=some false)/\
 (za7 K (.ref (Ay (za1 K mainGlobals "NoOrder"))) (.ref (Ay (za1 K mainGlobals "NoPlace")))=some false)/\
 (za7 K (.ref (Ay (za1 K mainGlobals "NoMap"))) (.ref (Ay (za1 K mainGlobals "NoPlace")))=some false)/\
 (za7 K (.ref (Ay (za1 K mainGlobals "NoArc"))) (.ref (Ay (za1 K mainGlobals "NoRoad")))=some false)/\
 (za7 K (.ref (Ay (za1 K mainGlobals "NoOrder"))) (.ref (Ay (za1 K mainGlobals "NoRoad")))=some false)/\
 (za7 K (.ref (Ay (za1 K mainGlobals "NoMap"))) (.ref (Ay (za1 K mainGlobals "NoRoad")))=some false)/\
 (za7 K (.ref (Ay (za1 K mainGlobals "NoArc"))) (.ref (Ay (za1 K mainGlobals "NoRow")))=some false)/\
 (za7 K (.ref (Ay (za1 K mainGlobals "NoOrder"))) (.ref (Ay (za1 K mainGlobals "NoRow")))=some false)/\
 (za7 K (.ref (Ay (za1 K mainGlobals "NoMap"))) (.ref (Ay (za1 K mainGlobals "NoRow")))=some false)/\
 (za7 K (.ref (Ay (za1 K mainGlobals "NoArc"))) (.ref (Ay (za1 K mainGlobals "NoText")))=some false)/\
 (za7 K (.ref (Ay (za1 K mainGlobals "NoOrder"))) (.ref (Ay (za1 K mainGlobals "NoText")))=some false)/\
 (za7 K (.ref (Ay (za1 K mainGlobals "NoMap"))) (.ref (Ay (za1 K mainGlobals "NoText")))=some false)/\
 (za7 K (.ref (Ay (za1 K mainGlobals "NoArc"))) (.ref (Ay (za1 K mainGlobals "NoWay")))=some false)/\
 (za7 K (.ref (Ay (za1 K mainGlobals "NoOrder"))) (.ref (Ay (za1 K mainGlobals "NoWay")))=some false)/\
 (za7 K (.ref (Ay (za1 K mainGlobals "NoMap"))) (.ref (Ay (za1 K mainGlobals "NoWay")))=some false)/\
 (za7 K (.ref (Ay (za1 K mainGlobals "NoArc"))) (.type "ValueError")=some true)/\
 (za7 K (.ref (Ay (za1 K mainGlobals "NoOrder"))) (.type "ValueError")=some true)/\
 (za7 K (.ref (Ay (za1 K mainGlobals "NoMap"))) (.type "ValueError")=some true)/\
 (za6 K (.ref (Ay (za1 K mainGlobals "Ladder"))) "kept_ones" = some none)/\
 (za6 K (.ref (Ay (za1 K mainGlobals "Ladder"))) "laid" = some none)/\
 (za6 K (.ref (Ay (za1 K mainGlobals "Ladder"))) "own_map" = some none)/\
 (za6 K (.ref (Ay (za1 K mainGlobals "Ladder"))) "own_order" = some none)
theorem fB (w:World):XA (Kp R1 PySem.W.Fast.tw18047755658444858975 w) PySem.W.Fast.tw18047755658444858975:=
 ⟨by kernel_rfl,by kernel_rfl,by kernel_rfl,by kernel_rfl,by kernel_rfl,by kernel_rfl,by kernel_rfl,by kernel_rfl,by kernel_rfl,by kernel_rfl,by kernel_rfl,by kernel_rfl,by kernel_rfl,by kernel_rfl,by kernel_rfl,by kernel_rfl,by kernel_rfl,by kernel_rfl,by kernel_rfl,by kernel_rfl,by kernel_rfl,by kernel_rfl,by kernel_rfl,by kernel_rfl,by kernel_rfl,by kernel_rfl,by kernel_rfl,by kernel_rfl,by kernel_rfl,by kernel_rfl,by kernel_rfl,by kernel_rfl,by kernel_rfl,by kernel_rfl,by kernel_rfl,by kernel_rfl,by kernel_rfl,by kernel_rfl,by kernel_rfl,by kernel_rfl,by kernel_rfl,by kernel_rfl,by kernel_rfl,by kernel_rfl,by kernel_rfl,by kernel_rfl,by kernel_rfl,by kernel_rfl,by kernel_rfl,by kernel_rfl,by kernel_rfl,by kernel_rfl,by kernel_rfl,by kernel_rfl,by kernel_rfl,by kernel_rfl,by kernel_rfl,by kernel_rfl,by kernel_rfl,by kernel_rfl,by kernel_rfl,by kernel_rfl,by kernel_rfl,by kernel_rfl,by kernel_rfl,by kernel_rfl,by kernel_rfl,by kernel_rfl,by kernel_rfl,by kernel_rfl,by kernel_rfl,by kernel_rfl,by kernel_rfl,by kernel_rfl⟩
end fc
end
set_option Elab.async false
set_option linter.all false
set_option maxRecDepth 100000
namespace L2
open PySem PySem.Spec PyProof.Rows
noncomputable abbrev Key:=Sum Int Str
noncomputable def OQ:Key->Value->Bool
 | .inl k,v=>Value.isInt k v
 | .inr x,v=>Value.isStrOf x v
noncomputable def vU (w:World):Key->Int
 | .inl k=>hashInt k
 | .inr x=>hashStr w x
theorem Bz:∀ {k:Key}{v:Value},OQ k v=true->(∃i t,k=Sum.inl i/\v=Value.int i t)\/(∃x t,k=Sum.inr x/\v=Value.str x t)
 | .inl i,v,h=>by
  obtain⟨t,e⟩:=Value.isInt_shape (k:=i) (v:=v) h;exact .inl ⟨i,t,rfl,e⟩
 | .inr x,v,h=>by
  obtain⟨t,e⟩:=Value.isStrOf_shape (x:=x) (v:=v) h;exact .inr ⟨x,t,rfl,e⟩
theorem VI (i:Int)(t:Tok):OQ (.inl i) (.int i t)=true:=by simp[OQ,Value.isInt]
theorem VJ (x:Str)(t:Tok):OQ (.inr x) (.str x t)=true:=by simp[OQ,Value.isStrOf]
theorem mI (a b:Int):decide ((Sum.inl a:Key)=Sum.inl b)=(a==b):=by
 by_cases e:a=b
 ·subst e;simp
 ·have h:¬ (Sum.inl a:Key)=Sum.inl b:=λ q=>e (Sum.inl.inj q);rw[decide_eq_false h];exact (beq_eq_false_iff_ne.mpr e).symm
theorem mJ (a b:Str):decide ((Sum.inr a:Key)=Sum.inr b)=decide (a=b):=by
 by_cases e:a=b
 ·subst e;simp
 ·have h:¬ (Sum.inr a:Key)=Sum.inr b:=λ q=>e (Sum.inr.inj q);rw[decide_eq_false h,decide_eq_false e]
theorem mK (a:Int)(b:Str):decide ((Sum.inl a:Key)=Sum.inr b)=false:=decide_eq_false (λ q=>nomatch q)
theorem mL (a:Str)(b:Int):decide ((Sum.inr a:Key)=Sum.inl b)=false:=decide_eq_false (λ q=>nomatch q)
noncomputable def BV (prog:Program)(w:World):PySem.KeyKind prog w Key where
 is:=OQ
 hash:=vU w
 inj:=λ v a b ha hb=>by
  rcases Bz ha with ⟨i,t,rfl,rfl⟩|⟨x,t,rfl,rfl⟩
  ·rcases Bz hb with ⟨j,u,rfl,e⟩|⟨y,u,rfl,e⟩
   ·injection e with e1 _;rw[e1]
   ·exact nomatch e
  ·rcases Bz hb with ⟨j,u,rfl,e⟩|⟨y,u,rfl,e⟩
   ·exact nomatch e
   ·injection e with e1 _;rw[e1]
 byValue:=λ k v h=>by
  rcases Bz h with ⟨i,t,rfl,rfl⟩|⟨x,t,rfl,rfl⟩<;>rfl
 pyHash:=λ hv h=>by
  rcases Bz hv with ⟨i,t,rfl,rfl⟩|⟨x,t,rfl,rfl⟩
  ·exact wpAny_pyHash_int h
  ·exact wpAny_pyHash_str h
 eqBool:=λ hu hv h=>by
  rcases Bz hu with ⟨i,t,rfl,rfl⟩|⟨x,t,rfl,rfl⟩
  ·rcases Bz hv with ⟨j,u,rfl,rfl⟩|⟨y,u,rfl,rfl⟩
   ·rw[mI] at h;exact wpAny_eqBool_int h
   ·rw[mK] at h;exact SeqAt.EqAt.int_str i t y u _ _ _ _ h
  ·rcases Bz hv with ⟨j,u,rfl,rfl⟩|⟨y,u,rfl,rfl⟩
   ·rw[mL] at h;exact SeqAt.EqAt.str_int x t j u _ _ _ _ h
   ·rw[mJ] at h;exact wpAny_eqBool_str h
 «strs»:=λ k x t v h=>by
  rcases Bz h with ⟨i,u,rfl,e⟩|⟨y,u,rfl,e⟩
  ·exact nomatch e
  ·injection e with e1 _
   subst e1;cases v<;>rfl
theorem Rb (prog:Program)(w:World)(i:Int)(t:Tok):(BV prog w).is (.inl i) (.int i t)=true:=VI i t
theorem Rc (prog:Program)(w:World)(x:Str)(t:Tok):(BV prog w).is (.inr x) (.str x t)=true:=VJ x t
inductive V where
 |AK|bl (b:Bool)|int (i:Int)|str (x:Str)|mM (b:Array UInt8)|rS (b:UInt64)|ref (a:Addr)|ty (n:String)
 deriving DecidableEq
def RelV:V->Value->Prop
 | .AK,u=>u=zco
 | .bl b,u=>u=Value.bool b
 | .int i,u=>∃t,u=Value.int i t
 | .str x,u=>∃t,u=Value.str x t
 | .mM b,u=>∃t,u=Value.bytes b t
 | .rS b,u=>∃t,u=Value.float b t
 | .ref a,u=>u=zbe a
 | .ty n,u=>u=Value.type n
noncomputable abbrev Vals:List V->List Value->Prop:=Paired RelV
theorem Vals.length {xs:List V}{us:List Value}(r:Vals xs us):xs.length=us.length:=Paired.length r
theorem Vals.get:∀ {xs:List V}{us:List Value}{i:Nat}{x:V},Vals xs us->xs[i]?=some x->∃u,us[i]?=some u/\RelV x u
 |_,_,_,_,.nil,e=>by simp at e
 |_,_,0,_,.cons r _,e=>by simp at e;subst e;exact⟨_,rfl,r⟩
 |_,_,i+1,x,.cons _ t,e=>by
  obtain⟨u,h1,h2⟩:=Vals.get (i:=i) (x:=x) t (by simpa using e);exact⟨u,by simpa using h1,h2⟩
theorem Vals.set {x:V}{u:Value}(r:RelV x u):∀ {xs:List V}{us:List Value}(i:Nat),Vals xs us->Vals (xs.set i x) (us.set i u)
 |_,_,_,.nil=>.nil
 |_,_,0,.cons _ t=>.cons r t
 |_,_,i+1,.cons q t=>.cons q (Vals.set r i t)
theorem Vals.append:∀ {xs ys:List V}{us ws:List Value},Vals xs us->Vals ys ws->Vals (xs++ys) (us++ws)
 |_,_,_,_,.nil,s=>s
 |_,_,_,_,.cons r t,s=>.cons r (Vals.append t s)
theorem Vals.take:∀ {xs:List V}{us:List Value}(n:Nat),Vals xs us->Vals (xs.take n) (us.take n)
 |_,_,0,_|_,_,_+1,.nil=>.nil
 |_,_,n+1,.cons r t=>.cons r (Vals.take n t)
theorem Vals.drop:∀ {xs:List V}{us:List Value}(n:Nat),Vals xs us->Vals (xs.drop n) (us.drop n)
 |_,_,0,r=>r
 |_,_,_+1,.nil=>.nil
 |_,_,n+1,.cons _ t=>Vals.drop n t
def J2:Option V->Option Value->Prop
 |some v,some u=>RelV v u
 |none,none=>True
 |_,_=>False
def KV {κ:Type}:List (κ×V)->List (κ×Value)->Prop:=Paired λ(p:κ×V) (q:κ×Value)=>p.1=q.1/\RelV p.2 q.2
noncomputable def kV:Key->V
 | .inl i=>.int i
 | .inr x=>.str x
inductive HO where
 |lst (xs:List V)
 |tup (xs:List V)
 |dK (kvs:List (Key×V))|dT (kvs:List (List Key×V))
 |set (S:Int->Bool) (n:Nat)
 |ins (C dx:Addr) (fs:List (Str×V))
 |own (x:Addr)
 |xd (fs:List (Str×V))
 |met (f x:Addr)
 |vB (lo hi:Int)
 |VL (o:Obj) (u:HO)
 |lC (ps:Array Value)
 |ext (φ:Heap->Prop)
noncomputable abbrev Hp:=Addr->Option HO
noncomputable def upd (H:Hp)(a:Addr)(o:HO):Hp:=λ b=>if b=a then some o else H b
theorem AU {H:Hp}{a:Addr}{o:HO}:upd H a o a=some o:=by unfold upd;rw[if_pos rfl]
theorem Aq {H:Hp}{a b:Addr}{o:HO}(h:b≠a):upd H a o b=H b:=by unfold upd;rw[if_neg h]
theorem rT {H:Hp}{a b:Addr}{o u:HO}(h:H a=some o)(h':H b=some u)(d:o≠u):a≠b:=by
 intro e;subst e;rw[h] at h';exact d (zax h')
theorem AB {H:Hp}{a b:Addr}{o:HO}(h:H a=some o)(h':H b=none):a≠b:=by
 intro e;subst e;rw[h] at h';cases h'
section
variable (P:Program) (w:World)
def BK (H:Hp)(h:Heap)(a:Addr):HO->Prop
 | .lst xs=>xs.length<=sizeLine/\∃(aa:List Value) (n:Nat),Vals xs aa/\h.get? a=some {cls:=.type "list",data:=.seq aa.toArray n}
 | .tup xs=>xs.length<=sizeLine/\∃aa:List Value,Vals xs aa/\IsTup h a aa.toArray
 | .dK kvs=>kvs.length<=sizeLine/\(a==sysModules)=false/\∃vs,KV kvs vs/\h.DictOf (BV P w) a vs
 | .dT kvs=>kvs.length<=sizeLine/\(a==sysModules)=false/\∃xs:List (List Key×Addr×Value),
  Paired (λ(p:List Key×V) (q:List Key×Addr×Value)=>p.1=q.1/\H q.2.1=some (.tup (p.1.map kV))/\RelV p.2 q.2.2) kvs xs/\
  ∃o es ep,h.get? a=some o/\o.ExactDict/\o.data=.dict es ep/\es.toList=xs.map (entryOfKey (tupleKind (BV P w)))/\(xs.map (·.1)).Nodup
 | .set S n=>h.SetOf (intKind P w) a S n
 | .ins C dx fs=>H dx=some (.own a)/\fs.length<=1000/\dx≠a/\h.get? a=some (zcw C dx)/\
  ∃mA,h.Ns1 dx mA/\(∀f,J2 (fs.lookup f) (mA f))/\PySem.Within mA (fs.map (·.1))
 | .own _=>∃o,h.get? a=some o
 | .xd fs=>∃mA,h.Ns1 a mA/\∀f,J2 (fs.lookup f) (mA f)
 | .vB lo hi=>∃t u v,h.get? a=some {cls:=.type "range",data:=.fields #[.int lo t,.int hi u,.int 1 v]}
 | .VL o u=>h.get? a=some o/\BK H h a u
 | .lC ps=>h.get? a=some {cls:=.none,data:=.fields ps}
 | .met f x=>h.get? a=some (PySem.W.methodObj (.ref f) (.ref x))
 | .ext φ=>φ h/\(∃o,h.get? a=some o)/\∀h1 h2:Heap,φ h1->(∀o,h1.get? a=some o->h2.get? a=some o)->φ h2
def FH (H:Hp)(h:Heap):Prop:=∀a o,H a=some o->BK P w H h a o
end
section
variable {P:Program}{w:World}{H H':Hp}{h h':Heap}{a:Addr}{o:HO}
theorem BK.lt (x:BK P w H h a o):a<h.objs.size:=by
 cases o with
 |lst xs=>obtain⟨_,_,_,_,e⟩:=x;exact zak e
 |tup xs=>obtain⟨_,_,_,p⟩:=x;exact p.lt
 |dK kvs|dT kvs=>obtain⟨_,_,_,_,o,_,_,e,_⟩:=x;exact zak e
 |set S n=>obtain⟨o,_,_,_,e,_⟩:=x;exact zak e
 |ins C dx fs=>obtain⟨_,_,_,e,_⟩:=x;exact zak e
 |own y=>obtain⟨_,e⟩:=x;exact zak e
 |xd fs=>obtain⟨_,⟨_,_,_,e,_⟩,_⟩:=x;exact zak e
 |vB lo hi=>obtain⟨_,_,_,e⟩:=x;exact zak e
 |VL ob u=>obtain⟨e,_⟩:=x;exact zak e
 |lC ps|met f y=>exact zak (show h.get? a=some _ from x)
 |ext φ=>obtain⟨_,⟨_,e⟩,_⟩:=x;exact zak e
theorem Paired.mO {α β:Type}{F G:α->β->Prop}:∀ {l₁:List α}{l₂:List β},Paired F l₁ l₂->(∀a b,F a b->G a b)->Paired G l₁ l₂
 |_,_,.nil,_=>.nil
 |_,_,.cons r t,f=>.cons (f _ _ r) (Paired.mO t f)
theorem BK.MM (x:BK P w H h a o)(k:∀b u,(b=a\/H b=some (.own a))->h.get? b=some u->h'.get? b=some u)
 (ho:∀b,H b=some (.own a)->H' b=some (.own a)) (ht:∀b xs,H b=some (.tup xs)->H' b=some (.tup xs)):BK P w H' h' a o:=by
 induction o with
 |lst xs=>obtain⟨z,aa,n,r,e⟩:=x;exact⟨z,aa,n,r,k _ _ (.inl rfl) e⟩
 |tup xs=>obtain⟨z,aa,r,ob,e,c⟩:=x;exact⟨z,aa,r,ob,k _ _ (.inl rfl) e,c⟩
 |dK kvs=>obtain⟨z,y,vs,r,ob,es,ep,e,c⟩:=x;exact⟨z,y,vs,r,ob,es,ep,k _ _ (.inl rfl) e,c⟩
 |dT kvs =>
  obtain⟨z,y,xs,r,ob,es,ep,e,c⟩:=x;exact⟨z,y,xs,Paired.mO r λ p q z=>⟨z.1,ht _ _ z.2.1,z.2.2⟩,ob,es,ep,k _ _ (.inl rfl) e,c⟩
 |set S n=>obtain⟨ob,es,ep,t,e,c⟩:=x;exact⟨ob,es,ep,t,k _ _ (.inl rfl) e,c⟩
 |ins C dx fs =>
  obtain⟨d,z,ne,e,mA,⟨od,es,ep,e2,c⟩,r⟩:=x;exact⟨ho _ d,z,ne,k _ _ (.inl rfl) e,mA,⟨od,es,ep,k _ _ (.inr d) e2,c⟩,r⟩
 |own y=>obtain⟨ob,e⟩:=x;exact⟨ob,k _ _ (.inl rfl) e⟩
 |xd fs=>obtain⟨mA,⟨od,es,ep,e,c⟩,r⟩:=x;exact⟨mA,⟨od,es,ep,k _ _ (.inl rfl) e,c⟩,r⟩
 |vB lo hi=>obtain⟨t,u,v,e⟩:=x;exact⟨t,u,v,k _ _ (.inl rfl) e⟩
 |VL ob u ih=>obtain⟨e,q⟩:=x;exact⟨k _ _ (.inl rfl) e,ih q⟩
 |lC ps =>
  have e:h.get? a=some {cls:=.none,data:=.fields ps}:=x;show h'.get? a=some {cls:=.none,data:=.fields ps};exact k a _ (.inl rfl) e
 |met f y =>
  have e:h.get? a=some (PySem.W.methodObj (.ref f) (.ref y)):=x;show h'.get? a=some (PySem.W.methodObj (.ref f) (.ref y));exact k a _ (.inl rfl) e
 |ext φ=>obtain⟨p,⟨o,e⟩,st⟩:=x;exact⟨st _ _ p λ o q=>k _ _ (.inl rfl) q,⟨o,k _ _ (.inl rfl) e⟩,st⟩
theorem FH.lt (x:FH P w H h)(e:H a=some o):a<h.objs.size:=(x a o e).lt
theorem FH.fresh (x:FH P w H h)(e:h.objs.size<=a):H a=none:=by
 cases q:H a with
 |none=>rfl
 |some u=>exact absurd (zaq (x.lt q) e) (Nat.lt_irrefl _)
theorem FH.kept (x:FH P w H h)(k:∀b u,h.get? b=some u->h'.get? b=some u):FH P w H h':=λ a o e =>
 (x a o e).MM (λ b u _ q=>k b u q) (λ _ q=>q) λ _ _ q=>q
theorem FH.laid (x:FH P w H h)(k:∀b u,h.get? b=some u->h'.get? b=some u)(hp:h.objs.size<=a)(new:BK P w (upd H a o) h' a o):FH P w (upd H a o) h':=λ b u e=>by
 have hn:=x.fresh hp;by_cases hb:b=a
 ·subst hb;rw[AU] at e;cases e;exact new
 ·rw[Aq hb] at e;exact (x b u e).MM (λ c v _ q=>k c v q) (λ c q=>by rw[Aq (AB q hn)];exact q) λ c xs q=>by rw[Aq (AB q hn)];exact q
end
def Rd (H:Hp)(a:Addr)(u:HO):Prop:=H a=some u\/∃o,H a=some (.VL o u)
theorem Rd.ok {P:Program}{w:World}{H:Hp}{h:Heap}{a:Addr}{u:HO}(r:Rd H a u)(x:FH P w H h):BK P w H h a u:=by
 rcases r with r|⟨o,r⟩
 ·exact x a u r
 ·obtain⟨_,q⟩:=x a _ r;exact q
def rV:Option HO->Prop
 |some (.lst _)|some (.dK _)|some (.dT _)|some (.set _ _)|some (.ins _ _ _)|some (.ext _)=>True
 |_=>False
section
variable {P:Program}{w:World}{H:Hp}{h h':Heap}{x e:Addr}{o':HO}
theorem FH.write (ok:FH P w H h)(mu:rV (H x))(he:e=x\/H e=some (.own x))(k:∀b u,b≠e->h.get? b=some u->h'.get? b=some u)(gw:∃u,h'.get? e=some u)
 (new:BK P w (upd H x o') h' x o'):FH P w (upd H x o') h':=λ b u q=>by
 have j5:∀c y,H c=some (.own y)->c≠x:=λ c y r z=>by subst z;rw[r] at mu;exact mu
 have oq:∀c xs,H c=some (.tup xs)->c≠x:=λ c xs r z=>by subst z;rw[r] at mu;exact mu
 by_cases hb:b=x
 ·subst hb;rw[AU] at q;cases q;exact new
 ·rw[Aq hb] at q;by_cases ie:b=e
  ·have q':H b=some (.own x):=by
    rcases he with z|z
    ·exact absurd (ie.trans z) hb
    ·rw[ie];exact z
   rw[q] at q';cases q';obtain⟨v,hv⟩:=gw;exact⟨v,by rw[ie];exact hv⟩
  ·refine (ok b u q).MM (λ c v hc r=>k c v ?_ r) (λ c r=>by rw[Aq (j5 c b r)];exact r) λ c xs r=>by rw[Aq (oq c xs r)];exact r
   rcases hc with rfl|hc
   ·exact ie
   ·rintro rfl;rcases he with z|z
    ·exact j5 c b hc z
    ·rw[hc] at z;cases z;exact hb rfl
end
structure Un (fs ex:List Addr)(H H':Hp)(h h':Heap):Prop where
 keep:∀b o,h.get? b=some o->H b=none->b∉fs->b∉ex->h'.get? b=some o
 slot:∀b o,h.get? b=some o->H b=none->b∈fs->b∉ex->∃sl,h'.get? b=some {o with slots:=sl}
 free:∀b o,h.get? b=some o->H b=none->b∉ex->H' b=none
 there:∀b o,h.get? b=some o->b∉ex->∃o',h'.get? b=some o'
 L7:∀b xs,H b=some (.tup xs)->H' b=some (.tup xs)
 JZ:∀b o u,H b=some (.VL o u)->H' b=some (.VL o u)
 L8:∀b ps,H b=some (.lC ps)->∃more,H' b=some (.lC (ps++more))
section
variable {fs ee ex oy:List Addr}{H H1 H2:Hp}{h h1 h2 h':Heap}{a x e:Addr}{o:HO}
theorem Un.any (u:Un fs ex H H1 h h1){b:Addr}{ob:Obj}(q:h.get? b=some ob)(n:H b=none)(hx:b∉ex):∃sl,h1.get? b=some {ob with slots:=sl}:=by
 by_cases hb:b∈fs
 ·exact u.slot b ob q n hb hx
 ·exact⟨ob.slots,u.keep b ob q n hb hx⟩
theorem Un.kept (k:∀b u,h.get? b=some u->h'.get? b=some u):Un fs ex H H h h':=
 ⟨λ b ob q _ _ _=>k b ob q,λ b ob q _ _ _=>⟨ob.slots,k b ob q⟩,λ _ _ _ n _=>n,λ b ob q _=>⟨ob,k b ob q⟩,λ _ _ q=>q,λ _ _ _ q=>q,λ _ ps q=>⟨#[],by rw[q];simp⟩⟩
theorem Un.refl:Un fs ex H H h h:=Un.kept λ _ _ q=>q
theorem Un.laid (k:∀b u,h.get? b=some u->h'.get? b=some u)(hp:h.objs.size<=a)(hn:H a=none):Un fs ex H (upd H a o) h h' where
 keep:=λ b u q _ _ _=>k b u q
 slot:=λ b u q _ _ _=>⟨u.slots,k b u q⟩
 free:=λ b u q n _=>by rw[Aq (zaz (zaq (zak q) hp))];exact n
 there:=λ b u q _=>⟨u,k b u q⟩
 L7:=λ b xs q=>by rw[Aq (AB q hn)];exact q
 JZ:=λ b u xs q=>by rw[Aq (AB q hn)];exact q
 L8:=λ b ps q=>⟨#[],by rw[Aq (AB q hn),q];simp⟩
theorem Un.write (mu:rV (H x))(he:e=x\/H e=some (.own x))(k:∀b u,b≠e->h.get? b=some u->h'.get? b=some u)(gw:∃u,h'.get? e=some u):Un fs ex H (upd H x o) h h':=by
 have hx:∀b,H b=none->b≠x:=λ b n z=>by subst z;rw[n] at mu;exact mu
 have hb:∀b,H b=none->b≠e:=λ b n z=>by
  subst z;rcases he with r|r
  ·exact hx b n r
  ·rw[n] at r;cases r
 have hm:∀b u,H b=some u->¬ rV (some u)->b≠x:=λ b u q nm z=>by subst z;rw[q] at mu;exact nm mu
 refine⟨λ b u q n _ _=>k b u (hb b n) q,λ b u q n _ _=>⟨u.slots,k b u (hb b n) q⟩,λ b u q n _=>by rw[Aq (hx b n)];exact n,λ b u q _=>?_,
  λ b xs q=>by rw[Aq (hm b _ q λ z=>z)];exact q,λ b u xs q=>by rw[Aq (hm b _ q λ z=>z)];exact q,λ b ps q=>⟨#[],by rw[Aq (hm b _ q λ z=>z),q];simp⟩⟩
 by_cases ie:b=e
 ·subst ie;exact gw
 ·exact⟨u,k b u ie q⟩
end
noncomputable def Ci (h:Heap)(H:Hp):List Addr:=(zav h.objs.size).filter λ a=>(H a).isSome
noncomputable def Qe (h:Heap)(H:Hp):Heap:=zcx h (Ci h H)
theorem VM (h:Heap)(H:Hp):(Qe h H).objs.size=h.objs.size:=PySem.W.hideAll_size _ _
theorem XB {h:Heap}{H:Hp}{b:Addr}{o:Obj}(e:h.get? b=some o)(n:H b=none):(Qe h H).get? b=some o:=
 zbt _ e λ hm=>by
  have q:(H b).isSome=true:=(zbo.mp hm).2;rw[n] at q;simp at q
theorem fC {h:Heap}{H:Hp}{b:Addr}{o:Obj}(e:(Qe h H).get? b=some o):h.get? b=some o/\H b=none:=by
 have e':h.get? b=some o:=PySem.W.of_hideAll (Ci h H) e;refine⟨e',?_⟩;cases q:H b with
 |none=>rfl
 |some x =>
  have hm:b∈Ci h H:=zbo.mpr ⟨zcs.mpr (zak e'),by simp[q]⟩;have z:(Qe h H).get? b=none:=zdc (Ci h H) hm;rw[z] at e;cases e
noncomputable def fD (g h:Heap)(L:Addr):List (Addr×Obj):=(zav h.objs.size).filterMap λ a=>if a=L\/(g.get? a).isSome=true then none else (h.get? a).map λ o=>(a,o)
noncomputable def rest (g h:Heap)(L d:Addr):List (Addr×Obj):=(fD g h L).filter λ p=>decide (p.1≠d)
structure Mod (K:za0)(mg:Str->Option Value)(base:Heap):Prop where
 rB:K.In base
 glob:base.Ns mainGlobals mg
 blt:∃mb,base.Ns builtinsNs mb/\∀x:Str,x ≠ "__name__" -> mb x=bootBuiltins x
 nolimit:base.NoLimit
structure Cx where
 prog:Program
 w:World
 K:za0
 mg:Str->Option Value
 base:Heap
 A:Around
 N:List Str
 s₀:Shared
 H₀:Hp
 env:Env
 outer:List Env
 stack:List Env
 ex:List Addr
 fn:Str->Bool
 calm:Bool
 pn:List (Addr×Obj)
 xe:Value->Shared->Prop
noncomputable def Ho (l:List Env):List Addr:=l.filterMap (·.frame)
noncomputable abbrev Cx.fs (X:Cx):List Addr:=Ho X.outer
def vV (sc:Scope)(x:Str):Prop:=sc.names.lookup x=some .local\/sc.names.lookup x=some .cell\/sc.names.lookup x=some .free
def Loc (sc:Scope)(x:Str):Prop:=sc.names.lookup x=some .local\/sc.names.lookup x=some .cell
def Look (env:Env)(h:Heap)(m:Str->Option Value)(x:Str)(u:Value):Prop:=
 (env.kindOf x=some .local/\m x=some u)\/((env.kindOf x=some .cell\/env.kindOf x=some .free)/\∃c,env.cells.lookup x=some c/\h.IsCell c (some u))
structure Cx.Ok (X:Cx):Prop where
 mod:Mod X.K X.mg X.base
 kind:X.env.scope.kind=.function
 glob:X.env.globals=mainGlobals
 blt:X.env.builtins=builtinsNs
 above:X.s₀.heap.objs.size<=X.env.locals
 inj:∀x y c,X.env.cells.lookup x=some c->X.env.cells.lookup y=some c->x=y
 has:∀x,(X.env.kindOf x=some .cell\/X.env.kindOf x=some .free)->∃c,X.env.cells.lookup x=some c
 mP:∀x c,X.fn x=true->X.env.cells.lookup x=some c->X.s₀.heap.objs.size<=c
 hd:X.calm=true->X.A.handled=none
 frames:X.A.frames=some X.stack
 ZW:X.stack=X.outer\/(X.stack=X.env::X.outer/\X.env.frame=some X.env.locals)
 rC:∀b∈X.ex,b≠X.env.locals/\∀x c,X.env.cells.lookup x=some c->c≠b
 bs:∀b o,X.base.get? b=some o->X.s₀.heap.get? b=some o/\X.H₀ b=none
 XC:X.base.objs.size<=X.s₀.heap.objs.size
 T9:∀b o,X.base.get? b=some o->b∉X.ex
 Ta:∀b∈X.ex,b∉X.fs
 J6:X.s₀.heap.FunFrames X.base X.outer
 fE:∀b∈X.fs,X.H₀ b=none
structure Inv (X:Cx)(pins:List (Addr×Obj))(σ:List (Option V))(H:Hp)(s:Shared):Prop where
 ok:X.Ok
 os:s.os=X.s₀.os
 bare:AllBare s.gens
 base:Un X.fs X.ex X.H₀ H X.s₀.heap s.heap
 loc:∃m,s.heap.Ns X.env.locals m/\∀(i:Nat) (x:Str) (v:V),X.N[i]?=some x->σ[i]?=some (some v)->vV X.env.scope x->∃u,RelV v u/\Look X.env s.heap m x u
 cell:∀x c,X.env.cells.lookup x=some c->∃v,s.heap.IsCell c v
 free:H X.env.locals=none
 DD:∀x c,X.env.cells.lookup x=some c->H c=none
 pin:∀p∈X.pn++pins,s.heap.get? p.1=some p.2/\H p.1=none/\p.1≠X.env.locals/\p.1∉X.fs/\∀v,p.2.data≠.cell v
 AE:FH X.prog X.w H s.heap
 len:σ.length=X.N.length
section
variable {X:Cx}{pins:List (Addr×Obj)}{σ:List (Option V)}{H H':Hp}{s:Shared}{h':Heap}
theorem Cx.Ok.vW (ok:X.Ok){b:Addr}{o:Obj}(e:X.base.get? b=some o):b∉X.fs:=λ hb=>by
 have:=(ok.J6.mem hb).1;rw[e] at this;cases this
theorem Inv.bs (I:Inv X pins σ H s):∀b o,X.base.get? b=some o->s.heap.get? b=some o/\H b=none:=λ b o e =>
 ⟨I.base.keep b o (I.ok.bs b o e).1 (I.ok.bs b o e).2 (I.ok.vW e) (I.ok.T9 b o e),I.base.free b o (I.ok.bs b o e).1 (I.ok.bs b o e).2 (I.ok.T9 b o e)⟩
theorem Inv.bk (I:Inv X pins σ H s):∀b o,X.base.get? b=some o->s.heap.get? b=some o:=λ b o e=>(I.bs b o e).1
theorem Inv.mod (I:Inv X pins σ H s):Mod X.K X.mg X.base:=I.ok.mod
theorem Inv.Mx (I:Inv X pins σ H s):X.K.In s.heap:=I.ok.mod.rB.keeps I.bk
theorem Inv.fr (I:Inv X pins σ H s):∃m,Fr X.base X.env.locals s.heap m:=
 let ⟨m,hn,_⟩:=I.loc
 ⟨m,hn,I.bk,zbw I.ok.XC I.ok.above⟩
theorem Inv.lt (I:Inv X pins σ H s):X.env.locals<s.heap.objs.size:=let ⟨_,hn,_⟩:=I.loc;hn.lt
theorem Inv.sz (I:Inv X pins σ H s):X.s₀.heap.objs.size<=s.heap.objs.size:=zbw I.ok.above (zbl I.lt)
theorem Inv.vX (I:Inv X pins σ H s){a:Addr}(h:s.heap.objs.size<=a):a∉X.fs:=λ hb=>by
 obtain⟨_,o,ho,_⟩:=I.ok.J6.mem hb;exact absurd (zaq (zak ho) (zbw I.sz h)) (Nat.lt_irrefl _)
theorem Inv.fF (I:Inv X pins σ H s):∀x c,X.env.cells.lookup x=some c->c≠X.env.locals:=λ x c e z=>by
 obtain⟨v,o,ho,hd⟩:=I.cell x c e;obtain⟨m,⟨o',es,ep,dl,d8,_⟩,_⟩:=I.loc;rw[z,dl] at ho;cases ho;rw[d8] at hd;cases hd
theorem Inv.J6 (I:Inv X pins σ H s):s.heap.FunFrames X.base X.outer:=by
 have all:∀(l:List Env),(∀b∈Ho l,b∈X.fs)->X.s₀.heap.FunFrames X.base l->s.heap.FunFrames X.base l:=by
  intro l;induction l with
  |nil=>intro _ _;trivial
  |cons env r ih =>
   intro hs hl;obtain⟨hk,⟨L,o,hf,hn,ho,hd⟩,hr⟩:=hl;have hL:L∈X.fs:=hs L (by unfold Ho;rw[List.filterMap_cons,hf];exact za3);obtain⟨sl,e⟩:=I.base.slot L o ho (I.ok.fE L hL) hL λ z=>I.ok.Ta L z hL;exact⟨hk,⟨L,_,hf,hn,e,hd⟩,ih (λ b hb=>hs b (by unfold Ho;rw[List.filterMap_cons,hf];exact za4 _ hb)) hr⟩
 exact all X.outer (λ _ hb=>hb) I.ok.J6
theorem Inv.stack (I:Inv X pins σ H s):s.heap.FunFrames X.base X.stack:=by
 rcases I.ok.ZW with e|⟨e,hf⟩
 ·rw[e];exact I.J6
 ·rw[e];obtain⟨m,hn,_⟩:=I.loc;refine .cons (by rw[I.ok.kind];decide) hf hn ?_ I.J6;exact Heap.get?_none_of_le (zbw I.ok.XC I.ok.above)
theorem Inv.Tb (I:Inv X pins σ H s):∀b∈Ho X.stack,b∈X.env.locals::X.fs:=λ b hb=>by
 rcases I.ok.ZW with e|⟨e,hf⟩
 ·rw[e] at hb;exact za4 _ hb
 ·rw[e] at hb;unfold Ho at hb;rw[List.filterMap_cons,hf] at hb;exact hb
theorem Inv.My (I:Inv X pins σ H s):∀b∈Ho X.stack,H b=none:=λ b hb=>by
 rcases za9.mp (I.Tb b hb) with e|hb
 ·rw[e];exact I.free
 ·obtain⟨_,o,ho,_⟩:=I.ok.J6.mem hb;exact I.base.free b o ho (I.ok.fE b hb) λ z=>I.ok.Ta b z hb
theorem Inv.step {g':Array GenState}{t':Nat}{d':Drawn}{ch:List Addr}(I:Inv X pins σ H s)
 (dS:∀b∈ch,(b∈X.ex\/X.s₀.heap.objs.size<=b)/\b≠X.env.locals/\(∀x c,X.env.cells.lookup x=some c->c≠b)/\∀p∈X.pn++pins,p.1≠b)
 (keep:∀b o,b≠X.env.locals->b∉X.fs->b∉ch->s.heap.get? b=some o->H b=none->h'.get? b=some o)
 (slot:∀b o,b≠X.env.locals->b∈X.fs->b∉ch->s.heap.get? b=some o->H b=none->∃sl,h'.get? b=some {o with slots:=sl}) (free:∀b o,b∉ch->s.heap.get? b=some o->H b=none->H' b=none)
 (there:∀b o,b∉ch->s.heap.get? b=some o->∃o',h'.get? b=some o')
 (L7:∀b xs,H b=some (.tup xs)->H' b=some (.tup xs)) (JZ:∀b o u,H b=some (.VL o u)->H' b=some (.VL o u)) (L8:∀b ps,H b=some (.lC ps)->∃more,H' b=some (.lC (ps++more)))
 (ns:∀m,s.heap.Ns X.env.locals m->h'.Ns X.env.locals m) (AE:FH X.prog X.w H' h') (hg:AllBare g'):
 Inv X pins σ H' {s with heap:=h',gens:=g',drawn:=d',toks:=t' }:=by
 have wa:∀b o,X.s₀.heap.get? b=some o->b≠X.env.locals:=λ b o e=>zaz (zaq (zak e) I.ok.above);have jr:∀b o,X.s₀.heap.get? b=some o->b∉X.ex->b∉ch:=λ b o e hx hb=>by
  rcases (dS b hb).1 with z|z
  ·exact hx z
  ·exact absurd (zaq (zak e) z) (Nat.lt_irrefl _)
 have cellK:∀x c,X.env.cells.lookup x=some c->∀v,s.heap.IsCell c v->h'.IsCell c v:=λ x c e v ⟨o,ho,hd⟩=>by
  have j6:c∉ch:=λ z=>(dS c z).2.2.1 x c e rfl;by_cases hc:c∈X.fs
  ·obtain⟨sl,q⟩:=slot c o (I.fF x c e) hc j6 ho (I.DD x c e);exact⟨_,q,hd⟩
  ·exact⟨o,keep c o (I.fF x c e) hc j6 ho (I.DD x c e),hd⟩
 refine⟨I.ok,I.os,hg,⟨λ b o e n hb hx=>?_,λ b o e n hb hx=>?_,λ b o e n hx=>?_,λ b o e hx=>?_,λ b xs e=>L7 b xs (I.base.L7 b xs e),λ b o xs e=>JZ b o xs (I.base.JZ b o xs e),λ b ps e=>?_⟩,?_,λ x c e=>?_,?_,λ x c e=>?_,λ p hp=>?_,AE,I.len⟩
 ·exact keep b o (wa b o e) hb (jr b o e hx) (I.base.keep b o e n hb hx) (I.base.free b o e n hx)
 ·obtain⟨sl,e1⟩:=I.base.slot b o e n hb hx;obtain⟨dU,e2⟩:=slot b _ (wa b o e) hb (jr b o e hx) e1 (I.base.free b o e n hx);exact⟨dU,e2⟩
 ·obtain⟨o',e1⟩:=I.base.there b o e hx;exact free b o' (jr b o e hx) e1 (I.base.free b o e n hx)
 ·obtain⟨o',e1⟩:=I.base.there b o e hx;exact there b o' (jr b o e hx) e1
 ·obtain⟨m1,e1⟩:=I.base.L8 b ps e;obtain⟨m2,e2⟩:=L8 b _ e1;exact⟨m1++m2,by rw[e2,Array.append_assoc]⟩
 ·obtain⟨m,hn,hl⟩:=I.loc;refine⟨m,ns m hn,λ i x v e1 e2 e3=>?_⟩;obtain⟨u,r,l⟩:=hl i x v e1 e2 e3;refine⟨u,r,?_⟩;rcases l with l|⟨k,c,e,z⟩
  ·exact .inl l
  ·exact .inr ⟨k,c,e,cellK x c e _ z⟩
 ·obtain⟨v,z⟩:=I.cell x c e;exact⟨v,cellK x c e v z⟩
 ·obtain⟨m,⟨o,_,_,ho,_⟩,_⟩:=I.loc;exact free _ o (λ z=>(dS _ z).2.1 rfl) ho I.free
 ·obtain⟨v,o,ho,hd⟩:=I.cell x c e;exact free c o (λ z=>(dS c z).2.2.1 x c e rfl) ho (I.DD x c e)
 ·obtain⟨e,n,ne,nf,d⟩:=I.pin p hp;have j6:p.1∉ch:=λ z=>(dS p.1 z).2.2.2 p hp rfl;exact⟨keep p.1 p.2 ne nf j6 e n,free p.1 p.2 j6 e n,ne,nf,d⟩
theorem Inv.un {t':Nat}(I:Inv X pins σ H s)(u:Un X.fs [] H H' s.heap h')(AE:FH X.prog X.w H' h'):Inv X pins σ H' {s with heap:=h',toks:=t' }:=by
 obtain⟨m,⟨o,es,ep,ho,r⟩,_⟩:=id I.loc;obtain⟨sl,hL⟩:=u.any ho I.free (by simp);exact I.step (g':=s.gens) (d':=s.drawn) (ch:=[]) (λ _ z=>nomatch z) (λ b o _ hb _ e n=>u.keep b o e n hb (by simp)) (λ b o _ hb _ e n=>u.slot b o e n hb (by simp)) (λ b o _ e n=>u.free b o e n (by simp)) (λ b o _ e=>u.there b o e (by simp)) u.L7 u.JZ u.L8 (λ m' hm=>by
  obtain⟨o',o0,o4,dl,r'⟩:=hm;rw[ho] at dl;cases dl;exact⟨_,o0,o4,hL,r'⟩) AE I.bare
theorem Inv.call {g':Array GenState}{t':Nat}{d':Drawn}{ch:List Addr}(I:Inv X pins σ H s)(u:Un (Ho X.stack) ch H H' s.heap h')(AE:FH X.prog X.w H' h')(hg:AllBare g')
 (dS:∀b∈ch,(b∈X.ex\/X.s₀.heap.objs.size<=b)/\b≠X.env.locals/\(∀x c,X.env.cells.lookup x=some c->c≠b)/\∀p∈X.pn++pins,p.1≠b):
 Inv X pins σ H' {s with heap:=h',gens:=g',drawn:=d',toks:=t' }:=by
 obtain⟨m,⟨o,es,ep,ho,r⟩,_⟩:=id I.loc;obtain⟨sl,hL⟩:=u.any ho I.free λ z=>(dS _ z).2.1 rfl;exact I.step (ch:=ch) dS (λ b o hL hb hc e n=>u.keep b o e n (λ z=>(za9.mp (I.Tb b z)).elim hL hb) hc) (λ b o _ _ hc e n=>u.any e n hc) (λ b o hc e n=>u.free b o e n hc) (λ b o hc e=>u.there b o e hc) u.L7 u.JZ u.L8 (λ m' hm=>by
  obtain⟨o',o0,o4,dl,r'⟩:=hm;rw[ho] at dl;cases dl;exact⟨_,o0,o4,hL,r'⟩) AE hg
theorem Inv.turned {t':Nat}{it:Addr}(I:Inv X pins σ H s)(k:∀b o,b≠it->s.heap.get? b=some o->h'.get? b=some o)(hn:H it=none)(hL:it≠X.env.locals)
 (h1:it∈X.ex\/X.s₀.heap.objs.size<=it) (h2:∀x c,X.env.cells.lookup x=some c->c≠it) (h3:∀p∈X.pn++pins,p.1≠it):Inv X pins σ H {s with heap:=h',toks:=t' }:=by
 have wb:∀b u,H b=some u->b≠it:=λ b u e z=>by rw[z,hn] at e;cases e
 refine I.step (g':=s.gens) (d':=s.drawn) (ch:=[it]) (λ b hb=>?_) (λ b o _ _ hc e _=>k b o (λ z=>hc (by simp[z])) e) (λ b o _ _ hc e _=>⟨o.slots,k b o (λ z=>hc (by simp[z])) e⟩) (λ _ _ _ _ n=>n)
  (λ b o hc e=>⟨o,k b o (λ z=>hc (by simp[z])) e⟩) (λ _ _ e=>e) (λ _ _ _ e=>e) (λ b ps e=>⟨#[],by rw[e];simp⟩) (λ m hm=>?_) (λ b u e=>?_) I.bare
 ·have e:b=it:=by simpa using hb
  subst e;exact⟨h1,hL,h2,h3⟩
 ·obtain⟨o,es,ep,ho,r⟩:=hm;exact⟨o,es,ep,k _ o (zbp hL) ho,r⟩
 ·refine (I.AE b u e).MM (λ c v hc q=>k c v ?_ q) (λ _ q=>q) λ _ _ q=>q;rcases hc with z|z
  ·rw[z];exact wb b u e
  ·exact wb c _ z
theorem Inv.tok (I:Inv X pins σ H s)(t:Nat):Inv X pins σ H {s with toks:=t}:=I.un (h':=s.heap) (t':=t) Un.refl I.AE
theorem Inv.kept {t':Nat}(I:Inv X pins σ H s)(k:∀b u,s.heap.get? b=some u->h'.get? b=some u):Inv X pins σ H {s with heap:=h',toks:=t' }:=I.un (Un.kept k) (I.AE.kept k)
theorem Inv.laid {a:Addr}{o:HO}{t':Nat}(I:Inv X pins σ H s)(k:∀b u,s.heap.get? b=some u->h'.get? b=some u)(hp:s.heap.objs.size<=a)(new:BK X.prog X.w (upd H a o) h' a o):
 Inv X pins σ (upd H a o) {s with heap:=h',toks:=t' }:=I.un (Un.laid k hp (I.AE.fresh hp)) (I.AE.laid k hp new)
theorem Inv.write {x e:Addr}{o:HO}{t':Nat}(I:Inv X pins σ H s)(mu:rV (H x))(he:e=x\/H e=some (.own x))(k:∀b u,b≠e->s.heap.get? b=some u->h'.get? b=some u)(gw:∃u,h'.get? e=some u)
 (new:BK X.prog X.w (upd H x o) h' x o):Inv X pins σ (upd H x o) {s with heap:=h',toks:=t' }:=I.un (Un.write mu he k gw) (I.AE.write mu he k gw new)
theorem Inv.weak {σ':List (Option V)}(I:Inv X pins σ H s)(hl:σ'.length=σ.length)(w:∀(i:Nat) v,σ'[i]?=some (some v)->σ[i]?=some (some v)):Inv X pins σ' H s:=
 ⟨I.ok,I.os,I.bare,I.base,let ⟨m,hn,dH⟩:=I.loc;⟨m,hn,λ i x v e1 e2 e3=>dH i x v e1 (w i v e2) e3⟩,I.cell,I.free,I.DD,I.pin,I.AE,hl.trans I.len⟩
theorem Inv.K0 {d9:List (Addr×Obj)}(I:Inv X pins σ H s)(h:∀p∈d9,s.heap.get? p.1=some p.2/\H p.1=none/\p.1≠X.env.locals/\p.1∉X.fs/\∀v,p.2.data≠.cell v):Inv X d9 σ H s:=
 ⟨I.ok,I.os,I.bare,I.base,I.loc,I.cell,I.free,I.DD,λ p hp=>(zar.mp hp).elim (λ z=>I.pin p (zas _ z)) (h p),I.AE,I.len⟩
theorem Rf {N:List Str}(hN:N.Nodup){i j:Nat}{x:Str}(a:N[i]?=some x)(b:N[j]?=some x):i=j:=by
 obtain⟨h1,e1⟩:=zan.mp a;obtain⟨h2,e2⟩:=zan.mp b;exact (List.getElem_inj hN).mp (e1.trans e2.symm)
theorem OR {M:Model}{A:Around}{E:Value->Shared->Prop}{i:Nat}{x:Str}{v:V}{u:Value}{Q:Unit->Shared->Prop}(I:Inv X pins σ H s)(hN:X.N.Nodup)(hi:X.N[i]?=some x)(hx:Loc X.env.scope x)(r:RelV v u)
 (h:∀s',Inv X pins (σ.set i (some v)) H s'->(∃a,zd4 a s.heap s'.heap/\(a=X.env.locals\/X.env.cells.lookup x=some a))->Q () s') (hf:X.fn x=true\/X.env.scope.names.lookup x=some .local:=by first|exact .inl rfl|exact .inr rfl|assumption):wpAny M A (storeName X.env x u) Q E s:=by
 obtain⟨m,hn,hl⟩:=id I.loc;have ef:(X.env.scope.kind==.class||(X.env.scope.kind==.module&&X.env.locals != X.env.globals))=false:=by rw[I.ok.kind];rfl
 have hiσ:i<σ.length:=by rw[I.len];exact (zan.mp hi).1
 have fF:=I.fF;have tracked:∀ {a:Addr} {h':Heap},(∃o,s.heap.get? a=some o/\H a=none)->zd4 a s.heap h'->FH X.prog X.w H h':=fun {a h'} ha hs b ob e=>by
  obtain⟨_,_,gx⟩:=ha;refine (I.AE b ob e).MM (λ c w' hc q=>(hs.2 c ?_).trans q) (λ _ q=>q) λ _ _ q=>q;rintro rfl;rcases hc with rfl|hc
  ·rw[gx] at e;cases e
  ·rw[gx] at hc;cases hc
 rcases hx with hk|hk
 ·refine wpAny_storeName_local hk hn (λ h' dW hs=>?_) ef;obtain⟨oL,_,_,ig,_⟩:=id hn;refine h _ ⟨I.ok,I.os,I.bare,⟨λ b o e n hb hx=>?_,λ b o e n hb hx=>?_,I.base.free,λ b o e hx=>?_,I.base.L7,I.base.JZ,I.base.L8⟩,⟨_,dW,λ j y v' e1 e2 e3=>?_⟩,λ y c e=>?_,I.free,I.DD,λ p hp=>?_,tracked ⟨oL,ig,I.free⟩ hs,by simpa using I.len⟩ ⟨_,hs,.inl rfl⟩
  ·exact (hs.2 b (zaz (zaq (zak e) I.ok.above))).trans (I.base.keep b o e n hb hx)
  ·obtain⟨sl,e1⟩:=I.base.slot b o e n hb hx;exact⟨sl,(hs.2 b (zaz (zaq (zak e) I.ok.above))).trans e1⟩
  ·obtain⟨o',e1⟩:=I.base.there b o e hx;exact⟨o',(hs.2 b (zaz (zaq (zak e) I.ok.above))).trans e1⟩
  ·by_cases hj:j=i
   ·subst hj;rw[hi] at e1;cases e1;rw[zbb hiσ] at e2;cases e2;exact⟨u,r,.inl ⟨hk,by simp⟩⟩
   ·rw[zb3 (zbp hj)] at e2;obtain⟨u',r',q⟩:=hl j y v' e1 e2 e3;refine⟨u',r',?_⟩;rcases q with ⟨k,e⟩|⟨k,c,e,z⟩
    ·refine .inl ⟨k,?_⟩;have:y≠x:=λ e=>hj (Rf hN e1 (e▸hi));simp[this,e]
    ·exact .inr ⟨k,c,e,z.sameBut hs (fF y c e)⟩
  ·obtain⟨w',z⟩:=I.cell y c e;exact⟨w',z.sameBut hs (fF y c e)⟩
  ·obtain⟨e,n,ne,nf,d⟩:=I.pin p hp;exact⟨(hs.2 p.1 ne).trans e,n,ne,nf,d⟩
 ·have o7:X.fn x=true:=by
   rcases hf with z|z
   ·exact z
   ·rw[z] at hk;cases hk
  obtain⟨c,hc⟩:=I.ok.has x (.inl hk);obtain⟨w',z⟩:=I.cell x c hc;refine wpAny_storeName_cell I.ok.kind hk hc z (λ h' js hs=>?_);obtain⟨oc,wc,o8⟩:=id z;refine h {s with heap:=h' } ⟨I.ok,I.os,I.bare,⟨λ b o e n hb hx=>?_,λ b o e n hb hx=>?_,I.base.free,λ b o e hx=>?_,I.base.L7,I.base.JZ,I.base.L8⟩,⟨m,hn.sameBut hs (zbp (fF x c hc)),λ j y v' e1 e2 e3=>?_⟩,λ y c' e=>?_,I.free,I.DD,λ p hp=>?_,tracked ⟨oc,wc,I.DD x c hc⟩ hs,by simpa using I.len⟩ ⟨c,hs,.inr hc⟩
  ·exact (hs.2 b (zaz (zaq (zak e) (I.ok.mP x c o7 hc)))).trans (I.base.keep b o e n hb hx)
  ·obtain⟨sl,e1⟩:=I.base.slot b o e n hb hx;exact⟨sl,(hs.2 b (zaz (zaq (zak e) (I.ok.mP x c o7 hc)))).trans e1⟩
  ·obtain⟨o',e1⟩:=I.base.there b o e hx;exact⟨o',(hs.2 b (zaz (zaq (zak e) (I.ok.mP x c o7 hc)))).trans e1⟩
  ·by_cases hj:j=i
   ·subst hj;rw[hi] at e1;cases e1;rw[zbb hiσ] at e2;cases e2;exact⟨u,r,.inr ⟨.inl hk,c,hc,js⟩⟩
   ·rw[zb3 (zbp hj)] at e2;obtain⟨u',r',q⟩:=hl j y v' e1 e2 e3;refine⟨u',r',?_⟩;rcases q with q|⟨k,c',e,z'⟩
    ·exact .inl q
    ·refine .inr ⟨k,c',e,z'.sameBut hs ?_⟩;rintro rfl;exact hj (Rf hN e1 (I.ok.inj _ _ _ e hc▸hi))
  ·by_cases jt:c'=c
   ·subst jt;exact⟨_,js⟩
   ·obtain⟨w2,z2⟩:=I.cell y c' e;exact⟨w2,z2.sameBut hs jt⟩
  ·obtain⟨e,n,ne,nf,d⟩:=I.pin p hp;refine⟨(hs.2 p.1 ?_).trans e,n,ne,nf,d⟩;intro q;rw[q,wc] at e;have q':oc=p.2:=zax e;exact d w' (by rw[<-q'];exact o8)
theorem MN {M:Model}{A:Around}{E:Value->Shared->Prop}{i:Nat}{x:Str}{v:V}{u:Value}{Q:Unit->Shared->Prop}(I:Inv X pins σ H s)(hN:X.N.Nodup)(hi:X.N[i]?=some x)(hx:Loc X.env.scope x)(r:RelV v u)
 (h:∀s',Inv X pins (σ.set i (some v)) H s'->Q () s') (hf:X.fn x=true\/X.env.scope.names.lookup x=some .local:=by first|exact .inl rfl|exact .inr rfl|assumption):wpAny M A (storeName X.env x u) Q E s:=
 OR I hN hi hx r (λ s' I' _=>h s' I') hf
theorem Inv.OS {s':Shared}{ch:List Addr}(I:Inv X pins σ H s)(ho:s'.os=s.os)(u:Un (Ho X.stack) ch H H' s.heap s'.heap)(AE:FH X.prog X.w H' s'.heap)(hg:AllBare s'.gens)
 (dS:∀b∈ch,(b∈X.ex\/X.s₀.heap.objs.size<=b)/\b≠X.env.locals/\(∀x c,X.env.cells.lookup x=some c->c≠b)/\∀p∈X.pn++pins,p.1≠b):Inv X pins σ H' s':=by
 obtain⟨h',g',d',t',o'⟩:=s';have e:o'=s.os:=ho;subst e;exact I.call (g':=g') (t':=t') (d':=d') u AE hg dS
end
noncomputable abbrev XK:=Value->Option Addr->Hp->Prop
noncomputable abbrev St:=List (Option V)
noncomputable abbrev VK:=V->Hp->Prop
noncomputable abbrev TE:=St->Hp->VK->Prop
noncomputable abbrev TT:=St->Hp->(Bool->Hp->Prop)->Prop
noncomputable abbrev TA:=St->Hp->(List V->Hp->Prop)->Prop
structure Ends where
 nx:St->Hp->Prop
 rt:VK
 bk:St->Hp->Prop:=λ _ _=>False
 ct:St->Hp->Prop:=λ _ _=>False
noncomputable abbrev TS:=Ends->St->Hp->Prop
def EP (X:Cx)(pins:List (Addr×Obj))(σ:St)(Q:VK)(u:Value)(s':Shared):Prop:=∃v H',Inv X pins σ H' s'/\RelV v u/\Q v H'
def TP (X:Cx)(pins:List (Addr×Obj))(σ:St)(Q:Bool->Hp->Prop)(b:Bool)(s':Shared):Prop:=∃H',Inv X pins σ H' s'/\Q b H'
def AP (X:Cx)(pins:List (Addr×Obj))(σ:St)(Q:List V->Hp->Prop)(us:List Value)(s':Shared):Prop:=∃vs H',Inv X pins σ H' s'/\Vals vs us/\Q vs H'
def SP (X:Cx)(pins:List (Addr×Obj))(D:Ends)(f:Flow)(s':Shared):Prop:=
 match f with
 | .next=>∃σ' H',Inv X pins σ' H' s'/\D.nx σ' H'
 | .brk=>∃σ' H',Inv X pins σ' H' s'/\D.bk σ' H'
 | .cont=>∃σ' H',Inv X pins σ' H' s'/\D.ct σ' H'
 | .ret u=>∃v σ' H',Inv X pins σ' H' s'/\RelV v u/\D.rt v H'
def PE (X:Cx)(e:Expr)(t:TE):Prop:=
 ∀(pins:List (Addr×Obj)) (s:Shared) (σ:St) (H:Hp) (Q:VK),Inv X pins σ H s->t σ H Q->wpAny (model X.prog X.w) X.A (eval e X.env) (EP X pins σ Q) X.xe s
def PT (X:Cx)(e:Expr)(t:TT):Prop:=
 ∀(pins:List (Addr×Obj)) (s:Shared) (σ:St) (H:Hp) (Q:Bool->Hp->Prop),Inv X pins σ H s->t σ H Q->wpAny (model X.prog X.w) X.A (isTrue e X.env (eval e X.env)) (TP X pins σ Q) X.xe s
def PW (X:Cx)(e:Expr)(t:TT):Prop:=
 ∀(whole:Sem Value) (pins:List (Addr×Obj)) (s:Shared) (σ:St) (H:Hp) (Q:Bool->Hp->Prop),Inv X pins σ H s->t σ H Q->wpAny (model X.prog X.w) X.A (isTrue e X.env whole) (TP X pins σ Q) X.xe s
theorem PW.pt {X:Cx}{e:Expr}{t:TT}(h:PW X e t):PT X e t:=h _
def PA (X:Cx)(es:List Expr)(t:TA):Prop:=
 ∀(pos:Pos) (pins:List (Addr×Obj)) (s:Shared) (σ:St) (H:Hp) (Q:List V->Hp->Prop),Inv X pins σ H s->t σ H Q->wpAny (model X.prog X.w) X.A (spliced (backTo pos (starEach es X.env))) (AP X pins σ Q) X.xe s
def PS (X:Cx)(st:Stmt)(t:TS):Prop:=
 ∀(pins:List (Addr×Obj)) (s:Shared) (σ:St) (H:Hp) (D:Ends),Inv X pins σ H s->t D σ H->wpAny (model X.prog X.w) X.A (exec st X.env) (SP X pins D) X.xe s
def UA (X:Cx)(st:List Stmt)(t:TS):Prop:=
 ∀(pins:List (Addr×Obj)) (s:Shared) (σ:St) (H:Hp) (D:Ends),Inv X pins σ H s->t D σ H->wpAny (model X.prog X.w) X.A (execs st X.env) (SP X pins D) X.xe s
theorem BA {α:Type}{t:Sem α}{Q Q':α->Shared->Prop}{M:Model}{A:Around}{E:Value->Shared->Prop}{s:Shared}(h:wpAny M A t Q E s)(hQ:∀a s,Q a s->Q' a s):wpAny M A t Q' E s:=wpAny_mono h hQ λ _ _ x=>x
section
variable {X:Cx}
theorem bin {a b:Expr}{ta tb:TE}(ha:PE X a ta)(hb:PE X b tb){pins:List (Addr×Obj)}{s:Shared}{σ:St}{H:Hp}{R:V->V->Hp->Prop}(I:Inv X pins σ H s)(h:ta σ H λ x H1=>tb σ H1 λ y H2=>R x y H2)
 {α:Type} {Q:α->Shared->Prop} {f:Value->Value->Sem α}
 (hf:∀v u s2 x y H2,Inv X pins σ H2 s2->RelV x v->RelV y u->R x y H2->wpAny (model X.prog X.w) X.A (f v u) Q X.xe s2):
 wpAny (model X.prog X.w) X.A (eval a X.env) (λ v s₁=>wpAny (model X.prog X.w) X.A (eval b X.env) (λ u s₂=>wpAny (model X.prog X.w) X.A (f v u) Q X.xe s₂) X.xe s₁) X.xe s:=by
 refine BA (ha pins s σ H _ I h) λ v s1 ⟨x,H1,I1,r1,q1⟩=>?_;refine BA (hb pins s1 σ H1 _ I1 q1) λ u s2 ⟨y,H2,I2,r2,q2⟩=>?_;exact hf v u s2 x y H2 I2 r1 r2 q2
noncomputable def Rg (i:Nat):TE:=λ σ H Q=>∃v,σ[i]?=some (some v)/\Q v H
noncomputable def tC (v:V):TE:=λ _ H Q=>Q v H
theorem mQ {i:Nat}{x:Str}{pos:Pos}(hN:X.N[i]?=some x)(hv:vV X.env.scope x)(hd:(x==("__debug__" : Str))=false:=by decide)(de:(x==("__classdict__" : Str))=false:=by decide):PE X (.Name x pos) (Rg i):=by
 intro pins s σ H Q I h;obtain⟨v,e,h⟩:=h;obtain⟨m,hn,hl⟩:=I.loc;obtain⟨u,r,l⟩:=hl i x v hN e hv;have fin:EP X pins σ Q u s:=⟨v,H,I,r,h⟩;rcases l with ⟨hk,hm⟩|⟨hk,c,hc,dA⟩
 ·exact wpAny_Name (wpAny_loadName_local I.ok.kind hk hn hm fin) hd
 ·rcases hk with hk|hk
  ·exact wpAny_Name (wpAny_loadName_cell I.ok.kind hk hc dA fin) hd
  ·exact wpAny_Name (wpAny_loadName_free I.ok.kind hk hc dA fin de) hd
theorem mR {i j pos}:PE X (.Constant (.int i) j pos) (tC (.int i)):=λ _ _ _ H _ I h=>wpAny_Constant_int ⟨.int i,H,I.tok _,⟨_,rfl⟩,h⟩
theorem rW {b j pos}:PE X (.Constant (.bool b) j pos) (tC (.bl b)):=λ _ _ _ H _ I h=>Constant_bool ⟨.bl b,H,I,rfl,h⟩
theorem mS {j pos}:PE X (.Constant .none j pos) (tC .AK):=λ _ _ _ H _ I h=>Constant_none ⟨.AK,H,I,rfl,h⟩
theorem mU {x j pos}:PE X (.Constant (.str x) j pos) (tC (.str x)):=λ _ _ _ H _ I h=>Calls.Constant_str ⟨.str x,H,I.tok _,⟨_,rfl⟩,h⟩
def Gl (X:Cx)(x:Str):Prop:=X.env.kindOf x=some .globalImplicit
theorem K1 {E:Value->Shared->Prop}{pins:List (Addr×Obj)}{s:Shared}{σ:St}{H:Hp}{x:Str}{u:Value}{pos:Pos}{Q:Value->Shared->Prop}(I:Inv X pins σ H s)(hg:Gl X x)(hm:X.mg x=some u)(h:Q u s)
 (hd:(x==("__debug__" : Str))=false:=by decide):wpAny (model X.prog X.w) X.A (eval (.Name x pos) X.env) Q E s:=
 Calls.Name_function_global I.ok.kind hg (Calls.loadGlobal_global (by rw[I.ok.glob];exact I.mod.glob.keeps I.bk) hm h) hd
theorem Fi {E:Value->Shared->Prop}{pins:List (Addr×Obj)}{s:Shared}{σ:St}{H:Hp}{x:Str}{u:Value}{pos:Pos}{Q:Value->Shared->Prop}(I:Inv X pins σ H s)(hg:Gl X x)(hm:X.mg x=none)(hv:bootBuiltins x=some u)(h:Q u s)
 (hn:x ≠ "__name__" := by decide) (hd:(x==("__debug__" : Str))=false:=by decide):wpAny (model X.prog X.w) X.A (eval (.Name x pos) X.env) Q E s:=by
 obtain⟨mb,h1,h2⟩:=I.mod.blt;exact Calls.Name_function_global I.ok.kind hg (Calls.loadGlobal_builtin (by rw[I.ok.glob];exact I.mod.glob.keeps I.bk) hm (by rw[I.ok.blt];exact h1.keeps I.bk) ((h2 x hn).trans hv) h) hd
theorem fG {x:Str}{v:V}{u:Value}{pos:Pos}(hg:Gl X x)(hm:X.mg x=some u)(r:RelV v u)(hd:(x==("__debug__" : Str))=false:=by decide):PE X (.Name x pos) (tC v):=
 λ _ _ _ H _ I h=>K1 I hg hm ⟨v,H,I,r,h⟩ hd
theorem UB {x:Str}{v:V}{u:Value}{pos:Pos}(hg:Gl X x)(hm:X.mg x=none)(hv:bootBuiltins x=some u)(r:RelV v u)(hn:x ≠ "__name__" := by decide)(hd:(x==("__debug__" : Str))=false:=by decide):PE X (.Name x pos) (tC v):=
 λ _ _ _ H _ I h=>Fi I hg hm hv ⟨v,H,I,r,h⟩ hn hd
variable {a b:Expr}{ta tb:TE}{pos:Pos}
def PC (X:Cx)(op:CmpOp)(a b:Expr)(t:TE):Prop:=
 ∀(pins:List (Addr×Obj)) (s:Shared) (σ:St) (H:Hp) (Q:VK),Inv X pins σ H s->t σ H Q->
  wpAny (model X.prog X.w) X.A (eval a X.env) (λ v s₁=>wpAny (model X.prog X.w) X.A (eval b X.env) (λ u s₂=>wpAny (model X.prog X.w) X.A (compareOp op v u) (EP X pins σ Q) X.xe s₂) X.xe s₁) X.xe s
theorem Rh (b:Expr){op:CmpOp}(h:op≠.In)(h2:op≠.NotIn):behindInMarks op b=false:=by
 have e1:(op==CmpOp.In)=false:=by cases op<;>first|rfl|exact absurd rfl h
 have e2:(op==CmpOp.NotIn)=false:=by cases op<;>first|rfl|exact absurd rfl h2
 cases b<;>simp[behindInMarks,e1,e2]
noncomputable def vY (ta:TE):TE:=λ σ H Q=>ta σ H λ x H1=>Q (.bl (decide (x=.AK))) H1
noncomputable def rX (ta:TE):TE:=λ σ H Q=>ta σ H λ x H1=>Q (.bl (!decide (x=.AK))) H1
theorem RelV.Ri {x:V}{v:Value}(r:RelV x v):(v==zco)=decide (x=.AK):=by
 cases x with
 |AK|bl _=>cases r;rfl
 |int _|str _|mM _|rS _=>obtain⟨t,rfl⟩:=r;rfl
 |ref _|ty _=>cases r;rfl
theorem XD {j pos'}(ha:PE X a ta):PC X .Is a (.Constant .none j pos') (vY ta):=by
 intro pins s σ H Q I h;refine BA (ha pins s σ H _ I h) λ v s1 ⟨x,H1,I1,r1,q1⟩=>?_;exact Constant_none (is_none_gen ⟨.bl _,H1,I1,by rw[r1.Ri];rfl,q1⟩)
theorem fH {j pos'}(ha:PE X a ta):PC X .IsNot a (.Constant .none j pos') (rX ta):=by
 intro pins s σ H Q I h;refine BA (ha pins s σ H _ I h) λ v s1 ⟨x,H1,I1,r1,q1⟩=>?_;exact Constant_none (isnot_none_gen ⟨.bl _,H1,I1,by rw[r1.Ri];rfl,q1⟩)
noncomputable def tB (t:TE):TT:=λ σ H Q=>t σ H λ x H1=>∃c,x=.bl c/\Q c H1
theorem mV {op:CmpOp}{t:TE}(h:PC X op a b t)(h1:behindInMarks op b=false:=by first | exact Rh _ (by decide) (by decide) | rfl):PE X (.Compare a [op] [b] pos) t:=λ pins s σ H Q I hw=>wpAny_Compare1 (h pins s σ H Q I hw) h1
theorem XE {op:CmpOp}{t:TE}(h:PC X op a b t)(h1:behindInMarks op b=false:=by first | exact Rh _ (by decide) (by decide) | rfl):PT X (.Compare a [op] [b] pos) (tB t):=by
 intro pins s σ H Q I hw;refine wpAny_isTrue_Compare1 (BA (h pins s σ H _ I hw) λ v s1 h1=>BA h1 λ u s2 h2=>BA h2 λ c s3 ⟨x,H1,I1,r1,q1⟩=>?_) h1;obtain⟨d,rfl,q⟩:=q1;cases r1;exact wpAny_truthy_bool ⟨H1,I1,q⟩
variable {tA na:TT}{rest:List Expr}
noncomputable def vZ (t u:TT):TT:=λ σ H Q=>t σ H λ c H1=>if c=true then u σ H1 Q else Q false H1
noncomputable def yM (t u:TT):TT:=λ σ H Q=>t σ H λ c H1=>if c=true then Q true H1 else u σ H1 Q
noncomputable def wA (t:TT):TT:=λ σ H Q=>t σ H λ c H1=>Q (!c) H1
theorem pw_and1 (ha:PT X a tA):PW X (.BoolOp .And [a] pos) tA:=by
 intro wh pins s σ H Q I h;refine isTrue_and (BA (ha pins s σ H Q I h) λ c s1 e=>?_);cases c with
 |true=>exact isTrue_and_nil e
 |false=>exact e
theorem pw_or1 (ha:PT X a tA):PW X (.BoolOp .Or [a] pos) tA:=by
 intro wh pins s σ H Q I h;refine isTrue_or (BA (ha pins s σ H Q I h) λ c s1 e=>?_);cases c with
 |false=>exact isTrue_or_nil e
 |true=>exact e
theorem pw_and (ha:PT X a tA)(hb:PW X (.BoolOp .And (b::rest) pos) na):PW X (.BoolOp .And (a::b::rest) pos) (vZ tA na):=by
 intro wh pins s σ H Q I h;refine isTrue_and (BA (ha pins s σ H _ I h) λ c s1 ⟨H1,I1,q1⟩=>?_);cases c with
 |true=>exact hb wh pins s1 σ H1 Q I1 q1
 |false=>exact⟨H1,I1,q1⟩
theorem pw_or (ha:PT X a tA)(hb:PW X (.BoolOp .Or (b::rest) pos) na):PW X (.BoolOp .Or (a::b::rest) pos) (yM tA na):=by
 intro wh pins s σ H Q I h;refine isTrue_or (BA (ha pins s σ H _ I h) λ c s1 ⟨H1,I1,q1⟩=>?_);cases c with
 |true=>exact⟨H1,I1,q1⟩
 |false=>exact hb wh pins s1 σ H1 Q I1 q1
theorem mW (ha:PT X a tA):PT X (.UnaryOp .Not a pos) (wA tA):=by
 intro pins s σ H Q I h;exact isTrue_not (ha pins s σ H (λ c H1=>Q (!c) H1) I h)
noncomputable def rY (ta tb:TE):TE:=λ σ H Q=>ta σ H λ x H1=>∃c,x=.bl c/\if c=true then tb σ H1 Q else Q (.bl false) H1
noncomputable def wB (ta tb:TE):TE:=λ σ H Q=>ta σ H λ x H1=>∃c,x=.bl c/\if c=true then Q (.bl true) H1 else tb σ H1 Q
noncomputable def rZ (ta:TE):TE:=λ σ H Q=>ta σ H λ x H1=>∃c,x=.bl c/\Q (.bl (!c)) H1
theorem mX {op}{t:TE}(h:PE X a t):PE X (.BoolOp op [a] pos) t:=λ pins s σ H Q I hw=>BoolOp_one (h pins s σ H Q I hw)
theorem mY (ha:PE X a ta)(hb:PE X (.BoolOp .And (b::rest) pos) tb):PE X (.BoolOp .And (a::b::rest) pos) (rY ta tb):=by
 intro pins s σ H Q I h;refine BoolOp_and (BA (ha pins s σ H _ I h) λ v s1 ⟨x,H1,I1,r1,q1⟩=>?_);obtain⟨c,rfl,q1⟩:=q1;cases r1;refine wpAny_truthy_bool ?_;cases c with
 |true=>exact hb pins s1 σ H1 Q I1 q1
 |false=>exact⟨.bl false,H1,I1,rfl,q1⟩
theorem sA (ha:PE X a ta)(hb:PE X (.BoolOp .Or (b::rest) pos) tb):PE X (.BoolOp .Or (a::b::rest) pos) (wB ta tb):=by
 intro pins s σ H Q I h;refine BoolOp_or (BA (ha pins s σ H _ I h) λ v s1 ⟨x,H1,I1,r1,q1⟩=>?_);obtain⟨c,rfl,q1⟩:=q1;cases r1;refine wpAny_truthy_bool ?_;cases c with
 |false=>exact hb pins s1 σ H1 Q I1 q1
 |true=>exact⟨.bl true,H1,I1,rfl,q1⟩
theorem mZ (ha:PE X a ta):PE X (.UnaryOp .Not a pos) (rZ ta):=by
 intro pins s σ H Q I h;refine UnaryOp_ (BA (ha pins s σ H _ I h) λ v s1 ⟨x,H1,I1,r1,q1⟩=>?_);obtain⟨c,rfl,q1⟩:=q1;cases r1;exact not_of (wpAny_truthy_bool ⟨.bl (!c),H1,I1,rfl,q1⟩)
end
def DL (K:za0)(H:Hp)(a:Addr)(xs:List V):Prop:=
 Rd H a (.lst xs) \/
  ∃(o:Obj) (aa:Array Value) (n:Nat),K.lookup a=some o/\o.cls=.type "list" /\ o.dict=none/\o.data=.seq aa n/\aa.size<=sizeLine/\Vals xs aa.toList
def Gr (K:za0)(H:Hp)(a:Addr)(xs:List V):Prop:=
 Rd H a (.tup xs) \/
  ∃(o:Obj) (aa:Array Value) (n:Nat),K.lookup a=some o/\o.cls=.type "tuple" /\ o.data=.seq aa n/\aa.size<=sizeLine/\Vals xs aa.toList
noncomputable def wC:Value->Option V
 | .none=>some .AK
 | .bool b=>some (.bl b)
 | .int i _=>some (.int i)
 | .str x _=>some (.str x)
 | .bytes b _=>some (.mM b)
 | .float b _=>some (.rS b)
 | .ref a=>some (.ref a)
 | .type n=>some (.ty n)
 |_=>none
theorem RelV.abs {x:V}{u:Value}(r:RelV x u):wC u=some x:=by
 cases x with
 |AK|bl _=>cases r;rfl
 |int _|str _|mM _|rS _=>obtain⟨t,rfl⟩:=r;rfl
 |ref _|ty _=>cases r;rfl
theorem RelV.inj {x y:V}{u:Value}(r:RelV x u)(q:RelV y u):x=y:=zax (r.abs.symm.trans q.abs)
theorem Vals.inj:∀ {xs ys:List V}{us:List Value},Vals xs us->Vals ys us->xs=ys
 |_,_,_,.nil,.nil=>rfl
 |_,_,_,.cons r t,.cons r' t'=>by rw[r.inj r',Vals.inj t t']
section
variable {X:Cx}{pins:List (Addr×Obj)}{σ:St}{H:Hp}{s:Shared}{a:Addr}{xs ys:List V}
theorem DL.of {K:za0}(h:H a=some (.lst xs)):DL K H a xs:=.inl (.inl h)
theorem Gr.of {K:za0}(h:H a=some (.tup xs)):Gr K H a xs:=.inl (.inl h)
theorem Inv.list (I:Inv X pins σ H s)(h:DL X.K H a xs):∃aa:List Value,Vals xs aa/\PlainL s.heap a aa.toArray/\xs.length<=sizeLine:=by
 rcases h with h|⟨o,aa,n,hk,hc,hd,hs,hz,r⟩
 ·obtain⟨z,aa,n,r,e⟩:=h.ok I.AE;exact⟨aa,r,⟨_,n,e,rfl,rfl,rfl⟩,z⟩
 ·refine⟨aa.toList,r,⟨o,n,I.Mx a o hk,hc,hd,by simpa using hs⟩,?_⟩;have e:=r.length;simp only[zc6] at e;omega
theorem Inv.tuple (I:Inv X pins σ H s)(h:Gr X.K H a xs):∃aa:List Value,Vals xs aa/\IsTup s.heap a aa.toArray/\xs.length<=sizeLine:=by
 rcases h with h|⟨o,aa,n,hk,hc,hs,hz,r⟩
 ·obtain⟨z,aa,r,p⟩:=h.ok I.AE;exact⟨aa,r,p,z⟩
 ·refine⟨aa.toList,r,⟨o,I.Mx a o hk,hc,n,by simpa using hs⟩,?_⟩;have e:=r.length;simp only[zc6] at e;omega
theorem Inv.K2 (I:Inv X pins σ H s)(h:DL X.K H a xs)(h':DL X.K H a ys):xs=ys:=by
 obtain⟨aa,r,⟨o,n,e,_,_,d⟩,_⟩:=I.list h;obtain⟨its',r',⟨o',n',e',_,_,d'⟩,_⟩:=I.list h';rw[e] at e';cases e';rw[d] at d';injection d' with d1 _
 have:aa=its':=by simpa using congrArg Array.toList d1
 subst this;exact r.inj r'
theorem Inv.Io (I:Inv X pins σ H s)(h:Gr X.K H a xs)(h':Gr X.K H a ys):xs=ys:=by
 obtain⟨aa,r,⟨o,e,_,n,d⟩,_⟩:=I.tuple h;obtain⟨its',r',⟨o',e',_,n',d'⟩,_⟩:=I.tuple h';rw[e] at e';cases e';rw[d] at d';injection d' with d1 _
 have:aa=its':=by simpa using congrArg Array.toList d1
 subst this;exact r.inj r'
end
noncomputable abbrev Cx.Oo (X:Cx)(E:Value->Shared->Prop):Cx:={X with xe:=E}
noncomputable abbrev Cx.sC (X:Cx):Cx:=X.Oo λ _ _=>False
theorem Cx.Ok.Oo {X:Cx}(ok:X.Ok)(E:Value->Shared->Prop):(X.Oo E).Ok:=
 ⟨ok.mod,ok.kind,ok.glob,ok.blt,ok.above,ok.inj,ok.has,ok.mP,ok.hd,ok.frames,ok.ZW,ok.rC,ok.bs,ok.XC,ok.T9,ok.Ta,ok.J6,ok.fE⟩
theorem Cx.Ok.Hq {X:Cx}{E:Value->Shared->Prop}(ok:(X.Oo E).Ok):X.Ok:=
 ⟨ok.mod,ok.kind,ok.glob,ok.blt,ok.above,ok.inj,ok.has,ok.mP,ok.hd,ok.frames,ok.ZW,ok.rC,ok.bs,ok.XC,ok.T9,ok.Ta,ok.J6,ok.fE⟩
section
variable {X:Cx}{pins:List (Addr×Obj)}{σ:St}{H:Hp}{s:Shared}{E:Value->Shared->Prop}
theorem Inv.Oo (I:Inv X pins σ H s)(E:Value->Shared->Prop):Inv (X.Oo E) pins σ H s:=⟨I.ok.Oo E,I.os,I.bare,I.base,I.loc,I.cell,I.free,I.DD,I.pin,I.AE,I.len⟩
theorem Inv.Hq (I:Inv (X.Oo E) pins σ H s):Inv X pins σ H s:=⟨I.ok.Hq,I.os,I.bare,I.base,I.loc,I.cell,I.free,I.DD,I.pin,I.AE,I.len⟩
theorem SP.Hq {D:Ends}{f:Flow}{s':Shared}(h:SP (X.Oo E) pins D f s'):SP X pins D f s':=by
 cases f with
 |next|brk|cont=>obtain⟨σ',H',I,q⟩:=h;exact⟨σ',H',I.Hq,q⟩
 |ret u=>obtain⟨v,σ',H',I,r,q⟩:=h;exact⟨v,σ',H',I.Hq,r,q⟩
theorem UA.sC {st:List Stmt}{t:TS}(h:UA X.sC st t):UA X st t:=λ pins s σ H D I hw =>
 wpAny_mono (h pins s σ H D (I.Oo _) hw) (λ _ _ q=>q.Hq) λ _ _ z=>zcz z
end
section
variable {X:Cx}{st:Stmt}{rest:List Stmt}{t u:TS}{e:Expr}{te:TE}{pos:Pos}
noncomputable def sD:TS:=λ D σ H=>D.nx σ H
noncomputable def wD (t u:TS):TS:=λ D σ H=>t {D with nx:=u D} σ H
theorem fI:UA X [] sD:=λ _ _ σ H _ I h=>wpAny_execs_nil ⟨σ,H,I,h⟩
theorem XF (h1:PS X st t)(h2:UA X rest u):UA X (st::rest) (wD t u):=by
 intro pins s σ H D I h;refine wpAny_execs_cons (BA (h1 pins s σ H {D with nx:=u D} I h) λ f s1 q=>?_);cases f with
 |next =>
  obtain⟨σ',H',I',q⟩:=q;exact h2 pins s1 σ' H' D I' q
 |ret v|brk|cont=>exact q
theorem fJ (h1:PS X st t):UA X [st] t:=by
 intro pins s σ H D I h;refine wpAny_execs_cons (BA (h1 pins s σ H D I h) λ f s1 q=>?_);cases f with
 |next=>exact wpAny_execs_nil q
 |ret v|brk|cont=>exact q
theorem Inv.quiet {pins:List (Addr×Obj)}{σ:St}{H:Hp}{s:Shared}(I:Inv X pins σ H s):interactive X.env=false:=by simp[interactive,I.ok.kind]
noncomputable def sE (te:TE):TS:=λ D σ H=>te σ H λ _ H1=>D.nx σ H1
theorem Gs (he:PE X e te)(hs:swapsWith e none pos.line X.env=pure false:=by rfl):PS X (.Expr e pos) (sE te):=by
 intro pins s σ H D I h;exact wpAny_Expr_any (BA (he pins s σ H _ I h) λ v s1 ⟨x,H1,I1,r1,q1⟩=>⟨σ,H1,I1,q1⟩) I.quiet hs
noncomputable def wF (te:TE):TS:=λ D σ H=>te σ H D.rt
theorem Tc (he:PE X e te):PS X (.Return (some e) pos) (wF te):=by
 intro pins s σ H D I h;exact wpAny_Return_some (BA (he pins s σ H _ I h) λ v s1 ⟨x,H1,I1,r1,q1⟩=>⟨x,σ,H1,I1,r1,q1⟩)
noncomputable def wG (c:TT)(t u:TS):TS:=λ D σ H=>c σ H λ b H1=>if b=true then t D σ H1 else u D σ H1
theorem sF {c:Expr}{a b:List Stmt}{tc:TT}(hc:PT X c tc)(ha:UA X a t)(hb:UA X b u):PS X (.If c a b pos) (wG tc t u):=by
 intro pins s σ H D I h;refine wpAny_If (BA (hc pins s σ H _ I h) λ d s1 ⟨H1,I1,q1⟩=>?_);cases d with
 |true=>exact ha pins s1 σ H1 D I1 q1
 |false=>exact hb pins s1 σ H1 D I1 q1
end
noncomputable abbrev TG:=V->St->Hp->(St->Hp->Prop)->Prop
noncomputable abbrev Xp:=List V->St->Hp->(St->Hp->Prop)->Prop
def PG (X:Cx)(target:Expr)(t:TG):Prop:=
 ∀(pins:List (Addr×Obj)) (s:Shared) (σ:St) (H:Hp) (v:V) (u:Value) (Q:St->Hp->Prop),Inv X pins σ H s->RelV v u->t v σ H Q->
  wpAny (model X.prog X.w) X.A (assign target X.env u) (λ _ s'=>∃σ' H',Inv X pins σ' H' s'/\Q σ' H') X.xe s
def rD (X:Cx)(ts:List Expr)(t:Xp):Prop:=
 ∀(pins:List (Addr×Obj)) (s:Shared) (σ:St) (H:Hp) (vs:List V) (us:List Value) (Q:St->Hp->Prop),Inv X pins σ H s->Vals vs us->t vs σ H Q->
  wpAny (model X.prog X.w) X.A (assignInOrder ((assignEach ts X.env).map (·.2)) us) (λ _ s'=>∃σ' H',Inv X pins σ' H' s'/\Q σ' H') X.xe s
noncomputable abbrev nA:=V->V->V->Hp->(Hp->Prop)->Prop
def sG (X:Cx)(t:nA):Prop:=
 ∀(pins:List (Addr×Obj)) (s:Shared) (σ:St) (H:Hp) (o i v:V) (ov iv u:Value) (Q:Hp->Prop),Inv X pins σ H s->RelV o ov->RelV i iv->RelV v u->t o i v H Q->
  wpAny (model X.prog X.w) X.A (setItem ov iv u) (λ _ s'=>∃H',Inv X pins σ H' s'/\Q H') X.xe s
section
variable {X:Cx}{pos:Pos}
noncomputable def OU (i:Nat):TG:=λ v σ H Q=>Q (σ.set i (some v)) H
theorem Qf {i:Nat}{x:Str}(hN:X.N.Nodup)(hi:X.N[i]?=some x)(hx:Loc X.env.scope x)(hf:X.fn x=true\/X.env.scope.names.lookup x=some .local:=by first | exact .inl rfl | exact .inr rfl | assumption):PG X (.Name x pos) (OU i):=by
 intro pins s σ H v u Q I r h;exact wpAny_assign_Name (MN I hN hi hx r (λ s' I'=>⟨_,H,I',h⟩) hf)
noncomputable def nB:Xp:=λ vs σ H Q=>vs=[]/\Q σ H
noncomputable def XG (t:TG)(u:Xp):Xp:=λ vs σ H Q=>∃v r,vs=v::r/\t v σ H λ σ' H'=>u r σ' H' Q
theorem UC:rD X [] nB:=by
 intro pins s σ H vs us Q I r h;obtain⟨e,h⟩:=h;subst e;cases r;exact assignInOrder_nil ⟨σ,H,I,h⟩
theorem Rj {e:Expr}{es:List Expr}{t:TG}{u:Xp}(h1:PG X e t)(h2:rD X es u)
 (hs:(assignEach (e::es) X.env).map (·.2)=assign e X.env::(assignEach es X.env).map (·.2):=by rfl):rD X (e::es) (XG t u):=by
 intro pins s σ H vs us Q I r h;obtain⟨v,vr,e1,h⟩:=h;subst e1;cases r with
 |cons r rr =>
  rw[hs];refine assignInOrder_cons (BA (h1 pins s σ H _ _ _ I r h) λ _ s1 ⟨σ1,H1,I1,q1⟩=>?_);exact h2 pins s1 σ1 H1 _ _ Q I1 rr q1
noncomputable def nE (K:za0)(n:Nat)(t:Xp):TG:=λ v σ H Q=>∃a xs,v=.ref a/\Gr K H a xs/\xs.length=n/\t xs σ H Q
theorem XH {es:List Expr}{k:Nat}{t:Xp}{n:Nat}(hc:X.calm=true)(h:rD X es t)
 (hn:(assignEach es X.env).length=n:=by rfl) (cu:(assignEach es X.env).findIdx? (·.1)=none:=by rfl):PG X (.Tuple es k pos) (nE X.K n t):=by
 intro pins s σ H v u Q I r hw;obtain⟨a,xs,e1,hq,hl,hw⟩:=hw;subst e1;cases r;obtain⟨aa,rv,ht,hz⟩:=I.tuple hq;refine assign_Tuple_tuple (I.ok.hd hc) ht (by simp[hn,<-hl,rv.length]) cu λ h' hx=>?_;have I1:Inv X pins σ H {s with heap:=h' }:=I.kept (t':=s.toks) λ b o e=>hx b o (zaz (zak e)) e;exact h pins _ σ H xs _ Q I1 (by simpa using rv) hw
noncomputable def wH (to ti:TE)(t:nA):TG:=λ v σ H Q=>to σ H λ o H1=>ti σ H1 λ i H2=>t o i v H2 λ H3=>Q σ H3
theorem nF {o i:Expr}{to ti:TE}{t:nA}(ho:PE X o to)(hi:PE X i ti)(hs:sG X t)
 (ha:∀v,assign (.Subscript o i pos) X.env v=(do
  let ov <-holding [v] (eval o X.env);let iv <-holding [v,ov] (eval i X.env)
  standAt pos
  holding [v,ov,iv] (setItem ov iv v)
  release [v,ov,iv] []):=by intro _;rfl):PG X (.Subscript o i pos) (wH to ti t):=by
 intro pins s σ H v u Q I r h;rw[ha];refine wpAny_bind (wpAny_holding (BA (ho pins s σ H _ I h) λ ov s1 ⟨x,H1,I1,r1,q1⟩=>?_));refine wpAny_bind (wpAny_holding (BA (hi pins s1 σ H1 _ I1 q1) λ iv s2 ⟨y,H2,I2,r2,q2⟩=>?_));refine wpAny_bind (wpAny_standAt (wpAny_bind (wpAny_holding (BA (hs pins s2 σ H2 x y v ov iv u _ I2 r1 r2 r q2) λ _ s3 ⟨H3,I3,q3⟩=>?_))));exact wpAny_release ⟨σ,H3,I3,q3⟩
noncomputable def sH (te:TE)(g:TG):TS:=λ D σ H=>te σ H λ x H1=>g x σ H1 D.nx
theorem XI {tg e:Expr}{te:TE}{g:TG}(he:PE X e te)(hg:PG X tg g)(hs:swapsWithSole [tg] e pos.line X.env=pure false:=by rfl)(hw:swappedStores [tg] e X.env=pure none:=by rfl)
 (h1:(assignEach [tg] X.env).map (·.2)=[assign tg X.env]:=by rfl):PS X (.Assign [tg] e pos) (sH te g):=by
 intro pins s σ H D I h;refine wpAny_Assign_stores (BA (he pins s σ H _ I h) λ v s1 ⟨x,H1,I1,r1,q1⟩=>?_) hs hw;rw[h1];exact BA (hg pins s1 σ H1 x v _ I1 r1 q1) λ _ s2 q=>q
theorem Td {i:Nat}{x:Str}{e:Expr}{te:TE}{pos':Pos}(hN:X.N.Nodup)(hi:X.N[i]?=some x)(hx:Loc X.env.scope x)(he:PE X e te)(hs:swapsWith e (some (.Name x pos')) pos.line X.env=pure false:=by rfl)(hf:X.fn x=true\/X.env.scope.names.lookup x=some .local:=by first | exact .inl rfl | exact .inr rfl | assumption):
 PS X (.Assign [.Name x pos'] e pos) (sH te (OU i)):=by
 intro pins s σ H D I h;refine wpAny_Assign_Name (BA (he pins s σ H _ I h) λ v s1 ⟨y,H1,I1,r1,q1⟩=>?_) hs;exact MN I1 hN hi hx r1 (λ s2 I2=>⟨_,H1,I2,q1⟩) hf
end
section
variable {X:Cx}{pos:Pos}
noncomputable def nG (c:TT)(tb:TS):TS:=λ D σ H=>∃W:Nat->St->Hp->Prop,(∃m,W m σ H)/\∀m σ H,W m σ H->
 c σ H λ b H1=>if b=true then ∃N:St->Hp->Prop,(∀σ' H',N σ' H'->∃m',m'<m/\W m' σ' H')/\tb {D with nx:=N,ct:=N,bk:=D.nx} σ H1 else D.nx σ H1
theorem XJ {c:Expr}{body:List Stmt}{tc:TT}{tb:TS}(hp:PassesOwn (model X.prog X.w) X.A X.env X.xe)(hc:PT X c tc)(hb:UA X body tb):PS X (.While c body [] pos) (nG tc tb):=by
 intro pins s σ H D I h;obtain⟨W,⟨m0,w0⟩,turn⟩:=h;refine wpAny_While (codeAny_whileLoop (λ n s'=>∃σ' H',Inv X pins σ' H' s'/\W n σ' H') ?_ m0 ⟨σ,H,I,w0⟩);rintro n s1 ⟨σ1,H1,I1,w1⟩;refine wpAny_passesOwn hp (BA (hc pins s1 σ1 H1 _ I1 (turn n σ1 H1 w1)) λ b s2 ⟨H2,I2,q2⟩=>?_);cases b with
 |true =>
  obtain⟨N,hN,q2⟩:=q2;rw[if_pos rfl];refine wpAny_passesOwn hp (BA (hb pins s2 σ1 H2 _ I2 q2) λ f s3 q3=>?_);cases f with
  |next =>
   obtain⟨σ3,H3,I3,n3⟩:=q3;obtain⟨m',hm,w3⟩:=hN σ3 H3 n3;exact⟨m',hm,σ3,H3,I3,w3⟩
  |cont =>
   obtain⟨σ3,H3,I3,n3⟩:=q3;obtain⟨m',hm,w3⟩:=hN σ3 H3 n3;exact⟨m',hm,σ3,H3,I3,w3⟩
  |brk|ret v=>exact q3
 |false =>
  rw[if_neg zao];exact wpAny_execs_nil ⟨σ1,H2,I2,q2⟩
end
structure It where
 go:Nat->Hp->Prop
 lD:Nat->Hp->V->Hp->Prop
 stop:Nat->Hp->Prop
def Mo (X:Cx)(pins:List (Addr×Obj))(H:Hp)(b:Addr):Prop:=
 H b=none/\b≠X.env.locals/\b∉X.fs/\(b∈X.ex\/X.s₀.heap.objs.size<=b)/\(∀x c,X.env.cells.lookup x=some c->c≠b)/\∀p∈X.pn++pins,p.1≠b
theorem Inv.fK {X:Cx}{pins:List (Addr×Obj)}{σ:St}{H H':Hp}{s:Shared}{b:Addr}(I:Inv X pins σ H s)(hb:s.heap.objs.size<=b)(hn:H' b=none):Mo X pins H' b:=by
 refine⟨hn,Nat.ne_of_gt (zaq I.lt hb),I.vX hb,.inr (zbw I.sz hb),λ x c e z=>?_,λ p hp z=>?_⟩
 ·obtain⟨v,q⟩:=I.cell x c e;exact absurd (zaq q.lt (by rw[z];exact hb)) (Nat.lt_irrefl _)
 ·exact absurd (zaq (zak (I.pin p hp).1) (by rw[z];exact hb)) (Nat.lt_irrefl _)
structure Turn (P:Program)(w:World)(K:za0)(tg:Expr)(J:It)(fp:List Addr)(it:Addr)(tn:Nat->Heap->Prop):Prop where
 mem:it∈fp
 obj:∀i h,tn i h->∀b∈fp,∃o,h.get? b=some o/\∀v,o.data≠.cell v
 keep:∀i h h',tn i h->(∀b∈fp,∀o,h.get? b=some o->h'.get? b=some o)->tn i h'
 item:∀(X:Cx),X.prog=P->X.w=w->X.K=K->X.calm=true->∀(i:Nat) (pins:List (Addr×Obj)) (s:Shared) (σ:St) (H:Hp) (E:Value->Shared->Prop),Inv X pins σ H s->(∀b∈fp,Mo X pins H b)->tn i s.heap->J.go i H->
  wpAny (model P w) X.A (pyNext (.ref it)) (λ r s1=>∃u,r=some u/\
   wpAny (model P w) X.A (letOwnedTupleGo tg (.ref it) u) (λ _ s2=>∃x H',Inv X pins σ H' s2/\RelV x u/\J.lD i H x H'/\tn (i+1) s2.heap/\∀b∈fp,H' b=none) E s1) E s
 done:∀(X:Cx),X.prog=P->X.w=w->X.K=K->X.calm=true->∀(i:Nat) (pins:List (Addr×Obj)) (s:Shared) (σ:St) (H:Hp) (E:Value->Shared->Prop),Inv X pins σ H s->(∀b∈fp,Mo X pins H b)->tn i s.heap->J.stop i H->
  wpAny (model P w) X.A (pyNext (.ref it)) (λ r s1=>r=none/\Inv X pins σ H s1) E s
 self:∀(A:Around) (i:Nat) (s:Shared) (Q:Value->Shared->Prop) (E:Value->Shared->Prop),tn i s.heap->Q (.ref it) s->wpAny (model P w) A (pyIter (.ref it)) Q E s
noncomputable abbrev TI:=St->Hp->(It->Hp->Prop)->Prop
def xQ (X:Cx)(pins:List (Addr×Obj))(σ:St)(tg:Expr)(R:It->Hp->Prop)(nb:Value)(s2:Shared):Prop:=
 ∃(it:Addr) (fp:List Addr) (tn:Nat->Heap->Prop) (J:It) (H':Hp),nb=.ref it/\Inv X pins σ H' s2/\Turn X.prog X.w X.K tg J fp it tn/\tn 0 s2.heap/\(∀b∈fp,Mo X pins H' b)/\R J H'
def PI (X:Cx)(tg iter:Expr)(wi:TI):Prop:=
 ∀(pins:List (Addr×Obj)) (s:Shared) (σ:St) (H:Hp) (R:It->Hp->Prop),Inv X pins σ H s->wi σ H R->
  wpAny (model X.prog X.w) X.A (eval iter X.env) (λ v s1=>wpAny (model X.prog X.w) X.A (pyIter v) (xQ X pins σ tg R) X.xe s1) X.xe s
theorem lE {M:Model}{A:Around}{E:Value->Shared->Prop}{s:Shared}{tg:Expr}{it:Addr}{u:Value}{o:Obj}{n:String}{vs:Array Value}{Q:Unit->Shared->Prop}(ho:s.heap.get? it=some o)(hc:o.cls=.type n)(hd:o.data=.fields vs)
 (hn:["enumerate","zip","dict_itemiterator","dict_reverseitemiterator","odict_iterator","itertools.zip_longest","itertools.pairwise"].contains n=false) (hQ:Q () s):wpAny M A (letOwnedTupleGo tg (.ref it) u) Q E s:=by
 unfold letOwnedTupleGo;cases tg<;>first
  |exact wpAny_pure hQ
  |(cases u<;>first
   |exact wpAny_pure hQ
   |(
    refine wpAny_bind (wpAny_load ho ?_);rw[hc,hd];show wpAny M A (if (["enumerate","zip","dict_itemiterator","dict_reverseitemiterator","odict_iterator","itertools.zip_longest","itertools.pairwise"].contains n&&vs[0]?== some (rawInt _))=true then _ else _) Q E s;rw[if_neg (by intro h;rw[hn,Bool.false_and] at h;cases h)];exact wpAny_pure hQ))
noncomputable def xR (K:za0)(a:Addr):It:=
 ⟨λ i H=>∃xs x,DL K H a xs/\xs[i]?=some x,λ i H x H'=>H'=H/\∀xs,DL K H a xs->xs[i]?=some x,λ i H=>∃xs,DL K H a xs/\xs.length<=i⟩
noncomputable def vC (lo:Int)(n:Nat):It:=⟨λ i _=>i<n,λ i H x H'=>H'=H/\x=.int (lo+i),λ i _=>n<=i⟩
theorem VN {P:Program}{w:World}{K:za0}{tg:Expr}(a it:Addr):Turn P w K tg (xR K a) [it] it (λ i h=>h.IsListIter it a i) where
 mem:=by simp
 obj:=λ i h st b hb=>by
  have e:b=it:=by simpa using hb
  subst e;obtain⟨o,e,c,d⟩:=st;exact⟨o,e,λ v z=>by rw[d] at z;cases z⟩
 keep:=λ i h h' st k=>st.at λ o e=>k it (by simp) o e
 item:=by
  intro X hP hw hK hc i pins s σ H E I hf st hg;subst hP hw hK;obtain⟨xs,x,hq,hx⟩:=hg;obtain⟨aa,rv,p,hz⟩:=I.list hq;obtain⟨u,hu,ru⟩:=rv.get hx;obtain⟨f0,f1,f2,f3,f4,f5⟩:=hf it (by simp);refine wpAny_pyNext_list_item st p.isList (x:=u) (by simpa using hu) λ h' dX sb=>?_;have I1:Inv X pins σ H {s with heap:=h' }:=I.turned (t':=s.toks) (λ b o hb e=>(sb.2 b hb).trans e) f0 f1 f3 f4 f5;obtain⟨o,e,c,d⟩:=id dX;exact⟨u,rfl,lE (s:={s with heap:=h' }) e c d (by decide) ⟨x,H,I1,ru,⟨rfl,λ ys hy=>by rw[I.K2 hy hq];exact hx⟩,dX,λ b hb=>(hf b hb).1⟩⟩
 done:=by
  intro X hP hw hK hc i pins s σ H E I hf st hg;subst hP hw hK;obtain⟨xs,hq,hx⟩:=hg;obtain⟨aa,rv,p,hz⟩:=I.list hq;obtain⟨f0,f1,f2,f3,f4,f5⟩:=hf it (by simp);have hl:=rv.length;exact wpAny_pyNext_list_end (I.ok.hd hc) st p.isList (by simp;omega) λ h' eb=>⟨rfl,I.turned (t':=s.toks) (λ b o hb e=>eb b o hb e) f0 f1 f3 f4 f5⟩
 self:=λ _ _ _ _ _ st h=>wpAny_pyIter_listiter st h
theorem Te {P:Program}{w:World}{K:za0}{tg:Expr}(it:Addr)(lo:Int)(n:Nat):Turn P w K tg (vC lo n) [it] it (λ i h=>IsRangeIter h it (lo+(i:Nat)*1) ((n:Int)-(i:Nat)) 1) where
 mem:=by simp
 obj:=λ i h st b hb=>by
  have e:b=it:=by simpa using hb
  subst e;exact⟨_,st,λ v z=>by
   have z':Data.fields _=Data.cell v:=z;cases z'⟩
 keep:=λ i h h' st k=>k it (by simp) _ st
 item:=by
  intro X hP hw hK hc i pins s σ H E I hf st hg;subst hP hw hK;obtain⟨f0,f1,f2,f3,f4,f5⟩:=hf it (by simp);have W:=Walks.range (prog:=X.prog) (w:=X.w) (I.ok.hd hc) it lo 1 n;refine W.item i s _ _ hg st λ v h' tk hv dX kk=>?_;obtain⟨t,rfl⟩:=hv;have I1:Inv X pins σ H {s with heap:=h',toks:=tk}:=I.turned (λ b o hb e=>kk b o (by simpa using hb) e) f0 f1 f3 f4 f5;refine⟨_,rfl,lE (s:={s with heap:=h',toks:=tk}) (n := "range_iterator") dX rfl rfl (by decide) ⟨.int (lo+i),H,I1,⟨t,?_⟩,⟨rfl,rfl⟩,dX,λ b hb=>(hf b hb).1⟩⟩;rw[Int.mul_one]
 done:=by
  intro X hP hw hK hc i pins s σ H E I hf st hg;subst hP hw hK;obtain⟨f0,f1,f2,f3,f4,f5⟩:=hf it (by simp);exact wpAny_pyNext_range_end (I.ok.hd hc) st (by have:n<=i:=hg;omega) λ h' eb=>⟨rfl,I.turned (t':=s.toks) (λ b o hb e=>eb b o hb e) f0 f1 f3 f4 f5⟩
 self:=λ _ _ _ _ _ st h=>wpAny_pyIter_rangeiter st h
section
variable {X:Cx}{tg:Expr}
noncomputable def sI (K:za0)(tl:TE):TI:=λ σ H R=>tl σ H λ x H1=>∃a,x=.ref a/\(∃xs,DL K H1 a xs)/\R (xR K a) H1
theorem fL {l:Expr}{tl:TE}(hl:PE X l tl):PI X tg l (sI X.K tl):=by
 intro pins s σ H R I h;refine BA (hl pins s σ H _ I h) λ v s1 ⟨x,H1,I1,r1,q1⟩=>?_;obtain⟨a,e,⟨xs,hq⟩,q⟩:=q1;subst e;cases r1;obtain⟨aa,rv,p,hz⟩:=I1.list hq;refine wpAny_pyIter_list p.isList ?_;refine⟨s1.heap.objs.size,[s1.heap.objs.size],_,_,H1,rfl,I1.kept (t':=s1.toks) λ b o e=>zae _ e,VN a _,⟨_,zau _ rfl,rfl,rfl⟩,λ b hb=>?_,q⟩;have e:b=s1.heap.objs.size:=by simpa using hb
 subst e;exact I1.fK (zal _) (I1.AE.fresh (zal _))
theorem XM {pins:List (Addr×Obj)}{σ:St}{H:Hp}{s:Shared}{R:It->Hp->Prop}{E:Value->Shared->Prop}{lo hi:Int}{t u v:Tok}{tk:Nat}(I:Inv X pins σ H s)(h1 : -(2^62)<=lo)(h2:lo<2^62)(h3 : -(2^62)<=hi)(h4:hi<2^62)
 (q:R (vC lo (hi-lo).toNat) H):wpAny (model X.prog X.w) X.A (pyIter (.ref s.heap.objs.size)) (xQ X pins σ tg R) E {s with heap:=s.heap.push {cls:=.type "range",data:=.fields #[.int lo t,.int hi u,.int 1 v]},toks:=tk}:=by
 refine wpAny_pyIter_range (IsRange.new ..) (small_one h1 h2 h3 h4) ?_;have I1:Inv X pins σ H {s with heap:=s.heap.push {cls:=.type "range",data:=.fields #[.int lo t,.int hi u,.int 1 v]},toks:=tk}:=I.kept λ b o e=>zae _ e;refine⟨(s.heap.push {cls:=.type "range",data:=.fields #[.int lo t,.int hi u,.int 1 v]}).objs.size,[(s.heap.push {cls:=.type "range",data:=.fields #[.int lo t,.int hi u,.int 1 v]}).objs.size],_,_,H,rfl,
  I1.kept (t':=tk) λ b o e=>zae _ e,Te _ lo (hi-lo).toNat,?_,λ b hb=>?_,q⟩
 ·have e1:lo+((0:Nat):Int)*1=lo:=by simp
  have e2:(((hi-lo).toNat:Nat):Int)-((0:Nat):Int)=Builtin.Range.rangeSize lo hi 1:=by rw[rangeSize_one];split<;>omega
  show IsRangeIter _ _ (lo+((0:Nat):Int)*1) ((((hi-lo).toNat:Nat):Int)-((0:Nat):Int)) 1;rw[e1,e2];exact zau _ rfl
 ·have e:b=(s.heap.push {cls:=.type "range",data:=.fields #[.int lo t,.int hi u,.int 1 v]}).objs.size:=by simpa using hb
  subst e;exact I1.fK (zal _) (I1.AE.fresh (zal _))
noncomputable def sJ (ta:TA):TI:=λ σ H R=>ta σ H λ vs H1=>∃j:Int,vs=[.int j]/\-(2^62)<=j/\j<2^62/\R (vC 0 j.toNat) H1
theorem VO {a:Expr}{ta:TA}{p pos:Pos}(hg:Gl X "range")(hm:X.mg "range" = none)(ha:PA X [a] ta)(hs:starEach [a] X.env=[(false,eval a X.env)]:=by rfl):PI X tg (.Call (.Name "range" p) [a] [] pos) (sJ ta):=by
 intro pins s σ H R I h;refine Call_ (Fi I hg hm boot_range (zcb (BA (ha pos pins s σ H _ I h) λ us s1 ⟨vs,H1,I1,r1,q1⟩=>?_) hs rfl));obtain⟨j,e,q1,q2,q⟩:=q1;subst e;cases r1 with
 |cons r rr =>
  cases rr;obtain⟨t,rfl⟩:=r;exact call_range_1 (XM I1 (by omega) (by omega) q1 q2 (by simpa using q))
noncomputable def wI (wi:TI)(g:TG)(tb:TS):TS:=λ D σ H=>wi σ H λ J H1=>∃W:Nat->Nat->St->Hp->Prop,(∃m,W 0 m σ H1)/\∀i m σ H,W i m σ H->
 (J.stop i H/\D.nx σ H)\/(J.go i H/\∃N:St->Hp->Prop,(∀σ' H',N σ' H'->∃m',m'<m/\W (i+1) m' σ' H')/\∀x H',J.lD i H x H'->g x σ H' λ σ2 H2=>tb {D with nx:=N,ct:=N,bk:=D.nx} σ2 H2)
noncomputable def Jn (fp:List Addr)(h:Heap):List (Addr×Obj):=fp.filterMap λ b=>(h.get? b).map λ o=>(b,o)
theorem Gu {fp:List Addr}{h:Heap}{b:Addr}{o:Obj}(hb:b∈fp)(e:h.get? b=some o):(b,o)∈Jn fp h:=List.mem_filterMap.mpr ⟨b,hb,by rw[e];rfl⟩
theorem OV {fp:List Addr}{h:Heap}{p:Addr×Obj}(hp:p∈Jn fp h):p.1∈fp/\h.get? p.1=some p.2:=by
 obtain⟨b,hb,e⟩:=List.mem_filterMap.mp hp;cases q:h.get? b with
 |none=>rw[q] at e;cases e
 |some o =>
  rw[q] at e;have e':(b,o)=p:=zax e;subst e';exact⟨hb,q⟩
theorem Inv.pinned {pins:List (Addr×Obj)}{σ:St}{H:Hp}{s:Shared}{fp:List Addr}(I:Inv X pins σ H s)(hf:∀b∈fp,Mo X pins H b)(ho:∀b∈fp,∃o,s.heap.get? b=some o/\∀v,o.data≠.cell v):Inv X (pins++Jn fp s.heap) σ H s:=
 I.K0 λ p hp=>(zar.mp hp).elim (λ z=>I.pin p (zac _ z)) λ z=>by
  obtain⟨hb,e⟩:=OV z;obtain⟨f0,f1,f2,_⟩:=hf p.1 hb;obtain⟨o,e',d⟩:=ho p.1 hb;rw[e] at e';cases e';exact⟨e,f0,f1,f2,d⟩
theorem Inv.K3 {pins pl:List (Addr×Obj)}{σ:St}{H:Hp}{s:Shared}(I:Inv X (pins++pl) σ H s):Inv X pins σ H s:=I.K0 λ p hp=>I.pin p (zac _ (zas _ hp))
theorem nI {iter:Expr}{body:List Stmt}{wi:TI}{g:TG}{tb:TS}{pos:Pos}(hp:PassesOwn (model X.prog X.w) X.A X.env X.xe)(hc:X.calm=true)(hi:PI X tg iter wi)(hg:PG X tg g)(hb:UA X body tb)
 (hs:∀x,foldedSetIterable iter X.env x=pure x:=by intro _;rfl):PS X (.For tg iter body [] pos) (wI wi g tb):=by
 intro pins s σ H D I h;refine wpAny_For (BA (hi pins s σ H _ I h) λ v s1 h1=>BA h1 λ nb s2 h2=>?_) hs;obtain⟨it,fp,tn,J,H2,e,I2,T,fg,f2,W,⟨m0,w0⟩,turn⟩:=h2;subst e;have dq:∀ {H':Hp},(∀b∈fp,H' b=none)->∀b∈fp,Mo X pins H' b:=λ hn b hb=>⟨hn b hb,(f2 b hb).2⟩;refine codeAny_forLoop_any (λ n s'=>∃i σ' H',Inv X pins σ' H' s'/\tn i s'.heap/\(∀b∈fp,H' b=none)/\W i n σ' H') ?_ m0 ⟨0,σ,H2,I2,fg,λ b hb=>(f2 b hb).1,w0⟩;rintro n s3 ⟨i,σ3,H3,I3,j7,j8,w3⟩;rcases turn i n σ3 H3 w3 with ⟨stop,qn⟩|⟨go,N,hN,step⟩
 ·refine wpAny_passesOwn hp (BA (T.done X rfl rfl rfl hc i pins s3 σ3 H3 X.xe I3 (dq j8) j7 stop) λ r s4 ⟨hr,I4⟩=>?_);subst hr;exact wpAny_execs_nil ⟨σ3,H3,I4,qn⟩
 ·refine wpAny_passesOwn hp (BA (T.item X rfl rfl rfl hc i pins s3 σ3 H3 X.xe I3 (dq j8) j7 go) λ r s4 ⟨u,hr,h4⟩=>?_);subst hr;refine wpAny_passesOwn hp (BA h4 λ _ s5 ⟨x,H5,I5,r5,y5,ii,o9⟩=>?_);have pc:=I5.pinned (dq o9) (T.obj _ _ ii);refine wpAny_passesOwn hp (BA (hg _ s5 σ3 H5 x u _ pc r5 (step x H5 y5)) λ _ s6 ⟨σ6,H6,I6,q6⟩=>?_);refine wpAny_passesOwn hp (BA (hb _ s6 σ6 H6 _ I6 q6) λ f s7 q7=>?_);have again:∀ {σ7:St} {H7:Hp},Inv X (pins++Jn fp s5.heap) σ7 H7 s7->N σ7 H7->∃m,m<n/\∃i σ' H',Inv X pins σ' H' s7/\tn i s7.heap/\(∀b∈fp,H' b=none)/\W i m σ' H':=fun {σ7 H7} I7 n7=>by
   obtain⟨m',hm,w7⟩:=hN σ7 H7 n7;refine⟨m',hm,i+1,σ7,H7,I7.K3,T.keep _ _ _ ii λ b hb o e=>(I7.pin (b,o) (zac _ (zac _ (Gu hb e)))).1,λ b hb=>?_,w7⟩;obtain⟨o,e,d⟩:=T.obj _ _ ii b hb;exact (I7.pin (b,o) (zac _ (zac _ (Gu hb e)))).2.1
  cases f with
  |next|cont=>obtain⟨σ7,H7,I7,n7⟩:=q7;exact again I7 n7
  |brk=>obtain⟨σ7,H7,I7,q7⟩:=q7;exact⟨σ7,H7,I7.K3,q7⟩
  |ret v=>obtain⟨x7,σ7,H7,I7,r7,q7⟩:=q7;exact⟨x7,σ7,H7,I7.K3,r7,q7⟩
end
noncomputable abbrev R2:=V->V->Hp->VK->Prop
def Hm (X:Cx)(f:Value->Value->Sem Value)(r:R2):Prop:=
 ∀(pins:List (Addr×Obj)) (s:Shared) (σ:St) (H:Hp) (x y:V) (v u:Value) (Q:VK),Inv X pins σ H s->RelV x v->RelV y u->r x y H Q->
  wpAny (model X.prog X.w) X.A (f v u) (EP X pins σ Q) X.xe s
def wJ (X:Cx)(f:Value->Sem Value)(r:V->Hp->VK->Prop):Prop:=
 ∀(pins:List (Addr×Obj)) (s:Shared) (σ:St) (H:Hp) (x:V) (v:Value) (Q:VK),Inv X pins σ H s->RelV x v->r x H Q->
  wpAny (model X.prog X.w) X.A (f v) (EP X pins σ Q) X.xe s
def FI (X:Cx)(f:Value)(r:List V->Hp->VK->Prop):Prop:=
 ∀(pins:List (Addr×Obj)) (s:Shared) (σ:St) (H:Hp) (xs:List V) (us:List Value) (Q:VK),Inv X pins σ H s->Vals xs us->r xs H Q->
  wpAny (model X.prog X.w) X.A (call f us) (EP X pins σ Q) X.xe s
def wK (X:Cx)(r:V->Hp->(Bool->Hp->Prop)->Prop):Prop:=
 ∀(pins:List (Addr×Obj)) (s:Shared) (σ:St) (H:Hp) (x:V) (v:Value) (Q:Bool->Hp->Prop),Inv X pins σ H s->RelV x v->r x H Q->
  wpAny (model X.prog X.w) X.A (truthy v) (TP X pins σ Q) X.xe s
noncomputable def rE (r:R2)(ta tb:TE):TE:=λ σ H Q=>ta σ H λ x H1=>tb σ H1 λ y H2=>r x y H2 Q
noncomputable def yN (r:V->Hp->VK->Prop)(ta:TE):TE:=λ σ H Q=>ta σ H λ x H1=>r x H1 Q
noncomputable def rI (C:Int->Int->Prop)(g:Int->Int->V):R2:=λ x y H Q=>∃i j,x=.int i/\y=.int j/\C i j/\Q (g i j) H
noncomputable def ZX (g:Int->Int->V):R2:=λ x y H Q=>∃i j,x=.int i/\y=.int j/\Q (g i j) H
def rU (g:Int->V):V->Hp->VK->Prop:=λ x H Q=>∃i,x=.int i/\Q (g i) H
section
variable {X:Cx}{a b c:Expr}{ta tb tc:TE}{pos:Pos}
theorem nJ (ha:PE X a ta)(hb:PE X b tb){pins:List (Addr×Obj)}{s:Shared}{σ:St}{H:Hp}{R:V->V->Hp->Prop}(I:Inv X pins σ H s)
 (h:ta σ H λ x H1=>tb σ H1 λ y H2=>R x y H2) {Q:Value->Shared->Prop} {f:Value->Value->Sem Value}
 (hf:∀v u s2 x y H2,Inv X pins σ H2 s2->RelV x v->RelV y u->R x y H2->wpAny (model X.prog X.w) X.A (f v u) Q X.xe s2):
 wpAny (model X.prog X.w) X.A (eval a X.env) (λ v s₁=>wpAny (model X.prog X.w) X.A (eval b X.env) (λ u s₂=>wpAny (model X.prog X.w) X.A (f v u) Q X.xe s₂) X.xe s₁) X.xe s:=by
 refine BA (ha pins s σ H _ I h) λ v s1 ⟨x,H1,I1,r1,q1⟩=>?_;refine BA (hb pins s1 σ H1 _ I1 q1) λ u s2 ⟨y,H2,I2,r2,q2⟩=>?_;exact hf v u s2 x y H2 I2 r1 r2 q2
theorem UD {op:Operator}{r:R2}(ho:Hm X (binaryOp op) r)(ha:PE X a ta)(hb:PE X b tb):PE X (.BinOp a op b pos) (rE r ta tb):=by
 intro pins s σ H Q I h;exact wpAny_BinOp (nJ ha hb I h λ v u s2 x y H2 I2 rx ry q=>ho pins s2 σ H2 x y v u Q I2 rx ry q)
theorem sL {op:UnaryOp}{r:V->Hp->VK->Prop}(ho:wJ X (unaryOp op) r)(ha:PE X a ta):PE X (.UnaryOp op a pos) (yN r ta):=by
 intro pins s σ H Q I h;exact UnaryOp_ (BA (ha pins s σ H _ I h) λ v s1 ⟨x,H1,I1,r1,q1⟩=>ho pins s1 σ H1 x v Q I1 r1 q1)
theorem vD {f:Value->Value->Sem Value}{C:Int->Int->Prop}{g:Int->Int->Int}
 (rule:∀(i j:Int) (t u:Tok) (s:Shared) (Q:Value->Shared->Prop) (E:Value->Shared->Prop),C i j->Q (.int (g i j) s.toks) {s with toks:=s.toks+1}->wpAny (model X.prog X.w) X.A (f (.int i t) (.int j u)) Q E s):
 Hm X f (rI C λ i j=>.int (g i j)):=by
 intro pins s σ H x y v u Q I rx ry h;obtain⟨i,j,rfl,rfl,hc,q⟩:=h;obtain⟨t,rfl⟩:=rx;obtain⟨t',rfl⟩:=ry;exact rule i j t t' s _ _ hc ⟨.int (g i j),H,I.tok _,⟨_,rfl⟩,q⟩
theorem sM {f:Value->Value->Sem Value}{g:Int->Int->Int}
 (rule:∀(i j:Int) (t u:Tok) (s:Shared) (Q:Value->Shared->Prop) (E:Value->Shared->Prop),Q (.int (g i j) s.toks) {s with toks:=s.toks+1}->wpAny (model X.prog X.w) X.A (f (.int i t) (.int j u)) Q E s):
 Hm X f (ZX λ i j=>.int (g i j)):=by
 intro pins s σ H x y v u Q I rx ry h;obtain⟨i,j,rfl,rfl,q⟩:=h;obtain⟨t,rfl⟩:=rx;obtain⟨t',rfl⟩:=ry;exact rule i j t t' s _ _ ⟨.int (g i j),H,I.tok _,⟨_,rfl⟩,q⟩
theorem nK {f:Value->Value->Sem Value}{g:Int->Int->Bool}
 (rule:∀(i j:Int) (t u:Tok) (s:Shared) (Q:Value->Shared->Prop) (E:Value->Shared->Prop),Q (.bool (g i j)) s->wpAny (model X.prog X.w) X.A (f (.int i t) (.int j u)) Q E s):
 Hm X f (ZX λ i j=>.bl (g i j)):=by
 intro pins s σ H x y v u Q I rx ry h;obtain⟨i,j,rfl,rfl,q⟩:=h;obtain⟨t,rfl⟩:=rx;obtain⟨t',rfl⟩:=ry;exact rule i j t t' s _ _ ⟨.bl (g i j),H,I,rfl,q⟩
def Rk (i j:Int):Prop:=0<j/\j<1073741824
def fM (i j:Int):Prop:=0<=j/\j<=1000000/\i.natAbs<2^64
def XN (i j:Int):Prop:=(-(2^64)<i/\i<2^64)\/(-(2^64)<j/\j<2^64)
theorem XN.ok {i j:Int}(h:XN i j):IntMulOk i j:=by
 rcases h with ⟨h1,h2⟩|⟨h1,h2⟩
 ·exact .of_left (intBits_le_64 h1 h2)
 ·exact .of_right (intBits_le_64 h1 h2)
theorem nL:Hm X (binaryOp .Add) (ZX λ i j=>.int (i+j)):=sM λ _ _ _ _ _ _ _ q=>add_int q
theorem nM:Hm X (binaryOp .Sub) (ZX λ i j=>.int (i-j)):=sM λ _ _ _ _ _ _ _ q=>sub_int q
theorem fN:Hm X (binaryOp .FloorDiv) (rI Rk λ i j=>.int (i / j)):=vD λ i j _ _ _ _ _ hc q=>by
 have h1:(0:Int)<j:=hc.1;have h2:j<1073741824:=hc.2;exact floordiv_int (by omega) (by rw[Int.fdiv_eq_ediv_of_nonneg i (by omega)];exact q) (.inl (PyProof.noPylong_small (by omega)))
theorem nN:Hm X (binaryOp .Mod) (rI (λ _ j=>0<j) λ i j=>.int (i%j)):=vD λ i j _ _ _ _ _ hc q=>by
 have h1:(0:Int)<j:=hc;exact mod_int' (by omega) (by rw[Int.fmod_eq_emod_of_nonneg i (by omega)];exact q)
theorem nO:Hm X (binaryOp .Pow) (rI fM λ i j=>.int (i^j.toNat)):=vD λ _ _ _ _ _ _ _ hc q=>pow_int_small hc.1 hc.2.1 hc.2.2 q
theorem yO {f:Value->Sem Value}{g:Int->Int}
 (rule:∀(i:Int) (t:Tok) (s:Shared) (Q:Value->Shared->Prop) (E:Value->Shared->Prop),Q (.int (g i) s.toks) {s with toks:=s.toks+1}->wpAny (model X.prog X.w) X.A (f (.int i t)) Q E s):
 wJ X f (rU λ i=>.int (g i)):=by
 intro pins s σ H x v Q I rx h;obtain⟨i,rfl,q⟩:=h;obtain⟨t,rfl⟩:=rx;exact rule i t s _ _ ⟨.int (g i),H,I.tok _,⟨_,rfl⟩,q⟩
theorem nP:wJ X (unaryOp .USub) (rU λ i=>.int (-i)):=yO λ _ _ _ _ _ q=>neg_int q
end
section
variable {X:Cx}{a b c:Expr}{ta tb tc:TE}{pos:Pos}
theorem sN:Hm X (compareOp .Lt) (ZX λ i j=>.bl (decide (i<j))):=nK λ _ _ _ _ _ _ _ q=>lt_int q
theorem sO:Hm X (compareOp .LtE) (ZX λ i j=>.bl (decide (i<=j))):=nK λ _ _ _ _ _ _ _ q=>le_int q
theorem sP:Hm X (compareOp .Gt) (ZX λ i j=>.bl (decide (j<i))):=nK λ _ _ _ _ _ _ _ q=>gt_int q
theorem Hm.or {f:Value->Value->Sem Value}{r r':R2}(h:Hm X f r)(h':Hm X f r'):Hm X f (λ x y H Q=>r x y H Q\/r' x y H Q):=by
 intro pins s σ H x y v u Q I rx ry q;rcases q with q|q
 ·exact h pins s σ H x y v u Q I rx ry q
 ·exact h' pins s σ H x y v u Q I rx ry q
theorem L9 (b:Expr){op:CmpOp}(h:op≠.In:=by decide)(h2:op≠.NotIn:=by decide):behindInMarks op b=false:=by
 have e1:(op==CmpOp.In)=false:=by cases op<;>first|rfl|exact absurd rfl h
 have e2:(op==CmpOp.NotIn)=false:=by cases op<;>first|rfl|exact absurd rfl h2
 cases b<;>simp[behindInMarks,e1,e2]
theorem fO {op:CmpOp}{r:R2}(ho:Hm X (compareOp op) r)(ha:PE X a ta)(hb:PE X b tb)(hm:behindInMarks op b=false):PE X (.Compare a [op] [b] pos) (rE r ta tb):=by
 intro pins s σ H Q I h;exact wpAny_Compare1 (nJ ha hb I h λ v u s2 x y H2 I2 rx ry q=>ho pins s2 σ H2 x y v u Q I2 rx ry q) hm
noncomputable def sQ (t:TE):TT:=λ σ H Q=>t σ H λ x H'=>∃k,x=.bl k/\Q k H'
theorem fP {op:CmpOp}{r:R2}(ho:Hm X (compareOp op) r)(ha:PE X a ta)(hb:PE X b tb)(hm:behindInMarks op b=false):PT X (.Compare a [op] [b] pos) (sQ (rE r ta tb)):=by
 intro pins s σ H Q I h;refine wpAny_isTrue_Compare1 (BA (ha pins s σ H _ I h) λ v s1 ⟨x,H1,I1,r1,q1⟩=>BA (hb pins s1 σ H1 _ I1 q1) λ u s2 ⟨y,H2,I2,r2,q2⟩ =>
  BA (ho pins s2 σ H2 x y v u _ I2 r1 r2 q2) λ c s3 ⟨z,H3,I3,r3,k,e,q3⟩=>?_) hm
 subst e;cases r3;exact wpAny_truthy_bool ⟨H3,I3,q3⟩
noncomputable def nQ (r r':R2)(ta tb tc:TE):TE:=λ σ H Q=>ta σ H λ x H1=>tb σ H1 λ y H2=>r x y H2 λ z H3=>∃k,z=.bl k/\
 (if k=true then tc σ H3 λ w' H4=>r' y w' H4 Q else Q (.bl false) H3)
theorem XO {op ij:CmpOp}{r r':R2}(ho:Hm X (compareOp op) r)(dl:Hm X (compareOp ij) r')(ha:PE X a ta)(hb:PE X b tb)(hc:PE X c tc)
 (hm:lastMarks [op,ij] [b,c]=false:=by with_unfolding_all rfl):PE X (.Compare a [op,ij] [b,c] pos) (nQ r r' ta tb tc):=by
 intro pins s σ H Q I h;refine Compare_chain (BA (ha pins s σ H _ I h) λ v s1 ⟨x,H1,I1,r1,q1⟩=>chain_link (BA (hb pins s1 σ H1 _ I1 q1) λ u s2 ⟨y,H2,I2,r2,q2⟩ =>
  BA (ho pins s2 σ H2 x y v u _ I2 r1 r2 q2) λ d s3 ⟨z,H3,I3,r3,k,e,q3⟩=>?_)) hm
 subst e;cases r3;refine wpAny_truthy_bool ?_;cases k with
 |false=>exact ite_ff ⟨.bl false,H3,I3,rfl,q3⟩
 |true=>exact ite_tt (chain_last (BA (hc pins s3 σ H3 _ I3 q3) λ w' s4 ⟨z',H4,I4,r4,q4⟩=>dl pins s4 σ H4 y z' u w' Q I4 r2 r4 q4))
def sR (K:za0)(x:V)(H:Hp)(k:Bool):Prop:=
 match x with
 | .AK=>k=false
 | .bl b=>k=b
 | .int i=>k=(i != 0)
 | .str y=>y.length<=sizeLine/\k=((y.length:Int) != 0)
 | .mM y=>y.size<=sizeLine/\k=((y.size:Int) != 0)
 | .ref p=>(∃xs,DL K H p xs/\k = !xs.isEmpty)\/(∃xs,Gr K H p xs/\k = !xs.isEmpty)\/∃kvs,H p=some (.dK kvs)/\k = !kvs.isEmpty
 |_=>False
theorem Tf {κ:Type}{kvs:List (κ×V)}{vs:List (κ×Value)}(r:KV kvs vs):(!vs.isEmpty) = !kvs.isEmpty:=by
 cases r<;>rfl
theorem MO {xs:List V}{aa:List Value}(r:Vals xs aa):(!aa.toArray.isEmpty) = !xs.isEmpty:=by
 cases r<;>simp
theorem La:(sizeLine:Nat)<2^63:=by rw[sizeLine_eq];decide
theorem nR:wK X (λ x H Q=>∃k,sR X.K x H k/\Q k H):=by
 intro pins s σ H x v Q I rx h;obtain⟨k,e,q⟩:=h;have hl:=La;have hs:sizeLine=16777216:=sizeLine_eq;cases x with
 |AK =>
  cases rx;have e':k=false:=e;subst e';exact truthy_none ⟨H,I,q⟩
 |bl b =>
  cases rx;have e':k=b:=e;subst e';exact wpAny_truthy_bool ⟨H,I,q⟩
 |int i =>
  obtain⟨t,rfl⟩:=rx;have e':k=(i != 0):=e;subst e';exact PySem.P.truthy_int ⟨H,I,q⟩
 |str y =>
  obtain⟨t,rfl⟩:=rx;obtain⟨hy,e'⟩:y.length<=sizeLine/\k=((y.length:Int) != 0):=e;subst e';exact PySem.P.truthy_str (by omega) ⟨H,I.tok _,q⟩
 |mM y =>
  obtain⟨t,rfl⟩:=rx;obtain⟨hy,e'⟩:y.size<=sizeLine/\k=((y.size:Int) != 0):=e;subst e';exact PySem.W.truthy_bytes (by omega) ⟨H,I.tok _,q⟩
 |ref p =>
  cases rx;have e':(∃xs,DL X.K H p xs/\k = !xs.isEmpty)\/(∃xs,Gr X.K H p xs/\k = !xs.isEmpty)\/∃kvs,H p=some (.dK kvs)/\k = !kvs.isEmpty:=e;rcases e' with ⟨xs,hx,e'⟩|⟨xs,hx,e'⟩|⟨kvs,hx,e'⟩
  ·subst e';obtain⟨aa,r,pl,hz⟩:=I.list hx;have hlen:=r.length;exact wpAny_truthy_list pl.isList (by simp only[zaa];omega) ⟨H,I.tok _,by rw[MO r];exact q⟩
  ·subst e';obtain⟨aa,r,pl,hz⟩:=I.tuple hx;have hlen:=r.length;exact truthy_tuple pl (by simp only[zaa];omega) ⟨H,I.tok _,by rw[MO r];exact q⟩
  ·subst e';obtain⟨hz,hS,vs,r,m⟩:kvs.length<=sizeLine/\(p==sysModules)=false/\∃vs,KV kvs vs/\s.heap.DictOf (BV X.prog X.w) p vs:=I.AE p _ hx;have hlen:kvs.length=vs.length:=Paired.length r;exact wpAny_truthy_dict hS m (by omega) ⟨H,I.tok _,by rw[Tf r];exact q⟩
 |_=>exact (show False from e).elim
theorem XQ (ha:PE X a ta)(he:∀whole,isTrue a X.env whole=(do let v <-whole;standAt a.pos;holding [v] (truthy v))):
 PT X a (λ σ H Q=>ta σ H λ x H'=>∃k,sR X.K x H' k/\Q k H'):=by
 intro pins s σ H Q I h;exact isTrue_plain (BA (ha pins s σ H _ I h) λ v s1 ⟨x,H1,I1,r1,q1⟩=>nR pins s1 σ H1 x v Q I1 r1 q1) (he _)
theorem vals1 {x:V}{us:List Value}(r:Vals [x] us):∃u,us=[u]/\RelV x u:=by
 cases r with
 |cons r1 r2=>cases r2;exact⟨_,rfl,r1⟩
theorem VP:FI X (.type "int") (λ xs H Q=>(∃i,xs=[.int i]/\Q (.int i) H)\/∃k,xs=[.bl k]/\Q (.int (if k then 1 else 0)) H):=by
 intro pins s σ H xs us Q I r h;rcases h with ⟨i,rfl,q⟩|⟨k,rfl,q⟩
 ·obtain⟨u,rfl,t,rfl⟩:=vals1 r;exact call_int_int ⟨.int i,H,I,⟨_,rfl⟩,q⟩
 ·obtain⟨u,rfl,r1⟩:=vals1 r;cases r1;exact call_int_bool ⟨.int (if k then 1 else 0),H,I.tok _,⟨_,rfl⟩,q⟩
end
structure Tg (h:Heap)(x dx C:Addr)(mA:Str->Option Value):Prop where
 obj:h.get? x=some (zcw C dx)
 ns:h.Ns1 dx mA
 ne:dx≠x
theorem VQ {h:Heap}{dx:Addr}{mA:Str->Option Value}(n:h.Ns1 dx mA):∃od,h.get? dx=some od/\∀name,PySem.W.lookIn name od=some (mA name):=by
 obtain⟨o,es,ep,ho,hd,hk,_,hm⟩:=n;refine⟨o,ho,λ name=>?_⟩;have e:=hm name;unfold nsFind findBy at e;rw[<-Array.find?_toList] at e;unfold PySem.W.lookIn;rw[hd];dsimp only;split
 ·rename_i y q;rw[q] at e;exact congrArg some e
 ·rename_i q;rw[q] at e;have a:es.toList.any (·.refKey)=false:=by
   rw[List.any_eq_false];intro y hy;obtain⟨z,t,pd⟩:=hk y (Array.mem_toList_iff.mp hy);simp[DictEntry.refKey,pd]
  have a':¬ es.toList.any (·.refKey)=true:=by rw[a];exact zao
  rw[if_neg a'];exact congrArg some e
theorem Tg.look {h:Heap}{x dx C:Addr}{mA:Str->Option Value}(I:Tg h x dx C mA):∃od,PySem.W.InstAt h x (zcw C dx) C (some od)/\∀name,PySem.W.lookIn name od=some (mA name):=
 let ⟨od,ho,hl⟩:=VQ I.ns
 ⟨od,⟨I.obj,rfl,rfl,ho⟩,hl⟩
section
variable {prog:Program}{w:World}{A:Around}{E:Value->Shared->Prop}{s:Shared}{K:za0}{x dx C f:Addr}{mA:Str->Option Value}{name:Str}{v:Value}
theorem get_map {expr:Bool}{Q:Value->Shared->Prop}(X:K.In s.heap)(I:Tg s.heap x dx C mA)(hg:zdf K C name=true)(hh:zbf K C=true)
 (ha:za6 K (.ref C) name=some none) (hv:mA name=some v) (pe:PySem.W.handedIn v=true) (h:Q v {s with toks:=s.toks+1}):
 wpAny (model prog w) A (getAttr (.ref x) name expr) Q E s:=by
 obtain⟨od,J,hl⟩:=I.look;exact PySem.W.get_value X J (PySem.W.plainGet_of hg).1 (PySem.W.findObj_own hh ha rfl (by rw[hl,hv])) pe h
theorem XR {pl:Sem Bool}{Q:Value×List Value->Shared->Prop}(X:K.In s.heap)(I:Tg s.heap x dx C mA)(hg:zdf K C name=true)
 (hf:za6 K (.ref C) name=some (some (.ref f))) (ht:zdg K (.ref f)=true) (hv:mA name=none) (h:Q (.ref f,[.ref x]) s):
 wpAny (model prog w) A (getMethod (.ref x) name pl) Q E s:=by
 obtain⟨od,J,hl⟩:=I.look;exact PySem.W.method_fn X J (PySem.W.plainGet_of hg).1 (PySem.W.plainGet_of hg).2 hf (beq_iff_eq.mp ht) (by show (PySem.W.lookIn name od).map (·.isSome)=some false;rw[hl,hv];rfl) h
theorem fQ {ns:List Str}{Q:Unit->Shared->Prop}(X:K.In s.heap)(I:Tg s.heap x dx C mA)
 (hs:za6 K (.ref C) "__setattr__" = some (some (.builtin "object.__setattr__"))) (hp:PySem.W.plainOver K C=true) (ht:PySem.W.takerIn K C name=some none) (hh:zbf K C=true)
 (hw:PySem.Within mA ns) (hsz:ns.length<=sizeLine)
 (h:∀h',Tg h' x dx C (λ y=>if y=name then some v else mA y)->zd4 dx s.heap h'->Q () {s with heap:=h',toks:=s.toks+2}):
 wpAny (model prog w) A (setAttr (.ref x) name v) Q E s:=by
 obtain⟨od,J,hl⟩:=I.look;refine PySem.W.set_plain X J hs (PySem.W.osa_open (s:={s with toks:=s.toks+1}) (r:=none) X J hp ht λ b=>?_);obtain⟨cd,hc,d8⟩:=PySem.W.any_some hh;have hx:s.heap.get? x=some ⟨.ref C,some dx,.plain,#[]⟩:=I.obj;refine wpAny_bind (wpAny_pure (wpAny_bind (wpAny_bind (wpAny_loadPart hx (wpAny_bind (PySem.W.Looks.here (s:={s with toks:=s.toks+1}) (PySem.W.looks_clsIn X hc) ?_))))));rw[d8];refine wpAny_pure (a:=some dx) (wpAny_bind (wpAny_pure (wpAny_bind ?_)));refine wpAny_nsSet1 (s:={s with toks:=s.toks+1}) I.ns λ h' cf cw=>?_;obtain⟨oD,esD,epD,xt,xv,xx⟩:=cf.count (PySem.Within.cons name v hw);refine wpAny_bind (wpAny_lookBehind xt (by rw[xv];exact pastItsLine_dict (zbw xx (by rw[zad];omega))) ?_);exact wpAny_pure (h _ ⟨(cw.2 _ (zbp I.ne)).trans I.obj,cf,I.ne⟩ cw)
theorem XS {R:Result->Shared->Prop}{vs:List Value}{kw:List (Str×Value)}(X:K.In s.heap)(hm:PySem.W.makesIn K C=true)
 (hi:za6 K (.ref C) "__init__" = some (some (.ref f))) (hf:PySem.W.typeIn K (.ref f)=some (.type "function"))
 (h:codeAny (model prog w) (A.under (.builtin "type.__call__" ⟨.ref C::vs,kw⟩)) (.call (.ref f) ⟨.ref (s.heap.objs.size+1)::vs,kw⟩) (PySem.W.InitBack (s.heap.objs.size+1) R)
  {s with heap:=(s.heap.push zc3).push (zcw C s.heap.objs.size)}):
 codeAny (model prog w) A (.call (.ref C) ⟨vs,kw⟩) R s:=by
 obtain⟨hh,g,d,t,os⟩:=s;exact PySem.W.make_core (PySem.W.makes_of X hm) (PySem.W.looks_findIn X hi) (λ self=>PySem.W.bind_fn X self hf) (.inl rfl) h
end
noncomputable def EG (f:Str)(v:V):List (Str×V)->List (Str×V)
 |[]=>[(f,v)]
 |(g,x)::r=>if g=f then (g,v)::r else (g,x)::EG f v r
theorem M7 (f g:Str)(v:V):∀fs:List (Str×V),(EG f v fs).lookup g=if g=f then some v else fs.lookup g
 |[]=>by
  show List.lookup g [(f,v)]=_;by_cases h:g=f
  ·have hb:(g==f)=true:=beq_iff_eq.mpr h;simp only[List.lookup,hb,if_pos h]
  ·have hb:(g==f)=false:=beq_eq_false_iff_ne.mpr h;simp only[List.lookup,hb,if_neg h]
 |(k,x)::r=>by
  have ih:=M7 f g v r;rw[show EG f v ((k,x)::r)=(if k=f then (k,v)::r else (k,x)::EG f v r) from rfl];by_cases hk:k=f
  ·rw[if_pos hk];by_cases h:g=k
   ·have hb:(g==k)=true:=beq_iff_eq.mpr h;simp only[List.lookup,hb,if_pos (h.trans hk)]
   ·have hb:(g==k)=false:=beq_eq_false_iff_ne.mpr h;simp only[List.lookup,hb,if_neg (λ e:g=f=>h (e.trans hk.symm))]
  ·rw[if_neg hk];by_cases h:g=k
   ·have hb:(g==k)=true:=beq_iff_eq.mpr h;simp only[List.lookup,hb,if_neg (λ e:g=f=>hk (h.symm.trans e))]
   ·have hb:(g==k)=false:=beq_eq_false_iff_ne.mpr h;simp only[List.lookup,hb];exact ih
theorem Lb (f:Str)(v:V):∀fs:List (Str×V),f∈(EG f v fs).map (·.1)/\∀g,g∈fs.map (·.1)->g∈(EG f v fs).map (·.1)
 |[]=>⟨by simp[EG],λ g h=>by simp at h⟩
 |(k,x)::r=>by
  obtain⟨i1,i2⟩:=Lb f v r;rw[show EG f v ((k,x)::r)=(if k=f then (k,v)::r else (k,x)::EG f v r) from rfl];by_cases hk:k=f
  ·rw[if_pos hk];subst hk;exact⟨by simp,λ g h=>by simpa using h⟩
  ·rw[if_neg hk];refine⟨?_,λ g h=>?_⟩
   ·rw[za8];exact za4 _ i1
   ·rw[za8] at h ⊢;rcases za9.mp h with e|e
    ·exact za9.mpr (.inl e)
    ·exact za4 _ (i2 g e)
theorem M8 (f:Str)(v:V):∀fs:List (Str×V),(EG f v fs).length<=fs.length+1
 |[]=>by simp[EG]
 |(k,x)::r=>by
  have ih:=M8 f v r;rw[show EG f v ((k,x)::r)=(if k=f then (k,v)::r else (k,x)::EG f v r) from rfl];by_cases hk:k=f
  ·rw[if_pos hk,zad,zad];omega
  ·rw[if_neg hk,zad,zad];omega
theorem J2.some_of {v:V}{o:Option Value}(r:J2 (some v) o):∃u,o=some u/\RelV v u:=by
 cases o with
 |none=>exact (show False from r).elim
 |some u=>exact⟨u,rfl,r⟩
theorem J2.none_of {o:Option Value}(r:J2 none o):o=none:=by
 cases o with
 |none=>rfl
 |some u=>exact (show False from r).elim
theorem VR {v:V}{u:Value}(r:RelV v u):PySem.W.handedIn u=true:=by
 cases v with
 |AK=>cases (show u=zco from r);rfl
 |bl b=>cases (show u=Value.bool b from r);rfl
 |int i=>obtain⟨t,e⟩:=(show ∃t,u=Value.int i t from r);cases e;rfl
 |str x=>obtain⟨t,e⟩:=(show ∃t,u=Value.str x t from r);cases e;rfl
 |mM b=>obtain⟨t,e⟩:=(show ∃t,u=Value.bytes b t from r);cases e;rfl
 |rS b=>obtain⟨t,e⟩:=(show ∃t,u=Value.float b t from r);cases e;rfl
 |ref a=>cases (show u=zbe a from r);rfl
 |ty n=>cases (show u=Value.type n from r);rfl
section
variable {P:Program}{w:World}{H H':Hp}{h h':Heap}{a C dx:Addr}{fs ee:List (Str×V)}
theorem Qg (AE:FH P w H h)(e:H a=some (.ins C dx fs)):∃mA,Tg h a dx C mA/\(∀f,J2 (fs.lookup f) (mA f))/\PySem.Within mA (fs.map (·.1))/\fs.length<=1000/\H dx=some (.own a):=by
 obtain⟨d,z,ne,ob,mA,n,r,q⟩:=(show BK P w H h a (.ins C dx fs) from AE a _ e);exact⟨mA,⟨ob,n,ne⟩,r,q,z,d⟩
end
structure VS (K:za0)(C:Addr):Prop where
 pg:zdf K C Str.empty=true
 hd:zbf K C=true
 po:PySem.W.plainOver K C=true
 sa:za6 K (.ref C) "__setattr__" = some (some (.builtin "object.__setattr__"))
theorem VS.get {K:za0}{C:Addr}(c:VS K C)(f:Str):zdf K C f=true:=c.pg
def Jo (K:za0)(C:Addr)(f:Str):Prop:=za6 K (.ref C) f=some none
theorem Jo.sS {K:za0}{C:Addr}{f:Str}(n:Jo K C f):PySem.W.takerIn K C f=some none:=by
 unfold PySem.W.takerIn;rw[show za6 K (.ref C) f=some none from n];rfl
structure Meth (K:za0)(C:Addr)(m:Str)(f:Addr):Prop where
 at_:za6 K (.ref C) m=some (some (.ref f))
 fn:zdg K (.ref f)=true
 kp:zb6 K (.ref f)=true
section
variable {X:Cx}{pins:List (Addr×Obj)}{σ:St}{H:Hp}{s:Shared}{a C dx:Addr}{fs:List (Str×V)}{f:Str}{v:V}{A:Around}{E:Value->Shared->Prop}
theorem Th {b:Bool}{Q:Value->Shared->Prop}(I:Inv X pins σ H s)(e:H a=some (.ins C dx fs))(c:VS X.K C)(n:Jo X.K C f)(l:fs.lookup f=some v)
 (h:∀u s',Inv X pins σ H s'->RelV v u->Q u s'):wpAny (model X.prog X.w) A (getAttr (.ref a) f b) Q E s:=by
 obtain⟨mA,O,r,_,_,_⟩:=Qg I.AE e;obtain⟨u,hu,ru⟩:=J2.some_of (v:=v) (o:=mA f) (by rw[<-l];exact r f);exact get_map I.Mx O (c.get f) c.hd n hu (VR ru) (h u _ (I.tok _) ru)
theorem MQ {m:Str}{g:Addr}{pl:Sem Bool}{Q:Value×List Value->Shared->Prop}(I:Inv X pins σ H s)(e:H a=some (.ins C dx fs))(c:VS X.K C)(k:Meth X.K C m g)(l:fs.lookup m=none)
 (h:Q (.ref g,[.ref a]) s):wpAny (model X.prog X.w) A (getMethod (.ref a) m pl) Q E s:=by
 obtain⟨mA,O,r,_,_,_⟩:=Qg I.AE e;have hn:mA m=none:=J2.none_of (by rw[<-l];exact r m);exact XR I.Mx O (c.get m) k.at_ k.fn hn h
theorem Ti {y:V}{u:Value}{Q:Unit->Shared->Prop}(I:Inv X pins σ H s)(e:H a=some (.ins C dx fs))(c:VS X.K C)(n:Jo X.K C f)(hl:fs.length<1000)(ry:RelV y u)
 (h:∀s',Inv X pins σ (upd H a (.ins C dx (EG f y fs))) s'->Q () s'):wpAny (model X.prog X.w) A (setAttr (.ref a) f u) Q E s:=by
 obtain⟨mA,O,r,wi,_,ho⟩:=Qg I.AE e;have hz:(fs.map (·.1)).length<=sizeLine:=by rw[za5,sizeLine_eq];omega
 refine fQ I.Mx O c.sa c.po n.sS c.hd wi hz λ h' O' sb=>h _ ?_;have hd:∃o,h'.get? dx=some o:=let ⟨o,_,_,e',_⟩:=O'.ns;⟨o,e'⟩;refine I.write (x:=a) (e:=dx) (by rw[e];exact True.intro) (.inr ho) (λ b q hb z=>(sb.2 b hb).trans z) hd ?_;refine⟨by rw[Aq O.ne];exact ho,?_,O.ne,O'.obj,_,O'.ns,λ g=>?_,λ g hg=>?_⟩
 ·have:=M8 f y fs;omega
 ·show J2 ((EG f y fs).lookup g) (if g=f then some u else mA g);rw[M7];by_cases q:g=f
  ·rw[if_pos q,if_pos q];exact ry
  ·rw[if_neg q,if_neg q];exact r g
 ·by_cases q:g=f
  ·rw[q];exact (Lb f y fs).1
  ·refine (Lb f y fs).2 g (wi g λ z=>hg ?_);show (if g=f then some u else mA g)=none;rw[if_neg q];exact z
theorem Inv.made (I:Inv X pins σ H s):Inv X pins σ (upd (upd H s.heap.objs.size (.own (s.heap.objs.size+1))) (s.heap.objs.size+1) (.ins C s.heap.objs.size []))
 {s with heap:=(s.heap.push zc3).push (zcw C s.heap.objs.size)}:=by
 have e1:(s.heap.push zc3).get? s.heap.objs.size=some zc3:=zau s.heap rfl;have e2:((s.heap.push zc3).push (zcw C s.heap.objs.size)).get? (s.heap.objs.size+1)=some (zcw C s.heap.objs.size):=by
  have:=zau (s.heap.push zc3) (o:=zcw C s.heap.objs.size) rfl;rwa[Heap.size_push] at this
 have e3:(s.heap.push zc3).Ns s.heap.objs.size (λ _=>none):=⟨zc3,#[],_,e1,rfl,(λ e he=>absurd he (by simp)),λ _=>rfl⟩;have I1:=I.laid (a:=s.heap.objs.size) (o:=.own (s.heap.objs.size+1)) (h':=s.heap.push zc3) (t':=s.toks) (λ b u q=>zae _ q) (zal _) ⟨_,e1⟩;refine I1.laid (a:=s.heap.objs.size+1) (o:=.ins C s.heap.objs.size []) (t':=s.toks) (λ b u q=>zae _ q) (Nat.le_of_eq (Heap.size_push _ _)) ?_;have ne:s.heap.objs.size≠s.heap.objs.size+1:=zaz (Nat.lt_succ_self _);refine⟨by rw[Aq ne,AU],zb9 _,ne,e2,λ _=>none,(Heap.Ns1.of_empty e3).at λ o q=>zae _ q,λ _=>True.intro,λ y hy=>absurd rfl hy⟩
theorem fR {prog:Program}{w:World}{env:Env}{e:Expr}{f:Str}{pos:Pos}{s:Shared}{Q:Value->Shared->Prop}(hb:attributeBase e f env (eval e env)=eval e env)
 (h:wpAny (model prog w) A (eval e env) (λ o s₁=>wpAny (model prog w) A (getAttr o f true) Q E s₁) E s):wpAny (model prog w) A (eval (.Attribute e f pos) env) Q E s:=
 Attribute_any_ h (by rw[arm_eval_Attribute,hb])
end
noncomputable def wL (K:za0)(ta:TE)(f:Str):TE:=λ σ H Q=>ta σ H λ x H1=>∃a C dx fs v,x=.ref a/\H1 a=some (.ins C dx fs)/\VS K C/\Jo K C f/\fs.lookup f=some v/\Q v H1
noncomputable def wM (K:za0)(ta tv:TE)(f:Str):TS:=λ D σ H=>tv σ H λ y H1=>ta σ H1 λ x H2=>∃a C dx fs,x=.ref a/\H2 a=some (.ins C dx fs)/\VS K C/\Jo K C f/\fs.length<1000/\
 D.nx σ (upd H2 a (.ins C dx (EG f y fs)))
section
variable {X:Cx}{o e value:Expr}{f:Str}{pos pos' dr:Pos}{ta tv:TE}
theorem nS (he:PE X e ta)(hb:attributeBase e f X.env (eval e X.env)=eval e X.env):PE X (.Attribute e f pos) (wL X.K ta f):=by
 intro pins s σ H Q I h;refine fR hb (BA (he pins s σ H _ I h) λ u s1 ⟨x,H1,I1,rx,a,C,dx,fs,v,ex,ea,c,n,l,q⟩=>?_);subst ex;obtain rfl:u=zbe a:=rx;exact Th I1 ea c n l λ u' s2 I2 ru=>⟨v,H1,I2,ru,q⟩
theorem nT (ha:PE X o ta)(hv:PE X value tv)(hs:swapsWith value (some (.Attribute o f pos')) pos.line X.env=pure false):PS X (.Assign [.Attribute o f pos'] value pos) (wM X.K ta tv f):=by
 intro pins s σ H D I h;refine plainObj_wpAny_Assign_Attribute (BA (hv pins s σ H _ I h) λ u s1 ⟨y,H1,I1,ry,q⟩=>BA (ha pins s1 σ H1 _ I1 q) λ ov s2 ⟨x,H2,I2,rx,a,C,dx,fs,ex,ea,c,n,l,q2⟩=>?_) hs;subst ex;obtain rfl:ov=zbe a:=rx;exact Ti I2 ea c n l ry λ s3 I3=>⟨σ,_,I3,q2⟩
end
structure BW (k:Nat)(A:Around):Prop where
 hd:A.handled=none
 dp:A.depth+3*k+5<recursionLimit
 un:A.units+16*k+200<cLine
theorem BW.mono {j k:Nat}{A:Around}(r:BW k A)(h:j<=k):BW j A:=⟨r.hd,by have:=r.dp;omega,by have:=r.un;omega⟩
theorem BW.deeper {k:Nat}{A:Around}(r:BW (k+1) A)(env:Env):BW k (A.deeper env):=
 ⟨r.hd,by have:=r.dp;show A.depth+1+3*k+5<_;omega,by have:=r.un;show A.units+3+16*k+200<_;omega⟩
theorem Tj {A:Around}{C:Addr}{us:List Value}{kw:List (Str×Value)}:(A.under (.builtin "type.__call__" ⟨.ref C::us,kw⟩)).depth=A.depth+1:=by
 first|rfl|simp[Around.under,Code.weight,Code.isCreation,Code.isGuard,Code.isCaller,Code.frames,Code.isFrame,guardIds]
theorem Tn {A:Around}{C:Addr}{us:List Value}{kw:List (Str×Value)}:(A.under (.builtin "type.__call__" ⟨.ref C::us,kw⟩)).units=A.units+1:=by
 first|rfl|simp[Around.under,Code.cUnits,Code.frames,Code.isFrame]
theorem BW.make {k:Nat}{A:Around}(r:BW (k+1) A)(C:Addr)(us:List Value)(kw:List (Str×Value)):BW k (A.under (.builtin "type.__call__" ⟨.ref C::us,kw⟩)):=
 ⟨r.hd,by have:=r.dp;rw[Tj];omega,by have:=r.un;rw[Tn];omega⟩
theorem BW.depth {k:Nat}{A:Around}(r:BW k A):A.depth<recursionLimit:=by have:=r.dp;omega
theorem BW.units {k:Nat}{A:Around}(r:BW k A):A.units+64<cLine:=by have:=r.un;omega
noncomputable def fS:TA:=λ _ H Q=>Q [] H
noncomputable def UE (ta:TE)(tr:TA):TA:=λ σ H Q=>ta σ H λ x H1=>tr σ H1 λ xs H2=>Q (x::xs) H2
section
variable {X:Cx}{e:Expr}{es:List Expr}{te:TE}{t:TA}{pos:Pos}
theorem Cj:PA X [] fS:=λ _ _ _ _ H Q I h=>Calls.spliced_nil ⟨[],H,I,.nil,h⟩
theorem Bb (ha:PE X e te)(hr:PA X es t)(hs:starEach (e::es) X.env=(false,eval e X.env)::starEach es X.env:=by rfl):PA X (e::es) (UE te t):=by
 intro pos pins s σ H Q I h;rw[hs];show wpAny _ _ (spliced ((false,eval e X.env)::backTo pos (starEach es X.env))) _ _ s;refine Calls.spliced_cons (BA (ha pins s σ H _ I h) λ u s1 ⟨x,H1,I1,r1,q1⟩=>?_);exact BA (hr pos pins s1 σ H1 _ I1 q1) λ us s2 ⟨xs,H2,I2,r2,q2⟩=>⟨x::xs,H2,I2,.cons r1 r2,q2⟩
noncomputable def wN (t:TA):TE:=λ σ H Q=>t σ H λ xs H1=>xs.length<=sizeLine/\∀p,H1 p=none->Q (.ref p) (upd H1 p (.tup xs))
noncomputable def wO (t:TA):TE:=λ σ H Q=>t σ H λ xs H1=>xs.length<=sizeLine/\∀p,H1 p=none->Q (.ref p) (upd H1 p (.lst xs))
theorem XT {x1}(h:PA X es t):PE X (.Tuple es x1 pos) (wN t):=by
 intro pins s σ H Q I hq;refine wpAny_Tuple_spliced (BA (h pos pins s σ H _ I hq) λ us s1 ⟨xs,H1,I1,r,z,q⟩=>⟨by rw[<-r.length];exact z,?_⟩);have hf:H1 s1.heap.objs.size=none:=I1.AE.fresh (zal _);refine⟨.ref s1.heap.objs.size,upd H1 s1.heap.objs.size (.tup xs),I1.laid (t':=s1.toks) (λ b u e=>zae _ e) (zal _) ?_,rfl,q _ hf⟩;exact⟨z,us,r,⟨_,zau _ rfl,rfl,_,rfl⟩⟩
theorem To (h:PA X es t):PE X (.List es pos) (wO t):=by
 intro pins s σ H Q I hq;refine wpAny_List_spliced (BA (h pos pins s σ H _ I hq) λ us s1 ⟨xs,H1,I1,r,z,q⟩=>⟨by rw[<-r.length];exact z,?_⟩);have hf:H1 s1.heap.objs.size=none:=I1.AE.fresh (zal _);refine⟨.ref s1.heap.objs.size,upd H1 s1.heap.objs.size (.lst xs),I1.laid (t':=s1.toks) (λ b u e=>zae _ e) (zal _) ?_,rfl,q _ hf⟩;exact⟨z,us,0,r,zau _ rfl⟩
end
noncomputable abbrev Sp:=List V->Hp->VK->XK->Prop
noncomputable abbrev UG:=List Env->Hp->Shared->XK->Value->Shared->Prop
structure Tp (P:Program)(w:World)(K:za0)(mg:Str->Option Value)(base:Heap)(A:Around)(outer:List Env)(s:Shared)(H:Hp):Prop where
 frames:A.frames=some outer
 mod:Mod K mg base
 bs:∀b o,base.get? b=some o->s.heap.get? b=some o/\H b=none
 XC:base.objs.size<=s.heap.objs.size
 J6:s.heap.FunFrames base outer
 fE:∀b∈Ho outer,H b=none
 AE:FH P w H s.heap
 bare:AllBare s.gens
def CE (outer:List Env)(P:Program)(w:World)(H:Hp)(s:Shared)(Q:VK)(u:Value)(s':Shared):Prop:=
 ∃v H',s'.os=s.os/\AllBare s'.gens/\Un (Ho outer) [] H H' s.heap s'.heap/\FH P w H' s'.heap/\RelV v u/\Q v H'
def CR (CX:UG)(outer:List Env)(P:Program)(w:World)(H:Hp)(s:Shared)(Q:VK)(E:XK)(r:Result)(s':Shared):Prop:=
 match r with
 | .ok (.ret u)=>CE outer P w H s Q u s'
 | .ok _=>False
 | .error e=>CX outer H s E e s'
structure E8 (P:Program)(w:World)(K:za0)(mg:Str->Option Value)(base:Heap)(CX:UG)(k:Nat)(f:Addr)(fd:FuncData)(ps:List Str)(sp:Sp):Prop where
 len:∀vs H Q E,sp vs H Q E->vs.length=ps.length
 run:∀(A:Around) (outer:List Env) (s:Shared) (H:Hp) (args:Args) (us:List Value) (vs:List V) (Q:VK) (E:XK),BW k A->Tp P w K mg base A outer s H->BindsTo s fd args (ps.zip us)->Vals vs us->sp vs H Q E->
  codeAny (model P w) A (.call (.ref f) args) (CR CX outer P w H s Q E) s
theorem Tp.make {P:Program}{w:World}{K:za0}{mg:Str->Option Value}{base:Heap}{A:Around}{outer:List Env}{s:Shared}{H:Hp}(e:Tp P w K mg base A outer s H)(C:Addr)(us:List Value)(kw:List (Str×Value)):
 Tp P w K mg base (A.under (.builtin "type.__call__" ⟨.ref C::us,kw⟩)) outer s H:=⟨by first|exact e.frames|(simpa [Around.under,Code.envs,Code.isFrame,pushEnvs] using e.frames),e.mod,e.bs,e.XC,e.J6,e.fE,e.AE,e.bare⟩
section
variable {X:Cx}{pins:List (Addr×Obj)}{σ:St}{H:Hp}{s s':Shared}
theorem Inv.sT (I:Inv X pins σ H s):Tp X.prog X.w X.K X.mg X.base X.A X.stack s H:=
 ⟨I.ok.frames,I.ok.mod,I.bs,zbw I.ok.XC I.sz,I.stack,I.My,I.AE,I.bare⟩
theorem Inv.after {Q:VK}{u:Value}(I:Inv X pins σ H s)(h:CE X.stack X.prog X.w H s Q u s'):EP X pins σ Q u s':=by
 obtain⟨v,H',os,bare,un,AE,r,q⟩:=h;obtain⟨hh,g,d,t,xy⟩:=s';obtain rfl:xy=s.os:=os;exact⟨v,H',I.call (h':=hh) (g':=g) (d':=d) (t':=t) (ch:=[]) un AE bare (λ b z=>absurd z (by simp)),r,q⟩
end
noncomputable def sU (sp:Sp)(du:List V)(E:XK)(t:TA):TE:=λ σ H Q=>t σ H λ vs H1=>sp (vs++du) H1 Q E
noncomputable def sV (C:Addr)(sp:Sp)(du:List V)(E:XK)(t:TA):TE:=λ σ H Q=>t σ H λ vs H1=>∀x dx,H1 x=none->H1 dx=none->dx≠x->
 sp (.ref x::(vs++du)) (upd (upd H1 dx (.own x)) x (.ins C dx [])) (λ v H2=>v=.AK/\Q (.ref x) H2) E
def Binds (K:za0)(fd:FuncData)(ps:List Str)(ds:List Value):Prop:=
 ∀(s:Shared) (us:List Value),K.In s.heap->(us++ds).length=ps.length->BindsTo s fd ⟨us,[]⟩ (ps.zip (us++ds))
theorem Binds.all {K:za0}{fd:FuncData}{ps:List Str}(h:∀us:List Value,us.length=ps.length->bindArgs fd ⟨us,[]⟩=pure (ps.zip us)):Binds K fd ps []:=λ s us _ hl=>by
 rw[zbj] at hl ⊢;exact .of_eq (h us hl)
def Hr (CX:UG)(X:Cx)(E:XK):Prop:=∀(pins:List (Addr×Obj)) (σ:St) (H:Hp) (s:Shared) (e:Value) (s':Shared),Inv X pins σ H s->CX X.stack H s E e s'->X.xe e s'
section
variable {X:Cx}{CX:UG}{k:Nat}{f C:Addr}{fd:FuncData}{ps:List Str}{sp:Sp}{du:List V}{ds:List Value}{E:XK}{x m:Str}{p pos apos:Pos}{e o:Expr}{es:List Expr}{ta:TE}{t:TA}
theorem Tq {pins:List (Addr×Obj)}{σ:St}{H:Hp}{s:Shared}{Q:VK}{us:List Value}{vs:List V}(F:E8 X.prog X.w X.K X.mg X.base CX k f fd ps sp)(hr:BW k X.A)(hb:Binds X.K fd ps ds)(hd:Vals du ds)(hx:Hr CX X E)
 (I:Inv X pins σ H s) (r:Vals vs us) (h:sp (vs++du) H Q E):wpAny (model X.prog X.w) X.A (call (.ref f) us) (EP X pins σ Q) X.xe s:=by
 have r2:Vals (vs++du) (us++ds):=r.append hd;have hl:(us++ds).length=ps.length:=by rw[<-r2.length];exact F.len _ _ _ _ h
 refine wpAny_call (codeAny_mono (F.run X.A X.stack s H ⟨us,[]⟩ (us++ds) (vs++du) Q E hr I.sT (hb s us I.Mx hl) r2 h) λ r s' hq=>?_);cases r with
 |error e=>exact hx pins σ H s e s' I hq
 |ok fl =>
  cases fl with
  |ret u=>exact I.after hq
  |next|brk|cont=>exact zcz hq
theorem UH (F:E8 X.prog X.w X.K X.mg X.base CX k f fd ps sp)(hr:BW k X.A)(hg:Gl X x)(hm:X.mg x=some (.ref f))(hk:zb6 X.K (.ref f)=true)(hb:Binds X.K fd ps ds)(hd:Vals du ds)(hx:Hr CX X E)
 (ha:PA X (e::es) t) (cC:(x==("__debug__" : Str))=false:=by decide) (he:starEach (e::es) X.env=(false,eval e X.env)::starEach es X.env:=by rfl) (bU:(backTo pos (starEach es X.env)).any (·.1)=false:=by rfl):
 PE X (.Call (.Name x p) (e::es) [] pos) (sU sp du E t):=by
 intro pins s σ H Q I h;refine wpAny_Call_Name_kw (K1 I hg hm ?_ cC);refine PySem.W.callWith_K (h₀:=X.base) I.ok.mod.rB hk (BA (ha pos pins s σ H _ I h) λ us s1 ⟨vs,H1,I1,r,q⟩=>⟨I1.Mx,?_⟩) he bU;exact Tq F hr hb hd hx I1 r q
structure Mk (K:za0)(C f:Addr):Prop where
 makes:PySem.W.makesIn K C=true
 init:za6 K (.ref C) "__init__" = some (some (.ref f))
 fn:zdg K (.ref f)=true
 kp:zb6 K (.ref C)=true
theorem XU {pins:List (Addr×Obj)}{σ:St}{H:Hp}{s:Shared}{Q:VK}{us:List Value}{vs:List V}(M:Mk X.K C f)(F:E8 X.prog X.w X.K X.mg X.base CX k f fd ps sp)(hr:BW (k+1) X.A)(hb:Binds X.K fd ps ds)(hd:Vals du ds)
 (hx:Hr CX X E) (I:Inv X pins σ H s) (r:Vals vs us)
 (h:∀x dx,H x=none->H dx=none->dx≠x->sp (.ref x::(vs++du)) (upd (upd H dx (.own x)) x (.ins C dx [])) (λ v H2=>v=.AK/\Q (.ref x) H2) E):
 wpAny (model X.prog X.w) X.A (call (.ref C) us) (EP X pins σ Q) X.xe s:=by
 have hq:=h (s.heap.objs.size+1) s.heap.objs.size (I.AE.fresh (Nat.le_succ _)) (I.AE.fresh (zal _)) (zaz (Nat.lt_succ_self _));have I2:=Inv.made (C:=C) I;have r2:Vals (V.ref (s.heap.objs.size+1)::(vs++du)) (zbe (s.heap.objs.size+1)::(us++ds)):=.cons rfl (r.append hd);have hl:(zbe (s.heap.objs.size+1)::us++ds).length=ps.length:=by
  have e:=r2.length;rw[F.len _ _ _ _ hq] at e;exact e.symm
 refine wpAny_call (XS (f:=f) I.Mx M.makes M.init (beq_iff_eq.mp M.fn) (codeAny_mono (F.run _ X.stack _ _ ⟨zbe (s.heap.objs.size+1)::us,[]⟩ (zbe (s.heap.objs.size+1)::(us++ds)) _ _ E (hr.make C us [])
  (I2.sT.make C us []) (hb _ (zbe (s.heap.objs.size+1)::us) I2.Mx hl) r2 hq) λ r s' fj=>?_))
 cases r with
 |error e=>exact hx pins σ _ _ e s' I2 fj
 |ok fl =>
  cases fl with
  |ret u =>
   obtain⟨v,H',I3,rv,ev,q3⟩:=I2.after fj;subst ev;exact⟨rv,⟨V.ref (s.heap.objs.size+1),H',I3,rfl,q3⟩⟩
  |next|brk|cont=>exact zcz fj
theorem fT (M:Mk X.K C f)(F:E8 X.prog X.w X.K X.mg X.base CX k f fd ps sp)(hr:BW (k+1) X.A)(hg:Gl X x)(hm:X.mg x=some (.ref C))(hb:Binds X.K fd ps ds)(hd:Vals du ds)(hx:Hr CX X E)
 (ha:PA X (e::es) t) (cC:(x==("__debug__" : Str))=false:=by decide) (he:starEach (e::es) X.env=(false,eval e X.env)::starEach es X.env:=by rfl) (bU:(backTo pos (starEach es X.env)).any (·.1)=false:=by rfl):
 PE X (.Call (.Name x p) (e::es) [] pos) (sV C sp du E t):=by
 intro pins s σ H Q I h;refine wpAny_Call_Name_kw (K1 I hg hm ?_ cC);refine PySem.W.callWith_K (h₀:=X.base) I.ok.mod.rB M.kp (BA (ha pos pins s σ H _ I h) λ us s1 ⟨vs,H1,I1,r,q⟩=>⟨I1.Mx,?_⟩) he bU;exact XU M F hr hb hd hx I1 r q
end
def PK (X:Cx)(j9:List Keyword)(t:TA):Prop:=
 ∀(pos:Pos) (pins:List (Addr×Obj)) (s:Shared) (σ:St) (H:Hp) (Q:List V->Hp->Prop),Inv X pins σ H s->t σ H Q->wpAny (model X.prog X.w) X.A (evalAll ((backToKw pos (keywordEach j9 X.env)).map (·.2))) (AP X pins σ Q) X.xe s
section
variable {X:Cx}{CX:UG}{k:Nat}{f C:Addr}{fd:FuncData}{ps ks:List Str}{sp:Sp}{E:XK}{x m:Str}{p pos apos pf:Pos}{e o:Expr}{es:List Expr}{j9:List Keyword}{te ta:TE}{t tk:TA}{nm:Option Str}
theorem nU:PK X [] fS:=λ _ _ _ _ H Q I h=>wpAny_evalAll_nil ⟨[],H,I,.nil,h⟩
theorem fU (ha:PE X e te)(hr:PK X j9 t):PK X (⟨nm,e,pf⟩::j9) (UE te t):=by
 intro pos pins s σ H Q I h;show wpAny _ _ (evalAll ((do let v <-eval e X.env;standAt pos;pure v)::(backToKw pos (keywordEach j9 X.env)).map (·.2))) _ _ s;refine wpAny_evalAll_cons (wpAny_bind (BA (ha pins s σ H _ I h) λ u s1 ⟨x,H1,I1,r1,q1⟩=>wpAny_bind (wpAny_standAt (wpAny_pure ?_))));exact BA (hr pos pins s1 σ H1 _ I1 q1) λ us s2 ⟨xs,H2,I2,r2,q2⟩=>⟨x::xs,H2,I2,.cons r1 r2,q2⟩
variable {g:List Value->List Value->List Value}{gV:List V->List V->List V}
end
structure Ak (N P:List Str)(sc:Scope):Prop where
 kind:sc.kind=.function
 co:sc.isCoroutine=false
 gen:sc.isGenerator=false
 nd:N.Nodup
 pre:N.take P.length=P
 xS:∀x∈P,sc.names.lookup x=some .local\/sc.names.lookup x=some .cell
 nV:∀y∈sc.names,y.2≠.free
theorem OW {kindOf:Str->Option NameKind}{x:Str}:∀ {binds:List (Str×Value)}{m:Str->Option Value},(∀v,(x,v)∉binds)->bindL kindOf binds m x=m x
 |[],_,_=>rfl
 |(n,v)::r,m,h=>by
  unfold bindL;rw[OW λ w hw=>h w (za4 _ hw)];split
  ·have:x≠n:=by rintro rfl;exact h v za3
   simp[this]
  ·rfl
theorem OX {kindOf:Str->Option NameKind}{x:Str}:∀ {binds:List (Str×Value)}{m:Str->Option Value},(∀v,(x,v)∉binds)->bindC kindOf binds m x=m x
 |[],_,_=>rfl
 |(n,v)::r,m,h=>by
  unfold bindC;rw[OX λ w hw=>h w (za4 _ hw)];split
  ·rfl
  ·have:x≠n:=by rintro rfl;exact h v za3
   simp[this]
theorem OY {kindOf:Str->Option NameKind}{x:Str}{v:Value}:∀ {P:List Str}{vs:List Value}{i:Nat}{m:Str->Option Value},P.Nodup->P[i]?=some x->vs[i]?=some v->kindOf x=some .local->
 bindL kindOf (P.zip vs) m x=some v
 |[],_,_,_,_,h,_,_|_::_,[],_,_,_,_,h,_=>by simp at h
 |p::P,w::vs,0,m,nd,h1,h2,hk=>by
  simp at h1 h2;subst h1;subst h2;show bindL kindOf ((p,w)::P.zip vs) m p=_;unfold bindL;rw[OW λ v hv=>(zbi.mp nd).1 (List.of_mem_zip hv).1,if_pos hk];simp
 |p::P,w::vs,i+1,m,nd,h1,h2,hk=>by
  show bindL kindOf ((p,w)::P.zip vs) m x=_;unfold bindL;exact OY (i:=i) (zbi.mp nd).2 (by simpa using h1) (by simpa using h2) hk
theorem OZ {kindOf:Str->Option NameKind}{x:Str}{v:Value}:∀ {P:List Str}{vs:List Value}{i:Nat}{m:Str->Option Value},P.Nodup->P[i]?=some x->vs[i]?=some v->kindOf x≠some .local->
 bindC kindOf (P.zip vs) m x=some v
 |[],_,_,_,_,h,_,_|_::_,[],_,_,_,_,h,_=>by simp at h
 |p::P,w::vs,0,m,nd,h1,h2,hk=>by
  simp at h1 h2;subst h1;subst h2;show bindC kindOf ((p,w)::P.zip vs) m p=_;unfold bindC;rw[OX λ v hv=>(zbi.mp nd).1 (List.of_mem_zip hv).1,if_neg hk];simp
 |p::P,w::vs,i+1,m,nd,h1,h2,hk=>by
  show bindC kindOf ((p,w)::P.zip vs) m x=_;unfold bindC;exact OZ (i:=i) (zbi.mp nd).2 (by simpa using h1) (by simpa using h2) hk
noncomputable def start (N:List Str)(vs:List V):St:=vs.map some++zai (N.length-vs.length) none
noncomputable def Mp (CX:UG)(P:Program)(w:World)(K:za0)(mg:Str->Option Value)(base:Heap)(N:List Str)(qual:Str)(scope:Scope)(f:Addr)(cd:Value)(A:Around)(outer:List Env)(s:Shared)(H:Hp)(E:XK):Cx where
 prog:=P
 w:=w
 K:=K
 mg:=mg
 base:=base
 A:=A.deeper (envOfC qual scope s.heap.objs.size f cd)
 N:=N
 s₀:=s
 H₀:=H
 env:=envOfC qual scope s.heap.objs.size f cd
 outer:=outer
 stack:=envOfC qual scope s.heap.objs.size f cd::outer
 ex:=[]
 calm:=true
 fn:=λ _=>true
 pn:=[]
 xe:=λ e s'=>wpAny (model P w) (A.deeper (envOfC qual scope s.heap.objs.size f cd)) (leaving (envOfC qual scope s.heap.objs.size f cd) e) (λ _ kb=>CX outer H s E e kb) (λ e' kb=>CX outer H s E e' kb) s'
theorem Rl {sc:Scope}{n:Nat}{x:Str}(h:sc.names.lookup x=some .cell):∃c,(cellsFrom n sc.names []).lookup x=some c:=by
 have q:=PySem.W.cellsFrom_some sc.names n [] (.inl h);exact zbs.mp q
theorem VT {CX:UG}{P:Program}{w:World}{K:za0}{mg:Str->Option Value}{base:Heap}{N ps:List Str}{qual:Str}{scope:Scope}{f:Addr}{cd:Value}{A:Around}{outer:List Env}{s s1:Shared}{H:Hp}{E:XK}{us:List Value}{vs:List V}
 (S:Ak N ps scope) (hd:A.handled=none) (e0:Tp P w K mg base A outer s H) (hl:vs.length=ps.length) (r:Vals vs us)
 (x:InCallC s s.heap.objs.size (bindL (envOfC qual scope s.heap.objs.size f cd).kindOf (ps.zip us) λ _=>none) (cellsFrom (s.heap.objs.size+1) scope.names []) (bindC (envOfC qual scope s.heap.objs.size f cd).kindOf (ps.zip us) λ _=>none) s1):
 Inv (Mp CX P w K mg base N qual scope f cd A outer s H E) [] (start N vs) H s1:=by
 have bU:ps.length<=N.length:=by have:=congrArg List.length S.pre;rw[zcd] at this;omega
 obtain⟨h1,tk,rfl,hk⟩:=x.done;have kc:∀b:Addr,b∉(Mp CX P w K mg base N qual scope f cd A outer s H E).ex:=λ b z=>absurd (show b∈([]:List Addr) from z) (by simp);refine⟨⟨e0.mod,S.kind,rfl,rfl,zal _,λ y z c h1 h2=>?_,λ y hy=>?_,λ y c _ h=>?_,λ _=>hd,Around.frames_deeper e0.frames,.inr ⟨rfl,rfl⟩,λ b z=>absurd z (kc b),e0.bs,e0.XC,λ b _ _=>kc b,λ b z=>absurd z (kc b),e0.J6,e0.fE⟩,
  rfl,e0.bare,Un.kept hk,⟨_,x.toInCall.ns,λ i y v h1 h2 h3=>?_⟩,λ y c h=>⟨_,x.cell y c h⟩,e0.AE.fresh (zal _),λ y c h=>?_,λ p hp=>absurd (show p∈([]:List (Addr×Obj)) from hp) (by simp),e0.AE.kept hk,?_⟩
 ·exact name_of_addr x.apart (zdh h1) (zdh h2)
 ·have hy:scope.names.lookup y=some .cell\/scope.names.lookup y=some .free:=hy;rcases hy with hy|hy
  ·exact Rl hy
  ·exact absurd rfl (S.nV _ (zdh hy))
 ·exact zbl (x.above y c (zdh h))
 ·have hi:i<vs.length:=by
   unfold start at h2;by_cases hi:i<vs.length
   ·exact hi
   ·rw[zde (by simpa using hi)] at h2;rw[zci] at h2;split at h2<;>cases h2
  have ha:vs[i]?=some v:=by
   unfold start at h2;rw[zc8 (by simpa using hi),zat] at h2;cases e:vs[i]? with
   |none=>rw[e] at h2;cases h2
   |some a=>rw[e] at h2;cases h2;rfl
  obtain⟨u,hu,rv⟩:=r.get ha;have hp:ps[i]?=some y:=by
   rw[<-S.pre,List.getElem?_take_of_lt (by omega)];exact h1
  have we:ps.Nodup:=by rw[<-S.pre];exact S.nd.sublist (List.take_sublist _ _)
  refine⟨u,rv,?_⟩;rcases S.xS y (zag hp) with k|k
  ·exact .inl ⟨k,OY we hp hu k⟩
  ·obtain⟨c,e⟩:=Rl (n:=s.heap.objs.size+1) k;refine .inr ⟨.inl k,c,e,?_⟩;have q:=x.cell y c e;rw[OZ we hp hu (by show scope.names.lookup y≠_;rw[k];decide)] at q;exact q
 ·exact e0.AE.fresh (zbl (x.above y c (zdh h)))
 ·unfold start;show _=N.length;rw[zah,za5,List.length_replicate];omega
theorem UI {CX:UG}{P:Program}{w:World}{K:za0}{mg:Str->Option Value}{base:Heap}{k:Nat}{f:Addr}{name qual:Str}{params:Arguments}{body:List Stmt}{scope:Scope}{dV kV doc pm Bf ct oc:Value}{an od:Option Addr}
 {T7:Array (Option Value)} {N ps:List Str} {sp:Sp} (lk:K.lookup f=some ⟨oc,od,.func (zb8 name qual params body scope dV kV doc pm an Bf ct),T7⟩) (de:zbn K Bf qual=true) (S:Ak N ps scope)
 (len:∀vs H Q E,sp vs H Q E->vs.length=ps.length)
 (eh:∀(A:Around) (outer:List Env) (s:Shared) (H:Hp) (vs:List V) (Q:VK) (E:XK),BW k (A.deeper (envOfC qual scope s.heap.objs.size f Bf))->sp vs H Q E->
  ∃t,UA (Mp CX P w K mg base N qual scope f Bf A outer s H E) body t/\t {nx:=λ _ H'=>Q .AK H',rt:=Q} (start N vs) H):
 E8 P w K mg base CX (k+1) f (zb8 name qual params body scope dV kV doc pm an Bf ct) ps sp:=by
 refine⟨len,λ A outer s H args us vs Q E hr e0 hb r dI=>?_⟩;have hl:=len _ _ _ _ dI;have KX:K.In s.heap:=e0.mod.rB.keeps λ b o e=>(e0.bs b o e).1;have lim:s.heap.NoLimit:=e0.mod.nolimit.keeps λ b o e=>(e0.bs b o e).1;have ke:∀y∈ps.zip us,scope.names.lookup y.1=some .local\/(scope.names.lookup y.1=some .cell/\((cellsFrom (s.heap.objs.size+1) scope.names []).lookup y.1).isSome=true):=λ⟨n,v⟩ hy=>by
  rcases S.xS n (List.of_mem_zip hy).1 with q|q
  ·exact .inl q
  ·exact .inr ⟨q,PySem.W.cellsFrom_some _ _ _ (.inl q)⟩
 refine codeAny_call_function hr.depth (KX _ _ lk) rfl S.co S.gen rfl (PySem.W.codeRec_of KX de) (hb _ _ _ _ ?_);refine wpAny_newFunctionEnv_cells S.kind ke λ env he s1 x=>?_;subst he;refine⟨lim.keeps x.toInCall.keep,codeAny_func ?_⟩;obtain⟨t,ht,hq⟩:=eh A outer s H vs Q E (hr.deeper _) dI;have I:Inv (Mp CX P w K mg base N qual scope f Bf A outer s H E) [] (start N vs) H s1:=VT S hr.hd e0 hl r x;refine wpAny_mono (ht [] s1 (start N vs) H _ I hq) (λ fl s' hs=>?_) λ e s' hs=>hs;have fin:∀ {σ':St} {H':Hp} {v:V} {u:Value},Inv (Mp CX P w K mg base N qual scope f Bf A outer s H E) [] σ' H' s'->RelV v u->Q v H'->CE outer P w H s Q u s':=
  fun {σ' H' v u} J rv q=>⟨v,H',J.os,J.bare,J.base,J.AE,rv,q⟩
 cases fl with
 |ret u =>
  obtain⟨v,σ',H',J,rv,q⟩:=hs;exact fin J rv q
 |next =>
  obtain⟨σ',H',J,q⟩:=hs;exact fin (v:=V.AK) (u:=zco) J rfl q
 |brk =>
  obtain⟨_,_,_,q⟩:=hs;exact zcz q
 |cont =>
  obtain⟨_,_,_,q⟩:=hs;exact zcz q
section
variable {X:Cx}{x:Str}{p pos:Pos}{e:Expr}{es:List Expr}{t:TA}{id T:String}{r:List V->Hp->VK->Prop}
noncomputable def vE (r:List V->Hp->VK->Prop)(t:TA):TE:=λ σ H Q=>t σ H λ vs H1=>r vs H1 Q
theorem K4 (hc:FI X (.builtin id) r)(hg:Gl X x)(hm:X.mg x=none)(hv:bootBuiltins x=some (.builtin id))(ha:PA X (e::es) t)(hn:x ≠ "__name__" := by decide)(cC:(x==("__debug__" : Str))=false:=by decide)
 (he:starEach (e::es) X.env=(false,eval e X.env)::starEach es X.env:=by rfl) (bU:(backTo pos (starEach es X.env)).any (·.1)=false:=by rfl):PE X (.Call (.Name x p) (e::es) [] pos) (vE r t):=by
 intro pins s σ H Q I h;refine wpAny_Call_Name_kw (Fi I hg hm hv ?_ hn cC);exact PyProof.Rows.callWith_builtin1 (BA (ha pos pins s σ H _ I h) λ us s1 ⟨vs,H1,I1,r1,q1⟩=>hc pins s1 σ H1 vs us Q I1 r1 q1) he bU
theorem P5 (hc:FI X (.type T) r)(hg:Gl X x)(hm:X.mg x=none)(hv:bootBuiltins x=some (.type T))(ha:PA X (e::es) t)(hn:x ≠ "__name__" := by decide)(cC:(x==("__debug__" : Str))=false:=by decide)
 (he:starEach (e::es) X.env=(false,eval e X.env)::starEach es X.env:=by rfl) (bU:(backTo pos (starEach es X.env)).any (·.1)=false:=by rfl):PE X (.Call (.Name x p) (e::es) [] pos) (vE r t):=by
 intro pins s σ H Q I h;refine wpAny_Call_Name_kw (Fi I hg hm hv ?_ hn cC);exact zcb (BA (ha pos pins s σ H _ I h) λ us s1 ⟨vs,H1,I1,r1,q1⟩=>hc pins s1 σ H1 vs us Q I1 r1 q1) he bU
end
end L2
namespace HT
open PySem PyProof.Rows
noncomputable def lexLt:List Int->List Int->Bool
 |[],[]=>false
 |[],_::_=>true
 |_::_,[]=>false
 |x::xs,y::ys=>if x=y then lexLt xs ys else decide (x<y)
theorem Gv (x y:Int)(xs ys:List Int):lexLt (x::xs) (y::ys)=if x=y then lexLt xs ys else decide (x<y):=rfl
theorem Fj:lexLt [] []=false:=rfl
theorem MR (y:Int)(ys:List Int):lexLt [] (y::ys)=true:=rfl
theorem MS (x:Int)(xs:List Int):lexLt (x::xs) []=false:=rfl
theorem XW (A:Around)(s:Shared)(a:Int)(t:Tok)(c:Int)(u:Tok):∃e,SeqAt.EqAt A s (.int a t) (.int c u) e/\(e=true↔a=c):=
 ⟨(a==c),SeqAt.EqAt.int_int a t c u,by simp⟩
theorem XX (A:Around)(s:Shared)(a:Int)(t:Tok)(c:Int)(u:Tok)(prog:Program)(w:World)(E:Value->Shared->Prop)(Q:Value->Shared->Prop)(h:Q (.bool (decide (a<c))) s):
 wpAny (model prog w) A (richCompare .Lt (.int a t) (.int c u)) Q E s:=
 (PyProof.Rows.lt_int h:wpAny (model prog w) A (compareOp .Lt (.int a t) (.int c u)) Q E s)
section
open PySem.SeqAt
open PySem.AutoSeq1 (wpAny_loadPart')
open PySem.MeetsSeq PySem.MeetsSeq2 PySem.MeetsSeq3
theorem Oq (l b:Addr)(items bJ:Array Value)(n n2:Nat)(dd ph:Option Addr)(sl fm:Array (Option Value))(ns ms:List Int)(hi:IntsAre items.toList ns)(hj:IntsAre bJ.toList ms):
 Meets (Builtin.«tuple.__lt__» ⟨[.ref l,.ref b],[]⟩)
  (λ _ R s=>s.heap.get? l=some {cls:=.type "tuple",dict:=dd,data:=.seq items n,slots:=sl}/\s.heap.get? b=some {cls:=.type "tuple",dict:=ph,data:=.seq bJ n2,slots:=fm}/\
   R (.ok (.ret (.bool (lexLt ns ms)))) s):=
 .of_wp λ prog w A R s h=>by
  obtain⟨hp,g,d,tk,os⟩:=s;obtain⟨hl,hb,h⟩:=h;have f2:=AutoSeq1.sub_tuple_tuple;have z1:items.size=ns.length:=by rw[<-hi.length];simp
  have z2:bJ.size=ms.length:=by rw[<-hj.length];simp
  wp_walk using wpAny_loadPart' hl,wpAny_loadPart' hb,wpAny_forIn_list _ (λ rest b s'=>b.1=none/\s'=⟨hp,g,d,tk,os⟩/\∃(vs ws:List Value) (fv ju:List Int),rest=vs.zip ws/\
   IntsAre vs fv/\IntsAre ws ju/\fv.length+bJ.size=ju.length+items.size/\R (.ok (.ret (.bool (lexLt fv ju)))) ⟨hp,g,d,tk,os⟩) _
  case turn =>
   rintro ⟨y,x⟩ rest b s' ⟨bZ,rfl,vs,ws,fv,ju,hz,pi,nc,hlen,hR⟩;cases pi with
   |nil=>rw[List.zip_nil_left] at hz;cases hz
   |cons a t pj =>
    cases nc with
    |nil=>rw[List.zip_nil_right] at hz;cases hz
    |cons c u pk =>
     rw[List.zip_cons_cons] at hz;injection hz with xz kg
     injection xz with hy hx
     subst hy hx;rw[Gv] at hR;simp only[zad] at hlen;obtain⟨e,he,kh⟩:=XW A.in1 ⟨hp,g,d,tk,os⟩ a t c u;refine wpAny_bind (he prog w _ _ ?_);cases e with
     |true =>
      rw[if_pos (kh.mp rfl)] at hR
      wp_walk
      exact⟨rfl,rfl,_,_,_,_,kg,pj,pk,by omega,hR⟩
     |false =>
      rw[if_neg (λ q=>absurd (kh.mpr q) zao)] at hR;have x3:=XX A.in1 ⟨hp,g,d,tk,os⟩ a t c u prog w
      wp_walk using x3
      exact⟨_,rfl,by simpa using hR⟩
  case fin =>
   rintro ⟨b1,b2⟩ s' ⟨bZ,rfl,vs,ws,fv,ju,hz,pi,nc,hlen,hR⟩;simp only at bZ;subst bZ;have hv:lexLt fv ju=decide (items.size<bJ.size):=by
    cases pi with
    |nil =>
     cases nc with
     |nil =>
      simp only[zcm] at hlen;rw[Fj];exact (decide_eq_false (by omega)).symm
     |cons c u hw =>
      simp only[zcm,zad] at hlen;rw[MR];exact (decide_eq_true (by omega)).symm
    |cons a t hv =>
     cases nc with
     |nil =>
      simp only[zcm,zad] at hlen;rw[MS];exact (decide_eq_false (by omega)).symm
     |cons c u hw =>
      rw[List.zip_cons_cons] at hz;cases hz
   rw[hv] at hR
   wp_walk
   exact⟨_,rfl,by simpa [Builtin.Tuple.tupleCompareSizes] using hR⟩
  case h =>
   exact⟨rfl,rfl,items.toList,bJ.toList,ns,ms,rfl,hi,hj,by omega,h⟩
end
section
variable {prog:Program}{w:World}{A:Around}{E:Value->Shared->Prop}{s:Shared}
theorem Jp {l b:Addr}{items bJ:Array Value}{ns ms:List Int}{Q:Value->Shared->Prop}(hl:IsTup s.heap l items)(hb:IsTup s.heap b bJ)(hi:IntsAre items.toList ns)(hj:IntsAre bJ.toList ms)
 (hu:A.units<cLine) (h:Q (.bool (lexLt ns ms)) s):wpAny (model prog w) A (compareOp .Lt (.ref l) (.ref b)) Q E s:=by
 obtain⟨⟨cls,dd,data,sl⟩,ho,hc,n,hd⟩:=id hl;obtain⟨⟨x4,ph,data2,fm⟩,ng,nh,n2,hd2⟩:=id hb;simp only at hc hd nh hd2;subst hc hd nh hd2;exact richCompare_meets_room (op:=.Lt) ⟨_,ho,rfl⟩ ⟨_,ng,rfl⟩ PySem.F.slot_tuple_lt PySem.F.entry_tuple_lt (PySem.F.args_tuple_lt_2 _ _) (Oq l b items bJ n n2 dd ph sl fm ns ms hi hj)
  ⟨ho,ng,show Value.bool (lexLt ns ms)≠Value.notImplemented/\Q (.bool (lexLt ns ms)) s from ⟨(λ x=>nomatch x),h⟩⟩ hu
noncomputable def MT (n d:Nat):Option Int->Nat
 |none=>d
 |some v=>if v<0 then (v+(n:Int)).toNat else min v.toNat n
theorem Rm (n d:Nat):MT n d none=d:=rfl
theorem Mz (n d k:Nat):MT n d (some (k:Int))=min k n:=by
 show (if (k:Int)<0 then ((k:Int)+(n:Int)).toNat else min (k:Int).toNat n)=min k n;rw[if_neg (by omega),zc7]
end
end HT
namespace L2
open PySem PySem.Spec PyProof.Rows
noncomputable abbrev TO:=St->Hp->(Option Int->Hp->Prop)->Prop
def PO (X:Cx)(e:Option Expr)(t:TO):Prop:=
 ∀(pins:List (Addr×Obj)) (s:Shared) (σ:St) (H:Hp) (Q:Option Int->Hp->Prop),Inv X pins σ H s->t σ H Q->
  wpAny (model X.prog X.w) X.A (evalPart e X.env) (λ u s'=>∃o H',Inv X pins σ H' s'/\IsPart u o/\Q o H') X.xe s
noncomputable def fV:TO:=λ _ H Q=>Q none H
noncomputable def sW (t:TE):TO:=λ σ H Q=>t σ H λ x H1=>∃i,x=.int i/\Q (some i) H1
theorem intsAre_of {ns:List Int}:∀ {us:List Value},Vals (ns.map V.int) us->IntsAre us ns:=by
 induction ns with
 |nil=>intro us r;rw[List.map_nil] at r;cases r;exact .nil
 |cons n ns ih =>
  intro us r;rw[za8] at r;cases r with
  |cons r1 r2 =>
   obtain⟨t,e⟩:=r1;subst e;exact .cons n t (ih r2)
section
variable {X:Cx}{e:Expr}{te:TE}{lo hi:Option Expr}{tl th:TO}{pos p2:Pos}
theorem fW:PO X none fV:=by
 intro pins s σ H Q I h;rw[evalPart_none];exact wpAny_pure ⟨none,H,I,.none,h⟩
theorem fX (h:PE X e te):PO X (some e) (sW te):=by
 intro pins s σ H Q I hw;rw[evalPart_some];refine BA (h pins s σ H _ I hw) λ u s1 ⟨x,H1,I1,r1,q1⟩=>?_;obtain⟨i,rfl,q⟩:=q1;obtain⟨t,rfl⟩:=r1;exact⟨some i,H1,I1,.int i t,q⟩
def xT (X:Cx)(r:V->Option Int->Option Int->Hp->VK->Prop):Prop:=
 ∀(pins:List (Addr×Obj)) (s:Shared) (σ:St) (H:Hp) (x:V) (v vl vu:Value) (lo hi:Option Int) (sl:Addr) (Q:VK),Inv X pins σ H s->RelV x v->s.heap.IsSliceOf sl vl vu .none->IsPart vl lo->IsPart vu hi->r x lo hi H Q->
  ∃T id,typeLookup (.type T) "__getitem__" = pure (some (.builtin id))/\s.TypeIs v T/\wpAny (model X.prog X.w) X.A (getItem v (.ref sl)) (EP X pins σ Q) X.xe s
noncomputable def yP (r:V->Option Int->Option Int->Hp->VK->Prop)(te:TE)(tl th:TO):TE:=λ σ H Q=>te σ H λ x H1=>tl σ H1 λ l H2=>th σ H2 λ u H3=>r x l u H3 Q
theorem XY {r:V->Option Int->Option Int->Hp->VK->Prop}(hr:xT X r)(he:PE X e te)(hl:PO X lo tl)(hu:PO X hi th):PE X (.Subscript e (.Slice lo hi none p2) pos) (yP r te tl th):=by
 intro pins s σ H Q I h;refine Subscript_ (BA (he pins s σ H _ I h) λ v s1 ⟨x,H1,I1,r1,q1⟩=>?_);refine wpAny_Slice (BA (hl pins s1 σ H1 _ I1 q1) λ vl s2 ⟨l,H2,I2,pl,q2⟩=>BA (hu pins s2 σ H2 _ I2 q2) λ vu s3 ⟨u,H3,I3,pu,q3⟩=>?_);rw[evalPart_none];refine wpAny_pure ?_;have I4:Inv X pins σ H3 {s3 with heap:=s3.heap.push {cls:=.type "slice",data:=.fields #[vl,vu,.none]} }:=I3.kept (t':=s3.toks) λ b ob q=>zae _ q;obtain⟨T,id,hT,ht,hg⟩:=hr pins {s3 with heap:=s3.heap.push {cls:=.type "slice",data:=.fields #[vl,vu,.none]} } σ H3 x v vl vu l u s3.heap.objs.size Q I4 r1 (Heap.IsSliceOf.new ..) pl pu q3;show wpAny (model X.prog X.w) X.A (subscriptTail e (.Slice lo hi none p2) v (.ref s3.heap.objs.size)) (EP X pins σ Q) X.xe {s3 with heap:=s3.heap.push {cls:=.type "slice",data:=.fields #[vl,vu,.none]} };exact tail_any (ops:=[.ref s3.heap.objs.size,v]) ht hT hg (by with_unfolding_all rfl)
noncomputable def XZ (xs:List V)(lo hi:Option Int):List V:=(xs.drop (HT.MT xs.length 0 lo)).take (HT.MT xs.length xs.length hi-HT.MT xs.length 0 lo)
theorem Ro (xs:List V)(lo hi:Option Int):(XZ xs lo hi).length<=xs.length:=by
 unfold XZ;rw[zcd,zcp];omega
noncomputable def sX (K:za0):R2:=λ x y H Q=>∃a b ns ms,x=.ref a/\y=.ref b/\Gr K H a (ns.map V.int)/\Gr K H b (ms.map V.int)/\Q (.bl (HT.lexLt ns ms)) H
theorem Y0 (hu:X.A.units<cLine):Hm X (compareOp .Lt) (sX X.K):=by
 intro pins s σ H x y v u Q I rx ry h;obtain⟨a,b,ns,ms,rfl,rfl,ha,hb,q⟩:=h;cases rx;cases ry;obtain⟨aa,r1,p1,_⟩:=I.tuple ha;obtain⟨cN,r2,p2,_⟩:=I.tuple hb;have i1:IntsAre aa.toArray.toList ns:=intsAre_of r1;have i2:IntsAre cN.toArray.toList ms:=intsAre_of r2;exact HT.Jp p1 p2 i1 i2 hu ⟨.bl (HT.lexLt ns ms),H,I,rfl,q⟩
end
noncomputable def ZY (n:Nat)(i:Int):Option Nat:=if 0<=i then (if i<n then some i.toNat else none) else if -(n:Int)<=i then some (i+n).toNat else none
noncomputable def UJ {α:Type}(xs:List α)(i:Int):Option α:=(ZY xs.length i).bind λ j=>xs[j]?
theorem UK {n:Nat}{i:Int}{j:Nat}(h:ZY n i=some j):seqIndex? i n=some j/\j<n/\-(n:Int)<=i/\i<n:=by
 unfold ZY at h;by_cases h0:0<=i
 ·rw[if_pos h0] at h;by_cases h1:i<n
  ·rw[if_pos h1] at h;have e:i.toNat=j:=zax h;exact⟨by rw[seqIndex_of h0 h1,e],by omega,by omega,h1⟩
  ·rw[if_neg h1] at h;cases h
 ·rw[if_neg h0] at h;by_cases h1 : -(n:Int)<=i
  ·rw[if_pos h1] at h;have e:(i+n).toNat=j:=zax h;exact⟨by rw[seqIndex_neg (by omega) h1,e],by omega,h1,by omega⟩
  ·rw[if_neg h1] at h;cases h
theorem UL {α:Type}{xs:List α}{i:Int}{v:α}(h:UJ xs i=some v):∃j,seqIndex? i xs.length=some j/\xs[j]?=some v/\j<xs.length/\-(xs.length:Int)<=i/\i<xs.length:=by
 unfold UJ at h;cases e:ZY xs.length i with
 |none=>rw[e] at h;cases h
 |some j =>
  rw[e] at h;obtain⟨h1,h2,h3,h4⟩:=UK e;exact⟨j,h1,h,h2,h3,h4⟩
def Qh (b:Expr):Prop:=∀o i,subscripted b false o i=operate [o,i] (getItem o i)
def fY (X:Cx)(r:R2):Prop:=
 ∀(value slice:Expr) (pins:List (Addr×Obj)) (s:Shared) (σ:St) (H:Hp) (x y:V) (v u:Value) (Q:VK),Inv X pins σ H s->RelV x v->RelV y u->r x y H Q->
  subscripted slice false v u=operate [v,u] (getItem v u)->wpAny (model X.prog X.w) X.A (subscriptTail value slice v u) (EP X pins σ Q) X.xe s
def xU (X:Cx)(id:String)(r:V->List V->Hp->VK->Prop):Prop:=
 ∀(pins:List (Addr×Obj)) (s:Shared) (σ:St) (H:Hp) (x:V) (xs:List V) (v:Value) (us:List Value) (Q:VK),Inv X pins σ H s->RelV x v->Vals xs us->r x xs H Q->
  wpAny (model X.prog X.w) X.A (call (.builtin id) (v::us)) (EP X pins σ Q) X.xe s
section
variable {X:Cx}{a b:Expr}{ta tb:TE}{pos:Pos}
theorem fY.or {r r':R2}(h:fY X r)(h':fY X r'):fY X (λ x y H Q=>r x y H Q\/r' x y H Q):=by
 intro value slice pins s σ H x y v u Q I rx ry q hs;rcases q with q|q
 ·exact h value slice pins s σ H x y v u Q I rx ry q hs
 ·exact h' value slice pins s σ H x y v u Q I rx ry q hs
theorem sY {r:R2}(hr:fY X r)(ha:PE X a ta)(hb:PE X b tb)(hs:Qh b):PE X (.Subscript a b pos) (rE r ta tb):=by
 intro pins s σ H Q I h;exact Subscript_ (nJ ha hb I h λ v u s2 x y H2 I2 rx ry q=>hr a b pins s2 σ H2 x y v u Q I2 rx ry q (hs _ _))
noncomputable def nW (K:za0):R2:=λ x y H Q=>∃p xs i v,x=.ref p/\y=.int i/\DL K H p xs/\UJ xs i=some v/\Q v H
noncomputable def nX (K:za0):R2:=λ x y H Q=>∃p xs i v,x=.ref p/\y=.int i/\Gr K H p xs/\UJ xs i=some v/\Q v H
theorem fZ:fY X (nW X.K):=by
 intro value slice pins s σ H x y v u Q I rx ry h hs;obtain⟨p,xs,i,z,rfl,rfl,hq,he,q⟩:=h;cases rx;obtain⟨t,rfl⟩:=ry;obtain⟨aa,r,pl,hz⟩:=I.list hq;obtain⟨j,h1,h2,h3,h4,h5⟩:=UL he;obtain⟨w,ew,df⟩:=r.get h2;have hl:=r.length;have hn:=La;have fin:EP X pins σ Q w s:=⟨z,H,I,df,q⟩;by_cases h0:0<=i
 ·have hj:i.toNat=j:=by
   rw[seqIndex_of h0 h5] at h1;exact zax h1
  exact item_listR pl.isList h0 (by omega) (by rw[hj];simpa using ew) fin hs
 ·have hj:(i+(aa.toArray.size:Int)).toNat=j:=by
   rw[seqIndex_neg (by omega) h4] at h1;rw[zaa,<-hl];exact zax h1
  exact subscriptTail_builtinR (x:=w) pl.isList.typeIs slot_list_getitem.lookup
   (wpAny_getItem_list_neg (Q:=λ r s'=>r=w/\EP X pins σ Q r s') pl.isList (by omega) (by rw[zaa]<;>omega) (by omega) (by rw[hj];simpa using ew) ⟨rfl,fin⟩) hs
theorem nY:fY X (nX X.K):=by
 intro value slice pins s σ H x y v u Q I rx ry h hs;obtain⟨p,xs,i,z,rfl,rfl,hq,he,q⟩:=h;cases rx;obtain⟨t,rfl⟩:=ry;obtain⟨aa,r,pl,hz⟩:=I.tuple hq;obtain⟨j,h1,h2,h3,h4,h5⟩:=UL he;obtain⟨w,ew,df⟩:=r.get h2;have hl:=r.length;have hn:=La;have fin:EP X pins σ Q w s:=⟨z,H,I,df,q⟩;exact subscriptTail_builtinR (x:=w) pl.typeIs slot_tuple_getitem.lookup
  (getItem_tuple (j:=j) (Q:=λ r s'=>r=w/\EP X pins σ Q r s') pl (by omega) (by omega) (by rw[zaa,<-hl];exact h1) (by simpa using ew) ⟨rfl,fin⟩) hs
theorem Ts (aa:List Value)(n j:Nat)(u:Value):zc2 (·.setIfInBounds j u) {cls:=.type "list",data:=.seq aa.toArray n}={cls:=.type "list",data:=.seq (aa.set j u).toArray n}:=by
 simp[zc2]
theorem Inv.lst {pins:List (Addr×Obj)}{σ:St}{H:Hp}{s:Shared}{p:Addr}{xs:List V}(I:Inv X pins σ H s)(h:H p=some (.lst xs)):
 ∃(aa:List Value) (n:Nat),Vals xs aa/\s.heap.get? p=some {cls:=.type "list",data:=.seq aa.toArray n}/\xs.length<=sizeLine:=by
 obtain⟨z,aa,n,r,e⟩:=I.AE p _ h;exact⟨aa,n,r,e,z⟩
theorem Inv.nZ {pins:List (Addr×Obj)}{σ:St}{H:Hp}{s:Shared}{p:Addr}{xs ys:List V}{aa its':List Value}{n n':Nat}{f:Obj->Obj}(I:Inv X pins σ H s)(h:H p=some (.lst xs))
 (ho:s.heap.get? p=some {cls:=.type "list",data:=.seq aa.toArray n}) (hf:f {cls:=.type "list",data:=.seq aa.toArray n}={cls:=.type "list",data:=.seq its'.toArray n' }) (r:Vals ys its') (hz:ys.length<=sizeLine) (t:Nat):
 Inv X pins σ (upd H p (.lst ys)) {s with heap:=s.heap.update p f,toks:=t}:=by
 have e:(s.heap.update p f).get? p=some {cls:=.type "list",data:=.seq its'.toArray n' }:=by
  rw[zcq f ho (by rw[hf]<;>rfl),hf]
 refine I.write (x:=p) (e:=p) (by rw[h];trivial) (.inl rfl) (λ b u hb q=>(zd7 _ _ (zbp hb)).trans q) ⟨_,e⟩ ?_;exact⟨hz,its',n',r,e⟩
def sZ:V->V->V->Hp->(Hp->Prop)->Prop:=λ o i v H Q=>∃p xs k j,o=.ref p/\i=.int k/\H p=some (.lst xs)/\ZY xs.length k=some j/\Q (upd H p (.lst (xs.set j v)))
theorem set_list:sG X sZ:=by
 intro pins s σ H o i v ov iv u Q I ro ri rv h;obtain⟨p,xs,k,j,rfl,rfl,hp,hj,q⟩:=h;cases ro;obtain⟨t,rfl⟩:=ri;obtain⟨aa,n,r,ho,hz⟩:=I.lst hp;obtain⟨h1,h2,h3,h4⟩:=UK hj;have hl:=r.length;have hn:=La;have I':Inv X pins σ (upd H p (.lst (xs.set j v))) {s with heap:=s.heap.update p (zc2 (·.setIfInBounds j u))}:=
  I.nZ hp ho (Ts aa n j u) (r.set rv j) (by rw[zcl];exact hz) s.toks
 by_cases h0:0<=k
 ·have hk:k.toNat=j:=by
   rw[seqIndex_of h0 h4] at h1;exact zax h1
  exact PySem.W.ki_setAt ho h0 (by omega) (by rw[zaa,<-hl];exact h4) (by rw[hk];exact⟨_,I',q⟩)
 ·have hk:(k+(aa.toArray.size:Int)).toNat=j:=by
   rw[seqIndex_neg (by omega) h3] at h1;rw[zaa,<-hl];exact zax h1
  exact PySem.W.ki_setBack ho (by omega) (by rw[zaa,<-hl];exact h3) (by omega) (by rw[hk];exact⟨_,I',q⟩)
theorem Qi (lo hi:Option Int)(n:Nat):(sliceBounds lo hi none n).1=((HT.MT n 0 lo:Nat):Int)/\(sliceBounds lo hi none n).2.1=((HT.MT n n hi:Nat):Int)/\(sliceBounds lo hi none n).2.2=1:=by
 refine⟨?_,?_,rfl⟩
 ·cases lo with
  |none=>simp[sliceBounds,HT.MT]
  |some i =>
   simp only[sliceBounds,HT.MT,Option.getD_none,show (1:Int) > 0 by decide,if_true];by_cases h:i<0
   ·simp only[h,if_true]<;>omega
   ·simp only[h,if_false]<;>omega
 ·cases hi with
  |none=>simp[sliceBounds,HT.MT]
  |some i =>
   simp only[sliceBounds,HT.MT,Option.getD_none,show (1:Int) > 0 by decide,if_true];by_cases h:i<0
   ·simp only[h,if_true]<;>omega
   ·simp only[h,if_false]<;>omega
theorem Ot (aa:List Value)(lo hi:Option Int):slicePick aa.toArray lo hi none=((aa.drop (HT.MT aa.length 0 lo)).take (HT.MT aa.length aa.length hi-HT.MT aa.length 0 lo)).toArray:=by
 obtain⟨h1,h2,h3⟩:=Qi lo hi aa.toArray.size;unfold slicePick;rw[h1,h2,h3];simp only[sliceRange_one,pick_run,zaa]<;>rfl
def wQ (K:za0):V->Option Int->Option Int->Hp->VK->Prop:=λ x lo hi H Q=>∃a xs,x=.ref a/\DL K H a xs/\∀p,H p=none->Q (.ref p) (upd H p (.lst (XZ xs lo hi)))
theorem gB:xT X (wQ X.K):=by
 intro pins s σ H x v vl vu lo hi sl Q I rx hs pl pu h;obtain⟨a,xs,rfl,hx,q⟩:=h;cases rx;obtain⟨aa,r,ht,hz⟩:=I.list hx;have hlen:=r.length;refine⟨"list",_,slot_list_getitem.lookup,ht.isList.typeIs,?_⟩;refine wpAny_getItem_list_slice ht.isList hs pl pu .none (by simp) ?_ (by rw[zaa]<;>omega);rw[Ot,<-hlen];refine⟨.ref s.heap.objs.size,_,I.laid (t':=s.toks) (o:=.lst (XZ xs lo hi)) (λ b ob q=>zae _ q) (zal _) ?_,rfl,q _ (I.AE.fresh (zal _))⟩;exact⟨zbw (Ro xs lo hi) hz,_,0,(r.drop (HT.MT xs.length 0 lo)).take (HT.MT xs.length xs.length hi-HT.MT xs.length 0 lo),zau _ rfl⟩
noncomputable def K5:V->Bool
 | .AK| .bl _| .int _| .str _=>true
 |_=>false
noncomputable def lF:V->V->Bool
 | .AK,.AK=>true
 | .bl a,.bl b=>a==b
 | .bl a,.int b=>(if a then 1 else 0)==b
 | .int a,.bl b=>a==(if b then 1 else 0)
 | .int a,.int b| .str a,.str b=>a==b
 |_,_=>false
theorem oA {A:Around}{s:Shared}{y x:V}{u v:Value}(ry:RelV y u)(rx:RelV x v)(fy:K5 y=true)(fx:K5 x=true):SeqAt.EqAt A s u v (lF y x):=by
 cases y with
 |AK =>
  cases ry;cases x with
  |AK=>cases rx;exact SeqAt.EqAt.same _
  |bl b=>cases rx;exact SeqAt.EqAt.none_bool b
  |int b=>obtain⟨t,rfl⟩:=rx;exact SeqAt.EqAt.none_int b t
  |str b=>obtain⟨t,rfl⟩:=rx;exact SeqAt.EqAt.none_str b t
  |_=>exact absurd (show false=true from fx) zao
 |bl a =>
  cases ry;cases x with
  |AK=>cases rx;exact SeqAt.EqAt.bool_none a
  |bl b=>cases rx;exact SeqAt.EqAt.bool_bool a b
  |int b=>obtain⟨t,rfl⟩:=rx;exact SeqAt.EqAt.bool_int a b t
  |str b=>obtain⟨t,rfl⟩:=rx;exact SeqAt.EqAt.bool_str a b t
  |_=>exact absurd (show false=true from fx) zao
 |int a =>
  obtain⟨t',rfl⟩:=ry;cases x with
  |AK=>cases rx;exact SeqAt.EqAt.int_none a t'
  |bl b=>cases rx;exact SeqAt.EqAt.int_bool a t' b
  |int b=>obtain⟨t,rfl⟩:=rx;exact SeqAt.EqAt.int_int a t' b t
  |str b=>obtain⟨t,rfl⟩:=rx;exact SeqAt.EqAt.int_str a t' b t
  |_=>exact absurd (show false=true from fx) zao
 |str a =>
  obtain⟨t',rfl⟩:=ry;cases x with
  |AK=>cases rx;exact SeqAt.EqAt.str_none a t'
  |bl b=>cases rx;exact SeqAt.EqAt.str_bool a t' b
  |int b=>obtain⟨t,rfl⟩:=rx;exact SeqAt.EqAt.str_int a t' b t
  |str b=>obtain⟨t,rfl⟩:=rx;exact SeqAt.EqAt.str_str a t' b t
  |_=>exact absurd (show false=true from fx) zao
 |_=>exact absurd (show false=true from fy) zao
noncomputable def Tt (x:V)(u:Value):Bool:=match u with
 | .none=>lF .AK x
 | .bool b=>lF (.bl b) x
 | .int i _=>lF (.int i) x
 | .str z _=>lF (.str z) x
 |_=>false
theorem Y1 {x y:V}{u:Value}(r:RelV y u)(f:K5 y=true):Tt x u=lF y x:=by
 cases y with
 |AK|bl b=>cases r;rfl
 |int i|str z=>obtain⟨t,rfl⟩:=r;rfl
 |_=>exact absurd (show false=true from f) zao
theorem K6 {x:V}:∀ {xs:List V}{us:List Value},Vals xs us->xs.all K5=true->us.any (Tt x)=xs.any λ y=>lF y x
 |_,_,.nil,_=>rfl
 |y::xs,u::us,.cons r t,f=>by
  rw[List.all_cons,zb1] at f;rw[zdd,zdd,Y1 r f.1,K6 t f.2]
theorem Hs {A:Around}{s:Shared}{x:V}{v:Value}(rx:RelV x v)(fx:K5 x=true):∀ {xs:List V}{us:List Value},Vals xs us->xs.all K5=true->∀u∈us,SeqAt.EqAt A s u v (Tt x u)
 |_,_,.nil,_=>λ u hu=>by cases hu
 |y::xs,u::us,.cons r t,f=>λ u' hu=>by
  rw[List.all_cons,zb1] at f;rcases za9.mp hu with rfl|hu
  ·rw[Y1 r f.1];exact oA r rx f.1 fx
  ·exact Hs rx fx t f.2 u' hu
noncomputable def vF (x:V)(xs:List V):Bool:=xs.any λ y=>lF y x
noncomputable def vG (K:za0)(neg:Bool):R2:=λ x y H Q=>∃p xs,y=.ref p/\(DL K H p xs\/Gr K H p xs)/\K5 x=true/\xs.all K5=true/\Q (.bl (if neg then !vF x xs else vF x xs)) H
theorem VU:Hm X (compareOp .In) (vG X.K false):=by
 intro pins s σ H x y v u Q I rx ry h;obtain⟨p,xs,rfl,hq,fx,fs,q⟩:=h;cases ry;rcases hq with hq|hq
 ·obtain⟨aa,r,pl,hz⟩:=I.list hq;refine SeqAt.in_listAt (Tt x) pl.isList (λ w hw=>Hs rx fx r fs w (by simpa using hw)) ⟨.bl _,H,I,rfl,?_⟩;rw[show aa.toArray.any (Tt x)=aa.any (Tt x) by simp,K6 r fs];exact q
 ·obtain⟨aa,r,pl,hz⟩:=I.tuple hq;refine SeqAt.in_tupleAt (Tt x) pl (λ w hw=>Hs rx fx r fs w (by simpa using hw)) ⟨.bl _,H,I,rfl,?_⟩;rw[show aa.toArray.any (Tt x)=aa.any (Tt x) by simp,K6 r fs];exact q
theorem Qj:Hm X (compareOp .NotIn) (vG X.K true):=by
 intro pins s σ H x y v u Q I rx ry h;obtain⟨p,xs,rfl,hq,fx,fs,q⟩:=h;cases ry;rcases hq with hq|hq
 ·obtain⟨aa,r,pl,hz⟩:=I.list hq;refine SeqAt.notIn_listAt (Tt x) pl.isList (λ w hw=>Hs rx fx r fs w (by simpa using hw)) ⟨.bl _,H,I,rfl,?_⟩;rw[show aa.toArray.any (Tt x)=aa.any (Tt x) by simp,K6 r fs];exact q
 ·obtain⟨aa,r,pl,hz⟩:=I.tuple hq;refine SeqAt.notIn_tupleAt (Tt x) pl (λ w hw=>Hs rx fx r fs w (by simpa using hw)) ⟨.bl _,H,I,rfl,?_⟩;rw[show aa.toArray.any (Tt x)=aa.any (Tt x) by simp,K6 r fs];exact q
theorem Qk:FI X (.builtin "len") (λ xs H Q=>∃p ys,xs=[.ref p]/\(DL X.K H p ys\/Gr X.K H p ys)/\Q (.int ys.length) H):=by
 intro pins s σ H xs us Q I r h;obtain⟨p,ys,rfl,hq,q⟩:=h;obtain⟨u,rfl,rx⟩:=vals1 r;cases rx;have hn:=La;rcases hq with hq|hq
 ·obtain⟨aa,r',pl,hz⟩:=I.list hq;have hlen:=r'.length;exact Calls.call_len_list pl.isList (by simp only[zaa]<;>omega) ⟨.int ys.length,H,I.tok _,⟨s.toks+1,by rw[zaa,hlen]⟩,q⟩
 ·obtain⟨aa,r',pl,hz⟩:=I.tuple hq;have hlen:=r'.length;exact len_tuple pl (by simp only[zaa]<;>omega) ⟨.int ys.length,H,I.tok _,⟨s.toks+1,by rw[zaa,hlen]⟩,q⟩
theorem Ql:FI X (.type "list") (λ xs H Q=>∃p ys,xs=[.ref p]/\(DL X.K H p ys\/Gr X.K H p ys)/\∀l,H l=none->Q (.ref l) (upd H l (.lst ys))):=by
 intro pins s σ H xs us Q I r h;obtain⟨p,ys,rfl,hq,q⟩:=h;obtain⟨u,rfl,rx⟩:=vals1 r;cases rx;have fin:∀(aa:List Value),Vals ys aa->ys.length<=sizeLine->∀(h':Heap) (c':Nat),(∀b o',s.heap.get? b=some o'->h'.get? b=some o')->
  h'.get? s.heap.objs.size=some {cls:=.type "list",dict:=none,data:=.seq aa.toArray c',slots:=#[]}->EP X pins σ Q (.ref s.heap.objs.size) {s with heap:=h' }:=λ aa r' hz h' c' kp e =>
  ⟨.ref s.heap.objs.size,_,I.laid (t':=s.toks) kp (zal _) (show BK X.prog X.w _ h' _ (.lst ys) from ⟨hz,aa,c',r',e⟩),rfl,q _ (I.AE.fresh (zal _))⟩
 rcases hq with hq|hq
 ·obtain⟨aa,r',pl,hz⟩:=I.list hq;have hlen:=r'.length;obtain⟨o,ho,hc,n,hd⟩:=pl.isList;exact call_list_seq p (.inl rfl) ho hc hd (λ h' c' kp e=>fin aa r' hz h' c' kp e) (by simp only[zaa]<;>omega)
 ·obtain⟨aa,r',pl,hz⟩:=I.tuple hq;have hlen:=r'.length;obtain⟨o,ho,hc,n,hd⟩:=pl;exact call_list_seq p (.inr rfl) ho hc hd (λ h' c' kp e=>fin aa r' hz h' c' kp e) (by simp only[zaa]<;>omega)
theorem Ou:FI X (.type "tuple") (λ xs H Q=>∃p ys,xs=[.ref p]/\((DL X.K H p ys/\∀l,H l=none->Q (.ref l) (upd H l (.tup ys)))\/(Gr X.K H p ys/\Q (.ref p) H))):=by
 intro pins s σ H xs us Q I r h;obtain⟨p,ys,rfl,h⟩:=h;obtain⟨u,rfl,rx⟩:=vals1 r;cases rx;rcases h with ⟨hq,q⟩|⟨hq,q⟩
 ·obtain⟨aa,r',pl,hz⟩:=I.list hq;have hlen:=r'.length;refine call_tuple_list pl.isList (λ h' kp=>?_) (by simp only[zaa]<;>omega);have I1:Inv X pins σ H {s with heap:=h' }:=I.kept (t':=s.toks) kp;have I2:Inv X pins σ (upd H h'.objs.size (.tup ys)) {s with heap:=h'.push {cls:=.type "tuple",data:=.seq aa.toArray} }:=
   I1.laid (t':=s.toks) (λ b o e=>zae _ e) (zal _) (show BK X.prog X.w _ _ _ (.tup ys) from ⟨hz,aa,r',IsTup.new _ _⟩)
  exact⟨.ref h'.objs.size,_,I2,rfl,q _ (I1.AE.fresh (zal _))⟩
 ·obtain⟨aa,r',pl,hz⟩:=I.tuple hq;exact call_tuple_same pl ⟨.ref p,H,I,rfl,q⟩
def wR (K:za0)(T:String)(x:V)(H:Hp):Prop:=match x with
 | .str _=>T = "str"
 | .int _=>T = "int"
 | .ref p=>(T = "list" /\ ∃xs,DL K H p xs)\/(T = "tuple" /\ ∃o,K.lookup p=some o/\o.cls=.type "tuple" /\ o.dict=none) \/
  (T = "dict" /\ ((∃kvs,H p=some (.dK kvs))\/∃kvs,H p=some (.dT kvs)))\/(T = "set" /\ ∃S n,H p=some (.set S n))
 |_=>False
theorem Y2 {pins:List (Addr×Obj)}{σ:St}{H:Hp}{s:Shared}{T:String}{x:V}{v:Value}(I:Inv X pins σ H s)(r:RelV x v)(ty:wR X.K T x H):
 s.TypeIs v T/\∀a,v=.ref a->∃ob,s.heap.get? a=some ob/\ob.dict=none:=by
 cases x with
 |str z =>
  obtain⟨t,rfl⟩:=r;cases (show T = "str" from ty);exact⟨typeIs_str s z t,λ _ e=>nomatch e⟩
 |int i =>
  obtain⟨t,rfl⟩:=r;cases (show T = "int" from ty);exact⟨typeIs_int s i t,λ _ e=>nomatch e⟩
 |ref p =>
  cases r;rcases ty with ⟨rfl,xs,hq⟩|⟨rfl,o,hk,hc,hd⟩|⟨rfl,hk⟩|⟨rfl,S,n,hk⟩
  ·obtain⟨aa,_,pl,_⟩:=I.list hq;refine⟨pl.isList.typeIs,λ a e=>?_⟩;cases e;obtain⟨o,n,e,c,hd,_⟩:=pl;exact⟨o,e,hd⟩
  ·refine⟨⟨o,I.Mx p o hk,hc⟩,λ a e=>?_⟩;cases e;exact⟨o,I.Mx _ o hk,hd⟩
  ·have z:∃o,s.heap.get? p=some o/\o.ExactDict:=by
    rcases hk with ⟨kvs,hk⟩|⟨kvs,hk⟩
    ·obtain⟨_,_,_,_,o,_,_,e,ex,_⟩:=I.AE p _ hk;exact⟨o,e,ex⟩
    ·obtain⟨_,_,_,_,o,_,_,e,ex,_⟩:=I.AE p _ hk;exact⟨o,e,ex⟩
   obtain⟨o,e,ex⟩:=z;refine⟨⟨o,e,ex.1⟩,λ a e2=>?_⟩;cases e2;exact⟨o,e,ex.2.1⟩
  ·obtain⟨o,_,_,_,e,ex,_⟩:=I.AE p _ hk;refine⟨⟨o,e,ex.1⟩,λ a e2=>?_⟩;cases e2;exact⟨o,e,ex.2.1⟩
 |_=>exact zcz ty
noncomputable def wU (K:za0)(T:String)(r:V->List V->Hp->VK->Prop)(to:TE):TE:=λ σ H Q=>to σ H λ x H1=>wR K T x H1/\r x [] H1 Q
noncomputable def yQ (K:za0)(T:String)(r:V->List V->Hp->VK->Prop)(to:TE)(t:TA):TE:=λ σ H Q=>to σ H λ x H1=>wR K T x H1/\t σ H1 λ xs H2=>r x xs H2 Q
variable {o e:Expr}{es:List Expr}{to:TE}{t:TA}{name:Str}{apos ar:Pos}{T id:String}{r:V->List V->Hp->VK->Prop}
theorem oB (pa:PlainAttrs T)(slot:Slot T name id)(pq:typeOf (.builtin id)=pure (.type "method_descriptor"))(hm:xU X id r)(ho:PE X o to)
 (bA:attributeBase o name X.env (eval o X.env)=eval o X.env:=by rfl) (bB:(apos.endLine==ar.line)=true:=by rfl):PE X (.Call (.Attribute o name apos) [] [] ar) (wU X.K T r to):=by
 intro pins s σ H Q I h;refine wpAny_Call_method0_late bA bB (BA (ho pins s σ H _ I h) λ v s1 ⟨x,H1,I1,r1,ty,q1⟩=>?_);obtain⟨h1,h2⟩:=Y2 I1 r1 ty;exact⟨T,id,pa,slot,pq,h1,h2,Calls.callWith_builtin rfl (PySem.evalArgs_none (hm pins s1 σ H1 x [] v [] Q I1 r1 .nil q1))⟩
theorem Rp (pa:PlainAttrs T)(slot:Slot T name id)(pq:typeOf (.builtin id)=pure (.type "method_descriptor"))(hm:xU X id r)(ho:PE X o to)(ha:PA X (e::es) t)
 (bA:attributeBase o name X.env (eval o X.env)=eval o X.env:=by rfl)
 (cG:((backTo ar (starEach (e::es) X.env)).all (λ x => !x.1)&&(backToKw ar (keywordEach [] X.env)).all (λ x=>x.1.isSome)
  && decide ((e::es).length+([]:List Keyword).length+(if ([]:List Keyword).isEmpty then 0 else 1)<30))=true:=by rfl)
 (bB:(apos.endLine==ar.line)=true:=by rfl) (hs:starEach (e::es) X.env=(false,eval e X.env)::starEach es X.env:=by rfl) (aZ:(backTo ar (starEach es X.env)).any (·.1)=false:=by rfl):
 PE X (.Call (.Attribute o name apos) (e::es) [] ar) (yQ X.K T r to t):=by
 intro pins s σ H Q I h;refine wpAny_Call_method_late bA cG bB rfl (BA (ho pins s σ H _ I h) λ v s1 ⟨x,H1,I1,r1,ty,q1⟩=>?_);obtain⟨h1,h2⟩:=Y2 I1 r1 ty;refine⟨T,id,pa,slot,pq,h1,h2,?_⟩;have hA:=ha ar pins s1 σ H1 _ I1 q1;rw[hs] at hA ⊢;refine Calls.callWith_builtin (by show (false||(backTo ar (starEach es X.env)).any (·.1))=false;rw[aZ]<;>rfl) (Calls.evalArgs_plain ?_);exact BA hA λ us s2 ⟨vs,H2,I2,r2,q2⟩=>hm pins s2 σ H2 x vs v us Q I2 r1 r2 q2
end
def tD (X:Cx)(id:String)(r:V->List V->Hp->VK->Prop):Prop:=
 ∀(pins:List (Addr×Obj)) (s:Shared) (σ:St) (H:Hp) (x:V) (xs:List V) (v:Value) (us:List Value) (Q:VK),Inv X pins σ H s->RelV x v->Vals xs us->r x xs H Q->
  wpAny (model X.prog X.w) X.A (call (.builtin id) (v::us)) (EP X pins σ Q) X.xe s
theorem Vals.one:∀ {x:V}{us:List Value},Vals [x] us->∃u,us=[u]/\RelV x u
 |_,_,.cons r .nil=>⟨_,rfl,r⟩
theorem Vals.two:∀ {x y:V}{us:List Value},Vals [x,y] us->∃u v,us=[u,v]/\RelV x u/\RelV y v
 |_,_,_,.cons r (.cons q .nil)=>⟨_,_,rfl,r,q⟩
theorem Vals.zero:∀ {us:List Value},Vals [] us->us=[]
 |_,.nil=>rfl
theorem Vals.dropLast {xs:List V}{us:List Value}(h:Vals xs us):Vals xs.dropLast us.dropLast:=by
 induction h with
 |nil=>exact .nil
 |cons r t ih =>
  cases t with
  |nil=>exact .nil
  |cons q t'=>exact .cons r ih
theorem Vals.eraseIdx:∀ {xs:List V}{us:List Value}(i:Nat),Vals xs us->Vals (xs.eraseIdx i) (us.eraseIdx i)
 |_,_,_,.nil=>.nil
 |_,_,0,.cons _ t=>t
 |_,_,i+1,.cons r t=>.cons r (Vals.eraseIdx i t)
theorem Vals.rep {xs:List V}{us:List Value}(h:Vals xs us):∀k:Nat,Vals (zai k xs).flatten (zai k us).flatten
 |0=>.nil
 |k+1=>by
  rw[zbv,zbv,zd1,zd1];exact Vals.append h (Vals.rep h k)
theorem Tu {α:Type}(l:List α):l.eraseIdx (l.length-1)=l.dropLast:=by
 induction l with
 |nil=>rfl
 |cons a r ih =>
  cases r with
  |nil=>rfl
  |cons b r =>
   have e:(a::b::r).length-1=((b::r).length-1)+1:=by
    have h1:(a::b::r).length=r.length+2:=rfl;have h2:(b::r).length=r.length+1:=rfl;omega
   rw[e,List.eraseIdx_cons_succ,ih];all_goals rfl
theorem foldl_rep (aa:List Value):∀(k:Nat) (acc:List Value),
 List.foldl (λ x1 x2=>x1++x2) acc.toArray (zai k aa.toArray)=(acc++(zai k aa).flatten).toArray
 |0,acc=>by simp
 |k+1,acc=>by
  have e:acc.toArray++aa.toArray=(acc++aa).toArray:=by simp
  have e2:(acc++aa)++(zai k aa).flatten=acc++(zai (k+1) aa).flatten:=by
   rw[zbv,zd1,zck]
  rw[<-e2,<-foldl_rep aa k (acc++aa),<-e,zbv,zbd]
section
variable {X:Cx}{pins:List (Addr×Obj)}{σ:St}{H:Hp}{s:Shared}{l b:Addr}{xs ys zs:List V}
theorem Inv.Y3 {aa its':List Value}{n:Nat}{f:Array Value->Array Value}{t':Nat}(I:Inv X pins σ H s)(hH:H l=some (.lst xs))
 (e:s.heap.get? l=some {cls:=.type "list",data:=.seq aa.toArray n}) (hf:f aa.toArray=its'.toArray) (hv:Vals ys its') (hz:ys.length<=sizeLine):
 Inv X pins σ (upd H l (.lst ys)) {s with heap:=s.heap.update l (zc2 f),toks:=t' }:=by
 have q:=PySem.IsL.update e f;rw[hf] at q;refine I.write (x:=l) (e:=l) (by rw[hH];exact trivial) (.inl rfl) (λ b' u hb hu=>(zd7 s.heap (zc2 f) (zbp hb)).trans hu) ⟨_,q⟩ ?_;exact⟨hz,its',_,hv,q⟩
theorem Inv.oC {aa:List Value}{t':Nat}(I:Inv X pins σ H s)(hv:Vals ys aa)(hz:ys.length<=sizeLine):
 Inv X pins σ (upd H s.heap.objs.size (.lst ys)) {s with heap:=s.heap.push {cls:=.type "list",data:=.seq aa.toArray},toks:=t' }:=
 I.laid (λ _ _ q=>zae _ q) (zal _) ⟨hz,aa,0,hv,zau _ rfl⟩
theorem Inv.fresh (I:Inv X pins σ H s):H s.heap.objs.size=none:=I.AE.fresh (zal _)
theorem Inv.Tv (I:Inv X pins σ H s)(hH:H l=some (.lst xs)):xs.length<=sizeLine/\∃(aa:List Value) (n:Nat),Vals xs aa/\xs.length=aa.length/\s.heap.get? l=some {cls:=.type "list",data:=.seq aa.toArray n}:=by
 obtain⟨z,aa,n,r,e⟩:=I.AE l _ hH;exact⟨z,aa,n,r,r.length,e⟩
theorem MU {n:Nat}(h:n<=sizeLine):zc5 n=false:=by
 unfold zc5;exact decide_eq_false (by omega)
end
section
variable {X:Cx}
def gC:V->List V->Hp->VK->Prop:=λ x vs H Q=>∃l xs y,x=.ref l/\vs=[y]/\H l=some (.lst xs)/\xs.length<sizeLine/\Q .AK (upd H l (.lst (xs++[y])))
theorem P6:tD X "list.append" gC:=by
 intro pins s σ H x vs v us Q I rx rv h;obtain⟨l,xs,y,rfl,rfl,hH,hz,q⟩:=h;cases rx;obtain⟨u,rfl,ru⟩:=rv.one;obtain⟨z,aa,n,r,hl,e⟩:=I.Tv hH;refine call_meets F.slot_list_append ⟨_,e,rfl⟩ F.entry_list_append (F.args_list_append_2 _ _) (PySem.list_append l aa.toArray n u (by rw[zaa];omega)) ⟨e,?_⟩;refine⟨.AK,_,I.Y3 (its':=aa++[u]) hH e (by simp) (r.append (.cons ru .nil)) ?_,rfl,q⟩;rw[zah,zc9];omega
def gD:V->List V->Hp->VK->Prop:=λ x vs H Q=>∃l b xs zs,x=.ref l/\vs=[.ref b]/\H l=some (.lst xs)/\H b=some (.lst zs)/\xs.length+zs.length<=sizeLine/\Q .AK (upd H l (.lst (xs++zs)))
theorem VV:tD X "list.extend" gD:=by
 intro pins s σ H x vs v us Q I rx rv h;obtain⟨l,b,xs,zs,rfl,rfl,hH,hB,hz,q⟩:=h;cases rx;obtain⟨u,rfl,ru⟩:=rv.one;cases ru;obtain⟨z,aa,n,r,hl,e⟩:=I.Tv hH;obtain⟨z2,cN,n2,r2,cA,e2⟩:=I.Tv hB;have hsz:aa.toArray.size+cN.toArray.size<=sizeLine:=by rw[zaa,zaa];omega
 have dg:¬ (!aa.toArray.isEmpty&&zc5 (aa.toArray.size+cN.toArray.size))=true:=by
  rw[MU hsz,Bool.and_false];exact zao
 refine call_meets F.slot_list_extend ⟨_,e,rfl⟩ F.entry_list_extend (F.args_list_extend_2 _ _)
  (AutoSeq1.list_extend_list_list_0 l aa.toArray n b cN.toArray n2 dg (by rw[zaa];omega) (by omega)) ⟨e,e2,?_⟩
 refine⟨.AK,_,I.Y3 (its':=aa++cN) hH e (by simp) (r.append r2) ?_,rfl,q⟩;rw[zah];omega
def wV:V->List V->Hp->VK->Prop:=λ x vs H Q=>∃l xs y,x=.ref l/\vs=[]/\H l=some (.lst xs)/\xs[xs.length-1]?=some y/\Q y (upd H l (.lst xs.dropLast))
theorem oE:tD X "list.pop" wV:=by
 intro pins s σ H x vs v us Q I rx rv h;obtain⟨l,xs,y,rfl,rfl,hH,hy,q⟩:=h;cases rx;have x5:=rv.zero;subst x5;obtain⟨z,aa,n,r,hl,e⟩:=I.Tv hH;obtain⟨u,hu,ru⟩:=r.get hy;have ik:aa.toArray[aa.toArray.size-1]?=some u:=by
  show aa.toArray[aa.length-1]?=some u;rw[<-zda,<-hl];exact hu
 refine call_meets F.slot_list_pop ⟨_,e,rfl⟩ F.entry_list_pop (F.args_list_pop_1 _) (MeetsSeq.list_pop_last l aa.toArray n u ik (by rw[zaa];omega)) ⟨e,?_⟩;refine⟨y,_,I.Y3 (its':=aa.dropLast) hH e ?_ r.dropLast ?_,ru,q⟩
 ·show aa.toArray.eraseIdxIfInBounds (aa.toArray.size-1)=aa.dropLast.toArray;rw[zaa,List.eraseIdxIfInBounds_toArray,Tu]
 ·rw[List.length_dropLast];omega
noncomputable def wW:R2:=λ x y H Q=>∃l k xs,x=.ref l/\y=.int k/\H l=some (.lst xs)/\-(2^63)<=k/\k<2^63/\xs.length*k.toNat<=sizeLine/\
 ∀p,H p=none->Q (.ref p) (upd H p (.lst (zai k.toNat xs).flatten))
theorem len_rep {α:Type}(xs:List α)(k:Nat):(zai k xs).flatten.length=k*xs.length:=by
 induction k with
 |zero=>simp
 |succ k ih=>rw[zbv,zd1,zah,ih,Nat.succ_mul,Nat.add_comm]
theorem oF:Hm X (binaryOp .Mult) wW:=by
 intro pins s σ H x y v u Q I rx ry h;obtain⟨l,k,xs,rfl,rfl,hH,h1,h2,hz,q⟩:=h;cases rx;obtain⟨t,rfl⟩:=ry;obtain⟨z,aa,n,r,hl,e⟩:=I.Tv hH;have hlen:aa.toArray.size*k.toNat<=sizeLine:=by rw[zaa,<-hl];exact hz
 have il:¬ aa.toArray.size*k.toNat > (2^63-1) / 8:=by
  have:(sizeLine:Nat)<=(2^63-1) / 8:=by decide
  omega
 have e7:¬ (!Builtin.List.listFitsIndex k)=true:=by
  rw[fitsIndex_both h1 h2];exact zao
 have dg:¬ zc5 (aa.toArray.size*k.toNat)=true:=by
  rw[MU hlen];exact zao
 have ck:List.foldl (λ x1 x2=>x1++x2) #[] (zai (if aa.toArray.isEmpty=true then 0 else k.toNat) aa.toArray)=(zai k.toNat aa).flatten.toArray:=by
  have f0:∀m:Nat,List.foldl (λ x1 x2=>x1++x2) #[] (zai m aa.toArray)=(zai m aa).flatten.toArray:=λ m=>by
   have:=foldl_rep aa m [];rw[List.nil_append] at this;exact this
  rw[f0];cases aa with
  |nil=>simp
  |cons a r'=>rw[if_neg (by simp)]
 refine wpAny_binaryOp_repeat_ref (T := "list") (U := "int") (by decide) ⟨_,e,rfl⟩ (λ s'=>typeIs_int s' k t) noFill_list_mul F.fills_int_mul F.slot_int_rmul repeat_list F.slot_int_index.lookup
  (call_meets F.slot_int_rmul (typeIs_int s k t) F.entry_int_rmul (F.args_int_rmul_2 _ _) (int___rmul___int_list k t l aa.toArray n)
   ⟨e,rfl,⟨_,e,rfl⟩,call_meets F.slot_list_mul ⟨_,e,rfl⟩ F.entry_list_mul (F.args_list_mul_2 _ _) (AutoListH.list___mul___list_int_3 l aa.toArray n k t e7 il dg) ⟨e,?_⟩⟩)
 rw[ck];exact⟨.ref _,_,I.oC (t':=s.toks) (r.rep k.toNat) (by rw[len_rep,Nat.mul_comm];exact hz),rfl,q _ I.fresh⟩
end
end L2
namespace wg
open PySem PySem.W PySem.Calls PyProof.Rows
theorem Mq {P:Params}{h:Heap}:∀(ns:List Int) (vs:List Value),WellAll P h vs (ns.map WData.int)->IntsAre vs ns:=by
 intro ns;induction ns with
 |nil =>
  intro vs w;rw[List.map_nil] at w;cases w;exact .nil
 |cons n ns ih =>
  intro vs w;rw[za8] at w;cases w with
  |cons a b =>
   cases a;exact .cons _ _ (ih _ b)
theorem VW {l:OpenLaw}{n:Nat}(hn:l.most=some n){P:Params}{h:Heap}{args:List WData}{vals:List Value}
 (f6:l.row.toRowW.claim.pre args=true) (ni:WellAll P h vals args):
 ∃a vs ns,vals=[zbe a]/\args=[WData.list (ns.map WData.int)]/\h.get? a=some {cls:=.type "list",data:=.seq vs.toArray}/\IntsAre vs ns/\ns.length<=n:=by
 have x6:WShape.hasAll [] args [.list .int]=true:=(pre_splitW f6).1;have hc:l.pre.holds [] {args:=args}=true:=(pre_splitW f6).2;obtain⟨d,r,rfl,h1,h2⟩:=hasAllW_cons x6;obtain rfl:=hasAllW_nil h2;obtain⟨xs,rfl,h3⟩:=hasW_list h1;obtain⟨ns,rfl⟩:=items_int h3;have hlen:ns.length<=n:=by
  unfold OpenLaw.pre at hc;have h4:(WTm.not (.lt (.lit (.int (n:Int))) (.len (.arg 0)))).holds [] {args:=[.list (ns.map .int)]}=true:=by
   have h4:=(holds_andW hc).1;rw[hn] at h4;exact h4
  have h5:=condW_of h4 (w_not (w_lt w_lit (w_len_list (w_arg rfl))));rw[za5] at h5;refine Nat.le_of_not_lt λ q=>?_;have q':(n:Int)<((ns.length:Nat):Int):=by omega
  first
   |(rw[decide_eq_true q'] at h5;exact absurd h5 (by decide))
   |(simp at h5;omega)
 cases ni with
 |cons w1 w2 =>
  cases w2;cases w1 with
  |list ho e8=>exact⟨_,_,ns,rfl,rfl,ho,Mq ns _ e8,hlen⟩
theorem VX (l:OpenLaw)(args:List WData):l.row.toRowW.claim.post args (.bool true) args=true:=
 postW_of (r:=l.row.toRowW) (X:=(true==true))
  (show WShape.has [] (.bool true) .bool=true by first|rfl|decide|simp[WShape.has,WShape.arms,WShape.armsAll])
  (show (WTm.eq .res (.lit (.bool true))).value [] {args:=args,res:=some (.bool true),after:=args}=some (.bool (true==true)) from w_eq_bool (w_res rfl) w_lit) rfl
end wg
namespace L2
open PySem PySem.Spec PyProof.Rows
theorem P7:∀ {vs:List Value}{ns:List Int},IntsAre vs ns->Vals (ns.map V.int) vs
 |_,_,.nil=>.nil
 |_,_,.cons n t h=>.cons ⟨t,rfl⟩ (P7 h)
def gE (H:Hp):Prop:=∀b,H b=none\/∃o xs,H b=some (.VL o (.lst xs))
theorem Rq {P:Program}{w:World}{K:za0}{mg mb:Str->Option Value}{CX:UG}{k:Nat}{fa a:Addr}{fd:FuncData}{x:Str}{sp:Sp}{s₁:Shared}{vs:List Value}{ns:List Int}
 (KX:K.In s₁.heap) (dJ:s₁.heap.Ns mainGlobals mg) (hb:s₁.heap.Ns builtinsNs mb) (nj:∀x:Str,x ≠ "__name__" -> mb x=bootBuiltins x) (pw:s₁.heap.NoLimit) (hg:s₁.gens=#[])
 (ha:s₁.heap.get? a=some {cls:=.type "list",data:=.seq vs.toArray}) (hi:IntsAre vs ns) (hl:ns.length<=sizeLine) (hr:BW k callerA)
 (F:∀base:Heap,K.In base->base.Ns mainGlobals mg->E8 P w K mg base CX k fa fd [x] sp) (kl:∀(s:Shared) (u:Value),BindsTo s fd ⟨[u],[]⟩ [(x,u)])
 (dI:∀H:Hp,gE H->DL K H a (ns.map V.int)->sp [.ref a] H (λ v _=>v=.bl true) λ _ _ _=>False)
 (ko:∀H e s',CX [] H s₁ (λ _ _ _=>False) e s'->False):
 codeAny (model P w) callerA (.call (.ref fa) ⟨[.ref a],[]⟩) (λ r s'=>r=.ok (.ret (.bool true))/\OldK s₁.heap s'.heap/\s'.os=s₁.os/\AllBare s'.gens) s₁:=by
 have rv:=P7 hi;have pz:=hi.length;have core:∀H:Hp,gE H->DL K H a (ns.map V.int)->FH P w H s₁.heap->(∀b,H b≠none->b=a)->(H a≠none->K.lookup a=none)->
  codeAny (model P w) callerA (.call (.ref fa) ⟨[.ref a],[]⟩) (λ r s'=>r=.ok (.ret (.bool true))/\OldK s₁.heap s'.heap/\s'.os=s₁.os/\AllBare s'.gens) s₁:=by
  intro H hO hS AE hA hK;have dB:∀ {b:Addr} {o:Obj},s₁.heap.get? b=some o->H b=none->(Qe s₁.heap H).get? b=some o:=λ e n=>XB e n;have kc:∀ {b:Addr} {o:Obj} {es:Array DictEntry} {ep:Nat},s₁.heap.get? b=some o->o.data=.dict es ep->H b=none:=fun {b o es ep} e d=>by
   cases q:H b with
   |none=>rfl
   |some u =>
    have e':b=a:=hA b (by rw[q];simp);subst e';rw[ha] at e;cases e;have d':Data.seq vs.toArray _=Data.dict es ep:=d;cases d'
  have nk:∀ {b:Addr} {m:Str->Option Value},s₁.heap.Ns b m->(Qe s₁.heap H).Ns b m:=fun {b m} ⟨o,es,ep,e,d,r⟩=>⟨o,es,ep,dB e (kc e d),d,r⟩;have wj:K.In (Qe s₁.heap H):=λ b o e=>dB (KX b o e) (by
   cases q:H b with
   |none=>rfl
   |some u =>
    have e':b=a:=hA b (by rw[q];simp);subst e';rw[hK (by rw[q];simp)] at e;cases e)
  have hM:Mod K mg (Qe s₁.heap H):=⟨wj,nk dJ,⟨mb,nk hb,nj⟩,let ⟨mc,h1,h2⟩:=pw;⟨mc,nk h1,h2⟩⟩;have e0:Tp P w K mg (Qe s₁.heap H) callerA [] s₁ H:=⟨rfl,hM,λ b o e=>fC e,Nat.le_of_eq (VM _ _),trivial,λ b hb=>absurd (show b∈([]:List Addr) from hb) (by simp),AE,.of_eq hg⟩;refine codeAny_mono ((F _ wj (nk dJ)).run callerA [] s₁ H ⟨[.ref a],[]⟩ [.ref a] [.ref a] _ _ hr e0 (kl s₁ (.ref a)) (.cons rfl .nil) (dI H hO hS)) λ r s' h=>?_;cases r with
  |error e=>exact (ko H e s' h).elim
  |ok fl =>
   cases fl with
   |next|brk|cont=>exact zcz h
   |ret u =>
    obtain⟨v,H',os,bare,un,im,r',q⟩:=h;have q':v=.bl true:=q;subst q';obtain rfl:u=Value.bool true:=r';refine⟨rfl,OldK.of_keep λ b o e=>?_,os,bare⟩;cases q:H b with
    |none=>exact un.keep b o e q (by intro z;exact absurd (show b∈([]:List Addr) from z) (by simp)) (by simp)
    |some u =>
     rcases hO b with z|⟨ob,xs,z⟩
     ·rw[q] at z;cases z
     ·have z2:=un.JZ b ob _ z;obtain⟨e1,_⟩:=AE b _ z;obtain⟨e2,_⟩:=im b _ z2;rw[e] at e1;cases e1;exact e2
 cases hk:K.lookup a with
 |some o =>
  have e:=KX a o hk;rw[ha] at e;cases e;refine core (λ _=>none) (λ _=>.inl rfl) (.inr ⟨_,vs.toArray,_,hk,rfl,rfl,rfl,by rw[zaa,pz];exact hl,by simpa using rv⟩) (λ b u z=>by have z':(none:Option HO)=some u:=z;cases z') (λ b z=>absurd rfl z) λ z=>absurd rfl z
 |none =>
  refine core (λ b=>if b=a then some (.VL {cls:=.type "list",data:=.seq vs.toArray} (.lst (ns.map V.int))) else none) (λ b=>?_) (.inl (.inr ⟨{cls:=.type "list",data:=.seq vs.toArray},if_pos rfl⟩)) (λ b u z=>?_) (λ b z=>?_) λ _=>hk
  ·by_cases hb:b=a
   ·exact .inr ⟨_,_,if_pos hb⟩
   ·exact .inl (if_neg hb)
  ·by_cases hb:b=a
   ·have z':=(if_pos hb).symm.trans z;cases z';subst hb;exact⟨ha,by rw[za5];exact hl,vs,_,rv,ha⟩
   ·have z':=(if_neg hb).symm.trans z;cases z'
  ·by_cases hb:b=a
   ·exact hb
   ·exact absurd (if_neg hb) z
noncomputable abbrev gF:UG:=λ _ _ _ _ _ _=>False
noncomputable abbrev E0:XK:=λ _ _ _=>False
structure Xq (K:za0)(x qual:Str)(st:Stmt)(f:Addr)(fd:FuncData):Prop where
 ex:∃(oc:Value) (od:Option Addr) (kV doc pm:Value) (an:Option Addr) (Bf ct:Value) (T7:Array (Option Value)),
  fd=zb8 x qual (B2 st) (AM st) (A6 st) .none kV doc pm an Bf ct/\K.lookup f=some ⟨oc,od,.func fd,T7⟩/\zbn K Bf qual=true
 kp:zb6 K (.ref f)=true
section
variable {P:Program}{w:World}{K:za0}{mg:Str->Option Value}{base:Heap}
theorem Xq.ok {x qual:Str}{st:Stmt}{f:Addr}{fd:FuncData}{N ps:List Str}{k:Nat}{sp:Sp}(F:Xq K x qual st f fd)(S:Ak N ps (A6 st))(len:∀vs H Q E,sp vs H Q E->vs.length=ps.length)
 (eh:∀(Bf:Value) (A:Around) (outer:List Env) (s:Shared) (H:Hp) (vs:List V) (Q:VK) (E:XK),BW k (A.deeper (envOfC qual (A6 st) s.heap.objs.size f Bf))->sp vs H Q E->
  ∃t,UA (Mp gF P w K mg base N qual (A6 st) f Bf A outer s H E).sC (AM st) t/\t {nx:=λ _ H'=>Q .AK H',rt:=Q} (start N vs) H):E8 P w K mg base gF (k+1) f fd ps sp:=by
 obtain⟨oc,od,kV,doc,pm,an,Bf,ct,T7,rfl,lk,de⟩:=F.ex;refine UI lk de S len λ A outer s H vs Q E hr dI=>?_;obtain⟨t,h,q⟩:=eh Bf A outer s H vs Q E hr dI;exact⟨t,h.sC,q⟩
theorem Xq.binds {x qual:Str}{st:Stmt}{f:Addr}{fd:FuncData}{ps:List Str}(F:Xq K x qual st f fd)
 (h:∀(kV doc pm:Value) (an:Option Addr) (Bf ct:Value) (us:List Value),us.length=ps.length->bindArgs (zb8 x qual (B2 st) (AM st) (A6 st) .none kV doc pm an Bf ct) ⟨us,[]⟩=pure (ps.zip us)):Binds K fd ps []:=by
 obtain⟨oc,od,kV,doc,pm,an,Bf,ct,T7,rfl,lk,de⟩:=F.ex;exact .all (h kV doc pm an Bf ct)
theorem Tw {x qual:Str}{st:Stmt}{f:Addr}{oc:Value}{od an:Option Addr}{T7:Array (Option Value)}{kV doc pm Bf ct:Value}(l:K.lookup f=some ⟨oc,od,.func (zb8 x qual (B2 st) (AM st) (A6 st) .none kV doc pm an Bf ct),T7⟩)
 (c:zbn K Bf qual=true) (k:zb6 K (.ref f)=true):Xq K x qual st f (zb8 x qual (B2 st) (AM st) (A6 st) .none kV doc pm an Bf ct):=⟨⟨oc,od,kV,doc,pm,an,Bf,ct,T7,rfl,l,c⟩,k⟩
end
theorem AS {n:Nat}(h:n<=1000):n<sizeLine:=Nat.lt_of_le_of_lt h (by decide)
section
variable {X:Cx}
theorem pv (i:Nat){x:Str}{pos:Pos}(hN:X.N[i]?=some x:=by rfl)(hv:vV X.env.scope x:=by first | exact zb4 rfl | exact Or.inr (zb4 rfl) | exact Or.inr (Or.inr rfl))(hd:(x==("__debug__" : Str))=false:=by decide)
 (de:(x==("__classdict__" : Str))=false:=by decide):PE X (.Name x pos) (Rg i):=mQ hN hv hd de
end
def Ag (H H':Hp):Prop:=∀b o,H b=some o->H' b=some o
theorem Ag.refl (H:Hp):Ag H H:=λ _ _ h=>h
theorem Ag.trans {H H1 H2:Hp}(a:Ag H H1)(b:Ag H1 H2):Ag H H2:=λ c o h=>b c o (a c o h)
theorem Ag.seq {K:za0}{H H':Hp}{a:Addr}{xs:List V}(e:Ag H H')(h:DL K H a xs):DL K H' a xs:=by
 rcases h with (h|⟨o,h⟩)|h
 ·exact .inl (.inl (e _ _ h))
 ·exact .inl (.inr ⟨o,e _ _ h⟩)
 ·exact .inr h
section
variable {κ:Type} [DecidableEq κ]
noncomputable def Ov (kvs:List (κ×V))(k:κ):Option V:=(kvs.find? λ kv=>decide (kv.1=k)).map (·.2)
noncomputable def putK (kvs:List (κ×V))(k:κ)(v:V):List (κ×V):=
 if (kvs.any λ kv=>decide (kv.1=k))=true then kvs.map (λ kv=>if kv.1=k then (kv.1,v) else kv) else kvs++[(k,v)]
theorem MV {p:κ×V}{r:List (κ×V)}{k:κ}(e:p.1=k):Ov (p::r) k=some p.2:=by simp[Ov,zdb,e]
theorem MW {p:κ×V}{r:List (κ×V)}{k:κ}(e:¬ p.1=k):Ov (p::r) k=Ov r k:=by simp[Ov,zdb,e]
theorem Rr (k:κ):∀kvs:List (κ×V),(kvs.any λ kv=>decide (kv.1=k))=(Ov kvs k).isSome
 |[]=>rfl
 |p::r=>by
  rw[zdd];by_cases e:p.1=k
  ·simp only[MV e,decide_eq_true e,Bool.true_or,Option.isSome_some]
  ·rw[MW e,decide_eq_false e,Bool.false_or];exact Rr k r
theorem M9 (kvs:List (κ×V))(k:κ)(v:V):(putK kvs k v).length<=kvs.length+1:=by
 unfold putK;split
 ·rw[za5];omega
 ·rw[zah,zad,zcm];omega
theorem J2.FJ {o:Option V}{u:Option Value}(r:J2 o u):o.isSome=u.isSome:=by
 cases o with
 |none=>cases u with
  |none=>rfl
  |some _=>exact (show False from r).elim
 |some _=>cases u with
  |none=>exact (show False from r).elim
  |some _=>rfl
theorem KV.val {kvs:List (κ×V)}{vs:List (κ×Value)}(r:KV kvs vs)(k:κ):J2 (Ov kvs k) (valueAt vs k):=by
 unfold KV at r;induction r with
 |nil=>exact True.intro
 | @cons p q ps qs h t ih =>
  obtain⟨h1,h2⟩:=h;by_cases e:p.1=k
  ·have e':q.1=k:=h1.symm.trans e;have b:valueAt (q::qs) k=some q.2:=by simp[valueAt,zdb,e']
   rw[MV e,b];exact h2
  ·have e':¬ q.1=k:=λ z=>e (h1.trans z);have b:valueAt (q::qs) k=valueAt qs k:=by simp[valueAt,zdb,e']
   rw[MW e,b];exact ih
theorem KV.any {kvs:List (κ×V)}{vs:List (κ×Value)}(r:KV kvs vs)(k:κ):(kvs.any λ kv=>decide (kv.1=k))=vs.any λ kv=>decide (kv.1=k):=by
 unfold KV at r;induction r with
 |nil=>rfl
 |cons h t ih=>rw[zdd,zdd,ih,h.1]
theorem KV.oG {kvs:List (κ×V)}{vs:List (κ×Value)}(r:KV kvs vs)(k:κ){y:V}{u:Value}(ry:RelV y u):
 KV (kvs.map λ kv=>if kv.1=k then (kv.1,y) else kv) (vs.map λ kv=>if kv.1=k then (kv.1,u) else kv):=by
 unfold KV at r ⊢;induction r with
 |nil=>exact .nil
 | @cons p q ps qs h t ih =>
  rw[za8,za8];refine .cons ?_ ih;obtain⟨h1,h2⟩:=h;by_cases e:p.1=k
  ·rw[if_pos e,if_pos (h1.symm.trans e)];exact⟨h1,ry⟩
  ·rw[if_neg e,if_neg (λ z=>e (h1.trans z))];exact⟨h1,h2⟩
theorem KV.put {kvs:List (κ×V)}{vs:List (κ×Value)}(r:KV kvs vs)(k:κ){y:V}{u:Value}(ry:RelV y u):KV (putK kvs k y) (stored vs k u):=by
 unfold putK stored;rw[r.any k];by_cases e:(vs.any λ kv=>decide (kv.1=k))=true
 ·rw[if_pos e,if_pos e];exact r.oG k ry
 ·rw[if_neg e,if_neg e];exact Paired.snoc r ⟨rfl,ry⟩
theorem KV.length {kvs:List (κ×V)}{vs:List (κ×Value)}(r:KV kvs vs):kvs.length=vs.length:=Paired.length r
end
theorem Rt {P:Program}{w:World}{k:Key}{u:Value}(r:RelV (kV k) u):(BV P w).is k u=true:=by
 cases k with
 |inl i=>obtain⟨t,e⟩:=(show ∃t,u=Value.int i t from r);subst e;exact Rb P w i t
 |inr x=>obtain⟨t,e⟩:=(show ∃t,u=Value.str x t from r);subst e;exact Rc P w x t
theorem P8 {P:Program}{w:World}:∀ {ks:List Key}{us:List Value},Vals (ks.map kV) us->ItemsAre (BV P w) ks us
 |[],_,r=>by rw[List.map_nil] at r;cases r;exact .nil
 |k::ks,_,r=>by
  rw[za8] at r;cases r with
  |cons h t=>exact .cons (Rt h) (P8 t)
noncomputable abbrev KT (H:Hp):List (List Key×V)->List (List Key×Addr×Value)->Prop:=Paired λ p q=>p.1=q.1/\H q.2.1=some (.tup (p.1.map kV))/\RelV p.2 q.2.2
theorem KT.val {H:Hp}{kvs:List (List Key×V)}{xs:List (List Key×Addr×Value)}(r:KT H kvs xs)(k:List Key):J2 (Ov kvs k) ((atKey xs k).map (·.2)):=by
 induction r with
 |nil=>exact True.intro
 | @cons p q ps qs h t ih =>
  obtain⟨h1,_,h2⟩:=h;by_cases e:p.1=k
  ·have e':q.1=k:=h1.symm.trans e;have b:atKey (q::qs) k=some q.2:=by simp[atKey,zdb,e']
   rw[MV e,b];exact h2
  ·have e':¬ q.1=k:=λ z=>e (h1.trans z);have b:atKey (q::qs) k=atKey qs k:=by simp[atKey,zdb,e']
   rw[MW e,b];exact ih
theorem KT.oG {H:Hp}{kvs:List (List Key×V)}{xs:List (List Key×Addr×Value)}(r:KT H kvs xs)(k:List Key){y:V}{u:Value}(ry:RelV y u):
 KT H (kvs.map λ kv=>if kv.1=k then (kv.1,y) else kv) (xs.map (putAt k u)):=by
 induction r with
 |nil=>exact .nil
 | @cons p q ps qs h t ih =>
  rw[za8,za8];refine .cons ?_ ih;obtain⟨h1,h2,h3⟩:=h;unfold putAt;by_cases e:p.1=k
  ·rw[if_pos e,if_pos (h1.symm.trans e)];exact⟨h1,h2,ry⟩
  ·rw[if_neg e,if_neg (λ z=>e (h1.trans z))];exact⟨h1,h2,h3⟩
theorem KT.put {H:Hp}{kvs:List (List Key×V)}{xs:List (List Key×Addr×Value)}(r:KT H kvs xs)(k:List Key){b:Addr}{y:V}{u:Value}(hb:H b=some (.tup (k.map kV)))(ry:RelV y u):
 KT H (putK kvs k y) (storedH xs k b u):=by
 have e:(kvs.any λ kv=>decide (kv.1=k))=(atKey xs k).isSome:=by
  rw[Rr,(r.val k).FJ,Option.isSome_map]
 unfold putK storedH;rw[e];by_cases q:(atKey xs k).isSome=true
 ·rw[if_pos q,if_pos q];exact r.oG k ry
 ·rw[if_neg q,if_neg q];exact Paired.snoc r ⟨rfl,hb,ry⟩
theorem KT.keeps {H H':Hp}{kvs:List (List Key×V)}{xs:List (List Key×Addr×Value)}(r:KT H kvs xs)(ht:∀b ys,H b=some (.tup ys)->H' b=some (.tup ys)):KT H' kvs xs:=
 Paired.mO r λ _ _ z=>⟨z.1,ht _ _ z.2.1,z.2.2⟩
section
variable {P:Program}{w:World}{H:Hp}{h:Heap}{a:Addr}
theorem Y4 {u:HO}(ok:FH P w H h)(e:Rd H a u):BK P w H h a u:=e.ok ok
theorem P9 {kvs:List (Key×V)}(ok:FH P w H h)(e:Rd H a (.dK kvs)):kvs.length<=sizeLine/\(a==sysModules)=false/\∃vs,KV kvs vs/\h.DictOf (BV P w) a vs:=
 show BK P w H h a (.dK kvs) from Y4 ok e
theorem tE {kvs:List (Key×V)}(ok:FH P w H h)(e:H a=some (.dK kvs)):kvs.length<=sizeLine/\(a==sysModules)=false/\∃vs,KV kvs vs/\h.DictOf (BV P w) a vs:=P9 ok (.inl e)
theorem MX {ks:List Key}(ok:FH P w H h)(e:H a=some (.tup (ks.map kV))):(tupleKind (BV P w)).is h ks a:=by
 obtain⟨_,aa,r,o,h1,h2,n,h3⟩:=(show BK P w H h a (.tup (ks.map kV)) from ok a _ e);exact⟨o,aa.toArray,n,h1,h2,h3,by simpa using P8 r⟩
theorem MY {kvs:List (List Key×V)}(ok:FH P w H h)(e:Rd H a (.dT kvs)):kvs.length<=sizeLine/\(a==sysModules)=false/\
 ∃xs,KT H kvs xs/\h.DictOfH (tupleKind (BV P w)) a xs:=by
 obtain⟨z,y,xs,r,o,es,ep,h1,h2,h3,h4,h5⟩:=(show BK P w H h a (.dT kvs) from Y4 ok e);refine⟨z,y,xs,r,o,es,ep,h1,h2,h3,h4,λ x hx=>?_,h5⟩;have all:∀ {l:List (List Key×V)} {m:List (List Key×Addr×Value)},KT H l m->∀x∈m,(tupleKind (BV P w)).is h x.1 x.2.1:=by
  intro l m q;induction q with
  |nil=>intro x hx;exact nomatch hx
  | @cons p q ps qs hq t ih =>
   intro x hx;rcases za9.mp hx with e|hx
   ·subst e;exact MX ok (by rw[<-hq.1];exact hq.2.1)
   ·exact ih x hx
 exact all r x hx
theorem tF {kvs:List (List Key×V)}(ok:FH P w H h)(e:H a=some (.dT kvs)):kvs.length<=sizeLine/\(a==sysModules)=false/\
 ∃xs,KT H kvs xs/\h.DictOfH (tupleKind (BV P w)) a xs:=MY ok (.inl e)
end
def Tx (H:Hp)(a:Addr)(y:V)(r:Option V):Prop:=
 (∃kvs k,Rd H a (.dK kvs)/\y=kV k/\r=Ov kvs k)\/∃kvs k b,Rd H a (.dT kvs)/\y=.ref b/\H b=some (.tup (k.map kV))/\r=Ov kvs k
def tG (H:Hp)(a:Addr)(y v:V)(H':Hp):Prop:=
 (∃kvs k,H a=some (.dK kvs)/\y=kV k/\kvs.length<sizeLine/\H'=upd H a (.dK (putK kvs k v))) \/
 ∃kvs k b,H a=some (.dT kvs)/\y=.ref b/\H b=some (.tup (k.map kV))/\kvs.length<sizeLine/\H'=upd H a (.dT (putK kvs k v))
section
variable {X:Cx}{pins:List (Addr×Obj)}{σ:St}{H:Hp}{s:Shared}{a:Addr}{y v:V}{u r:Value}{o:Option V}{A:Around}{E:Value->Shared->Prop}
theorem Inv.big (I:Inv X pins σ H s):sysModules<s.heap.objs.size:=by
 have h:mainGlobals<s.heap.objs.size:=(I.mod.glob.keeps I.bk).lt;exact Nat.lt_trans (by decide) h
theorem VY {Q:Value->Shared->Prop}(hu:A.units+1<cLine)(I:Inv X pins σ H s)(g:Tx H a y (some v))(ry:RelV y u)(h:∀w' s',Inv X pins σ H s'->RelV v w'->Q w' s'):
 wpAny (model X.prog X.w) A (getItem (.ref a) u) Q E s:=by
 rcases g with ⟨kvs,k,e,ey,l⟩|⟨kvs,k,b,e,ey,eb,l⟩
 ·subst ey;obtain⟨z,hd,vs,rel,dd⟩:=P9 I.AE e;obtain⟨w',hw,df⟩:=J2.some_of (v:=v) (o:=valueAt vs k) (by rw[l];exact rel.val k);exact wpAny_getItem_of (Rt ry) dd.mapOf hw (h w' _ (I.tok _) df)
 ·subst ey;cases (show u=zbe b from ry);obtain⟨z,hd,xs,rel,dd⟩:=MY I.AE e;obtain⟨w',hw,df⟩:=J2.some_of (v:=v) (o:=(atKey xs k).map (·.2)) (by rw[l];exact rel.val k);obtain⟨p,hp,x8⟩:=Option.map_eq_some_iff.mp hw;refine wpAny_getItem_heap (tupleKind_room_in1 hu) (MX I.AE eb) dd hp ?_;rw[x8];exact h w' _ (I.tok _) df
theorem wX {Q:Value->Shared->Prop}(hu:A.units+1<cLine)(I:Inv X pins σ H s)(g:Tx H a y o)(ry:RelV y u)(h:∀s',Inv X pins σ H s'->Q (.bool o.isSome) s'):
 wpAny (model X.prog X.w) A (compareOp .In u (.ref a)) Q E s:=by
 rcases g with ⟨kvs,k,e,ey,l⟩|⟨kvs,k,b,e,ey,eb,l⟩
 ·subst ey;obtain⟨z,hd,vs,rel,dd⟩:=P9 I.AE e;refine wpAny_in_of (Rt ry) hd dd.mapOf ?_;rw[<-(rel.val k).FJ,<-l];exact h _ (I.tok _)
 ·subst ey;cases (show u=zbe b from ry);obtain⟨z,hd,xs,rel,dd⟩:=MY I.AE e;refine wpAny_in_heap (tupleKind_room_in1 hu) (MX I.AE eb) hd dd ?_;have q:=(rel.val k).FJ;rw[Option.isSome_map] at q;rw[<-q,<-l];exact h _ (I.tok _)
theorem gH {Q:Value->Shared->Prop}(hu:A.units+1<cLine)(I:Inv X pins σ H s)(g:Tx H a y o)(ry:RelV y u)(h:∀s',Inv X pins σ H s'->Q (.bool (!o.isSome)) s'):
 wpAny (model X.prog X.w) A (compareOp .NotIn u (.ref a)) Q E s:=by
 rcases g with ⟨kvs,k,e,ey,l⟩|⟨kvs,k,b,e,ey,eb,l⟩
 ·subst ey;obtain⟨z,hd,vs,rel,dd⟩:=P9 I.AE e;refine wpAny_notIn_of (Rt ry) hd dd.mapOf ?_;rw[<-(rel.val k).FJ,<-l];exact h _ (I.tok _)
 ·subst ey;cases (show u=zbe b from ry);obtain⟨z,hd,xs,rel,dd⟩:=MY I.AE e;refine wpAny_notIn_heap (tupleKind_room_in1 hu) (MX I.AE eb) hd dd ?_;have q:=(rel.val k).FJ;rw[Option.isSome_map] at q;rw[<-q,<-l];exact h _ (I.tok _)
theorem UM {h':Heap}{t':Nat}{ob:HO}(I:Inv X pins σ H s)(mu:rV (H a))(hs:zd4 a s.heap h')(he:∃q,h'.get? a=some q)(new:BK X.prog X.w (upd H a ob) h' a ob):
 Inv X pins σ (upd H a ob) {s with heap:=h',toks:=t' }:=
 I.write (x:=a) (e:=a) mu (.inl rfl) (λ b q hb z=>(hs.2 b hb).trans z) he new
theorem oH {P:Program}{w:World}{H':Hp}{h':Heap}{kvs:List (Key×V)}{vs:List (Key×Value)}(z:kvs.length<=sizeLine)(hd:(a==sysModules)=false)(rel:KV kvs vs)(dd:h'.DictOf (BV P w) a vs):
 BK P w H' h' a (.dK kvs):=⟨z,hd,vs,rel,dd⟩
theorem VZ {H':Hp}{Q:Unit->Shared->Prop}(hu:A.units+1<cLine)(I:Inv X pins σ H s)(g:tG H a y v H')(ry:RelV y u)(rv:RelV v r)(h:∀s',Inv X pins σ H' s'->Q () s'):
 wpAny (model X.prog X.w) A (setItem (.ref a) u r) Q E s:=by
 rcases g with ⟨kvs,k,e,ey,l,eH⟩|⟨kvs,k,b,e,ey,eb,l,eH⟩
 ·subst ey eH;obtain⟨z,hd,vs,rel,dd⟩:=tE I.AE e;have hz:vs.length<=sizeLine:=by rw[<-rel.length];exact z
  have hl:(putK kvs k v).length<=sizeLine:=by have:=M9 kvs k v;omega
  refine wpAny_setItem_pairs (hsz:=hz) (Rt ry) dd λ h' nq hs=>h _ ?_;have he:∃q,h'.get? a=some q:=let ⟨q,_,_,hq,_⟩:=nq;⟨q,hq⟩;exact UM I (by rw[e];exact True.intro) hs he (oH hl hd (rel.put k rv) nq)
 ·subst ey eH;cases (show u=zbe b from ry);obtain⟨z,hd,xs,rel,dd⟩:=tF I.AE e;have hz:xs.length<=sizeLine:=by rw[<-Paired.length rel];exact z
  have hl:(putK kvs k v).length<=sizeLine:=by have:=M9 kvs k v;omega
  refine wpAny_setItem_heap (hsz:=hz) (tupleKind_room_in1 hu) (MX I.AE eb) dd λ h' nq hs=>h _ ?_;obtain⟨q,es,ep,hq,h2,h3,h4,_,h5⟩:=nq;refine UM I (by rw[e];exact True.intro) hs ⟨q,hq⟩ ⟨hl,hd,_,(rel.put k eb rv).keeps λ c ys ec=>?_,q,es,ep,hq,h2,h3,h4,h5⟩;rw[Aq (rT ec e (λ z=>nomatch z))];exact ec
end
theorem Ru {X:Cx}{pins:List (Addr×Obj)}{σ:St}{H:Hp}{s:Shared}{a:Addr}{y:V}{o:Option V}(I:Inv X pins σ H s)(g:Tx H a y o):s.TypeIs (.ref a) "dict" := by
 rcases g with ⟨kvs,k,e,_,_⟩|⟨kvs,k,b,e,_,_,_⟩
 ·obtain⟨_,_,vs,_,dd⟩:=P9 I.AE e;exact dd.typeIs
 ·obtain⟨_,_,xs,_,dd⟩:=MY I.AE e;exact dd.typeIs
noncomputable def tH (td ty tv:TE):TS:=λ D σ H=>tv σ H λ v H1=>td σ H1 λ x H2=>ty σ H2 λ y H3=>∃a H4,x=.ref a/\tG H3 a y v H4/\D.nx σ H4
section
variable {X:Cx}{o i e value:Expr}{pos pos' dr:Pos}{td ty tv:TE}
theorem gI (hu:X.A.units+1<cLine)(ho:PE X o td)(hi:PE X i ty)(hv:PE X value tv)(hs:swapsWith value (some (.Subscript o i pos')) pos.line X.env=pure false):
 PS X (.Assign [.Subscript o i pos'] value pos) (tH td ty tv):=by
 intro pins s σ H D I h;refine wpAny_Assign_Subscript (BA (hv pins s σ H _ I h) λ r s1 ⟨v,H1,I1,rv,q1⟩=>BA (ho pins s1 σ H1 _ I1 q1) λ u s2 ⟨x,H2,I2,rx,q2⟩=>BA (hi pins s2 σ H2 _ I2 q2) λ iv s3 ⟨y,H3,I3,ry,a,H4,ex,g,q3⟩=>?_) hs;subst ex;obtain rfl:u=zbe a:=rx;exact VZ hu I3 g ry rv λ s4 I4=>⟨σ,H4,I4,q3⟩
end
theorem Y5 {P:Program}{w:World}{H:Hp}(h:Heap)(hb:sysModules<h.objs.size):BK P w H (h.push {cls:=.type "dict",data:=.dict #[]}) h.objs.size (.dK []):=
 ⟨zb9 _,beq_eq_false_iff_ne.mpr (zbp (zaz hb)),[],.nil,Heap.DictOf.new h⟩
theorem Y6 {P:Program}{w:World}{H:Hp}(h:Heap)(hb:sysModules<h.objs.size):BK P w H (h.push {cls:=.type "dict",data:=.dict #[]}) h.objs.size (.dT []):=
 ⟨zb9 _,beq_eq_false_iff_ne.mpr (zbp (zaz hb)),[],.nil,_,#[],0,zau _ rfl,⟨rfl,rfl,rfl⟩,rfl,rfl,zcj⟩
noncomputable def oI:TE:=λ _ H Q=>∀p,H p=none->Q (.ref p) (upd H p (.dK []))
noncomputable def oJ:TE:=λ _ H Q=>∀p,H p=none->Q (.ref p) (upd H p (.dT []))
section
variable {X:Cx}{pos:Pos}
theorem Y7:PE X (.Dict [] [] pos) oI:=λ pins s σ H Q I h =>
 wpAny_Dict_empty ⟨.ref s.heap.objs.size,_,I.laid (a:=s.heap.objs.size) (o:=.dK []) (t':=s.toks) (λ _ _ q=>zae _ q) (zal _) (Y5 s.heap I.big),rfl,h _ (I.AE.fresh (zal _))⟩
theorem Y8:PE X (.Dict [] [] pos) oJ:=λ pins s σ H Q I h =>
 wpAny_Dict_empty ⟨.ref s.heap.objs.size,_,I.laid (a:=s.heap.objs.size) (o:=.dT []) (t':=s.toks) (λ _ _ q=>zae _ q) (zal _) (Y6 s.heap I.big),rfl,h _ (I.AE.fresh (zal _))⟩
end
def yR (H:Hp)(a:Addr):Prop:=(∃kvs,Rd H a (.dK kvs))\/∃kvs,Rd H a (.dT kvs)
theorem Y9 {X:Cx}{pins:List (Addr×Obj)}{σ:St}{H:Hp}{s:Shared}{a:Addr}(I:Inv X pins σ H s)(d:yR H a):
 s.TypeIs (.ref a) "dict" /\ (∀b,zbe a=.ref b->∃ob,s.heap.get? b=some ob/\ob.dict=none)/\(a==sysModules)=false:=by
 rcases d with ⟨kvs,e⟩|⟨kvs,e⟩
 ·obtain⟨_,hd,vs,_,dd⟩:=P9 I.AE e;refine⟨dd.typeIs,λ b q=>?_,hd⟩;cases q;obtain⟨ob,_,_,h1,h2,_⟩:=dd;exact⟨ob,h1,h2.2.1⟩
 ·obtain⟨_,hd,xs,_,dd⟩:=MY I.AE e;refine⟨dd.typeIs,λ b q=>?_,hd⟩;cases q;obtain⟨ob,_,_,h1,h2,_⟩:=dd;exact⟨ob,h1,h2.2.1⟩
noncomputable def Lc (sc outer:Scope):Bool:=
 decide (sc.kind=.function)&&sc.names.all λ y=>decide (y.2≠.cell)&&(decide (y.2≠.free)||decide (outer.names.lookup y.1=some .cell)||decide (outer.names.lookup y.1=some .free))&&(decide (y.2≠.local)||decide (sc.names.lookup y.1=some .local))
noncomputable def Rv (N NB:List Str)(sc:Scope)(μ:List (Option Nat)):Bool:=
 decide (NB.length=μ.length)&&(NB.zip μ).all λ p=>match p.2 with
  |none=>true
  |some i=>decide (N[i]?=some p.1)&&decide (sc.names.lookup p.1=some .free)
noncomputable def Fl (μ:List (Option Nat))(σ:St):St:=μ.map λ o=>o.bind λ i=>(σ[i]?).join
noncomputable def J8 (cells:List (Str×Addr)):List (Str×NameKind)->List (Str×Addr)->List (Str×Addr)
 |[],cs=>cs
 |(n,k)::r,cs=>J8 cells r (if (k==.free)=true then (n,(cells.lookup n).getD 0)::cs else cs)
theorem Je {scope:Scope}{env:Env}(h:∀y∈scope.names,y.2=.free->∃c,env.cells.lookup y.1=some c):closureFor scope env=pure (J8 env.cells scope.names []):=by
 unfold closureFor;have key:∀(names:List (Str×NameKind)) (cs:List (Str×Addr)),(∀y∈names,y.2=.free->∃c,env.cells.lookup y.1=some c)->
  (forIn names cs λ(x:Str×NameKind) r=>match x with
   |(name,kind)=>if (kind==zd9)=true then do
    let __do_lift <-cellOf env name
    pure (zdj ((name,__do_lift)::r))
    else pure (zdj r):Sem _)=pure (J8 env.cells names cs):=by
  intro names;induction names with
  |nil=>intro cs _;rfl
  |cons y r ih =>
   intro cs hy;obtain⟨n,k⟩:=y;rw[List.forIn_cons];by_cases hk:k=.free
   ·subst hk;obtain⟨c,hc⟩:=hy (n,.free) za3 rfl;have e:cellOf env n=pure c:=by unfold cellOf;rw[show env.cells.lookup n=some c from hc]
    simp only[e,beq_self_eq_true,if_true,pure_bind];rw[ih _ λ z hz=>hy z (za4 _ hz)];simp only[J8,beq_self_eq_true,if_true];rw[show env.cells.lookup n=some c from hc];rfl
   ·have hb:(k==zd9)=false:=by simpa using hk
    simp only[hb,zap,if_false,pure_bind];rw[ih _ λ z hz=>hy z (za4 _ hz)];simp only[J8,hb,zap,if_false]
 have q:=key scope.names [] h;simp only[bind_pure];exact q
theorem Rw {cells:List (Str×Addr)}:∀ {names:List (Str×NameKind)}{cs:List (Str×Addr)}{x:Str}{c:Addr},(x,c)∈J8 cells names cs->(x,c)∈cs\/((x,.free)∈names/\c=(cells.lookup x).getD 0)
 |[],cs,x,c,h=>.inl h
 |(n,k)::r,cs,x,c,h=>by
  rcases Rw (names:=r) h with q|⟨q,e⟩
  ·by_cases hk:k=.free
   ·subst hk;simp only[beq_self_eq_true,if_true] at q;rcases za9.mp q with z|z
    ·cases z;exact .inr ⟨za3,rfl⟩
    ·exact .inl z
   ·have hb:(k==zd9)=false:=by simpa using hk
    simp only[hb,zap,if_false] at q;exact .inl q
  ·exact .inr ⟨za4 _ q,e⟩
theorem MZ {cells:List (Str×Addr)}:∀ {names:List (Str×NameKind)}{cs:List (Str×Addr)}{p:Str×Addr},p∈cs->p∈J8 cells names cs
 |[],_,_,h=>h
 |(n,k)::r,cs,p,h=>by
  show p∈J8 cells r _;refine MZ ?_;by_cases hk:(k==zd9)=true
  ·rw[if_pos hk];exact za4 _ h
  ·rw[if_neg hk];exact h
theorem N0 {cells:List (Str×Addr)}:∀ {names:List (Str×NameKind)}{cs:List (Str×Addr)}{x:Str},(x,.free)∈names->∃c,(x,c)∈J8 cells names cs
 |(n,k)::r,cs,x,h=>by
  rcases za9.mp h with z|z
  ·cases z;refine⟨(cells.lookup n).getD 0,?_⟩;show _∈J8 cells r (if (zd9==zd9)=true then _ else _);exact MZ (by rw[if_pos (beq_self_eq_true _)];exact za3)
  ·exact N0 (names:=r) z
theorem Fm {x:Str}{c:Addr}:∀ {l:List (Str×Addr)},(x,c)∈l->∃c',l.lookup x=some c'
 |(y,d)::r,h=>by
  rw[zd6];by_cases e:(x==y)=true
  ·rw[e];exact⟨d,rfl⟩
  ·rw[Bool.eq_false_iff.mpr e];rcases za9.mp h with z|z
   ·cases z;exact absurd (beq_self_eq_true x) e
   ·exact Fm z
theorem K7 {scope:Scope}{env:Env}{x:Str}{k:NameKind}(h:(relabel scope env).names.lookup x=some k):∃k',scope.names.lookup x=some k'/\(k=k'\/(k'=.free/\k=.cell)):=by
 unfold relabel at h;dsimp only at h;revert h;induction scope.names with
 |nil=>intro h;cases h
 |cons y r ih =>
  obtain⟨n,k'⟩:=y;intro h;rw[za8,zd6] at h;rw[zd6];by_cases hc:(k'==zd9&&env.scope.kind==.function&&env.kindOf n==some .cell)=true
  ·dsimp only at h;rw[if_pos hc] at h;dsimp only at h;cases e:x==n with
   |true =>
    rw[e] at h;have hf:k'=.free:=by
     have:=hc;simp only[zb1] at this;simpa using this.1.1
    exact⟨k',rfl,.inr ⟨hf,(zax h).symm⟩⟩
   |false=>rw[e] at h;exact ih h
  ·dsimp only at h;rw[if_neg hc] at h;dsimp only at h;cases e:x==n with
   |true=>rw[e] at h;exact⟨k',rfl,.inl (zax h).symm⟩
   |false=>rw[e] at h;exact ih h
theorem lookup_mem {α:Type}{x:Str}{k:α}:∀ {l:List (Str×α)},l.lookup x=some k->(x,k)∈l
 |(y,d)::r,h=>by
  rw[zd6] at h;cases e:x==y with
  |true =>
   rw[e] at h;cases h;have:x=y:=by simpa using e
   subst this;exact za3
  |false=>rw[e] at h;exact za4 _ (lookup_mem h)
noncomputable def blockOf (X:Cx)(s:Shared)(H:Hp)(scope:Scope)(C:Addr)(NB:List Str)(ex:List Addr):Cx:=
 {X with N:=NB,s₀:=s,H₀:=H,env:=compEnvC scope (J8 X.env.cells scope.names []) C X.env,outer:=X.stack,stack:=X.stack,ex:=ex,fn:=λ _=>false,pn:=[],xe:=λ _ _=>False}
section
variable {X:Cx}{pins:List (Addr×Obj)}{σ:St}{H:Hp}{s s4:Shared}{scope:Scope}{NB:List Str}{μ:List (Option Nat)}{fp:List Addr}{C:Addr}
theorem Ip (h:Lc scope X.env.scope=true):scope.kind=.function:=by
 unfold Lc at h;simp only[zb1,decide_eq_true_eq] at h;exact h.1
theorem Iq {sc outer:Scope}(h:Lc sc outer=true){y:Str×NameKind}(hy:y∈sc.names):y.2≠.cell/\(y.2=.free->outer.names.lookup y.1=some .cell\/outer.names.lookup y.1=some .free)/\(y.2=.local->sc.names.lookup y.1=some .local):=by
 unfold Lc at h;simp only[zb1,decide_eq_true_eq,List.all_eq_true,Bool.or_eq_true] at h;obtain⟨⟨h1,h2⟩,h3⟩:=h.2 y hy;exact⟨h1,λ e=>by
  rcases h2 with (q|q)|q
  ·exact absurd e q
  ·exact .inl q
  ·exact .inr q,λ e=>h3.elim (λ q=>absurd e q) id⟩
theorem Jq (I:Inv X pins σ H s)(h:Lc scope X.env.scope=true){x:Str}(hx:(x,.free)∈scope.names):∃c,X.env.cells.lookup x=some c:=I.ok.has x ((Iq h hx).2.1 rfl)
theorem EH (I:Inv X pins σ H s)(h:Lc scope X.env.scope=true){x:Str}{c:Addr}(e:(J8 X.env.cells scope.names []).lookup x=some c):X.env.cells.lookup x=some c:=by
 rcases Rw (lookup_mem e) with q|⟨q,r⟩
 ·cases q
 ·obtain⟨c',e'⟩:=Jq I h q;rw[e'] at r;rw[e',r];rfl
theorem N1 {env:Env}(h:Lc scope env.scope=true){x:Str}{k:NameKind}(hk:(relabel scope env).names.lookup x=some k)(hc:k=.cell\/k=.free):(x,.free)∈scope.names:=by
 obtain⟨k',e,q⟩:=K7 hk;have m:=lookup_mem e;have n:=(Iq h m).1;rcases q with q|⟨q,_⟩
 ·subst q;rcases hc with z|z
  ·exact absurd z n
  ·subst z;exact m
 ·subst q;exact m
theorem gJ (h:Rv X.N NB scope μ=true):NB.length=μ.length/\∀(j i:Nat),μ[j]?=some (some i)->∃x,NB[j]?=some x/\X.N[i]?=some x/\scope.names.lookup x=some .free:=by
 unfold Rv at h;simp only[zb1,decide_eq_true_eq,List.all_eq_true] at h;refine⟨h.1,λ j i e=>?_⟩;have hj:j<NB.length:=by rw[h.1];exact (zan.mp e).1
 have m:(NB[j],some i)∈NB.zip μ:=by
  refine List.mem_iff_getElem?.mpr ⟨j,?_⟩;rw[List.getElem?_zip_eq_some];exact⟨zaf hj,e⟩
 have q:=h.2 _ m;dsimp only at q;simp only[zb1,decide_eq_true_eq] at q;exact⟨NB[j],zaf hj,q.1,q.2⟩
theorem Rx (I:Inv X pins σ H s)(cg:Lc scope X.env.scope=true)(dL:Rv X.N NB scope μ=true)(jv:∀b∈fp,Mo X pins H b)(nr:∀b∈fp,∃o,s.heap.get? b=some o)
 (hC:s.heap.objs.size<=C) {h4:Heap} {t4:Nat} (ns:h4.Ns C λ _=>none) (k:∀b o,s.heap.get? b=some o->h4.get? b=some o):
 Inv (blockOf X s H scope C NB fp) [] (Fl μ σ) H {s with heap:=h4,toks:=t4}:=by
 obtain⟨hlen,dL⟩:=gJ dL;have wk:∀b o,s.heap.get? b=some o->b≠C:=λ b o e=>zaz (zaq (zak e) hC);have nu:∀x c,X.env.cells.lookup x=some c->c≠C:=λ x c e=>by
  obtain⟨v,o,ho,_⟩:=I.cell x c e;exact wk c o ho
 refine⟨⟨I.ok.mod,(show scope.kind=_ from Ip cg),I.ok.glob,I.ok.blt,hC,λ x y c h1 h2=>I.ok.inj x y c (EH I cg h1) (EH I cg h2),λ x hx=>?_,λ x c h _=>(by cases h),I.ok.hd,I.ok.frames,.inl rfl,λ b hb=>?_,I.bs,zbw I.ok.XC I.sz,λ b o e hb=>?_,λ b hb hz=>?_,I.stack,I.My⟩,
  rfl,I.bare,Un.kept k,⟨_,ns,λ j x v e1 e2 e3=>?_⟩,λ x c e=>?_,I.AE.fresh hC,λ x c e=>I.DD x c (EH I cg e),λ p hp=>(by cases hp),I.AE.kept k,?_⟩
 ·have q:(x,zd9)∈scope.names:=by
   rcases hx with hx|hx
   ·exact N1 cg hx (.inl rfl)
   ·exact N1 cg hx (.inr rfl)
  obtain⟨c,m⟩:=N0 (cells:=X.env.cells) (cs:=[]) q;exact Fm m
 ·obtain⟨o,ho⟩:=nr b hb;refine⟨wk b o ho,λ x c e z=>?_⟩;exact (jv b hb).2.2.2.2.1 x c (EH I cg e) z
 ·rcases (jv b hb).2.2.2.1 with z|z
  ·exact I.ok.T9 b o e z
  ·exact absurd (zaq (zak (I.ok.bs b o e).1) z) (Nat.lt_irrefl _)
 ·rcases za9.mp (I.Tb b hz) with e|e
  ·exact (jv b hb).2.1 e
  ·exact (jv b hb).2.2.1 e
 ·have kr:(μ[j]?).map (λ o=>o.bind λ i=>(σ[i]?).join)=some (some v):=by
   rw[<-zat];exact e2
  cases q:μ[j]? with
  |none=>rw[q] at kr;cases kr
  |some o =>
   rw[q] at kr;cases o with
   |none=>cases kr
   |some i =>
    have e4:(σ[i]?).join=some v:=by simpa using kr
    have e5:σ[i]?=some (some v):=by
     cases z:σ[i]? with
     |none=>rw[z] at e4;cases e4
     |some w=>rw[z] at e4;simp at e4;rw[e4]
    obtain⟨x',n1,n2,n3⟩:=dL j i q;have ex:x'=x:=zax (n1.symm.trans e1);subst ex;have m:=lookup_mem n3;have ov:=(Iq cg m).2.1 rfl;obtain⟨mm,hn,hl⟩:=I.loc;obtain⟨u,r,l⟩:=hl i x' v n2 e5 (ov.elim (λ z=>.inr (.inl z)) λ z=>.inr (.inr z));refine⟨u,r,.inr ⟨?_,?_⟩⟩
    ·rcases e3 with z|z|z
     ·obtain⟨k',z1,z2⟩:=K7 (k:=.local) z;rw[n3] at z1;cases z1;rcases z2 with z2|⟨_,z2⟩<;>cases z2
     ·exact .inl z
     ·exact .inr z
    ·rcases l with ⟨l,_⟩|⟨_,c,l1,l2⟩
     ·rcases ov with z|z<;>(rw[show X.env.kindOf x'=_ from z] at l;cases l)
     ·obtain⟨c',m'⟩:=N0 (cells:=X.env.cells) (cs:=[]) m;obtain⟨c'',l3⟩:=Fm m';have l4:=EH I cg l3;rw[l1] at l4;cases l4;refine⟨c,l3,?_⟩;obtain⟨o,ho,hd⟩:=l2;exact⟨o,k _ _ ho,hd⟩
 ·obtain⟨v,o,ho,hd⟩:=I.cell x c (EH I cg e);exact⟨v,o,k _ _ ho,hd⟩
 ·show (Fl μ σ).length=NB.length;unfold Fl;rw[za5,hlen]
theorem FH.adopt {P:Program}{w:World}{H:Hp}{h:Heap}{a:Addr}{o:HO}(x:FH P w H h)(hn:H a=none)(new:BK P w (upd H a o) h a o):FH P w (upd H a o) h:=λ b u e=>by
 by_cases hb:b=a
 ·subst hb;rw[AU] at e;cases e;exact new
 ·rw[Aq hb] at e;exact (x b u e).MM (λ c v _ q=>q) (λ c q=>by rw[Aq (AB q hn)];exact q) λ c xs q=>by rw[Aq (AB q hn)];exact q
theorem W0 {H':Hp}{s':Shared}{h':Heap}{D:Addr}{pl:List (Addr×Obj)}{σ':St}{aa:List Value}{ys:List V}{n:Nat}(I:Inv X pins σ H s)(jv:∀b∈fp,Mo X pins H b)(J:Inv (blockOf X s H scope C NB fp) pl σ' H' s')
 (hC:s.heap.objs.size<=C) (hD:s.heap.objs.size<=D) (eV:D≠C) (eD:s'.heap.get? D=some {cls:=.type "list",data:=.seq aa.toArray n}) (nD:H' D=none) (r:Vals ys aa) (hz:ys.length<=sizeLine)
 (sb:zd4 C s'.heap h'):Inv X pins σ (upd H' D (.lst ys)) {s' with heap:=h' }:=by
 have ip:∀b o,s.heap.get? b=some o->b≠C:=λ b o e=>zaz (zaq (zak e) hC);have qd:∀b o,s.heap.get? b=some o->b≠D:=λ b o e=>zaz (zaq (zak e) hD);have freshD:H D=none:=I.AE.fresh hD;have nC:H' C=none:=J.free;have u:Un (Ho X.stack) fp H H' s.heap s'.heap:=J.base;have im:FH X.prog X.w H' h':=λ b ob e=>(J.AE b ob e).MM (λ c v hc q=>(sb.2 c (by
  intro z;subst z;rcases hc with rfl|hc
  ·rw[nC] at e;cases e
  ·rw[nC] at hc;cases hc)).trans q) (λ _ q=>q) λ _ _ q=>q
 refine I.OS (ch:=fp) J.os ⟨λ b o e n hb hx=>?_,λ b o e n hb hx=>?_,λ b o e n hx=>?_,λ b o e hx=>?_,λ b xs e=>?_,λ b o u' e=>?_,λ b ps e=>?_⟩ (im.adopt nD ⟨hz,aa,n,r,(sb.2 D eV).trans eD⟩) J.bare λ b hb=>?_
 ·exact (sb.2 b (ip b o e)).trans (u.keep b o e n hb hx)
 ·obtain⟨sl,q⟩:=u.slot b o e n hb hx;exact⟨sl,(sb.2 b (ip b o e)).trans q⟩
 ·rw[Aq (qd b o e)];exact u.free b o e n hx
 ·obtain⟨o',q⟩:=u.there b o e hx;exact⟨o',(sb.2 b (ip b o e)).trans q⟩
 ·rw[Aq (AB e freshD)];exact u.L7 b xs e
 ·rw[Aq (AB e freshD)];exact u.JZ b o u' e
 ·rw[Aq (AB e freshD)];exact u.L8 b ps e
 ·obtain⟨_,f1,_,f3,f4,f5⟩:=jv b hb;exact⟨f3,f1,f4,f5⟩
end
theorem Qm {prog:Program}{w:World}{A:Around}{R:Result->Shared->Prop}{s:Shared}{elt target iter:Expr}{ifs:List Expr}{scope:Scope}{pos:Pos}{it acc:Value}{env:Env}(I:Nat->Shared->Prop)
 (turn:∀n s,I n s->wpAny (model prog w) A (pyNext it) (λ r s₁=>match r with
  |none=>R (.ok .next) s₁
  |some v=>wpAny (model prog w) A (letOwnedTupleGo target it v) (λ _ s₁'=>wpAny (model prog w) A (assign target env v) (λ _ s₂ =>
   wpAny (model prog w) A (forIn ifs true λ c r=>if r=true then do let ok <-isTrue c env (eval c env);pure (zdj ok) else pure (zdj r)) (λ ok s₃ =>
    if ok=true then wpAny (model prog w) A (eval elt env) (λ x s₄ =>
     wpAny (model prog w) A (call (.builtin "list.append") [acc,x]) (λ _ s₅=>∃m,m<n/\I m s₅) (λ _ _=>False) s₄) (λ _ _=>False) s₃
    else ∃m,m<n/\I m s₃) (λ _ _=>False) s₂) (λ _ _=>False) s₁') (λ _ _=>False) s₁) (λ _ _=>False) s)
 (n:Nat) (h:I n s):
 codeAny (model prog w) A (.compLoop (.ListComp elt [⟨target,iter,ifs,0⟩] scope pos) 0 it acc env) R s:=by
 refine codeAny_loop rfl I (λ n s hI=>?_) n h;show wpAny _ A ((compTurn (.ListComp elt [⟨target,iter,ifs,0⟩] scope pos) 0 it acc env).onRaise (λ x=>do noteFrame x env;theTreesLotGoes x)) _ _ s;refine wpAny_noted ?_;rw[compTurn_list];refine wpAny_bind (wpAny_standAt (wpAny_bind (wpAny_mono (turn n s hI) (λ r s₁ h₁=>?_) λ _ _ h'=>h'.elim)));cases r with
 |none=>exact wpAny_pure h₁
 |some v =>
  refine wpAny_bind (wpAny_mono h₁ (λ _ s₁' h₁'=>?_) λ _ _ h'=>h'.elim);refine wpAny_bind (wpAny_mono h₁' (λ _ s₂ h₂=>wpAny_bind (wpAny_mono h₂ (λ ok s₃ h₃=>?_) λ _ _ h'=>h'.elim)) λ _ _ h'=>h'.elim);cases ok with
  |false=>exact wpAny_pure ⟨rfl,h₃⟩
  |true =>
   exact wpAny_bind (wpAny_bind (wpAny_mono h₃ (λ x s₄ h₄=>wpAny_bind (wpAny_mono h₄ (λ _ s₅ h₅=>wpAny_pure (wpAny_pure ⟨rfl,h₅⟩)) λ _ _ h'=>h'.elim)) λ _ _ h'=>h'.elim))
def rF (X:Cx)(cs:List Expr)(t:TT):Prop:=
 ∀(pins:List (Addr×Obj)) (s:Shared) (σ:St) (H:Hp) (Q:Bool->Hp->Prop),Inv X pins σ H s->t σ H Q->
  wpAny (model X.prog X.w) X.A (forIn cs true λ c r=>if r=true then do let ok <-isTrue c X.env (eval c X.env);pure (zdj ok) else pure (zdj r)) (TP X pins σ Q) X.xe s
noncomputable def wY:TT:=λ _ H Q=>Q true H
theorem gL {X:Cx}:rF X [] wY:=λ _ _ _ H _ I h=>wpAny_tests_nil ⟨H,I,h⟩
theorem gM {X:Cx}{c:Expr}{t:TT}(h:PT X c t):rF X [c] t:=λ pins s σ H Q I q=>wpAny_tests_one (h pins s σ H Q I q)
def Ld (μ:List (Option Nat))(g:TG):Prop:=∀σ x H Q,g x (Fl μ σ) H Q->g x (Fl μ σ) H λ σ' H'=>Q σ' H'/\∀(j:Nat) v,(Fl μ σ)[j]?=some (some v)->σ'[j]?=some (some v)
theorem gN {μ:List (Option Nat)}{i:Nat}(h:μ[i]?=some none):Ld μ (OU i):=λ σ x H Q q=>by
 refine⟨q,λ j v e=>?_⟩;have au:j≠i:=λ z=>by
  subst z;unfold Fl at e;rw[zat,h] at e;cases e
 rw[zb3 (zbp au)];exact e
def xV (J:It)(H1:Hp)(Q:VK)(st:V->Hp->(St->Hp->Prop)->Prop)(tc:TT)(te:TE):Prop:=
 ∃W:Nat->Nat->List V->Hp->Prop,(∃m,W 0 m [] H1)/\∀i m ys H2,W i m ys H2->
  (J.stop i H2/\∀D,H2 D=none->Q (.ref D) (upd H2 D (.lst ys))) \/
  (J.go i H2/\ys.length<sizeLine/\∃N:List V->Hp->Prop,(∀dn H',N dn H'->∃m',m'<m/\W (i+1) m' dn H')/\∀x H3,J.lD i H2 x H3->st x H3 λ σ4 H4=>tc σ4 H4 λ b H5=>if b=true then te σ4 H5 λ y H6=>N (ys++[y]) H6 else N ys H5)
noncomputable def UN (wi:TI)(μ:List (Option Nat))(g:TG)(tc:Shared->Hp->Addr->List Addr->TT)(te:Shared->Hp->Addr->List Addr->TE):TE:=λ σ H Q=>wi σ H λ J H1=>∀s C ex,xV J H1 Q (λ x H K=>g x (Fl μ σ) H K) (tc s H1 C ex) (te s H1 C ex)
section
variable {X:Cx}{pins:List (Addr×Obj)}{σ:St}{H2:Hp}{s2:Shared}{tg elt iter:Expr}{ifs:List Expr}{scope:Scope}{pos:Pos}{NB:List Str}{μ:List (Option Nat)}{g:TG}{tc:Shared->Hp->Addr->List Addr->TT}{te:Shared->Hp->Addr->List Addr->TE}{fp:List Addr}{it:Addr}{tn:Nat->Heap->Prop}{J:It}{Q:VK}
theorem Pa (hc:X.calm=true)(I2:Inv X pins σ H2 s2)(T:Turn X.prog X.w X.K tg J fp it tn)(fg:tn 0 s2.heap)(f2:∀b∈fp,Mo X pins H2 b)
 (cg:Lc scope X.env.scope=true) (dL:Rv X.N NB scope μ=true) (kt:Ld μ g)
 (hb:∀(s:Shared) (H:Hp) (C:Addr) (ex:List Addr),PG (blockOf X s H scope C NB ex) tg g/\rF (blockOf X s H scope C NB ex) ifs (tc s H C ex)/\PE (blockOf X s H scope C NB ex) elt (te s H C ex))
 (q:∀C,xV J H2 Q (λ x H K=>g x (Fl μ σ) H K) (tc s2 H2 C fp) (te s2 H2 C fp)) {RR:Value->Addr->Result->Shared->Prop} {E:Value->Shared->Prop}
 (fin:∀(D C:Addr) (s':Shared) (H':Hp) (ys:List V) (m:Str->Option Value),s2.heap.objs.size<=D->s2.heap.objs.size<=C->D≠C->s'.heap.Ns C m->H' C=none->(∀h',zd4 C s'.heap h'->Inv X pins σ (upd H' D (.lst ys)) {s' with heap:=h' })->Q (.ref D) (upd H' D (.lst ys))->RR (.ref D) C (.ok .next) s'):
 wpAny (model X.prog X.w) X.A (newList []) (λ acc s₃=>wpAny (model X.prog X.w) X.A (newFunctionEnv scope X.env.globals (J8 X.env.cells scope.names []) [] X.env.qual none .none (some X.env)) (λ ku s₄ =>
  codeAny (model X.prog X.w) X.A (.compStart (.ListComp elt [⟨tg,iter,ifs,0⟩] scope pos) 0 (.ref it) acc {ku with scope:=relabel scope X.env}) (RR acc ku.locals) s₄) E s₃) E s2:=by
 have dA:∀y∈scope.names,y.2≠.cell:=λ y hy=>(Iq cg hy).1;refine wpAny_newObj_type (wpAny_newFunctionEnv dA (by intro y hy;simp at hy) (λ h₁ hns₁ hsb₁=>?_) (Ip cg));dsimp only at hns₁ hsb₁ ⊢;generalize qe:s2.heap.push {cls:=.type "list",dict:=none,data:=.seq ([]:List Value).toArray}=nv at hns₁ hsb₁ ⊢;have hC:nv.objs.size=s2.heap.objs.size+1:=by rw[<-qe,Heap.size_push]
 have eV:s2.heap.objs.size≠nv.objs.size:=by rw[hC];exact zaz (Nat.lt_succ_self _)
 have lb:s2.heap.objs.size<=nv.objs.size:=by rw[hC];exact Nat.le_succ _
 have old:∀b o,s2.heap.get? b=some o->h₁.get? b=some o:=λ b o e=>hsb₁.extBut b o (by rw[hC];exact zaz (Nat.lt_succ_of_lt (zak e))) (zae _ (qe▸zae _ e));have eD:h₁.get? s2.heap.objs.size=some {cls:=.type "list",data:=.seq ([]:List Value).toArray}:=hsb₁.extBut _ _ eV (zae _ (qe▸zau _ rfl));have nr:∀b∈fp,∃o,s2.heap.get? b=some o:=λ b hb=>let ⟨o,e,_⟩:=T.obj _ _ fg b hb;⟨o,e⟩;have qg:∀b∈fp,b≠s2.heap.objs.size:=λ b hb=>let ⟨o,e⟩:=nr b hb;zaz (zak e);generalize wl:s2.heap.objs.size=D at lb eV eD qg ⊢;generalize hCC:nv.objs.size=C at *;have dM:s2.heap.objs.size<=D:=by rw[wl];exact zal _
 have e9:s2.heap.objs.size<=C:=by rw[wl];exact lb
 have I4:Inv (blockOf X s2 H2 scope C NB fp) [] (Fl μ σ) H2 {s2 with heap:=h₁,toks:=s2.toks+([]:List (Str×Value)).length}:=Rx I2 cg dL f2 nr e9 (by simpa using hns₁) old;have dq:∀ {H':Hp} {pl:List (Addr×Obj)},(∀b∈fp,H' b=none)->(∀p∈pl,p.1=D)->∀b∈fp,Mo (blockOf X s2 H2 scope C NB fp) pl H' b:=fun {H' pl} hn hp b hb=>by
  refine⟨hn b hb,(I4.ok.rC b hb).1,I4.ok.Ta b hb,.inl hb,λ x c e z=>(I4.ok.rC b hb).2 x c e z,λ p lc z=>?_⟩;have qh:p∈pl:=by simpa [blockOf] using lc
  exact qg b hb (z▸hp p qh)
 have x9:D∉(blockOf X s2 H2 scope C NB fp).fs:=λ z=>by
  obtain⟨_,o,ho,_⟩:=I4.ok.J6.mem z;exact absurd (zak ho) (Nat.not_lt.mpr dM)
 obtain⟨W,⟨m0,w0⟩,turn⟩:=q C;have loop:∀s₃:Shared,s₃={s2 with heap:=h₁,toks:=s2.toks+([]:List (Str×Value)).length} ->
  codeAny (model X.prog X.w) X.A (.compLoop (.ListComp elt [⟨tg,iter,ifs,0⟩] scope pos) 0 (.ref it) (.ref D) (compEnvC scope (J8 X.env.cells scope.names []) C X.env)) (RR (.ref D) C) s₃:=by
  rintro s₃ rfl;refine Qm (λ n s'=>∃i ys aa k H',Inv (blockOf X s2 H2 scope C NB fp) [(D,{cls:=.type "list",data:=.seq aa k})] (Fl μ σ) H' s'/\tn i s'.heap/\(∀b∈fp,H' b=none)/\Vals ys aa.toList/\ys.length<=sizeLine/\W i n ys H') ?_ m0
   ⟨0,[],#[],0,H2,I4.K0 λ p hp=>?_,T.keep _ _ _ fg λ b hb o e=>old b o e,λ b hb=>(f2 b hb).1,.nil,zb9 _,w0⟩
  rotate_left
  ·have e:=zaj.mp hp;subst e;exact⟨eD,I2.AE.fresh dM,eV,x9,λ v=>by simp⟩
  rintro n s3 ⟨i,ys,aa,k,H3,I3,j7,j8,rv,hz,w3⟩;rcases turn i n ys H3 w3 with ⟨stop,qn⟩|⟨go,be,N,hN,step⟩
  ·refine wpAny_mono (T.done (blockOf X s2 H2 scope C NB fp) rfl rfl rfl hc i _ s3 _ H3 (λ _ _=>False) I3 (dq j8 (by simp)) j7 stop) (λ r s4 ⟨hr,nw⟩=>?_) λ _ _ e=>e;subst hr;obtain⟨p1,p2,p3,p4,p5⟩:=nw.pin _ (zac _ za3);obtain⟨m,hn,_⟩:=id nw.loc;have e1:s4.heap.get? D=some {cls:=.type "list",data:=.seq aa.toList.toArray k}:=by simpa using p1
   exact fin D C s4 H3 ys m dM e9 eV hn nw.free (λ h' sb=>W0 I2 f2 nw e9 dM eV e1 p2 rv hz sb) (qn D p2)
  ·refine wpAny_mono (T.item (blockOf X s2 H2 scope C NB fp) rfl rfl rfl hc i _ s3 _ H3 (λ _ _=>False) I3 (dq j8 (by simp)) j7 go) (λ r s4 ⟨u,hr,h4⟩=>?_) λ _ _ e=>e;subst hr;refine BA h4 λ _ s5 ⟨x,H5,I5,r5,y5,ii,o9⟩=>?_;have pc:=I5.pinned (dq o9 (by simp)) (T.obj _ _ ii);have dX:=kt σ x H5 _ (step x H5 y5);obtain⟨hg,ht,he⟩:=hb s2 H2 C fp;refine BA (hg _ s5 _ H5 x u _ pc r5 dX) λ _ s6 ⟨σ6,H6,I6,q6,k6⟩=>?_;refine BA (ht _ s6 σ6 H6 _ I6 q6) λ ok s7 ⟨H7,I7,q7⟩=>?_;have again:∀ {H8:Hp} {s8:Shared} {its':Array Value} {k':Nat} {dn:List V},Inv (blockOf X s2 H2 scope C NB fp) ([(D,{cls:=.type "list",data:=.seq its' k' })]++Jn fp s5.heap) σ6 H8 s8->Vals dn its'.toList->dn.length<=sizeLine->(∃m,m<n/\W (i+1) m dn H8)->
    ∃m,m<n/\∃i ys aa k H',Inv (blockOf X s2 H2 scope C NB fp) [(D,{cls:=.type "list",data:=.seq aa k})] (Fl μ σ) H' s8/\tn i s8.heap/\(∀b∈fp,H' b=none)/\Vals ys aa.toList/\ys.length<=sizeLine/\W i m ys H':=fun {H8 s8 its' k' dn} I8 cS xL n8=>by
    obtain⟨m',hm,w8⟩:=n8;refine⟨m',hm,i+1,dn,its',k',H8,(I8.K3.weak ?_ k6),T.keep _ _ _ ii λ b hb o e=>(I8.pin (b,o) (zac _ (zac _ (Gu hb e)))).1,λ b hb=>?_,cS,xL,w8⟩
    ·rw[I8.len];exact I4.len
    ·obtain⟨o,e,d⟩:=T.obj _ _ ii b hb;exact (I8.pin (b,o) (zac _ (zac _ (Gu hb e)))).2.1
   cases ok with
   |false =>
    simp only[zap,if_false] at q7 ⊢;exact again I7 rv hz (hN _ _ q7)
   |true =>
    simp only[if_true] at q7 ⊢;refine BA (he _ s7 σ6 H7 _ I7 q7) λ uy s8 ⟨y,H8,I8,r8,q8⟩=>?_;obtain⟨p1,p2,p3,p4,p5⟩:=I8.pin (D,_) (zac _ (zas _ za3));have e1:s8.heap.get? D=some {cls:=.type "list",data:=.seq aa k}:=p1;have hsz:aa.size=ys.length:=by rw[<-zc6];exact rv.length.symm
    refine call_meets F.slot_list_append ⟨_,e1,rfl⟩ F.entry_list_append (F.args_list_append_2 _ _) (PySem.list_append D aa k uy (by rw[hsz];omega)) ⟨e1,?_⟩;have qj:=PySem.IsL.update e1 (·.push uy);have Iu:Inv (blockOf X s2 H2 scope C NB fp) (Jn fp s5.heap) σ6 H8 s8:=I8.K0 λ p hp=>I8.pin p (zac _ (zac _ hp));have It:=Iu.turned (it:=D) (h':=s8.heap.update D (zc2 (·.push uy))) (t':=s8.toks) (λ b o hb e=>(zd7 _ _ (zbp hb)).trans e) p2 p3 (.inr dM) (λ x c e z=>?_) (λ p hp z=>?_)
    ·refine again (its':=aa.push uy) (k':=if (aa.push uy).size==aa.size then k else k+1) (It.K0 λ p hp=>?_) (by simpa using rv.append (.cons r8 .nil)) (by rw[zah,zc9];omega) (hN _ _ q8);rcases zar.mp hp with hp|hp
     ·have e:=zaj.mp hp;subst e;exact⟨qj,p2,p3,p4,λ v=>by simp⟩
     ·exact It.pin p (zac _ hp)
    ·have e':=EH I2 cg e;obtain⟨v,o,ho,_⟩:=I2.cell x c e';exact absurd (zak ho) (by rw[z];exact Nat.not_lt.mpr dM)
    ·have lc:p∈Jn fp s5.heap:=by simpa [blockOf] using hp
     exact qg p.1 (OV lc).1 z
 exact codeAny_compStart_list (loop _ rfl) (T.self _ 0 _ _ _ (T.keep _ _ _ fg λ b hb o e=>old b o e) (loop _ rfl))
theorem gO {wi:TI}(hc:X.calm=true)(hi:PI X tg iter wi)(cg:Lc scope X.env.scope=true)(dL:Rv X.N NB scope μ=true)(kt:Ld μ g)
 (hb:∀(s:Shared) (H:Hp) (C:Addr) (ex:List Addr),PG (blockOf X s H scope C NB ex) tg g/\rF (blockOf X s H scope C NB ex) ifs (tc s H C ex)/\PE (blockOf X s H scope C NB ex) elt (te s H C ex))
 (hs:∀x,foldedSetIterable iter X.env x=pure x:=by intro _;rfl):PE X (.ListComp elt [⟨tg,iter,ifs,0⟩] scope pos) (UN wi μ g tc te):=by
 intro pins s σ H Q I h;have dv:∀y∈scope.names,y.2=.local->scope.names.lookup y.1=some .local:=λ y hy=>(Iq cg hy).2.2;have eA:closureFor scope X.env=pure (J8 X.env.cells scope.names []):=Je λ y hy e=>Jq I cg (x:=y.1) (by rw[<-e];exact hy);rw[eval_ListComp];refine wpAny_comprehension_free (use:=none) rfl hs eA (Ip cg) dv (BA (hi pins s σ H _ I h) λ v s1 h1=>BA h1 λ nb s2 h2=>?_);obtain⟨it,fp,tn,J,H2,e,I2,T,fg,f2,q⟩:=h2;subst e;refine Pa (RR:=λ acc C=>compPost (model X.prog X.w) X.A X.xe none (EP X pins σ Q) acc C) hc I2 T fg f2 cg dL kt hb (λ C=>q s2 C fp) ?_;intro D C s' H' ys m hD hC eV hn nC hI hq;exact⟨m,hn,λ h' sb=>⟨.ref D,_,hI h' sb,rfl,hq⟩⟩
noncomputable def tI (i:Nat)(te:TE):TS:=λ D σ H=>te σ H λ x H1=>D.nx (σ.set i (some x)) H1
theorem gQ {wi:TI}{i:Nat}{y:Str}{py cz:Pos}(hN:X.N.Nodup)(qk:X.N[i]?=some y)(hy:Loc X.env.scope y)(hc:X.calm=true)(hi:PI X tg iter wi)(cg:Lc scope X.env.scope=true)(dL:Rv X.N NB scope μ=true)(kt:Ld μ g)
 (hb:∀(s:Shared) (H:Hp) (C:Addr) (ex:List Addr),PG (blockOf X s H scope C NB ex) tg g/\rF (blockOf X s H scope C NB ex) ifs (tc s H C ex)/\PE (blockOf X s H scope C NB ex) elt (te s H C ex))
 (dN:swapsWith (.ListComp elt [⟨tg,iter,ifs,0⟩] scope pos) (some (.Name y py)) cz.line X.env=pure true:=by rfl)
 (hs:∀x,foldedSetIterable iter X.env x=pure x:=by intro _;rfl) (hf:X.fn y=true\/X.env.scope.names.lookup y=some .local:=by first|exact .inl rfl|exact .inr rfl|assumption):
 PS X (.Assign [.Name y py] (.ListComp elt [⟨tg,iter,ifs,0⟩] scope pos) cz) (tI i (UN wi μ g tc te)):=by
 intro pins s σ H D' I h;have dv:∀y∈scope.names,y.2=.local->scope.names.lookup y.1=some .local:=λ y hy=>(Iq cg hy).2.2;have eA:closureFor scope X.env=pure (J8 X.env.cells scope.names []):=Je λ y hy e=>Jq I cg (x:=y.1) (by rw[<-e];exact hy);rw[exec_Assign_Name_used _ _ _ _ dN];refine wpAny_bind (wpAny_standAt (wpAny_bind ?_));show wpAny _ X.A (do let _ <-comprehension (.ListComp elt [⟨tg,iter,ifs,0⟩] scope pos) scope X.env _ (newList []) false (eval iter X.env) (some (assign (.Name y py) X.env))) _ _ s;refine wpAny_bind (wpAny_mono (wpAny_comprehension_free (use:=some (assign (.Name y py) X.env)) (Q:=λ _ s'=>SP X pins D' .next s') rfl hs eA (Ip cg) dv (BA (hi pins s σ H _ I h) λ v s1 h1=>BA h1 λ nb s2 h2=>?_)) (λ _ s' hq=>wpAny_pure (wpAny_pure hq)) λ _ _ e=>e);obtain⟨it,fp,tn,J,H2,e,I2,T,fg,f2,q⟩:=h2;subst e;refine Pa (RR:=λ acc C=>compPost (model X.prog X.w) X.A X.xe (some (assign (.Name y py) X.env)) (λ _ s'=>SP X pins D' .next s') acc C) hc I2 T fg f2 cg dL kt hb (λ C=>q s2 C fp) ?_;intro D C s' H' ys m hD hC eV hn nC hI hq;have I':=hI s'.heap (.refl ..);show wpAny _ X.A (assign (.Name y py) X.env (.ref D)) _ _ _;refine wpAny_assign_Name (OR (i:=i) (v:=.ref D) I' hN qk hy rfl (λ kb ya ql=>?_) hf);obtain⟨a,sb,ha⟩:=ql;have jr:a≠C:=by
  rcases ha with z|z
  ·rw[z];exact zaz (zaq I2.lt hC)
  ·obtain⟨v,o,ho,_⟩:=I2.cell y a z;exact zaz (zaq (zak ho) hC)
 refine⟨m,hn.sameBut sb (zbp jr),λ h' dw=>?_⟩;refine⟨_,_,ya.turned (it:=C) (t':=kb.toks) (λ b o hb e=>(dw.2 b hb).trans e) (by rw[Aq (zbp eV)];exact nC) (Nat.ne_of_gt (zaq I2.lt hC)) (.inr (zbw I2.sz hC)) (λ x c e z=>?_) (λ p hp z=>?_),hq⟩
 ·obtain⟨v,o,ho,_⟩:=I2.cell x c e;exact absurd (zak ho) (by rw[z];exact Nat.not_lt.mpr hC)
 ·exact absurd (zak (I2.pin p hp).1) (by rw[z];exact Nat.not_lt.mpr hC)
end
noncomputable def xW (K:za0)(a:Addr):It:=
 ⟨λ i H=>∃xs x,DL K H a xs/\xs[i]?=some x,λ i H v H'=>∃p x,H p=none/\v=.ref p/\(∀xs,DL K H a xs->xs[i]?=some x)/\H'=upd H p (.tup [.int i,x]),λ i H=>∃xs,DL K H a xs/\xs.length<=i⟩
theorem Tz {X:Cx}{pins:List (Addr×Obj)}{σ:St}{H:Hp}{s:Shared}{h':Heap}{t':Nat}{e it:Addr}(I:Inv X pins σ H s)(he:Mo X pins H e)(hi:Mo X pins H it)(k:∀b o,b≠e->b≠it->s.heap.get? b=some o->h'.get? b=some o):Inv X pins σ H {s with heap:=h',toks:=t' }:=by
 obtain⟨e0,e1,e2,e3,e4,e5⟩:=he;obtain⟨f0,f1,f2,f3,f4,f5⟩:=hi;have ne:∀b u,H b=some u->b≠e/\b≠it:=λ b u q=>⟨λ z=>(by rw[z,e0] at q;cases q),λ z=>(by rw[z,f0] at q;cases q)⟩;refine I.step (g':=s.gens) (d':=s.drawn) (ch:=[e,it]) (λ b hb=>?_) (λ b o _ _ hc q _=>k b o (λ z=>hc (by simp[z])) (λ z=>hc (by simp[z])) q) (λ b o _ _ hc q _=>⟨o.slots,k b o (λ z=>hc (by simp[z])) (λ z=>hc (by simp[z])) q⟩) (λ _ _ _ _ n=>n)
  (λ b o hc q=>⟨o,k b o (λ z=>hc (by simp[z])) (λ z=>hc (by simp[z])) q⟩) (λ _ _ q=>q) (λ _ _ _ q=>q) (λ b ps q=>⟨#[],by rw[q];simp⟩) (λ m hm=>?_) (λ b u q=>?_) I.bare
 ·rcases za9.mp hb with z|z
  ·subst z;exact⟨e3,e1,e4,e5⟩
  ·have z:=zaj.mp z;subst z;exact⟨f3,f1,f4,f5⟩
 ·obtain⟨o,es,ep,ho,r⟩:=hm;exact⟨o,es,ep,k _ o (zbp e1) (zbp f1) ho,r⟩
 ·refine (I.AE b u q).MM (λ c v hc z=>k c v ?_ ?_ z) (λ _ z=>z) λ _ _ z=>z
  ·rcases hc with z|z
   ·rw[z];exact (ne b u q).1
   ·exact (ne c _ z).1
  ·rcases hc with z|z
   ·rw[z];exact (ne b u q).2
   ·exact (ne c _ z).2
theorem W3 {P:Program}{w:World}{K:za0}{eB:List Expr}{x1}{dr:Pos}(a e it:Addr)(au:e≠it):
 Turn P w K (.Tuple eB x1 dr) (xW K a) [e,it] e (λ i h=>(∃old,IsEnum h e it i old)/\h.IsListIter it a i) where
 mem:=by simp
 obj:=λ i h st b hb=>by
  obtain⟨⟨old,h1⟩,o,h2,c,d⟩:=st;rcases za9.mp hb with z|z
  ·subst z;exact⟨_,h1,λ v z=>by cases z⟩
  ·have z:=zaj.mp z;subst z;exact⟨o,h2,λ v z=>by rw[d] at z;cases z⟩
 keep:=λ i h h' st k=>⟨let ⟨old,h1⟩:=st.1;⟨old,k e (by simp) _ h1⟩,st.2.at λ o e=>k it (by simp) o e⟩
 item:=by
  intro X hP hw hK hc i pins s σ H E I hf st hg;subst hP hw hK;obtain⟨xs,x,hq,hx⟩:=hg;obtain⟨⟨old,he⟩,hit⟩:=st;obtain⟨aa,rv,p,hz⟩:=I.list hq;obtain⟨u,hu,ru⟩:=rv.get hx;have fe:=hf e (by simp);have fi:=hf it (by simp);refine wpAny_pyNext_enum_item he hit p.isList (x:=u) (by simpa using hu) au λ h1 gw qm ht hsz hk=>?_;refine⟨_,rfl,wpAny_letOwnedTupleGo_enum (s:={s with heap:=h1,toks:=s.toks+1}) gw λ h2 yb cw=>?_⟩;have d0:zd4 e h1 h2:=cw;have nt:s.heap.objs.size≠e:=Nat.ne_of_gt (zak he);have yc:s.heap.objs.size≠it:=by
   obtain⟨o,ho,_⟩:=hit;exact Nat.ne_of_gt (zak ho)
  have I1:Inv X pins σ H {s with heap:=h2,toks:=s.toks+1}:=Tz I fe fi λ b o hb bZ q=>(d0.2 b hb).trans (hk b o hb bZ q);have tup:h2.get? s.heap.objs.size=some {cls:=.type "tuple",data:=.seq #[.int i s.toks,u]}:=(d0.2 _ nt).trans ht;have nH:H s.heap.objs.size=none:=I.AE.fresh (zal _);have vv:Vals [.int i,x] [.int i s.toks,u]:=.cons ⟨_,rfl⟩ (.cons ru .nil);have qo:FH X.prog X.w (upd H s.heap.objs.size (.tup [.int i,x])) h2:=I1.AE.adopt nH ⟨by show 2<=sizeLine;decide,_,vv,⟨_,tup,rfl,_,rfl⟩⟩;have I2:Inv X pins σ (upd H s.heap.objs.size (.tup [.int i,x])) {s with heap:=h2,toks:=s.toks+1}:=by
   refine I.step (g':=s.gens) (d':=s.drawn) (ch:=[e,it]) (λ b hb=>?_) (λ b o _ _ hc q _=>(d0.2 b (λ z=>hc (by simp[z]))).trans (hk b o (λ z=>hc (by simp[z])) (λ z=>hc (by simp[z])) q)) (λ b o _ _ hc q _=>⟨o.slots,(d0.2 b (λ z=>hc (by simp[z]))).trans (hk b o (λ z=>hc (by simp[z])) (λ z=>hc (by simp[z])) q)⟩)
    (λ b o hc q n=>by rw[Aq (zaz (zak q))];exact n) (λ b o hc q=>⟨o,(d0.2 b (λ z=>hc (by simp[z]))).trans (hk b o (λ z=>hc (by simp[z])) (λ z=>hc (by simp[z])) q)⟩)
    (λ b xs q=>by rw[Aq (AB q nH)];exact q) (λ b o u q=>by rw[Aq (AB q nH)];exact q) (λ b ps q=>⟨#[],by rw[Aq (AB q nH),q];simp⟩) (λ m hm=>?_) qo I.bare
   ·rcases za9.mp hb with z|z
    ·subst z;exact⟨fe.2.2.2.1,fe.2.1,fe.2.2.2.2.1,fe.2.2.2.2.2⟩
    ·have z:=zaj.mp z;subst z;exact⟨fi.2.2.2.1,fi.2.1,fi.2.2.2.2.1,fi.2.2.2.2.2⟩
   ·obtain⟨o,es,ep,ho,r⟩:=hm;exact⟨o,es,ep,(d0.2 _ (zbp fe.2.1)).trans (hk _ o (zbp fe.2.1) (zbp fi.2.1) ho),r⟩
  refine⟨.ref s.heap.objs.size,_,I2,rfl,⟨_,x,nH,rfl,λ ys hy=>by rw[I.K2 hy hq];exact hx,rfl⟩,⟨⟨u,yb⟩,qm.at λ o q=>(d0.2 it (zbp au)).trans q⟩,λ b hb=>?_⟩;have bZ:b≠s.heap.objs.size:=by
   rcases za9.mp hb with z|z
   ·rw[z];exact zbp nt
   ·rw[zaj.mp z];exact zbp yc
  rw[Aq bZ];exact (hf b hb).1
 done:=by
  intro X hP hw hK hc i pins s σ H E I hf st hg;subst hP hw hK;obtain⟨xs,hq,hx⟩:=hg;obtain⟨⟨old,he⟩,hit⟩:=st;obtain⟨aa,rv,p,hz⟩:=I.list hq;have hl:=rv.length;obtain⟨f0,f1,f2,f3,f4,f5⟩:=hf it (by simp);exact wpAny_pyNext_enum_end (I.ok.hd hc) he hit p.isList (by simp;omega) λ h' eb=>⟨rfl,I.turned (t':=s.toks) (λ b o hb e=>eb b o hb e) f0 f1 f3 f4 f5⟩
 self:=λ _ _ _ _ _ st h=>let ⟨_,he⟩:=st.1;wpAny_pyIter_enum he h
section
variable {X:Cx}
noncomputable def tJ (K:za0)(ta:TA):TI:=λ σ H R=>ta σ H λ vs H1=>∃a,vs=[.ref a]/\(∃xs,DL K H1 a xs)/\R (xW K a) H1
theorem gR {eB:List Expr}{x1}{dr:Pos}{a:Expr}{ta:TA}{p pos:Pos}(hg:Gl X "enumerate")(hm:X.mg "enumerate" = none)(ha:PA X [a] ta)(hb:bootBuiltins "enumerate" = some (.type "enumerate"):=by decide +kernel)(hs:starEach [a] X.env=[(false,eval a X.env)]:=by rfl):
 PI X (.Tuple eB x1 dr) (.Call (.Name "enumerate" p) [a] [] pos) (tJ X.K ta):=by
 intro pins s σ H R I h;refine Call_ (Fi I hg hm hb (zcb (BA (ha pos pins s σ H _ I h) λ us s1 ⟨vs,H1,I1,r1,q1⟩=>?_) hs rfl));obtain⟨j,e,⟨xs,hq⟩,q⟩:=q1;subst e;cases r1 with
 |cons r rr =>
  cases rr;cases r;obtain⟨aa,rv,p,hz⟩:=I1.list hq;refine call_enumerate_list p.isList λ h' he hit hsz hk=>?_;refine wpAny_pyIter_enum (s:={s1 with heap:=h' }) he ?_;have I2:Inv X pins σ H1 {s1 with heap:=h' }:=I1.kept (t':=s1.toks) hk;refine⟨_,[s1.heap.objs.size+1,s1.heap.objs.size],_,_,H1,rfl,I2,W3 j _ _ (Nat.succ_ne_self _),⟨⟨_,he⟩,hit⟩,λ b hb=>?_,q⟩;rcases za9.mp hb with z|z
  ·rw[z];exact I1.fK (Nat.le_succ _) (I1.AE.fresh (Nat.le_succ _))
  ·rw[zaj.mp z];exact I1.fK (zal _) (I1.AE.fresh (zal _))
end
noncomputable def BR {α:Type}(o:Option (α×List Int))(b:α×List Int):Option (α×List Int):=match o with | none=>some b | some c=>if HT.lexLt b.2 c.2=true then some b else some c
noncomputable def B5 {α:Type}(bs:List (α×List Int)):Option (α×List Int):=bs.foldl BR none
noncomputable def DF (bs:List (Addr×List Int)):Array Value:=match B5 bs with | none=>#[] | some b=>#[.ref b.1,.ref b.1]
theorem Dj {α:Type}(bs:List (α×List Int))(b:α×List Int):B5 (bs++[b])=match B5 bs with | none=>some b | some c=>if HT.lexLt b.2 c.2=true then some b else some c:=by
 unfold B5;rw[List.foldl_append];rfl
theorem Le {α:Type}:∀(bs:List (α×List Int)) (b:α×List Int),B5 bs=some b->b∈bs:=by
 intro bs
 suffices h:∀(bs:List (α×List Int)) (o:Option (α×List Int)) (b:α×List Int),bs.foldl BR o=some b->b∈bs\/o=some b by
  intro b hb;rcases h bs none b hb with q|q
  ·exact q
  ·cases q
 intro bs;induction bs with
 |nil=>intro o b h;exact .inr h
 |cons x r ih =>
  intro o b h;rw[zbd] at h;rcases ih _ _ h with q|q
  ·exact .inl (za4 _ q)
  ·cases o with
   |none=>cases q;exact .inl za3
   |some c =>
    unfold BR at q;dsimp only at q;split at q
    ·cases q;exact .inl za3
    ·exact .inr q
theorem Ox (a v:Value):argsOk "min" ⟨[a],[(Str.ofString "default",v)]⟩:=by unfold argsOk;kernel_rfl
section
variable {prog:Program}{w:World}{A:Around}{R:Result->Shared->Prop}
theorem Yb (bs:List (Addr×List Int))(tv:Addr->Array Value)(l I S:Addr)(d:Value)(hh:A.handled=none)(hu:A.in1.units<cLine)(f7:S≠I)(qp:l≠I)(lf:l≠S)(iq:∀b∈bs,b.1≠I/\b.1≠S)
 (hk:∀b∈bs,IntsAre (tv b.1).toList b.2):∀(k j:Nat) (s:Shared) (c:Nat),bs.length-j=k->j<=bs.length->s.heap.IsListIter I l j->s.heap.IsList l (bs.map λ b=>zbe b.1).toArray->(∀b∈bs,IsTup s.heap b.1 (tv b.1))->
  s.heap.get? S=some {cls:=.type "list",dict:=none,data:=.seq (DF (bs.take j)) c,slots:=#[]} ->
  (∀h' tk,(∀b o,b≠I->b≠S->s.heap.get? b=some o->h'.get? b=some o)->R (.ok (.ret (match B5 bs with|none=>d|some b=>.ref b.1))) {s with heap:=h',toks:=tk})->
  codeAny (model prog w) A (.builtin "min.loop" ⟨[.ref I,.none,.ref S],[(Str.ofString "default",d)]⟩) R s:=by
 have cb:(toString "min" ++ toString ".loop" : String) = "min.loop" := by decide
 intro k;induction k with
 |zero =>
  intro j s c hr hj hit hl ht hS hR;have dC:j=bs.length:=by omega
  subst dC;rw[zcc] at hS;refine codeAny_builtin PySem.F.entry_min_loop ?_;rw[zcy zba _];show wpAny _ A.in1 (seqItems? (.ref S) >>= _) _ _ s;refine wpAny_bind (wpAny_seqItems hS rfl ?_);show wpAny _ A.in1 (tryCatch (pyNext (.ref I)) _ >>= _) _ _ s;refine wpAny_bind (wpAny_tryCatch (wpAny_pyNext_list_end (A:=A.in1) hh hit hl (by simp) λ h' eb=>?_));have ci:h'.get? S=_:=eb S _ f7 hS;unfold DF at ci;cases hb:B5 bs with
  |none =>
   unfold DF;rw[hb];show wpAny _ A.in1 (rule _ >>= _) _ _ _;refine wpAny_bind (wpAny_rule (wpAny_pure ?_));have q:=hR h' s.toks λ b o h1 h2 e=>eb b o h1 e;rw[hb] at q;exact q
  |some b =>
   rw[hb] at ci;unfold DF;rw[hb];show wpAny _ A.in1 (updateSeq S (λ _=>#[]) >>= _) _ _ _;refine wpAny_bind ?_;refine wpAny_updateSeq ci rfl (wpAny_bind (wpAny_letGo (wpAny_pure ?_)));have q:=hR (h'.update S (zc2 λ _=>#[])) s.toks λ b o h1 h2 e=>(zd7 _ _ (zbp h2)).trans (eb b o h1 e);rw[hb] at q;exact q
 |succ k ih =>
  intro j s c hr hj hit hl ht hS hR;have be:j<bs.length:=by omega
  have ej:bs.take (j+1)=bs.take j++[bs[j]]:=by rw[zd0,zaf be];rfl
  have mj:bs[j]∈bs:=List.getElem_mem be;refine codeAny_builtin PySem.F.entry_min_loop ?_;rw[zcy zba _];show wpAny _ A.in1 (seqItems? (.ref S) >>= _) _ _ s;refine wpAny_bind (wpAny_seqItems hS rfl ?_);show wpAny _ A.in1 (tryCatch (pyNext (.ref I)) _ >>= _) _ _ s;refine wpAny_bind (wpAny_tryCatch (wpAny_pyNext_list_item (A:=A.in1) hit hl (x:=.ref bs[j].1) (by simp[be]) λ h' cT sb=>?_));have dw:zd4 I s.heap h':=sb;have ci:h'.get? S=_:=(dw.2 S f7).trans hS;have dH:h'.IsList l (bs.map λ b=>zbe b.1).toArray:=hl.at λ o e=>(dw.2 l qp).trans e;have eC:∀b∈bs,IsTup h' b.1 (tv b.1):=λ b hb=>by
   obtain⟨o,ho,r⟩:=ht b hb;exact⟨o,(dw.2 b.1 (iq b hb).1).trans ho,r⟩
  cases hb:B5 (bs.take j) with
  |none =>
   unfold DF at ci ⊢;rw[hb] at ci ⊢;show wpAny _ A.in1 (updateSeq S (λ _=>#[.ref bs[j].1,.ref bs[j].1]) >>= _) _ _ _;refine wpAny_bind ?_;refine wpAny_updateSeq ci rfl ?_;rw[cb];have s1:=zct h' S (zc2 λ _=>(#[.ref bs[j].1,.ref bs[j].1]:Array Value));refine wpAny_pure ⟨plainId_quiet zba _,ih (j+1) _ (c+1) (by omega) be (cT.at λ o e=>(s1.2 I (zbp f7)).trans e) (dH.at λ o e=>(s1.2 l lf).trans e) (λ b hb=>?_) ?_ λ eE tk cH=>?_⟩
   ·obtain⟨o,ho,r⟩:=eC b hb;exact⟨o,(s1.2 b.1 (iq b hb).2).trans ho,r⟩
   ·refine (zcq _ ci rfl).trans ?_;unfold DF;rw[ej,Dj,hb];rfl
   ·exact hR eE tk λ b o h1 h2 e=>cH b o h1 h2 ((s1.2 b h2).trans ((dw.2 b h1).trans e))
  |some m =>
   have mm:m∈bs:=zbq (Le _ _ hb);unfold DF at ci ⊢;rw[hb] at ci ⊢;show wpAny _ A.in1 (tryCatch (holding [.ref bs[j].1,.ref bs[j].1] (richCompare .Lt (.ref bs[j].1) (.ref m.1) >>= _)) _ >>= _) _ _ _;refine wpAny_bind (wpAny_tryCatch (wpAny_holding (wpAny_bind (HT.Jp (eC _ mj) (eC _ mm) (hk _ mj) (hk _ mm) hu ?_))));refine wpAny_bind (wpAny_holding (wpAny_truthy_bool ?_));refine wpAny_bind (wpAny_letGo (wpAny_pure ?_));cases hc:HT.lexLt bs[j].2 m.2 with
   |true =>
    simp only[if_true];have s1:=zct h' S (zc2 λ _=>(#[.ref bs[j].1,.ref bs[j].1]:Array Value));refine wpAny_bind ?_;refine wpAny_updateSeq ci rfl (wpAny_bind (wpAny_letGo ?_));rw[cb];refine wpAny_pure ⟨plainId_quiet zba _,ih (j+1) _ c (by omega) be (cT.at λ o e=>(s1.2 I (zbp f7)).trans e) (dH.at λ o e=>(s1.2 l lf).trans e) (λ b hb=>?_) ?_ λ eE tk cH=>?_⟩
    ·obtain⟨o,ho,r⟩:=eC b hb;exact⟨o,(s1.2 b.1 (iq b hb).2).trans ho,r⟩
    ·refine (zcq _ ci rfl).trans ?_;unfold DF;rw[ej,Dj,hb];simp only[hc,if_true];rfl
    ·exact hR eE tk λ b o h1 h2 e=>cH b o h1 h2 ((s1.2 b h2).trans ((dw.2 b h1).trans e))
   |false =>
    simp only[zap,if_false];refine wpAny_bind (wpAny_letGo ?_);rw[cb];refine wpAny_pure ⟨plainId_quiet zba _,ih (j+1) _ c (by omega) be cT dH eC ?_ λ eE tk cH=>?_⟩
    ·refine ci.trans ?_;unfold DF;rw[ej,Dj,hb];simp only[hc,zap,if_false]
    ·exact hR eE tk λ b o h1 h2 e=>cH b o h1 h2 ((dw.2 b h1).trans e)
theorem Oy {E:Value->Shared->Prop}{s:Shared}{Q:Value->Shared->Prop}(bs:List (Addr×List Int))(tv:Addr->Array Value)(l:Addr)(d:Value)(hh:A.handled=none)(hu:A.in1.units<cLine)
 (hl:s.heap.IsList l (bs.map λ b=>zbe b.1).toArray) (ht:∀b∈bs,IsTup s.heap b.1 (tv b.1)) (hk:∀b∈bs,IntsAre (tv b.1).toList b.2)
 (hQ:∀h' tk,(∀b o,s.heap.get? b=some o->h'.get? b=some o)->Q (match B5 bs with|none=>d|some b=>.ref b.1) {s with heap:=h',toks:=tk}):
 wpAny (model prog w) A (call (.builtin "min") [.ref l] [(Str.ofString "default",d)]) Q E s:=by
 have cb:(toString "min" ++ toString ".loop" : String) = "min.loop" := by decide
 obtain⟨ol,ir,_⟩:=id hl;have yd:l<s.heap.objs.size:=zak ir;refine kmk_tree PySem.F.kind_min PySem.F.plain_min PySem.F.entry_min (Ox _ _) ?_;show wpAny _ A.in1 (zd2 "min" ["key","default"] 0 ⟨[],[(Str.ofString "default",d)]⟩ >>= _) _ _ s;refine wpAny_bind (wpAny_of_eq (show zd2 "min" ["key","default"] 0 ⟨[],[(Str.ofString "default",d)]⟩=pure [none,some d] from rfl) ?_);refine wpAny_bind (wpAny_pure ?_);refine wpAny_bind (wpAny_pyIter_list hl ?_);refine wpAny_bind (wpAny_newList ?_ (zb9 _));rw[cb];have hS:(s.heap.push {cls:=.type "list_iterator",data:=.fields #[.ref l,.int 0 0]}).objs.size=s.heap.objs.size+1:=Heap.size_push ..;have old:∀b o,s.heap.get? b=some o->b≠s.heap.objs.size/\b≠(s.heap.push {cls:=.type "list_iterator",data:=.fields #[.ref l,.int 0 0]}).objs.size:=λ b o e=>⟨zaz (zak e),by rw[hS];exact zaz (Nat.lt_succ_of_lt (zak e))⟩;have grow:∀b o,s.heap.get? b=some o->((s.heap.push {cls:=.type "list_iterator",data:=.fields #[.ref l,.int 0 0]}).push {cls:=.type "list",data:=.seq #[]}).get? b=some o:=λ b o e=>zae _ (zae _ e);refine wpAny_pure ⟨plainId_quiet zba _,?_⟩;refine Yb bs tv l s.heap.objs.size (s.heap.push {cls:=.type "list_iterator",data:=.fields #[.ref l,.int 0 0]}).objs.size d hh hu (by rw[hS];exact Nat.succ_ne_self _) (old l ol ir).1 (old l ol ir).2 (λ b hb=>?_) hk _ 0 _ 0 rfl (zb9 _) ?_ ?_ (λ b hb=>?_) ?_ ?_
 ·obtain⟨o,ho,_⟩:=ht b hb;exact old b.1 o ho
 ·exact⟨_,zae _ (zau _ rfl),rfl,rfl⟩
 ·exact hl.at λ o e=>grow l o e
 ·obtain⟨o,ho,r⟩:=ht b hb;exact⟨o,grow b.1 o ho,r⟩
 ·exact zau _ rfl
 ·intro h' tk ix;exact hQ h' tk λ b o e=>ix b o (old b o e).1 (old b o e).2 (grow b o e)
end
section
variable {X:Cx}{e e2:Expr}{te td:TE}{p pos kp:Pos}
noncomputable def tK (K:za0)(te td:TE):TE:=λ σ H Q=>te σ H λ x H1=>td σ H1 λ d H2=>∃(a:Addr) (bs:List (Addr×List Int)),x=.ref a/\DL K H2 a (bs.map λ b=>V.ref b.1)/\(∀b∈bs,Gr K H2 b.1 (b.2.map V.int))/\Q (match B5 bs with | none=>d | some b=>.ref b.1) H2
theorem Lf:∀ {bs:List (Addr×List Int)}{us:List Value},Vals (bs.map λ b=>V.ref b.1) us->us=bs.map λ b=>zbe b.1
 |[],_,.nil=>rfl
 |b::r,_,.cons h t=>by cases h;rw[Lf t];rfl
theorem gU (hc:X.calm=true)(hu:X.A.units+1<cLine)(hg:Gl X "min")(hm:X.mg "min" = none)(he:PE X e te)(hd:PE X e2 td)
 (cu:starEach [e] X.env=[(false,eval e X.env)]:=by rfl) (e8:(backToKw pos (keywordEach [⟨some "default",e2,kp⟩] X.env)).all (·.1.isSome)=true:=by rfl) (qq:(backToKw pos (keywordEach [⟨some "default",e2,kp⟩] X.env)).filterMap (·.1)=([("default" : Str)]:List Str):=by rfl)
 (qr:(backToKw pos (keywordEach [⟨some "default",e2,kp⟩] X.env)).any (·.1.isNone)=false:=by rfl) (qt:backTo pos (starEach [e] X.env)=(false,eval e X.env)::backTo pos (starEach [] X.env):=by rfl) (bU:(backTo pos (starEach [e] X.env)).any (·.1)=false:=by rfl):
 PE X (.Call (.Name "min" p) [e] [⟨some "default",e2,kp⟩] pos) (tK X.K te td):=by
 intro pins s σ H Q I h;refine wpAny_Call_Name_kw (Fi I hg hm boot_min ?_ (by decide) (by decide));refine callWith_kw (BA ((Bb he Cj (hs:=cu)) pos pins s σ H (λ vs H1=>match vs with|[x]=>td σ H1 λ d H2=>∃(a:Addr) (bs:List (Addr×List Int)),x=.ref a/\DL X.K H2 a (bs.map λ b=>V.ref b.1)/\(∀b∈bs,Gr X.K H2 b.1 (b.2.map V.int))/\Q (match B5 bs with|none=>d|some b=>.ref b.1) H2|_=>False) I h) λ us s1 ⟨vs,H1,I1,r1,q1⟩=>?_) qt bU e8 qr;obtain⟨x,rfl⟩:∃x,vs=[x]:=by
  match vs,q1 with
  |[x],_=>exact⟨x,rfl⟩
 refine BA ((fU hd nU) pos pins s1 σ H1 (λ zs H2=>match zs with|[d]=>∃(a:Addr) (bs:List (Addr×List Int)),x=.ref a/\DL X.K H2 a (bs.map λ b=>V.ref b.1)/\(∀b∈bs,Gr X.K H2 b.1 (b.2.map V.int))/\Q (match B5 bs with|none=>d|some b=>.ref b.1) H2|_=>False) I1 q1) λ ws s2 ⟨zs,H2,I2,r2,q2⟩=>?_;obtain⟨d,rfl⟩:∃d,zs=[d]:=by
  match zs,q2 with
  |[d],_=>exact⟨d,rfl⟩
 obtain⟨a,bs,rfl,hl,hb,q⟩:=q2;obtain⟨ua,rfl,ra⟩:=r1.one;obtain⟨ud,rfl,rd⟩:=r2.one;cases ra;rw[qq];obtain⟨aa,rv,pl,hz⟩:=I2.list hl;have ei:=Lf rv;subst ei;have tv:∀a:Addr,∃t:Array Value,∀b∈bs,b.1=a->IsTup s2.heap a t/\IntsAre t.toList b.2:=λ a=>by
  by_cases dD:∃b∈bs,b.1=a
  ·obtain⟨b,dD,rfl⟩:=dD;obtain⟨ts,rt,pt,_⟩:=I2.tuple (hb b dD);refine⟨ts.toArray,λ b' bZ e=>⟨pt,?_⟩⟩;have q2:=hb b' bZ;rw[e] at q2;have e2:=I2.Io q2 (hb b dD);rw[<-e2] at rt;simpa using intsAre_of rt
  ·exact⟨#[],λ b bZ e=>absurd ⟨b,bZ,e⟩ dD⟩
 refine Oy bs (λ b=>zab (tv b)) a ud (I2.ok.hd hc) hu pl.isList (λ b bZ=>(za2 (tv b.1) b bZ rfl).1) (λ b bZ=>(za2 (tv b.1) b bZ rfl).2) λ h' tk hk=>?_;refine⟨match B5 bs with|none=>d|some b=>.ref b.1,H2,I2.kept (t':=tk) hk,?_,q⟩;cases B5 bs with
 |none=>exact rd
 |some b=>rfl
end
inductive D where
 |AK|bl (b:Bool)|int (i:Int)|str (x:Str)|tup (ds:List D)|lst (ds:List D)|Ct (x:Str)|Bl (t:Bool) (ks vs:List D)|ins (x:Str) (ns:List Str) (ds:List D)
noncomputable def Fn:Key->D
 | .inl i=>.int i
 | .inr x=>.str x
def Oz (a c:Addr)(h:Heap):Prop:=∃o,h.get? a=some o/\o.cls=.ref c/\PySem.W.notCls o=true
theorem Rd.same {H H':Hp}{a:Addr}{u:HO}(r:Rd H a u)(e:Ag H H'):Rd H' a u:=r.elim (λ h=>.inl (e _ _ h)) λ⟨o,h⟩=>.inr ⟨o,e _ _ h⟩
mutual
inductive BZ (K:za0) (H:Hp):V->D->Prop
 |AK:BZ K H .AK .AK
 |bl (b):BZ K H (.bl b) (.bl b)
 |int (i):BZ K H (.int i) (.int i)
 |str (x):BZ K H (.str x) (.str x)
 |tup {a xs ds}:H a=some (.tup xs)->Aj K H xs ds->BZ K H (.ref a) (.tup ds)
 |lst {a xs ds}:DL K H a xs->Aj K H xs ds->BZ K H (.ref a) (.lst ds)
 |JU {a kvs ds}:Rd H a (.dK kvs)->Aj K H (kvs.map zch) ds->BZ K H (.ref a) (.Bl false (kvs.map λ kv=>Fn kv.1) ds)
 |Jr {a kvs ds}:Rd H a (.dT kvs)->Aj K H (kvs.map zch) ds->BZ K H (.ref a) (.Bl true (kvs.map λ kv=>.tup (kv.1.map Fn)) ds)
 |ins {a C dx fs x ds}:za1 K mainGlobals x=some (some (.ref C))->H a=some (.ins C dx fs)->Aj K H (fs.map zch) ds->BZ K H (.ref a) (.ins x (fs.map zbg) ds)
 |Ct {a c x}:za1 K mainGlobals x=some (some (.ref c))->H a=some (.ext (Oz a c))->BZ K H (.ref a) (.Ct x)
inductive Aj (K:za0) (H:Hp):List V->List D->Prop
 |nil:Aj K H [] []
 |cons {x d xs ds}:BZ K H x d->Aj K H xs ds->Aj K H (x::xs) (d::ds)
end
theorem Aj.length {K:za0}{H:Hp}:∀ {xs:List V}{ds:List D},Aj K H xs ds->xs.length=ds.length
 |_,_,.nil=>rfl
 |_,_,.cons _ t=>by rw[zad,zad,Aj.length t]
theorem Aj.get {K:za0}{H:Hp}:∀ {xs:List V}{ds:List D}{i:Nat}{d:D},Aj K H xs ds->ds[i]?=some d->∃x,xs[i]?=some x/\BZ K H x d
 |_,_,_,_,.nil,e=>by simp at e
 |_,_,0,_,.cons r _,e=>by simp at e;subst e;exact⟨_,rfl,r⟩
 |_,_,i+1,d,.cons _ t,e=>by
  obtain⟨u,h1,h2⟩:=Aj.get (i:=i) (d:=d) t (by simpa using e);exact⟨u,by simpa using h1,h2⟩
theorem Aj.Lg {K:za0}{H:Hp}:∀ {xs:List V}{ds:List D}{i:Nat}{x:V},Aj K H xs ds->xs[i]?=some x->∃d,ds[i]?=some d/\BZ K H x d
 |_,_,_,_,.nil,e=>by simp at e
 |_,_,0,_,.cons r _,e=>by simp at e;subst e;exact⟨_,rfl,r⟩
 |_,_,i+1,d,.cons _ t,e=>by
  obtain⟨u,h1,h2⟩:=Aj.Lg (i:=i) (x:=d) t (by simpa using e);exact⟨u,by simpa using h1,h2⟩
theorem Aj.append {K:za0}{H:Hp}:∀ {xs ys:List V}{ds es:List D},Aj K H xs ds->Aj K H ys es->Aj K H (xs++ys) (ds++es)
 |_,_,_,_,.nil,h=>h
 |_,_,_,_,.cons r t,h=>.cons r (Aj.append t h)
theorem Aj.snoc {K:za0}{H:Hp}{xs:List V}{ds:List D}{x:V}{d:D}(h:Aj K H xs ds)(r:BZ K H x d):Aj K H (xs++[x]) (ds++[d]):=h.append (.cons r .nil)
theorem Aj.take {K:za0}{H:Hp}:∀ {xs:List V}{ds:List D}(n:Nat),Aj K H xs ds->Aj K H (xs.take n) (ds.take n)
 |_,_,0,_|_,_,_+1,.nil=>.nil
 |_,_,n+1,.cons r t=>.cons r (Aj.take n t)
theorem Aj.drop {K:za0}{H:Hp}:∀ {xs:List V}{ds:List D}(n:Nat),Aj K H xs ds->Aj K H (xs.drop n) (ds.drop n)
 |_,_,0,r=>r
 |_,_,_+1,.nil=>.nil
 |_,_,n+1,.cons _ t=>Aj.drop n t
theorem Aj.ints {K:za0}{H:Hp}:∀(ns:List Int),Aj K H (ns.map V.int) (ns.map D.int)
 |[]=>.nil
 |n::r=>.cons (.int n) (Aj.ints r)
theorem Ag.wZ {K:za0}{H H':Hp}{a:Addr}{xs:List V}(e:Ag H H')(h:Gr K H a xs):Gr K H' a xs:=by
 rcases h with (h|⟨o,h⟩)|h
 ·exact .inl (.inl (e _ _ h))
 ·exact .inl (.inr ⟨o,e _ _ h⟩)
 ·exact .inr h
mutual
theorem BZ.mono {K:za0}{H H':Hp}(e:Ag H H'):∀ {v:V}{d:D},BZ K H v d->BZ K H' v d
 |_,_,.AK=>.AK
 |_,_,.bl b=>.bl b
 |_,_,.int i=>.int i
 |_,_,.str x=>.str x
 |_,_,.tup h r=>.tup (e _ _ h) (Aj.mono e r)
 |_,_,.lst h r=>.lst (e.seq h) (Aj.mono e r)
 |_,_,.JU h r=>.JU (h.same e) (Aj.mono e r)
 |_,_,.Jr h r=>.Jr (h.same e) (Aj.mono e r)
 |_,_,.ins n h r=>.ins n (e _ _ h) (Aj.mono e r)
 |_,_,.Ct h r=>.Ct h (e _ _ r)
theorem Aj.mono {K:za0}{H H':Hp}(e:Ag H H'):∀ {vs:List V}{ds:List D},Aj K H vs ds->Aj K H' vs ds
 |_,_,.nil=>.nil
 |_,_,.cons h t=>.cons (BZ.mono e h) (Aj.mono e t)
end
theorem B7 {H:Hp}{p:Addr}(h:H p=none)(o:HO):Ag H (upd H p o):=λ b u q=>by rw[Aq (AB q h)];exact q
mutual
noncomputable def AA:D->D->Bool
 | .AK,.AK=>true
 | .bl a,.bl b| .int a,.int b| .str a,.str b=>a==b
 | .bl a,.int b=>(if a then 1 else 0)==b
 | .int a,.bl b=>a==(if b then 1 else 0)
 | .tup a,.tup b| .lst a,.lst b=>CF a b
 | .Ct a,.Ct b=>a==b
 | .Bl s a b,.Bl t c d=>(s==t)&&(CF a c&&CF b d)
 | .ins x n a,.ins y m b=>(x==y)&&((n==m)&&CF a b)
 |_,_=>false
noncomputable def CF:List D->List D->Bool
 |[],[]=>true
 |a::r,b::t=>AA a b&&CF r t
 |_,_=>false
end
mutual
theorem Ht:∀d:D,AA d d=true
 | .AK=>by simp[AA]
 | .bl b| .int b| .str b=>by simp[AA]
 | .tup b| .lst b=>by simp only[AA];exact Ei b
 | .Ct b=>by simp[AA]
 | .Bl s a b=>by simp only[AA];rw[Ei a,Ei b];simp
 | .ins x n a=>by simp only[AA];rw[Ei a];simp
theorem Ei:∀d:List D,CF d d=true
 |[]=>by simp[CF]
 |a::r=>by simp only[CF,Ht a,Ei r,Bool.and_true]
end
mutual
noncomputable def AR:D->Bool
 | .tup a| .lst a=>N2 a
 | .Ct _| .Bl _ _ _| .ins _ _ _=>false
 |_=>true
noncomputable def N2:List D->Bool
 |[]=>true
 |a::r=>AR a&&N2 r
end
theorem Ce:∀ {ds:List D}{d:D},d∈ds->N2 ds=true->AR d=true
 |a::r,d,h,q=>by
  rw[N2,zb1] at q;rcases za9.mp h with z|z
  ·subst z;exact q.1
  ·exact Ce z q.2
mutual
noncomputable def Js:D->Nat
 | .tup a| .lst a=>Lh a+1
 |_=>0
noncomputable def Lh:List D->Nat
 |[]=>0
 |a::r=>max (Js a) (Lh r)
end
theorem Gw:∀ {ds:List D}{d:D},d∈ds->Js d<=Lh ds
 |a::r,d,h=>by
  rw[Lh];rcases za9.mp h with z|z
  ·subst z;exact Nat.le_max_left _ _
  ·exact zbw (Gw z) (Nat.le_max_right _ _)
theorem Ry:∀ {a b:List D},CF a b=true->a.length=b.length
 |[],[],_=>rfl
 |[],_::_,h|_::_,[],h=>by simp[CF] at h
 |a::r,b::t,h=>by
  simp only[CF,zb1] at h;rw[zad,zad,Ry h.2]
theorem EI:∀(a b:List D),a.length=b.length->(zav a.length).all (λ j=>AA (a.getD j .AK) (b.getD j .AK))=CF a b
 |[],[],_=>by simp[CF]
 |a::r,b::t,h=>by
  have ih:=EI r t (by simpa using h);rw[zad,List.range_succ_eq_map,List.all_cons,List.all_map,CF,<-ih];simp[Function.comp_def]
 |[],_::_,h|_::_,[],h=>by cases h
theorem MA {a b:List D}(h:a.length≠b.length):CF a b=false:=by
 cases e:CF a b with
 |false=>rfl
 |true=>exact absurd (Ry e) h
theorem N3 (a b:List D):((zav (min a.length b.length)).all (λ j=>AA (a.getD j .AK) (b.getD j .AK))&&(a.length==b.length))=CF a b:=by
 by_cases h:a.length=b.length
 ·rw[<-EI a b h,h];simp
 ·rw[MA h,beq_false_of_ne h,Bool.and_false]
section
variable {X:Cx}{pins:List (Addr×Obj)}{σ:St}{H:Hp}{s:Shared}
theorem UO (I:Inv X pins σ H s){a:Addr}{xs ys:List V}(h:DL X.K H a xs)(h':Gr X.K H a ys):False:=by
 obtain⟨aa,_,⟨o,n,e,c,_,_⟩,_⟩:=I.list h;obtain⟨its',_,⟨o',e',c',_⟩,_⟩:=I.tuple h';rw[e] at e';cases e';rw[c] at c';revert c';decide
mutual
theorem gW (I:Inv X pins σ H s):∀ {v:V}{d d':D},AR d=true->AR d'=true->BZ X.K H v d->BZ X.K H v d'->d=d'
 |_,_,_,_,_,.AK,.AK|_,_,_,_,_,.bl _,.bl _|_,_,_,_,_,.int _,.int _|_,_,_,_,_,.str _,.str _=>rfl
 |_,_,_,n1,n2,.tup h r,.tup h' r'=>by
  have e:=I.Io (.of h) (.of h');subst e;rw[Hu I (by rw[AR] at n1;exact n1) (by rw[AR] at n2;exact n2) r r']
 |_,_,_,n1,n2,.lst h r,.lst h' r'=>by
  have e:=I.K2 h h';subst e;rw[Hu I (by rw[AR] at n1;exact n1) (by rw[AR] at n2;exact n2) r r']
 |_,_,_,_,_,.tup h _,.lst h' _=>(UO I h' (.of h)).elim
 |_,_,_,_,_,.lst h _,.tup h' _=>(UO I h (.of h')).elim
 |_,_,_,n1,_,.Ct _ _,_|_,_,_,n1,_,.JU _ _,_|_,_,_,n1,_,.Jr _ _,_|_,_,_,n1,_,.ins _ _ _,_=>by rw[AR] at n1;cases n1
 |_,_,_,_,n2,_,.Ct _ _|_,_,_,_,n2,_,.JU _ _|_,_,_,_,n2,_,.Jr _ _|_,_,_,_,n2,_,.ins _ _ _=>by rw[AR] at n2;cases n2
theorem Hu (I:Inv X pins σ H s):∀ {v:List V}{d d':List D},N2 d=true->N2 d'=true->Aj X.K H v d->Aj X.K H v d'->d=d'
 |_,_,_,_,_,.nil,.nil=>rfl
 |_,_,_,n1,n2,.cons h r,.cons h' r'=>by
  rw[N2,zb1] at n1 n2;rw[gW I n1.1 n2.1 h h',Hu I n1.2 n2.2 r r']
end
theorem Xr {xs:List V}{aa:List Value}(r:Vals xs aa)(j:Nat)(h:j<aa.toArray.size):∃x,xs[j]?=some x/\RelV x aa.toArray[j]:=by
 have h':j<aa.length:=by simpa using h
 have hx:j<xs.length:=by rw[r.length];exact h'
 obtain⟨u,hu,ru⟩:=r.get (zaf hx);rw[zaf h'] at hu;refine⟨xs[j],zaf hx,?_⟩;have e:aa.toArray[j]=u:=by simpa using hu
 rw[e];exact ru
theorem Cz {ds:List D}{j:Nat}{d:D}(h:ds[j]?=some d):ds.getD j .AK=d:=by rw[zb0,h];rfl
theorem N4 (I:Inv X pins σ H s):∀(n:Nat) (A:Around) (d e:D) (v w:V) (u1 u2:Value),Js d<=n->AR d=true->AR e=true->A.units+n<cLine->BZ X.K H v d->BZ X.K H w e->RelV v u1->RelV w u2->SeqAt.EqAt A s u1 u2 (AA d e):=by
 intro n;induction n with
 |zero =>
  intro A d e v w u1 u2 hd bW aw hu h1 h2 r1 r2;have aY:A.units<cLine:=by omega
  cases h1 with
  |Ct _ _|JU _ _|Jr _ _|ins _ _ _=>simp[AR] at bW
  |AK =>
   cases r1;cases h2 with
   |Ct _ _|JU _ _|Jr _ _|ins _ _ _=>simp[AR] at aw
   |AK=>cases r2;simp only[AA];exact .same _
   |bl b=>cases r2;simp only[AA];exact .none_bool _
   |int b=>obtain⟨t,rfl⟩:=r2;simp only[AA];exact .none_int _ _
   |str b=>obtain⟨t,rfl⟩:=r2;simp only[AA];exact .none_str _ _
   |tup h r=>cases r2;simp only[AA];obtain⟨_,_,p,_⟩:=I.tuple (.of h);exact .none_tuple p aY
   |lst h r=>cases r2;simp only[AA];obtain⟨_,_,p,_⟩:=I.list h;exact .none_list p.isList aY
  |bl a =>
   cases r1;cases h2 with
   |Ct _ _|JU _ _|Jr _ _|ins _ _ _=>simp[AR] at aw
   |AK=>cases r2;simp only[AA];exact .bool_none _
   |bl b=>cases r2;simp only[AA];exact .bool_bool _ _
   |int b=>obtain⟨t,rfl⟩:=r2;simp only[AA];exact .bool_int _ _ _
   |str b=>obtain⟨t,rfl⟩:=r2;simp only[AA];exact .bool_str _ _ _
   |tup h r=>cases r2;simp only[AA];obtain⟨_,_,p,_⟩:=I.tuple (.of h);exact .bool_tuple _ p aY
   |lst h r=>cases r2;simp only[AA];obtain⟨_,_,p,_⟩:=I.list h;exact .bool_list _ p.isList aY
  |int a =>
   obtain⟨t',rfl⟩:=r1;cases h2 with
   |Ct _ _|JU _ _|Jr _ _|ins _ _ _=>simp[AR] at aw
   |AK=>cases r2;simp only[AA];exact .int_none _ _
   |bl b=>cases r2;simp only[AA];exact .int_bool _ _ _
   |int b=>obtain⟨t,rfl⟩:=r2;simp only[AA];exact .int_int _ _ _ _
   |str b=>obtain⟨t,rfl⟩:=r2;simp only[AA];exact .int_str _ _ _ _
   |tup h r=>cases r2;simp only[AA];obtain⟨_,_,p,_⟩:=I.tuple (.of h);exact .int_tuple _ _ p aY
   |lst h r=>cases r2;simp only[AA];obtain⟨_,_,p,_⟩:=I.list h;exact .int_list _ _ p.isList aY
  |str a =>
   obtain⟨t',rfl⟩:=r1;cases h2 with
   |Ct _ _|JU _ _|Jr _ _|ins _ _ _=>simp[AR] at aw
   |AK=>cases r2;simp only[AA];exact .str_none _ _
   |bl b=>cases r2;simp only[AA];exact .str_bool _ _ _
   |int b=>obtain⟨t,rfl⟩:=r2;simp only[AA];exact .str_int _ _ _ _
   |str b=>obtain⟨t,rfl⟩:=r2;simp only[AA];exact .str_str _ _ _ _
   |tup h r=>cases r2;simp only[AA];obtain⟨_,_,p,_⟩:=I.tuple (.of h);exact .str_tuple _ _ p aY
   |lst h r=>cases r2;simp only[AA];obtain⟨_,_,p,_⟩:=I.list h;exact .str_list _ _ p.isList aY
  |tup h r|lst h r=>rw[Js] at hd;omega
 |succ n ih =>
  intro A d e v w u1 u2 hd bW aw hu h1 h2 r1 r2;have aY:A.units<cLine:=by omega
  have wm:A.in1.units+n<cLine:=by show A.units+1+n<cLine;omega
  by_cases lg:Js d<=n
  ·exact ih A d e v w u1 u2 lg bW aw (by omega) h1 h2 r1 r2
  cases h1 with
  |Ct _ _|JU _ _|Jr _ _|ins _ _ _=>simp[AR] at bW
  |AK|bl _|int _|str _=>exact absurd (by simp[Js]) lg
  | @tup a xs ds h r =>
   cases r1;obtain⟨aa,rv,p,_⟩:=I.tuple (.of h);cases h2 with
   |Ct _ _|JU _ _|Jr _ _|ins _ _ _=>simp[AR] at aw
   |AK=>cases r2;simp only[AA];exact .tuple_none p aY
   |bl b=>cases r2;simp only[AA];exact .tuple_bool _ p aY
   |int b=>obtain⟨t,rfl⟩:=r2;simp only[AA];exact .tuple_int _ _ p aY
   |str b=>obtain⟨t,rfl⟩:=r2;simp only[AA];exact .tuple_str _ _ p aY
   | @lst a2 dO es h' r'=>cases r2;simp only[AA];obtain⟨_,_,p',_⟩:=I.list h';exact .tuple_list p p'.isList aY
   | @tup a2 dO es h' r' =>
    cases r2;by_cases ha:a=a2
    ·subst ha;have e':=I.Io (.of h) (.of h');subst e';have e2:=Hu I (by rw[AR] at bW;exact bW) (by rw[AR] at aw;exact aw) r r';subst e2;rw[Ht];exact .same _
    ·obtain⟨its',cS,p',_⟩:=I.tuple (.of h');refine .of_refs ha ?_;have q:=SeqAt.RcAt.tuples (A:=A) (e:=λ j=>AA (ds.getD j .AK) (es.getD j .AK)) p p' aY λ j h1 h2=>?_
     ·have z1:aa.toArray.size=ds.length:=by rw[zaa,<-rv.length,r.length]
      have z2:its'.toArray.size=es.length:=by rw[zaa,<-cS.length,r'.length]
      rw[z1,z2,N3] at q;simp only[AA];exact q
     ·obtain⟨x,hx,rx⟩:=Xr rv j h1;obtain⟨y,hy,ry⟩:=Xr cS j h2;obtain⟨dx,ex,eF⟩:=r.Lg hx;obtain⟨dy,ey,eG⟩:=r'.Lg hy;rw[Cz ex,Cz ey];refine ih A.in1 dx dy x y _ _ ?_ (Ce (zag ex) (by rw[AR] at bW;exact bW)) (Ce (zag ey) (by rw[AR] at aw;exact aw)) wm eF eG rx ry;rw[Js] at hd;have:=Gw (zag ex);omega
  | @lst a xs ds h r =>
   cases r1;obtain⟨aa,rv,p,_⟩:=I.list h;cases h2 with
   |Ct _ _|JU _ _|Jr _ _|ins _ _ _=>simp[AR] at aw
   |AK=>cases r2;simp only[AA];exact .list_none p.isList aY
   |bl b=>cases r2;simp only[AA];exact .list_bool _ p.isList aY
   |int b=>obtain⟨t,rfl⟩:=r2;simp only[AA];exact .list_int _ _ p.isList aY
   |str b=>obtain⟨t,rfl⟩:=r2;simp only[AA];exact .list_str _ _ p.isList aY
   | @tup a2 dO es h' r'=>cases r2;simp only[AA];obtain⟨_,_,p',_⟩:=I.tuple (.of h');exact .list_tuple p.isList p' aY
   | @lst a2 dO es h' r' =>
    cases r2;by_cases ha:a=a2
    ·subst ha;have e':=I.K2 h h';subst e';have e2:=Hu I (by rw[AR] at bW;exact bW) (by rw[AR] at aw;exact aw) r r';subst e2;rw[Ht];exact .same _
    ·obtain⟨its',cS,p',_⟩:=I.list h';refine .of_refs ha ?_;have z1:aa.toArray.size=ds.length:=by rw[zaa,<-rv.length,r.length]
     have z2:its'.toArray.size=es.length:=by rw[zaa,<-cS.length,r'.length]
     by_cases hz:aa.toArray.size=its'.toArray.size
     ·have q:=SeqAt.RcAt.lists (A:=A) (e:=λ j=>AA (ds.getD j .AK) (es.getD j .AK)) p.isList p'.isList hz aY λ j h1 h2=>?_
      ·rw[z1,EI ds es (by rw[<-z1,<-z2,hz])] at q;simp only[AA];exact q
      ·obtain⟨x,hx,rx⟩:=Xr rv j h1;obtain⟨y,hy,ry⟩:=Xr cS j h2;obtain⟨dx,ex,eF⟩:=r.Lg hx;obtain⟨dy,ey,eG⟩:=r'.Lg hy;rw[Cz ex,Cz ey];refine ih A.in1 dx dy x y _ _ ?_ (Ce (zag ex) (by rw[AR] at bW;exact bW)) (Ce (zag ey) (by rw[AR] at aw;exact aw)) wm eF eG rx ry;rw[Js] at hd;have:=Gw (zag ex);omega
     ·have q:=SeqAt.RcAt.lists_lengths (A:=A) p.isList p'.isList (by simpa using hz) aY;simp only[AA];rw[MA (by rw[<-z1,<-z2];exact hz)];exact q
theorem xA (I:Inv X pins σ H s)(A:Around)(d e:D)(v w:V)(u1 u2:Value)(hd:A.units+Js d<cLine)(bW:AR d=true)(aw:AR e=true)(h1:BZ X.K H v d)(h2:BZ X.K H w e)(r1:RelV v u1)(r2:RelV w u2):SeqAt.RcAt A s u1 u2 (AA d e):=by
 have aY:A.units<cLine:=by omega
 cases h1 with
 |Ct _ _|JU _ _|Jr _ _|ins _ _ _=>simp[AR] at bW
 |AK =>
  cases r1;cases h2 with
  |Ct _ _|JU _ _|Jr _ _|ins _ _ _=>simp[AR] at aw
  |AK=>cases r2;simp only[AA];exact .none_none
  |bl b=>cases r2;simp only[AA];exact .none_bool _
  |int b=>obtain⟨t,rfl⟩:=r2;simp only[AA];exact .none_int _ _
  |str b=>obtain⟨t,rfl⟩:=r2;simp only[AA];exact .none_str _ _
  |tup h r=>cases r2;simp only[AA];obtain⟨_,_,p,_⟩:=I.tuple (.of h);exact .none_tuple  p aY
  |lst h r=>cases r2;simp only[AA];obtain⟨_,_,p,_⟩:=I.list h;exact .none_list  p.isList aY
 |bl a =>
  cases r1;cases h2 with
  |Ct _ _|JU _ _|Jr _ _|ins _ _ _=>simp[AR] at aw
  |AK=>cases r2;simp only[AA];exact .bool_none _
  |bl b=>cases r2;simp only[AA];exact .bool_bool _ _
  |int b=>obtain⟨t,rfl⟩:=r2;simp only[AA];exact .bool_int _ _ _
  |str b=>obtain⟨t,rfl⟩:=r2;simp only[AA];exact .bool_str _ _ _
  |tup h r=>cases r2;simp only[AA];obtain⟨_,_,p,_⟩:=I.tuple (.of h);exact .bool_tuple _ p aY
  |lst h r=>cases r2;simp only[AA];obtain⟨_,_,p,_⟩:=I.list h;exact .bool_list _ p.isList aY
 |int a =>
  obtain⟨t',rfl⟩:=r1;cases h2 with
  |Ct _ _|JU _ _|Jr _ _|ins _ _ _=>simp[AR] at aw
  |AK=>cases r2;simp only[AA];exact .int_none _ _
  |bl b=>cases r2;simp only[AA];exact .int_bool _ _ _
  |int b=>obtain⟨t,rfl⟩:=r2;simp only[AA];exact .int_int _ _ _ _
  |str b=>obtain⟨t,rfl⟩:=r2;simp only[AA];exact .int_str _ _ _ _
  |tup h r=>cases r2;simp only[AA];obtain⟨_,_,p,_⟩:=I.tuple (.of h);exact .int_tuple _ _ p aY
  |lst h r=>cases r2;simp only[AA];obtain⟨_,_,p,_⟩:=I.list h;exact .int_list _ _ p.isList aY
 |str a =>
  obtain⟨t',rfl⟩:=r1;cases h2 with
  |Ct _ _|JU _ _|Jr _ _|ins _ _ _=>simp[AR] at aw
  |AK=>cases r2;simp only[AA];exact .str_none _ _
  |bl b=>cases r2;simp only[AA];exact .str_bool _ _ _
  |int b=>obtain⟨t,rfl⟩:=r2;simp only[AA];exact .str_int _ _ _ _
  |str b=>obtain⟨t,rfl⟩:=r2;simp only[AA];exact .str_str _ _ _ _
  |tup h r=>cases r2;simp only[AA];obtain⟨_,_,p,_⟩:=I.tuple (.of h);exact .str_tuple _ _ p aY
  |lst h r=>cases r2;simp only[AA];obtain⟨_,_,p,_⟩:=I.list h;exact .str_list _ _ p.isList aY
 | @tup a xs ds h r =>
  cases r1;obtain⟨aa,rv,p,_⟩:=I.tuple (.of h);cases h2 with
  |Ct _ _|JU _ _|Jr _ _|ins _ _ _=>simp[AR] at aw
  |AK=>cases r2;simp only[AA];exact .tuple_none  p aY
  |bl b=>cases r2;simp only[AA];exact .tuple_bool _ p aY
  |int b=>obtain⟨t,rfl⟩:=r2;simp only[AA];exact .tuple_int _ _ p aY
  |str b=>obtain⟨t,rfl⟩:=r2;simp only[AA];exact .tuple_str _ _ p aY
  | @lst a2 dO es h' r'=>cases r2;simp only[AA];obtain⟨_,_,p',_⟩:=I.list h';exact .tuple_list p p'.isList aY
  | @tup a2 dO es h' r' =>
   cases r2;obtain⟨its',cS,p',_⟩:=I.tuple (.of h');have z1:aa.toArray.size=ds.length:=by rw[zaa,<-rv.length,r.length]
   have z2:its'.toArray.size=es.length:=by rw[zaa,<-cS.length,r'.length]
   have q:=SeqAt.RcAt.tuples (A:=A) (e:=λ j=>AA (ds.getD j .AK) (es.getD j .AK)) p p' aY λ j h1 h2=>?_
   ·rw[z1,z2,N3] at q;simp only[AA];exact q
   ·obtain⟨x,hx,rx⟩:=Xr rv j h1;obtain⟨y,hy,ry⟩:=Xr cS j h2;obtain⟨dx,ex,eF⟩:=r.Lg hx;obtain⟨dy,ey,eG⟩:=r'.Lg hy;rw[Cz ex,Cz ey];rw[Js] at hd;have:=Gw (zag ex);exact N4 I (Lh ds) A.in1 dx dy x y _ _ this (Ce (zag ex) (by rw[AR] at bW;exact bW)) (Ce (zag ey) (by rw[AR] at aw;exact aw)) (by show A.units+1+_<cLine;omega) eF eG rx ry
 | @lst a xs ds h r =>
  cases r1;obtain⟨aa,rv,p,_⟩:=I.list h;cases h2 with
  |Ct _ _|JU _ _|Jr _ _|ins _ _ _=>simp[AR] at aw
  |AK=>cases r2;simp only[AA];exact .list_none  p.isList aY
  |bl b=>cases r2;simp only[AA];exact .list_bool _ p.isList aY
  |int b=>obtain⟨t,rfl⟩:=r2;simp only[AA];exact .list_int _ _ p.isList aY
  |str b=>obtain⟨t,rfl⟩:=r2;simp only[AA];exact .list_str _ _ p.isList aY
  | @tup a2 dO es h' r'=>cases r2;simp only[AA];obtain⟨_,_,p',_⟩:=I.tuple (.of h');exact .list_tuple p.isList p' aY
  | @lst a2 dO es h' r' =>
   cases r2;obtain⟨its',cS,p',_⟩:=I.list h';have z1:aa.toArray.size=ds.length:=by rw[zaa,<-rv.length,r.length]
   have z2:its'.toArray.size=es.length:=by rw[zaa,<-cS.length,r'.length]
   by_cases hz:aa.toArray.size=its'.toArray.size
   ·have q:=SeqAt.RcAt.lists (A:=A) (e:=λ j=>AA (ds.getD j .AK) (es.getD j .AK)) p.isList p'.isList hz aY λ j h1 h2=>?_
    ·rw[z1,EI ds es (by rw[<-z1,<-z2,hz])] at q;simp only[AA];exact q
    ·obtain⟨x,hx,rx⟩:=Xr rv j h1;obtain⟨y,hy,ry⟩:=Xr cS j h2;obtain⟨dx,ex,eF⟩:=r.Lg hx;obtain⟨dy,ey,eG⟩:=r'.Lg hy;rw[Cz ex,Cz ey];rw[Js] at hd;have:=Gw (zag ex);exact N4 I (Lh ds) A.in1 dx dy x y _ _ this (Ce (zag ex) (by rw[AR] at bW;exact bW)) (Ce (zag ey) (by rw[AR] at aw;exact aw)) (by show A.units+1+_<cLine;omega) eF eG rx ry
   ·have q:=SeqAt.RcAt.lists_lengths (A:=A) p.isList p'.isList (by simpa using hz) aY;simp only[AA];rw[MA (by rw[<-z1,<-z2];exact hz)];exact q
theorem tL (I:Inv X pins σ H s)(A:Around)(d e:D)(v w:V)(u1 u2:Value)(hd:A.units+Js d<cLine)(bW:AR d=true)(aw:AR e=true)(h1:BZ X.K H v d)(h2:BZ X.K H w e)(r1:RelV v u1)(r2:RelV w u2):SeqAt.RcNeAt A s u1 u2 (!AA d e):=by
 have aY:A.units<cLine:=by omega
 cases h1 with
 |Ct _ _|JU _ _|Jr _ _|ins _ _ _=>simp[AR] at bW
 |AK =>
  cases r1;cases h2 with
  |Ct _ _|JU _ _|Jr _ _|ins _ _ _=>simp[AR] at aw
  |AK=>cases r2;simp only[AA];exact .none_none
  |bl b=>cases r2;simp only[AA];exact .none_bool _
  |int b=>obtain⟨t,rfl⟩:=r2;simp only[AA];exact .none_int _ _
  |str b=>obtain⟨t,rfl⟩:=r2;simp only[AA];exact .none_str _ _
  |tup h r=>cases r2;simp only[AA];obtain⟨_,_,p,_⟩:=I.tuple (.of h);exact .none_tuple  p aY
  |lst h r=>cases r2;simp only[AA];obtain⟨_,_,p,_⟩:=I.list h;exact .none_list  p.isList aY
 |bl a =>
  cases r1;cases h2 with
  |Ct _ _|JU _ _|Jr _ _|ins _ _ _=>simp[AR] at aw
  |AK=>cases r2;simp only[AA];exact .bool_none _
  |bl b=>cases r2;simp only[AA];exact .bool_bool _ _
  |int b=>obtain⟨t,rfl⟩:=r2;simp only[AA];exact .bool_int _ _ _
  |str b=>obtain⟨t,rfl⟩:=r2;simp only[AA];exact .bool_str _ _ _
  |tup h r=>cases r2;simp only[AA];obtain⟨_,_,p,_⟩:=I.tuple (.of h);exact .bool_tuple _ p aY
  |lst h r=>cases r2;simp only[AA];obtain⟨_,_,p,_⟩:=I.list h;exact .bool_list _ p.isList aY
 |int a =>
  obtain⟨t',rfl⟩:=r1;cases h2 with
  |Ct _ _|JU _ _|Jr _ _|ins _ _ _=>simp[AR] at aw
  |AK=>cases r2;simp only[AA];exact .int_none _ _
  |bl b=>cases r2;simp only[AA];exact .int_bool _ _ _
  |int b=>obtain⟨t,rfl⟩:=r2;simp only[AA];exact .int_int _ _ _ _
  |str b=>obtain⟨t,rfl⟩:=r2;simp only[AA];exact .int_str _ _ _ _
  |tup h r=>cases r2;simp only[AA];obtain⟨_,_,p,_⟩:=I.tuple (.of h);exact .int_tuple _ _ p aY
  |lst h r=>cases r2;simp only[AA];obtain⟨_,_,p,_⟩:=I.list h;exact .int_list _ _ p.isList aY
 |str a =>
  obtain⟨t',rfl⟩:=r1;cases h2 with
  |Ct _ _|JU _ _|Jr _ _|ins _ _ _=>simp[AR] at aw
  |AK=>cases r2;simp only[AA];exact .str_none _ _
  |bl b=>cases r2;simp only[AA];exact .str_bool _ _ _
  |int b=>obtain⟨t,rfl⟩:=r2;simp only[AA];exact .str_int _ _ _ _
  |str b=>obtain⟨t,rfl⟩:=r2;simp only[AA];exact .str_str _ _ _ _
  |tup h r=>cases r2;simp only[AA];obtain⟨_,_,p,_⟩:=I.tuple (.of h);exact .str_tuple _ _ p aY
  |lst h r=>cases r2;simp only[AA];obtain⟨_,_,p,_⟩:=I.list h;exact .str_list _ _ p.isList aY
 | @tup a xs ds h r =>
  cases r1;obtain⟨aa,rv,p,_⟩:=I.tuple (.of h);cases h2 with
  |Ct _ _|JU _ _|Jr _ _|ins _ _ _=>simp[AR] at aw
  |AK=>cases r2;simp only[AA];exact .tuple_none  p aY
  |bl b=>cases r2;simp only[AA];exact .tuple_bool _ p aY
  |int b=>obtain⟨t,rfl⟩:=r2;simp only[AA];exact .tuple_int _ _ p aY
  |str b=>obtain⟨t,rfl⟩:=r2;simp only[AA];exact .tuple_str _ _ p aY
  | @lst a2 dO es h' r'=>cases r2;simp only[AA];obtain⟨_,_,p',_⟩:=I.list h';exact .tuple_list p p'.isList aY
  | @tup a2 dO es h' r' =>
   cases r2;obtain⟨its',cS,p',_⟩:=I.tuple (.of h');have z1:aa.toArray.size=ds.length:=by rw[zaa,<-rv.length,r.length]
   have z2:its'.toArray.size=es.length:=by rw[zaa,<-cS.length,r'.length]
   have q:=SeqAt.RcNeAt.tuples (A:=A) (e:=λ j=>AA (ds.getD j .AK) (es.getD j .AK)) p p' aY λ j h1 h2=>?_
   ·rw[z1,z2,N3] at q;simp only[AA];exact q
   ·obtain⟨x,hx,rx⟩:=Xr rv j h1;obtain⟨y,hy,ry⟩:=Xr cS j h2;obtain⟨dx,ex,eF⟩:=r.Lg hx;obtain⟨dy,ey,eG⟩:=r'.Lg hy;rw[Cz ex,Cz ey];rw[Js] at hd;have:=Gw (zag ex);exact N4 I (Lh ds) A.in1 dx dy x y _ _ this (Ce (zag ex) (by rw[AR] at bW;exact bW)) (Ce (zag ey) (by rw[AR] at aw;exact aw)) (by show A.units+1+_<cLine;omega) eF eG rx ry
 | @lst a xs ds h r =>
  cases r1;obtain⟨aa,rv,p,_⟩:=I.list h;cases h2 with
  |Ct _ _|JU _ _|Jr _ _|ins _ _ _=>simp[AR] at aw
  |AK=>cases r2;simp only[AA];exact .list_none  p.isList aY
  |bl b=>cases r2;simp only[AA];exact .list_bool _ p.isList aY
  |int b=>obtain⟨t,rfl⟩:=r2;simp only[AA];exact .list_int _ _ p.isList aY
  |str b=>obtain⟨t,rfl⟩:=r2;simp only[AA];exact .list_str _ _ p.isList aY
  | @tup a2 dO es h' r'=>cases r2;simp only[AA];obtain⟨_,_,p',_⟩:=I.tuple (.of h');exact .list_tuple p.isList p' aY
  | @lst a2 dO es h' r' =>
   cases r2;obtain⟨its',cS,p',_⟩:=I.list h';have z1:aa.toArray.size=ds.length:=by rw[zaa,<-rv.length,r.length]
   have z2:its'.toArray.size=es.length:=by rw[zaa,<-cS.length,r'.length]
   by_cases hz:aa.toArray.size=its'.toArray.size
   ·have q:=SeqAt.RcNeAt.lists (A:=A) (e:=λ j=>AA (ds.getD j .AK) (es.getD j .AK)) p.isList p'.isList hz aY λ j h1 h2=>?_
    ·rw[z1,EI ds es (by rw[<-z1,<-z2,hz])] at q;simp only[AA];exact q
    ·obtain⟨x,hx,rx⟩:=Xr rv j h1;obtain⟨y,hy,ry⟩:=Xr cS j h2;obtain⟨dx,ex,eF⟩:=r.Lg hx;obtain⟨dy,ey,eG⟩:=r'.Lg hy;rw[Cz ex,Cz ey];rw[Js] at hd;have:=Gw (zag ex);exact N4 I (Lh ds) A.in1 dx dy x y _ _ this (Ce (zag ex) (by rw[AR] at bW;exact bW)) (Ce (zag ey) (by rw[AR] at aw;exact aw)) (by show A.units+1+_<cLine;omega) eF eG rx ry
   ·have q:=SeqAt.RcNeAt.lists_lengths (A:=A) p.isList p'.isList (by simpa using hz) aY;simp only[AA];rw[MA (by rw[<-z1,<-z2];exact hz)];exact q
noncomputable def gY (K:za0)(A:Around)(neg:Bool):R2:=λ x y H Q=>∃d e,BZ K H x d/\BZ K H y e/\A.units+Js d<cLine/\AR d=true/\AR e=true/\Q (.bl (if neg=true then !AA d e else AA d e)) H
theorem Yc:Hm X (compareOp .Eq) (gY X.K X.A false):=by
 intro pins s σ H x y v u Q I rx ry h;obtain⟨d,e,hd,he,hu,n1,n2,q⟩:=h;exact xA I X.A d e x y v u hu n1 n2 hd he rx ry X.prog X.w X.xe _ ⟨.bl _,H,I,rfl,q⟩
theorem oK:Hm X (compareOp .NotEq) (gY X.K X.A true):=by
 intro pins s σ H x y v u Q I rx ry h;obtain⟨d,e,hd,he,hu,n1,n2,q⟩:=h;exact tL I X.A d e x y v u hu n1 n2 hd he rx ry X.prog X.w X.xe _ ⟨.bl _,H,I,rfl,q⟩
end
inductive OT where
 |sh (d:D)|lst (ts:List OT)|tup (ts:List OT)|Bl (t:Bool) (ks:List D) (ts:List OT)|ins (x:Str) (ns:List Str) (ts:List OT)
inductive Ow where
 |rows (Hv:List (List D))
 |J9 (p:Nat) (ds:List D)
 |tree (p:Option Nat) (t:OT)
inductive Cl where
 |val (d:D)|own (ds:List D)|ow (o:Ow)
noncomputable abbrev Aa:=List (Option Cl)
inductive M (α:Type) where
 |ok (a:α)|ex (c:Str)|bad
noncomputable def M.bind {α β:Type}(m:M α)(k:α->M β):M β:=match m with
 | .ok a=>k a
 | .ex c=>.ex c
 | .bad=>.bad
@[simp] theorem M.A8 {α β:Type}(a:α) (k:α->M β):(M.ok a).bind k=k a:=rfl
noncomputable def del (H:Hp)(P:Addr->Prop):Hp:=λ a=>open Classical in if P a then none else H a
theorem AQ {H:Hp}{P:Addr->Prop}{a:Addr}(h:¬ P a):del H P a=H a:=by unfold del;rw[if_neg h]
theorem Gx {H:Hp}{P:Addr->Prop}{a:Addr}(h:P a):del H P a=none:=by unfold del;rw[if_pos h]
theorem Ax {H:Hp}{P:Addr->Prop}{a:Addr}{o:HO}(h:del H P a=some o):¬ P a/\H a=some o:=by
 by_cases hp:P a
 ·rw[Gx hp] at h;cases h
 ·rw[AQ hp] at h;exact⟨hp,h⟩
theorem Rd.Bs {H:Hp}{P:Addr->Prop}{a:Addr}{u:HO}(r:Rd (del H P) a u):Rd H a u:=r.elim (λ h=>.inl (Ax h).2) λ⟨o,h⟩=>.inr ⟨o,(Ax h).2⟩
theorem Ag.del {H H':Hp}{P:Addr->Prop}(e:Ag H H'):Ag (del H P) (del H' P):=λ b o h=>by
 obtain⟨h1,h2⟩:=Ax h;rw[AQ h1];exact e b o h2
theorem CV {H:Hp}{P P':Addr->Prop}(h:∀a,P' a->P a):Ag (L2.del H P) (L2.del H P'):=λ b o e=>by
 obtain⟨h1,h2⟩:=Ax e;rw[AQ λ z=>h1 (h b z)];exact h2
theorem CW {H:Hp}{P:Addr->Prop}:Ag (L2.del H P) H:=λ b o e=>(Ax e).2
def E6 (H:Hp)(a:Addr):Prop:=∃o,H a=some o/\∀xs,o≠.tup xs/\∀z,o≠.VL z (.tup xs)
theorem E6.same {H H':Hp}{a:Addr}(h:E6 H a)(e:Ag H H'):E6 H' a:=let ⟨o,q,r⟩:=h;⟨o,e a o q,r⟩
theorem E6.no {H:Hp}{a:Addr}(h:E6 H a)(e:H a=none):False:=by
 obtain⟨o,q,r⟩:=h;rw[e] at q;cases q
theorem E6.lst {H:Hp}{a:Addr}{xs:List V}(h:H a=some (.lst xs)):E6 H a:=⟨_,h,λ _=>⟨λ z=>(by cases z),λ _ z=>by cases z⟩⟩
mutual
inductive C6 (K:za0) (H:Hp) (P:Addr->Prop):V->OT->List Addr->Prop
 |sh {v d}:BZ K (del H P) v d->C6 K H P v (.sh d) []
 |lst {p xs ts fp}:H p=some (.lst xs)->AO K H P xs ts fp->C6 K H P (.ref p) (.lst ts) (p::fp)
 |tup {p xs ts fp}:del H P p=some (.tup xs)->AO K H P xs ts fp->C6 K H P (.ref p) (.tup ts) fp
 |dK {p kvs ts fp}:H p=some (.dK kvs)->AO K H P (kvs.map zch) ts fp->C6 K H P (.ref p) (.Bl false (kvs.map λ kv=>Fn kv.1) ts) (p::fp)
 |dT {p kvs ts fp}:H p=some (.dT kvs)->AO K H P (kvs.map zch) ts fp->C6 K H P (.ref p) (.Bl true (kvs.map λ kv=>.tup (kv.1.map Fn)) ts) (p::fp)
 |ins {p C dx fs ts fp x}:za1 K mainGlobals x=some (some (.ref C))->H p=some (.ins C dx fs)->AO K H P (fs.map zch) ts fp->C6 K H P (.ref p) (.ins x (fs.map zbg) ts) (p::fp)
inductive AO (K:za0) (H:Hp) (P:Addr->Prop):List V->List OT->List Addr->Prop
 |nil:AO K H P [] [] []
 |cons {v t fp vs ts fq}:C6 K H P v t fp->AO K H P vs ts fq->AO K H P (v::vs) (t::ts) (fp++fq)
end
mutual
noncomputable def er:OT->D
 | .sh d=>d
 | .lst ts=>.lst (Rz ts)
 | .tup ts=>.tup (Rz ts)
 | .Bl t ks ts=>.Bl t ks (Rz ts)
 | .ins x ns ts=>.ins x ns (Rz ts)
noncomputable def Rz:List OT->List D
 |[]=>[]
 |t::r=>er t::Rz r
end
mutual
theorem C6.move {K:za0}{H H':Hp}{P P':Addr->Prop}(sm:Ag (del H P) (del H' P')):∀ {v:V}{t:OT}{fp:List Addr},(∀a∈fp,H' a=H a)->C6 K H P v t fp->C6 K H' P' v t fp
 |_,_,_,_,.sh h=>.sh (h.mono sm)
 |_,_,_,k,.lst h r=>.lst ((k _ za3).trans h) (AO.move sm (λ a ha=>k a (za4 _ ha)) r)
 |_,_,_,k,.tup h r=>.tup (sm _ _ h) (AO.move sm k r)
 |_,_,_,k,.dK h r=>.dK ((k _ za3).trans h) (AO.move sm (λ a ha=>k a (za4 _ ha)) r)
 |_,_,_,k,.dT h r=>.dT ((k _ za3).trans h) (AO.move sm (λ a ha=>k a (za4 _ ha)) r)
 |_,_,_,k,.ins n h r=>.ins n ((k _ za3).trans h) (AO.move sm (λ a ha=>k a (za4 _ ha)) r)
theorem AO.move {K:za0}{H H':Hp}{P P':Addr->Prop}(sm:Ag (del H P) (del H' P')):∀ {v:List V}{t:List OT}{fp:List Addr},(∀a∈fp,H' a=H a)->AO K H P v t fp->AO K H' P' v t fp
 |_,_,_,_,.nil=>.nil
 |_,_,_,k,.cons h r=>.cons (C6.move sm (λ a ha=>k a (zas _ ha)) h) (AO.move sm (λ a ha=>k a (zac _ ha)) r)
end
mutual
theorem C6.Ci {K:za0}{H:Hp}{P:Addr->Prop}:∀ {v:V}{t:OT}{fp:List Addr},C6 K H P v t fp->∀a∈fp,E6 H a
 |_,_,_,.sh h,a,ha=>by cases ha
 |_,_,_,.lst h r,a,ha=>by
  rcases za9.mp ha with rfl|ha
  ·exact .lst h
  ·exact AO.Ci r a ha
 |_,_,_,.tup h r,a,ha=>AO.Ci r a ha
 |_,_,_,.dK h r,a,ha=>by
  rcases za9.mp ha with rfl|ha
  ·exact⟨_,h,λ _=>⟨λ z=>(by cases z),λ _ z=>by cases z⟩⟩
  ·exact AO.Ci r a ha
 |_,_,_,.dT h r,a,ha=>by
  rcases za9.mp ha with rfl|ha
  ·exact⟨_,h,λ _=>⟨λ z=>(by cases z),λ _ z=>by cases z⟩⟩
  ·exact AO.Ci r a ha
 |_,_,_,.ins n h r,a,ha=>by
  rcases za9.mp ha with rfl|ha
  ·exact⟨_,h,λ _=>⟨λ z=>(by cases z),λ _ z=>by cases z⟩⟩
  ·exact AO.Ci r a ha
theorem AO.Ci {K:za0}{H:Hp}{P:Addr->Prop}:∀ {v:List V}{t:List OT}{fp:List Addr},AO K H P v t fp->∀a∈fp,E6 H a
 |_,_,_,.nil,a,ha=>by cases ha
 |_,_,_,.cons h r,a,ha=>by
  rcases zar.mp ha with ha|ha
  ·exact C6.Ci h a ha
  ·exact AO.Ci r a ha
end
mutual
theorem C6.Cf {K:za0}{H:Hp}{P P':Addr->Prop}:∀ {v:V}{t:OT}{fp aO:List Addr},C6 K H P v t fp->C6 K H P' v t aO->fp=aO
 |_,_,_,_,.sh _,.sh _=>rfl
 |_,_,_,_,.lst h r,.lst h' r'=>by
  rw[h] at h';cases h';rw[AO.Cf r r']
 |_,_,_,_,.tup h r,.tup h' r'=>by
  have e:=(Ax h).2.symm.trans (Ax h').2;cases e;exact AO.Cf r r'
 |_,_,_,_,.dK (kvs:=kvs) (ts:=ts) h r,x=>by
  generalize ht:OT.Bl false (kvs.map λ kv=>Fn kv.1) ts=t at x;cases x with
  |dK h' r' =>
   rw[h] at h';cases h';injection ht with _ _ e
   subst e;rw[AO.Cf r r']
  |dT h' r'=>rw[h] at h';cases h'
  |_=>cases ht
 |_,_,_,_,.dT (kvs:=kvs) (ts:=ts) h r,x=>by
  generalize ht:OT.Bl true (kvs.map λ kv=>D.tup (kv.1.map Fn)) ts=t at x;cases x with
  |dT h' r' =>
   rw[h] at h';cases h';injection ht with _ _ e
   subst e;rw[AO.Cf r r']
  |dK h' r'=>rw[h] at h';cases h'
  |_=>cases ht
 |_,_,_,_,.ins (fs:=fs) (ts:=ts) (x:=y) n h r,x=>by
  generalize ht:OT.ins y (fs.map zbg) ts=t at x;cases x with
  |ins n' h' r' =>
   rw[h] at h';cases h';injection ht with _ _ e
   subst e;rw[AO.Cf r r']
  |_=>cases ht
theorem AO.Cf {K:za0}{H:Hp}{P P':Addr->Prop}:∀ {v:List V}{t:List OT}{fp aO:List Addr},AO K H P v t fp->AO K H P' v t aO->fp=aO
 |_,_,_,_,.nil,.nil=>rfl
 |_,_,_,_,.cons h r,.cons h' r'=>by rw[C6.Cf h h',AO.Cf r r']
end
mutual
theorem C6.has {K:za0}{H:Hp}{P P0:Addr->Prop}(hs:∀a,P0 a->P a):∀ {v:V}{t:OT}{fp:List Addr},(∀a∈fp,¬ P0 a)->C6 K H P v t fp->BZ K (del H P0) v (er t)
 |_,_,_,_,.sh h=>by rw[er];exact h.mono (CV hs)
 |_,_,_,k,.lst h r=>by rw[er];exact .lst (.of (show del H P0 _=_ by rw[AQ (k _ za3)];exact h)) (AO.has hs (λ a ha=>k a (za4 _ ha)) r)
 |_,_,_,k,.tup h r=>by rw[er];exact .tup (CV hs _ _ h) (AO.has hs k r)
 |_,_,_,k,.dK h r=>by rw[er];exact .JU (.inl (show del H P0 _=_ by rw[AQ (k _ za3)];exact h)) (AO.has hs (λ a ha=>k a (za4 _ ha)) r)
 |_,_,_,k,.dT h r=>by rw[er];exact .Jr (.inl (show del H P0 _=_ by rw[AQ (k _ za3)];exact h)) (AO.has hs (λ a ha=>k a (za4 _ ha)) r)
 |_,_,_,k,.ins n h r=>by rw[er];exact .ins n (show del H P0 _=_ by rw[AQ (k _ za3)];exact h) (AO.has hs (λ a ha=>k a (za4 _ ha)) r)
theorem AO.has {K:za0}{H:Hp}{P P0:Addr->Prop}(hs:∀a,P0 a->P a):∀ {v:List V}{t:List OT}{fp:List Addr},(∀a∈fp,¬ P0 a)->AO K H P v t fp->Aj K (del H P0) v (Rz t)
 |_,_,_,_,.nil=>by rw[Rz];exact .nil
 |_,_,_,k,.cons h r=>by rw[Rz];exact .cons (C6.has hs (λ a ha=>k a (zas _ ha)) h) (AO.has hs (λ a ha=>k a (zac _ ha)) r)
end
inductive EJ (K:za0) (H:Hp) (P:Addr->Prop):List Addr->List (List D)->Prop
 |nil:EJ K H P [] []
 |cons {q:Addr} {xs:List V} {ds:List D} {ps:List Addr} {Hv:List (List D)}:H q=some (.lst xs)->Aj K (del H P) xs ds->EJ K H P ps Hv->EJ K H P (q::ps) (ds::Hv)
def DC (K:za0)(H:Hp)(P:Addr->Prop):Cl->V->List Addr->Prop
 | .own ds,v,fp=>∃p xs,v=.ref p/\fp=[p]/\H p=some (.lst xs)/\Aj K (del H P) xs ds
 | .ow (.rows Hv),v,fp=>∃p ps,v=.ref p/\fp=p::ps/\H p=some (.lst (ps.map V.ref))/\EJ K H P ps Hv
 | .ow (.J9 _ ds),v,fp=>∃p xs,v=.ref p/\fp=[p]/\H p=some (.lst xs)/\Aj K (del H P) xs ds
 | .ow (.tree _ t),v,fp=>C6 K H P v t fp
 | .val _,_,_=>False
noncomputable def Ja:Cl->Bool
 | .val _=>false
 |_=>true
theorem EJ.move {K:za0}{H H':Hp}{P P':Addr->Prop}(sm:Ag (del H P) (del H' P')):∀ {ps:List Addr}{Hv:List (List D)},(∀a∈ps,H' a=H a)->EJ K H P ps Hv->EJ K H' P' ps Hv
 |_,_,_,.nil=>.nil
 |_,_,k,.cons h r t=>.cons ((k _ za3).trans h) (r.mono sm) (EJ.move sm (λ a ha=>k a (za4 _ ha)) t)
theorem EJ.at {K:za0}{H:Hp}{P:Addr->Prop}:∀ {ps:List Addr}{Hv:List (List D)},EJ K H P ps Hv->∀a∈ps,∃xs,H a=some (.lst xs)
 |_,_,.nil,a,h=>by cases h
 |_,_,.cons h r t,a,ha=>by
  rcases za9.mp ha with rfl|ha
  ·exact⟨_,h⟩
  ·exact t.at a ha
theorem RB:∀ {ps qs:List Addr},ps.map V.ref=qs.map V.ref->ps=qs
 |[],[],_=>rfl
 |[],_::_,h|_::_,[],h=>by cases h
 |p::ps,q::qs,h=>by
  rw[za8,za8] at h;injection h with h1 h2
  injection h1 with h1
  rw[h1,RB h2]
theorem DC.move {K:za0}{H H':Hp}{P P':Addr->Prop}(sm:Ag (del H P) (del H' P')){c:Cl}{v:V}{fp:List Addr}(k:∀a∈fp,H' a=H a)(h:DC K H P c v fp):DC K H' P' c v fp:=by
 cases c with
 |val d=>exact h
 |own ds =>
  obtain⟨p,xs,rfl,rfl,h1,h2⟩:=h;exact⟨p,xs,rfl,rfl,(k p za3).trans h1,h2.mono sm⟩
 |ow o =>
  cases o with
  |rows Hv =>
   obtain⟨p,ps,rfl,rfl,h1,h2⟩:=h;exact⟨p,ps,rfl,rfl,(k p za3).trans h1,h2.move sm λ a ha=>k a (za4 _ ha)⟩
  |J9 p ds =>
   obtain⟨p,xs,rfl,rfl,h1,h2⟩:=h;exact⟨p,xs,rfl,rfl,(k p za3).trans h1,h2.mono sm⟩
  |tree p t=>exact C6.move sm k h
theorem DC.at {K:za0}{H:Hp}{P:Addr->Prop}{c:Cl}{v:V}{fp:List Addr}(h:DC K H P c v fp):∀a∈fp,∃o,H a=some o:=by
 cases c with
 |val d=>exact h.elim
 |own ds =>
  obtain⟨p,xs,rfl,rfl,h1,h2⟩:=h;exact λ a ha=>⟨.lst xs,by rw[zaj.mp ha];exact h1⟩
 |ow o =>
  cases o with
  |rows Hv =>
   obtain⟨p,ps,rfl,rfl,h1,h2⟩:=h;intro a ha;rcases za9.mp ha with rfl|ha
   ·exact⟨_,h1⟩
   ·obtain⟨xs,q⟩:=h2.at a ha;exact⟨_,q⟩
  |J9 p ds =>
   obtain⟨p,xs,rfl,rfl,h1,h2⟩:=h;exact λ a ha=>⟨.lst xs,by rw[zaj.mp ha];exact h1⟩
  |tree p t =>
   intro a ha;obtain⟨o,q,_⟩:=C6.Ci h a ha;exact⟨o,q⟩
theorem DC.same {K:za0}{H H':Hp}{P:Addr->Prop}(e:Ag H H'){c:Cl}{v:V}{fp:List Addr}(h:DC K H P c v fp):DC K H' P c v fp:=
 h.move e.del λ a ha=>by obtain⟨xs,q⟩:=h.at a ha;rw[q];exact e _ _ q
theorem DC.Cf {K:za0}{H:Hp}{P P':Addr->Prop}{c:Cl}{v:V}{fp aO:List Addr}(h:DC K H P c v fp)(h':DC K H P' c v aO):fp=aO:=by
 cases c with
 |val d=>exact h.elim
 |own ds =>
  obtain⟨p,xs,rfl,rfl,h1,h2⟩:=h;obtain⟨p',iy,e,rfl,gy,lh⟩:=h';cases e;rfl
 |ow o =>
  cases o with
  |rows Hv =>
   obtain⟨p,ps,rfl,rfl,h1,h2⟩:=h;obtain⟨p',ye,e,rfl,gy,lh⟩:=h';cases e;rw[h1] at gy;injection gy with e
   injection e with e
   rw[RB e]
  |J9 p ds =>
   obtain⟨p,xs,rfl,rfl,h1,h2⟩:=h;obtain⟨p',iy,e,rfl,gy,lh⟩:=h';cases e;rfl
  |tree p t=>exact C6.Cf h h'
structure E7 where
 pr:Addr->Prop
 g:Nat->Addr
instance:CoeFun E7 (λ _=>Addr->Prop):=⟨E7.pr⟩
instance:Coe E7 (Addr->Prop):=⟨E7.pr⟩
noncomputable def Pb:Cl->Option Nat
 | .ow (.J9 n _)=>some n
 | .ow (.tree (some n) _)=>some n
 |_=>none
structure Al (K:za0)(P0:E7)(P:Addr->Prop)(H:Hp)(σ:St)(ρ:Aa):Prop where
 sub:∀a,P0 a->P a
 Ci:∀a,P a->E6 H a
 val:∀(i:Nat) d,ρ[i]?=some (some (.val d))->∃v,σ[i]?=some (some v)/\BZ K (del H P) v d
 ows:∀(i:Nat) c,ρ[i]?=some (some c)->Ja c=true->∃v fp,σ[i]?=some (some v)/\DC K H P c v fp/\(∀a∈fp,P a/\¬ P0 a)/\fp.Nodup
 apart:∀(i j:Nat) c c' v v' fp aO,ρ[i]?=some (some c)->ρ[j]?=some (some c')->σ[i]?=some (some v)->σ[j]?=some (some v')->DC K H P c v fp->DC K H P c' v' aO->i≠j->∀a∈fp,a∉aO
 len:σ.length=ρ.length
 pin:∀(i:Nat) c n,ρ[i]?=some (some c)->Pb c=some n->σ[i]?=some (some (.ref (P0.g n)))
theorem Al.own {K:za0}{P0:E7}{P:Addr->Prop}{H:Hp}{σ:St}{ρ:Aa}(E:Al K P0 P H σ ρ)(i:Nat)(ds:List D)(h:ρ[i]?=some (some (.own ds))):
 ∃p xs,σ[i]?=some (some (.ref p))/\H p=some (.lst xs)/\P p/\¬ P0 p/\Aj K (del H P) xs ds:=by
 obtain⟨v,fp,h1,⟨p,xs,rfl,rfl,h2,h3⟩,h4,_⟩:=E.ows i _ h rfl;exact⟨p,xs,h1,h2,(h4 p za3).1,(h4 p za3).2,h3⟩
theorem Al.Yd {K:za0}{P0:E7}{P P':Addr->Prop}{H H':Hp}{σ:St}{ρ:Aa}(E:Al K P0 P H σ ρ)(sm:Ag (del H P) (del H' P')){i j:Nat}{c c':Cl}{v v':V}{fp aO:List Addr}
 (ki:∀v fp,σ[i]?=some (some v)->DC K H P c v fp->∀a∈fp,H' a=H a) (kj:∀v fp,σ[j]?=some (some v)->DC K H P c' v fp->∀a∈fp,H' a=H a)
 (hi:ρ[i]?=some (some c)) (hj:ρ[j]?=some (some c')) (si:σ[i]?=some (some v)) (sj:σ[j]?=some (some v')) (h:DC K H' P' c v fp) (h':DC K H' P' c' v' aO) (au:i≠j):∀a∈fp,a∉aO:=by
 have key:∀(k:Nat) (d:Cl) (w:V) (fq:List Addr),ρ[k]?=some (some d)->σ[k]?=some (some w)->(∀v fp,σ[k]?=some (some v)->DC K H P d v fp->∀a∈fp,H' a=H a)->DC K H' P' d w fq->DC K H P d w fq:=λ k d w fq hk sk kk ho=>by
  have io:Ja d=true:=by cases d<;>first|rfl|exact ho.elim
  obtain⟨w',dY,s2,o2,_⟩:=E.ows k d hk io;rw[sk] at s2;cases s2;have o3:=o2.move sm (kk _ _ sk o2);rw[ho.Cf o3];exact o2
 exact E.apart i j c c' v v' fp aO hi hj si sj (key i c v fp hi si ki h) (key j c' v' aO hj sj kj h') au
theorem Al.same {K:za0}{P0:E7}{P:Addr->Prop}{H H':Hp}{σ:St}{ρ:Aa}(E:Al K P0 P H σ ρ)(e:Ag H H'):Al K P0 P H' σ ρ:=
 ⟨E.sub,λ a h=>(E.Ci a h).same e,λ i d h=>let ⟨v,h1,h2⟩:=E.val i d h;⟨v,h1,h2.mono e.del⟩,
  λ i c h io=>let ⟨v,fp,h1,h2,h3,h4⟩:=E.ows i c h io;⟨v,fp,h1,h2.same e,h3,h4⟩,
  λ i j c c' v v' fp aO hi hj si sj h h' au=>E.Yd e.del (λ v fp _ o a ha=>by obtain⟨xs,q⟩:=o.at a ha;rw[q];exact e _ _ q) (λ v fp _ o a ha=>by obtain⟨xs,q⟩:=o.at a ha;rw[q];exact e _ _ q) hi hj si sj h h' au,E.len,E.pin⟩
def gV (K:za0)(WX:Str->Hp->Prop)(P:Addr->Prop)(H:Hp)(Q:VK):M D->Prop
 | .ok d=>∀v H',Ag H H'->BZ K (del H' P) v d->Q v H'
 | .ex x=>∀H',Ag H H'->WX x H'
 | .bad=>False
def gA (K:za0)(WX:Str->Hp->Prop)(P:Addr->Prop)(H:Hp)(Q:List V->Hp->Prop):M (List D)->Prop
 | .ok d=>∀v H',Ag H H'->Aj K (del H' P) v d->Q v H'
 | .ex x=>∀H',Ag H H'->WX x H'
 | .bad=>False
def gT (WX:Str->Hp->Prop)(H:Hp)(Q:Bool->Hp->Prop):M Bool->Prop
 | .ok b=>∀H',Ag H H'->Q b H'
 | .ex x=>∀H',Ag H H'->WX x H'
 | .bad=>False
section
variable {K:za0}{WX:Str->Hp->Prop}{P:Addr->Prop}{H H':Hp}
theorem gV.same {Q:VK}{m:M D}(h:gV K WX P H Q m)(e:Ag H H'):gV K WX P H' Q m:=by
 cases m with
 |ok d=>exact λ v H2 q hv=>h v H2 (e.trans q) hv
 |ex x=>exact λ H2 q=>h H2 (e.trans q)
 |bad=>exact h
theorem gA.same {Q:List V->Hp->Prop}{m:M (List D)}(h:gA K WX P H Q m)(e:Ag H H'):gA K WX P H' Q m:=by
 cases m with
 |ok d=>exact λ v H2 q hv=>h v H2 (e.trans q) hv
 |ex x=>exact λ H2 q=>h H2 (e.trans q)
 |bad=>exact h
theorem gT.same {Q:Bool->Hp->Prop}{m:M Bool}(h:gT WX H Q m)(e:Ag H H'):gT WX H' Q m:=by
 cases m with
 |ok d|ex x=>exact λ H2 q=>h H2 (e.trans q)
 |bad=>exact h
end
def Lv (c:Bool)(P0:E7)(P:Addr->Prop):Addr->Prop:=if c=true then P else P0.pr
def DE (X:Cx)(WX:Str->Hp->Prop)(c:Bool)(e:Expr)(f:Aa->M D):Prop:=
 ∃t,PE X e t/\∀P0 P σ H Q ρ,Al X.K P0 P H σ ρ->gV X.K WX (Lv c P0 P) H Q (f ρ)->t σ H Q
def DA (X:Cx)(WX:Str->Hp->Prop)(c:Bool)(es:List Expr)(f:Aa->M (List D)):Prop:=
 ∃t,PA X es t/\(∀P0 P σ H Q ρ,Al X.K P0 P H σ ρ->gA X.K WX (Lv c P0 P) H Q (f ρ)->t σ H Q)/\∀ρ ds,f ρ=.ok ds->ds.length=es.length
def DT (X:Cx)(WX:Str->Hp->Prop)(e:Expr)(f:Aa->M Bool):Prop:=
 ∃t,PT X e t/\∀P0 P σ H Q ρ,Al X.K P0 P H σ ρ->gT WX H Q (f ρ)->t σ H Q
def DW (X:Cx)(WX:Str->Hp->Prop)(e:Expr)(f:Aa->M Bool):Prop:=
 ∃t,PW X e t/\∀P0 P σ H Q ρ,Al X.K P0 P H σ ρ->gT WX H Q (f ρ)->t σ H Q
theorem DW.dt {X:Cx}{WX:Str->Hp->Prop}{e:Expr}{f:Aa->M Bool}(h:DW X WX e f):DT X WX e f:=let ⟨t,h1,h2⟩:=h;⟨t,h1.pt,h2⟩
section
variable {X:Cx}{WX:Str->Hp->Prop}{c:Bool}{P0:E7}{P:Addr->Prop}{H:Hp}{σ:St}{ρ:Aa}
theorem Al.lv (E:Al X.K P0 P H σ ρ)(c:Bool):∀a,Lv c P0 P a->P a:=λ a h=>by
 cases c with
 |true=>exact h
 |false=>exact E.sub a h
theorem Al.tM (E:Al X.K P0 P H σ ρ)(c:Bool):∀a,Lv c P0 P a->E6 H a:=λ a h=>E.Ci a (E.lv c a h)
theorem Li {e:Expr}{f:Aa->M D}(h:DE X WX true e f):DE X WX false e f:=by
 obtain⟨t,h1,h2⟩:=h;refine⟨t,h1,λ P0 P σ H Q ρ E g=>h2 P0 P σ H Q ρ E ?_⟩;cases e:f ρ with
 |ok d=>rw[e] at g;exact λ v H' s hv=>g v H' s (hv.mono (CV E.sub))
 |ex x|bad=>rw[e] at g;exact g
noncomputable def tN:D->Bool
 | .tup _ | .lst _ | .Ct _ | .Bl _ _ _ | .ins _ _ _=>false
 |_=>true
noncomputable def fl (m:M D):M D:=m.bind λ d=>if tN d=true then .ok d else .bad
noncomputable def rv (i:Nat)(ρ:Aa):M D:=match ρ[i]? with | some (some (.val d))=>.ok d | _=>.bad
noncomputable def ra (i:Nat)(ρ:Aa):M D:=match ρ[i]? with | some (some (.val d))=>.ok d | some (some (.own ds))=>.ok (.lst ds) | some (some (.ow (.rows Hv)))=>.ok (.lst (Hv.map D.lst)) | some (some (.ow (.J9 _ ds)))=>.ok (.lst ds) | some (some (.ow (.tree _ t)))=>.ok (er t) | _=>.bad
theorem A2 (i:Nat){x:Str}{pos:Pos}(h:PE X (.Name x pos) (Rg i)):DE X WX true (.Name x pos) (rv i):=by
 refine⟨_,h,λ P0 P σ H Q ρ E g=>?_⟩;unfold rv at g;split at g
 ·rename_i d e;obtain⟨v,h1,h2⟩:=E.val i d e;exact⟨v,h1,g v H (Ag.refl H) h2⟩
 ·exact g.elim
theorem A3 {i j pos}:DE X WX c (.Constant (.int i) j pos) (λ _=>.ok (.int i)):=⟨_,mR,λ P0 P σ H Q ρ E g=>g _ H (Ag.refl H) (.int i)⟩
theorem C0 {b j pos}:DE X WX c (.Constant (.bool b) j pos) (λ _=>.ok (.bl b)):=⟨_,rW,λ P0 P σ H Q ρ E g=>g _ H (Ag.refl H) (.bl b)⟩
theorem Ck {j pos}:DE X WX c (.Constant .none j pos) (λ _=>.ok .AK):=⟨_,mS,λ P0 P σ H Q ρ E g=>g _ H (Ag.refl H) .AK⟩
theorem Jt {x j pos}:DE X WX c (.Constant (.str x) j pos) (λ _=>.ok (.str x)):=⟨_,mU,λ P0 P σ H Q ρ E g=>g _ H (Ag.refl H) (.str x)⟩
def TB (K:za0)(WX:Str->Hp->Prop)(r:R2)(cO:D->D->M D):Prop:=
 ∀(P:Addr->Prop) (H:Hp) (x y:D) (v w:V) (Q:VK),(∀a,P a->E6 H a)->BZ K (del H P) v x->BZ K (del H P) w y->gV K WX P H Q (cO x y)->r v w H Q
variable {a b:Expr}{f g:Aa->M D}{pos:Pos}
theorem RC {ta tb:TE}{r:R2}{cO:D->D->M D}(ha:∀P0 P σ H Q ρ,Al X.K P0 P H σ ρ->gV X.K WX (Lv c P0 P) H Q (f ρ)->ta σ H Q)(hb:∀P0 P σ H Q ρ,Al X.K P0 P H σ ρ->gV X.K WX (Lv c P0 P) H Q (g ρ)->tb σ H Q)
 (hr:TB X.K WX r cO) {Q:VK} (E:Al X.K P0 P H σ ρ) (h:gV X.K WX (Lv c P0 P) H Q ((f ρ).bind λ x=>(g ρ).bind λ y=>cO x y)):rE r ta tb σ H Q:=by
 refine ha P0 P σ H _ ρ E ?_;cases e:f ρ with
 |bad|ex x=>rw[e] at h;exact h
 |ok x =>
  rw[e] at h;intro v H1 s1 hv;refine hb P0 P σ H1 _ ρ (E.same s1) ?_;cases e2:g ρ with
  |bad=>rw[e2] at h;exact h
  |ex y=>rw[e2] at h;exact gV.same (m:=.ex y) h s1
  |ok y =>
   rw[e2] at h;intro w H2 s2 hw;exact hr _ H2 x y v w Q (λ a q=>((E.same s1).same s2).tM c a q) (hv.mono s2.del) hw ((gV.same h s1).same s2)
theorem Pc {op:Operator}{r:R2}{cO:D->D->M D}(ho:Hm X (binaryOp op) r)(hr:TB X.K WX r cO)(ha:DE X WX c a f)(hb:DE X WX c b g):DE X WX c (.BinOp a op b pos) (λ ρ=>(f ρ).bind λ x=>(g ρ).bind λ y=>cO x y):=by
 obtain⟨ta,a1,a2⟩:=ha;obtain⟨tb,b1,b2⟩:=hb;exact⟨_,UD ho a1 b1,λ P0 P σ H Q ρ E h=>RC a2 b2 hr E h⟩
theorem Ye {op:CmpOp}{r:R2}{cO:D->D->M D}(ho:Hm X (compareOp op) r)(hr:TB X.K WX r cO)(ha:DE X WX c a f)(hb:DE X WX c b g)(hm:behindInMarks op b=false):DE X WX c (.Compare a [op] [b] pos) (λ ρ=>(f ρ).bind λ x=>(g ρ).bind λ y=>cO x y):=by
 obtain⟨ta,a1,a2⟩:=ha;obtain⟨tb,b1,b2⟩:=hb;exact⟨_,fO ho a1 b1 hm,λ P0 P σ H Q ρ E h=>RC a2 b2 hr E h⟩
theorem tO {r:R2}{cO:D->D->M D}(ho:fY X r)(hr:TB X.K WX r cO)(ha:DE X WX c a f)(hb:DE X WX c b g)(hs:Qh b):DE X WX c (.Subscript a b pos) (λ ρ=>(f ρ).bind λ x=>(g ρ).bind λ y=>cO x y):=by
 obtain⟨ta,a1,a2⟩:=ha;obtain⟨tb,b1,b2⟩:=hb;exact⟨_,sY ho a1 b1 hs,λ P0 P σ H Q ρ E h=>RC a2 b2 hr E h⟩
noncomputable def Bx (k:Int->Int->M D)(x y:D):M D:=match x,y with | .int i,.int j=>k i j | _,_=>.bad
theorem BZ.int_inv {K:za0}{H:Hp}{v:V}{i:Int}(h:BZ K H v (.int i)):v=.int i:=by cases h;rfl
theorem BZ.N5 {K:za0}{H:Hp}{v:V}{i:Bool}(h:BZ K H v (.bl i)):v=.bl i:=by cases h;rfl
theorem Qn {C:Int->Int->Prop}{gv:Int->Int->V}{gd:Int->Int->D}[∀i j,Decidable (C i j)](hg:∀i j K H,BZ K H (gv i j) (gd i j)):TB X.K WX (rI C gv) (Bx λ i j=>if C i j then .ok (gd i j) else .bad):=by
 intro P H x y v w Q ht hx hy h;unfold Bx at h;split at h
 ·rename_i i j;rw[hx.int_inv,hy.int_inv];dsimp only at h;by_cases hc:C i j
  ·rw[if_pos hc] at h;exact⟨i,j,rfl,rfl,hc,h _ H (Ag.refl H) (hg i j _ _)⟩
  ·rw[if_neg hc] at h;exact h.elim
 ·exact h.elim
theorem Qo {gv:Int->Int->V}{gd:Int->Int->D}(hg:∀i j K H,BZ K H (gv i j) (gd i j)):TB X.K WX (ZX gv) (Bx λ i j=>.ok (gd i j)):=by
 intro P H x y v w Q ht hx hy h;unfold Bx at h;split at h
 ·rename_i i j;rw[hx.int_inv,hy.int_inv];exact⟨i,j,rfl,rfl,h _ H (Ag.refl H) (hg i j _ _)⟩
 ·exact h.elim
instance (i j:Int):Decidable (Rk i j):=by unfold Rk;infer_instance
instance (i j:Int):Decidable (fM i j):=by unfold fM;infer_instance
instance (i j:Int):Decidable (XN i j):=by unfold XN;infer_instance
noncomputable def Yg:=Bx λ i j=>.ok (.int (i+j))
noncomputable def oM:=Bx λ i j=>.ok (.int (i-j))
noncomputable def F7:=Bx λ i j=>if 0<j then .ok (.int (i%j)) else .bad
noncomputable def K8:=Bx λ i j=>if Rk i j then .ok (.int (i / j)) else .bad
noncomputable def Qp:=Bx λ i j=>if fM i j then .ok (.int (i^j.toNat)) else .bad
noncomputable def yS:=Bx λ i j=>.ok (.bl (decide (i<j)))
noncomputable def yT:=Bx λ i j=>.ok (.bl (decide (i<=j)))
noncomputable def xX:=Bx λ i j=>.ok (.bl (decide (j<i)))
noncomputable def yU:=Bx λ i j=>.ok (.bl (decide (j<=i)))
theorem CY (ha:DE X WX c a f)(hb:DE X WX c b g):DE X WX c (.BinOp a .Add b pos) (λ ρ=>(f ρ).bind λ x=>(g ρ).bind λ y=>Yg x y):=Pc nL (Qo λ _ _ _ _=>.int _) ha hb
theorem Yh (ha:DE X WX c a f)(hb:DE X WX c b g):DE X WX c (.BinOp a .Sub b pos) (λ ρ=>(f ρ).bind λ x=>(g ρ).bind λ y=>oM x y):=Pc nM (Qo λ _ _ _ _=>.int _) ha hb
theorem Bm (ha:DE X WX c a f)(hb:DE X WX c b g):DE X WX c (.BinOp a .Mod b pos) (λ ρ=>(f ρ).bind λ x=>(g ρ).bind λ y=>F7 x y):=Pc nN (Qn λ _ _ _ _=>.int _) ha hb
theorem Gy (ha:DE X WX c a f)(hb:DE X WX c b g):DE X WX c (.BinOp a .FloorDiv b pos) (λ ρ=>(f ρ).bind λ x=>(g ρ).bind λ y=>K8 x y):=Pc fN (Qn λ _ _ _ _=>.int _) ha hb
theorem Lj (ha:DE X WX c a f)(hb:DE X WX c b g):DE X WX c (.BinOp a .Pow b pos) (λ ρ=>(f ρ).bind λ x=>(g ρ).bind λ y=>Qp x y):=Pc nO (Qn λ _ _ _ _=>.int _) ha hb
noncomputable def ZZ (n:Nat)(x y:D):M D:=if Js x<=n/\AR x=true/\AR y=true then .ok (.bl (AA x y)) else .bad
noncomputable def Xs (n:Nat)(x y:D):M D:=if Js x<=n/\AR x=true/\AR y=true then .ok (.bl (!AA x y)) else .bad
theorem Yi {n:Nat}(hu:X.A.units+n<cLine):TB X.K WX (gY X.K X.A false) (ZZ n):=by
 intro P H x y v w Q ht hx hy h;unfold ZZ at h;by_cases hd:Js x<=n/\AR x=true/\AR y=true
 ·rw[if_pos hd] at h;exact⟨x,y,hx.mono CW,hy.mono CW,by omega,hd.2.1,hd.2.2,h _ H (Ag.refl H) (.bl _)⟩
 ·rw[if_neg hd] at h;exact h.elim
theorem oN {n:Nat}(hu:X.A.units+n<cLine):TB X.K WX (gY X.K X.A true) (Xs n):=by
 intro P H x y v w Q ht hx hy h;unfold Xs at h;by_cases hd:Js x<=n/\AR x=true/\AR y=true
 ·rw[if_pos hd] at h;exact⟨x,y,hx.mono CW,hy.mono CW,by omega,hd.2.1,hd.2.2,h _ H (Ag.refl H) (.bl _)⟩
 ·rw[if_neg hd] at h;exact h.elim
theorem Pd {n:Nat}(hu:X.A.units+n<cLine)(ha:DE X WX c a f)(hb:DE X WX c b g):DE X WX c (.Compare a [.Eq] [b] pos) (λ ρ=>(f ρ).bind λ x=>(g ρ).bind λ y=>ZZ n x y):=Ye Yc (Yi hu) ha hb (L9 _)
noncomputable def AV:D->Bool
 | .AK=>true
 |_=>false
theorem BZ.xB {K:za0}{H:Hp}{v:V}{d:D}(h:BZ K H v d):decide (v=.AK)=AV d:=by
 cases h<;>simp[AV]
theorem oO {j pos'}(ha:DE X WX c a f):DE X WX c (.Compare a [.Is] [.Constant .none j pos'] pos) (λ ρ=>(f ρ).bind λ x=>.ok (.bl (AV x))):=by
 obtain⟨ta,a1,a2⟩:=ha;refine⟨_,mV (XD a1),λ P0 P σ H Q ρ E h=>?_⟩;dsimp only at h;refine a2 P0 P σ H _ ρ E ?_;cases e:f ρ with
 |bad|ex x=>rw[e] at h;exact h
 |ok x=>rw[e] at h;exact λ v H1 s1 hv=>h _ H1 s1 (by rw[hv.xB];exact .bl _)
noncomputable def rG (x y:D):M D:=match x,y with
 | .tup ds,.int i| .lst ds,.int i=>(match UJ ds i with|some d=>.ok d|none=>.bad)
 |_,_=>.bad
theorem Aj.UJ {K:za0}{H:Hp}{xs:List V}{ds:List D}{i:Int}{d:D}(h:Aj K H xs ds)(e:L2.UJ ds i=some d):∃v,L2.UJ xs i=some v/\BZ K H v d:=by
 unfold L2.UJ at e ⊢;rw[<-h.length] at e;cases q:ZY xs.length i with
 |none=>rw[q] at e;cases e
 |some j =>
  rw[q] at e;exact h.get e
theorem DL.Bs {K:za0}{H:Hp}{P:Addr->Prop}{a:Addr}{xs:List V}(h:DL K (del H P) a xs):DL K H a xs:=CW.seq h
theorem Gr.Bs {K:za0}{H:Hp}{P:Addr->Prop}{a:Addr}{xs:List V}(h:Gr K (del H P) a xs):Gr K H a xs:=CW.wZ h
theorem Hw:TB X.K WX (λ x y H Q=>nW X.K x y H Q\/nX X.K x y H Q) rG:=by
 intro P H x y v w Q ht hx hy h;unfold rG at h;split at h
 ·rename_i ds i;split at h
  ·rename_i d e;cases hy;cases hx with
   |tup hs hl =>
    obtain⟨u,h1,h2⟩:=hl.UJ e;exact .inr ⟨_,_,i,u,rfl,rfl,Gr.of (Ax hs).2,h1,h _ H (Ag.refl H) h2⟩
  ·exact h.elim
 ·rename_i ds i;split at h
  ·rename_i d e;cases hy;cases hx with
   |lst hs hl =>
    obtain⟨u,h1,h2⟩:=hl.UJ e;exact .inl ⟨_,_,i,u,rfl,rfl,hs.Bs,h1,h _ H (Ag.refl H) h2⟩
  ·exact h.elim
 ·exact h.elim
theorem A4:DA X WX c [] (λ _=>.ok []):=⟨_,Cj,λ P0 P σ H Q ρ E h=>h [] H (Ag.refl H) .nil,λ ρ ds h=>by cases h;rfl⟩
theorem A1 {e:Expr}{es:List Expr}{f:Aa->M D}{fs:Aa->M (List D)}(he:DE X WX c e f)(hr:DA X WX c es fs)(hs:starEach (e::es) X.env=(false,eval e X.env)::starEach es X.env:=by rfl):
 DA X WX c (e::es) (λ ρ=>(f ρ).bind λ d=>(fs ρ).bind λ ds=>.ok (d::ds)):=by
 obtain⟨te,e1,e2⟩:=he;obtain⟨tr,r1,r2,r3⟩:=hr;refine⟨_,Bb e1 r1 hs,λ P0 P σ H Q ρ E h=>?_,λ ρ ds h=>?_⟩
 rotate_left
 ·dsimp only at h;cases q:f ρ with
  |bad|ex x=>rw[q] at h;cases h
  |ok x =>
   rw[q] at h;cases q2:fs ρ with
   |bad|ex x=>rw[q2] at h;cases h
   |ok xs =>
    rw[q2] at h;cases h;rw[zad,zad,r3 ρ xs q2]
 dsimp only at h;refine e2 P0 P σ H _ ρ E ?_;cases q:f ρ with
 |bad|ex x=>rw[q] at h;exact h
 |ok x =>
  rw[q] at h;intro v H1 s1 hv;refine r2 P0 P σ H1 _ ρ (E.same s1) ?_;cases q2:fs ρ with
  |bad=>rw[q2] at h;exact h
  |ex y=>rw[q2] at h;exact gA.same (m:=.ex y) h s1
  |ok ds =>
   rw[q2] at h;exact λ vs H2 s2 cB=>h _ H2 (s1.trans s2) (.cons (hv.mono s2.del) cB)
theorem K9 {H:Hp}{P:Addr->Prop}{p:Addr}{o:HO}(hn:H p=none)(ht:∀a,P a->E6 H a):del (upd H p o) P p=some o:=by
 rw[AQ λ z=>(ht p z).no hn];exact AU
theorem Aw {es:List Expr}{fs:Aa->M (List D)}{x1}(ha:DA X WX c es fs)(hz:es.length<=1000:=by decide):DE X WX c (.Tuple es x1 pos) (λ ρ=>(fs ρ).bind λ ds=>if ds.length<=1000 then .ok (.tup ds) else .bad):=by
 obtain⟨ta,a1,a2,a3⟩:=ha;refine⟨_,XT a1,λ P0 P σ H Q ρ E h=>?_⟩;dsimp only at h;refine a2 P0 P σ H _ ρ E ?_;cases q:fs ρ with
 |bad|ex y=>rw[q] at h;exact h
 |ok ds =>
  rw[q] at h;simp only[M.A8] at h;by_cases hd:ds.length<=1000
  ·rw[if_pos hd] at h;intro vs H1 s1 cB;refine⟨zbl (AS (by rw[cB.length];exact hd)),λ p hp=>h _ _ (s1.trans (B7 hp _)) (.tup (K9 hp λ a q=>(E.same s1).tM c a q) (cB.mono (B7 hp _).del))⟩
  ·rw[if_neg hd] at h;exact h.elim
theorem AD {es:List Expr}{fs:Aa->M (List D)}(ha:DA X WX c es fs):DE X WX c (.List es pos) (λ ρ=>(fs ρ).bind λ ds=>if ds.length<=1000 then .ok (.lst ds) else .bad):=by
 obtain⟨ta,a1,a2,a3⟩:=ha;refine⟨_,To a1,λ P0 P σ H Q ρ E h=>?_⟩;dsimp only at h;refine a2 P0 P σ H _ ρ E ?_;cases q:fs ρ with
 |bad|ex y=>rw[q] at h;exact h
 |ok ds =>
  rw[q] at h;simp only[M.A8] at h;by_cases hd:ds.length<=1000
  ·rw[if_pos hd] at h;intro vs H1 s1 cB;refine⟨zbl (AS (by rw[cB.length];exact hd)),λ p hp=>h _ _ (s1.trans (B7 hp _)) (.lst (.of (K9 hp λ a q=>(E.same s1).tM c a q)) (cB.mono (B7 hp _).del))⟩
  ·rw[if_neg hd] at h;exact h.elim
end
noncomputable def Oj (d:D):M Bool:=match d with | .bl b=>.ok b | _=>.bad
section
variable {X:Cx}{WX:Str->Hp->Prop}{c:Bool}{P0:E7}{P:Addr->Prop}{H:Hp}{σ:St}{ρ:Aa}{a b e:Expr}{f g:Aa->M D}{ft gt:Aa->M Bool}{pos:Pos}
theorem tP {WX:Str->Hp->Prop}{P:Addr->Prop}{K:za0}{H:Hp}{Q:Bool->Hp->Prop}{m:M D}(h:gT WX H Q (m.bind Oj)):gV K WX P H (λ x H'=>∃k,x=.bl k/\Q k H') m:=by
 cases m with
 |bad|ex x=>exact h
 |ok d =>
  intro v H' s hv;simp only[M.A8] at h;unfold Oj at h;split at h
  ·rename_i b;exact⟨b,hv.N5,h H' s⟩
  ·exact h.elim
theorem Gz {op:CmpOp}{r:R2}{cO:D->D->M D}(ho:Hm X (compareOp op) r)(hr:TB X.K WX r cO)(ha:DE X WX c a f)(hb:DE X WX c b g)(hm:behindInMarks op b=false):DT X WX (.Compare a [op] [b] pos) (λ ρ=>((f ρ).bind λ x=>(g ρ).bind λ y=>cO x y).bind Oj):=by
 obtain⟨ta,a1,a2⟩:=ha;obtain⟨tb,b1,b2⟩:=hb;exact⟨_,fP ho a1 b1 hm,λ P0 P σ H Q ρ E h=>RC a2 b2 hr E (tP h)⟩
theorem lG (ha:DE X WX c a f)(hb:DE X WX c b g):DT X WX (.Compare a [.Gt] [b] pos) (λ ρ=>((f ρ).bind λ x=>(g ρ).bind λ y=>xX x y).bind Oj):=Gz sP (Qo λ _ _ _ _=>.bl _) ha hb (L9 _)
theorem Jf {n:Nat}(hu:X.A.units+n<cLine)(ha:DE X WX c a f)(hb:DE X WX c b g):DT X WX (.Compare a [.Eq] [b] pos) (λ ρ=>((f ρ).bind λ x=>(g ρ).bind λ y=>ZZ n x y).bind Oj):=Gz Yc (Yi hu) ha hb (L9 _)
theorem Hx {n:Nat}(hu:X.A.units+n<cLine)(ha:DE X WX c a f)(hb:DE X WX c b g):DT X WX (.Compare a [.NotEq] [b] pos) (λ ρ=>((f ρ).bind λ x=>(g ρ).bind λ y=>Xs n x y).bind Oj):=Gz oK (oN hu) ha hb (L9 _)
theorem Ju {j pos'}(ha:DE X WX c a f):DT X WX (.Compare a [.Is] [.Constant .none j pos'] pos) (λ ρ=>(f ρ).bind λ x=>.ok (AV x)):=by
 obtain⟨ta,a1,a2⟩:=ha;refine⟨_,XE (XD a1),λ P0 P σ H Q ρ E h=>?_⟩;dsimp only at h;refine a2 P0 P σ H _ ρ E ?_;cases e:f ρ with
 |bad|ex x=>rw[e] at h;exact h
 |ok x=>rw[e] at h;exact λ v H1 s1 hv=>⟨_,rfl,by rw[hv.xB];exact h H1 s1⟩
theorem Qq {j pos'}(ha:DE X WX c a f):DT X WX (.Compare a [.IsNot] [.Constant .none j pos'] pos) (λ ρ=>(f ρ).bind λ x=>.ok (!AV x)):=by
 obtain⟨ta,a1,a2⟩:=ha;refine⟨_,XE (fH a1),λ P0 P σ H Q ρ E h=>?_⟩;dsimp only at h;refine a2 P0 P σ H _ ρ E ?_;cases e:f ρ with
 |bad|ex x=>rw[e] at h;exact h
 |ok x=>rw[e] at h;exact λ v H1 s1 hv=>⟨_,rfl,by rw[hv.xB];exact h H1 s1⟩
theorem Dk (ha:DT X WX a ft):DT X WX (.UnaryOp .Not a pos) (λ ρ=>(ft ρ).bind λ b=>.ok (!b)):=by
 obtain⟨ta,a1,a2⟩:=ha;refine⟨_,mW a1,λ P0 P σ H Q ρ E h=>?_⟩;dsimp only at h;refine a2 P0 P σ H _ ρ E ?_;cases e:ft ρ with
 |bad|ex x=>rw[e] at h;exact h
 |ok x=>rw[e] at h;exact λ H1 s1=>h H1 s1
theorem Ka (ha:DT X WX a ft):DW X WX (.BoolOp .And [a] pos) ft:=let ⟨ta,a1,a2⟩:=ha;⟨_,pw_and1 a1,a2⟩
theorem Fo (ha:DT X WX a ft):DW X WX (.BoolOp .Or [a] pos) ft:=let ⟨ta,a1,a2⟩:=ha;⟨_,pw_or1 a1,a2⟩
theorem N6 {rest:List Expr}(ha:DT X WX a ft)(hb:DW X WX (.BoolOp .And (b::rest) pos) gt):DW X WX (.BoolOp .And (a::b::rest) pos) (λ ρ=>(ft ρ).bind λ k=>if k=true then gt ρ else .ok false):=by
 obtain⟨ta,a1,a2⟩:=ha;obtain⟨tb,b1,b2⟩:=hb;refine⟨_,pw_and a1 b1,λ P0 P σ H Q ρ E h=>?_⟩;dsimp only at h;refine a2 P0 P σ H _ ρ E ?_;cases e:ft ρ with
 |bad|ex x=>rw[e] at h;exact h
 |ok k =>
  rw[e] at h;intro H1 s1;cases k with
  |true =>
   simp only[M.A8,if_true] at h ⊢;exact b2 P0 P σ H1 _ ρ (E.same s1) (h.same s1)
  |false =>
   simp only[M.A8,zap,if_false] at h ⊢;exact h H1 s1
theorem Hy {rest:List Expr}(ha:DT X WX a ft)(hb:DW X WX (.BoolOp .Or (b::rest) pos) gt):DW X WX (.BoolOp .Or (a::b::rest) pos) (λ ρ=>(ft ρ).bind λ k=>if k=true then .ok true else gt ρ):=by
 obtain⟨ta,a1,a2⟩:=ha;obtain⟨tb,b1,b2⟩:=hb;refine⟨_,pw_or a1 b1,λ P0 P σ H Q ρ E h=>?_⟩;dsimp only at h;refine a2 P0 P σ H _ ρ E ?_;cases e:ft ρ with
 |bad|ex x=>rw[e] at h;exact h
 |ok k =>
  rw[e] at h;intro H1 s1;cases k with
  |true =>
   simp only[M.A8,if_true] at h ⊢;exact h H1 s1
  |false =>
   simp only[M.A8,zap,if_false] at h ⊢;exact b2 P0 P σ H1 _ ρ (E.same s1) (h.same s1)
theorem N7 {op}(ha:DE X WX c a f):DE X WX c (.BoolOp op [a] pos) f:=let ⟨ta,a1,a2⟩:=ha;⟨_,mX a1,a2⟩
theorem Jv {rest:List Expr}(ha:DE X WX c a f)(hb:DE X WX c (.BoolOp .And (b::rest) pos) g):DE X WX c (.BoolOp .And (a::b::rest) pos) (λ ρ=>((f ρ).bind Oj).bind λ k=>if k=true then g ρ else .ok (.bl false)):=by
 obtain⟨ta,a1,a2⟩:=ha;obtain⟨tb,b1,b2⟩:=hb;refine⟨_,mY a1 b1,λ P0 P σ H Q ρ E h=>?_⟩;dsimp only at h;refine a2 P0 P σ H _ ρ E ?_;cases e:f ρ with
 |bad|ex x=>rw[e] at h;exact h
 |ok d =>
  rw[e] at h;simp only[M.A8] at h;unfold Oj at h;split at h
  ·rename_i k;intro v H1 s1 hv;refine⟨k,hv.N5,?_⟩;cases k with
   |true =>
    simp only[M.A8,if_true] at h ⊢;exact b2 P0 P σ H1 _ ρ (E.same s1) (h.same s1)
   |false =>
    simp only[M.A8,zap,if_false] at h ⊢;exact h _ H1 s1 (.bl _)
  ·exact h.elim
theorem tQ {rest:List Expr}(ha:DE X WX c a f)(hb:DE X WX c (.BoolOp .Or (b::rest) pos) g):DE X WX c (.BoolOp .Or (a::b::rest) pos) (λ ρ=>((f ρ).bind Oj).bind λ k=>if k=true then .ok (.bl true) else g ρ):=by
 obtain⟨ta,a1,a2⟩:=ha;obtain⟨tb,b1,b2⟩:=hb;refine⟨_,sA a1 b1,λ P0 P σ H Q ρ E h=>?_⟩;dsimp only at h;refine a2 P0 P σ H _ ρ E ?_;cases e:f ρ with
 |bad|ex x=>rw[e] at h;exact h
 |ok d =>
  rw[e] at h;simp only[M.A8] at h;unfold Oj at h;split at h
  ·rename_i k;intro v H1 s1 hv;refine⟨k,hv.N5,?_⟩;cases k with
   |true =>
    simp only[M.A8,if_true] at h ⊢;exact h _ H1 s1 (.bl _)
   |false =>
    simp only[M.A8,zap,if_false] at h ⊢;exact b2 P0 P σ H1 _ ρ (E.same s1) (h.same s1)
  ·exact h.elim
theorem Qr (ha:DE X WX c a f):DE X WX c (.UnaryOp .Not a pos) (λ ρ=>((f ρ).bind Oj).bind λ k=>.ok (.bl (!k))):=by
 obtain⟨ta,a1,a2⟩:=ha;refine⟨_,mZ a1,λ P0 P σ H Q ρ E h=>?_⟩;dsimp only at h;refine a2 P0 P σ H _ ρ E ?_;cases e:f ρ with
 |bad|ex x=>rw[e] at h;exact h
 |ok d =>
  rw[e] at h;simp only[M.A8] at h;unfold Oj at h;split at h
  ·rename_i k;exact λ v H1 s1 hv=>⟨k,hv.N5,h _ H1 s1 (.bl _)⟩
  ·exact h.elim
theorem Lk (ha:DE X WX c a f):DE X WX c (.UnaryOp .USub a pos) (λ ρ=>(f ρ).bind λ d=>match d with | .int i=>.ok (.int (-i)) | _=>.bad):=by
 obtain⟨ta,a1,a2⟩:=ha;refine⟨_,sL nP a1,λ P0 P σ H Q ρ E h=>?_⟩;dsimp only at h;refine a2 P0 P σ H _ ρ E ?_;cases e:f ρ with
 |bad|ex x=>rw[e] at h;exact h
 |ok d =>
  rw[e] at h;simp only[M.A8] at h;split at h
  ·rename_i i;exact λ v H1 s1 hv=>⟨i,hv.int_inv,h _ H1 s1 (.int _)⟩
  ·exact h.elim
theorem W4 {d:Expr}{h:Aa->M D}{op ij:CmpOp}{p q:Int->Int->Bool}(ho:Hm X (compareOp op) (ZX λ i j=>.bl (p i j)))(dl:Hm X (compareOp ij) (ZX λ i j=>.bl (q i j)))(ha:DE X WX c a f)(hb:DE X WX c b g)(hd:DE X WX c d h)
 (hm:lastMarks [op,ij] [b,d]=false:=by with_unfolding_all rfl):DE X WX c (.Compare a [op,ij] [b,d] pos) (λ ρ=>(f ρ).bind λ x=>(g ρ).bind λ y=>Bx (λ i j=>if p i j=true then (h ρ).bind λ z=>Bx (λ _ k=>.ok (.bl (q j k))) (.int 0) z else .ok (.bl false)) x y):=by
 obtain⟨ta,a1,a2⟩:=ha;obtain⟨tb,b1,b2⟩:=hb;obtain⟨td,d1,d2⟩:=hd;refine⟨_,XO ho dl a1 b1 d1 hm,λ P0 P σ H Q ρ E hh=>?_⟩;dsimp only at hh;refine a2 P0 P σ H _ ρ E ?_;cases e:f ρ with
 |bad|ex x=>rw[e] at hh;exact hh
 |ok x =>
  rw[e] at hh;intro v H1 s1 hv;refine b2 P0 P σ H1 _ ρ (E.same s1) ?_;cases e2:g ρ with
  |bad=>rw[e2] at hh;exact hh
  |ex y=>rw[e2] at hh;exact gV.same (m:=.ex y) hh s1
  |ok y =>
   rw[e2] at hh;simp only[M.A8] at hh;unfold Bx at hh;split at hh
   ·rename_i i j;intro w H2 s2 hw;refine⟨i,j,hv.int_inv,hw.int_inv,p i j,rfl,?_⟩;dsimp only at hh;by_cases hp:p i j=true
    ·rw[if_pos hp] at hh ⊢;refine d2 P0 P σ H2 _ ρ ((E.same s1).same s2) ?_;cases e3:h ρ with
     |bad=>rw[e3] at hh;exact hh
     |ex z=>rw[e3] at hh;exact gV.same (gV.same (m:=.ex z) hh s1) s2
     |ok z =>
      rw[e3] at hh;simp only[M.A8] at hh;cases z with
      |int k=>exact λ u H3 s3 hu=>⟨j,k,hw.int_inv,hu.int_inv,hh _ H3 ((s1.trans s2).trans s3) (.bl _)⟩
      |_=>exact hh.elim
    ·rw[if_neg hp] at hh ⊢;exact hh _ H2 (s1.trans s2) (.bl _)
   ·exact hh.elim
def Kb (K:za0)(WX:Str->Hp->Prop)(r:List V->Hp->VK->Prop)(dF:List D->M D):Prop:=
 ∀(P:Addr->Prop) (H:Hp) (ds:List D) (vs:List V) (Q:VK),(∀a,P a->E6 H a)->Aj K (del H P) vs ds->gV K WX P H Q (dF ds)->r vs H Q
variable {x:Str}{p:Pos}{es:List Expr}{fs:Aa->M (List D)}{id T:String}{r:List V->Hp->VK->Prop}{dF:List D->M D}
theorem Yj {ta:TA}(ha:∀P0 P σ H Q ρ,Al X.K P0 P H σ ρ->gA X.K WX (Lv c P0 P) H Q (fs ρ)->ta σ H Q)(hr:Kb X.K WX r dF){Q:VK}(E:Al X.K P0 P H σ ρ)(h:gV X.K WX (Lv c P0 P) H Q ((fs ρ).bind dF)):vE r ta σ H Q:=by
 refine ha P0 P σ H _ ρ E ?_;cases e:fs ρ with
 |bad|ex x=>rw[e] at h;exact h
 |ok ds =>
  rw[e] at h;exact λ vs H1 s1 cB=>hr _ H1 ds vs Q (λ a q=>(E.same s1).tM c a q) cB (h.same s1)
theorem Kc (hc:FI X (.builtin id) r)(hr:Kb X.K WX r dF)(hg:Gl X x)(hm:X.mg x=none)(hv:bootBuiltins x=some (.builtin id))(ha:DA X WX c (e::es) fs)(hn:x ≠ "__name__" := by decide)(cC:(x==("__debug__" : Str))=false:=by decide)
 (he:starEach (e::es) X.env=(false,eval e X.env)::starEach es X.env:=by rfl) (bU:(backTo pos (starEach es X.env)).any (·.1)=false:=by rfl):DE X WX c (.Call (.Name x p) (e::es) [] pos) (λ ρ=>(fs ρ).bind dF):=by
 obtain⟨ta,a1,a2,a3⟩:=ha;exact⟨_,K4 hc hg hm hv a1 hn cC he bU,λ P0 P σ H Q ρ E h=>Yj a2 hr E h⟩
theorem Pe (hc:FI X (.type T) r)(hr:Kb X.K WX r dF)(hg:Gl X x)(hm:X.mg x=none)(hv:bootBuiltins x=some (.type T))(ha:DA X WX c (e::es) fs)(hn:x ≠ "__name__" := by decide)(cC:(x==("__debug__" : Str))=false:=by decide)
 (he:starEach (e::es) X.env=(false,eval e X.env)::starEach es X.env:=by rfl) (bU:(backTo pos (starEach es X.env)).any (·.1)=false:=by rfl):DE X WX c (.Call (.Name x p) (e::es) [] pos) (λ ρ=>(fs ρ).bind dF):=by
 obtain⟨ta,a1,a2,a3⟩:=ha;exact⟨_,P5 hc hg hm hv a1 hn cC he bU,λ P0 P σ H Q ρ E h=>Yj a2 hr E h⟩
noncomputable def W5 (ds:List D):M D:=match ds with
 |[.lst xs]|[.tup xs]=>.ok (.int xs.length)
 |_=>.bad
theorem Aj.one {K:za0}{H:Hp}{vs:List V}{d:D}(h:Aj K H vs [d]):∃v,vs=[v]/\BZ K H v d:=by
 cases h with
 |cons h t=>cases t;exact⟨_,rfl,h⟩
theorem oP:Kb X.K WX (λ xs H Q=>∃p ys,xs=[.ref p]/\(DL X.K H p ys\/Gr X.K H p ys)/\Q (.int ys.length) H) W5:=by
 intro P H ds vs Q ht hl h;unfold W5 at h;split at h
 ·obtain⟨v,rfl,hv⟩:=hl.one;cases hv with
  |lst hs hh=>exact⟨_,_,rfl,.inl hs.Bs,by rw[hh.length];exact h _ H (Ag.refl H) (.int _)⟩
 ·obtain⟨v,rfl,hv⟩:=hl.one;cases hv with
  |tup hs hh=>exact⟨_,_,rfl,.inr (Gr.of (Ax hs).2),by rw[hh.length];exact h _ H (Ag.refl H) (.int _)⟩
 ·exact h.elim
theorem N8 (hg:Gl X "len")(hm:X.mg "len" = none)(ha:DE X WX c e f)(hs:starEach [e] X.env=[(false,eval e X.env)]:=by rfl):DE X WX c (.Call (.Name "len" p) [e] [] pos) (λ ρ=>((f ρ).bind λ d=>(M.ok []).bind λ ds=>.ok (d::ds)).bind W5):=
 Kc Qk oP hg hm PySem.boot_len (A1 ha A4 hs) (he:=hs)
noncomputable def N9 (ds:List D):M D:=match ds with
 |[.lst xs]|[.tup xs]=>.ok (.tup xs)
 |_=>.bad
theorem Yk:Kb X.K WX (λ xs H Q=>∃p ys,xs=[.ref p]/\((DL X.K H p ys/\∀l,H l=none->Q (.ref l) (upd H l (.tup ys)))\/(Gr X.K H p ys/\Q (.ref p) H))) N9:=by
 intro P H ds vs Q ht hl h;unfold N9 at h;split at h
 ·obtain⟨v,rfl,hv⟩:=hl.one;cases hv with
  |lst hs hh=>exact⟨_,_,rfl,.inl ⟨hs.Bs,λ l hn=>h _ _ (B7 hn _) (.tup (K9 hn ht) (hh.mono (B7 hn _).del))⟩⟩
 ·obtain⟨v,rfl,hv⟩:=hl.one;cases hv with
  |tup hs hh=>exact⟨_,_,rfl,.inr ⟨Gr.of (Ax hs).2,h _ H (Ag.refl H) (.tup hs hh)⟩⟩
 ·exact h.elim
theorem Na (hg:Gl X "tuple")(hm:X.mg "tuple" = none)(ha:DE X WX c e f)(hb:bootBuiltins "tuple" = some (.type "tuple"):=by decide +kernel)(hs:starEach [e] X.env=[(false,eval e X.env)]:=by rfl):DE X WX c (.Call (.Name "tuple" p) [e] [] pos) (λ ρ=>((f ρ).bind λ d=>(M.ok []).bind λ ds=>.ok (d::ds)).bind N9):=
 Pe Ou Yk hg hm hb (A1 ha A4 hs) (he:=hs)
noncomputable def lH:D->String
 | .AK => "NoneType"
 | .bl _ => "bool"
 | .int _ => "int"
 | .str _ => "str"
 | .tup _ => "tuple"
 | .lst _ => "list"
 | .Ct _ => "NoneType"
 | .Bl _ _ _ => "dict"
 | .ins _ _ _ => "NoneType"
noncomputable def BN (T:String)(d:D):Bool:=(lH d==T)||(lH d == "bool" && T == "int")
noncomputable def Kd (T:String)(d:D):M D:=match d with
 | .Ct _| .ins _ _ _=>.bad
 |d=>.ok (.bl (BN T d))
noncomputable def KZ:D->Bool
 | .Ct _| .ins _ _ _=>true
 |_=>false
theorem Ke {T:String}{d:D}(h:KZ d=false):Kd T d=.ok (.bl (BN T d)):=by cases d<;>first | rfl | cases h
def xC (K:za0)(T:String):List V->Hp->VK->Prop:=λ xs H Q=>∃x d,xs=[x,.ty T]/\BZ K H x d/\KZ d=false/\Q (.bl (BN T d)) H
theorem Yl {T:String}(hk:∀d:D,za7 X.K (.type (lH d)) (.type T)=some (BN T d)):FI X (.builtin "isinstance") (xC X.K T):=by
 intro pins s σ H xs us Q I r h;obtain⟨x,d,rfl,hd,hx,q⟩:=h;obtain⟨u,w,rfl,rx,df⟩:=r.two;cases df;have fin:∀tk,EP X pins σ Q (.bool (BN T d)) {s with toks:=tk}:=λ tk=>⟨.bl _,H,I.tok tk,rfl,q⟩;have e:=hk d;cases hd with
 |Ct _ _|ins _ _ _=>cases hx
 |JU hs hl =>
  cases rx;obtain⟨⟨o,h1,h2⟩,_,_⟩:=Y9 I (.inl ⟨_,hs⟩);exact zcv PySem.W.kitx_dict I.Mx ⟨o,h1,h2⟩ e (λ z=>nomatch z) fin
 |Jr hs hl =>
  cases rx;obtain⟨⟨o,h1,h2⟩,_,_⟩:=Y9 I (.inr ⟨_,hs⟩);exact zcv PySem.W.kitx_dict I.Mx ⟨o,h1,h2⟩ e (λ z=>nomatch z) fin
 |AK=>cases rx;exact zcv PySem.W.kitx_none I.Mx True.intro e (λ z=>nomatch z) fin
 |bl b=>cases rx;exact zcv PySem.W.kitx_bool I.Mx True.intro e (λ z=>nomatch z) fin
 |int b=>obtain⟨t,rfl⟩:=rx;exact zcv PySem.W.kitx_int I.Mx True.intro e (λ z=>nomatch z) fin
 |str b=>obtain⟨t,rfl⟩:=rx;exact zcv PySem.W.kitx_str I.Mx True.intro e (λ z=>nomatch z) fin
 |tup hs hl =>
  cases rx;obtain⟨_,_,⟨o,h1,h2,_⟩,_⟩:=I.tuple (.of hs);exact zcv PySem.W.kitx_tuple I.Mx ⟨o,h1,h2⟩ e (λ z=>nomatch z) fin
 |lst hs hl =>
  cases rx;obtain⟨_,_,⟨o,n,h1,h2,_⟩,_⟩:=I.list hs;exact zcv PySem.W.kitx_list I.Mx ⟨o,h1,h2⟩ e (λ z=>nomatch z) fin
theorem Fp {T:String}{x2:Str}{p2:Pos}(hk:∀d:D,za7 X.K (.type (lH d)) (.type T)=some (BN T d))(hg:Gl X "isinstance")(hm:X.mg "isinstance" = none)(dP:Gl X x2)(cm:X.mg x2=none)(iz:bootBuiltins x2=some (.type T))(ha:DE X WX c e f)
 (hb:bootBuiltins "isinstance" = some (.builtin "isinstance"):=by decide +kernel) (cf:x2 ≠ "__name__" := by decide) (cU:(x2==("__debug__" : Str))=false:=by decide) (hs:starEach [e,.Name x2 p2] X.env=(false,eval e X.env)::starEach [.Name x2 p2] X.env:=by rfl) (cw:starEach [.Name x2 p2] X.env=[(false,eval (.Name x2 p2) X.env)]:=by rfl)
 (bU:(backTo pos (starEach [.Name x2 p2] X.env)).any (·.1)=false:=by rfl):
 DE X WX c (.Call (.Name "isinstance" p) [e,.Name x2 p2] [] pos) (λ ρ=>(f ρ).bind λ d=>Kd T d):=by
 obtain⟨ta,a1,a2⟩:=ha;refine⟨_,K4 (Yl hk) hg hm hb (Bb a1 (Bb (UB (v:=.ty T) dP cm iz rfl cf cU) Cj cw) hs) (by decide) (by decide) hs bU,λ P0 P σ H Q ρ E h=>?_⟩;dsimp only at h;refine a2 P0 P σ H _ ρ E ?_;cases q:f ρ with
 |bad|ex x=>rw[q] at h;exact h
 |ok d =>
  rw[q] at h;simp only[M.A8] at h;cases hx:KZ d with
  |true=>cases d<;>first|exact h.elim|cases hx
  |false =>
   rw[Ke hx] at h;exact λ v H1 s1 hv=>⟨v,d,rfl,hv.mono CW,hx,h _ H1 s1 (.bl _)⟩
theorem Nb (K:za0)(d:D):za7 K (.type (lH d)) (.type "tuple")=some (BN "tuple" d):=by cases d<;>rfl
theorem Pf (K:za0)(d:D):za7 K (.type (lH d)) (.type "list")=some (BN "list" d):=by cases d<;>rfl
theorem Ll (K:za0)(d:D):za7 K (.type (lH d)) (.type "bool")=some (BN "bool" d):=by cases d<;>rfl
theorem Nc (K:za0)(d:D):za7 K (.type (lH d)) (.type "int")=some (BN "int" d):=by cases d<;>rfl
noncomputable def lI (lo hi:Option Int)(d:D):M D:=match d with
 | .lst ds=>.ok (.lst ((ds.drop (HT.MT ds.length 0 lo)).take (HT.MT ds.length ds.length hi-HT.MT ds.length 0 lo)))
 |_=>.bad
def DO (X:Cx)(WX:Str->Hp->Prop)(c:Bool)(e:Option Expr)(f:Aa->M (Option Int)):Prop:=
 ∃t,PO X e t/\∀P0 P σ H Q ρ,Al X.K P0 P H σ ρ->(match f ρ with | .ok o=>∀H',Ag H H'->Q o H' | .ex x=>∀H',Ag H H'->WX x H' | .bad=>False)->t σ H Q
theorem CB:DO X WX c none (λ _=>.ok none):=⟨_,fW,λ P0 P σ H Q ρ E h=>h H (Ag.refl H)⟩
noncomputable def xY (d:D):M (Option Int):=match d with | .int i=>.ok (some i) | _=>.bad
theorem C4 (ha:DE X WX c e f):DO X WX c (some e) (λ ρ=>(f ρ).bind xY):=by
 obtain⟨ta,a1,a2⟩:=ha;refine⟨_,fX a1,λ P0 P σ H Q ρ E h=>?_⟩;dsimp only at h;refine a2 P0 P σ H _ ρ E ?_;cases q:f ρ with
 |bad|ex x=>rw[q] at h;exact h
 |ok d =>
  rw[q] at h;cases d with
  |int i=>exact λ v H1 s1 hv=>⟨i,hv.int_inv,h H1 s1⟩
  |_=>exact h.elim
end
inductive Out where
 |ret (d:D)|next (ρ:Aa)|brk (ρ:Aa)|cont (ρ:Aa)|Cm (c:Cl)|EK (t:OT) (ρ:Aa)
def Tr (P0 P:Addr->Prop)(H:Hp)(P':Addr->Prop)(H':Hp):Prop:=Ag (del H P) (del H' P')/\∀a,P0 a->H' a=H a
theorem Tr.refl {P0 P:Addr->Prop}{H:Hp}:Tr P0 P H P H:=⟨Ag.refl _,λ _ _=>rfl⟩
theorem Tr.trans {P0 P P1 P2:Addr->Prop}{H H1 H2:Hp}(a:Tr P0 P H P1 H1)(b:Tr P0 P1 H1 P2 H2):Tr P0 P H P2 H2:=⟨a.1.trans b.1,λ x h=>(b.2 x h).trans (a.2 x h)⟩
theorem Al.tr {K:za0}{P0:E7}{P:Addr->Prop}{H H':Hp}{σ:St}{ρ:Aa}(E:Al K P0 P H σ ρ)(e:Ag H H'):Tr P0 P H P H':=
 ⟨e.del,λ a h=>by obtain⟨o,q,_⟩:=E.Ci a (E.sub a h);rw[e a o q,q]⟩
def gS (K:za0)(WX:Str->Hp->Prop)(P0:E7)(P:Addr->Prop)(H:Hp)(Z:Ends):M Out->Prop
 | .ok (.ret d)=>∀v H' P',Tr P0 P H P' H'->BZ K (del H' P0) v d->Z.rt v H'
 | .ok (.next ρ)=>∀σ' H' P',Tr P0 P H P' H'->Al K P0 P' H' σ' ρ->Z.nx σ' H'
 | .ok (.brk ρ)=>∀σ' H' P',Tr P0 P H P' H'->Al K P0 P' H' σ' ρ->Z.bk σ' H'
 | .ok (.cont ρ)=>∀σ' H' P',Tr P0 P H P' H'->Al K P0 P' H' σ' ρ->Z.ct σ' H'
 | .ok (.Cm c)=>∀v fp H' P',Tr P0 P H P' H'->(∀a,P0 a->P' a)->(∀a,P' a->E6 H' a)->DC K H' P' c v fp->(∀a∈fp,P' a/\¬ P0 a)->fp.Nodup->Z.rt v H'
 | .ok (.EK t ρ)=>∀v fp σ' H' P',Tr P0 P H P' H'->Al K P0 P' H' σ' ρ->C6 K H' P' v t fp->fp.Nodup->(∀a∈fp,P' a/\¬ P0 a/\∀(j:Nat) c v' fq,ρ[j]?=some (some c)->σ'[j]?=some (some v')->DC K H' P' c v' fq->a∉fq)->Z.rt v H'
 | .ex x=>∀H' P',Tr P0 P H P' H'->WX x H'
 | .bad=>False
theorem gS.tr {K:za0}{WX:Str->Hp->Prop}{P0:E7}{P P':Addr->Prop}{H H':Hp}{Z:Ends}{m:M Out}(h:gS K WX P0 P H Z m)(t:Tr P0 P H P' H'):gS K WX P0 P' H' Z m:=by
 cases m with
 |bad=>exact h
 |ex x=>exact λ H2 P2 t2=>h H2 P2 (t.trans t2)
 |ok o =>
  cases o with
  |ret d=>exact λ v H2 P2 t2 hv=>h v H2 P2 (t.trans t2) hv
  |next ρ|brk ρ|cont ρ=>exact λ σ2 H2 P2 t2 hv=>h σ2 H2 P2 (t.trans t2) hv
  |Cm c=>exact λ v fp H2 P2 t2=>h v fp H2 P2 (t.trans t2)
  |EK c ρ=>exact λ v fp σ2 H2 P2 t2=>h v fp σ2 H2 P2 (t.trans t2)
def DS (X:Cx)(WX:Str->Hp->Prop)(st:Stmt)(g:Aa->M Out):Prop:=
 ∃t,PS X st t/\∀P0 P σ H Z ρ,Al X.K P0 P H σ ρ->gS X.K WX P0 P H Z (g ρ)->t Z σ H
def Pg (X:Cx)(WX:Str->Hp->Prop)(st:List Stmt)(g:Aa->M Out):Prop:=
 ∃t,UA X st t/\∀P0 P σ H Z ρ,Al X.K P0 P H σ ρ->gS X.K WX P0 P H Z (g ρ)->t Z σ H
noncomputable def Ym (m:M Out)(k:Aa->M Out):M Out:=match m with
 | .ok (.next ρ)=>k ρ
 |m=>m
section
variable {X:Cx}{WX:Str->Hp->Prop}{c:Bool}{P0:E7}{P:Addr->Prop}{H:Hp}{σ:St}{ρ:Aa}{a b e:Expr}{f g:Aa->M D}{ft gt:Aa->M Bool}{pos:Pos}{st:Stmt}{rest:List Stmt}{g1 g2:Aa->M Out}
theorem AN:Pg X WX [] (λ ρ=>.ok (.next ρ)):=⟨_,fI,λ P0 P σ H Z ρ E h=>h σ H P Tr.refl E⟩
theorem A7 (h:DS X WX st g1):Pg X WX [st] g1:=let ⟨t,h1,h2⟩:=h;⟨_,fJ h1,h2⟩
theorem A5 (h:DS X WX st g1)(hr:Pg X WX rest g2):Pg X WX (st::rest) (λ ρ=>Ym (g1 ρ) g2):=by
 obtain⟨t,h1,h2⟩:=h;obtain⟨u,r1,r2⟩:=hr;refine⟨_,XF h1 r1,λ P0 P σ H Z ρ E h=>?_⟩;dsimp only at h;refine h2 P0 P σ H {Z with nx:=u Z} ρ E ?_;cases q:g1 ρ with
 |bad|ex x=>rw[q] at h;exact h
 |ok o =>
  rw[q] at h;cases o with
  |ret d|brk d|cont d|Cm d|EK d ρ2=>exact h
  |next ρ'=>exact λ σ' H' P' t E'=>r2 P0 P' σ' H' Z ρ' E' (gS.tr h t)
theorem Nd (ha:DE X WX false e f):DS X WX (.Return (some e) pos) (λ ρ=>(f ρ).bind λ d=>.ok (.ret d)):=by
 obtain⟨ta,a1,a2⟩:=ha;refine⟨_,Tc a1,λ P0 P σ H Z ρ E h=>?_⟩;dsimp only at h;refine a2 P0 P σ H _ ρ E ?_;cases q:f ρ with
 |bad=>rw[q] at h;exact h
 |ex x=>rw[q] at h;exact λ H' s=>h H' P (E.tr s)
 |ok d=>rw[q] at h;exact λ v H' s hv=>h v H' P (E.tr s) hv
theorem Bg {c:Expr}{sa sb:List Stmt}(hc:DT X WX c ft)(ha:Pg X WX sa g1)(hb:Pg X WX sb g2):DS X WX (.If c sa sb pos) (λ ρ=>(ft ρ).bind λ k=>if k=true then g1 ρ else g2 ρ):=by
 obtain⟨tc,c1,c2⟩:=hc;obtain⟨ta,a1,a2⟩:=ha;obtain⟨tb,b1,b2⟩:=hb;refine⟨_,sF c1 a1 b1,λ P0 P σ H Z ρ E h=>?_⟩;dsimp only at h;refine c2 P0 P σ H _ ρ E ?_;cases q:ft ρ with
 |bad=>rw[q] at h;exact h
 |ex x=>rw[q] at h;exact λ H' s=>h H' P (E.tr s)
 |ok k =>
  rw[q] at h;intro H1 s1;cases k with
  |true =>
   simp only[M.A8,if_true] at h ⊢;exact a2 P0 P σ H1 Z ρ (E.same s1) (h.tr (E.tr s1))
  |false =>
   simp only[M.A8,zap,if_false] at h ⊢;exact b2 P0 P σ H1 Z ρ (E.same s1) (h.tr (E.tr s1))
theorem get_set {α:Type}{l:List α}{i j:Nat}{x y:α}(h:(l.set i x)[j]?=some y):(i=j/\i<l.length/\x=y)\/(i≠j/\l[j]?=some y):=by
 by_cases e:i=j
 ·subst e;rw[List.getElem?_set_self'] at h;cases q:l[i]? with
  |none=>rw[q] at h;cases h
  |some z =>
   rw[q] at h;exact .inl ⟨rfl,(zan.mp q).1,by simpa using h⟩
 ·rw[zb3 e] at h;exact .inr ⟨e,h⟩
theorem Al.RD {K:za0}(E:Al K P0 P H σ ρ){i:Nat}{v:V}{d:D}(hv:BZ K (del H P) v d):Al K P0 P H (σ.set i (some v)) (ρ.set i (some (.val d))):=by
 have gs:∀ {j:Nat},i≠j->(σ.set i (some v))[j]?=σ[j]? :=λ h=>zb3 h;refine⟨E.sub,E.Ci,λ j e h=>?_,λ j c h io=>?_,λ j k c c' u u' fp aO h1 h2 h3 h4 h5 h6 au=>?_,by rw[zcl,zcl];exact E.len,λ j c n h hp=>?_⟩
 rotate_left 3
 ·rcases get_set h with ⟨rfl,hl,e1⟩|⟨au,h⟩
  ·cases e1;cases hp
  ·rw[gs au];exact E.pin j c n h hp
 ·rcases get_set h with ⟨rfl,hl,e1⟩|⟨au,h⟩
  ·cases e1;exact⟨v,zbb (by rw[E.len];exact hl),hv⟩
  ·obtain⟨w,h1,h2⟩:=E.val j e h;exact⟨w,by rw[gs au];exact h1,h2⟩
 ·rcases get_set h with ⟨rfl,hl,e1⟩|⟨au,h⟩
  ·cases e1;cases io
  ·obtain⟨w,fp,h1,h2⟩:=E.ows j c h io;exact⟨w,fp,by rw[gs au];exact h1,h2⟩
 ·rcases get_set h1 with ⟨rfl,hl,e1⟩|⟨eI,h1⟩
  ·cases e1;exact h5.elim
  ·rcases get_set h2 with ⟨rfl,hl,e1⟩|⟨cf,h2⟩
   ·cases e1;exact h6.elim
   ·rw[gs eI] at h3;rw[gs cf] at h4;exact E.apart j k c c' u u' fp aO h1 h2 h3 h4 h5 h6 au
theorem Al.gZ {K:za0}(E:Al K P0 P H σ ρ){P':Addr->Prop}{H':Hp}{i:Nat}{v:V}{c:Cl}{fp:List Addr}(hs:∀a,P a->P' a)(ht:∀a,P' a->E6 H' a)(sm:Ag (del H P) (del H' P'))
 (keep:∀(j:Nat) c' v' aO,i≠j->ρ[j]?=some (some c')->σ[j]?=some (some v')->DC K H P c' v' aO->∀a∈aO,H' a=H a/\a∉fp)
 (new:DC K H' P' c v fp) (hp:∀a∈fp,P' a/\¬ P0 a) (nd:fp.Nodup) (i4:∀n,Pb c=some n->v=.ref (P0.g n):=by intro n z;cases z):Al K P0 P' H' (σ.set i (some v)) (ρ.set i (some c)):=by
 have gs:∀ {j:Nat},i≠j->(σ.set i (some v))[j]?=σ[j]? :=λ h=>zb3 h;refine⟨λ a h=>hs a (E.sub a h),ht,λ j e h=>?_,λ j c' h io=>?_,λ j k c1 c2 u u' bY dY h1 h2 h3 h4 h5 h6 au=>?_,by rw[zcl,zcl];exact E.len,λ j c' n h hp=>?_⟩
 rotate_left 3
 ·rcases get_set h with ⟨rfl,hl,e1⟩|⟨au,h⟩
  ·cases e1;rw[zbb (by rw[E.len];exact hl),i4 n hp]
  ·rw[gs au];exact E.pin j c' n h hp
 ·rcases get_set h with ⟨rfl,hl,e1⟩|⟨au,h⟩
  ·cases e1;exact new.elim
  ·obtain⟨w,h1,h2⟩:=E.val j e h;exact⟨w,by rw[gs au];exact h1,h2.mono sm⟩
 ·rcases get_set h with ⟨rfl,hl,e1⟩|⟨au,h⟩
  ·cases e1;exact⟨v,fp,zbb (by rw[E.len];exact hl),new,hp,nd⟩
  ·obtain⟨w,fq,h1,h2,h3,h4⟩:=E.ows j c' h io;exact⟨w,fq,by rw[gs au];exact h1,h2.move sm λ a ha=>(keep j c' w fq au h h1 h2 a ha).1,λ a ha=>⟨hs a (h3 a ha).1,(h3 a ha).2⟩,h4⟩
 ·have back:∀(l:Nat) (d:Cl) (w:V) (fq:List Addr),i≠l->ρ[l]?=some (some d)->σ[l]?=some (some w)->DC K H' P' d w fq->∃fr,DC K H P d w fr/\fr=fq:=λ l d w fq hn hk sk ho=>by
   have io:Ja d=true:=by cases d<;>first|rfl|exact ho.elim
   obtain⟨w',dY,s2,o2,_⟩:=E.ows l d hk io;rw[sk] at s2;cases s2;exact⟨dY,o2,(o2.move sm λ a ha=>(keep l d w dY hn hk sk o2 a ha).1).Cf ho⟩
  rcases get_set h1 with ⟨rfl,hl,e1⟩|⟨eI,h1⟩
  ·cases e1;rw[zbb (by rw[E.len];exact hl)] at h3;cases h3;rcases get_set h2 with ⟨e,_⟩|⟨cf,h2⟩
   ·exact (au e).elim
   ·rw[gs cf] at h4;obtain⟨fr,o,rfl⟩:=back k c2 u' dY cf h2 h4 h6;intro a ha hb;rw[new.Cf h5] at keep;exact (keep k c2 u' fr cf h2 h4 o a hb).2 ha
  ·rw[gs eI] at h3;obtain⟨fr,o,rfl⟩:=back j c1 u bY eI h1 h3 h5;rcases get_set h2 with ⟨rfl,hl,e1⟩|⟨cf,h2⟩
   ·cases e1;rw[zbb (by rw[E.len];exact hl)] at h4;cases h4;intro a ha;rw[new.Cf h6] at keep;exact (keep j c1 u fr eI h1 h3 o a ha).2
   ·rw[gs cf] at h4;obtain⟨qu,o2,rfl⟩:=back k c2 u' dY cf h2 h4 h6;exact E.apart j k c1 c2 u u' fr qu h1 h2 h3 h4 o o2 au
theorem Al.tR {K:za0}(E:Al K P0 P H σ ρ){P':Addr->Prop}{H':Hp}{i:Nat}{v:V}{c:Cl}{fp:List Addr}(hs:∀a,P0 a->P' a)(ht:∀a,P' a->E6 H' a)(sm:Ag (del H P) (del H' P'))
 (keep:∀(j:Nat) c' v' aO,i≠j->ρ[j]?=some (some c')->σ[j]?=some (some v')->DC K H P c' v' aO->∀a∈aO,H' a=H a/\a∉fp/\P' a)
 (new:DC K H' P' c v fp) (hp:∀a∈fp,P' a/\¬ P0 a) (nd:fp.Nodup) (i4:∀n,Pb c=some n->v=.ref (P0.g n):=by intro n z;cases z):Al K P0 P' H' (σ.set i (some v)) (ρ.set i (some c)):=by
 have gs:∀ {j:Nat},i≠j->(σ.set i (some v))[j]?=σ[j]? :=λ h=>zb3 h;refine⟨hs,ht,λ j e h=>?_,λ j c' h io=>?_,λ j k c1 c2 u u' bY dY h1 h2 h3 h4 h5 h6 au=>?_,by rw[zcl,zcl];exact E.len,λ j c' n h hp=>?_⟩
 rotate_left 3
 ·rcases get_set h with ⟨rfl,hl,e1⟩|⟨au,h⟩
  ·cases e1;rw[zbb (by rw[E.len];exact hl),i4 n hp]
  ·rw[gs au];exact E.pin j c' n h hp
 ·rcases get_set h with ⟨rfl,hl,e1⟩|⟨au,h⟩
  ·cases e1;exact new.elim
  ·obtain⟨w,h1,h2⟩:=E.val j e h;exact⟨w,by rw[gs au];exact h1,h2.mono sm⟩
 ·rcases get_set h with ⟨rfl,hl,e1⟩|⟨au,h⟩
  ·cases e1;exact⟨v,fp,zbb (by rw[E.len];exact hl),new,hp,nd⟩
  ·obtain⟨w,fq,h1,h2,h3,h4⟩:=E.ows j c' h io;exact⟨w,fq,by rw[gs au];exact h1,h2.move sm λ a ha=>(keep j c' w fq au h h1 h2 a ha).1,λ a ha=>⟨(keep j c' w fq au h h1 h2 a ha).2.2,(h3 a ha).2⟩,h4⟩
 ·have back:∀(l:Nat) (d:Cl) (w:V) (fq:List Addr),i≠l->ρ[l]?=some (some d)->σ[l]?=some (some w)->DC K H' P' d w fq->∃fr,DC K H P d w fr/\fr=fq:=λ l d w fq hn hk sk ho=>by
   have io:Ja d=true:=by cases d<;>first|rfl|exact ho.elim
   obtain⟨w',dY,s2,o2,_⟩:=E.ows l d hk io;rw[sk] at s2;cases s2;exact⟨dY,o2,(o2.move sm λ a ha=>(keep l d w dY hn hk sk o2 a ha).1).Cf ho⟩
  rcases get_set h1 with ⟨rfl,hl,e1⟩|⟨eI,h1⟩
  ·cases e1;rw[zbb (by rw[E.len];exact hl)] at h3;cases h3;rcases get_set h2 with ⟨e,_⟩|⟨cf,h2⟩
   ·exact (au e).elim
   ·rw[gs cf] at h4;obtain⟨fr,o,rfl⟩:=back k c2 u' dY cf h2 h4 h6;intro a ha hb;rw[new.Cf h5] at keep;exact (keep k c2 u' fr cf h2 h4 o a hb).2.1 ha
  ·rw[gs eI] at h3;obtain⟨fr,o,rfl⟩:=back j c1 u bY eI h1 h3 h5;rcases get_set h2 with ⟨rfl,hl,e1⟩|⟨cf,h2⟩
   ·cases e1;rw[zbb (by rw[E.len];exact hl)] at h4;cases h4;intro a ha;rw[new.Cf h6] at keep;exact (keep j c1 u fr eI h1 h3 o a ha).2.1
   ·rw[gs cf] at h4;obtain⟨qu,o2,rfl⟩:=back k c2 u' dY cf h2 h4 h6;exact E.apart j k c1 c2 u u' fr qu h1 h2 h3 h4 o o2 au
theorem Qs {α:Type}:∀ {l:List α}{i:Nat}{x:α},l[i]?=some x->l.set i x=l
 |[],_,_,h=>by cases h
 |y::r,0,x,h=>by cases h;rfl
 |y::r,i+1,x,h=>by rw[zam,Qs (by simpa using h)]
theorem Al.mut {K:za0}(E:Al K P0 P H σ ρ){i p:Nat}{xs:List V}{ds ny:List D}(ho:ρ[i]?=some (some (.own ds)))(hs:σ[i]?=some (some (.ref p)))(pP:P p)(nz:¬ P0 p)(hx:Aj K (del H P) xs ny):
 Al K P0 P (upd H p (.lst xs)) σ (ρ.set i (some (.own ny)))/\Tr P0 P H P (upd H p (.lst xs)):=by
 have sd:del (upd H p (.lst xs)) P=del H P:=by
  funext b;by_cases hb:P b
  ·rw[Gx hb,Gx hb]
  ·rw[AQ hb,AQ hb,Aq (λ z=>hb (by rw[z];exact pP))]
 have sm:Ag (del H P) (del (upd H p (.lst xs)) P):=by rw[sd];exact Ag.refl _
 obtain⟨v,fp,s1,o1,_⟩:=E.ows i _ ho rfl;rw[hs] at s1;cases s1;have key:=E.gZ (P':=P) (H':=upd H p (.lst xs)) (i:=i) (v:=.ref p) (c:=.own ny) (fp:=[p]) (λ a h=>h) (λ a h=>?_) sm (λ j c' v' aO au h1 h2 h3 a ha=>?_) ⟨p,xs,rfl,rfl,AU,by rw[sd];exact hx⟩ (λ a ha=>by rw[zaj.mp ha];exact⟨pP,nz⟩) (by simp)
 ·rw[Qs hs] at key;exact⟨key,sm,λ a h=>by rw[Aq (λ z=>nz (by rw[<-z];exact h))]⟩
 ·by_cases ha:a=p
  ·subst ha;exact E6.lst AU
  ·unfold E6;rw[Aq ha];exact E.Ci a h
 ·obtain⟨p',iy,e,rfl,_⟩:=o1;cases e;have hn:a≠p:=λ z=>E.apart j i c' _ v' _ aO [p] h1 ho h2 hs h3 ⟨p,iy,rfl,rfl,by assumption⟩ (zbp au) a ha (by rw[z];exact zaj.mpr rfl);exact⟨Aq hn,λ z=>hn (zaj.mp z)⟩
theorem Al.grow {K:za0}(E:Al K P0 P H σ ρ){i p:Nat}{xs:List V}{ds:List D}{v:V}{d:D}(ho:ρ[i]?=some (some (.own ds)))(hs:σ[i]?=some (some (.ref p)))(hp:H p=some (.lst xs))(pP:P p)(nz:¬ P0 p)(hx:Aj K (del H P) xs ds)(hv:BZ K (del H P) v d):
 Al K P0 P (upd H p (.lst (xs++[v]))) σ (ρ.set i (some (.own (ds++[d]))))/\Tr P0 P H P (upd H p (.lst (xs++[v]))):=E.mut ho hs pP nz (hx.snoc hv)
theorem Az (i:Nat){x:Str}{pos':Pos}(hN:X.N.Nodup)(hi:X.N[i]?=some x)(hx:Loc X.env.scope x)(ha:DE X WX true e f)(hs:swapsWith e (some (.Name x pos')) pos.line X.env=pure false:=by rfl)(hf:X.fn x=true\/X.env.scope.names.lookup x=some .local:=by first | exact .inl rfl | exact .inr rfl | assumption):
 DS X WX (.Assign [.Name x pos'] e pos) (λ ρ=>(f ρ).bind λ d=>.ok (.next (ρ.set i (some (.val d))))):=by
 obtain⟨ta,a1,a2⟩:=ha;refine⟨_,Td hN hi hx a1 hs hf,λ P0 P σ H Z ρ E h=>?_⟩;dsimp only at h;refine a2 P0 P σ H _ ρ E ?_;cases q:f ρ with
 |bad=>rw[q] at h;exact h
 |ex x=>rw[q] at h;exact λ H' s=>h H' P (E.tr s)
 |ok d=>rw[q] at h;exact λ v H' s hv=>h _ H' P (E.tr s) ((E.same s).RD hv)
noncomputable def W6 (i:Nat)(ρ:Aa)(m:M D):M Out:=match ρ[i]? with
 |some (some (.own ds))=>m.bind λ d=>if ds.length<1000 then .ok (.next (ρ.set i (some (.own (ds++[d]))))) else .bad
 |_=>.bad
theorem Lm (i:Nat){x:Str}{p1 apos ar:Pos}(hv:PE X (.Name x p1) (Rg i))(ha:DE X WX true e f)(hs:starEach [e] X.env=[(false,eval e X.env)]:=by rfl)
 (dN:swapsWith (.Call (.Attribute (.Name x p1) "append" apos) [e] [] ar) none pos.line X.env=pure false:=by rfl)
 (bA:attributeBase (.Name x p1) "append" X.env (eval (.Name x p1) X.env)=eval (.Name x p1) X.env:=by rfl)
 (cG:((backTo ar (starEach [e] X.env)).all (λ x => !x.1)&&(backToKw ar (keywordEach [] X.env)).all (λ x=>x.1.isSome)&&decide (([e]:List Expr).length+([]:List Keyword).length+(if ([]:List Keyword).isEmpty then 0 else 1)<30))=true:=by rfl)
 (bB:(apos.endLine==ar.line)=true:=by rfl) (aZ:(backTo ar (starEach [] X.env)).any (·.1)=false:=by rfl):
 DS X WX (.Expr (.Call (.Attribute (.Name x p1) "append" apos) [e] [] ar) pos) (λ ρ=>W6 i ρ (f ρ)):=by
 obtain⟨ta,a1,a2⟩:=ha;refine⟨_,Gs (Rp zce PySem.F.slot_list_append PySem.F.type_list_append P6 hv (Bb a1 Cj hs) bA cG bB hs aZ) dN,λ P0 P σ H Z ρ E h=>?_⟩;dsimp only at h;unfold W6 at h;split at h
 ·rename_i ds e1;obtain⟨p,xs,h1,h2,h3,h4,h5⟩:=E.own i ds e1;refine⟨_,h1,.inl ⟨rfl,xs,.of h2⟩,?_⟩;refine a2 P0 P σ H _ ρ E ?_;cases q:f ρ with
  |bad=>rw[q] at h;exact h
  |ex y=>rw[q] at h;exact λ H' s=>h H' P (E.tr s)
  |ok d =>
   rw[q] at h;simp only[M.A8] at h;by_cases hl:ds.length<1000
   ·rw[if_pos hl] at h;intro v H1 s1 hv;have E1:=E.same s1;have lh:H1 p=some (.lst xs):=s1 _ _ h2;refine⟨p,xs,v,rfl,rfl,lh,AS (by rw[h5.length];omega),?_⟩;obtain⟨E2,t2⟩:=E1.grow e1 h1 lh h3 h4 (h5.mono s1.del) hv;exact h _ _ _ ((E.tr s1).trans t2) E2
   ·rw[if_neg hl] at h;exact h.elim
 ·exact h.elim
theorem MB (ha:DE X WX c e f)(hs:swapsWith e none pos.line X.env=pure false:=by rfl):DS X WX (.Expr e pos) (λ ρ=>(f ρ).bind λ _=>.ok (.next ρ)):=by
 obtain⟨ta,a1,a2⟩:=ha;refine⟨_,Gs a1 hs,λ P0 P σ H Z ρ E h=>?_⟩;dsimp only at h;refine a2 P0 P σ H _ ρ E ?_;cases q:f ρ with
 |bad=>rw[q] at h;exact h
 |ex x=>rw[q] at h;exact λ H' s=>h H' P (E.tr s)
 |ok d=>rw[q] at h;exact λ v H' s hv=>h _ H' P (E.tr s) (E.same s)
end
def gG (K:za0)(P0:E7)(P:Addr->Prop)(H:Hp)(Q:St->Hp->Prop):M Aa->Prop
 | .ok ρ=>∀σ',Al K P0 P H σ' ρ->Q σ' H
 |_=>False
def DG (X:Cx)(tg:Expr)(gt:D->Aa->M Aa):Prop:=
 ∃g:TG,PG X tg g/\∀P0 P σ H Q ρ v d,Al X.K P0 P H σ ρ->BZ X.K (del H P) v d->gG X.K P0 P H Q (gt d ρ)->g v σ H Q
def vH (X:Cx)(yf:List Expr)(gt:List D->Aa->M Aa):Prop:=
 ∃g:Xp,rD X yf g/\∀P0 P σ H Q ρ v d,Al X.K P0 P H σ ρ->Aj X.K (del H P) v d->gG X.K P0 P H Q (gt d ρ)->g v σ H Q
structure hV (K:za0)(J:It)(P:Addr->Prop)(H:Hp)(ds:List D):Prop where
 go:∀(i:Nat) P' H',Ag (del H P) (del H' P')->i<ds.length->J.go i H'
 stop:∀(i:Nat) P' H',Ag (del H P) (del H' P')->ds.length<=i->J.stop i H'
 lD:∀(i:Nat) P' H' v jw d,Ag (del H P) (del H' P')->(∀a,P' a->E6 H' a)->ds[i]?=some d->J.lD i H' v jw->Ag H' jw/\BZ K (del jw P') v d
def DI (X:Cx)(WX:Str->Hp->Prop)(tg iter:Expr)(f:Aa->M (List D)):Prop:=
 ∃wi,PI X tg iter wi/\∀P0 P σ H R ρ,Al X.K P0 P H σ ρ->(match f ρ with | .ok ds=>∀J H',Ag H H'->hV X.K J P H' ds->R J H' | .ex x=>∀H',Ag H H'->WX x H' | .bad=>False)->wi σ H R
noncomputable def forM (gt:D->Aa->M Aa)(body:Aa->M Out):List D->Aa->M Out
 |[],ρ=>.ok (.next ρ)
 |d::r,ρ=>match gt d ρ with
  | .ok ρ1=>(match body ρ1 with
   | .ok (.next ρ2)| .ok (.cont ρ2)=>forM gt body r ρ2
   | .ok (.brk ρ2)=>.ok (.next ρ2)
   |m=>m)
  |_=>.bad
section
variable {X:Cx}{WX:Str->Hp->Prop}{c:Bool}{P0:E7}{P:Addr->Prop}{H:Hp}{σ:St}{ρ:Aa}{a b e tg iter:Expr}{f g:Aa->M D}{ft:Aa->M Bool}{pos:Pos}{gt:D->Aa->M Aa}{f8:List D->Aa->M Aa}{gb:Aa->M Out}{fi:Aa->M (List D)}
theorem BB (i:Nat){x:Str}(hN:X.N.Nodup)(hi:X.N[i]?=some x)(hx:Loc X.env.scope x)(hf:X.fn x=true\/X.env.scope.names.lookup x=some .local:=by first | exact .inl rfl | exact .inr rfl | assumption):DG X (.Name x pos) (λ d ρ=>.ok (ρ.set i (some (.val d)))):=
 ⟨_,Qf hN hi hx hf,λ P0 P σ H Q ρ v d E hv h=>h _ (E.RD hv)⟩
theorem Qt:vH X [] (λ ds ρ=>match ds with | []=>.ok ρ | _=>.bad):=⟨_,UC,λ P0 P σ H Q ρ v d E hv h=>by
 cases hv with
 |nil=>exact⟨rfl,h σ E⟩
 |cons _ _=>exact h.elim⟩
theorem FK {es:List Expr}(h1:DG X e gt)(h2:vH X es f8)(hs:(assignEach (e::es) X.env).map (·.2)=assign e X.env::(assignEach es X.env).map (·.2):=by rfl):
 vH X (e::es) (λ ds ρ=>match ds with|d::r=>(gt d ρ).bind (f8 r)|[]=>.bad):=by
 obtain⟨t,a1,a2⟩:=h1;obtain⟨u,b1,b2⟩:=h2;refine⟨_,Rj a1 b1 hs,λ P0 P σ H Q ρ v d E hv h=>?_⟩;cases hv with
 |nil=>exact h.elim
 | @cons x d xs ds hx dQ =>
  refine⟨x,xs,rfl,a2 P0 P σ H _ ρ x d E hx ?_⟩;dsimp only at h;cases q:gt d ρ with
  |bad|ex y=>rw[q] at h;exact h
  |ok ρ1=>rw[q] at h;exact λ σ' E'=>b2 P0 P σ' H Q ρ1 xs ds E' dQ h
theorem TC {es:List Expr}{k n:Nat}(hc:X.calm=true)(h:vH X es f8)(hn:(assignEach es X.env).length=n:=by rfl)(cu:(assignEach es X.env).findIdx? (·.1)=none:=by rfl):
 DG X (.Tuple es k pos) (λ d ρ=>match d with | .tup ds=>if ds.length=n then f8 ds ρ else .bad|_=>.bad):=by
 obtain⟨t,a1,a2⟩:=h;refine⟨_,XH hc a1 hn cu,λ P0 P σ H Q ρ v d E hv h=>?_⟩;cases hv with
 | @tup a xs ds hs hl =>
  dsimp only at h;by_cases hd:ds.length=n
  ·rw[if_pos hd] at h;exact⟨a,xs,rfl,Gr.of (Ax hs).2,by rw[hl.length];exact hd,a2 P0 P σ H Q ρ xs ds E hl h⟩
  ·rw[if_neg hd] at h;exact h.elim
 |_=>exact h.elim
theorem oQ (ha:DE X WX true e f)(hg:DG X tg gt)(hs:swapsWithSole [tg] e pos.line X.env=pure false:=by rfl)(hw:swappedStores [tg] e X.env=pure none:=by rfl)(h1:(assignEach [tg] X.env).map (·.2)=[assign tg X.env]:=by rfl):
 DS X WX (.Assign [tg] e pos) (λ ρ=>(f ρ).bind λ d=>match gt d ρ with | .ok ρ'=>.ok (.next ρ')|_=>.bad):=by
 obtain⟨ta,a1,a2⟩:=ha;obtain⟨t,b1,b2⟩:=hg;refine⟨_,XI a1 b1 hs hw h1,λ P0 P σ H Z ρ E h=>?_⟩;dsimp only at h;refine a2 P0 P σ H _ ρ E ?_;cases q:f ρ with
 |bad=>rw[q] at h;exact h
 |ex x=>rw[q] at h;exact λ H' s=>h H' P (E.tr s)
 |ok d =>
  rw[q] at h;simp only[M.A8] at h;intro v H' s hv;refine b2 P0 P σ H' _ ρ v d (E.same s) hv ?_;cases q2:gt d ρ with
  |ok ρ'=>rw[q2] at h;exact λ σ' E'=>h σ' H' P (E.tr s) E'
  |_=>rw[q2] at h;exact h.elim
theorem Bn (ha:DE X WX true e f):DI X WX tg e (λ ρ=>(f ρ).bind λ d=>match d with | .lst ds=>.ok ds | _=>.bad):=by
 obtain⟨ta,a1,a2⟩:=ha;refine⟨_,fL a1,λ P0 P σ H R ρ E h=>?_⟩;dsimp only at h;refine a2 P0 P σ H _ ρ E ?_;cases q:f ρ with
 |bad|ex x=>rw[q] at h;exact h
 |ok d =>
  rw[q] at h;cases d with
  |lst ds =>
   intro v H1 s1 hv;cases hv with
   | @lst a xs _ hs hl =>
    refine⟨a,rfl,⟨xs,hs.Bs⟩,h _ H1 s1 ⟨λ i P' H' s hi=>?_,λ i P' H' s hi=>?_,λ i P' H' v jw d s ht hd y=>?_⟩⟩
    ·obtain⟨x,hx,_⟩:=hl.get (zaf hi);exact⟨xs,x,(s.seq hs).Bs,hx⟩
    ·exact⟨xs,(s.seq hs).Bs,by rw[hl.length];exact hi⟩
    ·obtain⟨rfl,y⟩:=y;obtain⟨x,hx,d8⟩:=hl.get hd;have e:=y xs (s.seq hs).Bs;rw[hx] at e;cases e;exact⟨Ag.refl _,d8.mono s⟩
  |_=>exact h.elim
noncomputable def C7 (lo:Int):Nat->List D
 |0=>[]
 |n+1=>.int lo::C7 (lo+1) n
theorem Dl (lo:Int):∀n:Nat,(C7 lo n).length=n:=by
 intro n;induction n generalizing lo with
 |zero=>rfl
 |succ n ih=>rw[C7,zad,ih]
theorem GA {lo:Int}{n i:Nat}{d:D}(h:(C7 lo n)[i]?=some d):d=.int (lo+i)/\i<n:=by
 have hi:i<n:=by
  have:=(zan.mp h).1;rw[Dl] at this;exact this
 refine⟨?_,hi⟩;induction n generalizing lo i with
 |zero=>omega
 |succ n ih =>
  cases i with
  |zero=>rw[C7] at h;simp at h;rw[<-h];simp
  |succ i =>
   rw[C7,zb7] at h;rw[ih h (by omega)];congr 1;omega
theorem TF {K:za0}{P:Addr->Prop}{H:Hp}(lo:Int)(n:Nat):hV K (vC lo n) P H (C7 lo n):=
 ⟨λ i P' H' _ hi=>by rw[Dl] at hi;exact hi,λ i P' H' _ hi=>by rw[Dl] at hi;exact hi,λ i P' H' v jw d _ _ hd y=>by
  obtain⟨rfl,rfl⟩:=y;obtain⟨rfl,_⟩:=GA hd;exact⟨Ag.refl _,.int _⟩⟩
noncomputable def RE:D->M (List D)
 | .int j=>@ite _ (-(2^62)<=j/\j<2^62) (zbc _) (.ok (C7 0 j.toNat)) .bad
 |_=>.bad
theorem RF {j:Int}(h1 : -(2^62)<=j)(h2:j<2^62):RE (.int j)=.ok (C7 0 j.toNat):=if_pos ⟨h1,h2⟩
theorem Hz {n:Nat}(h:n<=1000):RE (.int (n:Int))=.ok (C7 0 n):=by
 rw[RF (by omega) (by omega),zc7]
theorem Dm {p:Pos}(hg:Gl X "range")(hm:X.mg "range" = none)(ha:DE X WX c a f)(hs:starEach [a] X.env=[(false,eval a X.env)]:=by rfl):
 DI X WX tg (.Call (.Name "range" p) [a] [] pos) (λ ρ=>(f ρ).bind RE):=by
 obtain⟨ta,a1,a2⟩:=ha;refine⟨_,VO hg hm (Bb a1 Cj hs) hs,λ P0 P σ H R ρ E h=>?_⟩;dsimp only at h;refine a2 P0 P σ H _ ρ E ?_;cases q:f ρ with
 |bad|ex x=>rw[q] at h;exact h
 |ok d =>
  rw[q] at h;cases d with
  |int j =>
   simp only[M.A8] at h;by_cases hj : -(2^62)<=j/\j<2^62
   ·rw[RF hj.1 hj.2] at h;exact λ v H1 s1 hv=>⟨j,by rw[hv.int_inv],hj.1,hj.2,h _ H1 s1 (TF 0 _)⟩
   ·have e:RE (.int j)=.bad:=if_neg hj;rw[e] at h;exact h.elim
  |_=>exact h.elim
noncomputable def Jg (k:Nat):List D->List D
 |[]=>[]
 |d::r=>.tup [.int k,d]::Jg (k+1) r
theorem FL (k:Nat)(ds:List D):(Jg k ds).length=ds.length:=by
 induction ds generalizing k with
 |nil=>rfl
 |cons d r ih=>rw[Jg,zad,zad,ih]
theorem Ln {k i:Nat}{ds:List D}{e:D}(h:(Jg k ds)[i]?=some e):∃d,ds[i]?=some d/\e=.tup [.int ((k+i:Nat):Int),d]:=by
 induction ds generalizing k i with
 |nil=>rw[Jg] at h;simp at h
 |cons d r ih =>
  cases i with
  |zero=>rw[Jg] at h;simp at h;exact⟨d,rfl,by rw[<-h];rfl⟩
  |succ i =>
   rw[Jg,zb7] at h;obtain⟨d',h1,h2⟩:=ih h;refine⟨d',by simpa using h1,?_⟩;rw[h2];congr 3;omega
theorem UP {eB:List Expr}{x1}{dr p:Pos}(hg:Gl X "enumerate")(hm:X.mg "enumerate" = none)(ha:DE X WX true a f)(hb:bootBuiltins "enumerate" = some (.type "enumerate"):=by decide +kernel)(hs:starEach [a] X.env=[(false,eval a X.env)]:=by rfl):
 DI X WX (.Tuple eB x1 dr) (.Call (.Name "enumerate" p) [a] [] pos) (λ ρ=>(f ρ).bind λ d=>match d with | .lst ds=>.ok (Jg 0 ds)|_=>.bad):=by
 obtain⟨ta,a1,a2⟩:=ha;refine⟨_,gR hg hm (Bb a1 Cj hs) hb hs,λ P0 P σ H R ρ E h=>?_⟩;dsimp only at h;refine a2 P0 P σ H _ ρ E ?_;cases q:f ρ with
 |bad|ex x=>rw[q] at h;exact h
 |ok d =>
  rw[q] at h;cases d with
  |lst ds =>
   intro v H1 s1 hv;cases hv with
   | @lst a xs _ hs hl =>
    refine⟨a,rfl,⟨xs,hs.Bs⟩,h _ H1 s1 ⟨λ i P' H' s hi=>?_,λ i P' H' s hi=>?_,λ i P' H' v jw d s ht hd y=>?_⟩⟩
    ·rw[FL] at hi;obtain⟨x,hx,_⟩:=hl.get (zaf hi);exact⟨xs,x,(s.seq hs).Bs,hx⟩
    ·rw[FL] at hi;exact⟨xs,(s.seq hs).Bs,by rw[hl.length];exact hi⟩
    ·obtain⟨p,x,hn,rfl,y,rfl⟩:=y;obtain⟨d',dE,rfl⟩:=Ln hd;obtain⟨x',hx,d8⟩:=hl.get dE;have e:=y xs (s.seq hs).Bs;rw[hx] at e;cases e;refine⟨B7 hn _,.tup (K9 hn ht) (.cons ?_ (.cons ((d8.mono s).mono (B7 hn _).del) .nil))⟩;rw[Nat.zero_add];exact .int _
  |_=>exact h.elim
theorem Kf {α:Type}{l:List α}{i:Nat}(h:i<l.length):l.drop i=l[i]::l.drop (i+1):=List.drop_eq_getElem_cons h
theorem Dn {body:List Stmt}(hp:PassesOwn (model X.prog X.w) X.A X.env X.xe)(hc:X.calm=true)(hi:DI X WX tg iter fi)(hg:DG X tg gt)(hb:Pg X WX body gb)(hs:∀x,foldedSetIterable iter X.env x=pure x:=by intro _;rfl):
 DS X WX (.For tg iter body [] pos) (λ ρ=>(fi ρ).bind λ ds=>forM gt gb ds ρ):=by
 obtain⟨wi,i1,i2⟩:=hi;obtain⟨t,a1,a2⟩:=hg;obtain⟨tb,b1,b2⟩:=hb;refine⟨_,nI hp hc i1 a1 b1 hs,λ P0 P σ H Z ρ E h=>?_⟩;dsimp only at h;refine i2 P0 P σ H _ ρ E ?_;cases q:fi ρ with
 |bad=>rw[q] at h;exact h
 |ex x=>rw[q] at h;exact λ H' s=>h H' P (E.tr s)
 |ok ds =>
  rw[q] at h;simp only[M.A8] at h;intro J H1 s1 ok;refine⟨λ i m σ' H'=>m=ds.length-i/\i<=ds.length/\∃P' ρ',Tr P0 P H1 P' H'/\Al X.K P0 P' H' σ' ρ'/\gS X.K WX P0 P' H' Z (forM gt gb (ds.drop i) ρ'),
   ⟨ds.length,by simp,zb9 _,P,ρ,Tr.refl,E.same s1,by rw[List.drop_zero];exact h.tr (E.tr s1)⟩,?_⟩
  rintro i m σ' H' ⟨rfl,hi,P',ρ',t',E',g'⟩;by_cases be:i<ds.length
  ·refine .inr ⟨ok.go i P' H' t'.1 be,λ σ2 H2=>i+1<=ds.length/\∃P2 ρ2,Tr P0 P H1 P2 H2/\Al X.K P0 P2 H2 σ2 ρ2/\gS X.K WX P0 P2 H2 Z (forM gt gb (ds.drop (i+1)) ρ2),λ σ2 H2 hq=>⟨ds.length-(i+1),by omega,rfl,hq.1,hq.2⟩,λ v H2 y=>?_⟩;obtain⟨s2,hv⟩:=ok.lD i P' H' v H2 ds[i] t'.1 E'.Ci (zaf be) y;rw[Kf be,forM] at g';have E2:=E'.same s2;refine a2 P0 P' σ' H2 _ ρ' v ds[i] E2 hv ?_;cases q1:gt ds[i] ρ' with
   |bad=>rw[q1] at g';exact g'
   |ex x=>rw[q1] at g';exact g'.elim
   |ok ρ1 =>
    rw[q1] at g';dsimp only at g';intro σ3 E3;refine b2 P0 P' σ3 H2 _ ρ1 E3 ?_;have tt:Tr P0 P H1 P' H2:=t'.trans (E'.tr s2);cases q2:gb ρ1 with
    |bad=>rw[q2] at g';exact g'
    |ex x=>rw[q2] at g';exact gS.tr (m:=.ex x) g' (E'.tr s2)
    |ok o =>
     rw[q2] at g';cases o with
     |ret d=>exact gS.tr (m:=.ok (.ret d)) g' (E'.tr s2)
     |Cm d=>exact gS.tr (m:=.ok (.Cm d)) g' (E'.tr s2)
     |EK d ρ2=>exact gS.tr (m:=.ok (.EK d ρ2)) g' (E'.tr s2)
     |next ρ2|cont ρ2=>exact λ σ4 H4 P4 t4 E4=>⟨be,P4,ρ2,tt.trans t4,E4,gS.tr g' ((E'.tr s2).trans t4)⟩
     |brk ρ2=>exact λ σ4 H4 P4 t4 E4=>g' σ4 H4 P4 ((E'.tr s2).trans t4) E4
  ·have e:i=ds.length:=by omega
   subst e;refine .inl ⟨ok.stop _ P' H' t'.1 (zal _),?_⟩;rw[List.drop_length,forM] at g';exact g' σ' H' P' Tr.refl E'
end
noncomputable def TH (K:za0)(n:Nat)(F:List D->M D):Sp:=λ vs H Q _=>vs.length=n/\∃P ds,(∀a,P a->E6 H a)/\Aj K (del H P) vs ds/\gV K (λ _ _=>False) P H Q (F ds)
noncomputable def AI (N:List Str)(ds:List D):Aa:=ds.map (λ d=>some (.val d))++zai (N.length-ds.length) none
noncomputable def xD:Cl->M D
 | .val d=>.ok d
 | .own ds=>.ok (.lst ds)
 | .ow (.rows Hv)=>.ok (.lst (Hv.map D.lst))
 | .ow (.J9 _ _)=>.bad
 | .ow (.tree _ t)=>.ok (er t)
noncomputable def fin (m:M Out):M D:=match m with
 | .ok (.ret d)=>.ok d
 | .ok (.Cm c)=>xD c
 | .ok (.next _)=>.ok .AK
 |_=>.bad
theorem Ph {K:za0}{P:Addr->Prop}{H:Hp}{N:List Str}{vs:List V}{ds:List D}(ht:∀a,P a->E6 H a)(h:Aj K (del H P) vs ds):Al K ⟨P,λ _=>0⟩ P H (start N vs) (AI N ds):=by
 have hl:=h.length;have key:∀(i:Nat) (c:Cl),(AI N ds)[i]?=some (some c)->∃d,ds[i]?=some d/\c=.val d:=λ i c e=>by
  unfold AI at e;by_cases hi:i<ds.length
  ·rw[zc8 (by simpa using hi),zat] at e;cases q:ds[i]? with
   |none=>rw[q] at e;cases e
   |some d=>rw[q] at e;cases e;exact⟨d,rfl,rfl⟩
  ·rw[zde (by simpa using hi),zci] at e;split at e<;>cases e
 refine⟨λ _ h=>h,ht,λ i d e=>?_,λ i es e io=>?_,λ i j c c' v v' fp aO e _ _ _ ho _ _=>?_,?_,λ i c n e hp=>?_⟩
 rotate_left 4
 ·obtain⟨d',q,z⟩:=key i _ e;cases z;cases hp
 ·obtain⟨d',q,z⟩:=key i _ e;cases z;obtain⟨v,hv,hd⟩:=h.get q;refine⟨v,?_,hd⟩;unfold start;rw[zc8 (by rw[za5];exact (zan.mp hv).1),zat,hv];rfl
 ·obtain⟨d',q,z⟩:=key i _ e;cases z;cases io
 ·obtain⟨d',q,z⟩:=key i _ e;cases z;exact ho.elim
 ·unfold start AI;simp[hl]
theorem E9 {P:Addr->Prop}{H H':Hp}{P':Addr->Prop}(t:Tr P P H P' H'):Ag H H':=λ b o e=>by
 by_cases hb:P b
 ·rw[t.2 b hb];exact e
 ·exact (Ax (t.1 b o (by rw[AQ hb];exact e))).2
theorem EJ.oR {K:za0}{H:Hp}{P P0:Addr->Prop}(hs:∀a,P0 a->P a):∀ {ps:List Addr}{Hv:List (List D)},(∀a∈ps,¬ P0 a)->EJ K H P ps Hv->Aj K (del H P0) (ps.map V.ref) (Hv.map D.lst)
 |_,_,_,.nil=>.nil
 |_,_,k,.cons h r t=>.cons (.lst (.of (show del H P0 _=_ by rw[AQ (k _ za3)];exact h)) (r.mono (CV hs))) (EJ.oR hs (λ a ha=>k a (za4 _ ha)) t)
theorem hX {K:za0}{WX:Str->Hp->Prop}{P P2:Addr->Prop}{H H':Hp}{Q:VK}{c:Cl}{v:V}{fp:List Addr}(h:gV K WX P H Q (xD c))(t':Tr P P H P2 H')(hs:∀a,P a->P2 a)(ht:∀a,P2 a->E6 H' a)(ho:DC K H' P2 c v fp)(hp:∀a∈fp,P2 a/\¬ P a):Q v H':=by
 cases c with
 |val d=>exact ho.elim
 |own ds =>
  obtain⟨p,xs,rfl,rfl,h1,h2⟩:=ho;exact h _ H' (E9 t') (.lst (.of (show del H' P p=_ by rw[AQ (hp p za3).2];exact h1)) (h2.mono (CV hs)))
 |ow o =>
  cases o with
  |rows Hv =>
   obtain⟨p,ps,rfl,rfl,h1,h2⟩:=ho;exact h _ H' (E9 t') (.lst (.of (show del H' P p=_ by rw[AQ (hp p za3).2];exact h1)) (h2.oR hs λ a ha=>(hp a (za4 _ ha)).2))
  |J9 p ds=>exact h.elim
  |tree p t=>exact h _ H' (E9 t') (C6.has hs (λ a ha=>(hp a ha).2) ho)
section
variable {P:Program}{w:World}{K:za0}{mg:Str->Option Value}{base:Heap}
theorem tS {x qual:Str}{st:Stmt}{f:Addr}{fd:FuncData}{N ps:List Str}{k:Nat}(F:Xq K x qual st f fd)(S:Ak N ps (A6 st))(g:Aa->M Out)
 (hb:∀(Bf:Value) (A:Around) (outer:List Env) (s:Shared) (H:Hp) (E:XK),BW k (A.deeper (envOfC qual (A6 st) s.heap.objs.size f Bf))->Pg (Mp gF P w K mg base N qual (A6 st) f Bf A outer s H E).sC (λ _ _=>False) (AM st) g):
 E8 P w K mg base gF (k+1) f fd ps (TH K ps.length λ ds=>fin (g (AI N ds))):=by
 refine F.ok S (λ vs H Q E h=>h.1) λ Bf A outer s H vs Q E hr h=>?_;obtain⟨hl,P',ds,ht,hv,hq⟩:=h;obtain⟨t,h1,h2⟩:=hb Bf A outer s H E hr;refine⟨t,h1,h2 ⟨P',λ _=>0⟩ P' _ H _ _ (Ph ht hv) ?_⟩;dsimp only at hq;revert hq;cases g (AI N ds) with
 |bad|ex x=>exact λ h=>h.elim
 |ok o =>
  cases o with
  |ret d=>exact λ h v H' P2 t hv=>h v H' (E9 t) hv
  |next ρ=>exact λ h σ' H' P2 t E=>h .AK H' (E9 t) .AK
  |brk ρ|cont ρ=>exact λ h=>h.elim
  |Cm c=>exact λ h v fp H' P2 t hs ht ho hp nd=>hX h t hs ht ho hp
  |EK d ρ=>exact λ h=>h.elim
end
section
variable {X:Cx}{WX:Str->Hp->Prop}{c:Bool}{P0:E7}{P:Addr->Prop}{H:Hp}{σ:St}{ρ:Aa}{a b e tg iter:Expr}{f g:Aa->M D}{ft:Aa->M Bool}{pos:Pos}{gt:D->Aa->M Aa}{fi:Aa->M (List D)}{es:List Expr}{fs:Aa->M (List D)}
noncomputable def BS (μ:List (Option Nat))(ρ:Aa):Aa:=μ.map λ o=>o.bind λ i=>match ρ[i]? with | some (some (.val d))=>some (.val d) | _=>none
theorem Ir {μ:List (Option Nat)}{ρ:Aa}{j:Nat}{cl:Cl}(h:(BS μ ρ)[j]?=some (some cl)):∃i d,μ[j]?=some (some i)/\ρ[i]?=some (some (.val d))/\cl=.val d:=by
 unfold BS at h;rw[zat] at h;cases q:μ[j]? with
 |none=>rw[q] at h;cases h
 |some o =>
  rw[q] at h;cases o with
  |none=>cases h
  |some i =>
   simp only[zc0,Option.bind_some,Option.some.injEq] at h;split at h
   ·rename_i d e;cases h;exact⟨i,d,rfl,e,rfl⟩
   ·cases h
theorem Al.block {K:za0}(E:Al K P0 P H σ ρ)(μ:List (Option Nat)):Al K P0 P H (Fl μ σ) (BS μ ρ):=by
 refine⟨E.sub,E.Ci,λ j d h=>?_,λ j ds h io=>?_,λ j k c c' v v' fp aO h _ _ _ ho _ _=>?_,by unfold Fl BS;simp,λ j c n h hp=>by obtain⟨i,d',h1,h2,h3⟩:=Ir h;subst h3;cases hp⟩
 ·obtain⟨i,d',h1,h2,h3⟩:=Ir h;cases h3;obtain⟨v,h4,h5⟩:=E.val i d h2;refine⟨v,?_,h5⟩;unfold Fl;rw[zat,h1];simp[h4]
 ·obtain⟨i,d',h1,h2,h3⟩:=Ir h;cases h3;cases io
 ·obtain⟨i,d',h1,h2,h3⟩:=Ir h;cases h3;exact ho.elim
noncomputable def Bt (gt:D->Aa->M Aa)(ft:Aa->M Bool)(fe:Aa->M D):List D->Aa->M (List D)
 |[],_=>.ok []
 |d::r,ρ=>match gt d ρ with
  | .ok ρ1=>(match ft ρ1 with
   | .ok k=>if k=true then (match fe ρ1 with
    | .ok y=>(match Bt gt ft fe r ρ with | .ok ys=>.ok (y::ys)|_=>.bad)
    |_=>.bad) else Bt gt ft fe r ρ
   |_=>.bad)
  |_=>.bad
def vI (X:Cx)(scope:Scope)(NB:List Str)(μ:List (Option Nat))(tg:Expr)(gt:D->Aa->M Aa):Prop:=
 ∃g:TG,(∀s H C ex,PG (blockOf X s H scope C NB ex) tg g)/\Ld μ g/\∀P0 P σ H Q ρ v d,Al X.K P0 P H σ ρ->BZ X.K (del H P) v d->gG X.K P0 P H Q (gt d ρ)->g v σ H Q
theorem BC {scope:Scope}{NB:List Str}{μ:List (Option Nat)}(i:Nat){x:Str}(hN:NB.Nodup)(hi:NB[i]?=some x)(hx:(relabel scope X.env).names.lookup x=some .local)(hm:μ[i]?=some none):vI X scope NB μ (.Name x pos) (λ d ρ=>.ok (ρ.set i (some (.val d)))):=
 ⟨OU i,λ s H C ex=>Qf (X:=blockOf X s H scope C NB ex) hN hi (.inl hx) (.inr hx),gN hm,λ P0 P σ H Q ρ v d E hv h=>h _ (E.RD hv)⟩
def vJ (X:Cx)(cs:List Expr)(f:Aa->M Bool):Prop:=
 ∃t,rF X cs t/\∀P0 P σ H Q ρ,Al X.K P0 P H σ ρ->gT (λ _ _=>False) H Q (f ρ)->t σ H Q
theorem Ea:vJ X [] (λ _=>.ok true):=⟨_,gL,λ P0 P σ H Q ρ E h=>h H (Ag.refl H)⟩
theorem Iv (h:DT X (λ _ _=>False) a ft):vJ X [a] ft:=let ⟨t,h1,h2⟩:=h;⟨_,gM h1,h2⟩
noncomputable def HA (m:M (List D)):M D:=match m with | .ok ys=>.ok (.lst ys) | _=>.bad
theorem oS {μ:List (Option Nat)}{wi:TI}{gg:TG}{tc:Shared->Hp->Addr->List Addr->TT}{te:Shared->Hp->Addr->List Addr->TE}{fe:Aa->M D}
 (i2:∀P0 P σ H R ρ,Al X.K P0 P H σ ρ->(match fi ρ with | .ok ds=>∀J H',Ag H H'->hV X.K J P H' ds->R J H' | .ex x=>∀H',Ag H H'->WX x H' | .bad=>False)->wi σ H R)
 (g2:∀P0 P σ H Q ρ v d,Al X.K P0 P H σ ρ->BZ X.K (del H P) v d->gG X.K P0 P H Q (gt d ρ)->gg v σ H Q)
 (t2:∀s H' C ex P0 P σ H Q ρ,Al X.K P0 P H σ ρ->gT (λ _ _=>False) H Q (ft ρ)->tc s H' C ex σ H Q)
 (e2:∀s H' C ex P0 P σ H Q ρ,Al X.K P0 P H σ ρ->gV X.K (λ _ _=>False) (Lv c P0 P) H Q (fe ρ)->te s H' C ex σ H Q) {Q:VK}
 (E:Al X.K P0 P H σ ρ) (h:gV X.K WX (Lv c P0 P) H Q ((fi ρ).bind λ ds=>if ds.length<=1000 then HA (Bt gt ft fe ds (BS μ ρ)) else .bad)):UN wi μ gg tc te σ H Q:=by
 refine i2 P0 P σ H _ ρ E ?_;cases q:fi ρ with
 |bad|ex x=>rw[q] at h;exact h
 |ok ds =>
  rw[q] at h;simp only[M.A8] at h;by_cases hd:¬ ds.length<=1000
  ·rw[if_neg hd] at h;exact h.elim
  have hd:ds.length<=1000:=by omega
  rw[if_pos hd] at h;intro J H1 s1 ok s C ex;cases qc:Bt gt ft fe ds (BS μ ρ) with
  |bad|ex x=>rw[qc] at h;exact h.elim
  |ok total =>
   rw[qc] at h;unfold HA at h;dsimp only at h;have E1:=E.same s1;refine⟨λ i m ys H2=>m=ds.length-i/\i<=ds.length/\ys.length<=i/\Ag H1 H2/\∃es rest,Aj X.K (del H2 (Lv c P0 P)) ys es/\Bt gt ft fe (ds.drop i) (BS μ ρ)=.ok rest/\es++rest=total,
    ⟨ds.length,by simp,zb9 _,zal _,Ag.refl _,[],total,.nil,by rw[List.drop_zero];exact qc,rfl⟩,?_⟩
   rintro i m ys H2 ⟨rfl,hi,hy,s2,es,rest,i5,aV,cV⟩;by_cases be:i<ds.length
   ·refine .inr ⟨ok.go i P H2 s2.del be,Nat.lt_of_le_of_lt hy (AS (by omega)),λ dn H'=>i+1<=ds.length/\dn.length<=i+1/\Ag H1 H'/\∃es rest,Aj X.K (del H' (Lv c P0 P)) dn es/\Bt gt ft fe (ds.drop (i+1)) (BS μ ρ)=.ok rest/\es++rest=total,λ dn H' hq=>⟨ds.length-(i+1),by omega,rfl,hq.1,hq.2.1,hq.2.2.1,hq.2.2.2⟩,λ v H3 y=>?_⟩;have E2:=E1.same s2;obtain⟨s3,hv⟩:=ok.lD i P H2 v H3 ds[i] s2.del E2.Ci (zaf be) y;rw[Kf be,Bt] at aV;have E3:=(E2.same s3).block μ;refine g2 P0 P _ H3 _ (BS μ ρ) v ds[i] E3 hv ?_;cases q1:gt ds[i] (BS μ ρ) with
    |bad|ex x=>rw[q1] at aV;cases aV
    |ok ρ1 =>
     rw[q1] at aV;dsimp only at aV;intro σ4 E4;refine t2 s H1 C ex P0 P σ4 H3 _ ρ1 E4 ?_;cases q2:ft ρ1 with
     |bad|ex x=>rw[q2] at aV;cases aV
     |ok k =>
      rw[q2] at aV;dsimp only at aV;intro H5 s5;cases k with
      |false =>
       simp only[zap,if_false] at aV ⊢;exact⟨be,by omega,(s2.trans s3).trans s5,es,rest,(i5.mono s3.del).mono s5.del,aV,cV⟩
      |true =>
       simp only[if_true] at aV ⊢;refine e2 s H1 C ex P0 P σ4 H5 _ ρ1 (E4.same s5) ?_;cases q3:fe ρ1 with
       |bad|ex x=>rw[q3] at aV;cases aV
       |ok y' =>
        rw[q3] at aV;dsimp only at aV;cases q4:Bt gt ft fe (ds.drop (i+1)) (BS μ ρ) with
        |bad|ex x=>rw[q4] at aV;cases aV
        |ok qv =>
         rw[q4] at aV;cases aV;intro w H6 s6 hw;refine⟨be,by rw[zah,zc9];omega,((s2.trans s3).trans s5).trans s6,es++[y'],qv,(((i5.mono s3.del).mono s5.del).mono s6.del).snoc hw,rfl,?_⟩;rw[zck];exact cV
   ·have e:i=ds.length:=by omega
    subst e;rw[List.drop_length,Bt] at aV;cases aV;rw[zbj] at cV;subst cV;refine .inl ⟨ok.stop _ P H2 s2.del (zal _),λ D0 hn=>h _ _ ((s1.trans s2).trans (B7 hn _)) (.lst (.of (K9 hn λ a q=>(E1.same s2).tM c a q)) (i5.mono (B7 hn _).del))⟩
theorem Iw {scope:Scope}{NB:List Str}{ifs:List Expr}{elt:Expr}{fe:Aa->M D}(i:Nat){x:Str}{px cz:Pos}(μ:List (Option Nat))(hN:X.N.Nodup)(qk:X.N[i]?=some x)(hx:Loc X.env.scope x)(hc:X.calm=true)(hi:DI X WX tg iter fi)(cg:Lc scope X.env.scope=true)(dL:Rv X.N NB scope μ=true)(hg:vI X scope NB μ tg gt)
 (ht:∀s H C ex,vJ (blockOf X s H scope C NB ex) ifs ft) (he:∀s H C ex,DE (blockOf X s H scope C NB ex) (λ _ _=>False) true elt fe)
 (dN:swapsWith (.ListComp elt [⟨tg,iter,ifs,0⟩] scope pos) (some (.Name x px)) cz.line X.env=pure true:=by rfl) (hs:∀x,foldedSetIterable iter X.env x=pure x:=by intro _;rfl) (hf:X.fn x=true\/X.env.scope.names.lookup x=some .local:=by first|exact .inl rfl|exact .inr rfl|assumption):
 DS X WX (.Assign [.Name x px] (.ListComp elt [⟨tg,iter,ifs,0⟩] scope pos) cz) (λ ρ=>((fi ρ).bind λ ds=>if ds.length<=1000 then HA (Bt gt ft fe ds (BS μ ρ)) else .bad).bind λ d=>.ok (.next (ρ.set i (some (.val d))))):=by
 obtain⟨wi,i1,i2⟩:=hi;obtain⟨gg,g1,gk,g2⟩:=hg;refine⟨_,gQ hN qk hx hc i1 cg dL gk (λ s H C ex=>⟨g1 s H C ex,(za2 (ht s H C ex)).1,(za2 (he s H C ex)).1⟩) dN hs hf,λ P0 P σ H Z ρ E h=>?_⟩;refine oS (c:=true) i2 g2 (λ s H' C ex P0 P σ H Q ρ E h=>(za2 (ht s H' C ex)).2 P0 P σ H Q ρ E h) (λ s H' C ex P0 P σ H Q ρ E h=>(za2 (he s H' C ex)).2 P0 P σ H Q ρ E h) E ?_;dsimp only at h;revert h;cases ((fi ρ).bind λ ds=>if ds.length<=1000 then HA (Bt gt ft fe ds (BS μ ρ)) else .bad) with
 |bad=>exact λ h=>h
 |ex y=>exact λ h H' s=>h H' P (E.tr s)
 |ok d=>exact λ h v H' s hv=>h _ H' P (E.tr s) ((E.same s).RD hv)
end
section
variable {X:Cx}{WX:Str->Hp->Prop}{c:Bool}{P0:E7}{P:Addr->Prop}{H:Hp}{σ:St}{ρ:Aa}{a b e k:Expr}{f g:Aa->M D}{te tk:TE}{pos p2:Pos}
noncomputable def yV (x y:D):M D:=match x,y with | .lst ds,.int i=>if i = -1 then .ok (.lst ds.reverse) else .bad | _,_=>.bad
noncomputable def Cw:List D->Option (List Int)
 |[]=>some []
 | .int i::r=>(Cw r).map (i::·)
 |_=>none
noncomputable def Yn:D->Option (List Int)
 | .tup ds=>Cw ds
 |_=>none
noncomputable def HB:List D->Option (List (D×List Int))
 |[]=>some []
 |d::r=>(Yn d).bind λ k=>(HB r).map ((d,k)::·)
noncomputable def UQ (l d:D):M D:=match l with
 | .lst ds=>(match HB ds with|some ks=>.ok (match B5 ks with|none=>d|some b=>b.1)|none=>.bad)
 |_=>.bad
theorem Lo {K:za0}{H:Hp}:∀ {xs:List V}{ds:List D}{ns:List Int},Aj K H xs ds->Cw ds=some ns->xs=ns.map V.int
 |_,_,_,.nil,e=>by simp only[Cw] at e;cases e;rfl
 |_,_,_,.cons (d:=d) h t,e=>by
  cases d with
  |int i =>
   simp only[Cw] at e;cases q:Cw _ with
   |none=>rw[q] at e;cases e
   |some ns =>
    rw[q] at e;cases e;rw[h.int_inv,Lo t q];rfl
  |_=>simp[Cw] at e
noncomputable abbrev Alike (K:za0)(H:Hp):List (Addr×List Int)->List (D×List Int)->Prop:=Paired λ p q=>p.2=q.2/\BZ K H (.ref p.1) q.1
theorem Jx {K:za0}{H:Hp}:∀ {xs:List V}{ds:List D}{ks:List (D×List Int)},Aj K H xs ds->HB ds=some ks->∃bs:List (Addr×List Int),xs=bs.map (λ b=>V.ref b.1)/\(∀b∈bs,Gr K H b.1 (b.2.map V.int))/\Alike K H bs ks
 |_,_,_,.nil,e=>by simp only[HB] at e;cases e;exact⟨[],rfl,by simp,.nil⟩
 |_,_,_,.cons (d:=d) h t,e=>by
  simp only[HB] at e;cases q:Yn d with
  |none=>rw[q] at e;cases e
  |some k =>
   rw[q] at e;simp only[Option.bind_some] at e;cases q2:HB _ with
   |none=>rw[q2] at e;cases e
   |some ks =>
    rw[q2] at e;cases e;obtain⟨bs,h1,h2,h3⟩:=Jx t q2;cases d with
    |tup es =>
     have h':=h;cases h with
     | @tup a xs _ hs hl =>
      simp only[Yn] at q;have e1:=Lo hl q;subst e1;refine⟨(a,k)::bs,by rw[h1];rfl,λ b hb=>?_,.cons ⟨rfl,h'⟩ h3⟩;rcases za9.mp hb with z|z
      ·subst z;exact Gr.of hs
      ·exact h2 b z
    |_=>simp[Yn] at q
theorem Nf {K:za0}{H:Hp}{bs:List (Addr×List Int)}{ks:List (D×List Int)}(h:Alike K H bs ks):(B5 bs=none/\B5 ks=none)\/∃b k,B5 bs=some b/\B5 ks=some k/\b.2=k.2/\BZ K H (.ref b.1) k.1:=by
 unfold B5
 suffices z:∀(o:Option (Addr×List Int)) (o':Option (D×List Int)),((o=none/\o'=none)\/∃b k,o=some b/\o'=some k/\b.2=k.2/\BZ K H (.ref b.1) k.1)->
  ((bs.foldl BR o=none/\ks.foldl BR o'=none) \/
   ∃b k,bs.foldl BR o=some b/\ks.foldl BR o'=some k/\b.2=k.2/\BZ K H (.ref b.1) k.1) from z none none (.inl ⟨rfl,rfl⟩)
 induction h with
 |nil=>intro o o' h;exact h
 | @cons b k bs ks hh t ih =>
  intro o o' h;rw[zbd,zbd];refine ih _ _ ?_;rcases h with ⟨rfl,rfl⟩|⟨b',k',rfl,rfl,e1,e2⟩
  ·exact .inr ⟨b,k,rfl,rfl,hh⟩
  ·unfold BR;dsimp only;rw[hh.1,e1];by_cases hl:HT.lexLt k.2 k'.2=true
   ·rw[if_pos hl,if_pos hl];exact .inr ⟨b,k,rfl,rfl,hh⟩
   ·rw[if_neg hl,if_neg hl];exact .inr ⟨b',k',rfl,rfl,e1,e2⟩
theorem hZ {p kp:Pos}{e2:Expr}(hc:X.calm=true)(hu:X.A.units+1<cLine)(hg:Gl X "min")(hm:X.mg "min" = none)(ha:DE X WX c e f)(hb:DE X WX c e2 g)
 (cu:starEach [e] X.env=[(false,eval e X.env)]:=by rfl) (e8:(backToKw pos (keywordEach [⟨some "default",e2,kp⟩] X.env)).all (·.1.isSome)=true:=by rfl) (qq:(backToKw pos (keywordEach [⟨some "default",e2,kp⟩] X.env)).filterMap (·.1)=([("default" : Str)]:List Str):=by rfl)
 (qr:(backToKw pos (keywordEach [⟨some "default",e2,kp⟩] X.env)).any (·.1.isNone)=false:=by rfl) (qt:backTo pos (starEach [e] X.env)=(false,eval e X.env)::backTo pos (starEach [] X.env):=by rfl) (bU:(backTo pos (starEach [e] X.env)).any (·.1)=false:=by rfl):
 DE X WX c (.Call (.Name "min" p) [e] [⟨some "default",e2,kp⟩] pos) (λ ρ=>(f ρ).bind λ x=>(g ρ).bind λ y=>UQ x y):=by
 obtain⟨ta,a1,a2⟩:=ha;obtain⟨tb,b1,b2⟩:=hb;refine⟨_,gU hc hu hg hm a1 b1 cu e8 qq qr qt bU,λ P0 P σ H Q ρ E h=>RC (r:=λ x d H2 Q=>∃(a:Addr) (bs:List (Addr×List Int)),x=.ref a/\DL X.K H2 a (bs.map λ b=>V.ref b.1)/\(∀b∈bs,Gr X.K H2 b.1 (b.2.map V.int))/\Q (match B5 bs with|none=>d|some b=>.ref b.1) H2) a2 b2 ?_ E h⟩;intro P H x y v w Q ht hx hy h;unfold UQ at h;split at h
 ·rename_i ds;split at h
  ·rename_i ks e1;cases hx with
   | @lst a xs _ hs hl =>
    obtain⟨bs,rfl,h2,h3⟩:=Jx hl e1;refine⟨a,bs,rfl,hs.Bs,λ b hb=>(h2 b hb).Bs,?_⟩;rcases Nf h3 with ⟨q1,q2⟩|⟨b,k,q1,q2,_,q3⟩
    ·rw[q1];rw[q2] at h;exact h _ H (Ag.refl H) hy
    ·rw[q1];rw[q2] at h;exact h _ H (Ag.refl H) q3
  ·exact h.elim
 ·exact h.elim
end
theorem B9 {A:Around}{k:Nat}(hr:BW k A)(n:Nat)(hn:n<=64):A.units+n<cLine:=by have:=hr.units;omega
structure B6 (K:za0)(mg:Str->Option Value)(x:Str)(st:Stmt)(ps:List Str):Prop where
 ex:∃f fd,Xq K x x st f fd/\mg x=some (.ref f)/\Binds K fd ps []
theorem Yo (ds:List D)(n:Nat):lI none (some (n:Int)) (.lst ds)=.ok (.lst (ds.take n)):=by
 unfold lI;dsimp only;rw[HT.Rm,HT.Mz,List.drop_zero,Nat.sub_zero];congr 2;rw[Nat.min_def];split
 ·rfl
 ·rw[zc4 (zal _),zc4 (by omega)]
theorem BK.there {P:Program}{w:World}{H:Hp}{h:Heap}{a:Addr}{o:HO}(x:BK P w H h a o):∃ob,h.get? a=some ob:=by
 cases o with
 |lst xs=>obtain⟨_,_,_,_,e⟩:=x;exact⟨_,e⟩
 |tup xs=>obtain⟨_,_,_,o,e,_⟩:=x;exact⟨o,e⟩
 |dK kvs|dT kvs=>obtain⟨_,_,_,_,o,_,_,e,_⟩:=x;exact⟨_,e⟩
 |set S n=>obtain⟨o,_,_,_,e,_⟩:=x;exact⟨_,e⟩
 |ins C dx fs=>obtain⟨_,_,_,e,_⟩:=x;exact⟨_,e⟩
 |own y=>obtain⟨_,e⟩:=x;exact⟨_,e⟩
 |xd fs=>obtain⟨_,⟨_,_,_,e,_⟩,_⟩:=x;exact⟨_,e⟩
 |vB lo hi=>obtain⟨_,_,_,e⟩:=x;exact⟨_,e⟩
 |VL ob u=>obtain⟨e,_⟩:=x;exact⟨_,e⟩
 |lC ps|met f y=>exact⟨_,(show h.get? a=some _ from x)⟩
 |ext φ=>obtain⟨_,⟨_,e⟩,_⟩:=x;exact⟨_,e⟩
theorem FH.gone {P:Program}{w:World}{H:Hp}{h:Heap}{a:Addr}(x:FH P w H h)(e:h.get? a=none):H a=none:=by
 cases q:H a with
 |none=>rfl
 |some o=>obtain⟨ob,z⟩:=(x a o q).there;rw[e] at z;cases z
structure oU (base g:Heap)(H:Hp)(l:List Env)(ea c:Addr)(h:Heap):Prop where
 fly:∃a0,Heap.FlyingW base l ea (.ref c) a0 h
 new:g.get? ea=none
 un:H ea=none
 tr:∀oe vs T,h.get? ea=some oe->oe.data=.fields vs->vs[1]?=some (.ref T)->H T=none/\g.get? T=none
noncomputable def UR (P:Program)(w:World)(base:Heap):UG:=λ outer H s E ev s'=>∃(ea c:Addr) (H':Hp),ev=.ref ea/\s'.os=s.os/\AllBare s'.gens/\Un (Ho outer) [] H H' s.heap s'.heap/\FH P w H' s'.heap/\oU base s.heap H' outer ea c s'.heap/\E (.ref c) none H'
section
variable {P:Program}{w:World}{K:za0}{mg:Str->Option Value}{base:Heap}{N:List Str}{qual:Str}{scope:Scope}{f:Addr}{cd:Value}{A:Around}{outer:List Env}{s:Shared}{H:Hp}{E:XK}
noncomputable abbrev US (P:Program)(w:World)(K:za0)(mg:Str->Option Value)(base:Heap)(N:List Str)(qual:Str)(scope:Scope)(f:Addr)(cd:Value)(A:Around)(outer:List Env)(s:Shared)(H:Hp)(E:XK):Cx:=
 Mp (UR P w base) P w K mg base N qual scope f cd A outer s H E
theorem lJ {pins:List (Addr×Obj)}{σ:St}{H1:Hp}{s1:Shared}{h' B:Heap}{ea c:Addr}{a0:Value}{hid:List Addr}(J:Inv (US P w K mg base N qual scope f cd A outer s H E) pins σ H1 s1)
 (hB:∀b o,s1.heap.get? b=some o->b∉Ho (envOfC qual scope s.heap.objs.size f cd::outer)->b∉hid->(H1 b≠none\/∃o',s.heap.get? b=some o')->B.get? b=some o) (yg:base.StaysIn B)
 (hh:∀b∈hid,H1 b=none/\s.heap.get? b=none) (hT:∀b,B.get? b=none->b∉Ho (envOfC qual scope s.heap.objs.size f cd::outer)->H1 b=none/\s.heap.get? b=none)
 (yh:s.heap.get? ea=none) (qw:H1 ea=none) (F:Heap.FlyingW B outer ea (.ref c) a0 h') (eW:s1.heap.UpToSlots h') (q:E (.ref c) none H1):
 UR P w base outer H s E (.ref ea) {s1 with heap:=h' }:=by
 have jx:∀b∈Ho outer,∃o,s1.heap.get? b=some o/\∀vs,o.data≠.fields vs:=λ b hb=>(J.J6.mem hb).2;have li:∀b o,s.heap.get? b=some o->b≠s.heap.objs.size:=λ b o e=>zaz (zak e);have ZW:∀b,b∈Ho (envOfC qual scope s.heap.objs.size f cd::outer)->b=s.heap.objs.size\/b∈Ho outer:=λ b hb=>by
  have bZ:b∈s.heap.objs.size::Ho outer:=hb;exact za9.mp bZ
 have U:Un (Ho outer) [] H H1 s.heap s1.heap:=J.base;have cI:∀b o,s.heap.get? b=some o->b∉hid:=λ b o e hb=>by rw[(hh b hb).2] at e;cases e
 have eJ:∀b o,H1 b≠none->s1.heap.get? b=some o->h'.get? b=some o:=λ b o hn e=>by
  refine F.1 b o (hB b o e (λ hb=>?_) (λ hb=>hn (hh b hb).1) (.inl hn));exact hn (J.My b hb)
 refine⟨ea,c,H1,rfl,J.os,J.bare,⟨λ b o e n hb hx=>?_,λ b o e n hb hx=>?_,U.free,λ b o e hx=>?_,U.L7,U.JZ,U.L8⟩,λ b ob e=>?_,⟨⟨a0,?_⟩,yh,qw,λ oe vs T h1 h2 h3=>?_⟩,q⟩
 ·refine F.1 b o (hB b o (U.keep b o e n hb hx) (λ z=>?_) (cI b o e) (.inr ⟨o,e⟩));rcases ZW b z with z|z
  ·exact li b o e z
  ·exact hb z
 ·obtain⟨sl,e1⟩:=U.slot b o e n hb hx;obtain⟨o2,e2,nf⟩:=jx b hb;rw[e1] at e2;obtain⟨dU,e3⟩:=eW b _ e1 (by cases e2;exact nf);exact⟨dU,e3⟩
 ·obtain⟨o',e1⟩:=U.there b o e hx;by_cases hb:b∈Ho outer
  ·obtain⟨o2,e2,nf⟩:=jx b hb;obtain⟨dU,e3⟩:=eW b _ e2 nf;exact⟨_,e3⟩
  ·refine⟨o',F.1 b o' (hB b o' e1 (λ z=>?_) (cI b o e) (.inr ⟨o,e⟩))⟩;rcases ZW b z with z|z
   ·exact li b o e z
   ·exact hb z
 ·refine (J.AE b ob e).MM (λ x v hx q=>eJ x v ?_ q) (λ _ q=>q) λ _ _ q=>q;rcases hx with rfl|hx
  ·rw[e];intro z;cases z
  ·rw[hx];intro z;cases z
 ·exact PySem.W.flyingW_base yg F
 ·obtain⟨_,_,ff,oe',dZ,T',oT,ts,k1,k2,k3,k4,k5,k6,k7,k8,k9⟩:=F;rw[show ({s1 with heap:=h' }:Shared).heap.get? ea=h'.get? ea from rfl,k1] at h1;cases h1;rw[k3] at h2;cases h2;rw[k4] at h3;cases h3;refine hT T k5 λ hb=>?_;rcases ZW T hb with z|z
  ·obtain⟨m,⟨oL,es,ep,ig,qx,_⟩,_⟩:=J.loc;obtain⟨sl,e3⟩:=eW s.heap.objs.size oL ig λ vs zz=>by rw[qx] at zz;cases zz
   rw[<-z,k7] at e3;cases e3;rw[show oL.data=_ from k8] at qx;cases qx
  ·obtain⟨o2,e2,nf⟩:=jx T z;obtain⟨sl,e3⟩:=eW T o2 e2 nf;rw[k7] at e3;cases e3;exact nf ts k8
theorem TJ {l:List Env}:∀env∈l,∀a,env.frame=some a->a∈Ho l:=λ env he a ha=>List.mem_filterMap.mpr ⟨env,he,ha⟩
theorem iA {pins:List (Addr×Obj)}{σ:St}{H1:Hp}{s2:Shared}{h1:Heap}{ea C:Addr}{vs:List Value}(J:Inv (US P w K mg base N qual scope f cd A outer s H E) pins σ H1 s2)(hx:Heap.MadeExcOf s2.heap h1 ea (.ref C) vs)(q:E (.ref C) none H1):
 (US P w K mg base N qual scope f cd A outer s H E).xe (.ref ea) {s2 with heap:=h1}:=by
 have J1:Inv (US P w K mg base N qual scope f cd A outer s H E) pins σ H1 {s2 with heap:=h1}:=J.kept (t':=s2.toks) hx.keeps;have fr:=J.stack;have eK:=TJ (l:=envOfC qual scope s.heap.objs.size f cd::outer);refine wpAny_leaves_madeW (base:=zcx s2.heap (Ho (envOfC qual scope s.heap.objs.size f cd::outer))) (outer:=outer) (L:=s.heap.objs.size) J.ok.frames rfl (λ b o e=>PySem.W.of_hideAll _ e) (PySem.W.funFrames_hide fr eK) hx λ h' t F ht hbt eW=>?_;have eL:∀b,s2.heap.get? b=none->H1 b=none/\s.heap.get? b=none:=λ b e=>by
  refine⟨J.AE.gone e,?_⟩;cases q:s.heap.get? b with
  |none=>rfl
  |some o=>obtain⟨o',z⟩:=J.base.there b o q (by simp[Mp]);rw[e] at z;cases z
 refine lJ (B:=zcx s2.heap (Ho (envOfC qual scope s.heap.objs.size f cd::outer))) (hid:=[]) J1 (λ b o e hb _ yi=>?_) (λ b o e=>?_) (λ b z=>by cases z) (λ b e hb=>?_) (eL ea hx.new).2 (eL ea hx.new).1 F eW q
 ·have ng:∃o2,s2.heap.get? b=some o2:=by
   rcases yi with z|⟨o',z⟩
   ·cases q2:H1 b with
    |none=>exact absurd q2 z
    |some u=>exact (J.AE b u q2).there
   ·exact J.base.there b o' z (by simp[Mp])
  obtain⟨o2,e2⟩:=ng;have e3:=hx.keeps b o2 e2;rw[show ({s2 with heap:=h1}:Shared).heap.get? b=h1.get? b from rfl,e3] at e;cases e;exact zbt _ e2 hb
 ·refine zbt _ (J.bk b o e) λ hb=>?_;have z:base.get? b=none:=(fr.mem hb).1;rw[show base.get? b=some o from e] at z;cases z
 ·refine eL b ?_;cases q2:s2.heap.get? b with
  |none=>rfl
  |some o=>rw[zbt _ q2 hb] at e;cases e
theorem iB:Hr (UR P w base) (US P w K mg base N qual scope f cd A outer s H E) E:=by
 intro pins σ H0 s0 ev s1 I h;obtain⟨ea,c,H1,rfl,gz,g7,U,AE,⟨⟨a0,F⟩,ck,i6,qy⟩,q⟩:=h;have J:Inv (US P w K mg base N qual scope f cd A outer s H E) pins σ H1 s1:=I.OS (ch:=[]) gz U AE g7 λ b hb=>by cases hb
 obtain⟨f1,f2,f3,oe,vs,T,oT,ts,k1,k2,k3,k4,k5,k6,k7,k8,k9⟩:=F;have hT:=qy oe vs T k1 k3 k4;have fr:=J.stack;have entry:∀b,s0.heap.get? b=none->s.heap.get? b=none:=λ b e=>by
  cases q:s.heap.get? b with
  |none=>rfl
  |some o=>obtain⟨o',z⟩:=I.base.there b o q (by simp[Mp]);rw[e] at z;cases z
 have eK:∀env∈(envOfC qual scope s.heap.objs.size f cd::outer),∀a,env.frame=some a->a∈Ho (envOfC qual scope s.heap.objs.size f cd::outer)++[ea,T]:=λ env he a ha=>zas _ (TJ env he a ha);have FB:Heap.FlyingW (zcx s1.heap (Ho (envOfC qual scope s.heap.objs.size f cd::outer)++[ea,T])) (envOfC qual scope s.heap.objs.size f cd::outer) ea (.ref c) a0 s1.heap:=
  ⟨λ b o e=>PySem.W.of_hideAll _ e,zdc _ (by simp),PySem.W.funFrames_hide fr eK,oe,vs,T,oT,ts,k1,k2,k3,k4,zdc _ (by simp),k6,k7,k8,k9⟩
 refine wpAny_leaves_onW (outer:=outer) (L:=s.heap.objs.size) J.ok.frames rfl FB λ h' F' eW=>?_;have lj:∀b,s1.heap.get? b=none->H1 b=none/\s.heap.get? b=none:=λ b e=>by
  refine⟨J.AE.gone e,?_⟩;cases q:s.heap.get? b with
  |none=>rfl
  |some o=>obtain⟨o',z⟩:=J.base.there b o q (by simp[Mp]);rw[e] at z;cases z
 have hid:∀b∈[ea,T],H1 b=none/\s.heap.get? b=none:=λ b hb=>by
  rcases za9.mp hb with z|z
  ·rw[z];exact⟨i6,entry ea ck⟩
  ·rw[zaj.mp z];exact⟨hT.1,entry T hT.2⟩
 refine lJ (hid:=[ea,T]) J (λ b o e hb ll _=>zbt _ e λ z=>(zar.mp z).elim hb ll) (λ b o e=>?_) hid (λ b e hb=>?_) (entry ea ck) i6 F' eW q
 ·refine zbt _ (J.bk b o e) λ hb=>?_;rcases zar.mp hb with hb|hb
  ·have z:base.get? b=none:=(fr.mem hb).1;rw[show base.get? b=some o from e] at z;cases z
  ·rcases za9.mp hb with z|z
   ·rw[z] at e;rw[show base.get? ea=some o from e] at f2;cases f2
   ·rw[zaj.mp z] at e;rw[show base.get? T=some o from e] at k5;cases k5
 ·by_cases ll:b∈[ea,T]
  ·exact hid b ll
  ·refine lj b ?_;cases q2:s1.heap.get? b with
   |none=>rfl
   |some o=>rw[zbt _ q2 λ z=>(zar.mp z).elim hb ll] at e;cases e
end
structure XCall (X:Cx)(E:XK):Prop where
 call:Hr (UR X.prog X.w X.base) X E
 own:PassesOwn (model X.prog X.w) X.A X.env X.xe
structure vK (X:Cx)(E:XK):Prop extends XCall X E where
 made:∀pins σ H s h' ea C vs,Inv X pins σ H s->Heap.MadeExcOf s.heap h' ea (.ref C) vs->E (.ref C) none H->X.xe (.ref ea) {s with heap:=h' }
theorem Ad {P:Program}{w:World}{K:za0}{mg:Str->Option Value}{base:Heap}{N:List Str}{qual:Str}{scope:Scope}{f:Addr}{cd:Value}{A:Around}{outer:List Env}{s:Shared}{H:Hp}{E:XK}:
 vK (US P w K mg base N qual scope f cd A outer s H E) E:=⟨⟨iB,PassesOwn.leaving⟩,λ _ _ _ _ _ _ _ _ J hx q=>iA J hx q⟩
theorem Cn {X:Cx}(h:X.xe=λ _ _=>False):vK X E0:=⟨⟨λ _ _ _ _ _ _ _ h=>by obtain⟨_,_,_,_,_,_,_,_,_,q⟩:=h;exact q.elim,by rw[h];exact PassesOwn.never⟩,λ _ _ _ _ _ _ _ _ _ _ q=>q.elim⟩
def Df (K:za0)(E:XK):Str->Hp->Prop:=λ x H=>∃c,za1 K mainGlobals x=some (some (.ref c))/\E (.ref c) none H
section
variable {X:Cx}{E:XK}{WX:Str->Hp->Prop}{c:Bool}{e:Expr}{es:List Expr}{fs:Aa->M (List D)}{f:Aa->M D}{ft:Aa->M Bool}{pos:Pos}
theorem iC {K:za0}{h₀:Heap}{C:Addr}{wn:List Value}{newId:String}(X:K.In h₀)(q:zcn K C wn newId=true):
 ∃bm N nm q bs hdct sn sub ab col dd k0 k1 k2 k3 k5 mN,h₀.get? C=some (excClassObj nm q C N bs bm hdct sn sub ab col dd k0 k1 k2 k3 k5 newId)/\h₀.Ns N mN/\mN "__init__" = none/\OwnTail h₀ wn bm:=by
 unfold zcn at q;split at q
 ·rename_i dd cd sl ho;split at q
  ·rename_i C' bm k0 k1 k2 k3 n k5 hm hs;simp only[zb1,beq_iff_eq,Bool.not_eq_true'] at q;obtain⟨⟨⟨⟨⟨rfl,rfl⟩,lm⟩,ht⟩,AE⟩,n4⟩:=q;obtain⟨nm,bs,mro,ns,qn,hd,sn,sub,ab,col,del⟩:=cd;dsimp only at hm lm AE n4;subst hm lm;have eW:sl=#[k0,k1,k2,k3,some (.builtin n),k5]:=by
    obtain⟨l⟩:=sl;simp only at hs;rw[hs]
   subst eW;exact⟨bm,ns,nm,qn,bs,hd,sn,sub,ab,col,dd,k0,k1,k2,k3,k5,_,X _ _ ho,.of_isNs (PySem.W.isNs_of_in X AE),PySem.W.nsMap_none_of_in X AE n4,PySem.W.tail_of_in X ht⟩
  ·cases q
 ·cases q
theorem Yp {x:Str}{np ar:Pos}{C:Addr}{B newId i7:String}{bm:List Value}(xo:vK X E)(hc:X.calm=true)(FB:ExcBaseFacts B newId i7 bm)(dJ:za1 X.K mainGlobals x=some (some (.ref C)))(hq:zcn X.K C bm newId=true)(hg:Gl X x)(hm:X.mg x=some (.ref C))
 (ha:DE X (Df X.K E) c e f) (cC:(x==("__debug__" : Str))=false:=by decide) (he:starEach [e] X.env=[(false,eval e X.env)]:=by rfl) (aZ:(backTo ar (starEach [e] X.env)).any (·.1)=false:=by rfl):
 DS X (Df X.K E) (.Raise (some (.Call (.Name x np) [e] [] ar)) none pos) (λ ρ=>(f ρ).bind λ _=>.ex x):=by
 obtain⟨ta,a1,a2⟩:=ha;refine⟨λ Z σ H=>ta σ H λ y H1=>(([y]:List V).length=1/\E (.ref C) none H1),?_,λ P0 P σ H Z ρ E h=>?_⟩
 ·intro pins s σ H D I h;obtain⟨tl,N,nm,q,bs,hdct,sn,sub,ab,col,dd,k0,k1,k2,k3,k5,mN,hC,hN,n4,T⟩:=iC I.mod.rB hq;refine wpAny_Raise_call_subT (C:=C) (nm:=nm) (q:=q) (N:=N) (bs:=bs) (bm:=tl) (hdct:=hdct) (sn:=sn) (sub:=sub) (ab:=ab) (col:=col) (dd:=dd) (k0:=k0) (k1:=k1) (k2:=k2) (k3:=k3) (k5:=k5)
   FB (mN:=mN) (T.hasType FB.hasBase) (I.ok.hd hc) aZ n4 (K1 I hg hm ⟨rfl,?_⟩ cC)
  rw[he];have pa:=(Bb a1 Cj he) ar pins s σ H (λ vs H1=>vs.length=1/\E (.ref C) none H1) I ?_
  ·rw[he] at pa;refine Calls.evalArgs_plain (BA pa λ vs s2 ⟨xs,H2,I2,r2,q2⟩=>⟨rfl,?_,I2.bk _ _ hC,hN.keeps I2.bk,T.keeps I2.bk,λ h' ea hx=>xo.made pins σ H2 s2 h' ea C _ I2 hx q2.2⟩);rw[<-r2.length,q2.1];exact zbl (AS (by decide))
  ·exact h
 ·dsimp only at h;refine a2 P0 P σ H _ ρ E ?_;cases q:f ρ with
  |bad=>rw[q] at h;exact h
  |ex x=>rw[q] at h;exact λ H' s=>h H' P (E.tr s)
  |ok d =>
   rw[q] at h;intro v H1 s1 hv;obtain⟨c',h1,h2⟩:=h H1 P (E.tr s1);rw[dJ] at h1;cases h1;exact⟨rfl,h2⟩
end
open PySem PySem.Spec PySem.Calls PyProof.Rows PySem.W PySem.Builtin PySem.Builtin.ObjectAttr PySem.Builtin.Getset_descriptor
noncomputable def Ng (K:Frag)(D:Addr):Bool:=
 (findIn K (.ref D) "__getattribute__" == some (some (.builtin "BaseException.__getattribute__")))&&(findIn K (.ref D) "__getattr__" == some none)&&(clsIn K D).isSome&&(findIn K (.ref D) "__class__" == some (some (.builtin "object.__class__")))&&(specialIn K (.builtin "object.__class__") "__get__" == some (some (.builtin "getset_descriptor.__get__")))&&(takesIn K (.builtin "object.__class__")==some true)&&(mroIn K D (.type "object")==some true)&&(mroIn K D (.type "BaseException")==some true)
section
variable {K:Frag}{x D:Addr}{name:Str}
theorem Yq {M:Model}{h:Heap}(p:Oz x D h):Looks M h (typeOf (.ref x)) (.ref D):=by
 obtain⟨o,h1,h2,_⟩:=p;exact h2▸(Looks.ld h1).andThen .now
theorem Yr {M:Model}{h:Heap}{a g:Value}(X:K.In h)(ha:findIn K (.ref D) name=some (some a))(hg:specialIn K a "__get__" = some (some g))(ht:takesIn K a=some true):
 Looks M h (find (.ref x) (.ref D) name) (.bind g a):=by
 have L1:=looks_findIn (M:=M) X ha;have L2:Looks M h (getOf (some a)) (some g):=looks_specialIn X hg;have L3:=looks_takesIn (M:=M) X ht;refine L1.andThen (L2.andThen ?_);have L4:Looks M h (dataDescriptor? (some a) (some g)) (some (g,a)):=L3.andThen .now;exact L4.andThen (Looks.tag .now)
variable {prog:Program}{w:World}{A:Around}{E:Value->Shared->Prop}{s:Shared}
theorem W7 {Q:Option Value->Shared->Prop}(hx:Ng K D=true)(X:K.In s.heap)(p:Oz x D s.heap)(h:Q (some (.ref D)) {s with toks:=s.toks+1}):wpAny (model prog w) A (getAttr? (.ref x) "__class__") Q E s:=by
 unfold Ng at hx;simp only[zb1,beq_iff_eq] at hx;obtain⟨⟨⟨⟨⟨⟨⟨g1,g2⟩,hc⟩,ha⟩,hn⟩,ht⟩,hm⟩,hb⟩:=hx;obtain⟨hh,gg,d,t,os⟩:=s;have T0:=Yq (M:=model prog w) p;have T1:=looks_findIn (M:=model prog w) X g1;have T2:=Yr (x:=x) (M:=model prog w) X ha hn ht;have T3:=looks_findIn (M:=model prog w) X g2;have T4:=looks_mroIn (M:=model prog w) X hm;have T5:=looks_mroIn (M:=model prog w) X hb;have FG:=PySem.F.attrBase_ValueError.ga;have f3:=FG.bind (.ref x);have aw:(Value.builtin "BaseException.__getattribute__" == Value.builtin "object.__getattribute__")=false:=by decide +kernel
 have bW:(onTheHeap (zbe D)&&Value.builtin "BaseException.__getattribute__" == Value.builtin "object.__getattribute__")=false:=by rw[aw];rfl
 have yj:(false&&onTheHeap (Value.builtin "BaseException.__getattribute__"))=false:=rfl;have hk:builtinKind "BaseException.__getattribute__" = some .slot:=by decide +kernel
 have i8:splitId "BaseException.__getattribute__" = some ("BaseException","__getattribute__"):=by decide +kernel
 unfold getAttr? getAttrBy?;refine wpAny_bind (wpAny_mkText (wpAny_bind (wpAny_attempt ?_)));unfold getAttrBy;refine wpAny_holding (wpAny_bind (T0.at (wpAny_bind (T1.at ?_))));dsimp only;rw[bW,if_neg zao];unfold getAttrByItsOwn hookBefore;rw[if_pos (show onTheHeap (zbe D)=true from rfl)];refine wpAny_bind (T3.at (wpAny_bind (wpAny_attempt (wpAny_holding ?_))));unfold callGetattribute;rw[yj,if_neg zao];repeat (any_goals (first|assumption|with_reducible refine Looks.at (by assumption) ?_|wp_step))
 refine codeAny_call_builtin FG.plain PySem.F.entry_bexc_ga ?_;have hav:=PySem.F.args_bexc_ga (.ref x) (.str "__class__" t);simp only[checkBuiltinCall,hk,i8];refine wpAny_bind ?_;unfold isInstance;refine wpAny_bind (T0.at (T5.at ?_));repeat (any_goals (first|assumption|with_reducible refine Looks.at (by assumption) ?_|wp_step))
 refine codeAny_call_builtin KF.slot_gs.plain KF.entry_gs (KF.slot_gs.check _ _ _ _ _ _ _ _ KF.type_class (KF.args_gs _ _ _) ?_);unfold Builtin.«getset_descriptor.__get__» descrGet;rw[dga_obj];refine wpAny_bind (wpAny_pure ?_);unfold descrGetter descrCheckInstance descrNameAndClass isInstance;simp only[KF.owner_class];repeat lk
 refine⟨Code.quiet_builtin _ (by decide +kernel),codeAny_builtin KF.entry_class ?_⟩;unfold Builtin.«object.__class__» shownTypeOf;repeat lk
 exact h
end
theorem Pj {K:Frag}{D:Addr}{h:Heap}(X:K.In h)(hc:(clsIn K D).isSome=true):∃c' d' n5 dU,h.get? D=some ⟨c',d',.cls n5,dU⟩:=by
 unfold clsIn at hc;split at hc
 ·rename_i c' d' n5 dU ho;exact⟨_,_,_,_,X _ _ ho⟩
 ·cases hc
theorem Pk {K:Frag}{D:Addr}{M:Model}{h:Heap}(X:K.In h)(hc:(clsIn K D).isSome=true):Looks M h (isType (.ref D)) true:=by
 obtain⟨c',d',n5,dU,ho⟩:=Pj X hc;intro A' Q' E' s' k q;unfold isType loadHead;refine wpAny_bind (wpAny_loadPart (k _ _ ho) ?_);exact wpAny_pure q
theorem Ys {K:Frag}{x D:Addr}(hx:Ng K D=true):KitX K (.ref x) (.ref D) (Oz x D) where
 ty:=λ _ _ _ p=>Yq p
 it:=λ _ _ X _=>by
  unfold Ng at hx;simp only[zb1,beq_iff_eq] at hx;exact Pk X hx.1.1.1.1.1.2
 ne:=λ h tp dd aa n sl X yk=>by
  unfold Ng at hx;simp only[zb1,beq_iff_eq] at hx;obtain⟨c',d',n5,dU,ho⟩:=Pj X hx.1.1.1.1.1.2;refine Bool.eq_false_iff.mpr λ q=>?_;obtain rfl:D=tp:=Value.ref.inj (beq_iff_eq.mp q);rw[yk] at ho;cases ho
 ca:=λ X p k=>W7 hx X p k
def tT (K:Frag)(cv:V)(tab:Str->Option Bool):List V->Hp->VK->Prop:=λ xs H Q=>∃a c x b,xs=[.ref a,cv]/\nsIn K mainGlobals x=some (some (.ref c))/\H a=some (.ext (Oz a c))/\tab x=some b/\Q (.bl b) H
section
variable {X:Cx}{WX:Str->Hp->Prop}{c:Bool}{e:Expr}{f:Aa->M D}{pos p:Pos}
def iD (K:Frag)(Cv:Value)(tab:Str->Option Bool):Prop:=∀x b c,tab x=some b->nsIn K mainGlobals x=some (some (.ref c))->kitOne K (.ref c) Cv=some b/\Ng K c=true
theorem RG {cv:V}{Cv:Value}{tab:Str->Option Bool}(hr:∀u,RelV cv u->u=Cv)(hk:iD X.K Cv tab):FI X (.builtin "isinstance") (tT X.K cv tab):=by
 intro pins s σ H xs us Q I r h;obtain⟨a,c,x,b,rfl,hn,ha,ht,q⟩:=h;obtain⟨u,w,rfl,rx,df⟩:=r.two;obtain rfl:=hr w df;cases rx;obtain⟨k1,k2⟩:=hk x b c ht hn;exact kia_one (Ys k2) I.Mx (I.AE a _ ha).1 k1 (λ z=>nomatch z) λ tk=>⟨.bl _,H,I.tok tk,rfl,q⟩
noncomputable def W8 (tab:Str->Option Bool)(d:D):M D:=match d with
 | .Ct x=>(match tab x with|some b=>.ok (.bl b)|none=>.bad)
 |_=>.bad
theorem lK {ta:TE}{tab:Str->Option Bool}{cv:V}{P0:E7}{P:Addr->Prop}{σ:St}{H:Hp}{ρ:Aa}{Q:VK}(ha:∀P0 P σ H Q ρ,Al X.K P0 P H σ ρ->gV X.K WX (Lv c P0 P) H Q (f ρ)->ta σ H Q)(E:Al X.K P0 P H σ ρ)(h:gV X.K WX (Lv c P0 P) H Q ((f ρ).bind (W8 tab))):
 vE (tT X.K cv tab) (UE ta (UE (tC cv) fS)) σ H Q:=by
 refine ha P0 P σ H _ ρ E ?_;cases q:f ρ with
 |bad|ex x=>rw[q] at h;exact h
 |ok d =>
  rw[q] at h;simp only[M.A8] at h;unfold W8 at h;split at h
  ·rename_i x;split at h
   ·rename_i b hb;intro v H1 s1 hv;cases hv with
    |Ct h1 h2=>exact⟨_,_,x,b,rfl,h1,CW _ _ h2,hb,h _ H1 s1 (.bl _)⟩
   ·exact h.elim
  ·exact h.elim
theorem iE {T:String}{x2:Str}{p2:Pos}{tab:Str->Option Bool}(hk:iD X.K (.type T) tab)(hg:Gl X "isinstance")(hm:X.mg "isinstance" = none)(dP:Gl X x2)(cm:X.mg x2=none)(iz:bootBuiltins x2=some (.type T))(ha:DE X WX c e f)
 (hb:bootBuiltins "isinstance" = some (.builtin "isinstance"):=by decide +kernel) (cf:x2 ≠ "__name__" := by decide) (cU:(x2==("__debug__" : Str))=false:=by decide) (hs:starEach [e,.Name x2 p2] X.env=(false,eval e X.env)::starEach [.Name x2 p2] X.env:=by rfl) (cw:starEach [.Name x2 p2] X.env=[(false,eval (.Name x2 p2) X.env)]:=by rfl)
 (bU:(backTo pos (starEach [.Name x2 p2] X.env)).any (·.1)=false:=by rfl):
 DE X WX c (.Call (.Name "isinstance" p) [e,.Name x2 p2] [] pos) (λ ρ=>(f ρ).bind (W8 tab)):=by
 obtain⟨ta,a1,a2⟩:=ha;exact⟨_,K4 (RG (cv:=.ty T) (λ u r=>by cases r;rfl) hk) hg hm hb (Bb a1 (Bb (UB (v:=.ty T) dP cm iz rfl cf cU) Cj cw) hs) (by decide) (by decide) hs bU,λ P0 P σ H Q ρ E h=>lK a2 E h⟩
theorem iF {C:Addr}{x2:Str}{p2:Pos}{tab:Str->Option Bool}(hk:iD X.K (.ref C) tab)(hg:Gl X "isinstance")(hm:X.mg "isinstance" = none)(dP:Gl X x2)(cm:X.mg x2=some (.ref C))(ha:DE X WX c e f)
 (hb:bootBuiltins "isinstance" = some (.builtin "isinstance"):=by decide +kernel) (cU:(x2==("__debug__" : Str))=false:=by decide) (hs:starEach [e,.Name x2 p2] X.env=(false,eval e X.env)::starEach [.Name x2 p2] X.env:=by rfl) (cw:starEach [.Name x2 p2] X.env=[(false,eval (.Name x2 p2) X.env)]:=by rfl)
 (bU:(backTo pos (starEach [.Name x2 p2] X.env)).any (·.1)=false:=by rfl):
 DE X WX c (.Call (.Name "isinstance" p) [e,.Name x2 p2] [] pos) (λ ρ=>(f ρ).bind (W8 tab)):=by
 obtain⟨ta,a1,a2⟩:=ha;exact⟨_,K4 (RG (cv:=.ref C) (λ u r=>by cases r;rfl) hk) hg hm hb (Bb a1 (Bb (fG (v:=.ref C) dP cm rfl cU) Cj cw) hs) (by decide) (by decide) hs bU,λ P0 P σ H Q ρ E h=>lK a2 E h⟩
end
noncomputable def Nh (K:Frag)(C D:Addr):Bool:=(instIn K (.ref C) (.type "tuple")==some false)&&(clsIn K C).isSome&&(mroIn K C (.type "BaseException")==some true)&&(mroIn K D (.ref C)==some true)
theorem W9 {K:Frag}{M:Model}{A:Around}{E:Value->Shared->Prop}{s:Shared}{C D e:Addr}{oe:Obj}{Q:Bool->Shared->Prop}(X:K.In s.heap)(he:s.heap.get? e=some oe)(ef:oe.cls=.ref D)(hc:Nh K C D=true)(h:Q true s):wpAny M A (excMatches (.ref e) (.ref C)) Q E s:=by
 unfold Nh at hc;simp only[zb1,beq_iff_eq] at hc;obtain⟨⟨⟨h1,h2⟩,h3⟩,h4⟩:=hc;have L1:=looks_instIn (M:=M) X h1;have L2:=Pk (M:=M) X h2;have L3:=looks_mroIn (M:=M) X h3;have L4:=looks_mroIn (M:=M) X h4;have L5:Looks M s.heap (typeOf (.ref e)) (.ref D):=ef▸(Looks.ld he).andThen .now;have L6:Looks M s.heap (isExcClass (.ref C)) true:=by
  unfold isExcClass;exact L2.andThen L3
 obtain⟨hp,g,d,t,os⟩:=s;unfold excMatches;repeat (first|lk|wp_step)
 exact h
section
variable {X:Cx}{pins d9:List (Addr×Obj)}{σ:St}{H0 H1 H:Hp}{s s0 s1:Shared}{h4:Heap}{ea T c:Addr}
theorem iG (I:Inv X pins σ H0 s0)(gz:s1.os=s0.os)(g7:AllBare s1.gens)(U:Un (Ho X.stack) [] H0 H1 s0.heap s1.heap)(AE:FH X.prog X.w H1 s1.heap)(hid:∀b∈[ea,T],H1 b=none/\s0.heap.get? b=none)
 (k:(zcx s1.heap (Ho X.stack++[ea,T])).StaysIn h4) (sl:s1.heap.UpToSlots h4):Un (Ho X.stack) [] H0 H1 s0.heap h4/\FH X.prog X.w H1 h4:=by
 have J:Inv X pins σ H1 s1:=I.OS (ch:=[]) gz U AE g7 λ b hb=>by cases hb
 have jx:∀b∈Ho X.stack,∃o,s1.heap.get? b=some o/\∀vs,o.data≠.fields vs:=λ b hb=>(J.stack.mem hb).2;have cI:∀b o,s0.heap.get? b=some o->b∉[ea,T]:=λ b o e hb=>by rw[(hid b hb).2] at e;cases e
 refine⟨⟨λ b o e n hb hx=>?_,λ b o e n hb hx=>?_,U.free,λ b o e hx=>?_,U.L7,U.JZ,U.L8⟩,λ b ob e=>?_⟩
 ·exact k b o (zbt _ (U.keep b o e n hb hx) λ z=>(zar.mp z).elim hb (cI b o e))
 ·obtain⟨jy,e1⟩:=U.slot b o e n hb hx;obtain⟨o2,e2,nf⟩:=jx b hb;rw[e1] at e2;obtain⟨dU,e3⟩:=sl b _ e1 (by cases e2;exact nf);exact⟨dU,e3⟩
 ·obtain⟨o',e1⟩:=U.there b o e hx;by_cases hb:b∈Ho X.stack
  ·obtain⟨o2,e2,nf⟩:=jx b hb;obtain⟨dU,e3⟩:=sl b _ e2 nf;exact⟨_,e3⟩
  ·exact⟨o',k b o' (zbt _ e1 λ z=>(zar.mp z).elim hb (cI b o e))⟩
 ·have eJ:∀b o,H1 b≠none->s1.heap.get? b=some o->h4.get? b=some o:=λ b o hn e=>by
   refine k b o (zbt _ e λ z=>?_);rcases zar.mp z with z|z
   ·exact hn (J.My b z)
   ·exact hn (hid b z).1
  refine (AE b ob e).MM (λ x v hx q=>eJ x v ?_ q) (λ _ q=>q) λ _ _ q=>q;rcases hx with rfl|hx
  ·rw[e];intro z;cases z
  ·rw[hx];intro z;cases z
theorem Yt {fs:List Addr}{h h':Heap}{o:HO}(U:Un fs [] H0 H1 h h')(hn:H0 ea=none)(hh:h.get? ea=none):Un fs [] H0 (upd H1 ea o) h h':=by
 refine⟨U.keep,U.slot,λ b o' e n hx=>?_,U.there,λ b xs e=>?_,λ b o' u e=>?_,λ b ps e=>?_⟩
 ·rw[Aq λ z=>by rw[z,hh] at e;cases e];exact U.free b o' e n hx
 ·rw[Aq (AB e hn)];exact U.L7 b xs e
 ·rw[Aq (AB e hn)];exact U.JZ b o' u e
 ·rw[Aq (AB e hn)];exact U.L8 b ps e
theorem Cx.Ok.re (ok:X.Ok)(xe:Value->Shared->Prop)(pn:List (Addr×Obj)):({X with xe:=xe,pn:=pn}:Cx).Ok:=
 ⟨ok.mod,ok.kind,ok.glob,ok.blt,ok.above,ok.inj,ok.has,ok.mP,ok.hd,ok.frames,ok.ZW,ok.rC,ok.bs,ok.XC,ok.T9,ok.Ta,ok.J6,ok.fE⟩
noncomputable abbrev Cx.Xu (X:Cx)(e:Value):Cx:={X with A:=X.A.mark (some e),calm:=false,xe:=λ _ _=>False}
theorem Cx.Ok.Xu (ok:X.Ok)(e:Value):(X.Xu e).Ok:=
 ⟨ok.mod,ok.kind,ok.glob,ok.blt,ok.above,ok.inj,ok.has,ok.mP,(λ z=>by cases z),ok.frames,ok.ZW,ok.rC,ok.bs,ok.XC,ok.T9,ok.Ta,ok.J6,ok.fE⟩
theorem Inv.Xu (I:Inv X pins σ H s)(e:Value):Inv (X.Xu e) pins σ H s:=⟨I.ok.Xu e,I.os,I.bare,I.base,I.loc,I.cell,I.free,I.DD,I.pin,I.AE,I.len⟩
theorem Inv.iH {e:Value}(J:Inv (X.Xu e) pins σ H s)(ok:X.Ok):Inv X pins σ H s:=⟨ok,J.os,J.bare,J.base,J.loc,J.cell,J.free,J.DD,J.pin,J.AE,J.len⟩
theorem name_goes {M:Model}{A:Around}{E:Value->Shared->Prop}{i:Nat}{x:Str}{pos:Pos}{Q:Unit->Shared->Prop}(I:Inv X pins σ H s)(hN:X.N.Nodup)(hi:X.N[i]?=some x)(hk:X.env.scope.names.lookup x=some .local)
 (h:∀s',Inv X pins (σ.set i none) H s'->Q () s'):wpAny M A (do bindName X.env x .none;unbindBehindTheSuite X.env x pos) Q E s:=by
 obtain⟨m,hn,hl⟩:=id I.loc;have ef:(X.env.scope.kind==.class||(X.env.scope.kind==.module&&X.env.locals != X.env.globals))=false:=by rw[I.ok.kind];rfl
 have old:∀b o,X.s₀.heap.get? b=some o->b≠X.env.locals:=λ b o e=>zaz (zaq (zak e) I.ok.above);refine wpAny_nameGoes_keeps hk hn ef λ h' v dW hs=>?_;refine h _ ⟨I.ok,I.os,I.bare,⟨λ b o e n hb hx=>(hs.2 b (old b o e)).trans (I.base.keep b o e n hb hx),λ b o e n hb hx=>?_,I.base.free,λ b o e hx=>?_,I.base.L7,I.base.JZ,I.base.L8⟩,⟨_,dW,λ j y v' e1 e2 e3=>?_⟩,λ y c e=>?_,I.free,I.DD,λ p hp=>?_,λ b ob e=>?_,by simpa using I.len⟩
 ·obtain⟨sl,e1⟩:=I.base.slot b o e n hb hx;exact⟨sl,(hs.2 b (old b o e)).trans e1⟩
 ·obtain⟨o',e1⟩:=I.base.there b o e hx;exact⟨o',(hs.2 b (old b o e)).trans e1⟩
 ·have hj:i≠j:=λ z=>by
   subst z;rcases get_set e2 with ⟨_,_,z⟩|⟨z,_⟩
   ·cases z
   ·exact z rfl
  rw[zb3 hj] at e2;obtain⟨u,r,l⟩:=hl j y v' e1 e2 e3;refine⟨u,r,?_⟩;rcases l with ⟨l1,l2⟩|⟨k,c,e,o,z,d⟩
  ·have hy:y≠x:=λ z=>by
    subst z;exact hj ((List.getElem?_inj (zan.mp hi).1 hN).mp (hi.trans e1.symm))
   exact .inl ⟨l1,by show (if y=x then v else m y)=some u;rw[if_neg hy];exact l2⟩
  ·exact .inr ⟨k,c,e,o,(hs.2 c (I.fF y c e)).trans z,d⟩
 ·obtain⟨v,o,z,d⟩:=I.cell y c e;exact⟨v,o,(hs.2 c (I.fF y c e)).trans z,d⟩
 ·obtain⟨e,n,ne,nf,d⟩:=I.pin p hp;exact⟨(hs.2 p.1 ne).trans e,n,ne,nf,d⟩
 ·refine (I.AE b ob e).MM (λ c w' hc q=>(hs.2 c ?_).trans q) (λ _ q=>q) λ _ _ q=>q;rintro rfl;rcases hc with rfl|hc
  ·rw[I.free] at e;cases e
  ·rw[I.free] at hc;cases hc
theorem Al.drop {K:za0}{P0:E7}{P:Addr->Prop}{ρ:Aa}(E:Al K P0 P H σ ρ)(i:Nat):Al K P0 P H (σ.set i none) (ρ.set i none):=by
 have key:∀(j:Nat) (cl:Cl),(ρ.set i none)[j]?=some (some cl)->i≠j/\ρ[j]?=some (some cl):=λ j cl h=>by
  rcases get_set h with ⟨_,_,z⟩|z
  ·cases z
  ·exact z
 refine⟨E.sub,E.Ci,λ j d h=>?_,λ j ds h io=>?_,λ j k c c' v v' fp aO h1 h2 h3 h4 h5 h6 au=>?_,by simpa using E.len,λ j c n h hp=>by obtain⟨n1,h⟩:=key j _ h;rw[zb3 n1];exact E.pin j c n h hp⟩
 ·obtain⟨n,h⟩:=key j _ h;rw[zb3 n];exact E.val j d h
 ·obtain⟨n,h⟩:=key j _ h;rw[zb3 n];exact E.ows j ds h io
 ·obtain⟨n1,h1⟩:=key j _ h1;obtain⟨n2,h2⟩:=key k _ h2;rw[zb3 n1] at h3;rw[zb3 n2] at h4;exact E.apart j k c c' v v' fp aO h1 h2 h3 h4 h5 h6 au
theorem Al.blank {K:za0}{P0:E7}{n:Nat}(ht:∀a,P0 a->E6 H a):Al K P0 P0 H (zai n none) (zai n none):=by
 have key:∀ {α:Type} (j:Nat) (cl:α),(zai n (none:Option α))[j]?=some (some cl)->False:=λ j cl h=>by
  rw[zci] at h;split at h<;>cases h
 exact⟨λ _ h=>h,ht,λ j d h=>(key j _ h).elim,λ j d h _=>(key j _ h).elim,λ j k c c' v v' fp aO h1=>(key j _ h1).elim,by simp,λ j c n h1=>(key j _ h1).elim⟩
noncomputable def lL (i:Nat)(m:M Out):M Out:=match m with
 | .ok (.next ρ)=>.ok (.next (ρ.set i none))
 | .ok (.ret d)=>.ok (.ret d)
 | .ok (.Cm d)=>.ok (.Cm d)
 | .ok (.EK _ _)=>.bad
 | .ok (.brk ρ)=>.ok (.brk (ρ.set i none))
 | .ok (.cont ρ)=>.ok (.cont (ρ.set i none))
 | .ex _| .bad=>.bad
noncomputable def Ni (n i:Nat)(J9:Str->Bool)(gb gs:Aa->M Out)(ρ:Aa):M Out:=match gb ρ with
 | .ok o=>.ok o
 | .ex x=>if J9 x=true then lL i (gs ((zai n none).set i (some (.val (.Ct x))))) else .bad
 | .bad=>.bad
theorem oV {WX:Str->Hp->Prop}{C:Str}{CA:Addr}{n:Str}{body cR:List Stmt}{b0:Stmt}{gb gs:Aa->M Out}{J9:Str->Bool}{cp eM pos:Pos}(i:Nat)(cu:X.stack=X.env::X.outer)(jz:X.env.frame=some X.env.locals)(hN:X.N.Nodup)(hi:X.N[i]?=some n)(hx:X.env.scope.names.lookup n=some .local)
 (hg:Gl X C) (hm:X.mg C=some (.ref CA)) (lp:∀x,J9 x=true->∃c,za1 X.K mainGlobals x=some (some (.ref c))/\Nh X.K CA c=true)
 (hb:∀(xe:Value->Shared->Prop) (pn:List (Addr×Obj)) (E:XK),XCall {X with xe:=xe,pn:=pn} E->Pg {X with xe:=xe,pn:=pn} (Df X.K E) body gb)
 (hs:∀ea:Addr,Pg (X.Xu (.ref ea)) (λ _ _=>False) (b0::cR) gs) (cC:(C==("__debug__" : Str))=false:=by decide):
 DS X WX (.Try body [.ExceptHandler (some (.Name C cp)) (some n) (b0::cR) eM] [] [] pos) (Ni X.N.length i J9 gb gs):=by
 refine⟨λ Z σ H=>∃P0 P ρ,Al X.K P0 P H σ ρ/\gS X.K WX P0 P H Z (Ni X.N.length i J9 gb gs ρ),?_,λ P0 P σ H Z ρ E h=>⟨P0,P,ρ,E,h⟩⟩;intro pins s σ H Z I ⟨P0,P,ρ,Ev,h⟩;refine wpAny_Try_except ?_;let xe:Value->Shared->Prop:=λ e s₁=>wpAny (model X.prog X.w) X.A (noteFrame e X.env) (λ _ s₂=>wpAny (model X.prog X.w) X.A (setFlight e none) (λ _ s₃=>wpAny (model X.prog X.w) X.A (handleBy e X.env [.ExceptHandler (some (.Name C cp)) (some n) (b0::cR) eM]) (SP X pins Z) X.xe s₃) X.xe s₂) X.xe s₁;let Et:XK:=λ cv _ H1=>∃c x,cv=.ref c/\za1 X.K mainGlobals x=some (some (.ref c))/\gb ρ=.ex x/\Tr P0 P H P0 H1;have xc:XCall {X with xe:=xe,pn:=X.pn++pins} Et:=by
  refine⟨λ d9 σ' H0 s0 ev s1 I0 yl=>?_,PassesOwn.looking⟩;obtain⟨ea,c,H1,rfl,gz,g7,U,AE,⟨⟨a0,F⟩,ck,i6,qy⟩,c',x,jt,dJ,wo,i9⟩:=yl;cases jt;have lq:Inv X pins σ' H0 s0:=⟨I.ok,I0.os,I0.bare,I0.base,I0.loc,I0.cell,I0.free,I0.DD,λ p hp=>I0.pin p (zas _ hp),I0.AE,I0.len⟩;have J:Inv X pins σ' H1 s1:=lq.OS (ch:=[]) gz U AE g7 λ b hb=>by cases hb
  obtain⟨f1,f2,f3,oe,vs,T,oT,ts,k1,k2,k3,k4,k5,k6,k7,k8,k9⟩:=F;have hT:=qy oe vs T k1 k3 k4;have hid:∀b∈[ea,T],H1 b=none/\s0.heap.get? b=none:=λ b hb=>by
   rcases za9.mp hb with z|z
   ·rw[z];exact⟨i6,ck⟩
   ·rw[zaj.mp z];exact hT
  have eK:∀env∈X.stack,∀a,env.frame=some a->a∈Ho X.stack++[ea,T]:=λ env he a ha=>zas _ (TJ env he a ha);have FB:Heap.FlyingW (zcx s1.heap (Ho X.stack++[ea,T])) X.stack ea (.ref c) a0 s1.heap:=
   ⟨λ b o e=>PySem.W.of_hideAll _ e,zdc _ (by simp),PySem.W.funFrames_hide J.stack eK,oe,vs,T,oT,ts,k1,k2,k3,k4,zdc _ (by simp),k6,k7,k8,k9⟩
  obtain⟨cc,lr,qz⟩:∃c,za1 X.K mainGlobals x=some (some (.ref c))/\Nh X.K CA c=true:=by
   unfold Ni at h;rw[wo] at h;dsimp only at h;by_cases ha:J9 x=true
   ·exact lp x ha
   ·rw[if_neg ha] at h;exact h.elim
  rw[dJ] at lr;cases lr;have land:∀h4:Heap,Heap.FlyingW (zcx s1.heap (Ho X.stack++[ea,T])) X.stack ea (.ref c) a0 h4->s1.heap.UpToSlots h4->Un (Ho X.stack) [] H0 H1 s0.heap h4/\FH X.prog X.w H1 h4:=λ h4 F4 q9=>iG lq gz g7 U AE hid F4.1 q9;show xe (.ref ea) s1;refine wpAny_looks_onW (outer:=X.outer) (L:=X.env.locals) (I.ok.frames.trans (by rw[cu])) jz (cu▸FB) λ h2 Hd fm=>?_;refine wpAny_landsW Hd λ h3 F3 rb=>?_;have F3:Heap.FlyingW (zcx s1.heap (Ho X.stack++[ea,T])) X.stack ea (.ref c) a0 h3:=cu▸F3;have ls:s1.heap.UpToSlots h3:=fm.trans rb;obtain⟨U3,ym⟩:=land h3 F3 ls;have J3:Inv X pins σ' H1 {s1 with heap:=h3}:=lq.OS (s':={s1 with heap:=h3}) (ch:=[]) gz U3 ym g7 λ b hb=>by cases hb
  refine wpAny_handleBy_cons (codeAny_handlers_test ?_) (by intro q;cases q);refine K1 (X:=X.Xu (.ref ea)) (J3.Xu _) hg hm ?_ cC;obtain⟨oe3,vs3,yn,yo,e33,_⟩:=F3.first;refine W9 J3.Mx yn yo qz ?_;show codeAny _ _ _ _ _;refine codeAny_handlers_suite_as ?_;refine lands_againW F3 λ h4 F4 q9=>?_;obtain⟨U4,yp⟩:=land h4 F4 (ls.trans q9);obtain⟨wp,vs4,wq,yq,yr,_⟩:=F4.first;have ja:H0 ea=none:=lq.AE.gone ck;have ad:FH X.prog X.w (upd H1 ea (.ext (Oz ea c))) h4:=yp.adopt i6 ⟨⟨wp,wq,yq,by unfold PySem.W.notCls;rw[yr]⟩,⟨wp,wq⟩,λ ha ll ⟨o,q1,q2,q3⟩ k=>⟨o,k o q1,q2,q3⟩⟩;have J4:Inv X pins σ' (upd H1 ea (.ext (Oz ea c))) {s1 with heap:=h4}:=lq.OS (s':={s1 with heap:=h4}) (ch:=[]) gz (Yt U4 ja ck) ad g7 λ b hb=>by cases hb
  have Jw:Inv X pins (zai X.N.length none) (upd H1 ea (.ext (Oz ea c))) {s1 with heap:=h4}:=J4.weak (by simp[J4.len]) λ j v e=>by
   rw[zci] at e;split at e<;>cases e
  refine MN (X:=X.Xu (.ref ea)) (v:=.ref ea) (Jw.Xu _) hN hi (.inl hx) rfl (λ s5 J5=>?_) (.inr hx);obtain⟨tsu,u1,u2⟩:=hs ea;have Ci:∀a,P0 a->E6 H1 a:=λ a ha=>by
   obtain⟨o,q,r⟩:=Ev.Ci a (Ev.sub a ha);exact⟨o,(i9.2 a ha).trans q,r⟩
  have rc:∀a,P0 a->a≠ea:=λ a ha z=>by
   obtain⟨o,q,_⟩:=Ci a ha;rw[z,i6] at q;cases q
  have t5:Tr P0 P H P0 (upd H1 ea (.ext (Oz ea c))):=⟨i9.1.trans (B7 i6 _).del,λ a ha=>by rw[Aq (rc a ha)];exact i9.2 a ha⟩;have E5:Al X.K P0 P0 (upd H1 ea (.ext (Oz ea c))) ((zai X.N.length none).set i (some (.ref ea))) ((zai X.N.length none).set i (some (.val (.Ct x)))):=by
   refine Al.RD (Al.blank λ a ha=>?_) (.Ct dJ ?_)
   ·unfold E6;rw[Aq (rc a ha)];exact Ci a ha
   ·rw[AQ λ z=>rc ea z rfl];exact AU
  let Z':Ends:={nx:=λ σ' H'=>Z.nx (σ'.set i none) H',rt:=Z.rt,bk:=λ σ' H'=>Z.bk (σ'.set i none) H',ct:=λ σ' H'=>Z.ct (σ'.set i none) H' };refine wpAny_mono (u1 pins s5 _ _ Z' J5 (u2 P0 P0 _ _ Z' _ E5 ?_)) (λ f s6 hf=>?_) λ _ _ z=>z.elim
  ·unfold Ni at h;rw[wo] at h;dsimp only at h;by_cases ha:J9 x=true
   ·rw[if_pos ha] at h;have g:=gS.tr h t5;unfold lL at g;cases q:gs ((zai X.N.length none).set i (some (.val (.Ct x)))) with
    |bad=>rw[q] at g;exact g
    |ex y=>rw[q] at g;exact g.elim
    |ok o =>
     rw[q] at g;cases o with
     |ret d|Cm d=>exact g
     |EK d ρ=>exact g.elim
     |next r|brk r|cont r=>exact λ σ2 H2 P2 t2 e2=>g _ H2 P2 t2 (e2.drop i)
   ·rw[if_neg ha] at h;exact h.elim
  ·show wpAny _ _ _ _ _ _;cases f with
   |next|brk|cont=>obtain⟨σ2,H2,J,q⟩:=hf;exact name_goes (J.iH I.ok) hN hi hx λ s7 J7=>⟨_,H2,J7,q⟩
   |ret u=>obtain⟨v,σ2,H2,J,r,q⟩:=hf;exact name_goes (J.iH I.ok) hN hi hx λ s7 J7=>⟨v,_,H2,J7,r,q⟩
 have Ib:Inv {X with xe:=xe,pn:=X.pn++pins} [] σ H s:=⟨I.ok.re _ _,I.os,I.bare,I.base,I.loc,I.cell,I.free,I.DD,λ p hp=>I.pin p (by simpa using hp),I.AE,I.len⟩;obtain⟨tb,b1,b2⟩:=hb xe (X.pn++pins) Et xc;have back:∀ {σ2:St} {H2:Hp} {s2:Shared},Inv {X with xe:=xe,pn:=X.pn++pins} [] σ2 H2 s2->Inv X pins σ2 H2 s2:=λ J=>⟨I.ok,J.os,J.bare,J.base,J.loc,J.cell,J.free,J.DD,λ p hp=>J.pin p (by simpa using hp),J.AE,J.len⟩;refine wpAny_mono (b1 [] s σ H Z Ib (b2 P0 P σ H Z ρ Ev ?_)) (λ f s2 hf=>?_) λ _ _ z=>z
 ·unfold Ni at h;cases q:gb ρ with
  |bad=>rw[q] at h;exact h
  |ok o=>rw[q] at h;cases o<;>exact h
  |ex x =>
   rw[q] at h;dsimp only at h;by_cases ha:J9 x=true
   ·intro H' P' t;obtain⟨c,dJ,_⟩:=lp x ha;refine⟨c,dJ,c,x,rfl,dJ,q,⟨λ b o e=>?_,t.2⟩⟩;obtain⟨e1,e2⟩:=Ax e;rw[AQ λ z=>e1 (Ev.sub b z)];exact CW _ _ (t.1 b o e)
   ·rw[if_neg ha] at h;exact h.elim
 ·cases f with
  |next=>obtain⟨σ2,H2,J,q⟩:=hf;exact wpAny_execs_nil ⟨σ2,H2,back J,q⟩
  |brk|cont=>obtain⟨σ2,H2,J,q⟩:=hf;exact⟨σ2,H2,back J,q⟩
  |ret u=>obtain⟨v,σ2,H2,J,r,q⟩:=hf;exact⟨v,σ2,H2,back J,r,q⟩
end
section
variable {X:Cx}{WX:Str->Hp->Prop}{c:Bool}{a b e:Expr}{f g:Aa->M D}{pos p:Pos}
noncomputable def lM (K:za0):R2:=λ x y H Q=>∃l b xs zs,x=.ref l/\y=.ref b/\DL K H l xs/\DL K H b zs/\xs.length+zs.length<=sizeLine/\∀p,H p=none->Q (.ref p) (upd H p (.lst (xs++zs)))
theorem iI:Hm X (binaryOp .Add) (lM X.K):=by
 intro pins s σ H x y v u Q I rx ry h;obtain⟨l,b,xs,zs,rfl,rfl,h1,h2,hz,q⟩:=h;cases rx;cases ry;obtain⟨aa,r,⟨⟨c1,d1,t1,jy⟩,n,e1,q1,q2,q3⟩,yt⟩:=I.list h1;obtain⟨cN,r2,⟨⟨c2,d2,t2,fm⟩,n2,e2,q4,q5,q6⟩,hz2⟩:=I.list h2;dsimp only at q1 q2 q3 q4 q5 q6;subst q1 q2 q3 q4 q5 q6;have l1:=r.length;have l2:=r2.length;refine concat_meets ⟨_,e1,rfl⟩ ⟨_,e2,rfl⟩ noFill_list_add seq_list_add PySem.F.slot_list_add PySem.F.entry_list_add (PySem.F.args_list_add_2 _ _) (list_addW l b aa.toArray cN.toArray n n2 none none jy fm (by rw[zaa,zaa];omega)) ⟨e1,e2,?_⟩;rw[show aa.toArray++cN.toArray=(aa++cN).toArray by simp];exact⟨.ref _,_,I.oC (t':=s.toks) (r.append r2) (by rw[zah];omega),rfl,q _ I.fresh⟩
noncomputable def xZ (x y:D):M D:=match x,y with
 | .int i,.int j=>.ok (.int (i+j))
 | .lst ds,.lst es=>if ds.length+es.length<=1000 then .ok (.lst (ds++es)) else .bad
 |_,_=>.bad
theorem Aj.tU {K:za0}{H:Hp}:∀ {xs ys:List V}{ds es:List D},Aj K H xs ds->Aj K H ys es->Aj K H (xs++ys) (ds++es)
 |_,_,_,_,.nil,h=>h
 |_,_,_,_,.cons a t,h=>.cons a (t.tU h)
noncomputable def vL (neg:Bool)(x y:D):M D:=match x,y with
 | .int i,.lst ds=>(match Cw ds with|some ns=>.ok (.bl (if neg then !ns.contains i else ns.contains i))|none=>.bad)
 |_,_=>.bad
theorem Yu (i:Int)(ns:List Int):vF (.int i) (ns.map V.int)=ns.contains i:=by
 unfold vF;induction ns with
 |nil=>rfl
 |cons n r ih =>
  rw[za8,zdd,ih,List.contains_cons];congr 1;show (n==i)=(i==n);rw[zd3,beq_iff_eq,beq_iff_eq];exact eq_comm
theorem Wa (ns:List Int):(ns.map V.int).all K5=true:=by
 induction ns with
 |nil=>rfl
 |cons n r ih=>rw[za8,List.all_cons,ih];rfl
theorem HC {neg:Bool}:TB X.K WX (vG X.K neg) (vL neg):=by
 intro P H x y v w Q ht hx hy h;unfold vL at h;split at h
 ·rename_i i ds;split at h
  ·rename_i ns hn;cases hx;cases hy with
   |lst h1 h2 =>
    have e:=Lo h2 hn;subst e;refine⟨_,_,rfl,.inl h1.Bs,rfl,Wa ns,?_⟩;rw[Yu];exact h _ H (Ag.refl H) (.bl _)
  ·exact h.elim
 ·exact h.elim
end
structure ClsAt (K:za0)(mg:Str->Option Value)(x:Str):Prop where
 ex:∃C,za1 K mainGlobals x=some (some (.ref C))/\mg x=some (.ref C)/\zcn K C [.type "ValueError",.type "Exception",.type "BaseException",.type "object"] "ValueError.__new__" = true
theorem AH {K:za0}{D:Addr}(h1:za6 K (.ref D) "__getattribute__" = some (some (.builtin "BaseException.__getattribute__")))(h0:za6 K (.ref D) "__getattr__" = some none)(h2:zbf K D=true)(h3:za6 K (.ref D) "__class__" = some (some (.builtin "object.__class__")))
 (h4:zcu K (.builtin "object.__class__") "__get__" = some (some (.builtin "getset_descriptor.__get__"))) (h5:zd8 K (.builtin "object.__class__")=some true) (h6:zb5 K D (.type "object")=some true) (h7:zb5 K D (.type "BaseException")=some true):Ng K D=true:=by
 unfold Ng;obtain⟨cd,hc,_⟩:=PySem.W.any_some h2;rw[h1,h0,hc,h3,h4,h5,h6,h7];rfl
theorem Nj {K:za0}{C D:Addr}(h1:PySem.W.instIn K (.ref C) (.type "tuple")=some false)(h2:zbf K C=true)(h3:zb5 K C (.type "BaseException")=some true)(h4:zb5 K D (.ref C)=some true):Nh K C D=true:=by
 unfold Nh;obtain⟨cd,hc,_⟩:=PySem.W.any_some h2;rw[h1,hc,h3,h4];rfl
noncomputable def one (x:Str)(b:Bool):Str->Option Bool:=λ y=>if y=x then some b else none
section
variable {X:Cx}{E:XK}{WX:Str->Hp->Prop}{c:Bool}{e:Expr}{f:Aa->M D}{pos p:Pos}
theorem Lp {x:Str}{np ar:Pos}(T:ClsAt X.K X.mg x)(xo:vK X E)(hc:X.calm=true)(hg:Gl X x)(ha:DE X (Df X.K E) c e f)(cC:(x==("__debug__" : Str))=false:=by decide)(he:starEach [e] X.env=[(false,eval e X.env)]:=by rfl)(aZ:(backTo ar (starEach [e] X.env)).any (·.1)=false:=by rfl):
 DS X (Df X.K E) (.Raise (some (.Call (.Name x np) [e] [] ar)) none pos) (λ ρ=>(f ρ).bind λ _=>.ex x):=by
 obtain⟨C,h1,h2,h3⟩:=T.ex;exact Yp xo hc PySem.F.excBase_ValueError h1 h3 hg h2 ha cC he aZ
end
def RH (i j:Int):Prop:=(i.natAbs<2^1000/\j.natAbs<2^1000)\/XN i j
instance (i j:Int):Decidable (RH i j):=by unfold RH;infer_instance
theorem Pm {i:Int}(h:i.natAbs<2^1000):zbr i<=2^20:=by
 unfold zbr;split
 ·exact zb9 _
 ·rename_i z;have h0:i.natAbs≠0:=λ q=>z (by rw[Int.natAbs_eq_zero.mp q];rfl);have:=(Nat.log2_lt h0).mpr h;have h3:(1000:Nat)<=2^20:=by decide
  exact zbw this h3
theorem RH.ok {i j:Int}(h:RH i j):IntMulOk i j:=by
 rcases h with ⟨h1,h2⟩|h
 ·exact IntMulOk.of_bits (Pm h1) (Pm h2)
 ·exact h.ok
theorem Kg {gt:D->Aa->M Aa}{ft:Aa->M Bool}{fe:Aa->M D}{ρ:Aa}(p:D->Bool)(f:D->D):∀(ds:List D),(∀d∈ds,∃ρ1,gt d ρ=.ok ρ1/\ft ρ1=.ok (p d)/\(p d=true->fe ρ1=.ok (f d)))->Bt gt ft fe ds ρ=.ok ((ds.filter p).map f)
 |[],_=>rfl
 |d::r,h=>by
  obtain⟨ρ1,h1,h2,h3⟩:=h d za3;have ih:=Kg p f r λ d hd=>h d (za4 _ hd);rw[Bt,h1];dsimp only;rw[h2];dsimp only;by_cases hp:p d=true
  ·rw[if_pos hp,h3 hp];dsimp only;rw[ih,List.filter_cons_of_pos hp];rfl
  ·rw[if_neg hp,ih,List.filter_cons_of_neg hp]
theorem EL (n:Nat):C7 0 n=(zav n).map λ i:Nat=>D.int (i:Int):=by
 apply List.ext_getElem?;intro i;rw[zat];by_cases h:i<n
 ·have hi:i<(C7 0 n).length:=by rw[Dl];exact h
  have e:=zaf hi;obtain⟨h1,_⟩:=GA e;rw[e,h1,List.getElem?_range h,Int.zero_add];rfl
 ·rw[zca (by rw[Dl];omega),zca (by simp;omega)];rfl
theorem Ej (ns:List Int):Cw (ns.map D.int)=some ns:=by
 induction ns with
 |nil=>rfl
 |cons n r ih=>rw[za8,Cw,ih];rfl
theorem Yv (ds:List D)(n:Nat):lI (some (n:Int)) none (.lst ds)=.ok (.lst (ds.drop n)):=by
 unfold lI;dsimp only;rw[HT.Rm,HT.Mz];congr 2;by_cases h:n<=ds.length
 ·rw[Nat.min_eq_left h,zc4 (by rw[zcp];exact zal _)]
 ·rw[Nat.min_eq_right (by omega),List.drop_of_length_le (zal _),List.drop_of_length_le (by omega),List.take_nil]
def Pl (n:Nat)(d:D):Prop:=Js d<=n/\AR d=true
theorem Qu {n:Nat}:∀ {ds:List D},(∀d∈ds,Js d<=n)->Lh ds<=n
 |[],_=>by rw[Lh];exact zb9 _
 |d::r,h=>by
  rw[Lh];exact Nat.max_le.mpr ⟨h d za3,Qu λ d hd=>h d (za4 _ hd)⟩
theorem Qv:∀ {ds:List D},(∀d∈ds,AR d=true)->N2 ds=true
 |[],_=>by rw[N2]
 |d::r,h=>by
  rw[N2,h d za3,Qv λ d hd=>h d (za4 _ hd)];rfl
theorem GB {n:Nat}(i:Int):Pl n (.int i):=⟨by rw[Js];exact zb9 _;all_goals simp,by rw[AR];all_goals simp⟩
theorem oW {n:Nat}:Pl n .AK:=⟨by rw[Js];exact zb9 _;all_goals simp,by rw[AR];all_goals simp⟩
theorem Yw {n:Nat}{ds:List D}(h:∀d∈ds,Pl n d):Pl (n+1) (.tup ds):=
 ⟨by rw[Js];exact Nat.succ_le_succ (Qu λ d hd=>(h d hd).1),by rw[AR];exact Qv λ d hd=>(h d hd).2⟩
theorem Yx {n:Nat}{ds:List D}(h:∀d∈ds,Pl n d):Pl (n+1) (.lst ds):=
 ⟨by rw[Js];exact Nat.succ_le_succ (Qu λ d hd=>(h d hd).1),by rw[AR];exact Qv λ d hd=>(h d hd).2⟩
theorem UT {n:Nat}(ns:List Int):Pl (n+1) (.lst (ns.map D.int)):=Yx λ d hd=>by
 obtain⟨i,_,rfl⟩:=zay.mp hd;exact GB i
theorem Yy {n:Nat}:∀d∈([]:List D),Pl n d:=λ d h=>by cases h
theorem MC {n:Nat}{d:D}{ds:List D}(h:Pl n d)(t:∀d∈ds,Pl n d):∀e∈d::ds,Pl n e:=λ e he=>by
 rcases za9.mp he with rfl|he
 ·exact h
 ·exact t e he
theorem Qw {n:Nat}{x y:D}(h:Pl n x)(k:Pl n y):ZZ n x y=.ok (.bl (AA x y)):=by
 unfold ZZ;rw[if_pos ⟨h.1,h.2,k.2⟩]
theorem TL {n:Nat}{x y:D}(h:Pl n x)(k:Pl n y):Xs n x y=.ok (.bl (!AA x y)):=by
 unfold Xs;rw[if_pos ⟨h.1,h.2,k.2⟩]
theorem Nk {n:Nat}{x:D}(h:Pl n x):Xs n x x=.ok (.bl false):=by rw[TL h h,Ht];rfl
theorem Pn {gt:D->Aa->M Aa}{ft:Aa->M Bool}{fe:Aa->M D}{ρ:Aa}(f:D->D)(ds:List D)(h:∀d∈ds,∃ρ1,gt d ρ=.ok ρ1/\ft ρ1=.ok true/\fe ρ1=.ok (f d)):Bt gt ft fe ds ρ=.ok (ds.map f):=by
 rw[Kg (λ _=>true) f ds λ d hd=>by
  obtain⟨ρ1,h1,h2,h3⟩:=h d hd;exact⟨ρ1,h1,h2,λ _=>h3⟩]
 rw[List.filter_eq_self.mpr λ _ _=>rfl]
theorem iJ (ds:List D)(a b:Nat):lI (some (a:Int)) (some (b:Int)) (.lst ds)=.ok (.lst ((ds.drop a).take (b-a))):=by
 unfold lI;dsimp only;rw[HT.Mz,HT.Mz];congr 2;by_cases h:a<=ds.length
 ·rw[Nat.min_eq_left h];by_cases h2:b<=ds.length
  ·rw[Nat.min_eq_left h2]
  ·rw[Nat.min_eq_right (by omega),zc4 (by rw[zcp];exact zal _),zc4 (by rw[zcp];omega)]
 ·rw[Nat.min_eq_right (show ds.length<=a by omega),List.drop_of_length_le (zal _),List.drop_of_length_le (show ds.length<=a by omega),List.take_nil,List.take_nil]
section
variable {X:Cx}{WX:Str->Hp->Prop}{c:Bool}{P0:E7}{P:Addr->Prop}{H:Hp}{σ:St}{ρ:Aa}{a b e:Expr}{f g:Aa->M D}{ft gt:Aa->M Bool}{pos:Pos}{st:Stmt}{rest:List Stmt}{g1 g2:Aa->M Out}
theorem RI {K:za0}{H:Hp}{v:V}{d:D}(h:BZ K H v d):∀n:Nat,Aj K H (zai n v) (zai n d)
 |0=>.nil
 |n+1=>by rw[zbv,zbv];exact .cons h (RI h n)
theorem RJ {K:za0}{H:Hp}{v:V}{d:D}(h:BZ K H v d):∀ {vs:List V}{ds:List D}(n:Nat),Aj K H vs ds->Aj K H (vs.set n v) (ds.set n d)
 |_,_,_,.nil=>.nil
 |_,_,0,.cons _ t=>.cons h t
 |_,_,n+1,.cons a t=>.cons a (RJ h n t)
noncomputable def yW (i:Nat)(ρ:Aa)(d k:D):M Out:=match k with
 | .int j=>if 0<=j/\j.toNat<=1000 then .ok (.next (ρ.set i (some (.own (zai j.toNat d))))) else .bad
 |_=>.bad
theorem Po {α:Type}(v:α):∀n:Nat,(zai n [v]).flatten=zai n v
 |0=>rfl
 |n+1=>by rw[zbv,zd1,Po v n];rfl
noncomputable def oX (i:Nat)(ρ:Aa)(ds:List D)(d k:D):M Out:=match k with
 | .int j=>(match ZY ds.length j with|some n=>.ok (.next (ρ.set i (some (.own (ds.set n d)))))|none=>.bad)
 |_=>.bad
noncomputable def iK (i:Nat)(ρ:Aa)(m:M D)(d:D):M Out:=match ρ[i]? with
 |some (some (.own ds))=>m.bind (oX i ρ ds d)
 |_=>.bad
theorem Yz (i:Nat){x:Str}{p1 cz:Pos}(hv:PE X (.Name x p1) (Rg i))(ha:DE X WX true a f)(hk:DE X WX true b g)
 (hs:swapsWithSole [.Subscript (.Name x p1) b cz] a pos.line X.env=pure false:=by rfl) (hw:swappedStores [.Subscript (.Name x p1) b cz] a X.env=pure none:=by rfl) (h1:(assignEach [.Subscript (.Name x p1) b cz] X.env).map (·.2)=[assign (.Subscript (.Name x p1) b cz) X.env]:=by rfl)
 (rf:∀v,assign (.Subscript (.Name x p1) b cz) X.env v=(do
  let ov <-holding [v] (eval (.Name x p1) X.env);let iv <-holding [v,ov] (eval b X.env)
  standAt cz
  holding [v,ov,iv] (setItem ov iv v)
  release [v,ov,iv] []):=by intro _;rfl):
 DS X WX (.Assign [.Subscript (.Name x p1) b cz] a pos) (λ ρ=>(f ρ).bind (iK i ρ (g ρ))):=by
 obtain⟨ta,a1,a2⟩:=ha;obtain⟨tb,b1,b2⟩:=hk;refine⟨_,XI a1 (nF hv b1 set_list rf) hs hw h1,λ P0 P σ H Z ρ E h=>?_⟩;dsimp only at h;refine a2 P0 P σ H _ ρ E ?_;cases q:f ρ with
 |bad=>rw[q] at h;exact h
 |ex x=>rw[q] at h;exact λ H' s=>h H' P (E.tr s)
 |ok d =>
  rw[q] at h;simp only[M.A8] at h;intro v H1 s1 hv;have E1:=E.same s1;unfold iK at h;split at h
  ·rename_i ds e1;obtain⟨p,xs,h1,h2,h3,h4,h5⟩:=E1.own i ds e1;refine⟨_,h1,b2 P0 P σ H1 _ ρ E1 ?_⟩;cases q2:g ρ with
   |bad=>rw[q2] at h;exact h.elim
   |ex x=>rw[q2] at h;exact λ H' s2=>h H' P ((E.tr s1).trans (E1.tr s2))
   |ok k =>
    rw[q2] at h;simp only[M.A8] at h;unfold oX at h;intro w H2 s2 hw;split at h
    ·rename_i j;cases hw;split at h
     ·rename_i n en;have E2:=E1.same s2;refine⟨p,xs,j,n,rfl,rfl,s2 _ _ h2,by rw[h5.length];exact en,?_⟩;obtain⟨E3,t3⟩:=E2.mut e1 h1 h3 h4 (RJ (hv.mono s2.del) n (h5.mono s2.del));exact h _ _ _ ((E.tr s1).trans ((E1.tr s2).trans t3)) E3
     ·exact h.elim
    ·exact h.elim
  ·exact h.elim
noncomputable def AF (c:Aa->M Bool)(b:Aa->M Out):Nat->Aa->M Out
 |0,_=>.bad
 |n+1,ρ=>match c ρ with
  | .ok true=>(match b ρ with
   | .ok (.next ρ')| .ok (.cont ρ')=>AF c b n ρ'
   | .ok (.brk ρ')=>.ok (.next ρ')
   |r=>r)
  | .ok false=>.ok (.next ρ)
  | .ex x=>.ex x
  | .bad=>.bad
noncomputable def Ma (c:Aa->M Bool)(b:Aa->M Out)(ρ:Aa):M Out:=
 @dite _ (∃n,AF c b n ρ≠.bad) (zbc _) (λ h=>AF c b (zab h) ρ) (λ _=>.bad)
theorem CN {c:Aa->M Bool}{b:Aa->M Out}:∀ {n:Nat}{ρ:Aa},AF c b n ρ≠.bad->∀m,AF c b (n+m) ρ=AF c b n ρ
 |0,ρ,h,m=>(h rfl).elim
 |n+1,ρ,h,m=>by
  rw[show n+1+m=(n+m)+1 by omega];rw[AF] at h;rw[AF,AF];cases q:c ρ with
  |bad|ex x=>rfl
  |ok k =>
   rw[q] at h;cases k with
   |false=>rfl
   |true =>
    dsimp only at h ⊢;cases q2:b ρ with
    |bad|ex x=>rfl
    |ok o =>
     rw[q2] at h;cases o with
     |next ρ'=>dsimp only at h ⊢;exact CN h m
     |cont ρ'=>dsimp only at h ⊢;exact CN h m
     |brk ρ'=>rfl
     |ret d|Cm d|EK d ρ2=>rfl
theorem YA {c:Aa->M Bool}{b:Aa->M Out}{n:Nat}{ρ:Aa}(h:AF c b n ρ≠.bad):Ma c b ρ=AF c b n ρ:=by
 unfold Ma;have hx:∃n,AF c b n ρ≠.bad:=⟨n,h⟩;rw[dif_pos hx];have hc:=za2 hx;have e1:=CN h (zab hx);have e2:=CN hc n;rw[Nat.add_comm] at e2;rw[<-e1,e2]
theorem Wb {c:Aa->M Bool}{b:Aa->M Out}{ρ:Aa}(h:Ma c b ρ≠.bad):∃n,AF c b n ρ≠.bad/\Ma c b ρ=AF c b n ρ:=by
 by_cases hx:∃n,AF c b n ρ≠.bad
 ·obtain⟨n,hn⟩:=hx;exact⟨n,hn,YA hn⟩
 ·exact (h (by unfold Ma;rw[dif_neg hx])).elim
theorem tV {K:za0}{Z:Ends}{m:M Out}(h:gS K WX P0 P H Z m):m≠.bad:=λ e=>by rw[e] at h;exact h
theorem Nl {body:List Stmt}(hp:PassesOwn (model X.prog X.w) X.A X.env X.xe)(hc:DT X WX a ft)(hb:Pg X WX body g1):DS X WX (.While a body [] pos) (Ma ft g1):=by
 obtain⟨tc,c1,c2⟩:=hc;obtain⟨tb,b1,b2⟩:=hb;refine⟨_,XJ hp c1 b1,λ P0 P σ H Z ρ E h=>?_⟩;obtain⟨n,hn,en⟩:=Wb (tV h);rw[en] at h;refine⟨λ m σ' H'=>∃ρ' P',Al X.K P0 P' H' σ' ρ'/\Tr P0 P H P' H'/\gS X.K WX P0 P' H' Z (AF ft g1 m ρ'),⟨n,ρ,P,E,Tr.refl,h⟩,?_⟩;rintro m σ1 H1 ⟨ρ1,P1,E1,t1,h1⟩;cases m with
 |zero=>exact h1.elim
 |succ m =>
  rw[AF] at h1;refine c2 P0 P1 σ1 H1 _ ρ1 E1 ?_;cases q:ft ρ1 with
  |bad=>rw[q] at h1;exact h1
  |ex x=>rw[q] at h1;exact λ H2 s2=>h1 H2 P1 (E1.tr s2)
  |ok k =>
   rw[q] at h1;intro H2 s2;have E2:=E1.same s2;cases k with
   |false =>
    rw[if_neg (by simp)];exact h1 σ1 H2 P1 (E1.tr s2) E2
   |true =>
    rw[if_pos rfl];dsimp only at h1;refine⟨λ σ' H'=>∃ρ' P',Al X.K P0 P' H' σ' ρ'/\Tr P0 P H P' H'/\gS X.K WX P0 P' H' Z (AF ft g1 m ρ'),λ σ' H' z=>⟨m,Nat.lt_succ_self m,z⟩,?_⟩;refine b2 P0 P1 σ1 H2 _ ρ1 E2 ?_;cases q2:g1 ρ1 with
    |bad=>rw[q2] at h1;exact h1
    |ex x=>rw[q2] at h1;exact λ H3 P3 t3=>h1 H3 P3 ((E1.tr s2).trans t3)
    |ok o =>
     rw[q2] at h1;have t2:=t1.trans (E1.tr s2);cases o with
     |next ρ'=>exact λ σ3 H3 P3 t3 E3=>⟨ρ',P3,E3,t2.trans t3,h1.tr ((E1.tr s2).trans t3)⟩
     |cont ρ'=>exact λ σ3 H3 P3 t3 E3=>⟨ρ',P3,E3,t2.trans t3,h1.tr ((E1.tr s2).trans t3)⟩
     |brk ρ'=>exact λ σ3 H3 P3 t3 E3=>h1 σ3 H3 P3 ((E1.tr s2).trans t3) E3
     |ret d=>exact λ v H3 P3 t3 hv=>h1 v H3 P3 ((E1.tr s2).trans t3) hv
     |Cm d=>exact λ v fp H3 P3 t3=>h1 v fp H3 P3 ((E1.tr s2).trans t3)
     |EK d ρ2=>exact λ v fp σ3 H3 P3 t3=>h1 v fp σ3 H3 P3 ((E1.tr s2).trans t3)
noncomputable def RK (ds:List D):M D:=match ds with
 |[.int i]=>.ok (.int i)
 |[.bl b]=>.ok (.int (if b then 1 else 0))
 |_=>.bad
theorem iL:Kb X.K WX (λ xs H Q=>(∃i,xs=[.int i]/\Q (.int i) H)\/∃k,xs=[.bl k]/\Q (.int (if k then 1 else 0)) H) RK:=by
 intro P H ds vs Q ht hl h;unfold RK at h;split at h
 ·obtain⟨v,rfl,hv⟩:=hl.one;cases hv;exact .inl ⟨_,rfl,h _ H (Ag.refl H) (.int _)⟩
 ·obtain⟨v,rfl,hv⟩:=hl.one;cases hv;exact .inr ⟨_,rfl,h _ H (Ag.refl H) (.int _)⟩
 ·exact h.elim
theorem iM {p:Pos}(hg:Gl X "int")(hm:X.mg "int" = none)(ha:DE X WX c e f)(hb:bootBuiltins "int" = some (.type "int"):=by decide +kernel)(hs:starEach [e] X.env=[(false,eval e X.env)]:=by rfl):DE X WX c (.Call (.Name "int" p) [e] [] pos) (λ ρ=>((f ρ).bind λ d=>(M.ok []).bind λ ds=>.ok (d::ds)).bind RK):=
 Pe VP iL hg hm hb (A1 ha A4 hs) (he:=hs)
noncomputable def HD:List D->Option (List Bool)
 |[]=>some []
 | .bl b::r=>(HD r).map (b::·)
 |_=>none
theorem Nm (bs:List Bool):HD (bs.map D.bl)=some bs:=by
 induction bs with
 |nil=>rfl
 |cons b r ih=>rw[za8,HD,ih];rfl
theorem Nn:∀ {ds:List D}{bs:List Bool},HD ds=some bs->ds=bs.map D.bl
 |[],bs,h=>by cases h;rfl
 | .bl b::r,bs,h=>by
  rw[HD] at h;cases q:HD r with
  |none=>rw[q] at h;cases h
  |some yu=>rw[q] at h;cases h;rw[Nn q];rfl
 | .AK::r,bs,h| .int _::r,bs,h| .str _::r,bs,h| .tup _::r,bs,h| .lst _::r,bs,h| .Ct _::r,bs,h| .Bl _ _ _::r,bs,h| .ins _ _ _::r,bs,h=>by cases h
theorem Np {K:za0}{H:Hp}:∀ {vs:List V}{bs:List Bool},Aj K H vs (bs.map D.bl)->vs=bs.map V.bl
 |_,[],.nil=>rfl
 |_,b::r,.cons h t=>by cases h;rw[Np t];rfl
theorem Nq:∀ {bs:List Bool}{us:List Value},Vals (bs.map V.bl) us->LSm.BoolsAre us bs
 |[],_,.nil=>.nil
 |b::r,_,.cons h t=>by cases h;exact .cons b (Nq t)
theorem Nr (hc:X.calm=true):FI X (.builtin "all") (λ xs H Q=>∃p bs,xs=[.ref p]/\DL X.K H p (List.map V.bl bs)/\Q (.bl (bs.all id)) H):=by
 intro pins s σ H xs us Q I r h;obtain⟨p,bs,rfl,hq,q⟩:=h;obtain⟨u,rfl,rx⟩:=vals1 r;cases rx;obtain⟨aa,r',pl,hz⟩:=I.list hq;have hl:=pl.isList;have hb:=Nq r';have be:p<s.heap.objs.size:=by obtain⟨_,e,_⟩:=hl;exact zak e
 refine call_all_walk (wpAny_pyIter_list hl ?_);refine⟨s.heap.objs.size,[s.heap.objs.size,p],[s.heap.objs.size],aa.toArray.size,_,_,λ i=>(bs[i]?).getD true,rfl,Walks.list (A:=X.A.in1) (I.ok.hd hc) _ p (zaz be) aa.toArray,
  ⟨⟨_,zau _ rfl,rfl,rfl⟩,hl.push _⟩,λ i v s' Q' E' hP hQ=>?_,λ h' tk hk=>?_⟩
 ·obtain⟨b,e,rfl⟩:=hb.get i v (by simpa using hP);simp only[e,Option.getD_some] at hQ;exact wpAny_truthy_bool hQ
 ·have e:((zav aa.toArray.size).all λ i=>(bs[i]?).getD true)=bs.all id:=by
   rw[zaa,hb.length];exact LSm.range_all bs
  rw[e];exact⟨.bl _,H,I.kept (t':=tk) (LSm.kept_iter hk),rfl,q⟩
noncomputable def YB (ds:List D):M D:=match ds with
 |[.lst xs]=>(match HD xs with|some bs=>.ok (.bl (bs.all id))|none=>.bad)
 |_=>.bad
theorem oY:Kb X.K WX (λ xs H Q=>∃p bs,xs=[.ref p]/\DL X.K H p (List.map V.bl bs)/\Q (.bl (bs.all id)) H) YB:=by
 intro P H ds vs Q ht hl h;unfold YB at h;split at h
 ·rename_i xs;obtain⟨v,rfl,hv⟩:=hl.one;split at h
  ·rename_i bs eb;have:=Nn eb;subst this;cases hv with
   |lst hs hh =>
    have:=Np hh;subst this;exact⟨_,bs,rfl,hs.Bs,h _ H (Ag.refl H) (.bl _)⟩
  ·exact h.elim
 ·exact h.elim
theorem YC {p:Pos}(hc:X.calm=true)(hg:Gl X "all")(hm:X.mg "all" = none)(ha:DE X WX c e f)(hb:bootBuiltins "all" = some (.builtin "all"):=by decide +kernel)(hs:starEach [e] X.env=[(false,eval e X.env)]:=by rfl):DE X WX c (.Call (.Name "all" p) [e] [] pos) (λ ρ=>((f ρ).bind λ d=>(M.ok []).bind λ ds=>.ok (d::ds)).bind YB):=
 Kc (Nr hc) oY hg hm hb (A1 ha A4 hs) (he:=hs)
end
def Sm (n:Int):Prop:=zbr n<=2^20
theorem YD:∀ {ns:List Int},W.WData.weightAll (ns.map W.WData.int)<=2^20->∀n∈ns,Sm n
 |m::r,h,n,hn=>by
  rw[za8,W.WData.weightAll,W.WData.weight] at h;rcases za9.mp hn with rfl|hn
  ·unfold Sm zbr;omega
  ·exact YD (by omega) n hn
theorem tW {ns:List Int}(h:W.WData.layableAll [W.WData.list (ns.map W.WData.int)]=true):∀n∈ns,Sm n:=by
 unfold W.WData.layableAll at h;rw[List.all_cons,zb1] at h;have h1:=h.1;unfold W.WData.layable at h1;rw[zb1,decide_eq_true_eq,W.WData.weight] at h1;exact YD h1.2
end L2
namespace HT
open PySem PySem.W PyProof.Rows Spec Calls wg
theorem Pp {l:OpenLaw}{n:Nat}{q:Program}{loose:List Str}{XP:(Str->Option Value)->Heap->Prop}{YP:World->Heap->Prop}{d:DefRec}
 (hn:l.most=some n) (jb:d.params.defaults=[])
 (run:∀(w:World) (s₀ s₁:Shared) (mg mb:Str->Option Value) (fa:Addr) (o:Obj) (pm cd doc:Value) (a:Addr) (vs:List Value) (ns:List Int),(∀n∈ns,L2.Sm n)->
  Ground q loose [] XP w s₀ mg mb s₁.heap->YP w s₁.heap->s₁.heap.get? fa=some o->o.data=.func (docDef d.name d.params d.body d.scope pm cd doc)->s₁.heap.CodeRec cd d.name->mg d.name=some (.ref fa)->
  s₁.heap.get? a=some {cls:=.type "list",data:=.seq vs.toArray}->IntsAre vs ns->ns.length<=n->s₁.gens=#[]->
  codeAny (model l.prog w) callerA (.call (.ref fa) ⟨[.ref a],[]⟩) (λ r s'=>r=.ok (.ret (.bool true))/\OldK s₁.heap s'.heap/\s'.os=s₁.os/\AllBare s'.gens) s₁):
 WalkO q loose XP YP l.row.toRowW d [] (λ f vs=>PySem.call f vs):=by
 intro w s₀ s₁ mg mb G Y fa o pm cd doc dV kV ho hd de hD jc hg args vals as f6 rh eX ni hlo;obtain rfl:dV=.none:=Dflts.none hD jb;obtain rfl:kV=.none:=Dflts.noKw hD;obtain⟨a,vs,ns,rfl,rfl,eN,dh,hlen⟩:=VW hn f6 ni;refine enter_call (codeAny_mono (run w s₀ s₁ mg mb fa o pm cd doc a vs ns (L2.tW rh) G Y ho (fd_plain hd) de jc eN dh hlen hg) λ r s' hq=>?_);obtain⟨rfl,h2,h3,h4⟩:=hq;exact⟨.inl ⟨.bool true,.bool true,[],rfl,λ _=>rfl,.bool true,VX l _,λ _=>⟨List.Pairwise.nil,λ _ hm=>(nomatch hm)⟩⟩,h2,h3,h4⟩
end HT
namespace L2
open PySem PySem.Spec PyProof.Rows
theorem vM {l:PySem.W.OpenLaw}{n k:Nat}{q:Program}{loose:List Str}{XP:(Str->Option Value)->Heap->Prop}{YP:World->Heap->Prop}{d:DefRec}{K:Params->za0}{CX:World->UG}{sp:World->Sp}{x:Str}
 (hn:l.most=some n) (cf:n<=sizeLine) (jb:d.params.defaults=[]) (hr:BW k callerA) (hY:∀(w:World) (h:Heap),YP w h->(K w.params).In h)
 (F:∀(w:World) (mg:Str->Option Value) (fa:Addr) (h:Heap),(K w.params).In h->h.Ns mainGlobals mg->mg d.name=some (.ref fa)->∃fd:FuncData,(∀(s:Shared) (u:Value),BindsTo s fd ⟨[u],[]⟩ [(x,u)])/\
  ∀base:Heap,(K w.params).In base->base.Ns mainGlobals mg->E8 l.prog w (K w.params) mg base (CX w) k fa fd [x] (sp w))
 (dI:∀(w:World) (H:Hp) (a:Addr) (ns:List Int),(∀n∈ns,Sm n)->ns.length<=n->gE H->DL (K w.params) H a (ns.map V.int)->sp w [.ref a] H (λ v _=>v=.bl true) λ _ _ _=>False)
 (ko:∀(w:World) (H:Hp) (s:Shared) (e:Value) (s':Shared),CX w [] H s (λ _ _ _=>False) e s'->False):PySem.W.WalkO q loose XP YP l.row.toRowW d [] (λ f vs=>PySem.call f vs):=by
 refine HT.Pp hn jb λ w s₀ s₁ mg mb fa o pm cd doc a vs ns g8 G Y ho hd de jc eN dh hlen hg=>?_;have KX:=hY w _ Y;obtain⟨fd,hb,hF⟩:=F w mg fa _ KX G.T.g jc;exact Rq KX G.T.g G.T.b G.T.builtins G.T.nolimit hg eN dh (zbw hlen cf) hr hF hb (λ H hO hS=>dI w H a ns g8 hlen hO hS) λ H e s'=>ko w H s₁ e s'
theorem iN {F:List D->M D}(h:∀ns:List Int,ns.length<=63->(∀n∈ns,Sm n)->F [.lst (ns.map D.int)]=.ok (.bl true))(K:za0)(H:Hp)(a:Addr)(ns:List Int)(g8:∀n∈ns,Sm n)(hl:ns.length<=63)(hS:DL K H a (ns.map V.int)):TH K 1 F [.ref a] H (λ v _=>v=.bl true) λ _ _ _=>False:=by
 refine⟨rfl,λ _=>False,[.lst (ns.map D.int)],λ _ z=>z.elim,.cons (.lst ?_ (Aj.ints ns)) .nil,?_⟩
 ·have e:del H (λ _=>False)=H:=by funext b;exact AQ (λ z=>z)
  rw[e];exact hS
 ·rw[h ns hl g8];exact λ v H' s hv=>hv.N5
def Pq (i j:Int):Prop:=(zbr i<=2^20+1/\zbr j<=2^10)\/RH i j
theorem Wc {a b:Int}(h:zbr a+zbr b<=2^21):IntMulOk a b:=by
 have e:(2:Nat)^21=2097152:=by decide
 have h2:Builtin.Int.intTooBig (zbr a+zbr b)=false:=by
  unfold Builtin.Int.intTooBig bitsLine;exact decide_eq_false (by omega)
 unfold IntMulOk;rw[h2];simp
theorem Pq.ok {i j:Int}(h:Pq i j):IntMulOk i j:=by
 rcases h with ⟨h1,h2⟩|h
 ·exact Wc (by omega)
 ·exact h.ok
theorem iO {X:Cx}:Hm X (binaryOp .Mult) (rI Pq λ i j=>.int (i*j)):=vD λ _ _ _ _ _ _ _ hc q=>mul_int q hc.ok
noncomputable instance (i j:Int):Decidable (Pq i j):=zbc _
noncomputable def Nt:=Bx λ i j=>if Pq i j then .ok (.int (i*j)) else .bad
theorem Kh {i j:Int}(h:Pq i j):Nt (.int i) (.int j)=.ok (.int (i*j)):=by
 unfold Nt Bx;dsimp only;rw[if_pos h]
theorem MD {X:Cx}{WX:Str->Hp->Prop}{c:Bool}{a b:Expr}{f g:Aa->M D}{pos:Pos}(ha:DE X WX c a f)(hb:DE X WX c b g):DE X WX c (.BinOp a .Mult b pos) (λ ρ=>(f ρ).bind λ x=>(g ρ).bind λ y=>Nt x y):=Pc iO (Qn λ _ _ _ _=>.int _) ha hb
mutual
noncomputable def Lq:D->Bool
 | .tup a=>Ki a
 | .lst _| .Ct _| .Bl _ _ _| .ins _ _ _=>false
 |_=>true
noncomputable def Ki:List D->Bool
 |[]=>true
 |a::r=>Lq a&&Ki r
end
theorem UU {H:Hp}{P0 P:Addr->Prop}{a:Addr}{xs:List V}(ht:∀a,P a->E6 H a)(h:del H P0 a=some (.tup xs)):del H P a=some (.tup xs):=by
 obtain⟨h1,h2⟩:=Ax h;rw[AQ λ z=>by
  obtain⟨o',q,r⟩:=ht a z;rw[h2] at q;cases q;exact (r xs).1 rfl]
 exact h2
mutual
theorem BZ.Lq {K:za0}{H:Hp}{P0 P:Addr->Prop}(ht:∀a,P a->E6 H a):∀ {v:V}{d:D},Lq d=true->BZ K (del H P0) v d->BZ K (del H P) v d
 |_,_,_,.AK=>.AK
 |_,_,_,.bl b=>.bl b
 |_,_,_,.int i=>.int i
 |_,_,_,.str x=>.str x
 |_,_,n,.tup h r=>.tup (UU ht h) (Aj.Lq ht (by rw[L2.Lq] at n;exact n) r)
 |_,_,n,.lst h r|_,_,n,.Ct h r|_,_,n,.JU h r|_,_,n,.Jr h r|_,_,n,.ins _ h r=>by rw[L2.Lq] at n;cases n
theorem Aj.Lq {K:za0}{H:Hp}{P0 P:Addr->Prop}(ht:∀a,P a->E6 H a):∀ {vs:List V}{ds:List D},Ki ds=true->Aj K (del H P0) vs ds->Aj K (del H P) vs ds
 |_,_,_,.nil=>.nil
 |_,_,n,.cons h t=>by
  rw[Ki,zb1] at n;exact .cons (BZ.Lq ht n.1 h) (Aj.Lq ht n.2 t)
end
noncomputable def dp (m:M D):M D:=m.bind λ d=>if Lq d=true then .ok d else .bad
section
variable {α:Type}(lt:α->α->Prop)
def Ol:List α->List α->Prop
 |y::ys,x::xs=>(lt y x/\ys.length=xs.length)\/(y=x/\Ol ys xs)
 |_,_=>False
theorem Ol.len:∀ {ys xs:List α},Ol lt ys xs->ys.length=xs.length
 |y::ys,x::xs,h=>by
  rcases h with ⟨_,h⟩|⟨_,h⟩
  ·rw[zad,zad,h]
  ·rw[zad,zad,Ol.len h]
 |[],[],h|[],_::_,h|_::_,[],h=>h.elim
theorem YE (n:Nat)(ih:∀xs:List α,xs.length=n->Acc (Ol lt) xs){x:α}(hx:Acc lt x):∀ {xs:List α},xs.length=n->Acc (Ol lt) xs->Acc (Ol lt) (x::xs):=by
 induction hx with
 |intro x _ yv =>
  intro xs hl dQ;induction dQ with
  |intro xs _ rj =>
   refine .intro _ λ zs h=>?_;cases zs with
   |nil=>exact h.elim
   |cons y ys =>
    rcases h with ⟨h1,h2⟩|⟨h1,h2⟩
    ·exact yv y h1 (h2.trans hl) (ih ys (h2.trans hl))
    ·subst h1;exact rj ys h2 ((Ol.len lt h2).trans hl)
theorem Nu (h:∀x,Acc lt x):∀(n:Nat) (xs:List α),xs.length=n->Acc (Ol lt) xs
 |0,[],_=>.intro _ λ zs h=>by cases zs<;>exact h.elim
 |n+1,x::xs,e=>YE lt n (Nu h n) (h x) (by simpa using e) (Nu h n xs (by simpa using e))
theorem UW:∀ {xs:List α}{i:Nat}{y:α}{x:α},xs[i]?=some x->lt y x->Ol lt (xs.set i y) xs
 |[],_,_,_,h,_=>by cases h
 |z::zs,0,y,x,h,hl=>by
  cases h;exact .inl ⟨hl,rfl⟩
 |z::zs,i+1,y,x,h,hl=>.inr ⟨rfl,UW (by simpa using h) hl⟩
theorem Ol.trans (ht:∀a b c,lt a b->lt b c->lt a c):∀ {xs ys zs:List α},Ol lt xs ys->Ol lt ys zs->Ol lt xs zs
 |x::xs,y::ys,z::zs,h1,h2=>by
  rcases h1 with ⟨a,b⟩|⟨rfl,b⟩
  ·rcases h2 with ⟨c,d⟩|⟨rfl,d⟩
   ·exact .inl ⟨ht _ _ _ a c,b.trans d⟩
   ·exact .inl ⟨a,b.trans (Ol.len lt d)⟩
  ·rcases h2 with ⟨c,d⟩|⟨rfl,d⟩
   ·exact .inl ⟨c,(Ol.len lt b).trans d⟩
   ·exact .inr ⟨rfl,Ol.trans ht b d⟩
 |[],_,_,h,_|_::_,[],_,h,_|_::_,_::_,[],_,h=>by cases h
end
section
variable {X:Cx}{WX:Str->Hp->Prop}{c:Bool}{P0:E7}{P:Addr->Prop}{H:Hp}{σ:St}{ρ:Aa}{a b e:Expr}{f g g2:Aa->M D}{pos:Pos}
theorem Kj:∀ {ns:List Int}{us:List Value},Vals (ns.map V.int) us->IntsAre us ns
 |[],_,.nil=>.nil
 |n::r,_,.cons h t=>by obtain⟨tk,rfl⟩:=h;exact .cons _ _ (Kj t)
theorem CO:∀ {ds:List D}{ns:List Int},Cw ds=some ns->ds=ns.map D.int
 |[],ns,h=>by cases h;rfl
 | .int b::r,bs,h=>by
  rw[Cw] at h;cases q:Cw r with
  |none=>rw[q] at h;cases h
  |some yu=>rw[q] at h;cases h;rw[CO q];rfl
 | .AK::r,bs,h| .bl _::r,bs,h| .str _::r,bs,h| .tup _::r,bs,h| .lst _::r,bs,h| .Ct _::r,bs,h| .Bl _ _ _::r,bs,h| .ins _ _ _::r,bs,h=>by cases h
theorem Dp {K:za0}{H:Hp}:∀ {vs:List V}{bs:List Int},Aj K H vs (bs.map D.int)->vs=bs.map V.int
 |_,[],.nil=>rfl
 |_,b::r,.cons h t=>by cases h;rw[Dp t];rfl
end
theorem oZ {P P2:Addr->Prop}{H H':Hp}(t:Tr P P H P2 H'){a:Addr}(h:P2 a)(hn:¬ P a):H a=none:=by
 cases q:H a with
 |none=>rfl
 |some o =>
  have:=t.1 a o (by rw[AQ hn];exact q);exact ((Ax this).1 h).elim
section
variable {X:Cx}{WX:Str->Hp->Prop}{c:Bool}{P0:E7}{P:Addr->Prop}{H:Hp}{σ:St}{ρ:Aa}{a b e:Expr}{f g:Aa->M D}{pos:Pos}
def iP:V->List V->Hp->VK->Prop:=λ x vs H Q=>∃(l:Addr) (xs:List V) (k:Nat) (y:V),x=.ref l/\vs=[.int (k:Int),y]/\H l=some (.lst xs)/\k<=xs.length/\xs.length<sizeLine/\Q .AK (upd H l (.lst (xs.take k++y::xs.drop k)))
theorem RL:∀ {xs:List V}{us:List Value}{y:V}{w:Value},Vals xs us->∀k:Nat,RelV y w->Vals (xs.take k++y::xs.drop k) (us.take k++w::us.drop k)
 |_,_,_,_,r,0,h=>.cons h r
 |_,_,_,_,.nil,k+1,h=>.cons h .nil
 |_,_,_,_,.cons a t,k+1,h=>.cons a (RL t k h)
theorem YF {prog:Program}{wd:World}{A:Around}{E:Value->Shared->Prop}{s:Shared}{Q:Value->Shared->Prop}{l:Addr}{items:Array Value}{n:Nat}(x:Int)(u:Tok)(y:Value)(hc:¬(!Builtin.List.listFitsIndex x)=true)(hs:items.size<=sizeLine)
 (e:s.heap.get? l=some {cls:=.type "list",data:=.seq items n})
 (h:Q .none {s with heap:=s.heap.update l (zc2 λ xs=>(xs.extract 0 (if x<0 then (x+(xs.size:Int)).toNat else min x.toNat xs.size)).push y++xs.extract (if x<0 then (x+(xs.size:Int)).toNat else min x.toNat xs.size)),toks:=s.toks}):wpAny (model prog wd) A (call (.builtin "list.insert") [.ref l,.int x u,y]) Q E s:=by
 have hm:=PySem.AutoSeq1.list_insert_list_int_val_1 l items n x u y hc hs;have ha:=PySem.F.args_list_insert_3 (.ref l) (.int x u) y;exact call_meets PySem.F.slot_list_insert ⟨_,e,rfl⟩ PySem.F.entry_list_insert ha hm ⟨e,h⟩
theorem Wd:tD X "list.insert" iP:=by
 intro pins s σ H x vs v us Q I rx rv h;obtain⟨l,xs,k,y,rfl,rfl,hH,hk,hz,q⟩:=h;cases rx;obtain⟨u,w,rfl,ru,df⟩:=rv.two;obtain⟨tk,rfl⟩:=ru;obtain⟨z,aa,n,r,hl,e⟩:=I.Tv hH;have hlen:=r.length;have h63:=La;have e7:¬ (!Builtin.List.listFitsIndex (k:Int))=true:=by
  unfold Builtin.List.listFitsIndex;simp;omega
 have hsz:aa.toArray.size<=sizeLine:=by rw[zaa,<-hl];exact zbl hz
 refine YF (k:Int) tk w e7 hsz e ?_;refine⟨.AK,_,I.Y3 (its':=aa.take k++w::aa.drop k) hH e ?_ ?_ ?_,rfl,q⟩
 ·have e1:¬ ((k:Int)<0):=by omega
  have e2:min (k:Int).toNat aa.toArray.size=k:=by rw[zc7,zaa];omega
  simp only[e1,if_false,e2];apply Array.toList_inj.mp;simp;rw[zc4 (by rw[zcp];exact zal _)]
 ·exact RL r k df
 ·rw[zah,zad,zcd,zcp];omega
noncomputable def We (i:Nat)(ρ:Aa)(mk md:M D):M Out:=match ρ[i]? with
 |some (some (.own ds))=>mk.bind λ k=>md.bind λ d=>match k with
  | .int j=>if 0<=j/\j.toNat<=ds.length/\ds.length<1000 then .ok (.next (ρ.set i (some (.own (ds.take j.toNat++d::ds.drop j.toNat))))) else .bad
  |_=>.bad
 |_=>.bad
theorem Lr {K:za0}{H:Hp}:∀ {vs:List V}{ds:List D}(n:Nat),Aj K H vs ds->Aj K H (vs.take n) (ds.take n)
 |_,_,0,_=>by rw[List.take_zero,List.take_zero];exact .nil
 |_,_,_+1,.nil=>.nil
 |_,_,n+1,.cons h t=>by rw[List.take_succ_cons,List.take_succ_cons];exact .cons h (Lr n t)
theorem Pr {K:za0}{H:Hp}:∀ {vs:List V}{ds:List D}(n:Nat),Aj K H vs ds->Aj K H (vs.drop n) (ds.drop n)
 |_,_,0,h=>h
 |_,_,_+1,.nil=>.nil
 |_,_,n+1,.cons h t=>by rw[List.drop_succ_cons,List.drop_succ_cons];exact Pr n t
theorem RM {K:za0}{H:Hp}:∀ {vs ws:List V}{ds es:List D},Aj K H vs ds->Aj K H ws es->Aj K H (vs++ws) (ds++es)
 |_,_,_,_,.nil,k=>k
 |_,_,_,_,.cons h t,k=>.cons h (RM t k)
theorem Wf (i:Nat){x:Str}{p1 apos ar:Pos}(hv:PE X (.Name x p1) (Rg i))(hk:DE X WX true a f)(hd:DE X WX true b g)(hs:starEach [a,b] X.env=(false,eval a X.env)::starEach [b] X.env:=by rfl)(cw:starEach [b] X.env=[(false,eval b X.env)]:=by rfl)
 (dN:swapsWith (.Call (.Attribute (.Name x p1) "insert" apos) [a,b] [] ar) none pos.line X.env=pure false:=by rfl)
 (bA:attributeBase (.Name x p1) "insert" X.env (eval (.Name x p1) X.env)=eval (.Name x p1) X.env:=by rfl)
 (cG:((backTo ar (starEach [a,b] X.env)).all (λ x => !x.1)&&(backToKw ar (keywordEach [] X.env)).all (λ x=>x.1.isSome)&&decide (([a,b]:List Expr).length+([]:List Keyword).length+(if ([]:List Keyword).isEmpty then 0 else 1)<30))=true:=by rfl)
 (bB:(apos.endLine==ar.line)=true:=by rfl) (aZ:(backTo ar (starEach [b] X.env)).any (·.1)=false:=by rfl):
 DS X WX (.Expr (.Call (.Attribute (.Name x p1) "insert" apos) [a,b] [] ar) pos) (λ ρ=>We i ρ (f ρ) (g ρ)):=by
 obtain⟨ta,a1,a2⟩:=hk;obtain⟨tb,b1,b2⟩:=hd;refine⟨_,Gs (Rp zce PySem.F.slot_list_insert PySem.F.type_list_insert Wd hv (Bb a1 (Bb b1 Cj cw) hs) bA cG bB hs aZ) dN,λ P0 P σ H Z ρ E h=>?_⟩;dsimp only at h;unfold We at h;split at h
 ·rename_i ds e1;obtain⟨p,xs,h1,h2,h3,h4,h5⟩:=E.own i ds e1;refine⟨_,h1,.inl ⟨rfl,xs,.of h2⟩,a2 P0 P σ H _ ρ E ?_⟩;cases q:f ρ with
  |bad=>rw[q] at h;exact h
  |ex y=>rw[q] at h;exact λ H' s=>h H' P (E.tr s)
  |ok k =>
   rw[q] at h;simp only[M.A8] at h;intro w H1 s1 hw;have E1:=E.same s1;refine b2 P0 P σ H1 _ ρ E1 ?_;cases q2:g ρ with
   |bad=>rw[q2] at h;exact h
   |ex y=>rw[q2] at h;exact λ H' s=>h H' P ((E.tr s1).trans (E1.tr s))
   |ok d =>
    rw[q2] at h;simp only[M.A8] at h;intro v H2 s2 yw;have E2:=E1.same s2;have rm:=s1.trans s2;split at h
    ·rename_i j;cases hw;by_cases hj:0<=j/\j.toNat<=ds.length/\ds.length<1000
     ·rw[if_pos hj] at h;have yx:((j.toNat:Nat):Int)=j:=Int.toNat_of_nonneg hj.1;have wr:=h5.mono rm.del;refine⟨p,xs,j.toNat,v,rfl,by rw[yx],rm _ _ h2,by rw[h5.length];exact hj.2.1,AS (by rw[h5.length];exact zbl hj.2.2),?_⟩;obtain⟨E3,t3⟩:=E2.mut e1 h1 h3 h4 (RM (Lr j.toNat wr) (.cons yw (Pr j.toNat wr)));exact h _ _ _ ((E.tr rm).trans t3) E3
     ·rw[if_neg hj] at h;exact h.elim
    ·exact h.elim
 ·exact h.elim
noncomputable def tX (ds:List D):M D:=match ds with
 |[.lst xs]=>(match HD xs with|some bs=>.ok (.bl (bs.any id))|none=>.bad)
 |_=>.bad
end
noncomputable def kids:OT->List OT
 | .sh _=>[]
 | .lst ts| .tup ts| .Bl _ _ ts| .ins _ _ ts=>ts
noncomputable def ME:OT->List OT->OT
 | .sh d,_=>.sh d
 | .lst _,ts=>.lst ts
 | .tup _,ts=>.tup ts
 | .Bl b ks _,ts=>.Bl b ks ts
 | .ins x ns _,ts=>.ins x ns ts
noncomputable def Ls:OT->List Nat->Option OT
 |t,[]=>some t
 |t,j::π=>match (kids t)[j]? with|some s=>Ls s π|none=>none
noncomputable def EM:OT->List Nat->OT->OT
 |_,[],u=>u
 |t,j::π,u=>match (kids t)[j]? with|some s=>ME t ((kids t).set j (EM s π u))|none=>t
@[simp] theorem YG (t:OT):Ls t []=some t:=by unfold Ls;rfl
@[simp] theorem CZ (t u:OT):EM t [] u=u:=by unfold EM;rfl
theorem Wg {t s:OT}{j:Nat}{π:List Nat}(h:(kids t)[j]?=some s):Ls t (j::π)=Ls s π:=by rw[Ls,h]
theorem Wh {t s u:OT}{j:Nat}{π:List Nat}(h:(kids t)[j]?=some s):EM t (j::π) u=ME t ((kids t).set j (EM s π u)):=by rw[EM,h]
section
variable {K:za0}{H H':Hp}{P P':Addr->Prop}
def CP (K:za0)(H:Hp)(P:Addr->Prop)(v:V)(t:OT)(q:List Addr)(xs:List V):Prop:=match t with
 | .sh _=>False
 | .lst ts=>∃p,v=.ref p/\q=[p]/\H p=some (.lst xs)
 | .tup ts=>∃p,v=.ref p/\q=[]/\del H P p=some (.tup xs)
 | .Bl false ks ts=>∃p kvs,v=.ref p/\q=[p]/\H p=some (.dK kvs)/\ks=(kvs.map λ kv=>Fn kv.1)/\xs=kvs.map zch
 | .Bl true ks ts=>∃p kvs,v=.ref p/\q=[p]/\H p=some (.dT kvs)/\ks=(kvs.map λ kv=>.tup (kv.1.map Fn))/\xs=kvs.map zch
 | .ins x ns ts=>∃p C dx fs,v=.ref p/\q=[p]/\za1 K mainGlobals x=some (some (.ref C))/\H p=some (.ins C dx fs)/\ns=fs.map zbg/\xs=fs.map zch
theorem CP.own {v:V}{t:OT}{q:List Addr}{xs:List V}{fp:List Addr}(h:CP K H P v t q xs)(r:AO K H P xs (kids t) fp):C6 K H P v t (q++fp):=by
 cases t with
 |sh d=>exact h.elim
 |lst ts=>obtain⟨p,rfl,rfl,h⟩:=h;exact .lst h r
 |tup ts=>obtain⟨p,rfl,rfl,h⟩:=h;exact .tup h r
 |Bl b ks ts =>
  cases b with
  |false=>obtain⟨p,kvs,rfl,rfl,h,rfl,rfl⟩:=h;exact .dK h r
  |true=>obtain⟨p,kvs,rfl,rfl,h,rfl,rfl⟩:=h;exact .dT h r
 |ins x ns ts=>obtain⟨p,C,dx,fs,rfl,rfl,n,h,rfl,rfl⟩:=h;exact .ins n h r
theorem C6.node {v:V}{t:OT}{fp:List Addr}(h:C6 K H P v t fp)(hk:kids t≠[]\/∀d,t≠.sh d):∃q xs fq,fp=q++fq/\CP K H P v t q xs/\AO K H P xs (kids t) fq:=by
 cases h with
 |sh h=>rcases hk with hk|hk;exact (hk rfl).elim;exact (hk _ rfl).elim
 |lst h r=>exact⟨[_],_,_,rfl,⟨_,rfl,rfl,h⟩,r⟩
 |tup h r=>exact⟨[],_,_,rfl,⟨_,rfl,rfl,h⟩,r⟩
 |dK h r|dT h r=>exact⟨[_],_,_,rfl,⟨_,_,rfl,rfl,h,rfl,rfl⟩,r⟩
 |ins n h r=>exact⟨[_],_,_,rfl,⟨_,_,_,_,rfl,rfl,n,h,rfl,rfl⟩,r⟩
theorem CP.move (sm:Ag (del H P) (del H' P')){v:V}{t:OT}{q:List Addr}{xs:List V}(k:∀a∈q,H' a=H a)(h:CP K H P v t q xs):CP K H' P' v t q xs:=by
 cases t with
 |sh d=>exact h.elim
 |lst ts=>obtain⟨p,rfl,rfl,h⟩:=h;exact⟨p,rfl,rfl,(k p za3).trans h⟩
 |tup ts=>obtain⟨p,rfl,rfl,h⟩:=h;exact⟨p,rfl,rfl,sm _ _ h⟩
 |Bl b ks ts =>
  cases b with
  |false|true=>obtain⟨p,kvs,rfl,rfl,h,rfl,rfl⟩:=h;exact⟨p,kvs,rfl,rfl,(k p za3).trans h,rfl,rfl⟩
 |ins x ns ts=>obtain⟨p,C,dx,fs,rfl,rfl,n,h,rfl,rfl⟩:=h;exact⟨p,C,dx,fs,rfl,rfl,n,(k p za3).trans h,rfl,rfl⟩
theorem CP.kids {v:V}{t:OT}{q:List Addr}{xs:List V}(h:CP K H P v t q xs)(ts:List OT):CP K H P v (ME t ts) q xs:=by
 cases t with
 |sh d=>exact h.elim
 |lst us|tup us=>exact h
 |Bl b ks us=>cases b<;>exact h
 |ins x ns us=>exact h
theorem Qx {v:V}{t:OT}{q:List Addr}{xs:List V}(h:CP K H P v t q xs)(ts:List OT):L2.kids (ME t ts)=ts:=by
 cases t with
 |sh d=>exact h.elim
 |lst us|tup us|Bl b ks us|ins x ns us=>rfl
theorem CP.inj {v:V}{t:OT}{q q':List Addr}{xs iy:List V}(h:CP K H P v t q xs)(h':CP K H P v t q' iy):q=q'/\xs=iy:=by
 cases t with
 |sh d=>exact h.elim
 |lst ts|tup ts=>obtain⟨p,rfl,rfl,h⟩:=h;obtain⟨p',e,rfl,h'⟩:=h';cases e;rw[h] at h';cases h';exact⟨rfl,rfl⟩
 |Bl b ks ts =>
  cases b with
  |false|true=>obtain⟨p,kvs,rfl,rfl,h,_,rfl⟩:=h;obtain⟨p',rn,e,rfl,h',_,rfl⟩:=h';cases e;rw[h] at h';cases h';exact⟨rfl,rfl⟩
 |ins x ns ts=>obtain⟨p,C,dx,fs,rfl,rfl,n,h,_,rfl⟩:=h;obtain⟨p',C',dx',ee,e,rfl,n',h',_,rfl⟩:=h';cases e;rw[h] at h';cases h';exact⟨rfl,rfl⟩
inductive Kk (K:za0) (H:Hp) (P:Addr->Prop):V->OT->List Nat->V->OT->Prop
 |nil {v t}:Kk K H P v t [] v t
 |cons {v t q xs j x s π v1 t1}:CP K H P v t q xs->xs[j]?=some x->(kids t)[j]?=some s->Kk K H P x s π v1 t1->Kk K H P v t (j::π) v1 t1
theorem Kk.sub {v v1:V}{t t1:OT}{π:List Nat}(h:Kk K H P v t π v1 t1):Ls t π=some t1:=by
 induction h with
 |nil=>exact YG _
 |cons _ _ hs _ ih=>rw[Wg hs];exact ih
theorem AO.get:∀ {xs:List V}{ts:List OT}{fp:List Addr}{j:Nat}{x:V}{s:OT},AO K H P xs ts fp->xs[j]?=some x->ts[j]?=some s->∃pre fs post,fp=pre++fs++post/\C6 K H P x s fs
 |_,_,_,_,_,_,.nil,e,_=>by simp at e
 |_,_,_,0,_,_,.cons h r,e,e'=>by
  simp at e e';subst e;subst e';exact⟨[],_,_,rfl,h⟩
 |_,_,_,j+1,_,_,.cons (fp:=f1) h r,e,e'=>by
  obtain⟨pre,fs,post,z,q⟩:=AO.get r (by simpa using e) (by simpa using e');exact⟨f1++pre,fs,post,by rw[z];simp,q⟩
theorem AO.len:∀ {xs:List V}{ts:List OT}{fp:List Addr},AO K H P xs ts fp->xs.length=ts.length
 |_,_,_,.nil=>rfl
 |_,_,_,.cons _ r=>by rw[zad,zad,r.len]
theorem C6.part {v v1:V}{t t1:OT}{π:List Nat}{fp:List Addr}(h:C6 K H P v t fp)(s:Kk K H P v t π v1 t1):∃bY,C6 K H P v1 t1 bY/\(∀a∈bY,a∈fp)/\(fp.Nodup->bY.Nodup):=by
 induction s generalizing fp with
 |nil=>exact⟨fp,h,λ _ h=>h,λ h=>h⟩
 |cons n hx hs _ ih =>
  obtain⟨q,xs,fq,rfl,n',r⟩:=h.node (.inl λ z=>by rw[z] at hs;cases hs);obtain⟨rfl,rfl⟩:=n.inj n';obtain⟨pre,fs,post,rfl,o⟩:=r.get hx hs;obtain⟨bY,o1,k,kn⟩:=ih o;exact⟨bY,o1,λ a ha=>zac _ (zas _ (zac _ (k a ha))),λ nd=>kn (zb2.mp (zb2.mp (zb2.mp nd).2.1).1).2.1⟩
theorem AO.put (sm:Ag (del H P) (del H' P')):∀ {xs:List V}{ts:List OT}{fp:List Addr}{j:Nat}{x:V}{s s':OT}{fs ee:List Addr},AO K H P xs ts fp->xs[j]?=some x->ts[j]?=some s->C6 K H P x s fs->C6 K H' P' x s' ee->(∀a∈fp,a∉fs->H' a=H a)->fp.Nodup->ee.Nodup->(∀a∈ee,a∈fp->a∈fs)->
 ∃aO,AO K H' P' xs (ts.set j s') aO/\aO.Nodup/\∀a∈aO,a∈ee\/(a∈fp/\a∉fs)
 |_,_,_,_,_,_,_,_,_,.nil,e,_,_,_,_,_,_,_=>by simp at e
 |_,_,_,0,x,s,s',fs,ee,.cons (fp:=f1) (fq:=f2) h r,e,e',o,o',k,nd,lu,dj=>by
  simp at e e';subst e;subst e';have:=h.Cf o;subst this;have cW:=zb2.mp nd;have k2:∀a∈f2,a∉f1:=λ a ha hb=>cW.2.2 a hb a ha rfl;refine⟨ee++f2,.cons o' (r.move sm λ a ha=>k a (zac _ ha) (k2 a ha)),zb2.mpr ⟨lu,cW.2.1,λ a ha b hb z=>?_⟩,λ a ha=>?_⟩
  ·subst z;exact k2 a hb (dj a ha (zac _ hb))
  ·rcases zar.mp ha with ha|ha
   ·exact .inl ha
   ·exact .inr ⟨zac _ ha,k2 a ha⟩
 |_,_,_,j+1,x,s,s',fs,ee,.cons (vs:=yy) (ts:=yz) (fp:=f1) (fq:=f2) h r,e,e',o,o',k,nd,lu,dj=>by
  have cW:=zb2.mp nd;have e2:yy[j]?=some x:=by simpa using e
  have e3:yz[j]?=some s:=by simpa using e'
  obtain⟨pre,fx,post,hf,ox⟩:=r.get e2 e3;have:=ox.Cf o;subst this;have k1:∀a∈f1,a∉fx:=λ a ha hb=>cW.2.2 a ha a (by rw[hf];exact zas _ (zac _ hb)) rfl;obtain⟨aO,q1,q2,q3⟩:=AO.put sm r e2 e3 o o' (λ a ha hn=>k a (zac _ ha) hn) cW.2.1 lu (λ a ha hb=>dj a ha (zac _ hb));refine⟨f1++aO,.cons (h.move sm λ a ha=>k a (zas _ ha) (k1 a ha)) q1,zb2.mpr ⟨cW.1,q2,λ a ha b hb z=>?_⟩,λ a ha=>?_⟩
  ·subst z;rcases q3 a hb with z|z
   ·exact k1 a ha (dj a z (zas _ ha))
   ·exact cW.2.2 a ha a z.1 rfl
  ·rcases zar.mp ha with ha|ha
   ·exact .inr ⟨zas _ ha,k1 a ha⟩
   ·rcases q3 a ha with z|z
    ·exact .inl z
    ·exact .inr ⟨zac _ z.1,z.2⟩
theorem C6.put (sm:Ag (del H P) (del H' P')){v v1:V}{t t1 u:OT}{π:List Nat}{fp bY fu:List Addr}(h:C6 K H P v t fp)(s:Kk K H P v t π v1 t1)(o:C6 K H P v1 t1 bY)(o':C6 K H' P' v1 u fu)(k:∀a∈fp,a∉bY->H' a=H a)(nd:fp.Nodup)(lu:fu.Nodup)(dj:∀a∈fu,a∈fp->a∈bY):
 ∃aO,C6 K H' P' v (EM t π u) aO/\aO.Nodup/\∀a∈aO,a∈fu\/(a∈fp/\a∉bY):=by
 induction s generalizing fp with
 |nil =>
  rw[CZ];exact⟨fu,o',lu,λ a ha=>.inl ha⟩
 | @cons v t q xs j x s π v1 t1 n hx hs s1 ih =>
  obtain⟨q',iy,fq,rfl,n',r⟩:=h.node (.inl λ z=>by rw[z] at hs;cases hs);obtain⟨rfl,rfl⟩:=n.inj n';have lw:=zb2.mp nd;obtain⟨pre,fs,post,hf,ox⟩:=r.get hx hs;have sub:∀a∈fs,a∈fq:=λ a ha=>by rw[hf];exact zas _ (zac _ ha)
  have y2:fs.Nodup:=by
   have:=lw.2.1;rw[hf] at this;exact (zb2.mp (zb2.mp this).1).2.1
  obtain⟨fz,oz,kz,_⟩:=ox.part s1;have:=oz.Cf o;subst this;obtain⟨ee,q1,q2,q3⟩:=ih ox o o' (λ a ha hn=>k a (zac _ (sub a ha)) hn) y2 (λ a ha hb=>dj a ha (zac _ (sub a hb)));have qf:∀a∈q,a∉fs:=λ a ha hb=>lw.2.2 a ha a (sub a hb) rfl;have kq:∀a∈q,H' a=H a:=λ a ha=>k a (zas _ ha) λ z=>qf a ha (kz a z);obtain⟨aO,p1,p2,p3⟩:=r.put sm hx hs ox q1 (λ a ha hn=>k a (zac _ ha) λ z=>hn (kz a z)) lw.2.1 q2 (λ a ha hb=>by
   rcases q3 a ha with z|z
   ·exact kz a (dj a z (zac _ hb))
   ·exact z.1)
  rw[Wh hs];have n2:=(n.move sm kq).kids ((kids t).set j (EM s π u));have o2:=n2.own (fp:=aO) (by rw[Qx n];exact p1);refine⟨q++aO,o2,zb2.mpr ⟨lw.1,p2,λ a ha b hb z=>?_⟩,λ a ha=>?_⟩
  ·subst z;rcases p3 a hb with z|z
   ·rcases q3 a z with y|y
    ·exact qf a ha (kz a (dj a y (zas _ ha)))
    ·exact qf a ha y.1
   ·exact lw.2.2 a ha a z.1 rfl
  ·rcases zar.mp ha with ha|ha
   ·exact .inr ⟨zas _ ha,λ z=>qf a ha (kz a z)⟩
   ·rcases p3 a ha with z|z
    ·rcases q3 a z with y|y
     ·exact .inl y
     ·exact .inr ⟨zac _ (sub a y.1),y.2⟩
    ·exact .inr ⟨zac _ z.1,λ y=>z.2 (kz a y)⟩
end
def PU (P:Addr->Prop)(fp:List Addr):Addr->Prop:=λ a=>P a\/a∈fp
theorem Nv {P:Addr->Prop}{fp:List Addr}:∀a,P a->PU P fp a:=λ a h=>.inl h
theorem Fb {P:Addr->Prop}{fp:List Addr}{H H':Hp}(s:Ag H H')(hn:∀a∈fp,H a=none):Ag (del H P) (del H' (PU P fp)):=λ b o e=>by
 obtain⟨h1,h2⟩:=Ax e;rw[AQ λ z=>z.elim h1 λ w=>by rw[hn b w] at h2;cases h2];exact s b o h2
theorem TM {P:Addr->Prop}{H:Hp}:del H (PU P [])=del H P:=by
 funext b;by_cases h:P b
 ·rw[Gx h,Gx (.inl h)]
 ·rw[AQ h,AQ λ z=>z.elim h λ w=>by cases w]
theorem Lu {P:Addr->Prop}{fp:List Addr}{K:za0}{H':Hp}{Q:Addr->Prop}{v:V}{t:OT}(hP:∀a,P a->E6 H' a)(o:C6 K H' Q v t fp):∀a,PU P fp a->E6 H' a:=λ a h=>h.elim (hP a) (o.Ci a)
theorem UX {P:Addr->Prop}{fp:List Addr}{K:za0}{H':Hp}{Q:Addr->Prop}{v:List V}{t:List OT}(hP:∀a,P a->E6 H' a)(o:AO K H' Q v t fp):∀a,PU P fp a->E6 H' a:=λ a h=>h.elim (hP a) (o.Ci a)
theorem Al.more {K:za0}{P0:E7}{P P':Addr->Prop}{H H':Hp}{σ:St}{ρ:Aa}(E:Al K P0 P H σ ρ)(e:Ag H H')(hs:∀a,P a->P' a)(ht:∀a,P' a->E6 H' a)(sm:Ag (del H P) (del H' P')):Al K P0 P' H' σ ρ:=by
 have keep:∀(c:Cl) (v:V) (fp:List Addr),DC K H P c v fp->∀a∈fp,H' a=H a:=λ c v fp o a ha=>by
  obtain⟨xs,q⟩:=o.at a ha;rw[q];exact e _ _ q
 exact⟨λ a h=>hs a (E.sub a h),ht,λ i d h=>let ⟨v,h1,h2⟩:=E.val i d h;⟨v,h1,h2.mono sm⟩,
  λ i c h io=>let ⟨v,fp,h1,h2,h3,h4⟩:=E.ows i c h io;⟨v,fp,h1,h2.move sm (keep c v fp h2),λ a ha=>⟨hs a (h3 a ha).1,(h3 a ha).2⟩,h4⟩,
  λ i j c c' v v' fp aO hi hj si sj h h' au=>E.Yd sm (λ v fp _ o a ha=>keep _ _ _ o a ha) (λ v fp _ o a ha=>keep _ _ _ o a ha) hi hj si sj h h' au,E.len,E.pin⟩
def YH (K:za0)(WX:Str->Hp->Prop)(P:Addr->Prop)(H:Hp)(Q:VK):M OT->Prop
 | .ok t=>∀v fp H',Ag H H'->(∀a∈fp,H a=none)->fp.Nodup->C6 K H' (PU P fp) v t fp->Q v H'
 | .ex x=>∀H',Ag H H'->WX x H'
 | .bad=>False
def yX (K:za0)(WX:Str->Hp->Prop)(P:Addr->Prop)(H:Hp)(Q:List V->Hp->Prop):M (List OT)->Prop
 | .ok t=>∀v fp H',Ag H H'->(∀a∈fp,H a=none)->fp.Nodup->AO K H' (PU P fp) v t fp->Q v H'
 | .ex x=>∀H',Ag H H'->WX x H'
 | .bad=>False
theorem Iy {H H':Hp}(s:Ag H H'){a:Addr}(h:H' a=none):H a=none:=by
 cases q:H a with
 |none=>rfl
 |some o=>rw[s a o q] at h;cases h
section
variable {K:za0}{WX:Str->Hp->Prop}{P:Addr->Prop}{H H':Hp}
theorem YH.same {Q:VK}{m:M OT}(h:YH K WX P H Q m)(e:Ag H H'):YH K WX P H' Q m:=by
 cases m with
 |ok d=>exact λ v fp H2 q hn nd o=>h v fp H2 (e.trans q) (λ a ha=>Iy e (hn a ha)) nd o
 |ex x=>exact λ H2 q=>h H2 (e.trans q)
 |bad=>exact h
end
def DN (X:Cx)(WX:Str->Hp->Prop)(e:Expr)(f:Aa->M OT):Prop:=
 ∃t,PE X e t/\∀P0 P σ H Q ρ,Al X.K P0 P H σ ρ->YH X.K WX P H Q (f ρ)->t σ H Q
def tY (X:Cx)(WX:Str->Hp->Prop)(es:List Expr)(f:Aa->M (List OT)):Prop:=
 ∃t,PA X es t/\(∀P0 P σ H Q ρ,Al X.K P0 P H σ ρ->yX X.K WX P H Q (f ρ)->t σ H Q)/\∀ρ ts,f ρ=.ok ts->ts.length=es.length
noncomputable def lN (d:D):M OT:=.ok (.sh d)
noncomputable def lO (t:OT):M D:=.ok (er t)
section
variable {X:Cx}{WX:Str->Hp->Prop}{c:Bool}{P0:E7}{P:Addr->Prop}{H:Hp}{σ:St}{ρ:Aa}{a b e:Expr}{f g:Aa->M D}{fn:Aa->M OT}{pos:Pos}{es:List Expr}
theorem Bj (h:DE X WX true e f):DN X WX e (λ ρ=>(f ρ).bind lN):=by
 obtain⟨t,h1,h2⟩:=h;refine⟨t,h1,λ P0 P σ H Q ρ E g=>h2 P0 P σ H Q ρ E ?_⟩;dsimp only at g;cases q:f ρ with
 |bad|ex x=>rw[q] at g;exact g
 |ok d=>rw[q] at g;exact λ v H' s hv=>g v [] H' s (λ a ha=>by cases ha) zcj (.sh (by rw[TM];exact hv))
theorem Ab (h:DN X WX e fn):DE X WX c e (λ ρ=>(fn ρ).bind lO):=by
 suffices z:DE X WX true e (λ ρ=>(fn ρ).bind lO) by
  cases c with
  |true=>exact z
  |false=>exact Li z
 obtain⟨t,h1,h2⟩:=h;refine⟨t,h1,λ P0 P σ H Q ρ E g=>h2 P0 P σ H Q ρ E ?_⟩;dsimp only at g;cases q:fn ρ with
 |bad|ex x=>rw[q] at g;exact g
 |ok d =>
  rw[q] at g;exact λ v fp H' s hn nd o=>g v H' s (o.has Nv λ a ha z=>(E.Ci a z).no (hn a ha))
theorem Eb:tY X WX [] (λ _=>.ok []):=⟨_,Cj,λ P0 P σ H Q ρ E h=>h [] [] H (Ag.refl H) (λ a ha=>by cases ha) zcj .nil,λ ρ ds h=>by cases h;rfl⟩
theorem Nw {es:List Expr}{fs:Aa->M (List OT)}(he:DN X WX e fn)(hr:tY X WX es fs)(hs:starEach (e::es) X.env=(false,eval e X.env)::starEach es X.env:=by rfl):
 tY X WX (e::es) (λ ρ=>(fn ρ).bind λ d=>(fs ρ).bind λ ds=>.ok (d::ds)):=by
 obtain⟨te,e1,e2⟩:=he;obtain⟨tr,r1,r2,r3⟩:=hr;refine⟨_,Bb e1 r1 hs,λ P0 P σ H Q ρ E h=>?_,λ ρ ds h=>?_⟩
 rotate_left
 ·dsimp only at h;cases q:fn ρ with
  |bad|ex x=>rw[q] at h;cases h
  |ok x =>
   rw[q] at h;cases q2:fs ρ with
   |bad|ex x=>rw[q2] at h;cases h
   |ok xs =>
    rw[q2] at h;cases h;rw[zad,zad,r3 ρ xs q2]
 dsimp only at h;refine e2 P0 P σ H _ ρ E ?_;cases q:fn ρ with
 |bad|ex x=>rw[q] at h;exact h
 |ok x =>
  rw[q] at h;intro v fp H1 s1 n1 jd o1;have E1:Al X.K P0 (PU P fp) H1 σ ρ:=E.more s1 Nv (Lu (E.same s1).Ci o1) (Fb s1 n1);refine r2 P0 (PU P fp) σ H1 _ ρ E1 ?_;cases q2:fs ρ with
  |bad=>rw[q2] at h;exact h
  |ex y=>rw[q2] at h;exact λ H' s=>h H' (s1.trans s)
  |ok ds =>
   rw[q2] at h;intro vs fq H2 s2 n2 cW o2;have dj:∀a∈fp,a∉fq:=λ a ha hb=>(o1.Ci a ha).no (n2 a hb);have eP:PU (PU P fp) fq=PU P (fp++fq):=by
    funext a;simp only[PU,zar,or_assoc]
   have sm:Ag (del H1 (PU P fp)) (del H2 (PU P (fp++fq))):=by rw[<-eP];exact Fb s2 n2
   refine h _ (fp++fq) H2 (s1.trans s2) (λ a ha=>?_) (zb2.mpr ⟨jd,cW,λ a ha b hb z=>dj a ha (by rw[z];exact hb)⟩) (.cons (o1.move sm λ a ha=>?_) (by rw[<-eP];exact o2))
   ·rcases zar.mp ha with ha|ha
    ·exact n1 a ha
    ·exact Iy s1 (n2 a ha)
   ·obtain⟨o,z,_⟩:=o1.Ci a ha;rw[z];exact s2 _ _ z
theorem pA {P:Addr->Prop}{fp:List Addr}{p:Addr}{H:Hp}{o:HO}(hn:H p=none)(hP:∀a,PU P fp a->E6 H a):Ag (del H (PU P fp)) (del (upd H p o) (PU P (p::fp))):=λ b u e=>by
 obtain⟨h1,h2⟩:=Ax e;have hb:b≠p:=AB h2 hn;rw[AQ λ z=>z.elim (λ z=>h1 (.inl z)) λ w=>(za9.mp w).elim hb λ w=>h1 (.inr w),Aq hb];exact h2
theorem HE {fs:Aa->M (List OT)}(ha:tY X WX es fs)(hz:es.length<=1000:=by decide):DN X WX (.List es pos) (λ ρ=>(fs ρ).bind λ ts=>.ok (.lst ts)):=by
 obtain⟨ta,a1,a2,a3⟩:=ha;refine⟨_,To a1,λ P0 P σ H Q ρ E h=>?_⟩;dsimp only at h;refine a2 P0 P σ H _ ρ E ?_;cases q:fs ρ with
 |bad|ex y=>rw[q] at h;exact h
 |ok ts =>
  rw[q] at h;simp only[M.A8] at h;intro vs fp H1 s1 n1 jd o1;have hP:=UX (E.same s1).Ci o1;refine⟨zbl (AS (by rw[o1.len,a3 ρ ts q];exact hz)),λ p hp=>?_⟩;have au:∀a∈fp,a≠p:=λ a ha z=>(o1.Ci a ha).no (by rw[z];exact hp);exact h _ (p::fp) _ (s1.trans (B7 hp _)) (λ a ha=>(za9.mp ha).elim (λ z=>by rw[z];exact Iy s1 hp) (n1 a)) (zbi.mpr ⟨λ z=>au p z rfl,jd⟩) (.lst AU (o1.move (pA hp hP) λ a ha=>Aq (au a ha)))
theorem iQ {P:Addr->Prop}{fp:List Addr}{p:Addr}{H:Hp}{o:HO}(hn:H p=none)(hP:∀a,PU P fp a->E6 H a):Ag (del H (PU P fp)) (del (upd H p o) (PU P fp)):=λ b u e=>by
 obtain⟨h1,h2⟩:=Ax e;have hb:b≠p:=AB h2 hn;rw[AQ h1,Aq hb];exact h2
theorem pB {fs:Aa->M (List OT)}{x1}(ha:tY X WX es fs)(hz:es.length<=1000:=by decide):DN X WX (.Tuple es x1 pos) (λ ρ=>(fs ρ).bind λ ts=>.ok (.tup ts)):=by
 obtain⟨ta,a1,a2,a3⟩:=ha;refine⟨_,XT a1,λ P0 P σ H Q ρ E h=>?_⟩;dsimp only at h;refine a2 P0 P σ H _ ρ E ?_;cases q:fs ρ with
 |bad|ex y=>rw[q] at h;exact h
 |ok ts =>
  rw[q] at h;simp only[M.A8] at h;intro vs fp H1 s1 n1 jd o1;have hP:=UX (E.same s1).Ci o1;refine⟨zbl (AS (by rw[o1.len,a3 ρ ts q];exact hz)),λ p hp=>?_⟩;have au:∀a∈fp,a≠p:=λ a ha z=>(o1.Ci a ha).no (by rw[z];exact hp);refine h _ fp _ (s1.trans (B7 hp _)) n1 jd (.tup ?_ (o1.move (iQ hp hP) λ a ha=>Aq (au a ha)));rw[AQ λ z=>(hP p z).no hp];exact AU
theorem Aj.ows {K:za0}{H:Hp}{P:Addr->Prop}:∀ {xs:List V}{ds:List D},Aj K (del H P) xs ds->AO K H P xs (ds.map .sh) []
 |_,_,.nil=>.nil
 |_,_,.cons h t=>.cons (.sh h) t.ows
theorem YH.Jy {K:za0}{WX:Str->Hp->Prop}{P:Addr->Prop}{H H1:Hp}{Q:VK}{xs:List V}{ds:List D}(h:YH K WX P H Q (.ok (.lst (ds.map .sh))))(s1:Ag H H1)(hx:Aj K (del H1 P) xs ds):∀p,H1 p=none->Q (.ref p) (upd H1 p (.lst xs)):=λ p hp=>by
 have hn:∀a∈[p],H1 a=none:=λ a ha=>by rw[zaj.mp ha];exact hp
 exact h _ [p] _ (s1.trans (B7 hp _)) (λ a ha=>Iy s1 (hn a ha)) (by simp) (.lst AU (hx.mono (Fb (B7 hp _) hn)).ows)
theorem AO.pC {K:za0}{H:Hp}{P:Addr->Prop}:∀ {xs:List V}{ds:List D}{fp:List Addr},AO K H P xs (ds.map .sh) fp->fp=[]/\Aj K (del H P) xs ds
 |_,[],_,.nil=>⟨rfl,.nil⟩
 |_,d::ds,_,.cons (.sh h) r=>by
  obtain⟨rfl,q⟩:=AO.pC r;exact⟨rfl,.cons h q⟩
noncomputable def Mr:Cl->Cl
 | .val d=>.val d
 | .own ds=>.val (.lst ds)
 | .ow (.rows Hv)=>.val (.lst (Hv.map D.lst))
 | .ow (.J9 _ ds)=>.val (.lst ds)
 | .ow (.tree _ t)=>.val (er t)
noncomputable def Jb (ρ:Aa):Aa:=ρ.map λ o=>o.map Mr
@[simp] theorem FN:Jb []=[]:=rfl
@[simp] theorem Ek (ρ:Aa):Jb (none::ρ)=none::Jb ρ:=rfl
@[simp] theorem El (c:Cl) (ρ:Aa):Jb (some c::ρ)=some (Mr c)::Jb ρ:=rfl
theorem Al.low {K:za0}{P0:E7}{P:Addr->Prop}{H:Hp}{σ:St}{ρ:Aa}(E:Al K P0 P H σ ρ):Al K P0 P0 H σ (Jb ρ):=by
 have key:∀(i:Nat) (c:Cl),(Jb ρ)[i]?=some (some c)->∃c',ρ[i]?=some (some c')/\c=Mr c':=λ i c h=>by
  unfold Jb at h;rw[zat] at h;cases q:ρ[i]? with
  |none=>rw[q] at h;cases h
  |some o =>
   rw[q] at h;cases o with
   |none=>cases h
   |some c'=>cases h;exact⟨c',rfl,rfl⟩
 have rq:∀c,Ja (Mr c)=false:=λ c=>by
  cases c with
  |val d|own ds=>rfl
  |ow o=>cases o<;>rfl
 have lx:∀c,Pb (Mr c)=none:=λ c=>by
  cases c with
  |val d|own ds=>rfl
  |ow o=>cases o<;>rfl
 have y3:∀c v fp,¬ DC K H P0 (Mr c) v fp:=λ c v fp h=>by
  cases c with
  |val d|own ds=>exact h
  |ow o=>cases o<;>exact h
 refine⟨λ _ h=>h,λ a h=>E.Ci a (E.sub a h),λ i d h=>?_,λ i c h io=>?_,λ i j c c' v v' fp aO hi hj si sj h h' au=>?_,by unfold Jb;rw[za5];exact E.len,λ i c n h hp=>by obtain⟨c',h1,rfl⟩:=key i _ h;rw[lx] at hp;cases hp⟩
 ·obtain⟨c,h1,h2⟩:=key i _ h;cases c with
  |val d' =>
   cases h2;obtain⟨v,q1,q2⟩:=E.val i d h1;exact⟨v,q1,q2.mono (CV E.sub)⟩
  |own ds =>
   cases h2;obtain⟨p,xs,q1,q2,q3,q4,q5⟩:=E.own i ds h1;exact⟨_,q1,.lst (.of (show del H P0 p=_ by rw[AQ q4];exact q2)) (q5.mono (CV E.sub))⟩
  |ow o =>
   obtain⟨v,fp,q1,q2,q3,q4⟩:=E.ows i _ h1 rfl;cases o with
   |rows Hv =>
    cases h2;obtain⟨p,ps,rfl,rfl,q5,q6⟩:=q2;exact⟨_,q1,.lst (.of (show del H P0 p=_ by rw[AQ (q3 p za3).2];exact q5)) (q6.oR E.sub λ a ha=>(q3 a (za4 _ ha)).2)⟩
   |J9 p ds =>
    cases h2;obtain⟨p,xs,rfl,rfl,q5,q6⟩:=q2;exact⟨_,q1,.lst (.of (show del H P0 p=_ by rw[AQ (q3 p za3).2];exact q5)) (q6.mono (CV E.sub))⟩
   |tree p t =>
    cases h2;exact⟨_,q1,C6.has E.sub (λ a ha=>(q3 a ha).2) q2⟩
 ·obtain⟨c',h1,rfl⟩:=key i _ h;rw[rq] at io;cases io
 ·obtain⟨c1,h1,rfl⟩:=key i _ hi;exact (y3 _ _ _ h).elim
theorem Qy {ft:Aa->M Bool}(h:DT X WX e ft):DT X WX e (λ ρ=>ft (Jb ρ)):=by
 obtain⟨t,h1,h2⟩:=h;exact⟨t,h1,λ P0 P σ H Q ρ E g=>h2 P0 P0 σ H Q (Jb ρ) E.low g⟩
mutual
noncomputable def Jc:OT->Bool
 | .sh d=>Lq d
 | .lst ts| .tup ts| .Bl _ _ ts| .ins _ _ ts=>Hf ts
noncomputable def Hf:List OT->Bool
 |[]=>true
 |t::r=>Jc t&&Hf r
end
mutual
theorem C6.clean {K:za0}{H:Hp}{P P':Addr->Prop}(ht:∀a,P' a->E6 H a):∀ {v:V}{t:OT}{fp:List Addr},Jc t=true->C6 K H P v t fp->C6 K H P' v t fp
 |_,_,_,n,.sh h=>.sh (h.Lq ht (by rw[Jc] at n;exact n))
 |_,_,_,n,.lst h r=>.lst h (AO.clean ht (by rw[Jc] at n;exact n) r)
 |_,_,_,n,.tup h r=>.tup (UU ht h) (AO.clean ht (by rw[Jc] at n;exact n) r)
 |_,_,_,n,.dK h r=>.dK h (AO.clean ht (by rw[Jc] at n;exact n) r)
 |_,_,_,n,.dT h r=>.dT h (AO.clean ht (by rw[Jc] at n;exact n) r)
 |_,_,_,n,.ins x h r=>.ins x h (AO.clean ht (by rw[Jc] at n;exact n) r)
theorem AO.clean {K:za0}{H:Hp}{P P':Addr->Prop}(ht:∀a,P' a->E6 H a):∀ {v:List V}{t:List OT}{fp:List Addr},Hf t=true->AO K H P v t fp->AO K H P' v t fp
 |_,_,_,_,.nil=>.nil
 |_,_,_,n,.cons h r=>by
  rw[Hf,zb1] at n;exact .cons (C6.clean ht n.1 h) (AO.clean ht n.2 r)
end
noncomputable def Wi (m:M OT):M OT:=m.bind λ t=>if Jc t=true then .ok t else .bad
theorem Jz (h:DN X WX e fn):DN X WX e (λ ρ=>Wi (fn (Jb ρ))):=by
 obtain⟨t,h1,h2⟩:=h;refine⟨t,h1,λ P0 P σ H Q ρ E g=>h2 P0 P0 σ H Q (Jb ρ) E.low ?_⟩;unfold Wi at g;dsimp only at g;cases q:fn (Jb ρ) with
 |bad|ex x=>rw[q] at g;exact g
 |ok t =>
  rw[q] at g;simp only[M.A8] at g;by_cases hf:Jc t=true
  ·rw[if_pos hf] at g;exact λ v fp H' s hn nd o=>g v fp H' s hn nd (o.clean (Lu (E.same s).Ci o) hf)
  ·rw[if_neg hf] at g;exact g.elim
noncomputable def Jy (d:D):M OT:=match d with
 | .lst ds| .tup ds=>.ok (.lst (ds.map .sh))
 |_=>.bad
theorem iR {p:Pos}(hg:Gl X "list")(hm:X.mg "list" = none)(ha:DE X WX true e f)(hb:bootBuiltins "list" = some (.type "list"):=by decide +kernel)(cu:starEach [e] X.env=[(false,eval e X.env)]:=by rfl):
 DN X WX (.Call (.Name "list" p) [e] [] pos) (λ ρ=>(f ρ).bind Jy):=by
 obtain⟨ta,a1,a2⟩:=ha;refine⟨_,P5 Ql hg hm hb (Bb a1 Cj cu) (he:=cu),λ P0 P σ H Q ρ E h=>?_⟩;dsimp only at h;refine a2 P0 P σ H _ ρ E ?_;cases q:f ρ with
 |bad|ex x=>rw[q] at h;exact h
 |ok d =>
  rw[q] at h;simp only[M.A8] at h;intro v H1 s1 hv;unfold Jy at h;split at h
  ·cases hv with
   |lst hs hh=>exact⟨_,_,rfl,.inl hs.Bs,h.Jy s1 hh⟩
  ·cases hv with
   |tup hs hh=>exact⟨_,_,rfl,.inr (Gr.of (Ax hs).2),h.Jy s1 hh⟩
  ·exact h.elim
def xE (K:za0)(WX:Str->Hp->Prop)(r:R2)(cO:D->D->M OT):Prop:=
 ∀(P:Addr->Prop) (H:Hp) (x y:D) (v w:V) (Q:VK),(∀a,P a->E6 H a)->BZ K (del H P) v x->BZ K (del H P) w y->YH K WX P H Q (cO x y)->r v w H Q
theorem lP {ta tb:TE}{r:R2}{cO:D->D->M OT}(ha:∀P0 P σ H Q ρ,Al X.K P0 P H σ ρ->gV X.K WX (Lv true P0 P) H Q (f ρ)->ta σ H Q)(hb:∀P0 P σ H Q ρ,Al X.K P0 P H σ ρ->gV X.K WX (Lv true P0 P) H Q (g ρ)->tb σ H Q)
 (hr:xE X.K WX r cO) {Q:VK} (E:Al X.K P0 P H σ ρ) (h:YH X.K WX P H Q ((f ρ).bind λ x=>(g ρ).bind λ y=>cO x y)):rE r ta tb σ H Q:=by
 refine ha P0 P σ H _ ρ E ?_;cases e:f ρ with
 |bad|ex x=>rw[e] at h;exact h
 |ok x =>
  rw[e] at h;intro v H1 s1 hv;refine hb P0 P σ H1 _ ρ (E.same s1) ?_;cases e2:g ρ with
  |bad=>rw[e2] at h;exact h
  |ex y=>rw[e2] at h;exact λ H' s=>h H' (s1.trans s)
  |ok y =>
   rw[e2] at h;intro w H2 s2 hw;exact hr _ H2 x y v w Q ((E.same s1).same s2).Ci (hv.mono s2.del) hw ((h.same s1).same s2)
noncomputable def Mb (x y:D):M OT:=match x,y with
 | .lst a,.lst b=>if a.length+b.length<=1000 then .ok (.lst ((a++b).map .sh)) else .bad
 |_,_=>.bad
end
noncomputable def spT (K:za0)(n:Nat)(F:List D->M OT):Sp:=λ vs H Q E=>vs.length=n/\∃P ds,(∀a,P a->E6 H a)/\Aj K (del H P) vs ds/\YH K (Df K E) P H Q (F ds)
noncomputable def tZ:Cl->M OT
 | .val d=>.ok (.sh d)
 | .own ds=>.ok (.lst (ds.map .sh))
 | .ow (.rows Hv)=>.ok (.lst (Hv.map λ ds=>.lst (ds.map .sh)))
 | .ow (.J9 _ _)=>.bad
 | .ow (.tree none t)=>.ok t
 | .ow (.tree (some _) _)=>.bad
noncomputable def TN (m:M Out):M OT:=match m with
 | .ok (.ret d)=>.ok (.sh d)
 | .ok (.Cm c)=>tZ c
 | .ok (.next _)=>.ok (.sh .AK)
 | .ex x=>.ex x
 |_=>.bad
theorem EJ.ows {K:za0}{H:Hp}{P:Addr->Prop}:∀ {ps:List Addr}{Hv:List (List D)},EJ K H P ps Hv->AO K H P (ps.map V.ref) (Hv.map λ ds=>.lst (ds.map .sh)) ps
 |_,_,.nil=>.nil
 |_,_,.cons h r t=>.cons (.lst h r.ows) t.ows
theorem DC.tree {K:za0}{H:Hp}{P:Addr->Prop}{c:Cl}{v:V}{fp:List Addr}{t:OT}(h:DC K H P c v fp)(e:tZ c=.ok t):C6 K H P v t fp:=by
 cases c with
 |val d=>exact h.elim
 |own ds =>
  cases e;obtain⟨p,xs,rfl,rfl,h1,h2⟩:=h;exact .lst h1 h2.ows
 |ow o =>
  cases o with
  |rows Hv =>
   cases e;obtain⟨p,ps,rfl,rfl,h1,h2⟩:=h;exact .lst h1 h2.ows
  |J9 p ds=>cases e
  |tree p t' =>
   cases p with
   |none=>cases e;exact h
   |some q=>cases e
section
variable {P:Program}{w:World}{K:za0}{mg:Str->Option Value}{base:Heap}
theorem iS {WX:Str->Hp->Prop}{P P2:Addr->Prop}{H H':Hp}{Q:VK}{c:Cl}{v:V}{fp:List Addr}(h:YH K WX P H Q (tZ c))(t:Tr P P H P2 H')(hs:∀a,P a->P2 a)(ho:DC K H' P2 c v fp)(hp:∀a∈fp,P2 a/\¬ P a)(nd:fp.Nodup):Q v H':=by
 cases q:tZ c with
 |bad=>rw[q] at h;exact h.elim
 |ex x=>cases c with
  |val d|own ds=>cases q
  |ow o =>
   cases o with
   |rows Hv|J9 p ds=>cases q
   |tree p t'=>cases p<;>cases q
 |ok u =>
  rw[q] at h;have o:=ho.tree q;refine h v fp H' (E9 t) (λ a ha=>oZ t (hp a ha).1 (hp a ha).2) nd (o.move (CV λ a ha=>ha.elim (hs a) λ z=>(hp a z).1) λ _ _=>rfl)
theorem uA {x qual:Str}{st:Stmt}{f:Addr}{fd:FuncData}{N ps:List Str}{k:Nat}(F:Xq K x qual st f fd)(S:Ak N ps (A6 st))(g:Aa->M Out)
 (hb:∀(Bf:Value) (A:Around) (outer:List Env) (s:Shared) (H:Hp) (E:XK),BW k (A.deeper (envOfC qual (A6 st) s.heap.objs.size f Bf))->Pg (US P w K mg base N qual (A6 st) f Bf A outer s H E) (Df K E) (AM st) g):
 E8 P w K mg base (UR P w base) (k+1) f fd ps (spT K ps.length λ ds=>TN (g (AI N ds))):=by
 obtain⟨oc,od,kV,doc,pm,an,Bf,ct,T7,rfl,lk,de⟩:=F.ex;refine UI lk de S (λ vs H Q E h=>h.1) λ A outer s H vs Q E hr h=>?_;obtain⟨hl,P',ds,ht,hv,hq⟩:=h;obtain⟨t,h1,h2⟩:=hb Bf A outer s H E hr;refine⟨t,h1,h2 ⟨P',λ _=>0⟩ P' _ H _ _ (Ph ht hv) ?_⟩;dsimp only at hq;revert hq;cases g (AI N ds) with
 |bad=>exact λ h=>h.elim
 |ex x=>exact λ h H' P2 t=>h H' (E9 t)
 |ok o =>
  cases o with
  |ret d=>exact λ h v H' P2 t hv=>h v [] H' (E9 t) (λ a ha=>by cases ha) zcj (.sh (by rw[TM];exact hv))
  |next ρ=>exact λ h σ' H' P2 t E=>h .AK [] H' (E9 t) (λ a ha=>by cases ha) zcj (.sh .AK)
  |brk ρ|cont ρ=>exact λ h=>h.elim
  |Cm c=>exact λ h v fp H' P2 t hs ht ho hp nd=>iS h t hs ho hp nd
  |EK d ρ=>exact λ h=>h.elim
end
structure CC (P:Program)(w:World)(K:za0)(mg:Str->Option Value)(base:Heap)(x:Str)(k n:Nat)(F:List D->M OT):Prop where
 ex:∃fa fd ps,E8 P w K mg base (UR P w base) k fa fd ps (spT K n F)/\mg x=some (.ref fa)/\zb6 K (.ref fa)=true/\Binds K fd ps []
theorem AY {P:Program}{w:World}{K:za0}{mg:Str->Option Value}{base:Heap}{x:Str}{st:Stmt}{N ps:List Str}{k n:Nat}(T:B6 K mg x st ps)(S:Ak N ps (A6 st))(g:Aa->M Out)
 (hb:∀(f:Addr) (Bf:Value) (A:Around) (outer:List Env) (s:Shared) (H:Hp) (E:XK),BW k (A.deeper (envOfC x (A6 st) s.heap.objs.size f Bf))->Pg (US P w K mg base N x (A6 st) f Bf A outer s H E) (Df K E) (AM st) g) (hn:ps.length=n:=by rfl):
 CC P w K mg base x (k+1) n (λ ds=>TN (g (AI N ds))):=by
 obtain⟨f,fd,F,hm,hB⟩:=T.ex;subst hn;exact⟨⟨f,fd,ps,uA F S g (hb f),hm,F.kp,hB⟩⟩
section
variable {X:Cx}{E:XK}{WX:Str->Hp->Prop}{c:Bool}{e:Expr}{es:List Expr}{fs:Aa->M (List D)}{f:Aa->M D}{fn:Aa->M OT}{ft:Aa->M Bool}{pos:Pos}
theorem Ai {k n:Nat}{F:List D->M OT}{x:Str}{p:Pos}(xo:XCall X E)(G:CC X.prog X.w X.K X.mg X.base x k n F)(hr:BW k X.A)(hg:Gl X x)(ha:DA X (Df X.K E) true (e::es) fs)(hn:(e::es).length=n)
 (cC:(x==("__debug__" : Str))=false:=by decide) (he:starEach (e::es) X.env=(false,eval e X.env)::starEach es X.env:=by rfl) (bU:(backTo pos (starEach es X.env)).any (·.1)=false:=by rfl):
 DN X (Df X.K E) (.Call (.Name x p) (e::es) [] pos) (λ ρ=>(fs ρ).bind F):=by
 obtain⟨fa,fd,ps,hF,hm,hk,hb⟩:=G.ex;obtain⟨ta,a1,a2,a3⟩:=ha;refine⟨_,UH hF hr hg hm hk hb .nil xo.call a1 cC he bU,λ P0 P σ H Q ρ E h=>?_⟩;dsimp only at h;refine a2 P0 P σ H _ ρ E ?_;cases q:fs ρ with
 |bad|ex x=>rw[q] at h;exact h
 |ok ds =>
  rw[q] at h;simp only[M.A8] at h;intro vs H1 s1 cB;rw[zbj];exact⟨by rw[cB.length,a3 ρ ds q];exact hn,P,ds,(E.same s1).Ci,cB,h.same s1⟩
theorem Cp (h:DN X WX e fn):DN X (λ _ _=>False) e fn:=by
 obtain⟨t,h1,h2⟩:=h;refine⟨t,h1,λ P0 P σ H Q ρ E g=>h2 P0 P σ H Q ρ E ?_⟩;cases q:fn ρ with
 |bad=>rw[q] at g;exact g
 |ex x=>rw[q] at g;exact (g H (Ag.refl H)).elim
 |ok t=>rw[q] at g;exact g
noncomputable def Wj (t:OT):M Out:=match t with
 | .sh d=>.ok (.ret d)
 |t=>.ok (.Cm (.ow (.tree none t)))
end
section
variable {X:Cx}{WX:Str->Hp->Prop}{c:Bool}{P0:E7}{P:Addr->Prop}{H:Hp}{σ:St}{ρ:Aa}{a b e:Expr}{f g:Aa->M D}{fn:Aa->M OT}{pos:Pos}
theorem Al.vN {K:za0}{H':Hp}{fp:List Addr}(E:Al K P0 P H σ ρ)(s:Ag H H')(hn:∀a∈fp,H a=none):Tr P0 P H (PU P fp) H':=
 ⟨Fb s hn,λ a ha=>by obtain⟨o,q,_⟩:=E.Ci a (E.sub a ha);rw[q];exact s _ _ q⟩
theorem As (ha:DN X WX e fn):DS X WX (.Return (some e) pos) (λ ρ=>(fn ρ).bind Wj):=by
 obtain⟨ta,a1,a2⟩:=ha;refine⟨_,Tc a1,λ P0 P σ H Z ρ E h=>?_⟩;dsimp only at h;refine a2 P0 P σ H _ ρ E ?_;cases q:fn ρ with
 |bad=>rw[q] at h;exact h
 |ex x=>rw[q] at h;exact λ H' s=>h H' P (E.tr s)
 |ok t =>
  rw[q] at h;simp only[M.A8] at h;intro v fp H' s hn nd o;have key:gS X.K WX P0 P H Z (.ok (.Cm (.ow (.tree none t))))->Z.rt v H':=λ h =>
   h v fp H' (PU P fp) (E.vN s hn) (λ a ha=>.inl (E.sub a ha)) (Lu (E.same s).Ci o) o (λ a ha=>⟨.inr ha,λ z=>(E.Ci a (E.sub a z)).no (hn a ha)⟩) nd
  cases t with
  |sh d =>
   cases o with
   |sh hv=>exact h v H' P (E.tr s) (hv.mono (CV λ a ha=>.inl (E.sub a ha)))
  |lst ts|tup ts|Bl b ks ts|ins x ns ts=>exact key h
noncomputable def EN:List OT->Option (List D)
 |[]=>some []
 | .sh d::r=>(EN r).map (d::·)
 |_::_=>none
theorem CQ:∀ds:List D,EN (ds.map .sh)=some ds
 |[]=>rfl
 |d::r=>by rw[za8,EN,CQ r];rfl
theorem Dq:∀ {ts:List OT}{ds:List D},EN ts=some ds->ts=ds.map .sh
 |[],ds,h=>by cases h;rfl
 | .sh d::r,ds,h=>by
  rw[EN] at h;cases q:EN r with
  |none=>rw[q] at h;cases h
  |some es=>rw[q] at h;cases h;rw[za8,<-Dq q]
 | .lst _::r,ds,h| .tup _::r,ds,h| .Bl _ _ _::r,ds,h| .ins _ _ _::r,ds,h=>by cases h
noncomputable def toCl (p:Option Nat)(t:OT):Cl:=match t with
 | .lst ts=>(match EN ts with
  |some ds=>(match p with|none=>.own ds|some q=>.ow (.J9 q ds))
  |none=>.ow (.tree p (.lst ts)))
 |t=>.ow (.tree p t)
@[simp] theorem toCl_list (ds:List D):toCl none (.lst (ds.map .sh))=.own ds:=by unfold toCl;simp only[CQ]
@[simp] theorem toCl_listP (q:Nat) (ds:List D):toCl (some q) (.lst (ds.map .sh))=.ow (.J9 q ds):=by unfold toCl;simp only[CQ]
@[simp] theorem toCl_dct (p:Option Nat) (b:Bool) (ks:List D) (ts:List OT):toCl p (.Bl b ks ts)=.ow (.tree p (.Bl b ks ts)):=rfl
noncomputable def treeOf:Cl->Option (Option Nat×OT)
 | .own ds=>some (none,.lst (ds.map .sh))
 | .ow (.J9 p ds)=>some (some p,.lst (ds.map .sh))
 | .ow (.rows Hv)=>some (none,.lst (Hv.map λ ds=>.lst (ds.map .sh)))
 | .ow (.tree p t)=>some (p,t)
 | .val _=>none
theorem DC.toT {K:za0}{H:Hp}{P:Addr->Prop}{c:Cl}{v:V}{fp:List Addr}{p:Option Nat}{t:OT}(h:DC K H P c v fp)(e:treeOf c=some (p,t)):C6 K H P v t fp:=by
 cases c with
 |val d=>exact h.elim
 |own ds =>
  cases e;obtain⟨p,xs,rfl,rfl,h1,h2⟩:=h;exact .lst h1 h2.ows
 |ow o =>
  cases o with
  |rows Hv =>
   cases e;obtain⟨p,ps,rfl,rfl,h1,h2⟩:=h;exact .lst h1 h2.ows
  |J9 p ds =>
   cases e;obtain⟨p,xs,rfl,rfl,h1,h2⟩:=h;exact .lst h1 h2.ows
  |tree p t'=>cases e;exact h
theorem DC.toCl {K:za0}{H:Hp}{P:Addr->Prop}{v:V}{fp:List Addr}{p:Option Nat}{t:OT}(h:C6 K H P v t fp):DC K H P (toCl p t) v fp:=by
 unfold L2.toCl;split
 ·rename_i ts;cases q:EN ts with
  |none=>exact h
  |some ds =>
   have e:=Dq q;subst e;cases h with
   |lst h1 h2 =>
    obtain⟨rfl,h3⟩:=h2.pC;cases p with
    |none|some q=>exact⟨_,_,rfl,rfl,h1,h3⟩
 ·exact h
theorem GC (p:Option Nat)(t:OT):Pb (toCl p t)=p:=by
 unfold toCl;split
 ·rename_i ts;cases q:EN ts with
  |none|some ds=>cases p<;>rfl
 ·cases p<;>rfl
theorem JA {c:Cl}{p:Option Nat}{t:OT}(h:treeOf c=some (p,t)):Pb c=p:=by
 cases c with
 |val d=>cases h
 |own ds=>cases h;rfl
 |ow o =>
  cases o with
  |rows Hv|J9 p ds=>cases h;rfl
  |tree p t=>cases h;cases p<;>rfl
noncomputable def RN (i:Nat)(ρ:Aa)(t:OT):M Out:=match t with
 | .sh d=>.ok (.next (ρ.set i (some (.val d))))
 |t=>.ok (.next (ρ.set i (some (toCl none t))))
theorem uB {K:za0}{i:Nat}{t:OT}{v:V}{fp:List Addr}{H':Hp}{Z:Ends}(E:Al K P0 P H σ ρ)(s:Ag H H')(hn:∀a∈fp,H a=none)(nd:fp.Nodup)(o:C6 K H' (PU P fp) v t fp)(h:gS K WX P0 P H Z (RN i ρ t)):Z.nx (σ.set i (some v)) H':=by
 have key:gS K WX P0 P H Z (.ok (.next (ρ.set i (some (toCl none t)))))->Z.nx (σ.set i (some v)) H':=λ h=>by
  refine h _ H' (PU P fp) (E.vN s hn) (E.gZ Nv (Lu (E.same s).Ci o) (Fb s hn) (λ j c' v' aO au g1 g2 g3 a ha=>?_) (DC.toCl o) (λ a ha=>⟨.inr ha,λ z=>(E.Ci a (E.sub a z)).no (hn a ha)⟩) nd (λ n z=>by rw[GC] at z;cases z));obtain⟨xs,z⟩:=g3.at a ha;exact⟨by rw[z];exact s _ _ z,λ w=>by rw[hn a w] at z;cases z⟩
 cases t with
 |sh d =>
  cases o with
  |sh hv=>exact h _ H' P (E.tr s) ((E.same s).RD (by rw[TM] at hv;exact hv))
 |lst ts|tup ts|Bl b ks ts|ins x ns ts=>exact key h
theorem D1 (i:Nat){x:Str}{pos':Pos}(hN:X.N.Nodup)(hi:X.N[i]?=some x)(hx:Loc X.env.scope x)(ha:DN X WX e fn)(hs:swapsWith e (some (.Name x pos')) pos.line X.env=pure false:=by rfl)(hf:X.fn x=true\/X.env.scope.names.lookup x=some .local:=by first | exact .inl rfl | exact .inr rfl | assumption):
 DS X WX (.Assign [.Name x pos'] e pos) (λ ρ=>(fn ρ).bind (RN i ρ)):=by
 obtain⟨ta,a1,a2⟩:=ha;refine⟨_,Td hN hi hx a1 hs hf,λ P0 P σ H Z ρ E h=>?_⟩;dsimp only at h;refine a2 P0 P σ H _ ρ E ?_;cases q:fn ρ with
 |bad=>rw[q] at h;exact h
 |ex x=>rw[q] at h;exact λ H' s=>h H' P (E.tr s)
 |ok t =>
  rw[q] at h;exact λ v fp H' s hn nd o=>uB E s hn nd o h
noncomputable def TQ (i:Nat)(ρ:Aa):M Out:=match ρ[i]? with
 |some (some (.val d))=>.ok (.ret d)
 |some (some c)=>.ok (.Cm c)
 |_=>.bad
theorem Fc (i:Nat){x:Str}{p1:Pos}(hv:PE X (.Name x p1) (Rg i)):DS X WX (.Return (some (.Name x p1)) pos) (TQ i):=by
 refine⟨_,Tc hv,λ P0 P σ H Z ρ E h=>?_⟩;unfold TQ at h;split at h
 ·rename_i d e1;obtain⟨v,h1,h2⟩:=E.val i d e1;exact⟨v,h1,h v H P Tr.refl (h2.mono (CV E.sub))⟩
 ·rename_i c hc e1;have io:Ja c=true:=by
   cases c with
   |val d=>exact (hc d rfl).elim
   |own ds|ow o=>rfl
  obtain⟨v,fp,h1,h2,h3,h4⟩:=E.ows i _ e1 io;exact⟨v,h1,h v fp H P Tr.refl E.sub E.Ci h2 h3 h4⟩
 ·exact h.elim
theorem Qz:∀ds:List D,Rz (ds.map .sh)=ds
 |[]=>rfl
 |d::r=>by rw[za8,Rz,er,Qz r]
noncomputable def YI (i:Nat)(ρ:Aa):Aa:=match ρ[i]? with
 |some (some c)=>ρ.set i (some (Mr c))
 |_=>ρ
end
section
variable {K:za0}{H H':Hp}{P P':Addr->Prop}
theorem CP.same {v:V}{t:OT}{q:List Addr}{xs:List V}(e:Ag H H')(h:CP K H P v t q xs):CP K H' P v t q xs:=by
 cases t with
 |sh d=>exact h.elim
 |lst ts=>obtain⟨p,rfl,rfl,h⟩:=h;exact⟨p,rfl,rfl,e _ _ h⟩
 |tup ts=>obtain⟨p,rfl,rfl,h⟩:=h;exact⟨p,rfl,rfl,e.del _ _ h⟩
 |Bl b ks ts =>
  cases b with
  |false|true=>obtain⟨p,kvs,rfl,rfl,h,rfl,rfl⟩:=h;exact⟨p,kvs,rfl,rfl,e _ _ h,rfl,rfl⟩
 |ins x ns ts=>obtain⟨p,C,dx,fs,rfl,rfl,n,h,rfl,rfl⟩:=h;exact⟨p,C,dx,fs,rfl,rfl,n,e _ _ h,rfl,rfl⟩
theorem Kk.same {v v1:V}{t t1:OT}{π:List Nat}(e:Ag H H')(h:Kk K H P v t π v1 t1):Kk K H' P v t π v1 t1:=by
 induction h with
 |nil=>exact .nil
 |cons n hx hs _ ih=>exact .cons (n.same e) hx hs ih
theorem CP.more {v:V}{t:OT}{q:List Addr}{xs:List V}(sm:Ag (del H P) (del H' P'))(e:Ag H H')(h:CP K H P v t q xs):CP K H' P' v t q xs:=by
 cases t with
 |sh d=>exact h.elim
 |lst ts=>obtain⟨p,rfl,rfl,h⟩:=h;exact⟨p,rfl,rfl,e _ _ h⟩
 |tup ts=>obtain⟨p,rfl,rfl,h⟩:=h;exact⟨p,rfl,rfl,sm _ _ h⟩
 |Bl b ks ts =>
  cases b with
  |false|true=>obtain⟨p,kvs,rfl,rfl,h,rfl,rfl⟩:=h;exact⟨p,kvs,rfl,rfl,e _ _ h,rfl,rfl⟩
 |ins x ns ts=>obtain⟨p,C,dx,fs,rfl,rfl,n,h,rfl,rfl⟩:=h;exact⟨p,C,dx,fs,rfl,rfl,n,e _ _ h,rfl,rfl⟩
theorem Kk.more {v v1:V}{t t1:OT}{π:List Nat}(sm:Ag (del H P) (del H' P'))(e:Ag H H')(h:Kk K H P v t π v1 t1):Kk K H' P' v t π v1 t1:=by
 induction h with
 |nil=>exact .nil
 |cons n hx hs _ ih=>exact .cons (n.more sm e) hx hs ih
end
noncomputable def UY (i:Nat)(ρ:Aa)(π:List Nat):Option OT:=match ρ[i]? with
 |some (some c)=>(match treeOf c with|some (_,t)=>Ls t π|none=>none)
 |_=>none
structure Bo (K:za0)(P:Addr->Prop)(H:Hp)(σ:St)(ρ:Aa)(i:Nat)(π:List Nat)(v:V)(t1:OT):Prop where
 ex:∃v0 c p t,ρ[i]?=some (some c)/\treeOf c=some (p,t)/\σ[i]?=some (some v0)/\Kk K H P v0 t π v t1
theorem Bo.at {K:za0}{P:Addr->Prop}{H:Hp}{σ:St}{ρ:Aa}{i:Nat}{π:List Nat}{v:V}{t1:OT}(h:Bo K P H σ ρ i π v t1):UY i ρ π=some t1:=by
 obtain⟨v0,c,p,t,h1,h2,h3,h4⟩:=h.ex;unfold UY;simp only[h1,h2];exact h4.sub
theorem Bo.same {K:za0}{P:Addr->Prop}{H H':Hp}{σ:St}{ρ:Aa}{i:Nat}{π:List Nat}{v:V}{t1:OT}(e:Ag H H')(h:Bo K P H σ ρ i π v t1):Bo K P H' σ ρ i π v t1:=by
 obtain⟨v0,c,p,t,h1,h2,h3,h4⟩:=h.ex;exact⟨v0,c,p,t,h1,h2,h3,h4.same e⟩
theorem Bo.more {K:za0}{P P':Addr->Prop}{H H':Hp}{σ:St}{ρ:Aa}{i:Nat}{π:List Nat}{v:V}{t1:OT}(sm:Ag (del H P) (del H' P'))(e:Ag H H')(h:Bo K P H σ ρ i π v t1):Bo K P' H' σ ρ i π v t1:=by
 obtain⟨v0,c,p,t,h1,h2,h3,h4⟩:=h.ex;exact⟨v0,c,p,t,h1,h2,h3,h4.more sm e⟩
theorem Bo.own {K:za0}{P0:E7}{P:Addr->Prop}{H:Hp}{σ:St}{ρ:Aa}{i:Nat}{π:List Nat}{v:V}{t1:OT}(h:Bo K P H σ ρ i π v t1)(E:Al K P0 P H σ ρ):∃bY,C6 K H P v t1 bY/\(∀a∈bY,P a/\¬ P0 a)/\bY.Nodup:=by
 obtain⟨v0,c,p,t,h1,h2,h3,h4⟩:=h.ex;have io:Ja c=true:=by cases c<;>first|rfl|cases h2
 obtain⟨w,fp,k1,k2,k3,k4⟩:=E.ows i c h1 io;rw[h3] at k1;cases k1;obtain⟨bY,o1,hk,kn⟩:=(k2.toT h2).part h4;exact⟨bY,o1,λ a ha=>k3 a (hk a ha),kn k4⟩
def gP (K:za0)(WX:Str->Hp->Prop)(P:Addr->Prop)(H:Hp)(σ:St)(ρ:Aa)(i:Nat)(Q:VK):M (List Nat)->Prop
 | .ok π=>∀v t1 H',Ag H H'->Bo K P H' σ ρ i π v t1->Q v H'
 | .ex x=>∀H',Ag H H'->WX x H'
 | .bad=>False
def DP (X:Cx)(WX:Str->Hp->Prop)(e:Expr)(i:Nat)(f:Aa->M (List Nat)):Prop:=
 ∃t,PE X e t/\∀P0 P σ H Q ρ,Al X.K P0 P H σ ρ->gP X.K WX P H σ ρ i Q (f ρ)->t σ H Q
section
variable {X:Cx}{WX:Str->Hp->Prop}{c:Bool}{P0:E7}{P:Addr->Prop}{H:Hp}{σ:St}{ρ:Aa}{a b e:Expr}{f g:Aa->M D}{fn:Aa->M OT}{fp:Aa->M (List Nat)}{pos:Pos}{i:Nat}
noncomputable def RO (i:Nat)(ρ:Aa):M (List Nat):=match UY i ρ [] with | some _=>.ok [] | none=>.bad
theorem BX (i:Nat){x:Str}{p1:Pos}(hv:PE X (.Name x p1) (Rg i)):DP X WX (.Name x p1) i (RO i):=by
 refine⟨_,hv,λ P0 P σ H Q ρ E h=>?_⟩;unfold RO at h;split at h
 ·rename_i t e;unfold UY at e;split at e
  ·rename_i cl e1;split at e
   ·rename_i p t0 e2;have io:Ja cl=true:=by cases cl<;>first|rfl|cases e2
    obtain⟨v,fp,h1,h2,h3,h4⟩:=E.ows i cl e1 io;exact⟨v,h1,h v t0 H (Ag.refl H) ⟨v,cl,p,t0,e1,e2,h1,.nil⟩⟩
   ·cases e
  ·cases e
 ·exact h.elim
noncomputable def xF (i:Nat)(ρ:Aa)(π:List Nat):M D:=match UY i ρ π with
 |some (.sh d)=>.ok d
 |_=>.bad
theorem Al.uC {K:za0}{P':Addr->Prop}{H':Hp}{π:List Nat}{v1:V}{t1 u:OT}{bY fu:List Addr}(E:Al K P0 P H σ ρ)(pl:Bo K P H σ ρ i π v1 t1)(o:C6 K H P v1 t1 bY)(hs:∀a,P a->P' a)(ht:∀a,P' a->E6 H' a)(sm:Ag (del H P) (del H' P'))(keep:∀a,P a->a∉bY->H' a=H a)
 (o':C6 K H' P' v1 u fu) (nd:fu.Nodup) (hf:∀a∈fu,a∈bY\/(P' a/\¬ P0 a/\∀(j:Nat) c v fp,ρ[j]?=some (some c)->σ[j]?=some (some v)->DC K H P c v fp->a∉fp)):
 ∃c p t,ρ[i]?=some (some c)/\treeOf c=some (p,t)/\Al K P0 P' H' σ (ρ.set i (some (toCl p (EM t π u))))/\Tr P0 P H P' H':=by
 obtain⟨v0,c,p,t,h1,h2,h3,h4⟩:=pl.ex;have io:Ja c=true:=by cases c<;>first|rfl|cases h2
 obtain⟨w,fp,k1,k2,k3,k4⟩:=E.ows i c h1 io;rw[h3] at k1;cases k1;have ot:=k2.toT h2;obtain⟨fz,oz,kz,_⟩:=ot.part h4;have:=oz.Cf o;subst this;obtain⟨aO,q1,q2,q3⟩:=ot.put sm h4 o o' (λ a ha hn=>keep a (k3 a ha).1 hn) k4 nd (λ a ha hb=>(hf a ha).elim id λ z=>(z.2.2 i c v0 fp h1 h3 k2 hb).elim);refine⟨c,p,t,h1,h2,?_,sm,λ a ha=>keep a (E.sub a ha) λ z=>(k3 a (kz a z)).2 ha⟩;have key:=E.gZ (P':=P') (H':=H') (i:=i) (v:=v0) (c:=toCl p (EM t π u)) (fp:=aO) hs ht sm (λ j c' v' fq au g1 g2 g3 a ha=>?_) (DC.toCl q1) (λ a ha=>?_) q2 (λ n z=>by rw[GC] at z;subst z;have:=E.pin i c n h1 (JA h2);rw[h3] at this;cases this;rfl)
 ·rw[Qs h3] at key;exact key
 ·have rz:a∉fp:=E.apart j i c' c v' v0 fq fp g1 h1 g2 h3 g3 k2 (zbp au) a ha;have ly:Ja c'=true:=by cases c'<;>first|rfl|exact g3.elim
  obtain⟨w',fr,m1,m2,m3,m4⟩:=E.ows j c' g1 ly;rw[g2] at m1;cases m1;have:=m2.Cf g3;subst this;refine⟨keep a (m3 a ha).1 λ z=>rz (kz a z),λ z=>?_⟩;rcases q3 a z with y|y
  ·rcases hf a y with x|x
   ·exact rz (kz a x)
   ·exact x.2.2 j c' v' fr g1 g2 g3 ha
  ·exact rz y.1
 ·rcases q3 a ha with y|y
  ·rcases hf a y with x|x
   ·exact⟨hs a (k3 a (kz a x)).1,(k3 a (kz a x)).2⟩
   ·exact⟨x.1,x.2.1⟩
  ·exact⟨hs a (k3 a y.1).1,(k3 a y.1).2⟩
theorem Al.pE {K:za0}{π:List Nat}{l:Addr}{xs ys:List V}{ts us:List OT}{fq fu:List Addr}(E:Al K P0 P H σ ρ)(pl:Bo K P H σ ρ i π (.ref l) (.lst ts))(hH:H l=some (.lst xs))(o:AO K H P xs ts fq)(o':AO K H P ys us fu)(nd:fu.Nodup)(hl:l∉fu)
 (hf:∀a∈fu,a∈fq\/(P a/\¬ P0 a/\∀(j:Nat) c v fp,ρ[j]?=some (some c)->σ[j]?=some (some v)->DC K H P c v fp->a∉fp)):
 ∃c p t,ρ[i]?=some (some c)/\treeOf c=some (p,t)/\Al K P0 P (upd H l (.lst ys)) σ (ρ.set i (some (toCl p (EM t π (.lst us)))))/\Tr P0 P H P (upd H l (.lst ys)):=by
 have ot:C6 K H P (.ref l) (.lst ts) (l::fq):=.lst hH o;obtain⟨bY,o1,hp,_⟩:=pl.own E;have:=o1.Cf ot;subst this;have pP:P l:=(hp l za3).1;have sd:del (upd H l (.lst ys)) P=del H P:=by
  funext b;by_cases hb:P b
  ·rw[Gx hb,Gx hb]
  ·rw[AQ hb,AQ hb,Aq (λ z=>hb (by rw[z];exact pP))]
 have sm:Ag (del H P) (del (upd H l (.lst ys)) P):=by rw[sd];exact Ag.refl _
 refine E.uC pl ot (λ _ h=>h) (λ a h=>?_) sm (λ a ha hn=>Aq λ z=>hn (by rw[z];exact za3)) (.lst AU (o'.move sm λ a ha=>Aq λ z=>hl (by rw[<-z];exact ha))) (zbi.mpr ⟨hl,nd⟩) (λ a ha=>?_)
 ·by_cases ha:a=l
  ·subst ha;exact E6.lst AU
  ·unfold E6;rw[Aq ha];exact E.Ci a h
 ·rcases za9.mp ha with z|z
  ·exact .inl (by rw[z];exact za3)
  ·rcases hf a z with y|y
   ·exact .inl (za4 _ y)
   ·exact .inr y
end
noncomputable def kd:D->Option Key
 | .int i=>some (.inl i)
 | .str x=>some (.inr x)
 |_=>none
noncomputable def rH:List D->Option (List Key)
 |[]=>some []
 |d::r=>match kd d,rH r with|some k,some ks=>some (k::ks)|_,_=>none
theorem lQ {d:D}{k:Key}(h:kd d=some k):d=Fn k:=by
 cases d<;>simp[kd] at h<;>subst h<;>rfl
theorem YJ:∀ {ds:List D}{ks:List Key},rH ds=some ks->ds=ks.map Fn
 |[],ks,h=>by cases h;rfl
 |d::r,ks,h=>by
  rw[rH] at h;cases q:kd d with
  |none=>rw[q] at h;cases h
  |some k =>
   cases q2:rH r with
   |none=>rw[q,q2] at h;cases h
   |some lz =>
    rw[q,q2] at h;cases h;rw[za8,<-lQ q,<-YJ q2]
inductive iT:Bool->D->Prop
 |k (κ:Key):iT false (Fn κ)
 |t (κ:List Key):iT true (.tup (κ.map Fn))
noncomputable def keyOk (b:Bool)(d:D):Bool:=match b,d with
 |false,d=>(kd d).isSome
 |true,.tup ds=>(rH ds).isSome
 |_,_=>false
theorem Nx {b:Bool}{d:D}(h:keyOk b d=true):iT b d:=by
 cases b with
 |false =>
  obtain⟨k,hk⟩:=zbs.mp (show (kd d).isSome=true from h);rw[lQ hk];exact .k k
 |true =>
  cases d with
  |tup ds =>
   obtain⟨k,hk⟩:=zbs.mp (show (rH ds).isSome=true from h);rw[YJ hk];exact .t k
  |_=>cases h
theorem Ny (a b:Key):AA (Fn a) (Fn b)=decide (a=b):=by
 cases a with
 |inl i =>
  cases b with
  |inl j=>simp only[Fn,AA];rw[zd3];simp
  |inr y=>simp[Fn,AA]
 |inr x =>
  cases b with
  |inl j=>simp[Fn,AA]
  |inr y=>simp only[Fn,AA];rw[zd3];simp
theorem QA:∀a b:List Key,CF (a.map Fn) (b.map Fn)=decide (a=b)
 |[],[]|[],_::_|_::_,[]=>by simp[CF]
 |a::r,b::t=>by
  rw[za8,za8,CF,Ny,QA r t,zd3];simp
noncomputable def Kl {α:Type}:List D->List α->D->Option α
 |k::ks,v::vs,y=>if AA k y=true then some v else Kl ks vs y
 |_,_,_=>none
noncomputable def JB {α:Type}:List D->List α->D->α->List α
 |k::ks,v::vs,y,z=>(if AA k y=true then z else v)::JB ks vs y z
 |_,vs,_,_=>vs
noncomputable def Ms (ks:List D)(y:D):Bool:=ks.any λ k=>AA k y
section
variable {κ:Type} [DecidableEq κ] {fk:κ->D}(hf:∀a b,AA (fk a) (fk b)=decide (a=b))
include hf
theorem Nz {α:Type}:∀(kvs:List (κ×α)) (k:κ),Kl (kvs.map λ kv=>fk kv.1) (kvs.map zch) (fk k)=(kvs.find? λ kv=>decide (kv.1=k)).map (·.2)
 |[],k=>rfl
 |p::r,k=>by
  rw[za8,za8,Kl,hf,zdb];by_cases e:p.1=k
  ·rw[decide_eq_true e];rfl
  ·rw[decide_eq_false e];simp only[zap,if_false];exact Nz r k
theorem RP {α:Type}(kvs:List (κ×α))(k:κ):Ms (kvs.map λ kv=>fk kv.1) (fk k)=kvs.any λ kv=>decide (kv.1=k):=by
 unfold Ms;rw[List.any_map];congr 1;funext kv;exact hf _ _
theorem NA (k:κ)(v:V):∀(kvs:List (κ×V)),JB (kvs.map λ kv=>fk kv.1) (kvs.map zch) (fk k) v=(kvs.map λ kv=>if kv.1=k then (kv.1,v) else kv).map zch
 |[]=>rfl
 |p::r=>by
  rw[za8,za8,JB,hf,za8,za8,NA k v r];by_cases e:p.1=k
  ·rw[decide_eq_true e,if_pos e];rfl
  ·rw[decide_eq_false e,if_neg e];rfl
theorem NC (k:κ)(v:V):∀(kvs:List (κ×V)),(kvs.map λ kv=>if kv.1=k then (kv.1,v) else kv).map (λ kv=>fk kv.1)=kvs.map λ kv=>fk kv.1
 |[]=>rfl
 |p::r=>by
  rw[za8,za8,za8,NC k v r];by_cases e:p.1=k
  ·rw[if_pos e]
  ·rw[if_neg e]
end
theorem RQ {K:za0}{H:Hp}:∀ {ks:List D}{xs:List V}{ds:List D}{y d:D},Aj K H xs ds->Kl ks ds y=some d->∃x,Kl ks xs y=some x/\BZ K H x d
 |[],_,_,_,_,_,e|_::_,_,_,_,_,.nil,e=>by simp[Kl] at e
 |k::ks,_,_,y,d,.cons h t,e=>by
  rw[Kl] at e ⊢;by_cases q:AA k y=true
  ·rw[if_pos q] at e ⊢;cases e;exact⟨_,rfl,h⟩
  ·rw[if_neg q] at e ⊢;exact RQ t e
theorem Pt {α:Type}:∀ {ks:List D}{xs:List α}{y:D},xs.length=ks.length->Ms ks y=(Kl ks xs y).isSome
 |[],[],y,_=>rfl
 |k::ks,x::xs,y,h=>by
  unfold Ms;rw[zdd,Kl];cases q:AA k y with
  |true=>rfl
  |false =>
   simp only[Bool.false_or,zap,if_false];exact Pt (by simpa using h)
 |[],_::_,_,h|_::_,[],_,h=>by cases h
theorem ND {K:za0}{H:Hp}{P:Addr->Prop}{y d:D}{v:V}(hv:BZ K (del H P) v d):∀ {ks:List D}{xs:List V}{ds:List D},Aj K (del H P) xs ds->Aj K (del H P) (JB ks xs y v) (JB ks ds y d)
 |[],_,_,h=>by simp only[JB];exact h
 |_::_,_,_,.nil=>by simp only[JB];exact .nil
 |k::ks,_,_,.cons h t=>by
  rw[JB,JB];refine .cons ?_ (ND hv t);by_cases q:AA k y=true
  ·rw[if_pos q,if_pos q];exact hv
  ·rw[if_neg q,if_neg q];exact h
section
variable {K:za0}{H:Hp}{P:Addr->Prop}
theorem Aj.keys:∀ {xs:List V}(κ:List Key),Aj K H xs (κ.map Fn)->xs=κ.map kV
 |_,[],.nil=>rfl
 |_,k::r,.cons h t=>by
  rw[za8,<-Aj.keys r t];congr 1;cases k with
  |inl i=>exact h.int_inv
  |inr x=>cases h;rfl
theorem BZ.uD {y:V}{κ:Key}(h:BZ K H y (Fn κ)):y=kV κ:=by
 cases κ with
 |inl i=>exact h.int_inv
 |inr x=>cases h;rfl
theorem UZ {v y:V}{b:Bool}{ks vs:List D}{k:D}(hv:BZ K (del H P) v (.Bl b ks vs))(hy:BZ K (del H P) y k)(hk:iT b k):∃a xs,v=.ref a/\Tx H a y (Kl ks xs k)/\Aj K (del H P) xs vs/\xs.length=ks.length:=by
 cases hv with
 |JU hh hl =>
  cases hk with
  |k κ =>
   refine⟨_,_,rfl,?_,hl,by simp⟩;rw[hy.uD,Nz Ny];exact .inl ⟨_,κ,hh.Bs,rfl,rfl⟩
 |Jr hh hl =>
  cases hk with
  |t κ =>
   cases hy with
   |tup ht cA =>
    have e:=Aj.keys κ cA;subst e;refine⟨_,_,rfl,?_,hl,by simp⟩;rw[Nz (fk:=λ κ:List Key=>D.tup (κ.map Fn)) (λ a b=>by simp only[AA];exact QA a b)];exact .inr ⟨_,κ,_,hh.Bs,rfl,(Ax ht).2,rfl⟩
end
section
variable {X:Cx}{WX:Str->Hp->Prop}{c:Bool}{P0:E7}{P:Addr->Prop}{H:Hp}{σ:St}{ρ:Aa}{a b e:Expr}{f g:Aa->M D}{fn:Aa->M OT}{fp:Aa->M (List Nat)}{pos:Pos}{i:Nat}
noncomputable def uE:R2:=λ x y H Q=>∃a v,x=.ref a/\Tx H a y (some v)/\Q v H
theorem iU (hu:X.A.units+1<cLine):fY X uE:=by
 intro value slice pins s σ H x y v u Q I rx ry h hs;obtain⟨a,z,rfl,g,q⟩:=h;cases rx;have hT:=Ru I g;have h₂:wpAny (model X.prog X.w) X.A (getItem (.ref a) u) (EP X pins σ Q) X.xe s:=VY hu I g ry λ w' s3 I3 df=>⟨z,H,I3,df,q⟩;unfold subscriptTail;refine wpAny_bind ?_;rw[getitemInPython_of_ne hT.not_modules];refine wpAny_bind (wpAny_specialOf hT PySem.F.slot_dict_getitem.lookup ?_);have fin:wpAny (model X.prog X.w) X.A (subscripted slice false (.ref a) u) (λ r s₃=>wpAny (model X.prog X.w) X.A (letTemporaryGo value (.ref a) r >>= λ _=>pure r) (EP X pins σ Q) X.xe s₃) X.xe s:=by
  rw[hs];exact wpAny_operating (wpAny_mono h₂ (λ r s₃ h₃=>wpAny_bind (wpAny_letTemporaryGo (wpAny_pure h₃))) λ _ _ x=>x)
 first
  |exact wpAny_pure (wpAny_bind fin)
  |exact wpAny_bind (wpAny_pure (wpAny_bind fin))
  |exact wpAny_bind fin
noncomputable def Bi (x y:D):M D:=match x with
 | .Bl b ks vs=>if keyOk b y=true then (match Kl ks vs y with|some d=>.ok d|none=>.bad) else .bad
 |x=>rG x y
theorem iV:TB X.K WX (λ x y H Q=>(nW X.K x y H Q\/nX X.K x y H Q)\/uE x y H Q) Bi:=by
 intro P H x y v w Q ht hx hy h;cases x with
 |Bl b ks vs =>
  simp only[Bi] at h;by_cases hk:keyOk b y=true
  ·rw[if_pos hk] at h;obtain⟨a,xs,rfl,g,hl,_⟩:=UZ hx hy (Nx hk);split at h
   ·rename_i d e;obtain⟨u,e1,e2⟩:=RQ hl e;rw[e1] at g;exact .inr ⟨a,u,rfl,g,h _ H (Ag.refl H) e2⟩
   ·exact h.elim
  ·rw[if_neg hk] at h;exact h.elim
 |AK|bl b|int b|str b|tup b|lst b|Ct b|ins b _ _=>exact .inl (Hw P H _ y v w Q ht hx hy h)
theorem Ah {n:Nat}(hu:X.A.units+n<cLine)(ha:DE X WX c a f)(hb:DE X WX c b g)(hs:Qh b:=by exact λ _ _=>rfl)(hn:1<=n:=by decide):DE X WX c (.Subscript a b pos) (λ ρ=>(f ρ).bind λ x=>(g ρ).bind λ y=>Bi x y):=tO ((fZ.or nY).or (iU (by omega))) iV ha hb hs
noncomputable def pF (neg:Bool):R2:=λ y x H Q=>∃a o,x=.ref a/\Tx H a y o/\Q (.bl (if neg=true then !o.isSome else o.isSome)) H
theorem TR (hu:X.A.units+1<cLine):Hm X (compareOp .In) (pF false):=by
 intro pins s σ H x y v u Q I rx ry h;obtain⟨a,o,rfl,g,q⟩:=h;cases ry;exact wX hu I g rx λ s3 I3=>⟨.bl o.isSome,H,I3,rfl,q⟩
theorem OA (hu:X.A.units+1<cLine):Hm X (compareOp .NotIn) (pF true):=by
 intro pins s σ H x y v u Q I rx ry h;obtain⟨a,o,rfl,g,q⟩:=h;cases ry;exact gH hu I g rx λ s3 I3=>⟨.bl (!o.isSome),H,I3,rfl,q⟩
noncomputable def OB (neg:Bool)(y x:D):M D:=match x with
 | .Bl b ks vs=>if keyOk b y=true then .ok (.bl (if neg=true then !Ms ks y else Ms ks y)) else .bad
 |x=>vL neg y x
theorem V0 {neg:Bool}:TB X.K WX (λ x y H Q=>vG X.K neg x y H Q\/pF neg x y H Q) (OB neg):=by
 intro P H x y v w Q ht hx hy h;cases y with
 |Bl b ks vs =>
  simp only[OB] at h;by_cases hk:keyOk b x=true
  ·rw[if_pos hk] at h;obtain⟨a,xs,rfl,g,hl,hn⟩:=UZ hy hx (Nx hk);rw[Pt (xs:=xs) hn] at h;exact .inr ⟨a,_,rfl,g,h _ H (Ag.refl H) (.bl _)⟩
  ·rw[if_neg hk] at h;exact h.elim
 |AK|bl b|int b|str b|tup b|lst b|Ct b|ins b _ _=>exact .inl (HC P H x _ v w Q ht hx hy h)
theorem TU {n:Nat}(hu:X.A.units+n<cLine)(ha:DE X WX c a f)(hb:DE X WX c b g)(hm:behindInMarks .In b=false:=by rfl)(hn:1<=n:=by decide):DT X WX (.Compare a [.In] [b] pos) (λ ρ=>((f ρ).bind λ x=>(g ρ).bind λ y=>OB false x y).bind Oj):=Gz (VU.or (TR (by omega))) V0 ha hb hm
theorem MF {n:Nat}(hu:X.A.units+n<cLine)(ha:DE X WX c a f)(hb:DE X WX c b g)(hm:behindInMarks .NotIn b=false:=by rfl)(hn:1<=n:=by decide):DT X WX (.Compare a [.NotIn] [b] pos) (λ ρ=>((f ρ).bind λ x=>(g ρ).bind λ y=>OB true x y).bind Oj):=Gz (Qj.or (OA (by omega))) V0 ha hb hm
noncomputable def D2:D->M Bool
 | .AK=>.ok false
 | .bl b=>.ok b
 | .int i=>.ok (i != 0)
 | .tup ds| .lst ds=>.ok (!ds.isEmpty)
 |_=>.bad
theorem Km {K:za0}{H:Hp}{xs:List V}{ds:List D}(h:Aj K H xs ds):(!ds.isEmpty) = !xs.isEmpty:=by cases h<;>rfl
theorem C8 (h:DE X WX c e f)(he:∀whole,isTrue e X.env whole=(do let v <-whole;standAt e.pos;holding [v] (truthy v)):=by intro _;rfl):DT X WX e (λ ρ=>(f ρ).bind D2):=by
 obtain⟨t,h1,h2⟩:=h;refine⟨_,XQ h1 he,λ P0 P σ H Q ρ E h=>h2 P0 P σ H _ ρ E ?_⟩;dsimp only at h;cases q:f ρ with
 |bad|ex x=>rw[q] at h;exact h
 |ok d =>
  rw[q] at h;simp only[M.A8] at h;intro v H' s hv;cases hv with
  |AK=>exact⟨false,rfl,h H' s⟩
  |bl b=>exact⟨b,rfl,h H' s⟩
  |int i=>exact⟨_,rfl,h H' s⟩
  |tup hs hl=>exact⟨_,.inr (.inl ⟨_,Gr.of (Ax hs).2,rfl⟩),by rw[<-Km hl];exact h H' s⟩
  |lst hs hl=>exact⟨_,.inl ⟨_,hs.Bs,rfl⟩,by rw[<-Km hl];exact h H' s⟩
  |_=>exact h.elim
end
noncomputable def Kn (m:M (List D)):M OT:=match m with | .ok ys=>.ok (.lst (ys.map .sh)) | _=>.bad
section
variable {X:Cx}{WX:Str->Hp->Prop}{c:Bool}{P0:E7}{P:Addr->Prop}{H:Hp}{σ:St}{ρ:Aa}{a b e tg iter:Expr}{f g:Aa->M D}{ft:Aa->M Bool}{pos:Pos}{gt:D->Aa->M Aa}{fi:Aa->M (List D)}{es:List Expr}{fs:Aa->M (List D)}
theorem pG {μ:List (Option Nat)}{wi:TI}{gg:TG}{tc:Shared->Hp->Addr->List Addr->TT}{te:Shared->Hp->Addr->List Addr->TE}{fe:Aa->M D}
 (i2:∀P0 P σ H R ρ,Al X.K P0 P H σ ρ->(match fi ρ with | .ok ds=>∀J H',Ag H H'->hV X.K J P H' ds->R J H' | .ex x=>∀H',Ag H H'->WX x H' | .bad=>False)->wi σ H R)
 (g2:∀P0 P σ H Q ρ v d,Al X.K P0 P H σ ρ->BZ X.K (del H P) v d->gG X.K P0 P H Q (gt d ρ)->gg v σ H Q)
 (t2:∀s H' C ex P0 P σ H Q ρ,Al X.K P0 P H σ ρ->gT (λ _ _=>False) H Q (ft ρ)->tc s H' C ex σ H Q)
 (e2:∀s H' C ex P0 P σ H Q ρ,Al X.K P0 P H σ ρ->gV X.K (λ _ _=>False) (Lv true P0 P) H Q (fe ρ)->te s H' C ex σ H Q) {Q:VK}
 (E:Al X.K P0 P H σ ρ) (h:YH X.K WX P H Q ((fi ρ).bind λ ds=>if ds.length<=1000 then Kn (Bt gt ft fe ds (BS μ ρ)) else .bad)):UN wi μ gg tc te σ H Q:=by
 refine i2 P0 P σ H _ ρ E ?_;cases q:fi ρ with
 |bad|ex x=>rw[q] at h;exact h
 |ok ds =>
  rw[q] at h;simp only[M.A8] at h;by_cases hd:¬ ds.length<=1000
  ·rw[if_neg hd] at h;exact h.elim
  have hd:ds.length<=1000:=by omega
  rw[if_pos hd] at h;intro J H1 s1 ok s C ex;cases qc:Bt gt ft fe ds (BS μ ρ) with
  |bad|ex x=>rw[qc] at h;exact h.elim
  |ok total =>
   rw[qc] at h;unfold Kn at h;dsimp only at h;have E1:=E.same s1;refine⟨λ i m ys H2=>m=ds.length-i/\i<=ds.length/\ys.length<=i/\Ag H1 H2/\∃es rest,Aj X.K (del H2 P) ys es/\Bt gt ft fe (ds.drop i) (BS μ ρ)=.ok rest/\es++rest=total,
    ⟨ds.length,by simp,zb9 _,zal _,Ag.refl _,[],total,.nil,by rw[List.drop_zero];exact qc,rfl⟩,?_⟩
   rintro i m ys H2 ⟨rfl,hi,hy,s2,es,rest,i5,aV,cV⟩;by_cases be:i<ds.length
   ·refine .inr ⟨ok.go i P H2 s2.del be,Nat.lt_of_le_of_lt hy (AS (by omega)),λ dn H'=>i+1<=ds.length/\dn.length<=i+1/\Ag H1 H'/\∃es rest,Aj X.K (del H' P) dn es/\Bt gt ft fe (ds.drop (i+1)) (BS μ ρ)=.ok rest/\es++rest=total,λ dn H' hq=>⟨ds.length-(i+1),by omega,rfl,hq.1,hq.2.1,hq.2.2.1,hq.2.2.2⟩,λ v H3 y=>?_⟩;have E2:=E1.same s2;obtain⟨s3,hv⟩:=ok.lD i P H2 v H3 ds[i] s2.del E2.Ci (zaf be) y;rw[Kf be,Bt] at aV;have E3:=(E2.same s3).block μ;refine g2 P0 P _ H3 _ (BS μ ρ) v ds[i] E3 hv ?_;cases q1:gt ds[i] (BS μ ρ) with
    |bad|ex x=>rw[q1] at aV;cases aV
    |ok ρ1 =>
     rw[q1] at aV;dsimp only at aV;intro σ4 E4;refine t2 s H1 C ex P0 P σ4 H3 _ ρ1 E4 ?_;cases q2:ft ρ1 with
     |bad|ex x=>rw[q2] at aV;cases aV
     |ok k =>
      rw[q2] at aV;dsimp only at aV;intro H5 s5;cases k with
      |false =>
       simp only[zap,if_false] at aV ⊢;exact⟨be,by omega,(s2.trans s3).trans s5,es,rest,(i5.mono s3.del).mono s5.del,aV,cV⟩
      |true =>
       simp only[if_true] at aV ⊢;refine e2 s H1 C ex P0 P σ4 H5 _ ρ1 (E4.same s5) ?_;cases q3:fe ρ1 with
       |bad|ex x=>rw[q3] at aV;cases aV
       |ok y' =>
        rw[q3] at aV;dsimp only at aV;cases q4:Bt gt ft fe (ds.drop (i+1)) (BS μ ρ) with
        |bad|ex x=>rw[q4] at aV;cases aV
        |ok qv =>
         rw[q4] at aV;cases aV;intro w H6 s6 hw;refine⟨be,by rw[zah,zc9];omega,((s2.trans s3).trans s5).trans s6,es++[y'],qv,(((i5.mono s3.del).mono s5.del).mono s6.del).snoc hw,rfl,?_⟩;rw[zck];exact cV
   ·have e:i=ds.length:=by omega
    subst e;rw[List.drop_length,Bt] at aV;cases aV;rw[zbj] at cV;subst cV;exact .inl ⟨ok.stop _ P H2 s2.del (zal _),λ D0 hn=>h.Jy (s1.trans s2) i5 D0 hn⟩
theorem Ec {scope:Scope}{NB:List Str}{ifs:List Expr}{elt:Expr}{fe:Aa->M D}(μ:List (Option Nat))(hc:X.calm=true)(hi:DI X WX tg iter fi)(cg:Lc scope X.env.scope=true)(dL:Rv X.N NB scope μ=true)(hg:vI X scope NB μ tg gt)
 (ht:∀s H C ex,vJ (blockOf X s H scope C NB ex) ifs ft) (he:∀s H C ex,DE (blockOf X s H scope C NB ex) (λ _ _=>False) true elt fe) (hs:∀x,foldedSetIterable iter X.env x=pure x:=by intro _;rfl):
 DN X WX (.ListComp elt [⟨tg,iter,ifs,0⟩] scope pos) (λ ρ=>(fi ρ).bind λ ds=>if ds.length<=1000 then Kn (Bt gt ft fe ds (BS μ ρ)) else .bad):=by
 obtain⟨wi,i1,i2⟩:=hi;obtain⟨gg,g1,gk,g2⟩:=hg;refine⟨_,gO hc i1 cg dL gk (λ s H C ex=>⟨g1 s H C ex,(za2 (ht s H C ex)).1,(za2 (he s H C ex)).1⟩) hs,λ P0 P σ H Q ρ E h=>?_⟩;exact pG i2 g2 (λ s H' C ex P0 P σ H Q ρ E h=>(za2 (ht s H' C ex)).2 P0 P σ H Q ρ E h) (λ s H' C ex P0 P σ H Q ρ E h=>(za2 (he s H' C ex)).2 P0 P σ H Q ρ E h) E h
end
def uF (K:za0)(WX:Str->Hp->Prop)(P:Addr->Prop)(p:Addr)(fp:List Addr)(H:Hp)(Q:VK):M (OT×OT)->Prop
 | .ok (t,r)=>∀v H' P' aO fr,(∀a,P a->a∉fp->P' a/\H' a=H a)->(∀a,P' a->E6 H' a)->Ag (del H P) (del H' P')->C6 K H' P' (.ref p) t aO->aO.Nodup->C6 K H' P' v r fr->fr.Nodup->(∀a∈fr,a∉aO)->
  (∀a∈aO,P' a/\(P a->a∈fp))->(∀a∈fr,P' a/\(P a->a∈fp))->Q v H'
 | .ex _| .bad=>False
noncomputable def YK (K:za0)(n:Nat)(F:OT->List D->M (OT×OT)):Sp:=λ vs H Q E=>vs.length=n/\∃P p t fp rest bT,vs=.ref p::rest/\(∀a,P a->E6 H a)/\(∀a∈fp,P a)/\fp.Nodup/\C6 K H P (.ref p) t fp/\Aj K (del H P) rest bT/\uF K (Df K E) P p fp H Q (F t bT)
noncomputable def CS (N:List Str)(t:OT)(bT:List D):Aa:=some (toCl (some 0) t)::(bT.map (λ d=>some (.val d))++zai (N.length-(bT.length+1)) none)
noncomputable def Fq (ρ:Aa):Option OT:=match ρ[0]? with
 |some (some c)=>(match treeOf c with|some (some 0,t)=>some t|_=>none)
 |_=>none
noncomputable def Fs (m:M Out):M (OT×OT):=match m with
 | .ok (.next ρ)=>(match Fq ρ with|some t=>.ok (t,.sh .AK)|none=>.bad)
 | .ok (.EK r ρ)=>(match Fq ρ with|some t=>.ok (t,r)|none=>.bad)
 |_=>.bad
theorem Wl (p:Option Nat)(t:OT):Ja (toCl p t)=true:=by
 unfold toCl;split
 ·rename_i ts;cases q:EN ts with
  |none=>rfl
  |some ds=>cases p<;>rfl
 ·rfl
theorem Ko {K:za0}{P:Addr->Prop}{H:Hp}{N:List Str}{p:Addr}{t:OT}{fp:List Addr}{rest:List V}{bT:List D}(ht:∀a,P a->E6 H a)(hp:∀a∈fp,P a)(nd:fp.Nodup)(o:C6 K H P (.ref p) t fp)(h:Aj K (del H P) rest bT):
 Al K ⟨λ a=>P a/\a∉fp,λ _=>p⟩ P H (start N (.ref p::rest)) (CS N t bT):=by
 have hl:=h.length;have key:∀(i:Nat) (c:Cl),(bT.map (λ d=>some (Cl.val d))++zai (N.length-(bT.length+1)) none)[i]?=some (some c)->∃d,bT[i]?=some d/\c=.val d:=λ i c e=>by
  by_cases hi:i<bT.length
  ·rw[zc8 (by simpa using hi),zat] at e;cases q:bT[i]? with
   |none=>rw[q] at e;cases e
   |some d=>rw[q] at e;cases e;exact⟨d,rfl,rfl⟩
  ·rw[zde (by simpa using hi),zci] at e;split at e<;>cases e
 have wt:(start N (.ref p::rest))[0]?=some (some (.ref p)):=by unfold start;rfl
 refine⟨λ a h=>h.1,ht,λ i d e=>?_,λ i c e io=>?_,λ i j c c' v v' fp aO e1 e2 _ _ o1 o2 au=>?_,?_,λ i c n e y4=>?_⟩
 rotate_left 4
 ·cases i with
  |zero=>exact wt
  |succ i =>
   obtain⟨d',q,z⟩:=key i _ (by unfold CS at e;simpa using e);cases z;cases y4
 ·cases i with
  |zero =>
   have e':some (toCl (some 0) t)=some (.val d):=by simpa [CS] using e
   have:=Wl (some 0) t;rw[zax e'] at this;cases this
  |succ i =>
   obtain⟨d',q,z⟩:=key i _ (by unfold CS at e;simpa using e);cases z;obtain⟨v,hv,hd⟩:=h.get q;refine⟨v,?_,hd⟩;unfold start;rw[za8,zdi,zb7,zc8 (by rw[za5];exact (zan.mp hv).1),zat,hv];rfl
 ·cases i with
  |zero =>
   have e':toCl (some 0) t=c:=by simpa [CS] using e
   subst e';exact⟨_,fp,wt,DC.toCl o,λ a ha=>⟨hp a ha,λ z=>z.2 ha⟩,nd⟩
  |succ i =>
   obtain⟨d',q,z⟩:=key i _ (by unfold CS at e;simpa using e);cases z;cases io
 ·cases i with
  |zero =>
   cases j with
   |zero=>exact (au rfl).elim
   |succ j =>
    obtain⟨d',q,z⟩:=key j _ (by unfold CS at e2;simpa using e2);cases z;exact o2.elim
  |succ i =>
   obtain⟨d',q,z⟩:=key i _ (by unfold CS at e1;simpa using e1);cases z;exact o1.elim
 ·unfold start CS;simp[hl]
section
variable {P:Program}{w:World}{K:za0}{mg:Str->Option Value}{base:Heap}
theorem MG {P0:E7}{P':Addr->Prop}{H':Hp}{σ':St}{ρ:Aa}{t:OT}(E:Al K P0 P' H' σ' ρ)(h:Fq ρ=some t):∃c aO,ρ[0]?=some (some c)/\σ'[0]?=some (some (.ref (P0.g 0)))/\DC K H' P' c (.ref (P0.g 0)) aO/\C6 K H' P' (.ref (P0.g 0)) t aO/\aO.Nodup/\∀a∈aO,P' a/\¬ P0 a:=by
 unfold Fq at h;split at h
 ·rename_i c e;split at h
  ·rename_i t' e2;cases h;have io:Ja c=true:=by cases c<;>first|rfl|cases e2
   obtain⟨v,fp,k1,k2,k3,k4⟩:=E.ows 0 c e io;have:=E.pin 0 c 0 e (JA e2);rw[k1] at this;cases this;exact⟨c,fp,e,k1,k2,k2.toT e2,k4,k3⟩
  ·cases h
 ·cases h
theorem pH {x qual:Str}{st:Stmt}{f:Addr}{fd:FuncData}{N ps:List Str}{k:Nat}(F:Xq K x qual st f fd)(S:Ak N ps (A6 st))(g:Aa->M Out)
 (hb:∀(Bf:Value) (A:Around) (outer:List Env) (s:Shared) (H:Hp) (E:XK),BW k (A.deeper (envOfC qual (A6 st) s.heap.objs.size f Bf))->Pg (US P w K mg base N qual (A6 st) f Bf A outer s H E) (Df K E) (AM st) g):
 E8 P w K mg base (UR P w base) (k+1) f fd ps (YK K ps.length λ t bT=>Fs (g (CS N t bT))):=by
 obtain⟨oc,od,kV,doc,pm,an,Bf,ct,T7,rfl,lk,de⟩:=F.ex;refine UI lk de S (λ vs H Q E h=>h.1) λ A outer s H vs Q E hr h=>?_;obtain⟨hl,P',p,t,fp,rest,bT,rfl,ht,hp,nd,ho,hv,hq⟩:=h;obtain⟨tt,h1,h2⟩:=hb Bf A outer s H E hr;refine⟨tt,h1,h2 ⟨λ a=>P' a/\a∉fp,λ _=>p⟩ P' _ H _ _ (Ko ht hp nd ho hv) ?_⟩;dsimp only at hq;revert hq;cases g (CS N t bT) with
 |bad|ex x=>exact λ h=>h.elim
 |ok o =>
  have sub:∀ {P2:Addr->Prop} {H2:Hp} {σ2:St} {ρ:Aa},Al K ⟨λ a=>P' a/\a∉fp,λ _=>p⟩ P2 H2 σ2 ρ->∀a,P2 a/\¬ (P' a/\a∉fp)->P2 a/\(P' a->a∈fp):=λ E a ha=>⟨ha.1,λ z=>Classical.byContradiction λ w=>ha.2 ⟨z,w⟩⟩;cases o with
  |ret d|Cm d=>exact λ h=>h.elim
  |next ρ =>
   intro hq σ' H' P2 t2 E2;unfold Fs at hq;dsimp only at hq;split at hq
   ·rename_i t' e;obtain⟨c,aO,k1,k2,k3,k4,k5,k6⟩:=MG E2 e;exact hq .AK H' P2 aO [] (λ a ha hn=>⟨E2.sub a ⟨ha,hn⟩,t2.2 a ⟨ha,hn⟩⟩) E2.Ci t2.1 k4 k5 (.sh .AK) zcj (λ a ha=>by cases ha) (λ a ha=>sub E2 a (k6 a ha)) (λ a ha=>by cases ha)
   ·exact hq.elim
  |EK r ρ =>
   intro hq v fr σ' H' P2 t2 E2 o2 cW hf;unfold Fs at hq;dsimp only at hq;split at hq
   ·rename_i t' e;obtain⟨c,aO,k1,k2,k3,k4,k5,k6⟩:=MG E2 e;exact hq v H' P2 aO fr (λ a ha hn=>⟨E2.sub a ⟨ha,hn⟩,t2.2 a ⟨ha,hn⟩⟩) E2.Ci t2.1 k4 k5 o2 cW (λ a ha=>(hf a ha).2.2 0 c _ aO k1 k2 k3) (λ a ha=>sub E2 a (k6 a ha)) (λ a ha=>sub E2 a ⟨(hf a ha).1,(hf a ha).2.1⟩)
   ·exact hq.elim
  |brk ρ|cont ρ=>exact λ h=>h.elim
end
structure Pu (P:Program)(w:World)(K:za0)(mg:Str->Option Value)(base:Heap)(x:Str)(k n:Nat)(F:OT->List D->M (OT×OT)):Prop where
 ex:∃fa fd ps,E8 P w K mg base (UR P w base) k fa fd ps (YK K n F)/\mg x=some (.ref fa)/\zb6 K (.ref fa)=true/\Binds K fd ps []
theorem RS {P:Program}{w:World}{K:za0}{mg:Str->Option Value}{base:Heap}{x:Str}{st:Stmt}{N ps:List Str}{k n:Nat}(T:B6 K mg x st ps)(S:Ak N ps (A6 st))(g:Aa->M Out)
 (hb:∀(f:Addr) (Bf:Value) (A:Around) (outer:List Env) (s:Shared) (H:Hp) (E:XK),BW k (A.deeper (envOfC x (A6 st) s.heap.objs.size f Bf))->Pg (US P w K mg base N x (A6 st) f Bf A outer s H E) (Df K E) (AM st) g) (hn:ps.length=n:=by rfl):
 Pu P w K mg base x (k+1) n (λ t bT=>Fs (g (CS N t bT))):=by
 obtain⟨f,fd,F,hm,hB⟩:=T.ex;subst hn;exact⟨⟨f,fd,ps,pH F S g (hb f),hm,F.kp,hB⟩⟩
section
variable {X:Cx}{WX:Str->Hp->Prop}{c:Bool}{P0:E7}{P:Addr->Prop}{H:Hp}{σ:St}{ρ:Aa}{a b e:Expr}{f g:Aa->M D}{fn:Aa->M OT}{fp:Aa->M (List Nat)}{pos:Pos}{i:Nat}{es:List Expr}{fs:Aa->M (List D)}
theorem Al.new {K:za0}{P':Addr->Prop}{H':Hp}(E:Al K P0 P H σ ρ)(s:Ag H H')(sm:Ag (del H P) (del H' P')){a:Addr}(hn:H a=none):∀(j:Nat) c v fq,ρ[j]?=some (some c)->σ[j]?=some (some v)->DC K H' P' c v fq->a∉fq:=λ j c v fq h1 h2 h3 ha=>by
 have io:Ja c=true:=by cases c<;>first|rfl|exact h3.elim
 obtain⟨w,fr,k1,k2,k3,k4⟩:=E.ows j c h1 io;rw[h2] at k1;cases k1;have m:=k2.move sm λ b hb=>by obtain⟨o,q⟩:=k2.at b hb;rw[q];exact s _ _ q
 rw[h3.Cf m] at ha;obtain⟨o,q⟩:=k2.at a ha;rw[hn] at q;cases q
theorem Al.uG {K:za0}{P':Addr->Prop}{H':Hp}{π:List Nat}{v1 v2:V}{t1 u r:OT}{bY fu fr:List Addr}(E:Al K P0 P H σ ρ)(pl:Bo K P H σ ρ i π v1 t1)(o:C6 K H P v1 t1 bY)(hs:∀a,P a->a∉bY->P' a/\H' a=H a)(ht:∀a,P' a->E6 H' a)(sm:Ag (del H P) (del H' P'))
 (o':C6 K H' P' v1 u fu) (nd:fu.Nodup) (hf:∀a∈fu,P' a/\(P a->a∈bY)) (or:C6 K H' P' v2 r fr) (ndr:fr.Nodup) (hr:∀a∈fr,P' a/\(P a->a∈bY)) (dj:∀a∈fr,a∉fu):
 ∃c p t,ρ[i]?=some (some c)/\treeOf c=some (p,t)/\Al K P0 P' H' σ (ρ.set i (some (toCl p (EM t π u))))/\Tr P0 P H P' H'/\
  ∀a∈fr,P' a/\¬ P0 a/\∀(j:Nat) c' v fq,(ρ.set i (some (toCl p (EM t π u))))[j]?=some (some c')->σ[j]?=some (some v)->DC K H' P' c' v fq->a∉fq:=by
 obtain⟨v0,c,p,t,h1,h2,h3,h4⟩:=pl.ex;have io:Ja c=true:=by cases c<;>first|rfl|cases h2
 obtain⟨w,fp,k1,k2,k3,k4⟩:=E.ows i c h1 io;rw[h3] at k1;cases k1;have ot:=k2.toT h2;obtain⟨fz,oz,kz,_⟩:=ot.part h4;have:=oz.Cf o;subst this;obtain⟨aO,q1,q2,q3⟩:=ot.put sm h4 o o' (λ a ha hn=>(hs a (k3 a ha).1 hn).2) k4 nd (λ a ha hb=>(hf a ha).2 (k3 a hb).1);have wu:∀(j:Nat) c' v' fq,i≠j->ρ[j]?=some (some c')->σ[j]?=some (some v')->DC K H P c' v' fq->∀a∈fq,P a/\a∉fp:=λ j c' v' fq au g1 g2 g3 a ha=>by
  have ly:Ja c'=true:=by cases c'<;>first|rfl|exact g3.elim
  obtain⟨w',r6,m1,m2,m3,m4⟩:=E.ows j c' g1 ly;rw[g2] at m1;cases m1;have:=m2.Cf g3;subst this;exact⟨(m3 a ha).1,E.apart j i c' c v' v0 r6 fp g1 h1 g2 h3 g3 k2 (zbp au) a ha⟩
 have key:=E.tR (P':=P') (H':=H') (i:=i) (v:=v0) (c:=toCl p (EM t π u)) (fp:=aO) (λ a ha=>(hs a (E.sub a ha) λ z=>(k3 a (kz a z)).2 ha).1) ht sm (λ j c' v' fq au g1 g2 g3 a ha=>?_) (DC.toCl q1) (λ a ha=>?_) q2 (λ n z=>by rw[GC] at z;subst z;have:=E.pin i c n h1 (JA h2);rw[h3] at this;cases this;rfl)
 ·rw[Qs h3] at key;refine⟨c,p,t,h1,h2,key,⟨sm,λ a ha=>(hs a (E.sub a ha) λ z=>(k3 a (kz a z)).2 ha).2⟩,λ a ha=>⟨(hr a ha).1,λ z=>(k3 a (kz a ((hr a ha).2 (E.sub a z)))).2 z,λ j c' v fq g1 g2 g3 hb=>?_⟩⟩;rcases get_set g1 with ⟨rfl,hl,z⟩|⟨au,g1⟩
  ·cases z;rw[h3] at g2;cases g2;rw[g3.Cf (DC.toCl q1)] at hb;rcases q3 a hb with y|y
   ·exact dj a ha y
   ·exact y.2 ((hr a ha).2 (k3 a y.1).1)
  ·have ly:Ja c'=true:=by cases c'<;>first|rfl|exact g3.elim
   obtain⟨w',r6,m1,m2,m3,m4⟩:=E.ows j c' g1 ly;rw[g2] at m1;cases m1;have o2:=wu j c' v r6 au g1 g2 m2;have mv:=m2.move sm λ b bZ=>(hs b (o2 b bZ).1 λ z=>(o2 b bZ).2 (kz b z)).2;rw[g3.Cf mv] at hb;exact (o2 a hb).2 (kz a ((hr a ha).2 (o2 a hb).1))
 ·have o2:=wu j c' v' fq au g1 g2 g3 a ha;have hk:=hs a o2.1 λ z=>o2.2 (kz a z);refine⟨hk.2,λ z=>?_,hk.1⟩;rcases q3 a z with y|y
  ·exact o2.2 (kz a ((hf a y).2 o2.1))
  ·exact o2.2 y.1
 ·rcases q3 a ha with y|y
  ·exact⟨(hf a y).1,λ z=>(k3 a (kz a ((hf a y).2 (E.sub a z)))).2 z⟩
  ·exact⟨(hs a (k3 a y.1).1 y.2).1,(k3 a y.1).2⟩
end
noncomputable def Jd (i:Nat)(ρ:Aa)(π:List Nat)(u:OT):M Out:=match ρ[i]? with
 |some (some c)=>(match treeOf c with|some (p,t)=>.ok (.next (ρ.set i (some (toCl p (EM t π u)))))|none=>.bad)
 |_=>.bad
noncomputable def FO (i:Nat)(ρ:Aa)(π:List Nat):M (List OT):=match UY i ρ π with | some (.lst ts)=>.ok ts | _=>.bad
theorem Iz {i:Nat}{ρ:Aa}{π:List Nat}{u:OT}{c:Cl}{p:Option Nat}{t:OT}(h:ρ[i]?=some (some c))(ht:treeOf c=some (p,t)):Jd i ρ π u=.ok (.next (ρ.set i (some (toCl p (EM t π u))))):=by
 unfold Jd;simp only[h,ht]
theorem AO.append {K:za0}{H:Hp}{P:Addr->Prop}:∀ {xs ys:List V}{ts us:List OT}{fp fq:List Addr},AO K H P xs ts fp->AO K H P ys us fq->AO K H P (xs++ys) (ts++us) (fp++fq)
 |_,_,_,_,_,_,.nil,h=>h
 |_,_,_,_,_,_,.cons a t,h=>by rw[zck];exact .cons a (t.append h)
section
variable {X:Cx}{WX:Str->Hp->Prop}{c:Bool}{P0:E7}{P:Addr->Prop}{H:Hp}{σ:St}{ρ:Aa}{a b e:Expr}{f g:Aa->M D}{fn:Aa->M OT}{fp:Aa->M (List Nat)}{pos:Pos}{i:Nat}{es:List Expr}{fs:Aa->M (List D)}
theorem Bo.lst {K:za0}{π:List Nat}{v:V}{t1:OT}{ts:List OT}(pl:Bo K P H σ ρ i π v t1)(E:Al K P0 P H σ ρ)(h:FO i ρ π=.ok ts):t1=.lst ts/\∃l xs fq,v=.ref l/\H l=some (.lst xs)/\AO K H P xs ts fq/\l∉fq/\fq.Nodup:=by
 unfold FO at h;rw[pl.at] at h;split at h
 ·rename_i r9 e;cases e;cases h;obtain⟨bY,o1,hp,nd⟩:=pl.own E;cases o1 with
  |lst hh hr=>exact⟨rfl,_,_,_,rfl,hh,hr,(zbi.mp nd).1,(zbi.mp nd).2⟩
 ·cases h
theorem pI (ha:DP X WX a i fp)(he:DN X WX e fn){apos ar:Pos}(hs:starEach [e] X.env=[(false,eval e X.env)]:=by rfl)
 (dN:swapsWith (.Call (.Attribute a "append" apos) [e] [] ar) none pos.line X.env=pure false:=by rfl)
 (bA:attributeBase a "append" X.env (eval a X.env)=eval a X.env:=by rfl)
 (cG:((backTo ar (starEach [e] X.env)).all (λ x => !x.1)&&(backToKw ar (keywordEach [] X.env)).all (λ x=>x.1.isSome)&&decide (([e]:List Expr).length+([]:List Keyword).length+(if ([]:List Keyword).isEmpty then 0 else 1)<30))=true:=by rfl)
 (bB:(apos.endLine==ar.line)=true:=by rfl) (aZ:(backTo ar (starEach [] X.env)).any (·.1)=false:=by rfl):
 DS X WX (.Expr (.Call (.Attribute a "append" apos) [e] [] ar) pos) (λ ρ=>(fp ρ).bind λ π=>(FO i ρ π).bind λ ts=>(fn ρ).bind λ t=>if ts.length<1000 then Jd i ρ π (.lst (ts++[t])) else .bad):=by
 obtain⟨ta,a1,a2⟩:=ha;obtain⟨te,e1,e2⟩:=he;refine⟨_,Gs (Rp zce PySem.F.slot_list_append PySem.F.type_list_append P6 a1 (Bb e1 Cj hs) bA cG bB hs aZ) dN,λ P0 P σ H Z ρ E h=>?_⟩;dsimp only at h;refine a2 P0 P σ H _ ρ E ?_;cases q:fp ρ with
 |bad=>rw[q] at h;exact h
 |ex x=>rw[q] at h;exact λ H' s=>h H' P (E.tr s)
 |ok π =>
  rw[q] at h;simp only[M.A8] at h;intro v t1 H1 s1 pl;have E1:=E.same s1;cases q1:FO i ρ π with
  |bad=>rw[q1] at h;exact h.elim
  |ex x=>unfold FO at q1;split at q1<;>cases q1
  |ok ts =>
   rw[q1] at h;simp only[M.A8] at h;obtain⟨rfl,l,xs,fq,rfl,hl,ol,nl,y6⟩:=pl.lst E1 q1;refine⟨.inl ⟨rfl,xs,.of hl⟩,e2 P0 P σ H1 _ ρ E1 ?_⟩;cases q2:fn ρ with
   |bad=>rw[q2] at h;exact h
   |ex y=>rw[q2] at h;exact λ H' s=>h H' P ((E.tr s1).trans (E1.tr s))
   |ok t =>
    rw[q2] at h;simp only[M.A8] at h;by_cases hz:ts.length<1000
    ·rw[if_pos hz] at h;intro w fw H2 s2 n2 cW o2;have sm:=Fb (P:=P) s2 n2;have E2:Al X.K P0 (PU P fw) H2 σ ρ:=E1.more s2 Nv (Lu (E1.same s2).Ci o2) sm;have keep:∀b∈fq,H2 b=H1 b:=λ b hb=>by obtain⟨o,z,_⟩:=ol.Ci b hb;rw[z];exact s2 _ _ z
     have g9:=ol.move sm keep;have cA:=s2 _ _ hl;have dj:∀b∈fq,b∉fw:=λ b hb hc=>(ol.Ci b hb).no (n2 b hc);obtain⟨c,p,t0,g1,g2,E3,t3⟩:=E2.pE (pl.more sm s2) cA g9 (us:=ts++[t]) (ys:=xs++[w]) (g9.append (.cons o2 .nil)) (by rw[zbj];exact zb2.mpr ⟨y6,cW,λ b hb d hd z=>dj b hb (by rw[z];exact hd)⟩) (by
      rw[zbj];intro z;rcases zar.mp z with z|z
      ·exact nl z
      ·rw[n2 l z] at hl;cases hl) (by
      intro b hb;rw[zbj] at hb;rcases zar.mp hb with z|z
      ·exact .inl z
      ·exact .inr ⟨.inr z,λ y=>(E1.Ci b (E1.sub b y)).no (n2 b z),E1.new s2 sm (n2 b z)⟩)
     rw[Iz g1 g2] at h;exact⟨l,xs,w,rfl,rfl,cA,AS (by rw[ol.len];exact zbl hz),h _ _ _ (((E.tr s1).trans (E1.vN s2 n2)).trans t3) E3⟩
    ·rw[if_neg hz] at h;exact h.elim
noncomputable def iW {α:Type}(o:Option α):M α:=match o with | some x=>.ok x | none=>.bad
noncomputable def R9 (i:Nat)(ρ:Aa)(π:List Nat):M (List D):=match UY i ρ π with | some (.lst ts)=>(match EN ts with | some ds=>.ok ds | none=>.bad) | _=>.bad
theorem Bo.shl {K:za0}{π:List Nat}{v:V}{t1:OT}{ds:List D}(pl:Bo K P H σ ρ i π v t1)(E:Al K P0 P H σ ρ)(h:R9 i ρ π=.ok ds):t1=.lst (ds.map .sh)/\∃l xs,v=.ref l/\H l=some (.lst xs)/\Aj K (del H P) xs ds:=by
 unfold R9 at h;rw[pl.at] at h;split at h
 ·rename_i r9 e;split at h
  ·rename_i ny e';cases e;cases h;have z:=Dq e';subst z;obtain⟨bY,o1,hp,nd⟩:=pl.own E;cases o1 with
   |lst hh hr=>exact⟨rfl,_,_,rfl,hh,hr.pC.2⟩
  ·cases h
 ·cases h
theorem TV {π:List Nat}{x:Str}(h:R9 i ρ π=.ex x):False:=by
 unfold R9 at h;split at h
 ·split at h<;>cases h
 ·cases h
theorem Al.uH {K:za0}{π:List Nat}{l:Addr}{xs ys:List V}{ds es:List D}(E:Al K P0 P H σ ρ)(pl:Bo K P H σ ρ i π (.ref l) (.lst (ds.map .sh)))(hH:H l=some (.lst xs))(o:Aj K (del H P) xs ds)(o':Aj K (del H P) ys es):
 ∃c p t,ρ[i]?=some (some c)/\treeOf c=some (p,t)/\Al K P0 P (upd H l (.lst ys)) σ (ρ.set i (some (toCl p (EM t π (.lst (es.map .sh))))))/\Tr P0 P H P (upd H l (.lst ys)):=
 E.pE pl hH o.ows o'.ows zcj (λ z=>by cases z) (λ a ha=>by cases ha)
noncomputable def iX (t:OT):M (List D):=match t with | .lst us=>iW (EN us) | _=>.bad
theorem YL (ha:DP X WX a i fp)(he:DN X WX e fn){apos ar:Pos}(hs:starEach [e] X.env=[(false,eval e X.env)]:=by rfl)
 (dN:swapsWith (.Call (.Attribute a "extend" apos) [e] [] ar) none pos.line X.env=pure false:=by rfl)
 (bA:attributeBase a "extend" X.env (eval a X.env)=eval a X.env:=by rfl)
 (cG:((backTo ar (starEach [e] X.env)).all (λ x => !x.1)&&(backToKw ar (keywordEach [] X.env)).all (λ x=>x.1.isSome)&&decide (([e]:List Expr).length+([]:List Keyword).length+(if ([]:List Keyword).isEmpty then 0 else 1)<30))=true:=by rfl)
 (bB:(apos.endLine==ar.line)=true:=by rfl) (aZ:(backTo ar (starEach [] X.env)).any (·.1)=false:=by rfl):
 DS X WX (.Expr (.Call (.Attribute a "extend" apos) [e] [] ar) pos) (λ ρ=>(fp ρ).bind λ π=>(R9 i ρ π).bind λ ds=>((fn ρ).bind iX).bind λ es=>if ds.length+es.length<=1000 then Jd i ρ π (.lst ((ds++es).map .sh)) else .bad):=by
 obtain⟨ta,a1,a2⟩:=ha;obtain⟨te,e1,e2⟩:=he;refine⟨_,Gs (Rp zce PySem.F.slot_list_extend PySem.F.type_list_extend VV a1 (Bb e1 Cj hs) bA cG bB hs aZ) dN,λ P0 P σ H Z ρ E h=>?_⟩;dsimp only at h;refine a2 P0 P σ H _ ρ E ?_;cases q:fp ρ with
 |bad=>rw[q] at h;exact h
 |ex x=>rw[q] at h;exact λ H' s=>h H' P (E.tr s)
 |ok π =>
  rw[q] at h;simp only[M.A8] at h;intro v t1 H1 s1 pl;have E1:=E.same s1;cases q1:R9 i ρ π with
  |bad=>rw[q1] at h;exact h.elim
  |ex x=>exact (TV q1).elim
  |ok ds =>
   rw[q1] at h;simp only[M.A8] at h;obtain⟨rfl,l,xs,rfl,hl,ol⟩:=pl.shl E1 q1;refine⟨.inl ⟨rfl,xs,.of hl⟩,e2 P0 P σ H1 _ ρ E1 ?_⟩;cases q2:fn ρ with
   |bad=>rw[q2] at h;exact h
   |ex y=>rw[q2] at h;exact λ H' s=>h H' P ((E.tr s1).trans (E1.tr s))
   |ok t =>
    rw[q2] at h;simp only[M.A8] at h;intro w fw H2 s2 n2 cW o2;have sm:=Fb (P:=P) s2 n2;have E2:Al X.K P0 (PU P fw) H2 σ ρ:=E1.more s2 Nv (Lu (E1.same s2).Ci o2) sm;cases t with
    |lst us =>
     simp only[iX] at h;cases q3:EN us with
     |none=>rw[q3] at h;exact h.elim
     |some es =>
      rw[q3] at h;simp only[iW,M.A8] at h;have z:=Dq q3;subst z;cases o2 with
      |lst hb hr =>
       by_cases hz:ds.length+es.length<=1000
       ·rw[if_pos hz] at h;have he:=hr.pC.2;have g9:=ol.mono sm;have cA:=s2 _ _ hl;obtain⟨c,p,t0,g1,g2,E3,t3⟩:=E2.uH (pl.more sm s2) cA g9 (g9.append he);rw[Iz g1 g2] at h;exact⟨l,_,xs,_,rfl,rfl,cA,hb,zbl (AS (by rw[ol.length,he.length];exact hz)),h _ _ _ (((E.tr s1).trans (E1.vN s2 n2)).trans t3) E3⟩
       ·rw[if_neg hz] at h;exact h.elim
    |_=>exact h.elim
end
def gX (K:za0)(WX:Str->Hp->Prop)(P0:E7)(P:Addr->Prop)(H:Hp)(σ:St)(Q:VK):M (Aa×OT)->Prop
 | .ok (ρ,t)=>∀v fp H' P',Tr P0 P H P' H'->Al K P0 P' H' σ ρ->C6 K H' P' v t fp->fp.Nodup->(∀a∈fp,P' a/\¬ P0 a/\∀(j:Nat) c v' fq,ρ[j]?=some (some c)->σ[j]?=some (some v')->DC K H' P' c v' fq->a∉fq)->Q v H'
 | .ex x=>∀H' P',Tr P0 P H P' H'->WX x H'
 | .bad=>False
def DX (X:Cx)(WX:Str->Hp->Prop)(e:Expr)(f:Aa->M (Aa×OT)):Prop:=
 ∃t,PE X e t/\∀P0 P σ H Q ρ,Al X.K P0 P H σ ρ->gX X.K WX P0 P H σ Q (f ρ)->t σ H Q
noncomputable def YM:OT->Bool
 | .sh _=>false
 |_=>true
noncomputable def RT (i:Nat)(F:OT->List D->M (OT×OT))(ρ:Aa)(π:List Nat)(bT:List D):M (Aa×OT):=match ρ[i]? with
 |some (some c)=>(match treeOf c with
  |some (p,t)=>(match Ls t π with
   |some t1=>if YM t1=true then (match F t1 bT with | .ok (t2,r)=>.ok (ρ.set i (some (toCl p (EM t π t2))),r)|_=>.bad) else .bad
   |none=>.bad)
  |none=>.bad)
 |_=>.bad
section
variable {X:Cx}{E:XK}{WX:Str->Hp->Prop}{c:Bool}{P0:E7}{P:Addr->Prop}{H:Hp}{σ:St}{ρ:Aa}{a b e:Expr}{f g:Aa->M D}{fn:Aa->M OT}{fx:Aa->M (Aa×OT)}{fp:Aa->M (List Nat)}{pos:Pos}{i:Nat}{es:List Expr}{fs:Aa->M (List D)}
theorem YN {F:OT->List D->M (OT×OT)}{π:List Nat}{bT:List D}{c:Cl}{p:Option Nat}{t t1 t2 r:OT}(h:ρ[i]?=some (some c))(ht:treeOf c=some (p,t))(hs:Ls t π=some t1)(hN:YM t1=true)(hF:F t1 bT=.ok (t2,r)):RT i F ρ π bT=.ok (ρ.set i (some (toCl p (EM t π t2))),r):=by
 unfold RT;simp only[h,ht,hs,hN,if_true,hF]
theorem YO {k n:Nat}{F:OT->List D->M (OT×OT)}{x:Str}{p:Pos}(xo:XCall X E)(G:Pu X.prog X.w X.K X.mg X.base x k n F)(hr:BW k X.A)(hg:Gl X x)(hp:DP X (Df X.K E) a i fp)(ha:DA X (Df X.K E) true es fs)(hn:es.length+1=n)
 (cC:(x==("__debug__" : Str))=false:=by decide) (he:starEach (a::es) X.env=(false,eval a X.env)::starEach es X.env:=by rfl) (bU:(backTo pos (starEach es X.env)).any (·.1)=false:=by rfl):
 DX X (Df X.K E) (.Call (.Name x p) (a::es) [] pos) (λ ρ=>(fp ρ).bind λ π=>(fs ρ).bind λ bT=>RT i F ρ π bT):=by
 obtain⟨fa,fd,ps,hF,hm,hk,hb⟩:=G.ex;obtain⟨tp,p1,p2⟩:=hp;obtain⟨ta,a1,a2,a3⟩:=ha;refine⟨_,UH hF hr hg hm hk hb .nil xo.call (Bb p1 a1 he) cC he bU,λ P0 P σ H Q ρ Ev h=>?_⟩;dsimp only at h;refine p2 P0 P σ H _ ρ Ev ?_;cases q:fp ρ with
 |bad=>rw[q] at h;exact h
 |ex x=>rw[q] at h;exact λ H' s=>h H' P (Ev.tr s)
 |ok π =>
  rw[q] at h;simp only[M.A8] at h;intro v t1 H1 s1 pl;have E1:=Ev.same s1;refine a2 P0 P σ H1 _ ρ E1 ?_;cases q2:fs ρ with
  |bad=>rw[q2] at h;exact h
  |ex y=>rw[q2] at h;exact λ H' s=>h H' P ((Ev.tr s1).trans (E1.tr s))
  |ok bT =>
   rw[q2] at h;simp only[M.A8] at h;intro vs H2 s2 cB;have E2:=E1.same s2;have f9:=pl.same s2;show YK X.K n F ((v::vs)++[]) H2 Q E;rw[zbj];obtain⟨v0,c,pp,t,g1,g2,g3,g4⟩:=f9.ex;unfold RT at h;simp only[g1,g2,g4.sub] at h;by_cases hx:YM t1=true
   ·rw[if_pos hx] at h;obtain⟨bY,o1,y7,jd⟩:=f9.own E2;have l5:∃l,v=.ref l:=by
     cases o1 with
     |sh hv=>exact absurd hx (by simp[YM])
     |lst _ _|tup _ _|dK _ _|dT _ _|ins _ _ _=>exact⟨_,rfl⟩
    obtain⟨l,rfl⟩:=l5;refine⟨by rw[zad,cB.length,a3 ρ bT q2];exact hn,P,l,t1,bY,vs,bT,rfl,E2.Ci,λ b hb=>(y7 b hb).1,jd,o1,cB,?_⟩;cases qF:F t1 bT with
    |bad|ex x=>rw[qF] at h;exact h.elim
    |ok z =>
    obtain⟨t2,r⟩:=z;rw[qF] at h;intro w H' P' fu fr k1 k2 k3 k4 k5 k6 k7 k8 k9 wv;obtain⟨c',p',t',m1,m2,m3,m4,m5⟩:=E2.uG f9 o1 k1 k2 k3 k4 k5 k9 k6 k7 wv k8;rw[g1] at m1;cases m1;rw[g2] at m2;cases m2;exact h w fr H' P' (((Ev.tr s1).trans (E1.tr s2)).trans m4) m3 k6 k7 m5
   ·rw[if_neg hx] at h;exact h.elim
theorem NE (he:DX X WX e fx)(hs:swapsWith e none pos.line X.env=pure false:=by rfl):DS X WX (.Expr e pos) (λ ρ=>(fx ρ).bind λ z=>.ok (.next z.1)):=by
 obtain⟨te,e1,e2⟩:=he;refine⟨_,Gs e1 hs,λ P0 P σ H Z ρ E h=>?_⟩;dsimp only at h;refine e2 P0 P σ H _ ρ E ?_;cases q:fx ρ with
 |bad|ex x=>rw[q] at h;exact h
 |ok z=>rw[q] at h;exact λ v fp H' P' t E' o nd hf=>h σ H' P' t E'
theorem iY (j:Nat){x:Str}{pos':Pos}(hN:X.N.Nodup)(hi:X.N[j]?=some x)(hx:Loc X.env.scope x)(he:DX X WX e fx)(hs:swapsWith e (some (.Name x pos')) pos.line X.env=pure false:=by rfl)(hf:X.fn x=true\/X.env.scope.names.lookup x=some .local:=by first | exact .inl rfl | exact .inr rfl | assumption):
 DS X WX (.Assign [.Name x pos'] e pos) (λ ρ=>(fx ρ).bind λ z=>RN j z.1 z.2):=by
 obtain⟨te,e1,e2⟩:=he;refine⟨_,Td hN hi hx e1 hs hf,λ P0 P σ H Z ρ E h=>?_⟩;dsimp only at h;refine e2 P0 P σ H _ ρ E ?_;cases q:fx ρ with
 |bad|ex x=>rw[q] at h;exact h
 |ok z =>
  rw[q] at h;simp only[M.A8] at h;intro v fp H' P' tr E' o nd hf;have h':=h.tr tr;have key:gS X.K WX P0 P' H' Z (.ok (.next (z.1.set j (some (toCl none z.2)))))->Z.nx (σ.set j (some v)) H':=λ h=>by
   refine h _ H' P' Tr.refl (E'.gZ (λ _ h=>h) E'.Ci (Ag.refl _) (λ k c' v' aO au g1 g2 g3 b hb=>⟨rfl,λ w=>(hf b w).2.2 k c' v' aO g1 g2 g3 hb⟩) (DC.toCl o) (λ b hb=>⟨(hf b hb).1,(hf b hb).2.1⟩) nd (λ n z=>by rw[GC] at z;cases z))
  obtain⟨ρ1,u⟩:=z;cases u with
  |sh d =>
   cases o with
   |sh hv=>exact h' _ H' P' Tr.refl (E'.RD hv)
  |lst ts|tup ts|Bl b ks ts|ins x ns ts=>exact key h'
end
noncomputable def Hg (i:Nat)(ρ:Aa)(π:List Nat):M (Bool×List D×List D):=match UY i ρ π with
 |some (.Bl b ks ts)=>(match EN ts with|some vs=>.ok (b,ks,vs)|none=>.bad)
 |_=>.bad
noncomputable def putD (ks vs:List D)(k v:D):List D×List D:=if Ms ks k=true then (ks,JB ks vs k v) else (ks++[k],vs++[v])
section
variable {X:Cx}{E:XK}{WX:Str->Hp->Prop}{c:Bool}{P0:E7}{P:Addr->Prop}{H:Hp}{σ:St}{ρ:Aa}{a b e:Expr}{f g:Aa->M D}{fn:Aa->M OT}{fx:Aa->M (Aa×OT)}{fp:Aa->M (List Nat)}{pos:Pos}{i:Nat}{es:List Expr}{fs:Aa->M (List D)}
theorem Bo.Bl {K:za0}{π:List Nat}{v:V}{t1:OT}{bl:Bool}{ks vs:List D}(pl:Bo K P H σ ρ i π v t1)(E:Al K P0 P H σ ρ)(h:Hg i ρ π=.ok (bl,ks,vs)):t1=.Bl bl ks (vs.map .sh)/\∃l xs,v=.ref l/\P l/\Aj K (del H P) xs vs/\C6 K H P (.ref l) (.Bl bl ks (vs.map .sh)) [l]/\
 ((bl=false/\∃kvs,H l=some (.dK kvs)/\ks=(kvs.map λ kv=>Fn kv.1)/\xs=kvs.map zch)\/(bl=true/\∃kvs,H l=some (.dT kvs)/\ks=(kvs.map λ kv=>.tup (kv.1.map Fn))/\xs=kvs.map zch)):=by
 unfold Hg at h;rw[pl.at] at h;split at h
 ·rename_i b' lz r9 e;split at h
  ·rename_i dZ e';cases e;cases h;have z:=Dq e';subst z;obtain⟨bY,o1,hp,nd⟩:=pl.own E;generalize ht:OT.Bl bl ks (vs.map .sh)=t at o1;cases o1 with
   |dK hh hr =>
    injection ht with h1 h2 h3
    subst h1 h2 h3;obtain⟨rfl,hs⟩:=hr.pC;exact⟨rfl,_,_,rfl,(hp _ za3).1,hs,.dK hh hr,.inl ⟨rfl,_,hh,rfl,rfl⟩⟩
   |dT hh hr =>
    injection ht with h1 h2 h3
    subst h1 h2 h3;obtain⟨rfl,hs⟩:=hr.pC;exact⟨rfl,_,_,rfl,(hp _ za3).1,hs,.dT hh hr,.inr ⟨rfl,_,hh,rfl,rfl⟩⟩
   |_=>cases ht
  ·cases h
 ·cases h
theorem YQ {π:List Nat}{x:Str}(h:Hg i ρ π=.ex x):False:=by
 unfold Hg at h;split at h
 ·split at h<;>cases h
 ·cases h
theorem Al.pJ {K:za0}{π:List Nat}{l:Addr}{t1 u:OT}{o':HO}(E:Al K P0 P H σ ρ)(pl:Bo K P H σ ρ i π (.ref l) t1)(ot:C6 K H P (.ref l) t1 [l])(hn:∀xs,o'≠.tup xs/\∀z,o'≠.VL z (.tup xs))(new:Ag (del H P) (del (upd H l o') P)->C6 K (upd H l o') P (.ref l) u [l]):
 ∃c p t,ρ[i]?=some (some c)/\treeOf c=some (p,t)/\Al K P0 P (upd H l o') σ (ρ.set i (some (toCl p (EM t π u))))/\Tr P0 P H P (upd H l o'):=by
 obtain⟨bY,o1,hp,_⟩:=pl.own E;have:=o1.Cf ot;subst this;have pP:P l:=(hp l za3).1;have sd:del (upd H l o') P=del H P:=by
  funext b;by_cases hb:P b
  ·rw[Gx hb,Gx hb]
  ·rw[AQ hb,AQ hb,Aq (λ z=>hb (by rw[z];exact pP))]
 have sm:Ag (del H P) (del (upd H l o') P):=by rw[sd];exact Ag.refl _
 refine E.uC pl ot (λ _ h=>h) (λ a h=>?_) sm (λ a ha hn=>Aq λ z=>hn (by rw[z];exact za3)) (new sm) (by simp) (λ a ha=>.inl ha);by_cases ha:a=l
 ·subst ha;exact⟨_,AU,hn⟩
 ·unfold E6;rw[Aq ha];exact E.Ci a h
theorem QB {n:Nat}(hu:X.A.units+n<cLine)(ha:DP X WX a i fp)(hk:DE X WX true b g)(hv:DE X WX true e f){pos':Pos}(hs:swapsWith e (some (.Subscript a b pos')) pos.line X.env=pure false:=by rfl)(hn:1<=n:=by decide):
 DS X WX (.Assign [.Subscript a b pos'] e pos) (λ ρ=>(f ρ).bind λ v=>(fp ρ).bind λ π=>(g ρ).bind λ k=>(Hg i ρ π).bind λ z=>if keyOk z.1 k=true/\z.2.1.length<1000 then Jd i ρ π (.Bl z.1 (putD z.2.1 z.2.2 k v).1 ((putD z.2.1 z.2.2 k v).2.map .sh)) else .bad):=by
 obtain⟨ta,a1,a2⟩:=ha;obtain⟨tk,k1,k2⟩:=hk;obtain⟨tv,v1,v2⟩:=hv;refine⟨_,gI (by omega) a1 k1 v1 hs,λ P0 P σ H Z ρ E h=>?_⟩;dsimp only at h;refine v2 P0 P σ H _ ρ E ?_;cases q0:f ρ with
 |bad=>rw[q0] at h;exact h
 |ex x=>rw[q0] at h;exact λ H' s=>h H' P (E.tr s)
 |ok d =>
  rw[q0] at h;simp only[M.A8] at h;intro w H0 s0 hw;have E0:=E.same s0;refine a2 P0 P σ H0 _ ρ E0 ?_;cases q:fp ρ with
  |bad=>rw[q] at h;exact h
  |ex x=>rw[q] at h;exact λ H' s=>h H' P ((E.tr s0).trans (E0.tr s))
  |ok π =>
   rw[q] at h;simp only[M.A8] at h;intro v t1 H1 s1 pl;have E1:=E0.same s1;refine k2 P0 P σ H1 _ ρ E1 ?_;cases q2:g ρ with
   |bad=>rw[q2] at h;exact h
   |ex y=>rw[q2] at h;exact λ H' s=>h H' P (((E.tr s0).trans (E0.tr s1)).trans (E1.tr s))
   |ok k =>
    rw[q2] at h;simp only[M.A8] at h;intro y H2 s2 hy;have E2:=E1.same s2;have f9:=pl.same s2;have n6:=(hw.mono s1.del).mono s2.del;have ww:=((E.tr s0).trans (E0.tr s1)).trans (E1.tr s2);cases q3:Hg i ρ π with
    |bad=>rw[q3] at h;exact h.elim
    |ex x=>exact (YQ q3).elim
    |ok z =>
     obtain⟨bb,ks,vs⟩:=z;rw[q3] at h;simp only[M.A8] at h;by_cases hc:keyOk bb k=true/\ks.length<1000
     ·rw[if_pos hc] at h;obtain⟨rfl,l,xs,rfl,hP,dQ,ot,l6⟩:=f9.Bl E2 q3;have hK:=Nx hc.1;rcases l6 with ⟨rfl,kvs,hH,rfl,rfl⟩|⟨rfl,kvs,hH,rfl,rfl⟩
      ·cases hK with
       |k κ =>
        have ey:=hy.uD;refine⟨l,_,rfl,.inl ⟨kvs,κ,hH,ey,AS (by have:=hc.2;rw[za5] at this;omega),rfl⟩,?_⟩;have ck:∃dZ,(putD (kvs.map λ kv=>Fn kv.1) vs (Fn κ) d)=((putK kvs κ w).map (λ kv=>Fn kv.1),dZ)/\Aj X.K (del H2 P) ((putK kvs κ w).map zch) dZ:=by
         unfold putD putK;rw[RP Ny];by_cases hh:(kvs.any λ kv=>decide (kv.1=κ))=true
         ·rw[if_pos hh,if_pos hh];refine⟨_,by rw[NC (fk:=Fn) Ny],?_⟩;rw[<-NA (fk:=Fn) Ny];exact ND n6 dQ
         ·rw[if_neg hh,if_neg hh];refine⟨_,by rw[zbm];rfl,?_⟩;rw[zbm];exact dQ.snoc n6
        obtain⟨dZ,e1,e2⟩:=ck;obtain⟨c,p,t0,g1,g2,E3,t3⟩:=E2.pJ (o':=.dK (putK kvs κ w)) (u:=.Bl false ((putK kvs κ w).map λ kv=>Fn kv.1) (dZ.map .sh)) f9 ot (λ _=>⟨λ z=>(by cases z),λ _ z=>by cases z⟩) (λ mv=>.dK AU (e2.mono mv).ows);rw[e1,Iz g1 g2] at h;exact h _ _ _ (ww.trans t3) E3
      ·cases hK with
       |t κ =>
        cases hy with
        |tup ht cA =>
         have ey:=Aj.keys κ cA;subst ey;refine⟨l,_,rfl,.inr ⟨kvs,κ,_,hH,rfl,(Ax ht).2,AS (by have:=hc.2;rw[za5] at this;omega),rfl⟩,?_⟩;have hf:∀a b:List Key,AA (.tup (a.map Fn)) (.tup (b.map Fn))=decide (a=b):=λ a b=>by simp only[AA];exact QA a b
         have ck:∃dZ,(putD (kvs.map λ kv=>.tup (kv.1.map Fn)) vs (.tup (κ.map Fn)) d)=((putK kvs κ w).map (λ kv=>.tup (kv.1.map Fn)),dZ)/\Aj X.K (del H2 P) ((putK kvs κ w).map zch) dZ:=by
          unfold putD putK;rw[RP (fk:=λ κ:List Key=>D.tup (κ.map Fn)) hf];by_cases hh:(kvs.any λ kv=>decide (kv.1=κ))=true
          ·rw[if_pos hh,if_pos hh];refine⟨_,by rw[NC (fk:=λ κ:List Key=>D.tup (κ.map Fn)) hf],?_⟩;rw[<-NA (fk:=λ κ:List Key=>D.tup (κ.map Fn)) hf];exact ND n6 dQ
          ·rw[if_neg hh,if_neg hh];refine⟨_,by rw[zbm];rfl,?_⟩;rw[zbm];exact dQ.snoc n6
         obtain⟨dZ,e1,e2⟩:=ck;obtain⟨c,p,t0,g1,g2,E3,t3⟩:=E2.pJ (o':=.dT (putK kvs κ w)) (u:=.Bl true ((putK kvs κ w).map λ kv=>.tup (kv.1.map Fn)) (dZ.map .sh)) f9 ot (λ _=>⟨λ z=>(by cases z),λ _ z=>by cases z⟩) (λ mv=>.dT AU (e2.mono mv).ows);rw[e1,Iz g1 g2] at h;exact h _ _ _ (ww.trans t3) E3
     ·rw[if_neg hc] at h;exact h.elim
theorem Kq (tk:Bool):DN X WX (.Dict [] [] pos) (λ _=>.ok (.Bl tk [] [])):=by
 cases tk with
 |false =>
  refine⟨_,Y7,λ P0 P σ H Q ρ E h p hp=>?_⟩;exact h _ [p] _ (B7 hp _) (λ a ha=>by rw[zaj.mp ha];exact hp) (by simp) (.dK (kvs:=[]) AU .nil)
 |true =>
  refine⟨_,Y8,λ P0 P σ H Q ρ E h p hp=>?_⟩;exact h _ [p] _ (B7 hp _) (λ a ha=>by rw[zaj.mp ha];exact hp) (by simp) (.dT (kvs:=[]) AU .nil)
end
theorem JC {α:Type}(o:Option (α×List Int))(b:α×List Int):BR o b≠none:=by
 unfold BR;split
 ·intro z;cases z
 ·split<;>(intro z;cases z)
theorem NF {α:Type}:∀ {bs:List (α×List Int)},bs≠[]->B5 bs≠none:=by
 intro bs h;unfold B5
 suffices z:∀(bs:List (α×List Int)) (o:Option (α×List Int)),o≠none->bs.foldl BR o≠none by
  cases bs with
  |nil=>exact (h rfl).elim
  |cons b r=>rw[zbd];exact z r _ (JC _ _)
 intro bs;induction bs with
 |nil=>intro o h;exact h
 |cons b r ih=>intro o h;rw[zbd];exact ih _ (JC _ _)
section
variable {prog:Program}{w:World}{A:Around}{R:Result->Shared->Prop}
theorem Wm (bs:List (Addr×List Int))(se:bs≠[])(tv:Addr->Array Value)(l I S:Addr)(hh:A.handled=none)(hu:A.in1.units<cLine)(f7:S≠I)(qp:l≠I)(lf:l≠S)(iq:∀b∈bs,b.1≠I/\b.1≠S)
 (hk:∀b∈bs,IntsAre (tv b.1).toList b.2):∀(k j:Nat) (s:Shared) (c:Nat),bs.length-j=k->j<=bs.length->s.heap.IsListIter I l j->s.heap.IsList l (bs.map λ b=>zbe b.1).toArray->(∀b∈bs,IsTup s.heap b.1 (tv b.1))->
  s.heap.get? S=some {cls:=.type "list",dict:=none,data:=.seq (DF (bs.take j)) c,slots:=#[]} ->
  (∀h' tk,(∀b o,b≠I->b≠S->s.heap.get? b=some o->h'.get? b=some o)->R (.ok (.ret (match B5 bs with|none=>.none|some b=>.ref b.1))) {s with heap:=h',toks:=tk})->
  codeAny (model prog w) A (.builtin "min.loop" ⟨[.ref I,.none,.ref S],[]⟩) R s:=by
 have cb:(toString "min" ++ toString ".loop" : String) = "min.loop" := by decide
 intro k;induction k with
 |zero =>
  intro j s c hr hj hit hl ht hS hR;have dC:j=bs.length:=by omega
  subst dC;rw[zcc] at hS;refine codeAny_builtin PySem.F.entry_min_loop ?_;rw[zcy zba _];show wpAny _ A.in1 (seqItems? (.ref S) >>= _) _ _ s;refine wpAny_bind (wpAny_seqItems hS rfl ?_);show wpAny _ A.in1 (tryCatch (pyNext (.ref I)) _ >>= _) _ _ s;refine wpAny_bind (wpAny_tryCatch (wpAny_pyNext_list_end (A:=A.in1) hh hit hl (by simp) λ h' eb=>?_));have ci:h'.get? S=_:=eb S _ f7 hS;unfold DF at ci;cases hb:B5 bs with
  |none=>exact (NF se hb).elim
  |some b =>
   rw[hb] at ci;unfold DF;rw[hb];show wpAny _ A.in1 (updateSeq S (λ _=>#[]) >>= _) _ _ _;refine wpAny_bind ?_;refine wpAny_updateSeq ci rfl (wpAny_bind (wpAny_letGo (wpAny_pure ?_)));have q:=hR (h'.update S (zc2 λ _=>#[])) s.toks λ b o h1 h2 e=>(zd7 _ _ (zbp h2)).trans (eb b o h1 e);rw[hb] at q;exact q
 |succ k ih =>
  intro j s c hr hj hit hl ht hS hR;have be:j<bs.length:=by omega
  have ej:bs.take (j+1)=bs.take j++[bs[j]]:=by rw[zd0,zaf be];rfl
  have mj:bs[j]∈bs:=List.getElem_mem be;refine codeAny_builtin PySem.F.entry_min_loop ?_;rw[zcy zba _];show wpAny _ A.in1 (seqItems? (.ref S) >>= _) _ _ s;refine wpAny_bind (wpAny_seqItems hS rfl ?_);show wpAny _ A.in1 (tryCatch (pyNext (.ref I)) _ >>= _) _ _ s;refine wpAny_bind (wpAny_tryCatch (wpAny_pyNext_list_item (A:=A.in1) hit hl (x:=.ref bs[j].1) (by simp[be]) λ h' cT sb=>?_));have dw:zd4 I s.heap h':=sb;have ci:h'.get? S=_:=(dw.2 S f7).trans hS;have dH:h'.IsList l (bs.map λ b=>zbe b.1).toArray:=hl.at λ o e=>(dw.2 l qp).trans e;have eC:∀b∈bs,IsTup h' b.1 (tv b.1):=λ b hb=>by
   obtain⟨o,ho,r⟩:=ht b hb;exact⟨o,(dw.2 b.1 (iq b hb).1).trans ho,r⟩
  cases hb:B5 (bs.take j) with
  |none =>
   unfold DF at ci ⊢;rw[hb] at ci ⊢;show wpAny _ A.in1 (updateSeq S (λ _=>#[.ref bs[j].1,.ref bs[j].1]) >>= _) _ _ _;refine wpAny_bind ?_;refine wpAny_updateSeq ci rfl ?_;rw[cb];have s1:=zct h' S (zc2 λ _=>(#[.ref bs[j].1,.ref bs[j].1]:Array Value));refine wpAny_pure ⟨plainId_quiet zba _,ih (j+1) _ (c+1) (by omega) be (cT.at λ o e=>(s1.2 I (zbp f7)).trans e) (dH.at λ o e=>(s1.2 l lf).trans e) (λ b hb=>?_) ?_ λ eE tk cH=>?_⟩
   ·obtain⟨o,ho,r⟩:=eC b hb;exact⟨o,(s1.2 b.1 (iq b hb).2).trans ho,r⟩
   ·refine (zcq _ ci rfl).trans ?_;unfold DF;rw[ej,Dj,hb];rfl
   ·exact hR eE tk λ b o h1 h2 e=>cH b o h1 h2 ((s1.2 b h2).trans ((dw.2 b h1).trans e))
  |some m =>
   have mm:m∈bs:=zbq (Le _ _ hb);unfold DF at ci ⊢;rw[hb] at ci ⊢;show wpAny _ A.in1 (tryCatch (holding [.ref bs[j].1,.ref bs[j].1] (richCompare .Lt (.ref bs[j].1) (.ref m.1) >>= _)) _ >>= _) _ _ _;refine wpAny_bind (wpAny_tryCatch (wpAny_holding (wpAny_bind (HT.Jp (eC _ mj) (eC _ mm) (hk _ mj) (hk _ mm) hu ?_))));refine wpAny_bind (wpAny_holding (wpAny_truthy_bool ?_));refine wpAny_bind (wpAny_letGo (wpAny_pure ?_));cases hc:HT.lexLt bs[j].2 m.2 with
   |true =>
    simp only[if_true];have s1:=zct h' S (zc2 λ _=>(#[.ref bs[j].1,.ref bs[j].1]:Array Value));refine wpAny_bind ?_;refine wpAny_updateSeq ci rfl (wpAny_bind (wpAny_letGo ?_));rw[cb];refine wpAny_pure ⟨plainId_quiet zba _,ih (j+1) _ c (by omega) be (cT.at λ o e=>(s1.2 I (zbp f7)).trans e) (dH.at λ o e=>(s1.2 l lf).trans e) (λ b hb=>?_) ?_ λ eE tk cH=>?_⟩
    ·obtain⟨o,ho,r⟩:=eC b hb;exact⟨o,(s1.2 b.1 (iq b hb).2).trans ho,r⟩
    ·refine (zcq _ ci rfl).trans ?_;unfold DF;rw[ej,Dj,hb];simp only[hc,if_true];rfl
    ·exact hR eE tk λ b o h1 h2 e=>cH b o h1 h2 ((s1.2 b h2).trans ((dw.2 b h1).trans e))
   |false =>
    simp only[zap,if_false];refine wpAny_bind (wpAny_letGo ?_);rw[cb];refine wpAny_pure ⟨plainId_quiet zba _,ih (j+1) _ c (by omega) be cT dH eC ?_ λ eE tk cH=>?_⟩
    ·refine ci.trans ?_;unfold DF;rw[ej,Dj,hb];simp only[hc,zap,if_false]
    ·exact hR eE tk λ b o h1 h2 e=>cH b o h1 h2 ((dw.2 b h1).trans e)
theorem QC {E:Value->Shared->Prop}{s:Shared}{Q:Value->Shared->Prop}(bs:List (Addr×List Int))(se:bs≠[])(tv:Addr->Array Value)(l:Addr)(hh:A.handled=none)(hu:A.in1.units<cLine)
 (hl:s.heap.IsList l (bs.map λ b=>zbe b.1).toArray) (ht:∀b∈bs,IsTup s.heap b.1 (tv b.1)) (hk:∀b∈bs,IntsAre (tv b.1).toList b.2)
 (hQ:∀h' tk,(∀b o,s.heap.get? b=some o->h'.get? b=some o)->Q (match B5 bs with|none=>.none|some b=>.ref b.1) {s with heap:=h',toks:=tk}):
 wpAny (model prog w) A (call (.builtin "min") [.ref l]) Q E s:=by
 have cb:(toString "min" ++ toString ".loop" : String) = "min.loop" := by decide
 obtain⟨ol,ir,_⟩:=id hl;have yd:l<s.heap.objs.size:=zak ir;refine kmk_tree PySem.F.kind_min PySem.F.plain_min PySem.F.entry_min (by unfold argsOk;kernel_rfl) ?_;show wpAny _ A.in1 (zd2 "min" ["key","default"] 0 ⟨[],[]⟩ >>= _) _ _ s;refine wpAny_bind (wpAny_of_eq (show zd2 "min" ["key","default"] 0 ⟨[],[]⟩=pure [none,none] from rfl) ?_);refine wpAny_bind (wpAny_pure ?_);refine wpAny_bind (wpAny_pyIter_list hl ?_);refine wpAny_bind (wpAny_newList ?_ (zb9 _));rw[cb];have hS:(s.heap.push {cls:=.type "list_iterator",data:=.fields #[.ref l,.int 0 0]}).objs.size=s.heap.objs.size+1:=Heap.size_push ..;have old:∀b o,s.heap.get? b=some o->b≠s.heap.objs.size/\b≠(s.heap.push {cls:=.type "list_iterator",data:=.fields #[.ref l,.int 0 0]}).objs.size:=λ b o e=>⟨zaz (zak e),by rw[hS];exact zaz (Nat.lt_succ_of_lt (zak e))⟩;have grow:∀b o,s.heap.get? b=some o->((s.heap.push {cls:=.type "list_iterator",data:=.fields #[.ref l,.int 0 0]}).push {cls:=.type "list",data:=.seq #[]}).get? b=some o:=λ b o e=>zae _ (zae _ e);refine wpAny_pure ⟨plainId_quiet zba _,?_⟩;refine Wm bs se tv l s.heap.objs.size (s.heap.push {cls:=.type "list_iterator",data:=.fields #[.ref l,.int 0 0]}).objs.size hh hu (by rw[hS];exact Nat.succ_ne_self _) (old l ol ir).1 (old l ol ir).2 (λ b hb=>?_) hk _ 0 _ 0 rfl (zb9 _) ?_ ?_ (λ b hb=>?_) ?_ ?_
 ·obtain⟨o,ho,_⟩:=ht b hb;exact old b.1 o ho
 ·exact⟨_,zae _ (zau _ rfl),rfl,rfl⟩
 ·exact hl.at λ o e=>grow l o e
 ·obtain⟨o,ho,r⟩:=ht b hb;exact⟨o,grow b.1 o ho,r⟩
 ·exact zau _ rfl
 ·intro h' tk ix;exact hQ h' tk λ b o e=>ix b o (old b o e).1 (old b o e).2 (grow b o e)
end
section
variable {X:Cx}{WX:Str->Hp->Prop}{c:Bool}{e:Expr}{f:Aa->M D}{pos:Pos}
def lR (K:za0):List V->Hp->VK->Prop:=λ xs H Q=>∃(a:Addr) (bs:List (Addr×List Int)) (b:Addr×List Int),xs=[.ref a]/\DL K H a (bs.map λ b=>V.ref b.1)/\(∀b∈bs,Gr K H b.1 (b.2.map V.int))/\B5 bs=some b/\Q (.ref b.1) H
theorem Wn (hc:X.calm=true)(hu:X.A.units+1<cLine):FI X (.builtin "min") (lR X.K):=by
 intro pins s σ H xs us Q I r h;obtain⟨a,bs,b0,rfl,hl,hb,he,q⟩:=h;obtain⟨ua,rfl,ra⟩:=r.one;cases ra;obtain⟨aa,rv,pl,hz⟩:=I.list hl;have ei:=Lf rv;subst ei;have tv:∀a:Addr,∃t:Array Value,∀b∈bs,b.1=a->IsTup s.heap a t/\IntsAre t.toList b.2:=λ a=>by
  by_cases dD:∃b∈bs,b.1=a
  ·obtain⟨b,dD,rfl⟩:=dD;obtain⟨ts,rt,pt,_⟩:=I.tuple (hb b dD);refine⟨ts.toArray,λ b' bZ e=>⟨pt,?_⟩⟩;have q2:=hb b' bZ;rw[e] at q2;have e2:=I.Io q2 (hb b dD);rw[<-e2] at rt;simpa using intsAre_of rt
  ·exact⟨#[],λ b bZ e=>absurd ⟨b,bZ,e⟩ dD⟩
 have au:bs≠[]:=λ z=>by subst z;cases he
 refine QC bs au (λ b=>zab (tv b)) a (I.ok.hd hc) hu pl.isList (λ b bZ=>(za2 (tv b.1) b bZ rfl).1) (λ b bZ=>(za2 (tv b.1) b bZ rfl).2) λ h' tk hk=>?_;rw[he];exact⟨.ref b0.1,H,I.kept (t':=tk) hk,rfl,q⟩
noncomputable def V1 (ds:List D):M D:=match ds with
 |[.lst xs]=>(match HB xs with|some ks=>(match B5 ks with|some k=>.ok k.1|none=>.bad)|none=>.bad)
 |_=>.bad
theorem iZ:Kb X.K WX (lR X.K) V1:=by
 intro P H ds vs Q ht hl h;unfold V1 at h;split at h
 ·rename_i xs;obtain⟨v,rfl,hv⟩:=hl.one;split at h
  ·rename_i ks e1;cases hv with
   |lst hs hh =>
    obtain⟨bs,rfl,h2,h3⟩:=Jx hh e1;split at h
    ·rename_i k e2;rcases Nf h3 with ⟨q1,q2⟩|⟨b,k',q1,q2,_,q3⟩
     ·rw[q2] at e2;cases e2
     ·rw[q2] at e2;cases e2;exact⟨_,bs,b,rfl,hs.Bs,λ b hb=>(h2 b hb).Bs,q1,h _ H (Ag.refl H) q3⟩
    ·exact h.elim
  ·exact h.elim
 ·exact h.elim
theorem jA {p:Pos}{n:Nat}(hc:X.calm=true)(hu:X.A.units+n<cLine)(hg:Gl X "min")(hm:X.mg "min" = none)(ha:DE X WX c e f)(hb:bootBuiltins "min" = some (.builtin "min"):=by decide +kernel)(hs:starEach [e] X.env=[(false,eval e X.env)]:=by rfl)(hn:1<=n:=by decide):DE X WX c (.Call (.Name "min" p) [e] [] pos) (λ ρ=>((f ρ).bind λ d=>(M.ok []).bind λ ds=>.ok (d::ds)).bind V1):=
 Kc (Wn hc (by omega)) iZ hg hm hb (A1 ha A4 hs) (he:=hs)
end
section
variable {X:Cx}{E:XK}{WX:Str->Hp->Prop}{c:Bool}{P0:E7}{P:Addr->Prop}{H:Hp}{σ:St}{ρ:Aa}{a b e:Expr}{f g:Aa->M D}{fn:Aa->M OT}{fp:Aa->M (List Nat)}{pos:Pos}{i:Nat}
def jB:V->List V->Hp->VK->Prop:=λ x vs H Q=>∃(l:Addr) (ns:List Int) (k:Int),x=.ref l/\vs=[.int k]/\H l=some (.lst (ns.map V.int))/\k∈ns/\Q .AK (upd H l (.lst ((ns.erase k).map V.int)))
theorem Pw {α β:Type}(f:α->β):∀(l:List α) (k:Nat),(l.eraseIdx k).map f=(l.map f).eraseIdx k
 |[],_|_::_,0=>rfl
 |x::r,k+1=>by rw[List.eraseIdx_cons_succ,za8,za8,List.eraseIdx_cons_succ,Pw f r k]
noncomputable def TX (k:Int):Value->Bool
 | .int i _=>i==k
 |_=>false
theorem Wo:tD X "list.remove" jB:=by
 intro pins s σ H x vs v us Q I rx rv h;obtain⟨l,ns,k,rfl,rfl,hH,hk,q⟩:=h;cases rx;obtain⟨u,rfl,ru⟩:=rv.one;obtain⟨tk,rfl⟩:=ru;obtain⟨z,aa,n,r,hl,e⟩:=I.Tv hH;have hlen:=r.length;have je:ns.idxOf k<ns.length:=List.idxOf_lt_length_iff.mpr hk;have jf:∀m (hm:m<aa.toArray.size) (wx:m<ns.length),∃t,aa.toArray[m]=Value.int ns[m] t:=λ m hm wx=>by
  have hx:(ns.map V.int)[m]?=some (V.int ns[m]):=by rw[zat,zaf wx];rfl
  obtain⟨w,hw,df⟩:=r.get hx;obtain⟨t,rfl⟩:=df;refine⟨t,?_⟩;have:aa[m]?=some aa[m]:=zaf (by simpa using hm);rw[hw] at this;simpa using (zax this).symm
 have hsz:aa.toArray.size=ns.length:=by rw[zaa,<-hlen,za5]
 have hm:=MeetsSeq.list_remove l aa.toArray n (.int k tk) (TX k) (λ y hy=>by
  obtain⟨m,hm,rfl⟩:=Array.mem_iff_getElem.mp hy;obtain⟨t,ht⟩:=jf m hm (by rw[<-hsz];exact hm);rw[ht];exact MeetsSeq.EqGives.int _ _ _ _) (ns.idxOf k) (by rw[hsz];exact je) (by
  obtain⟨t,ht⟩:=jf (ns.idxOf k) (by rw[hsz];exact je) je;rw[ht];simp[TX]) (λ m hm be=>by
  obtain⟨t,ht⟩:=jf m hm (by omega);rw[ht];have:=List.not_of_lt_findIdx (p:=(· == k)) (xs:=ns) (i:=m) be;simpa [TX] using this) (by rw[zaa];omega)
 refine call_meets F.slot_list_remove ⟨_,e,rfl⟩ F.entry_list_remove (F.args_list_remove_2 _ _) hm ⟨e,?_⟩;refine⟨.AK,_,I.Y3 (its':=aa.eraseIdx (ns.idxOf k)) hH e ?_ ?_ ?_,rfl,q⟩
 ·show aa.toArray.eraseIdxIfInBounds _=_;rw[List.eraseIdxIfInBounds_toArray]
 ·rw[show ns.erase k=ns.eraseIdx (ns.idxOf k) from List.erase_eq_eraseIdx_of_idxOf rfl,Pw];exact r.eraseIdx _
 ·rw[za5];have:=List.length_erase_le (a:=k) (l:=ns);rw[za5] at z;omega
theorem Wq (ha:DP X WX a i fp)(he:DE X WX true e f){apos ar:Pos}(hs:starEach [e] X.env=[(false,eval e X.env)]:=by rfl)
 (dN:swapsWith (.Call (.Attribute a "remove" apos) [e] [] ar) none pos.line X.env=pure false:=by rfl)
 (bA:attributeBase a "remove" X.env (eval a X.env)=eval a X.env:=by rfl)
 (cG:((backTo ar (starEach [e] X.env)).all (λ x => !x.1)&&(backToKw ar (keywordEach [] X.env)).all (λ x=>x.1.isSome)&&decide (([e]:List Expr).length+([]:List Keyword).length+(if ([]:List Keyword).isEmpty then 0 else 1)<30))=true:=by rfl)
 (bB:(apos.endLine==ar.line)=true:=by rfl) (aZ:(backTo ar (starEach [] X.env)).any (·.1)=false:=by rfl):
 DS X WX (.Expr (.Call (.Attribute a "remove" apos) [e] [] ar) pos) (λ ρ=>(fp ρ).bind λ π=>(R9 i ρ π).bind λ ds=>(f ρ).bind λ d=>match d,Cw ds with
  | .int k,some ns=>if k∈ns then Jd i ρ π (.lst (((ns.erase k).map D.int).map .sh)) else .bad
  |_,_=>.bad):=by
 obtain⟨ta,a1,a2⟩:=ha;obtain⟨te,e1,e2⟩:=he;refine⟨_,Gs (Rp zce PySem.F.slot_list_remove PySem.F.type_list_remove Wo a1 (Bb e1 Cj hs) bA cG bB hs aZ) dN,λ P0 P σ H Z ρ E h=>?_⟩;dsimp only at h;refine a2 P0 P σ H _ ρ E ?_;cases q:fp ρ with
 |bad=>rw[q] at h;exact h
 |ex x=>rw[q] at h;exact λ H' s=>h H' P (E.tr s)
 |ok π =>
  rw[q] at h;simp only[M.A8] at h;intro v t1 H1 s1 pl;have E1:=E.same s1;cases q1:R9 i ρ π with
  |bad=>rw[q1] at h;exact h.elim
  |ex x=>exact (TV q1).elim
  |ok ds =>
   rw[q1] at h;simp only[M.A8] at h;obtain⟨rfl,l,xs,rfl,hl,ol⟩:=pl.shl E1 q1;refine⟨.inl ⟨rfl,xs,.of hl⟩,e2 P0 P σ H1 _ ρ E1 ?_⟩;cases q2:f ρ with
   |bad=>rw[q2] at h;exact h
   |ex y=>rw[q2] at h;exact λ H' s=>h H' P ((E.tr s1).trans (E1.tr s))
   |ok d =>
    rw[q2] at h;simp only[M.A8] at h;intro w H2 s2 hw;have E2:=E1.same s2;have f9:=pl.same s2;cases d with
    |int k =>
     cases q3:Cw ds with
     |none=>rw[q3] at h;exact h.elim
     |some ns =>
      rw[q3] at h;dsimp only at h;by_cases hk:k∈ns
      ·rw[if_pos hk] at h;have:=CO q3;subst this;have g9:=ol.mono s2.del;have ex:=Dp g9;subst ex;have cA:=s2 _ _ hl;obtain⟨c,p,t0,g1,g2,E3,t3⟩:=E2.uH (ys:=(ns.erase k).map V.int) (es:=(ns.erase k).map D.int) f9 cA g9 (Aj.ints _);rw[Iz g1 g2] at h;exact⟨l,ns,k,rfl,by rw[hw.int_inv],cA,hk,h _ _ _ (((E.tr s1).trans (E1.tr s2)).trans t3) E3⟩
      ·rw[if_neg hk] at h;exact h.elim
    |_=>exact h.elim
end
section
variable {X:Cx}{WX:Str->Hp->Prop}{c:Bool}{P0:E7}{P:Addr->Prop}{H:Hp}{σ:St}{ρ:Aa}{a b e:Expr}{f g:Aa->M D}{fn:Aa->M OT}{pos:Pos}{te:TE}
theorem Wr (hc:X.calm=true):FI X (.builtin "sum") (λ xs H Q=>∃p ns,xs=[.ref p]/\DL X.K H p (List.map V.int ns)/\Q (.int ns.sum) H):=by
 intro pins s σ H xs us Q I r h;obtain⟨p,ns,rfl,hq,q⟩:=h;obtain⟨u,rfl,rx⟩:=r.one;cases rx;obtain⟨aa,r',pl,hz⟩:=I.list hq;have hl:=pl.isList;have hi:=Kj r';obtain⟨ys,e⟩:=hi.allInts.items;have dJ:ns=ys.toList.map (·.1):=by rw[<-hi.numsOf,<-nums_intItems,<-e]
 rw[e] at hl;refine sum_intListG (I.ok.hd hc) hl λ h' tk t' hk=>?_;have e2:preSum (numAt ys) ys.size=ns.sum:=by rw[preSum_eq,zc4 (by simp),dJ]
 rw[e2];exact⟨.int ns.sum,H,I.kept (t':=tk) hk,⟨t',rfl⟩,q⟩
noncomputable def YR (ds:List D):M D:=match ds with
 |[.lst xs]=>(match Cw xs with|some ns=>.ok (.int ns.sum)|none=>.bad)
 |_=>.bad
theorem pK:Kb X.K WX (λ xs H Q=>∃p ns,xs=[.ref p]/\DL X.K H p (List.map V.int ns)/\Q (.int ns.sum) H) YR:=by
 intro P H ds vs Q ht hl h;unfold YR at h;split at h
 ·rename_i xs;obtain⟨v,rfl,hv⟩:=hl.one;split at h
  ·rename_i ns eb;have:=CO eb;subst this;cases hv with
   |lst hs hh =>
    have:=Dp hh;subst this;exact⟨_,ns,rfl,hs.Bs,h _ H (Ag.refl H) (.int _)⟩
  ·exact h.elim
 ·exact h.elim
theorem YS {p:Pos}(hc:X.calm=true)(hg:Gl X "sum")(hm:X.mg "sum" = none)(ha:DE X WX c e f)(hb:bootBuiltins "sum" = some (.builtin "sum"):=by decide +kernel)(hs:starEach [e] X.env=[(false,eval e X.env)]:=by rfl):DE X WX c (.Call (.Name "sum" p) [e] [] pos) (λ ρ=>((f ρ).bind λ d=>(M.ok []).bind λ ds=>.ok (d::ds)).bind YR):=
 Kc (Wr hc) pK hg hm hb (A1 ha A4 hs) (he:=hs)
noncomputable def xG (te:TE):TE:=λ σ H Q=>te σ H λ x H1=>∃n:Nat,x=.int (n:Int)/\n<=1000/\∀r,H1 r=none->Q (.ref r) (upd H1 r (.lst ((zav n).map λ i:Nat=>V.int (i:Int))))
theorem Ws {acc:Array Value}{n:Nat}(h:ItemsOf (λ i v=>∃t,v=Value.int (0+(i:Int)*1) t) acc n):Vals ((zav n).map λ i:Nat=>V.int (i:Int)) acc.toList:=by
 obtain⟨h1,h2⟩:=h;have key:∀(l:List Value) (k:Nat),(∀i v,l[i]?=some v->∃t,v=Value.int ((k+i:Nat):Int) t)->Vals ((List.range' k l.length).map λ i:Nat=>V.int (i:Int)) l:=by
  intro l;induction l with
  |nil=>intro k _;exact .nil
  |cons v r ih =>
   intro k hk;rw[zad,List.range'_succ,za8];refine .cons (by obtain⟨t,e⟩:=hk 0 v rfl;exact⟨t,by simpa using e⟩) (ih (k+1) λ i w hw=>?_);obtain⟨t,e⟩:=hk (i+1) w (by simpa using hw);exact⟨t,by rw[e];congr 1;omega⟩
 have:=key acc.toList 0 (λ i v hv=>by
  obtain⟨t,e⟩:=h2 i v (by rw[<-zda];exact hv);exact⟨t,by rw[e];congr 1;omega⟩)
 rw[zc6,h1] at this;rw[List.range_eq_range'];exact this
theorem QD {p p2 d7:Pos}(hc:X.calm=true)(hg:Gl X "list")(hm:X.mg "list" = none)(dP:Gl X "range")(cm:X.mg "range" = none)(he:PE X e te)
 (hv:bootBuiltins "list" = some (.type "list"):=by decide +kernel)
 (hs:starEach [.Call (.Name "range" p2) [e] [] d7] X.env=[(false,eval (.Call (.Name "range" p2) [e] [] d7) X.env)]:=by rfl) (cw:starEach [e] X.env=[(false,eval e X.env)]:=by rfl):
 PE X (.Call (.Name "list" p) [.Call (.Name "range" p2) [e] [] d7] [] pos) (xG te):=by
 intro pins s σ H Q I h;refine wpAny_Call_Name_kw (Fi I hg hm hv ?_);refine zcb ?_ hs;rw[hs];refine Calls.spliced_cons ?_;refine wpAny_Call_Name_kw (Fi I dP cm boot_range ?_);refine zcb ?_ cw;rw[cw];refine Calls.spliced_cons (BA (he pins s σ H _ I h) λ u s1 ⟨x,H1,I1,r1,q1⟩=>?_);obtain⟨n,rfl,hn,q⟩:=q1;obtain⟨t,rfl⟩:=r1;refine Calls.spliced_nil ?_;refine call_range_1 ?_;refine Calls.spliced_nil ?_;have h4:((n:Nat):Int)<2^62:=by omega
 refine call_list_range (n:=n) (I1.ok.hd hc) (IsRange.new ..) (small_one (by omega) (by omega) (by omega) h4) (by rw[rangeSize_one];split<;>omega) (by omega) λ h' tk sf c' hk ci sg=>?_;have kp:∀b o,s1.heap.get? b=some o->h'.get? b=some o:=λ b o e=>hk b o (zae _ e);have rv:=Ws sg;have jz:∀o:Obj,s1.heap.objs.size<=(s1.heap.push o).objs.size:=λ o=>by simp[Heap.push]
 refine⟨.ref _,_,I1.laid (t':=tk) (o:=.lst ((zav n).map λ i:Nat=>V.int (i:Int))) kp (jz _) ⟨?_,sf.toList,c',rv,by simpa using ci⟩,rfl,q _ (I1.AE.fresh (jz _))⟩;rw[za5,List.length_range];exact zbl (AS hn)
noncomputable def vP (d:D):M OT:=match d with
 | .int j=>@ite _ (0<=j/\j<=1000) (zbc _) (.ok (.lst ((C7 0 j.toNat).map .sh))) .bad
 |_=>.bad
theorem Kr {n:Nat}(h:n<=1000):vP (.int (n:Int))=.ok (.lst (((zav n).map λ i:Nat=>D.int (i:Int)).map .sh)):=by
 unfold vP;dsimp only;rw[if_pos ⟨by omega,by omega⟩,zc7,EL]
theorem Ed {p p2 d7:Pos}(hc:X.calm=true)(hg:Gl X "list")(hm:X.mg "list" = none)(dP:Gl X "range")(cm:X.mg "range" = none)(he:DE X WX true e f)
 (hv:bootBuiltins "list" = some (.type "list"):=by decide +kernel)
 (hs:starEach [.Call (.Name "range" p2) [e] [] d7] X.env=[(false,eval (.Call (.Name "range" p2) [e] [] d7) X.env)]:=by rfl) (cw:starEach [e] X.env=[(false,eval e X.env)]:=by rfl):
 DN X WX (.Call (.Name "list" p) [.Call (.Name "range" p2) [e] [] d7] [] pos) (λ ρ=>(f ρ).bind vP):=by
 obtain⟨te,e1,e2⟩:=he;refine⟨_,QD hc hg hm dP cm e1 hv hs cw,λ P0 P σ H Q ρ E h=>?_⟩;refine e2 P0 P σ H _ ρ E ?_;dsimp only at h;cases q:f ρ with
 |bad|ex x=>rw[q] at h;exact h
 |ok d =>
  rw[q] at h;simp only[M.A8] at h;intro v H1 s1 hv;cases d with
  |int j =>
   by_cases hj:0<=j/\j<=1000
   ·obtain⟨n,rfl⟩:∃n:Nat,j=n:=⟨j.toNat,by omega⟩;rw[Kr (by omega)] at h;refine⟨n,hv.int_inv,by omega,λ r hr=>h.Jy s1 (xs:=(zav n).map λ i:Nat=>V.int (i:Int)) ?_ r hr⟩;have:∀l:List Nat,Aj X.K (del H1 P) (l.map λ i:Nat=>V.int (i:Int)) (l.map λ i:Nat=>D.int (i:Int)):=λ l=>by
     induction l with
     |nil=>exact .nil
     |cons x r ih=>exact .cons (.int _) ih
    exact this _
   ·have e:vP (.int j)=.bad:=if_neg hj;rw[e] at h;exact h.elim
  |_=>exact h.elim
noncomputable def T8 (lo hi:Option Int)(d:D):M OT:=match d with
 | .lst ds=>.ok (.lst (((ds.drop (HT.MT ds.length 0 lo)).take (HT.MT ds.length ds.length hi-HT.MT ds.length 0 lo)).map .sh))
 |_=>.bad
theorem BO {lo hi:Option Expr}{so fh:Aa->M (Option Int)}{p2:Pos}(ha:DE X WX true e f)(hl:DO X WX true lo so)(hh:DO X WX true hi fh):DN X WX (.Subscript e (.Slice lo hi none p2) pos) (λ ρ=>(f ρ).bind λ d=>(so ρ).bind λ l=>(fh ρ).bind λ u=>T8 l u d):=by
 obtain⟨ta,a1,a2⟩:=ha;obtain⟨tl,l1,l2⟩:=hl;obtain⟨th,h1,h2⟩:=hh;refine⟨_,XY gB a1 l1 h1,λ P0 P σ H Q ρ E h=>?_⟩;dsimp only at h;refine a2 P0 P σ H _ ρ E ?_;cases q:f ρ with
 |bad|ex x=>rw[q] at h;exact h
 |ok d =>
  rw[q] at h;intro v H1 s1 hv;refine l2 P0 P σ H1 _ ρ (E.same s1) ?_;cases q2:so ρ with
  |bad=>rw[q2] at h;exact h
  |ex y=>rw[q2] at h;exact λ H' s=>h H' (s1.trans s)
  |ok l =>
   rw[q2] at h;intro H2 s2;refine h2 P0 P σ H2 _ ρ ((E.same s1).same s2) ?_;cases q3:fh ρ with
   |bad=>rw[q3] at h;exact h
   |ex y=>rw[q3] at h;exact λ H' s=>h H' ((s1.trans s2).trans s)
   |ok u =>
    rw[q3] at h;simp only[M.A8] at h;intro H3 s3;unfold T8 at h;split at h
    ·cases hv with
     |lst hs hl =>
      refine⟨_,_,rfl,(s3.seq (s2.seq hs.Bs)),λ p hp=>h.Jy ((s1.trans s2).trans s3) ?_ p hp⟩;unfold XZ;rw[hl.length];exact ((((hl.drop _).take _).mono s2.del).mono s3.del)
    ·exact h.elim
theorem YT:xE X.K WX (lM X.K) Mb:=by
 intro P H x y v w Q ht hx hy h;unfold Mb at h;split at h
 ·rename_i ds es;by_cases hl:ds.length+es.length<=1000
  ·rw[if_pos hl] at h;cases hx with
   |lst h1 h2 =>
    cases hy with
    |lst h3 h4=>exact⟨_,_,_,_,rfl,rfl,h1.Bs,h3.Bs,zbl (AS (by rw[h2.length,h4.length];exact hl)),h.Jy (Ag.refl _) (h2.tU h4)⟩
  ·rw[if_neg hl] at h;exact h.elim
 ·exact h.elim
theorem AW (ha:DE X WX true a f)(hb:DE X WX true b g):DN X WX (.BinOp a .Add b pos) (λ ρ=>(f ρ).bind λ x=>(g ρ).bind λ y=>Mb x y):=by
 obtain⟨ta,a1,a2⟩:=ha;obtain⟨tb,b1,b2⟩:=hb;exact⟨_,UD iI a1 b1,λ P0 P σ H Q ρ E h=>lP a2 b2 YT E h⟩
def GK (μ:List (Option Nat))(g:TG):Prop:=∀σ0 σ x H Q,(∀(j:Nat) v,(Fl μ σ0)[j]?=some (some v)->σ[j]?=some (some v))->g x σ H Q->g x σ H λ σ' H'=>Q σ' H'/\∀(j:Nat) v,(Fl μ σ0)[j]?=some (some v)->σ'[j]?=some (some v)
def uI (μ:List (Option Nat))(g:Xp):Prop:=∀σ0 σ x H Q,(∀(j:Nat) v,(Fl μ σ0)[j]?=some (some v)->σ[j]?=some (some v))->g x σ H Q->g x σ H λ σ' H'=>Q σ' H'/\∀(j:Nat) v,(Fl μ σ0)[j]?=some (some v)->σ'[j]?=some (some v)
theorem GK.keeps {μ:List (Option Nat)}{g:TG}(h:GK μ g):Ld μ g:=λ σ x H Q q=>h σ (Fl μ σ) x H Q (λ _ _ z=>z) q
theorem jC {μ:List (Option Nat)}{i:Nat}(h:μ[i]?=some none):GK μ (OU i):=λ σ0 σ x H Q hk q=>by
 refine⟨q,λ j v hj=>?_⟩;have au:i≠j:=λ z=>by
  subst z;unfold Fl at hj;rw[zat,h] at hj;cases hj
 rw[zb3 au];exact hk j v hj
theorem jD {μ:List (Option Nat)}:uI μ nB:=λ σ0 σ x H Q hk q=>⟨q.1,q.2,hk⟩
theorem YU {μ:List (Option Nat)}{t:TG}{u:Xp}(mono:∀v σ H Q Q',(∀σ' H',Q σ' H'->Q' σ' H')->t v σ H Q->t v σ H Q')(ht:GK μ t)(hu:uI μ u):uI μ (XG t u):=λ σ0 σ x H Q hk q=>by
 obtain⟨v,r,rfl,q⟩:=q;exact⟨v,r,rfl,mono _ _ _ _ _ (λ σ' H' z=>hu σ0 σ' r H' Q z.2 z.1) (ht σ0 σ v H _ hk q)⟩
theorem pL {K:za0}{μ:List (Option Nat)}{n:Nat}{t:Xp}(h:uI μ t):GK μ (nE K n t):=λ σ0 σ x H Q hk q=>by
 obtain⟨a,xs,rfl,h1,h2,q⟩:=q;exact⟨a,xs,rfl,h1,h2,h σ0 σ xs H Q hk q⟩
variable {f8:List D->Aa->M Aa}{gt:D->Aa->M Aa}{es:List Expr}
def jE (X:Cx)(scope:Scope)(NB:List Str)(μ:List (Option Nat))(es:List Expr)(gt:List D->Aa->M Aa):Prop:=
 ∃g:Xp,(∀s H C ex,rD (blockOf X s H scope C NB ex) es g)/\uI μ g/\∀P0 P σ H Q ρ vs ds,Al X.K P0 P H σ ρ->Aj X.K (del H P) vs ds->gG X.K P0 P H Q (gt ds ρ)->g vs σ H Q
theorem YV {scope:Scope}{NB:List Str}{μ:List (Option Nat)}:jE X scope NB μ [] (λ ds ρ=>match ds with | []=>.ok ρ | _=>.bad):=
 ⟨nB,λ s H C ex=>UC,jD,λ P0 P σ H Q ρ vs ds E hv h=>by
  cases hv with
  |nil=>exact⟨rfl,h σ E⟩
  |cons _ _=>exact h.elim⟩
theorem Px {scope:Scope}{NB:List Str}{μ:List (Option Nat)}(i:Nat){x:Str}{px:Pos}(hN:NB.Nodup)(hi:NB[i]?=some x)(hx:(relabel scope X.env).names.lookup x=some .local)(hm:μ[i]?=some none)(hr:jE X scope NB μ es f8)
 (hs:∀s H C ex,(assignEach (.Name x px::es) (blockOf X s H scope C NB ex).env).map (·.2)=assign (.Name x px) (blockOf X s H scope C NB ex).env::(assignEach es (blockOf X s H scope C NB ex).env).map (·.2):=by intro _ _ _ _;rfl):
 jE X scope NB μ (.Name x px::es) (λ ds ρ=>match ds with|d::r=>f8 r (ρ.set i (some (.val d)))|[]=>.bad):=by
 obtain⟨gr,r1,r2,r3⟩:=hr;refine⟨XG (OU i) gr,λ s H C ex=>Rj (Qf (X:=blockOf X s H scope C NB ex) hN hi (.inl hx) (.inr hx)) (r1 s H C ex) (hs s H C ex),YU (λ v σ H Q Q' hq h=>hq _ _ h) (jC hm) r2,λ P0 P σ H Q ρ vs ds E hv h=>?_⟩;cases hv with
 |nil=>exact h.elim
 |cons h1 h2=>exact⟨_,_,rfl,r3 P0 P _ H Q _ _ _ (E.RD h1) h2 h⟩
theorem jF {scope:Scope}{NB:List Str}{μ:List (Option Nat)}{k n:Nat}{pt:Pos}(hc:X.calm=true)(h:jE X scope NB μ es f8)
 (hn:∀s H C ex,(assignEach es (blockOf X s H scope C NB ex).env).length=n:=by intro _ _ _ _;rfl) (cu:∀s H C ex,(assignEach es (blockOf X s H scope C NB ex).env).findIdx? (·.1)=none:=by intro _ _ _ _;rfl):
 vI X scope NB μ (.Tuple es k pt) (λ d ρ=>match d with | .tup ds=>if ds.length=n then f8 ds ρ else .bad|_=>.bad):=by
 obtain⟨t,a1,a2,a3⟩:=h;refine⟨nE X.K n t,λ s H C ex=>XH (X:=blockOf X s H scope C NB ex) hc (a1 s H C ex) (hn s H C ex) (cu s H C ex),(pL a2).keeps,λ P0 P σ H Q ρ v d E hv h=>?_⟩;cases hv with
 | @tup a xs ds hs hl =>
  dsimp only at h;by_cases hd:ds.length=n
  ·rw[if_pos hd] at h;exact⟨a,xs,rfl,Gr.of (Ax hs).2,by rw[hl.length];exact hd,a3 P0 P σ H Q ρ xs ds E hl h⟩
  ·rw[if_neg hd] at h;exact h.elim
 |_=>exact h.elim
end
def WP (m:M Out)(nx:Aa->Prop)(rt:Out->Prop)(ex:Str->Prop):Prop:=match m with
 | .ok (.next ρ)=>nx ρ
 | .ok o=>rt o
 | .ex x=>ex x
 | .bad=>False
section
variable {nx:Aa->Prop}{rt:Out->Prop}{ex:Str->Prop}{m:M Out}{k:Aa->M Out}{ρ ρ':Aa}
theorem C9 (h:m=.ok (.next ρ'))(hn:nx ρ'):WP m nx rt ex:=by rw[h];exact hn
theorem WP.mono {wy:Aa->Prop}{wz:Out->Prop}{oy:Str->Prop}(h:WP m nx rt ex)(h1:∀ρ,nx ρ->wy ρ)(h2:∀o,rt o->wz o)(h3:∀x,ex x->oy x):WP m wy wz oy:=by
 cases m with
 |bad=>exact h
 |ex x=>exact h3 x h
 |ok o =>
  cases o with
  |next ρ=>exact h1 ρ h
  |ret d|brk d|cont d|Cm d|EK d ρ=>exact h2 _ h
theorem wp_seq (h:WP m (λ ρ=>WP (k ρ) nx rt ex) rt ex):WP (Ym m k) nx rt ex:=by
 cases m with
 |bad|ex x=>exact h
 |ok o =>
  cases o with
  |next ρ|ret d|brk d|cont d|Cm d|EK d ρ=>exact h
theorem wp_step (h:m=.ok (.next ρ'))(hk:WP (k ρ') nx rt ex):WP (Ym m k) nx rt ex:=by rw[h];exact hk
theorem By {I:Aa->Prop}(h:WP m I rt ex)(hk:∀ρ,I ρ->WP (k ρ) nx rt ex):WP (Ym m k) nx rt ex:=wp_seq (h.mono hk (λ _ h=>h) λ _ h=>h)
def inLoop (I:Aa->Prop)(nx:Aa->Prop)(rt:Out->Prop)(o:Out):Prop:=match o with
 | .cont ρ=>I ρ
 | .brk ρ=>nx ρ
 |o=>rt o
theorem Dr {gt:D->Aa->M Aa}{gb:Aa->M Out}{ds:List D}(I:Nat->Aa->Prop)(h0:I 0 ρ)
 (step:∀i d ρ,ds[i]?=some d->I i ρ->∃ρ1,gt d ρ=.ok ρ1/\WP (gb ρ1) (I (i+1)) (inLoop (I (i+1)) nx rt) ex) (done:∀ρ,I ds.length ρ->nx ρ):WP (forM gt gb ds ρ) nx rt ex:=by
 have key:∀(n i:Nat) (ρ:Aa),i+n=ds.length->I i ρ->WP (forM gt gb (ds.drop i) ρ) nx rt ex:=by
  intro n;induction n with
  |zero =>
   intro i ρ hi h;have e:i=ds.length:=by omega
   subst e;rw[List.drop_length,forM];exact done ρ h
  |succ n ih =>
   intro i ρ hi h;have be:i<ds.length:=by omega
   obtain⟨ρ1,h1,h2⟩:=step i ds[i] ρ (zaf be) h;rw[Kf be,forM,h1];dsimp only;cases q:gb ρ1 with
   |bad|ex x=>rw[q] at h2;exact h2
   |ok o =>
    rw[q] at h2;cases o with
    |next ρ2=>exact ih (i+1) ρ2 (by omega) h2
    |ret d|Cm d|EK d ρ2=>exact h2
    |cont ρ2=>exact ih (i+1) ρ2 (by omega) h2
    |brk ρ2=>exact h2
 have:=key ds.length 0 ρ (by omega) h0;rw[List.drop_zero] at this;exact this
theorem NG {α:Type}{c:Aa->M Bool}{b:Aa->M Out}{lt:α->α->Prop}(J:α->Aa->Prop){x:α}(hx:Acc lt x)(h0:J x ρ)
 (step:∀x ρ,J x ρ->(c ρ=.ok false/\nx ρ)\/(c ρ=.ok true/\WP (b ρ) (λ ρ2=>∃y,lt y x/\J y ρ2) (inLoop (λ ρ2=>∃y,lt y x/\J y ρ2) nx rt) ex)):WP (Ma c b ρ) nx rt ex:=by
 have key:∀x,Acc lt x->∀ρ,J x ρ->∃n,AF c b n ρ≠.bad/\WP (AF c b n ρ) nx rt ex:=by
  intro x hx;induction hx with
  |intro x _ ih =>
   intro ρ h;rcases step x ρ h with ⟨h1,h2⟩|⟨h1,h2⟩
   ·refine⟨1,?_,?_⟩
    ·rw[AF,h1];intro z;cases z
    ·rw[AF,h1];exact h2
   ·cases q:b ρ with
    |bad=>rw[q] at h2;exact h2.elim
    |ex y =>
     rw[q] at h2;refine⟨1,?_,?_⟩
     ·rw[AF,h1];dsimp only;rw[q];intro z;cases z
     ·rw[AF,h1];dsimp only;rw[q];exact h2
    |ok o =>
     rw[q] at h2;have go:∀ρ2,(∃y,lt y x/\J y ρ2)->(∀n,AF c b (n+1) ρ=AF c b n ρ2)->∃n,AF c b n ρ≠.bad/\WP (AF c b n ρ) nx rt ex:=by
      rintro ρ2 ⟨y,hy,hJ⟩ e;obtain⟨n,h3,h4⟩:=ih y hy ρ2 hJ;exact⟨n+1,by rw[e];exact h3,by rw[e];exact h4⟩
     cases o with
     |next ρ2|cont ρ2=>exact go ρ2 h2 λ n=>by rw[AF,h1];dsimp only;rw[q]
     |brk ρ2 =>
      refine⟨1,?_,?_⟩
      ·rw[AF,h1];dsimp only;rw[q];intro z;cases z
      ·rw[AF,h1];dsimp only;rw[q];exact h2
     |ret d =>
      refine⟨1,?_,?_⟩
      ·rw[AF,h1];dsimp only;rw[q];intro z;cases z
      ·rw[AF,h1];dsimp only;rw[q];exact h2
     |Cm d =>
      refine⟨1,?_,?_⟩
      ·rw[AF,h1];dsimp only;rw[q];intro z;cases z
      ·rw[AF,h1];dsimp only;rw[q];exact h2
     |EK d ρ2 =>
      refine⟨1,?_,?_⟩
      ·rw[AF,h1];dsimp only;rw[q];intro z;cases z
      ·rw[AF,h1];dsimp only;rw[q];exact h2
 obtain⟨n,h1,h2⟩:=key x hx ρ h0;unfold Ma;have hx:∃n,AF c b n ρ≠.bad:=⟨n,h1⟩;rw[dif_pos hx];have e:AF c b (zab hx) ρ=AF c b n ρ:=by
  have a:=CN (za2 hx) n;have b':=CN h1 (zab hx);rw[Nat.add_comm] at b';rw[<-a,<-b']
 rw[e];exact h2
def yA (Q:OT->Prop)(o:Out):Prop:=match o with
 | .ret d=>Q (.sh d)
 | .Cm c=>∃t,tZ c=.ok t/\Q t
 |_=>False
theorem NH {Q:OT->Prop}(h:WP m (λ _=>Q (.sh .AK)) (yA Q) (λ _=>False)):∃t,TN m=.ok t/\Q t:=by
 cases m with
 |bad|ex x=>exact h.elim
 |ok o =>
  cases o with
  |next ρ|ret d=>exact⟨_,rfl,h⟩
  |Cm c=>exact h
  |EK c ρ|brk ρ|cont ρ=>exact h.elim
theorem Bh {t:OT}(h:WP m (λ _=>OT.sh .AK=t) (yA (·=t)) (λ _=>False)):TN m=.ok t:=by
 obtain⟨u,h1,h2⟩:=NH (Q:=(·=t)) h;rw[h1,h2]
def yB (Q:D->Prop)(o:Out):Prop:=match o with
 | .ret d=>Q d
 | .Cm c=>∃t,xD c=.ok t/\Q t
 |_=>False
theorem uJ {Q:D->Prop}(h:WP m (λ _=>Q .AK) (yB Q) (λ _=>False)):∃t,fin m=.ok t/\Q t:=by
 cases m with
 |bad|ex x=>exact h.elim
 |ok o =>
  cases o with
  |next ρ|ret d=>exact⟨_,rfl,h⟩
  |Cm c=>exact h
  |EK c ρ|brk ρ|cont ρ=>exact h.elim
theorem uK {d:D}(h:WP m (λ _=>D.AK=d) (yB (·=d)) (λ _=>False)):fin m=.ok d:=by
 obtain⟨u,h1,h2⟩:=uJ (Q:=(·=d)) h;rw[h1,h2]
end
section
variable {d:D}{ds es:List D}{ρ ρ':Aa}{o:Option Cl}{i n:Nat}{p:Option Nat}{t u:OT}{π:List Nat}{b:Bool}{ks vs:List D}{ts:List OT}{m:M D}
theorem pM:rv 0 (some (.val d)::ρ)=.ok d:=rfl
theorem pN:rv (i+1) (o::ρ)=rv i ρ:=rfl
noncomputable def RU (f:Aa->Aa)(m:M Out):M Out:=match m with
 | .ok (.next ρ)=>.ok (.next (f ρ))
 |m=>m
theorem FQ {f:Aa->Aa}:RU f (.ok (.next ρ))=.ok (.next (f ρ)):=rfl
theorem FR:RO 0 (some (.own ds)::ρ)=.ok []:=rfl
theorem FT:RO 0 (some (.ow (.J9 n ds))::ρ)=.ok []:=rfl
theorem Em:RO 0 (some (.ow (.tree p t))::ρ)=.ok []:=by unfold RO UY;simp[treeOf]
theorem Py:RO (i+1) (o::ρ)=RO i ρ:=rfl
theorem V2:UY 0 (some (.own ds)::ρ) π=Ls (.lst (ds.map .sh)) π:=rfl
theorem V3:UY 0 (some (.ow (.J9 n ds))::ρ) π=Ls (.lst (ds.map .sh)) π:=rfl
theorem NI:UY 0 (some (.ow (.tree p t))::ρ) π=Ls t π:=rfl
theorem IA:R9 0 (some (.own ds)::ρ) []=.ok ds:=by unfold R9;simp[V2,CQ]
theorem IB:R9 0 (some (.ow (.J9 n ds))::ρ) []=.ok ds:=by unfold R9;simp[V3,CQ]
theorem FU:R9 0 (some (.ow (.tree p (.lst (ds.map .sh))))::ρ) []=.ok ds:=by unfold R9;simp[NI,CQ]
theorem Wt:R9 (i+1) (o::ρ) π=R9 i ρ π:=rfl
theorem En:FO 0 (some (.own ds)::ρ) []=.ok (ds.map .sh):=by unfold FO;simp[V2]
theorem Eo:FO 0 (some (.ow (.J9 n ds))::ρ) []=.ok (ds.map .sh):=by unfold FO;simp[V3]
theorem Ds:FO 0 (some (.ow (.tree p (.lst ts)))::ρ) []=.ok ts:=by unfold FO;simp[NI]
theorem Lw:FO (i+1) (o::ρ) π=FO i ρ π:=rfl
theorem Ca:Hg 0 (some (.ow (.tree p (.Bl b ks (vs.map .sh))))::ρ) []=.ok (b,ks,vs):=by unfold Hg;simp[NI,CQ]
theorem Lx:Hg (i+1) (o::ρ) π=Hg i ρ π:=rfl
theorem FV:Jd 0 (some (.own ds)::ρ) [] u=.ok (.next (some (toCl none u)::ρ)):=by unfold Jd;simp[treeOf]
theorem FW:Jd 0 (some (.ow (.J9 n ds))::ρ) [] u=.ok (.next (some (toCl (some n) u)::ρ)):=by unfold Jd;simp[treeOf]
theorem Ep:Jd 0 (some (.ow (.tree p t))::ρ) π u=.ok (.next (some (toCl p (EM t π u))::ρ)):=by unfold Jd;simp[treeOf]
theorem Pz:Jd (i+1) (o::ρ) π u=RU (o::·) (Jd i ρ π u):=by
 unfold Jd RU;simp only[zb7,zam];split
 ·rename_i c e;split<;>simp_all
 ·simp_all
theorem FX:W6 0 (some (.own ds)::ρ) (.ok d)=if ds.length<1000 then .ok (.next (some (.own (ds++[d]))::ρ)) else .bad:=rfl
theorem PB:W6 (i+1) (o::ρ) m=RU (o::·) (W6 i ρ m):=by
 unfold W6;rw[zb7];cases q:ρ[i]? with
 |none=>rfl
 |some oo =>
  cases oo with
  |none=>rfl
  |some c =>
   cases c with
   |own ds =>
    cases m with
    |ok d =>
     simp only[M.A8,zam];by_cases h:ds.length<1000
     ·rw[if_pos h,if_pos h];rfl
     ·rw[if_neg h,if_neg h];rfl
    |ex x|bad=>rfl
   |val d|ow w=>rfl
theorem FY {j:Int}:We 0 (some (.own ds)::ρ) (.ok (.int j)) (.ok d)=if 0<=j/\j.toNat<=ds.length/\ds.length<1000 then .ok (.next (some (.own (ds.take j.toNat++d::ds.drop j.toNat))::ρ)) else .bad:=rfl
theorem PD {m2:M D}:We (i+1) (o::ρ) m m2=RU (o::·) (We i ρ m m2):=by
 unfold We;rw[zb7];cases q:ρ[i]? with
 |none=>rfl
 |some oo =>
  cases oo with
  |none=>rfl
  |some c =>
   cases c with
   |own ds =>
    cases m with
    |ok d =>
     cases m2 with
     |ok d2 =>
      simp only[M.A8,zam];cases d with
      |int j =>
       dsimp only;by_cases h:0<=j/\j.toNat<=ds.length/\ds.length<1000
       ·rw[if_pos h,if_pos h];rfl
       ·rw[if_neg h,if_neg h];rfl
      |_=>rfl
     |ex x|bad=>rfl
    |ex x|bad=>rfl
   |val d|ow w=>rfl
theorem FZ:TQ 0 (some (.val d)::ρ)=.ok (.ret d):=rfl
theorem G0:TQ 0 (some (.own ds)::ρ)=.ok (.Cm (.own ds)):=rfl
theorem IC {w:Ow}:TQ 0 (some (.ow w)::ρ)=.ok (.Cm (.ow w)):=rfl
theorem PF:TQ (i+1) (o::ρ)=TQ i ρ:=rfl
theorem yC:xF i ρ π=match UY i ρ π with | some (.sh d)=>.ok d | _=>.bad:=rfl
theorem Wu:YI (i+1) (o::ρ)=o::YI i ρ:=by
 unfold YI;simp only[zb7,zam];split<;>simp_all
theorem Wv {c:Cl}:YI 0 (some c::ρ)=some (Mr c)::ρ:=rfl
theorem G1:Mr (.val d)=.val d:=rfl
theorem G2:Mr (.own ds)=.val (.lst ds):=rfl
theorem G3:Mr (.ow (.J9 n ds))=.val (.lst ds):=rfl
theorem ID:Mr (.ow (.tree p t))=.val (er t):=rfl
theorem GD:er (.Bl b ks (vs.map .sh))=.Bl b ks vs:=by rw[er,Qz]
theorem HF:er (.lst (ds.map .sh))=.lst ds:=by rw[er,Qz]
theorem Ks:er (.sh d)=d:=rfl
theorem rJ {l:List (Option Nat)}:BS (none::l) ρ=none::BS l ρ:=rfl
theorem rK:BS [] ρ=[]:=rfl
theorem Ww {l:List (Option Nat)}:BS (some i::l) ρ=(match ρ[i]? with | some (some (.val d))=>some (.val d) | _=>none)::BS l ρ:=rfl
theorem Wx {α:Type}{x y:α}:(if ([]:List D).length<=1000 then x else y)=x:=if_pos (by show 0<=1000;decide)
theorem Wy {α:Type}{x y:α}{a:D}:(if [a].length<=1000 then x else y)=x:=if_pos (by show 1<=1000;decide)
theorem Wz {α:Type}{x y:α}{a b:D}:(if [a,b].length<=1000 then x else y)=x:=if_pos (by show 2<=1000;decide)
theorem WA {α:Type}{x y:α}{a b c:D}:(if [a,b,c].length<=1000 then x else y)=x:=if_pos (by show 3<=1000;decide)
theorem WB {α:Type}{x y:α}{a b c d:D}:(if [a,b,c,d].length<=1000 then x else y)=x:=if_pos (by show 4<=1000;decide)
theorem toCl_nil:toCl none (.lst [])=.own []:=rfl
theorem CG {α:Type}{gt:D->Aa->M Aa}{ft:Aa->M Bool}{fe:Aa->M D}{g:α->D}(p:α->Bool)(f:α->D):∀ {l:List α},(∀x∈l,∃ρ1,gt (g x) ρ=.ok ρ1/\ft ρ1=.ok (p x)/\(p x=true->fe ρ1=.ok (f x)))->Bt gt ft fe (l.map g) ρ=.ok ((l.filter p).map f)
 |[],_=>rfl
 |x::r,h=>by
  obtain⟨ρ1,h1,h2,h3⟩:=h x za3;have ih:=CG (gt:=gt) (ft:=ft) (fe:=fe) (g:=g) p f (l:=r) λ y hy=>h y (za4 _ hy);rw[za8,Bt,h1];dsimp only;rw[h2];dsimp only;rw[List.filter_cons];cases hp:p x with
  |true =>
   rw[if_pos rfl,h3 hp];dsimp only;rw[ih];simp
  |false=>simp[ih]
theorem CH {α:Type}{gt:D->Aa->M Aa}{ft:Aa->M Bool}{fe:Aa->M D}{g:α->D}(f:α->D){l:List α}(h:∀x∈l,∃ρ1,gt (g x) ρ=.ok ρ1/\ft ρ1=.ok true/\fe ρ1=.ok (f x)):Bt gt ft fe (l.map g) ρ=.ok (l.map f):=by
 have:=CG (gt:=gt) (ft:=ft) (fe:=fe) (ρ:=ρ) (g:=g) (λ _=>true) f (l:=l) λ x hx=>by
  obtain⟨ρ1,h1,h2,h3⟩:=h x hx;exact⟨ρ1,h1,h2,λ _=>h3⟩
 rw[this,List.filter_eq_self.mpr (λ _ _=>rfl)]
theorem Cb {α:Type}{g:α->D}{l:List α}{i:Nat}{d:D}(h:(l.map g)[i]?=some d):∃x,l[i]?=some x/\d=g x:=by
 rw[zat] at h;cases q:l[i]? with
 |none=>rw[q] at h;cases h
 |some x=>rw[q] at h;cases h;exact⟨x,rfl,rfl⟩
theorem Ly:iX (.lst (ds.map .sh))=.ok ds:=by unfold iX;simp[CQ,iW]
theorem Er {α:Type}{x:α}:iW (some x)=.ok x:=rfl
theorem IE:RN i ρ (.sh d)=.ok (.next (ρ.set i (some (.val d)))):=rfl
theorem G4:RN i ρ (.lst ts)=.ok (.next (ρ.set i (some (toCl none (.lst ts))))):=rfl
theorem G5:RN i ρ (.tup ts)=.ok (.next (ρ.set i (some (.ow (.tree none (.tup ts)))))):=rfl
theorem G6:RN i ρ (.Bl b ks ts)=.ok (.next (ρ.set i (some (.ow (.tree none (.Bl b ks ts)))))):=rfl
theorem G7 {x:Str}{ns:List Str}:RN i ρ (.ins x ns ts)=.ok (.next (ρ.set i (some (.ow (.tree none (.ins x ns ts)))))):=rfl
theorem IF:Wj (.sh d)=.ok (.ret d):=rfl
theorem G8:Wj (.lst ts)=.ok (.Cm (.ow (.tree none (.lst ts)))):=rfl
theorem G9:Wj (.tup ts)=.ok (.Cm (.ow (.tree none (.tup ts)))):=rfl
theorem Ga:Wj (.Bl b ks ts)=.ok (.Cm (.ow (.tree none (.Bl b ks ts)))):=rfl
theorem RV {α:Type}{f:α->D}(h:∀x,Lq (f x)=true):∀l:List α,Ki (l.map f)=true
 |[]=>by simp[Ki]
 |x::r=>by rw[za8,Ki,h x,RV h r];rfl
theorem RW:∀ds:List D,Hf (ds.map .sh)=Ki ds
 |[]=>by simp[Ki,Hf]
 |d::r=>by rw[za8,Hf,Jc,RW r,Ki]
theorem pO (h:Lq d=true):Wi (.ok (.sh d))=.ok (.sh d):=by unfold Wi;simp[Jc,h]
theorem jG (h:Ki ds=true):Wi (.ok (.lst (ds.map .sh)))=.ok (.lst (ds.map .sh)):=by unfold Wi;simp[Jc,RW,h]
theorem jH {i:Int}:Lq (.int i)=true:=by simp[Lq]
theorem RX:D2 (.lst ds)=.ok (!ds.isEmpty):=rfl
theorem pQ {a s m:Int}(h0:0<=a)(h1:a<m)(s0:1<=s)(s1:s<m):(a+s)%m≠a:=by
 by_cases h:a+s<m
 ·rw[Int.emod_eq_of_lt (by omega) h];omega
 ·have e:(a+s)%m=(a+s-m)%m:=by rw[Int.sub_emod_right]
  rw[e,Int.emod_eq_of_lt (by omega) (by omega)];omega
theorem IG {k:Nat}(i j:Int):ZZ k (.int i) (.int j)=.ok (.bl (decide (i=j))):=by
 rw[Qw (GB _) (GB _)];simp only[AA,Bool.beq_eq_decide_eq]
theorem IH {k:Nat}(i j:Int):Xs k (.int i) (.int j)=.ok (.bl (!decide (i=j))):=by
 rw[TL (GB _) (GB _)];simp only[AA,Bool.beq_eq_decide_eq]
theorem Gb {i j:Int}:Yg (.int i) (.int j)=.ok (.int (i+j)):=rfl
theorem Gd {i j:Int}:oM (.int i) (.int j)=.ok (.int (i-j)):=rfl
theorem II {i j:Int}:yS (.int i) (.int j)=.ok (.bl (decide (i<j))):=rfl
theorem IJ {i j:Int}:yT (.int i) (.int j)=.ok (.bl (decide (i<=j))):=rfl
theorem IK {i j:Int}:xX (.int i) (.int j)=.ok (.bl (decide (j<i))):=rfl
theorem IL {i j:Int}:yU (.int i) (.int j)=.ok (.bl (decide (j<=i))):=rfl
theorem IM {i:Int}:xY (.int i)=.ok (some i):=rfl
theorem Ge:W5 [.lst ds]=.ok (.int ds.length):=rfl
theorem Gf:W5 [.tup ds]=.ok (.int ds.length):=rfl
theorem ite_tt {α:Type}{x y:α}:(if true=true then x else y)=x:=rfl
theorem ite_ff {α:Type}{x y:α}:(if false=true then x else y)=y:=rfl
theorem TY {lo hi:Option Int}{x:D}(h:lI lo hi x=.ok (.lst ds)):T8 lo hi x=.ok (.lst (ds.map .sh)):=by
 unfold lI at h;unfold T8;cases x with
 |lst xs=>dsimp only at h ⊢;injection h with h;injection h with h;rw[h]
 |_=>cases h
theorem HG (xs:List D)(k:Nat):T8 none (some (k:Int)) (.lst xs)=.ok (.lst ((xs.take k).map .sh)):=TY (Yo xs k)
theorem NJ (xs:List D)(k:Nat):T8 (some (k:Int)) none (.lst xs)=.ok (.lst ((xs.drop k).map .sh)):=TY (Yv xs k)
theorem jI (xs:List D)(a b:Nat):T8 (some (a:Int)) (some (b:Int)) (.lst xs)=.ok (.lst (((xs.drop a).take (b-a)).map .sh)):=TY (iJ xs a b)
theorem Gg:Jy (.lst ds)=.ok (.lst (ds.map .sh)):=rfl
theorem Gh:Jy (.tup ds)=.ok (.lst (ds.map .sh)):=rfl
theorem Es {ns:List Int}:YR [.lst (ns.map D.int)]=.ok (.int ns.sum):=by unfold YR;dsimp only;rw[Ej]
theorem Eu {T:String}:Kd T (.lst ds)=.ok (.bl (BN T (.lst ds))):=rfl
theorem Ew {T:String}:Kd T (.tup ds)=.ok (.bl (BN T (.tup ds))):=rfl
theorem Ex {T:String}{k:Int}:Kd T (.int k)=.ok (.bl (BN T (.int k))):=rfl
theorem Ey {T:String}:Kd T .AK=.ok (.bl (BN T .AK)):=rfl
theorem Gi {T:String}{k:Bool}:Kd T (.bl k)=.ok (.bl (BN T (.bl k))):=rfl
theorem Ez {T:String}{k:Str}:Kd T (.str k)=.ok (.bl (BN T (.str k))):=rfl
theorem EA {T:String}:Kd T (.Bl b ks vs)=.ok (.bl (BN T (.Bl b ks vs))):=rfl
theorem PH:BN "list" (.lst ds)=true:=rfl
theorem PJ:BN "tuple" (.tup ds)=true:=rfl
theorem PL {k:Int}:BN "int" (.int k)=true:=rfl
theorem PM {k:Int}:BN "bool" (.int k)=false:=rfl
theorem PN:BN "dict" (.Bl b ks vs)=true:=rfl
theorem EB {neg:Bool}{k:Int}{ns:List Int}:OB neg (.int k) (.lst (ns.map D.int))=.ok (.bl (if neg then !ns.contains k else ns.contains k)):=by
 unfold OB vL;dsimp only;rw[Ej]
noncomputable def vO (s:Option D):Option Cl:=s.map .val
theorem IP {s:Option D}:Jb (vO s::ρ)=vO s::Jb ρ:=by cases s<;>rfl
end
noncomputable def TZ (x:Int):List Int->List Int
 |[]=>[x]
 |y::r=>if x<=y then x::y::r else y::TZ x r
noncomputable def Hh:List Int->List Int
 |[]=>[]
 |x::r=>TZ x (Hh r)
theorem Lz (x:Int):∀l:List Int,(TZ x l).Perm (x::l)
 |[]=>.refl _
 |y::r=>by
  unfold TZ;split
  ·exact .refl _
  ·exact ((Lz x r).cons y).trans (.swap x y r)
theorem Dt:∀l:List Int,(Hh l).Perm l
 |[]=>.refl _
 |x::r=>(Lz x (Hh r)).trans ((Dt r).cons x)
theorem Mc (x:Int):∀l:List Int,l.Pairwise (·<=·)->(TZ x l).Pairwise (·<=·)
 |[],_=>by simp[TZ]
 |y::r,h=>by
  unfold TZ;have hy:=zby.mp h;split
  ·rename_i dR;exact zby.mpr ⟨λ z hz=>by
    rcases za9.mp hz with rfl|hz
    ·exact dR
    ·exact Int.le_trans dR (hy.1 z hz),h⟩
  ·rename_i dR;exact zby.mpr ⟨λ z hz=>by
    rcases za9.mp ((Lz x r).mem_iff.mp hz) with rfl|hz
    ·omega
    ·exact hy.1 z hz,Mc x r hy.2⟩
theorem GF:∀l:List Int,(Hh l).Pairwise (·<=·)
 |[]=>.nil
 |x::r=>Mc x _ (GF r)
theorem HH:∀ {a b:List Int},a.Perm b->a.Pairwise (·<=·)->b.Pairwise (·<=·)->a=b
 |[],b,hp,_,_=>(List.nil_perm.mp hp).symm
 |x::r,[],hp,_,_=>by have:=hp.length_eq;simp at this
 |x::r,y::t,hp,ha,hb=>by
  have l7:=zby.mp ha;have bZ:=zby.mp hb;have e:x=y:=by
   have h1:x∈y::t:=hp.mem_iff.mp (za3 ..);have h2:y∈x::r:=hp.mem_iff.mpr (za3 ..);rcases za9.mp h1 with e|h1
   ·exact e
   rcases za9.mp h2 with e|h2
   ·exact e.symm
   have:=l7.1 _ h2;have:=bZ.1 _ h1;omega
  subst e;rw[HH (List.Perm.cons_inv hp) l7.2 bZ.2]
theorem Kt:∀ {us:List Value}{ns:List Int},IntsAre us ns->Vals (ns.map V.int) us
 |_,_,.nil=>.nil
 |_,_,.cons n t h=>.cons ⟨t,rfl⟩ (Kt h)
theorem NK {K:za0}{H:Hp}:∀l:List Int,Aj K H (l.map V.int) (l.map D.int)
 |[]=>.nil
 |x::r=>.cons (.int _) (NK r)
section
variable {X:Cx}{WX:Str->Hp->Prop}{c:Bool}{P0:E7}{P:Addr->Prop}{H:Hp}{σ:St}{ρ:Aa}{a b e:Expr}{f g:Aa->M D}{fn:Aa->M OT}{pos:Pos}{te:TE}
noncomputable def xH (X:Cx)(te:TE):TE:=λ σ H Q=>te σ H λ x H1=>∃p ns,x=.ref p/\DL X.K H1 p (List.map V.int ns)/\ns.length<64/\∀r,H1 r=none->Q (.ref r) (upd H1 r (.lst ((Hh ns).map V.int)))
theorem WC {p:Pos}(hc:X.calm=true)(hg:Gl X "sorted")(hm:X.mg "sorted" = none)(he:PE X e te)
 (hv:bootBuiltins "sorted" = some (.builtin "sorted"):=by decide +kernel)
 (hs:starEach [e] X.env=[(false,eval e X.env)]:=by rfl):
 PE X (.Call (.Name "sorted" p) [e] [] pos) (xH X te):=by
 intro pins s σ H Q I h;refine wpAny_Call_Name_kw (Fi I hg hm hv ?_);refine PyProof.Rows.callWith_builtin1 ?_ hs;rw[hs];refine Calls.spliced_cons (BA (he pins s σ H _ I h) λ u s1 ⟨x,H1,I1,r1,q1⟩=>?_);obtain⟨q,ns,rfl,hq,sq,h⟩:=q1;cases r1;refine Calls.spliced_nil ?_;obtain⟨aa,r',pl,hz⟩:=I1.list hq;have hi:=intsAre_of r';have y8:=r'.length;rw[za5] at y8;refine sorted_ints pl.isList hi (by omega) λ out fv b1 b2 b3=>?_;obtain⟨c',ci⟩:=sortedAll_at s1.heap aa out;have e:fv=Hh ns:=HH (b2.trans (Dt ns).symm) b3 (GF ns);subst e;refine⟨.ref _,_,I1.laid (t':=s1.toks) (o:=.lst ((Hh ns).map V.int)) (λ b o e=>sortedAll_old e) (Nat.le_succ _) ⟨?_,out.toList,c',Kt b1,by simpa using ci⟩,rfl,h _ (I1.AE.fresh (Nat.le_succ _))⟩;rw[za5,(Dt ns).length_eq];exact zbl (AS (by omega))
noncomputable def jJ (d:D):M OT:=match d with
 | .lst xs=>(match Cw xs with|some ns=>if ns.length<64 then .ok (.lst (((Hh ns).map .int).map .sh)) else .bad|none=>.bad)
 |_=>.bad
theorem WD {ns:List Int}(h:ns.length<64):jJ (.lst (ns.map .int))=.ok (.lst (((Hh ns).map .int).map .sh)):=by
 unfold jJ;dsimp only;rw[Ej];dsimp only;rw[if_pos h]
theorem WE {p:Pos}(hc:X.calm=true)(hg:Gl X "sorted")(hm:X.mg "sorted" = none)(he:DE X WX true e f)
 (hv:bootBuiltins "sorted" = some (.builtin "sorted"):=by decide +kernel)
 (hs:starEach [e] X.env=[(false,eval e X.env)]:=by rfl):
 DN X WX (.Call (.Name "sorted" p) [e] [] pos) (λ ρ=>(f ρ).bind jJ):=by
 obtain⟨te,e1,e2⟩:=he;refine⟨_,WC hc hg hm e1 hv hs,λ P0 P σ H Q ρ E h=>?_⟩;refine e2 P0 P σ H _ ρ E ?_;dsimp only at h;cases q:f ρ with
 |bad|ex x=>rw[q] at h;exact h
 |ok d =>
  rw[q] at h;simp only[M.A8] at h;intro v H1 s1 hv;unfold jJ at h;split at h
  ·rename_i xs;split at h
   ·rename_i ns eb;have:=CO eb;subst this;split at h
    ·rename_i hl;cases hv with
     |lst hs hh =>
      have:=Dp hh;subst this;exact⟨_,ns,rfl,hs.Bs,hl,h.Jy s1 (NK _)⟩
    ·exact h.elim
   ·exact h.elim
  ·exact h.elim
noncomputable def jK (d k:D):M OT:=match k with
 | .int j=>if 0<=j/\j.toNat<=1000 then .ok (.lst ((zai j.toNat d).map .sh)) else .bad
 |_=>.bad
theorem RY {d:D}{n:Nat}(h:n<=1000):jK d (.int (n:Int))=.ok (.lst ((zai n d).map .sh)):=by
 unfold jK;dsimp only;rw[if_pos ⟨by omega,by omega⟩,zc7]
theorem YW {sr:Pos}(ha:DE X WX true a f)(hb:DE X WX true b g)(cu:starEach [a] X.env=[(false,eval a X.env)]:=by rfl):
 DN X WX (.BinOp (.List [a] sr) .Mult b pos) (λ ρ=>(f ρ).bind λ d=>(g ρ).bind λ k=>jK d k):=by
 obtain⟨ta,a1,a2⟩:=ha;obtain⟨tb,b1,b2⟩:=hb;refine⟨_,UD oF (To (Bb a1 Cj cu)) b1,λ P0 P σ H Q ρ E h=>?_⟩;dsimp only at h;refine a2 P0 P σ H _ ρ E ?_;cases q:f ρ with
 |bad|ex x=>rw[q] at h;exact h
 |ok d =>
  rw[q] at h;simp only[M.A8] at h;intro v H1 s1 hv;have E1:=E.same s1;refine⟨zbl (AS (by simp)),λ p hp=>?_⟩;have s2:Ag H1 (upd H1 p (.lst [v])):=B7 hp _;have E2:=E1.same s2;refine b2 P0 P σ _ _ ρ E2 ?_;cases q2:g ρ with
  |bad=>rw[q2] at h;exact h
  |ex x=>rw[q2] at h;exact λ H' s3=>h H' ((s1.trans s2).trans s3)
  |ok k =>
   rw[q2] at h;simp only[M.A8] at h;unfold jK at h;intro w H3 s3 hw;cases k with
   |int j =>
    dsimp only at h;by_cases hj:0<=j/\j.toNat<=1000
    ·rw[if_pos hj] at h;cases hw;refine⟨p,j,[v],rfl,rfl,s3 _ _ AU,by omega,by omega,zbl (AS (by simp;omega)),?_⟩;rw[Po];exact h.Jy ((s1.trans s2).trans s3) (RI ((hv.mono s2.del).mono s3.del) j.toNat)
    ·rw[if_neg hj] at h;exact h.elim
   |_=>exact h.elim
end
theorem WG (l:Addr)(items:Array Value)(n:Nat)(x:Int)(u:Tok)(dd:Option Addr)(sl:Array (Option Value))(j0:¬(!Builtin.List.listFitsIndex x)=true)(hc1:¬items.size*x.toNat > (2^63-1) / 8)(nh:¬zc5 (items.size*x.toNat)=true):
 Meets (Builtin.«list.__mul__» ⟨[.ref l,.int x u],[]⟩) (λ _ R s=>s.heap.get? l=some {cls:=.type "list",dict:=dd,data:=.seq items n,slots:=sl}/\R (.ok (.ret (zbe s.heap.objs.size))) {s with heap:=s.heap.push {cls:=Value.type "list",data:=Data.seq (List.foldl (λ x1 x2=>x1++x2) #[] (zai (if items.isEmpty=true then 0 else x.toNat) items))},toks:=s.toks}):=
 .of_wp λ prog w A R s h=>by
  obtain⟨hp,g,d,tk,os⟩:=s;obtain⟨hl,h⟩:=h;have hsz:=PySem.AutoListH.joined_fits nh
  wp_walk using PySem.AutoSeq1.wpAny_loadPart' hl;refine wpAny_ite_false (decide_eq_false (Nat.not_lt.mpr hsz)) ?_;wp_walk;exact⟨_,rfl,h⟩
theorem WH (a:Int)(t:Tok)(l:Addr)(items:Array Value)(n:Nat)(dd:Option Addr)(sl:Array (Option Value)):
 Meets (Builtin.«int.__rmul__» ⟨[.int a t,.ref l],[]⟩) (λ _ R s=>s.heap.get? l=some {cls:=.type "list",dict:=dd,data:=.seq items n,slots:=sl}/\R (.ok (.ret Value.notImplemented)) s):=
 .of_wp λ prog w A R s h=>by obtain⟨hp,g,d,tk,os⟩:=s;obtain⟨hl,h⟩:=h;wp_walk using PySem.AutoSeq1.wpAny_loadPart' hl;exact⟨_,rfl,h⟩
section
variable {X:Cx}{WX:Str->Hp->Prop}{c:Bool}{P0:E7}{P:Addr->Prop}{H:Hp}{σ:St}{ρ:Aa}{a b e:Expr}{f g:Aa->M D}{fn:Aa->M OT}{pos:Pos}{te:TE}
noncomputable def lS (K:za0):R2:=λ x y H Q=>∃l k xs,x=.ref l/\y=.int k/\DL K H l xs/\-(2^63)<=k/\k<2^63/\xs.length*k.toNat<=sizeLine/\
 ∀p,H p=none->Q (.ref p) (upd H p (.lst (zai k.toNat xs).flatten))
theorem jL:Hm X (binaryOp .Mult) (lS X.K):=by
 intro pins s σ H x y v u Q I rx ry h;obtain⟨l,k,xs,rfl,rfl,hH,h1,h2,hz,q⟩:=h;cases rx;obtain⟨t,rfl⟩:=ry;obtain⟨aa,r,⟨⟨c1,d1,t1,jy⟩,n,e,q1,q2,q3⟩,yt⟩:=I.list hH;dsimp only at q1 q2 q3;subst q1 q2 q3;have hl:=r.length;have hlen:aa.toArray.size*k.toNat<=sizeLine:=by rw[zaa,<-hl];exact hz
 have il:¬ aa.toArray.size*k.toNat > (2^63-1) / 8:=by
  have:(sizeLine:Nat)<=(2^63-1) / 8:=by decide
  omega
 have e7:¬ (!Builtin.List.listFitsIndex k)=true:=by
  rw[fitsIndex_both h1 h2];exact zao
 have dg:¬ zc5 (aa.toArray.size*k.toNat)=true:=by
  rw[MU hlen];exact zao
 have ck:List.foldl (λ x1 x2=>x1++x2) #[] (zai (if aa.toArray.isEmpty=true then 0 else k.toNat) aa.toArray)=(zai k.toNat aa).flatten.toArray:=by
  have f0:∀m:Nat,List.foldl (λ x1 x2=>x1++x2) #[] (zai m aa.toArray)=(zai m aa).flatten.toArray:=λ m=>by
   have:=foldl_rep aa m [];rw[List.nil_append] at this;exact this
  rw[f0];cases aa with
  |nil=>simp
  |cons a r'=>rw[if_neg (by simp)]
 refine wpAny_binaryOp_repeat_ref (T := "list") (U := "int") (by decide) ⟨_,e,rfl⟩ (λ s'=>typeIs_int s' k t) noFill_list_mul F.fills_int_mul F.slot_int_rmul repeat_list F.slot_int_index.lookup
  (call_meets F.slot_int_rmul (typeIs_int s k t) F.entry_int_rmul (F.args_int_rmul_2 _ _) (WH k t l aa.toArray n _ _)
   ⟨e,rfl,⟨_,e,rfl⟩,call_meets F.slot_list_mul ⟨_,e,rfl⟩ F.entry_list_mul (F.args_list_mul_2 _ _) (WG l aa.toArray n k t _ _ e7 il dg) ⟨e,?_⟩⟩)
 rw[ck];exact⟨.ref _,_,I.oC (t':=s.toks) (r.rep k.toNat) (by rw[len_rep,Nat.mul_comm];exact hz),rfl,q _ I.fresh⟩
noncomputable def jM (x k:D):M OT:=match x,k with
 | .lst ds,.int j=>if 0<=j/\j.toNat<=1000/\ds.length*j.toNat<=5000 then .ok (.lst (((zai j.toNat ds).flatten).map .sh)) else .bad
 |_,_=>.bad
theorem PP {K:za0}{H:Hp}{vs:List V}{ds:List D}(h:Aj K H vs ds):∀n:Nat,Aj K H (zai n vs).flatten (zai n ds).flatten
 |0=>.nil
 |n+1=>by rw[zbv,zbv,zd1,zd1];exact h.tU (PP h n)
theorem YX:xE X.K WX (lS X.K) jM:=by
 intro P H x y v w Q ht hx hy h;unfold jM at h;split at h
 ·rename_i ds j;by_cases hl:0<=j/\j.toNat<=1000/\ds.length*j.toNat<=5000
  ·rw[if_pos hl] at h;cases hx with
   |lst h1 h2 =>
    cases hy;exact⟨_,_,_,rfl,rfl,h1.Bs,by omega,by omega,zbl (Nat.lt_of_le_of_lt (by rw[h2.length];exact hl.2.2) (by decide)),h.Jy (Ag.refl _) (PP h2 _)⟩
  ·rw[if_neg hl] at h;exact h.elim
 ·exact h.elim
theorem jN (ha:DE X WX true a f)(hb:DE X WX true b g):DN X WX (.BinOp a .Mult b pos) (λ ρ=>(f ρ).bind λ x=>(g ρ).bind λ y=>jM x y):=by
 obtain⟨ta,a1,a2⟩:=ha;obtain⟨tb,b1,b2⟩:=hb;exact⟨_,UD jL a1 b1,λ P0 P σ H Q ρ E h=>lP a2 b2 YX E h⟩
end
noncomputable def jO (f:Str):List Str->List D->Option D
 |n::ns,d::ds=>if f==n then some d else jO f ns ds
 |_,_=>none
theorem RZ {K:za0}{H:Hp}{f:Str}:∀ {fs:List (Str×V)}{ds:List D}{d:D},Aj K H (fs.map zch) ds->jO f (fs.map zbg) ds=some d->∃v,fs.lookup f=some v/\BZ K H v d
 |[],ds,d,_,h=>by simp[jO] at h
 |(n,v)::fs,_,d,.cons hv ht,h=>by
  rw[za8,jO] at h;rw[zd6];cases q:f==n with
  |true=>rw[q,if_pos rfl] at h;cases h;exact⟨v,rfl,hv⟩
  |false=>rw[q,if_neg (by simp)] at h;exact RZ ht h
theorem NL {K:za0}{H:Hp}{f:Str}:∀ {fs:List (Str×V)}{ds:List D},Aj K H (fs.map zch) ds->jO f (fs.map zbg) ds=none->fs.lookup f=none
 |[],ds,_,h=>rfl
 |(n,v)::fs,_,.cons hv ht,h=>by
  rw[za8,jO] at h;rw[zd6];cases q:f==n with
  |true=>rw[q,if_pos rfl] at h;cases h
  |false=>rw[q,if_neg (by simp)] at h;exact NL ht h
structure Jh (K:za0)(x f:Str):Prop where
 ex:∃C,za1 K mainGlobals x=some (some (.ref C))/\VS K C/\Jo K C f
noncomputable def GG (cs:List Str)(f:Str)(d:D):M D:=match d with
 | .ins x ns ds=>if x∈cs then (match jO f ns ds with|some e=>.ok e|none=>.bad) else .bad
 |_=>.bad
section
variable {X:Cx}{E:XK}{WX:Str->Hp->Prop}{c:Bool}{P0:E7}{P:Addr->Prop}{H:Hp}{σ:St}{ρ:Aa}{a b e:Expr}{es:List Expr}{f g:Aa->M D}{fs:Aa->M (List D)}{fn:Aa->M OT}{pos:Pos}{te:TE}
theorem Du (cs:List Str){fl:Str}(l8:∀x∈cs,Jh X.K x fl)(ha:DE X WX c a f)(hb:attributeBase a fl X.env (eval a X.env)=eval a X.env:=by rfl):DE X WX c (.Attribute a fl pos) (λ ρ=>(f ρ).bind (GG cs fl)):=by
 obtain⟨ta,a1,a2⟩:=ha;refine⟨_,nS a1 hb,λ P0 P σ H Q ρ E h=>?_⟩;dsimp only at h;refine a2 P0 P σ H _ ρ E ?_;cases e:f ρ with
 |bad|ex x=>rw[e] at h;exact h
 |ok d =>
  rw[e] at h;simp only[M.A8] at h;intro v H1 s1 hv;unfold GG at h;split at h
  ·rename_i x ns ds;split at h
   ·rename_i hx;split at h
    ·rename_i d' el;cases hv with
     |ins hn ha hl =>
      obtain⟨C,dW,hc,gc⟩:=(l8 x hx).ex;rw[hn] at dW;cases dW;obtain⟨v',l1,l2⟩:=RZ hl el;exact⟨_,_,_,_,v',rfl,(Ax ha).2,hc,gc,l1,h v' H1 s1 l2⟩
    ·exact h.elim
   ·exact h.elim
  ·exact h.elim
structure NM (K:za0)(x m qual:Str)(st:Stmt)(ps:List Str):Prop where
 ex:∃C f fd,za1 K mainGlobals x=some (some (.ref C))/\VS K C/\Meth K C m f/\Xq K m qual st f fd/\Binds K fd ps []
structure HI (P:Program)(w:World)(K:za0)(mg:Str->Option Value)(base:Heap)(x m:Str)(k n:Nat)(F:List D->M OT):Prop where
 ex:∃C fa fd ps,za1 K mainGlobals x=some (some (.ref C))/\VS K C/\Meth K C m fa/\E8 P w K mg base (UR P w base) k fa fd ps (spT K n F)/\Binds K fd ps []
theorem Ku {P:Program}{w:World}{K:za0}{mg:Str->Option Value}{base:Heap}{x m qual:Str}{st:Stmt}{N ps:List Str}{k n:Nat}(T:NM K x m qual st ps)(S:Ak N ps (A6 st))(g:Aa->M Out)
 (hb:∀(f:Addr) (Bf:Value) (A:Around) (outer:List Env) (s:Shared) (H:Hp) (E:XK),BW k (A.deeper (envOfC qual (A6 st) s.heap.objs.size f Bf))->Pg (US P w K mg base N qual (A6 st) f Bf A outer s H E) (Df K E) (AM st) g) (hn:ps.length=n:=by rfl):
 HI P w K mg base x m (k+1) n (λ ds=>TN (g (AI N ds))):=by
 obtain⟨C,f,fd,h1,h2,h3,F,hB⟩:=T.ex;subst hn;exact⟨⟨C,f,fd,ps,h1,h2,h3,uA F S g (hb f),hB⟩⟩
noncomputable def vQ (x:Str):List (Str×(List D->M OT))->Option (List D->M OT)
 |[]=>none
 |(y,F)::r=>if x=y then some F else vQ x r
theorem V4 {x:Str}{F:List D->M OT}:∀ {ms:List (Str×(List D->M OT))},vQ x ms=some F->(x,F)∈ms
 |[],h=>by cases h
 |(y,G)::r,h=>by
  unfold vQ at h;split at h
  ·rename_i e;cases h;subst e;exact za3
  ·exact za4 _ (V4 h)
noncomputable def F8 (ms:List (Str×(List D->M OT)))(m:Str)(d:D):M (List D->M OT):=match d with
 | .ins x ns es=>(match vQ x ms with
  |some F=>(match jO m ns es with|none=>.ok F|some _=>.bad)
  |none=>.bad)
 |_=>.bad
theorem S0 {ms:List (Str×(List D->M OT))}{m:Str}{d:D}{F:List D->M OT}(h:F8 ms m d=.ok F):∃x ns es,d=.ins x ns es/\(x,F)∈ms/\jO m ns es=none:=by
 unfold F8 at h;split at h
 ·rename_i x ns es;split at h
  ·rename_i G e;split at h
   ·rename_i e2;cases h;exact⟨x,ns,es,rfl,V4 e,e2⟩
   ·cases h
  ·cases h
 ·cases h
theorem PQ {ms:List (Str×(List D->M OT))}{m:Str}{d:D}{x:Str}:F8 ms m d≠.ex x:=λ h=>by
 unfold F8 at h;split at h
 ·split at h
  ·split at h<;>cases h
  ·cases h
 ·cases h
noncomputable def YY (X:Cx)(m:Str)(k:Nat)(E:XK)(ta:TE)(t:TA):TE:=λ σ H Q=>ta σ H λ x H1=>∃a C dx fs f fd ps n F,x=.ref a/\H1 a=some (.ins C dx fs)/\fs.lookup m=none/\VS X.K C/\Meth X.K C m f/\E8 X.prog X.w X.K X.mg X.base (UR X.prog X.w X.base) k f fd ps (spT X.K n F)/\Binds X.K fd ps []/\
 t σ H1 λ vs H2=>spT X.K n F (x::vs) H2 Q E
theorem YZ {pl:Sem Bool}{o:Expr}{m:Str}{k:Nat}{ta:TE}{t:TA}{apos:Pos}(he:PE X o ta)(hr:BW k X.A)(hx:Hr (UR X.prog X.w X.base) X E)(ha:PA X (e::es) t)
 (cu:starEach (e::es) X.env=(false,eval e X.env)::starEach es X.env:=by rfl) (bU:(backTo pos (starEach es X.env)).any (·.1)=false:=by rfl)
 (ht:eval (.Call (.Attribute o m apos) (e::es) [] pos) X.env=(do
  let ov <-eval o X.env
  standAt apos.atName
  let (f,first) <-holding [ov] (getMethod ov m pl)
  callWith pos f first (backTo pos (starEach (e::es) X.env)) (backToKw pos (keywordEach [] X.env))):=by rfl):
 PE X (.Call (.Attribute o m apos) (e::es) [] pos) (YY X m k E ta t):=by
 intro pins s σ H Q I h;refine PySem.W.methodCall_KW (pl:=pl) (BA (he pins s σ H _ I h) λ u s1 ⟨x,H1,I1,rx,a,C,dx,fs,f,fd,ps,n,F,ex,ea,l,c,hm,hF,hb,q⟩=>?_) ht;subst ex;obtain rfl:u=zbe a:=rx;refine MQ I1 ea c hm l ?_;refine PySem.W.callWith_K (first:=[.ref a]) (h₀:=X.base) I.ok.mod.rB hm.kp (BA (ha pos pins s1 σ H1 _ I1 q) λ us s2 ⟨vs,H2,I2,r,q2⟩=>⟨I2.Mx,?_⟩) cu bU;exact Tq (us:=.ref a::us) (vs:=.ref a::vs) hF hr hb .nil hx I2 (.cons rfl r) (by rw[zbj];exact q2)
theorem WI {pl:Sem Bool}{o:Expr}{m:Str}{k:Nat}{ta:TE}{apos:Pos}(he:PE X o ta)(hr:BW k X.A)(hx:Hr (UR X.prog X.w X.base) X E)
 (ht:eval (.Call (.Attribute o m apos) [] [] pos) X.env=(do
  let ov <-eval o X.env
  standAt apos.atName
  let (f,first) <-holding [ov] (getMethod ov m pl)
  callWith pos f first (backTo pos (starEach [] X.env)) (backToKw pos (keywordEach [] X.env))):=by rfl):
 PE X (.Call (.Attribute o m apos) [] [] pos) (YY X m k E ta fS):=by
 intro pins s σ H Q I h;refine PySem.W.methodCall_KW (pl:=pl) (BA (he pins s σ H _ I h) λ u s1 ⟨x,H1,I1,rx,a,C,dx,fs,f,fd,ps,n,F,ex,ea,l,c,hm,hF,hb,q⟩=>?_) ht;subst ex;obtain rfl:u=zbe a:=rx;refine MQ I1 ea c hm l ?_;exact PySem.W.callWith_K0 (first:=[.ref a]) I1.Mx hm.kp (Tq (us:=[.ref a]) (vs:=[.ref a]) hF hr hb .nil hx I1 (.cons rfl .nil) q)
theorem V5 {P:Program}{w:World}{K:za0}{mg:Str->Option Value}{base:Heap}{CX:UG}{k k':Nat}{f:Addr}{fd:FuncData}{ps:List Str}{sp:Sp}(h:k<=k')(F:E8 P w K mg base CX k f fd ps sp):E8 P w K mg base CX k' f fd ps sp:=
 ⟨F.len,λ A stack s H args us vs Q E hr=>F.run A stack s H args us vs Q E (hr.mono h)⟩
theorem IQ {o:Expr}{fo:Aa->M D}{m:Str}{k n:Nat}{apos:Pos}{pl:Sem Bool}(ms:List (Str×(List D->M OT)))(xo:XCall X E)(ss:∀p∈ms,∃k',k'<=k/\HI X.prog X.w X.K X.mg X.base p.1 m k' n p.2)(hr:BW k X.A)(ho:DE X (Df X.K E) true o fo)(ha:DA X (Df X.K E) true (e::es) fs)(dG:(e::es).length+1=n)
 (cu:starEach (e::es) X.env=(false,eval e X.env)::starEach es X.env:=by rfl) (bU:(backTo pos (starEach es X.env)).any (·.1)=false:=by rfl)
 (ht:eval (.Call (.Attribute o m apos) (e::es) [] pos) X.env=(do
  let ov <-eval o X.env
  standAt apos.atName
  let (f,first) <-holding [ov] (getMethod ov m pl)
  callWith pos f first (backTo pos (starEach (e::es) X.env)) (backToKw pos (keywordEach [] X.env))):=by rfl):
 DN X (Df X.K E) (.Call (.Attribute o m apos) (e::es) [] pos) (λ ρ=>(fo ρ).bind λ d=>(F8 ms m d).bind λ F=>(fs ρ).bind λ ds=>F (d::ds)):=by
 obtain⟨ta,a1,a2⟩:=ho;obtain⟨tb,b1,b2,b3⟩:=ha;refine⟨_,YZ (pl:=pl) a1 hr xo.call b1 cu bU ht,λ P0 P σ H Q ρ Ev h=>?_⟩;dsimp only at h;refine a2 P0 P σ H _ ρ Ev ?_;cases q:fo ρ with
 |bad|ex x=>rw[q] at h;exact h
 |ok d =>
  rw[q] at h;simp only[M.A8] at h;intro v H1 s1 hv;cases q2:F8 ms m d with
  |bad=>rw[q2] at h;exact h.elim
  |ex y=>exact (PQ q2).elim
  |ok F =>
   rw[q2] at h;simp only[M.A8] at h;obtain⟨x,ns,y9,rfl,cP,j1⟩:=S0 q2;obtain⟨k',ix,M0⟩:=ss _ cP;obtain⟨C,fa,fd,ps,h1,h2,h3,h4,h5⟩:=M0.ex;cases hv with
   |ins hn hH hl =>
    rw[hn] at h1;cases h1;refine⟨_,_,_,_,fa,fd,ps,n,F,rfl,(Ax hH).2,NL hl j1,h2,h3,V5 ix h4,h5,?_⟩;refine b2 P0 P σ H1 _ ρ (Ev.same s1) ?_;cases q3:fs ρ with
    |bad=>rw[q3] at h;exact h
    |ex y=>rw[q3] at h;exact λ H' s=>h H' (s1.trans s)
    |ok ds =>
     rw[q3] at h;simp only[M.A8] at h;intro vs H2 s2 cB;have l9:=(BZ.ins hn hH hl).mono s2.del;exact⟨by rw[zad,cB.length,b3 ρ ds q3];exact dG,P,_,((Ev.same s1).same s2).Ci,.cons l9 cB,h.same (s1.trans s2)⟩
theorem S1 {o:Expr}{fo:Aa->M D}{m:Str}{k:Nat}{apos:Pos}{pl:Sem Bool}(ms:List (Str×(List D->M OT)))(xo:XCall X E)(ss:∀p∈ms,∃k',k'<=k/\HI X.prog X.w X.K X.mg X.base p.1 m k' 1 p.2)(hr:BW k X.A)(ho:DE X (Df X.K E) true o fo)
 (ht:eval (.Call (.Attribute o m apos) [] [] pos) X.env=(do
  let ov <-eval o X.env
  standAt apos.atName
  let (f,first) <-holding [ov] (getMethod ov m pl)
  callWith pos f first (backTo pos (starEach [] X.env)) (backToKw pos (keywordEach [] X.env))):=by rfl):
 DN X (Df X.K E) (.Call (.Attribute o m apos) [] [] pos) (λ ρ=>(fo ρ).bind λ d=>(F8 ms m d).bind λ F=>F [d]):=by
 obtain⟨ta,a1,a2⟩:=ho;refine⟨_,WI (pl:=pl) a1 hr xo.call ht,λ P0 P σ H Q ρ Ev h=>?_⟩;dsimp only at h;refine a2 P0 P σ H _ ρ Ev ?_;cases q:fo ρ with
 |bad|ex x=>rw[q] at h;exact h
 |ok d =>
  rw[q] at h;simp only[M.A8] at h;intro v H1 s1 hv;cases q2:F8 ms m d with
  |bad=>rw[q2] at h;exact h.elim
  |ex y=>exact (PQ q2).elim
  |ok F =>
   rw[q2] at h;simp only[M.A8] at h;obtain⟨x,ns,y9,rfl,cP,j1⟩:=S0 q2;obtain⟨k',ix,M0⟩:=ss _ cP;obtain⟨C,fa,fd,ps,h1,h2,h3,h4,h5⟩:=M0.ex;cases hv with
   |ins hn hH hl =>
    rw[hn] at h1;cases h1;refine⟨_,_,_,_,fa,fd,ps,1,F,rfl,(Ax hH).2,NL hl j1,h2,h3,V5 ix h4,h5,?_⟩;exact⟨rfl,P,_,(Ev.same s1).Ci,.cons (BZ.ins hn hH hl) .nil,h.same s1⟩
end
section
variable {X:Cx}{E:XK}{WX:Str->Hp->Prop}{c:Bool}{P0:E7}{P:Addr->Prop}{H:Hp}{σ:St}{ρ:Aa}{a b e:Expr}{es:List Expr}{f g:Aa->M D}{fs:Aa->M (List D)}{fn:Aa->M OT}{pos:Pos}{te:TE}
structure uL (K:za0)(mg:Str->Option Value)(x:Str)(C:Addr):Prop where
 ns:za1 K mainGlobals x=some (some (.ref C))
 yY:mg x=some (.ref C)
theorem WJ {p dx C:Addr}(hp:H p=none)(hd:H dx=none):Ag H (upd (upd H dx (.own p)) p (.ins C dx [])):=λ b u q=>by
 rw[Aq (AB q hp),Aq (AB q hd)];exact q
end
noncomputable def PR (i:Nat)(ρ:Aa)(π:List Nat):M (Str×List Str×List D):=match UY i ρ π with
 |some (.ins x ns ts)=>(match EN ts with|some vs=>.ok (x,ns,vs)|none=>.bad)
 |_=>.bad
theorem Z0 {i:Nat}{ρ:Aa}{π:List Nat}{x:Str}(h:PR i ρ π=.ex x):False:=by
 unfold PR at h;split at h
 ·split at h<;>cases h
 ·cases h
noncomputable def Z1 (f:Str):List Str->List Str
 |[]=>[f]
 |g::r=>if g=f then g::r else g::Z1 f r
noncomputable def Z2 (f:Str)(d:D):List Str->List D->List D
 |[],_=>[d]
 |g::r,e::t=>if g=f then d::t else e::Z2 f d r t
 |_::_,[]=>[]
theorem S2 (f:Str)(v:V):∀fs:List (Str×V),(EG f v fs).map zbg=Z1 f (fs.map zbg)
 |[]=>rfl
 |(g,x)::r=>by
  rw[za8,Z1,EG];split
  ·rfl
  ·rw[za8,S2 f v r]
theorem S3 {K:za0}{H:Hp}{f:Str}{v:V}{d:D}(hv:BZ K H v d):∀ {fs:List (Str×V)}{ds:List D},Aj K H (fs.map zch) ds->Aj K H ((EG f v fs).map zch) (Z2 f d (fs.map zbg) ds)
 |[],_,.nil=>.cons hv .nil
 |(g,x)::r,_,.cons hx ht=>by
  rw[za8,Z2,EG];split
  ·exact .cons hv ht
  ·exact .cons hx (S3 hv ht)
section
variable {X:Cx}{E:XK}{WX:Str->Hp->Prop}{c:Bool}{P0:E7}{P:Addr->Prop}{H:Hp}{σ:St}{ρ:Aa}{a b e:Expr}{f g:Aa->M D}{fn:Aa->M OT}{fp:Aa->M (List Nat)}{pos:Pos}{i:Nat}{es:List Expr}{fs:Aa->M (List D)}
theorem Bo.ins {K:za0}{π:List Nat}{v:V}{t1:OT}{x:Str}{ns:List Str}{vs:List D}(pl:Bo K P H σ ρ i π v t1)(E:Al K P0 P H σ ρ)(h:PR i ρ π=.ok (x,ns,vs)):
 t1=.ins x ns (vs.map .sh)/\∃l C dx fs,v=.ref l/\Aj K (del H P) (fs.map zch) vs/\C6 K H P (.ref l) (.ins x ns (vs.map .sh)) [l]/\za1 K mainGlobals x=some (some (.ref C))/\H l=some (.ins C dx fs)/\ns=fs.map zbg:=by
 unfold PR at h;rw[pl.at] at h;split at h
 ·rename_i x' fv r9 e;split at h
  ·rename_i dZ e';cases e;cases h;have z:=Dq e';subst z;obtain⟨bY,o1,hp,nd⟩:=pl.own E;generalize ht:OT.ins x ns (vs.map .sh)=t at o1;cases o1 with
   |ins hn hh hr =>
    injection ht with h1 h2 h3
    subst h1 h2 h3;obtain⟨rfl,hs⟩:=hr.pC;exact⟨rfl,_,_,_,_,rfl,hs,.ins hn hh hr,hn,hh,rfl⟩
   |_=>cases ht
  ·cases h
 ·cases h
theorem MH (cs:List Str){fl:Str}(l8:∀x∈cs,Jh X.K x fl)(ha:DP X WX a i fp)(hv:DE X WX true e f){pos':Pos}(hs:swapsWith e (some (.Attribute a fl pos')) pos.line X.env=pure false:=by rfl):
 DS X WX (.Assign [.Attribute a fl pos'] e pos) (λ ρ=>(f ρ).bind λ v=>(fp ρ).bind λ π=>(PR i ρ π).bind λ z=>if z.1∈cs/\z.2.1.length<1000 then Jd i ρ π (.ins z.1 (Z1 fl z.2.1) ((Z2 fl v z.2.1 z.2.2).map .sh)) else .bad):=by
 obtain⟨ta,a1,a2⟩:=ha;obtain⟨tv,v1,v2⟩:=hv;refine⟨_,nT a1 v1 hs,λ P0 P σ H Z ρ E h=>?_⟩;dsimp only at h;refine v2 P0 P σ H _ ρ E ?_;cases q0:f ρ with
 |bad=>rw[q0] at h;exact h
 |ex x=>rw[q0] at h;exact λ H' s=>h H' P (E.tr s)
 |ok d =>
  rw[q0] at h;simp only[M.A8] at h;intro w H0 s0 hw;have E0:=E.same s0;refine a2 P0 P σ H0 _ ρ E0 ?_;cases q:fp ρ with
  |bad=>rw[q] at h;exact h
  |ex x=>rw[q] at h;exact λ H' s=>h H' P ((E.tr s0).trans (E0.tr s))
  |ok π =>
   rw[q] at h;simp only[M.A8] at h;intro v t1 H1 s1 pl;have E1:=E0.same s1;have yZ:=(E.tr s0).trans (E0.tr s1);cases q3:PR i ρ π with
   |bad=>rw[q3] at h;exact h.elim
   |ex x=>exact (Z0 q3).elim
   |ok z =>
    obtain⟨x,ns,vs⟩:=z;rw[q3] at h;simp only[M.A8] at h;by_cases hc:x∈cs/\ns.length<1000
    ·rw[if_pos hc] at h;obtain⟨rfl,l,C,dx,fs,rfl,dQ,ot,hn,hH,rfl⟩:=pl.ins E1 q3;obtain⟨C',dW,ge,gc⟩:=(l8 x hc.1).ex;rw[hn] at dW;cases dW;have za:=hw.mono s1.del;obtain⟨c,p,t0,g1,g2,E3,t3⟩:=E1.pJ (o':=.ins C dx (EG fl w fs)) (u:=.ins x (Z1 fl (fs.map zbg)) ((Z2 fl d (fs.map zbg) vs).map .sh)) pl ot (λ _=>⟨λ z=>(by cases z),λ _ z=>by cases z⟩) (λ mv=>by
      have:=C6.ins (K:=X.K) (H:=upd H1 l (.ins C dx (EG fl w fs))) (P:=P) (p:=l) (fs:=EG fl w fs) (x:=x) hn AU (((S3 za dQ).mono mv).ows);rw[S2] at this;exact this)
     rw[Iz g1 g2] at h;exact⟨l,C,dx,fs,rfl,hH,ge,gc,by have:=hc.2;rw[za5] at this;exact this,h _ _ _ (yZ.trans t3) E3⟩
    ·rw[if_neg hc] at h;exact h.elim
end
section
variable {X:Cx}{E:XK}{WX:Str->Hp->Prop}{c:Bool}{P0:E7}{P:Addr->Prop}{H:Hp}{σ:St}{ρ:Aa}{a b e:Expr}{f g:Aa->M D}{fn:Aa->M OT}{fp:Aa->M (List Nat)}{pos:Pos}{i:Nat}{es:List Expr}{fs:Aa->M (List D)}
noncomputable def Z3 (i:Nat)(ρ:Aa)(π:List Nat)(ds:List D):M (Aa×OT):=match ds[ds.length-1]? with
 |some d=>(match ρ[i]? with
  |some (some c)=>(match treeOf c with|some (p,t)=>.ok (ρ.set i (some (toCl p (EM t π (.lst (ds.dropLast.map .sh))))),.sh d)|none=>.bad)
  |_=>.bad)
 |none=>.bad
theorem V6 {π:List Nat}{ds:List D}{d:D}{c:Cl}{p:Option Nat}{t:OT}(h:ρ[i]?=some (some c))(ht:treeOf c=some (p,t))(hd:ds[ds.length-1]?=some d):Z3 i ρ π ds=.ok (ρ.set i (some (toCl p (EM t π (.lst (ds.dropLast.map .sh))))),.sh d):=by
 unfold Z3;simp only[h,ht,hd]
theorem OC {K:za0}{H:Hp}{vs:List V}{ds:List D}(h:Aj K H vs ds):Aj K H vs.dropLast ds.dropLast:=by
 rw[List.dropLast_eq_take,List.dropLast_eq_take,h.length];exact Lr _ h
theorem pR (ha:DP X WX a i fp){apos ar:Pos}(bA:attributeBase a "pop" X.env (eval a X.env)=eval a X.env:=by rfl)(bB:(apos.endLine==ar.line)=true:=by rfl):
 DX X WX (.Call (.Attribute a "pop" apos) [] [] ar) (λ ρ=>(fp ρ).bind λ π=>(R9 i ρ π).bind λ ds=>Z3 i ρ π ds):=by
 obtain⟨ta,a1,a2⟩:=ha;refine⟨_,oB zce PySem.F.slot_list_pop PySem.F.type_list_pop oE a1 bA bB,λ P0 P σ H Q ρ E h=>?_⟩;dsimp only at h;refine a2 P0 P σ H _ ρ E ?_;cases q:fp ρ with
 |bad=>rw[q] at h;exact h
 |ex x=>rw[q] at h;exact λ H' s=>h H' P (E.tr s)
 |ok π =>
  rw[q] at h;simp only[M.A8] at h;intro v t1 H1 s1 pl;have E1:=E.same s1;cases q1:R9 i ρ π with
  |bad=>rw[q1] at h;exact h.elim
  |ex x=>exact (TV q1).elim
  |ok ds =>
   rw[q1] at h;simp only[M.A8] at h;obtain⟨rfl,l,xs,rfl,hl,ol⟩:=pl.shl E1 q1;refine⟨.inl ⟨rfl,xs,.of hl⟩,?_⟩;cases hd:ds[ds.length-1]? with
   |none=>unfold Z3 at h;rw[hd] at h;exact h.elim
   |some d =>
    obtain⟨y,hy,zb⟩:=ol.get hd;obtain⟨c,p,t0,g1,g2,E3,t3⟩:=E1.pE pl hl ol.ows (us:=ds.dropLast.map .sh) (ys:=xs.dropLast) (OC ol).ows (by simp) (by simp) (by simp);rw[V6 g1 g2 hd] at h;refine⟨l,xs,y,rfl,rfl,hl,by rw[ol.length];exact hy,?_⟩;have sd:Ag (del H1 P) (del (upd H1 l (.lst xs.dropLast)) P):=t3.1;exact h y [] _ _ ((E.tr s1).trans t3) E3 (.sh (zb.mono sd)) (by simp) (by simp)
end
theorem BD {K:za0}{f:Str}:∀y∈([]:List Str),Jh K y f:=λ y h=>by cases h
theorem Bc {K:za0}{f x:Str}{xs:List Str}(h:Jh K x f)(t:∀y∈xs,Jh K y f):∀y∈x::xs,Jh K y f:=λ y hy=>by
 rcases za9.mp hy with rfl|hy
 ·exact h
 ·exact t y hy
theorem Fe {P:Program}{w:World}{K:za0}{mg:Str->Option Value}{base:Heap}{m:Str}{k n:Nat}:∀p∈([]:List (Str×(List D->M OT))),∃k',k'<=k/\HI P w K mg base p.1 m k' n p.2:=λ p h=>by cases h
theorem DH {P:Program}{w:World}{K:za0}{mg:Str->Option Value}{base:Heap}{m x:Str}{k k' n:Nat}{F:List D->M OT}{ms:List (Str×(List D->M OT))}(hk:k'<=k)(h:HI P w K mg base x m k' n F)(t:∀p∈ms,∃k',k'<=k/\HI P w K mg base p.1 m k' n p.2):
 ∀p∈(x,F)::ms,∃k',k'<=k/\HI P w K mg base p.1 m k' n p.2:=λ p hp=>by
 rcases za9.mp hp with rfl|hp
 ·exact⟨k',hk,h⟩
 ·exact t p hp
end L2
set_option maxRecDepth 1000000
set_option maxHeartbeats 0
namespace L2
open PySem PySem.Spec PySem.Calls PyProof.Rows PySem.W PySem.Builtin PySem.Builtin.ObjectAttr
section
variable {prog:Program}{w:World}{A:Around}{E:Value->Shared->Prop}{s:Shared}
theorem call_meets {T id:String}{nm:Str}{B:Builtin}{self:Value}{rest:List Value}{Sp:PySem.Spec}{Q:Value->Shared->Prop}(SL:Slot T nm id)(hB:entryFor table id=some B)(ht:s.TypeIs self T)(ha:argsOk id ⟨self::rest,[]⟩)(m:Meets (B ⟨self::rest,[]⟩) Sp)
 (h:Sp A (λ r s'=>match r with | .ok (.ret v)=>Q v s' | .ok _=>False | .error e=>E e s') s):wpAny (model prog w) A (call (.builtin id) (self::rest)) Q E s:=
 wpAny_call (codeAny_call_builtin SL.plain hB (SL.check _ _ _ _ _ _ _ _ ht ha (m prog w A _ s h)))
end
open PySem PySem.Spec PyProof.Rows
section
variable {X:Cx}{WX:Str->Hp->Prop}{c:Bool}{P0:E7}{P:Addr->Prop}{H:Hp}{σ:St}{ρ:Aa}{a b e:Expr}{f g:Aa->M D}{fn:Aa->M OT}{pos:Pos}{te:TE}
noncomputable def Z4 (x y:D):M D:=match x,y with
 | .tup xs,.tup ys=>(match Cw xs,Cw ys with|some ns,some ms=>.ok (.bl (HT.lexLt ns ms))|_,_=>.bad)
 |_,_=>.bad
theorem V7:TB X.K WX (sX X.K) Z4:=by
 intro P H x y v w Q ht hx hy h;unfold Z4 at h;split at h
 ·rename_i xs ys;split at h
  ·rename_i ns ms e1 e2;have:=CO e1;subst this;have:=CO e2;subst this;cases hx with
   |tup h1 h2 =>
    cases hy with
    |tup h3 h4 =>
     have:=Dp h2;subst this;have:=Dp h4;subst this;exact⟨_,_,ns,ms,rfl,rfl,Gr.of (Ax h1).2,Gr.of (Ax h3).2,h _ H (Ag.refl H) (.bl _)⟩
  ·exact h.elim
 ·exact h.elim
theorem xI {n:Nat}(hu:X.A.units+n<cLine)(ha:DE X WX c a f)(hb:DE X WX c b g):DE X WX c (.Compare a [.Lt] [b] pos) (λ ρ=>(f ρ).bind λ x=>(g ρ).bind λ y=>Z4 x y):=Ye (Y0 (by omega)) V7 ha hb (L9 _)
theorem pS {n:Nat}(hu:X.A.units+n<cLine)(ha:DE X WX c a f)(hb:DE X WX c b g):DT X WX (.Compare a [.Lt] [b] pos) (λ ρ=>((f ρ).bind λ x=>(g ρ).bind λ y=>Z4 x y).bind Oj):=Gz (Y0 (by omega)) V7 ha hb (L9 _)
end
structure pT (K:za0)(x qual:Str)(st:Stmt)(f:Addr)(fd:FuncData):Prop where
 ex:∃(oc:Value) (od:Option Addr) (dV kV doc pm:Value) (an:Option Addr) (Bf ct:Value) (T7:Array (Option Value)),
  fd=zb8 x qual (B2 st) (AM st) (A6 st) dV kV doc pm an Bf ct/\K.lookup f=some ⟨oc,od,.func fd,T7⟩/\zbn K Bf qual=true
 kp:zb6 K (.ref f)=true
theorem jP {K:za0}{x qual:Str}{st:Stmt}{f:Addr}{oc:Value}{od an:Option Addr}{T7:Array (Option Value)}{dV kV doc pm Bf ct:Value}(l:K.lookup f=some ⟨oc,od,.func (zb8 x qual (B2 st) (AM st) (A6 st) dV kV doc pm an Bf ct),T7⟩)
 (c:zbn K Bf qual=true) (k:zb6 K (.ref f)=true):pT K x qual st f (zb8 x qual (B2 st) (AM st) (A6 st) dV kV doc pm an Bf ct):=⟨⟨oc,od,dV,kV,doc,pm,an,Bf,ct,T7,rfl,l,c⟩,k⟩
structure U0 (K:za0)(mg:Str->Option Value)(x qual:Str)(st:Stmt)(ps:List Str):Prop where
 ex:∃C f fd,uL K mg x C/\Mk K C f/\pT K "__init__" qual st f fd/\Binds K fd ps []/\Binds K fd ps [.none]
theorem zA {P:List Value->Prop}(h:P [])(us:List Value)(hl:us.length=0):P us:=by
 cases us with
 |nil=>exact h
 |cons _ _=>cases hl
theorem vR {P:List Value->Prop}(h:∀a,P [a])(us:List Value)(hl:us.length=1):P us:=by
 cases us with
 |nil=>cases hl
 |cons a us=>exact zA (P:=λ l=>P (a::l)) (h a) us (Nat.succ.inj hl)
theorem ln2 {P:List Value->Prop}(h:∀a b,P [a,b])(us:List Value)(hl:us.length=2):P us:=by
 cases us with
 |nil=>cases hl
 |cons a us=>exact vR (P:=λ l=>P (a::l)) (λ b=>h a b) us (Nat.succ.inj hl)
theorem xJ {P:List Value->Prop}(h:∀a b c,P [a,b,c])(us:List Value)(hl:us.length=3):P us:=by
 cases us with
 |nil=>cases hl
 |cons a us=>exact ln2 (P:=λ l=>P (a::l)) (λ b c=>h a b c) us (Nat.succ.inj hl)
theorem yD {P:List Value->Prop}(h:∀a b c d,P [a,b,c,d])(us:List Value)(hl:us.length=4):P us:=by
 cases us with
 |nil=>cases hl
 |cons a us=>exact xJ (P:=λ l=>P (a::l)) (λ b c d=>h a b c d) us (Nat.succ.inj hl)
theorem Bk {K:za0}{mg:Str->Option Value}{h:Heap}{x:Str}{st:Stmt}{ps:List Str}(X:K.In h)(G:h.Ns mainGlobals mg)(p:FP K x st)(hb:∀(kV dc pm:Value) (an:Option Addr) (cd ct:Value) (us:List Value),us.length=ps.length->bindArgs (zb8 x x (B2 st) (AM st) (A6 st) .none kV dc pm an cd ct) ⟨us,[]⟩=pure (ps.zip us):=by first | exact (λ _ _ _ _ _ _=>vR λ _=>rfl) | exact (λ _ _ _ _ _ _=>ln2 λ _ _=>rfl) | exact (λ _ _ _ _ _ _=>xJ λ _ _ _=>rfl) | exact (λ _ _ _ _ _ _=>yD λ _ _ _ _=>rfl)):B6 K mg x st ps:=by
 obtain⟨f,oc,od,an,sl,kV,dc,pm,cd,ct,a,l,c,k⟩:=p.ex;have F:=Tw (st:=st) l c k;exact⟨⟨_,_,F,zbk X G a,F.binds hb⟩⟩
theorem S4 {K:za0}{C:Addr}{x m qual:Str}{st:Stmt}{ps:List Str}(aC:za1 K mainGlobals x=some (some (.ref C)))(cl:VS K C)(p:MP K C m qual st)(hb:∀(kV dc pm:Value) (an:Option Addr) (cd ct:Value) (us:List Value),us.length=ps.length->bindArgs (zb8 m qual (B2 st) (AM st) (A6 st) .none kV dc pm an cd ct) ⟨us,[]⟩=pure (ps.zip us):=by first | exact (λ _ _ _ _ _ _=>vR λ _=>rfl) | exact (λ _ _ _ _ _ _=>ln2 λ _ _=>rfl) | exact (λ _ _ _ _ _ _=>xJ λ _ _ _=>rfl) | exact (λ _ _ _ _ _ _=>yD λ _ _ _ _=>rfl)):NM K x m qual st ps:=by
 obtain⟨f,oc,od,an,sl,kV,dc,pm,cd,ct,a,i,l,c,k⟩:=p.ex;have F:=Tw (st:=st) l c k;exact⟨⟨_,_,_,aC,cl,⟨a,i,k⟩,F,F.binds hb⟩⟩
open PySem PySem.W PySem.Calls PyProof.Rows
noncomputable def R0:Rn:=⟨topRun,Heap.nsMap,importEnds,fenceModules?,PySem.start,treeTable⟩
theorem pU:R0=R1:=by
 unfold R0 R1;rw[PySem.W.Fast.te14082659384304107361,PySem.W.Fast.te8920871248978507458,PySem.W.Fast.te10274390034422433532,PySem.W.Fast.te14289696077712309145,PySem.W.Fast.te1435165496053646825,PySem.W.Fast.te14364793385576792824]
theorem V8 (p:Program)(w:World)(N:Nat):openEnds treeTable p w N=ML R0 p w N:=by
 unfold openEnds fencedOpening ML;rfl
theorem NO {h:Heap}{a:Addr}{o:Obj}:∀ {as:List Addr},(vA h as).lookup a=some o->h.get? a=some o
 |[],e=>by cases e
 |b::r,e=>by
  unfold vA at e;rw[List.filterMap_cons] at e;cases q:h.get? b with
  |none=>rw[q] at e;exact NO (as:=r) e
  |some u =>
   rw[q] at e;dsimp only [zc0] at e;rw[zd6] at e;cases c:a==b with
   |true=>rw[c] at e;cases e;rw[eq_of_beq c];exact q
   |false=>rw[c] at e;exact NO (as:=r) e
def uM (h h':Heap):Prop:=∀(b:Addr) (o:Obj),h.get? b=some o->h'.get? b=some o
theorem pV {h h':Heap}{as:List Addr}(s:uM h h'):(vA h as).In h':=λ a o e=>s a o (NO e)
theorem jQ {p q:Program}{Xt:Shared->Bool}{N:Nat}(h:∀w:World,(openEnds treeTable p w N).map (λ s=>openSeen q [] (importedModules p.main.body) Xt true s)=some (openGood q [])):LeftO p q [] Xt (λ s=>s.heap) (λ w=>Xy R0 p w N) N:=λ w=>by
 have e:=h w;unfold Xy;dsimp only;rw[<-V8];cases q':openEnds treeTable p w N with
 |none=>rw[q'] at e;cases e
 |some s =>
  rw[q'] at e;rw[zc0] at e ⊢;dsimp only;rw[zax e]
theorem QE {α β γ:Type}{o:Option γ}{f:γ->α×β}{a:α×β}(h:o.map (λ s=>(f s).1)=some a.1)(k:o.map (λ s=>(f s).2)=some a.2):o.map f=some a:=by
 cases o with
 |none=>cases h
 |some s =>
  rw[zc0] at h k ⊢;exact congrArg some (Prod.ext (zax h) (zax k))
theorem uN {l:PySem.W.OpenLaw}{n k:Nat}{q:Program}{loose:List Str}{XP:(Str->Option Value)->Heap->Prop}{YP:World->Heap->Prop}{d:DefRec}{K:World->za0}{CX:World->UG}{sp:World->Sp}{x:Str}
 (hn:l.most=some n) (cf:n<=sizeLine) (jb:d.params.defaults=[]) (hr:BW k callerA) (hY:∀(w:World) (h:Heap),YP w h->(K w).In h)
 (F:∀(w:World) (mg:Str->Option Value) (fa:Addr) (h:Heap),(K w).In h->h.Ns mainGlobals mg->mg d.name=some (.ref fa)->∃fd:FuncData,(∀(s:Shared) (u:Value),BindsTo s fd ⟨[u],[]⟩ [(x,u)])/\
  ∀base:Heap,(K w).In base->base.Ns mainGlobals mg->E8 l.prog w (K w) mg base (CX w) k fa fd [x] (sp w))
 (dI:∀(w:World) (H:Hp) (a:Addr) (ns:List Int),(∀n∈ns,Sm n)->ns.length<=n->gE H->DL (K w) H a (ns.map V.int)->sp w [.ref a] H (λ v _=>v=.bl true) λ _ _ _=>False)
 (ko:∀(w:World) (H:Hp) (s:Shared) (e:Value) (s':Shared),CX w [] H s (λ _ _ _=>False) e s'->False):PySem.W.WalkO q loose XP YP l.row.toRowW d [] (λ f vs=>PySem.call f vs):=by
 refine HT.Pp hn jb λ w s₀ s₁ mg mb fa o pm cd doc a vs ns g8 G Y ho hd de jc eN dh hlen hg=>?_;have KX:=hY w _ Y;obtain⟨fd,hb,hF⟩:=F w mg fa _ KX G.T.g jc;exact Rq KX G.T.g G.T.b G.T.builtins G.T.nolimit hg eN dh (zbw hlen cf) hr hF hb (λ H hO hS=>dI w H a ns g8 hlen hO hS) λ H e s'=>ko w H s₁ e s'
noncomputable def cst:Option (Int×Int)->D
 |none=>.AK
 |some p=>.tup [.int p.1,.int p.2]
noncomputable def AZ:Option (Int×Int)->Option (Int×Int)->Option (Int×Int)
 |some p,some q=>some (p.1+q.1,p.2+q.2)
 |_,_=>none
noncomputable def pW (p q:Int×Int):Int×Int:=if p.1<q.1\/(p.1=q.1/\p.2<=q.2) then p else q
noncomputable def IR:Option (Int×Int)->Option (Int×Int)->Option (Int×Int)
 |none,b=>b
 |some p,none=>some p
 |some p,some q=>some (pW p q)
noncomputable def NP (cs:List (Option (Int×Int))):Option (Int×Int):=cs.foldl IR none
theorem Md (cs:List (Option (Int×Int))):Bt (λ d ρ=>.ok (ρ.set 0 (some (.val d)))) (λ ρ=>(rv 0 ρ).bind λ x=>.ok (!AV x)) (rv 0) (cs.map cst) [none]=.ok ((cs.filterMap id).map λ p=>cst (some p)):=by
 induction cs with
 |nil=>rfl
 |cons c r ih =>
  rw[za8,Bt];cases c with
  |none =>
   show Bt _ _ _ (r.map cst) [none]=_;rw[ih];rfl
  |some p =>
   show (match Bt _ _ _ (r.map cst) [none] with | .ok ys=>M.ok (cst (some p)::ys)|_=>.bad)=_;rw[ih];rfl
theorem WK (ps:List (Int×Int)):HB (ps.map λ p=>cst (some p))=some (ps.map λ p=>(cst (some p),[p.1,p.2])):=by
 induction ps with
 |nil=>rfl
 |cons p r ih=>rw[za8,HB,ih];rfl
theorem Z5 (cs:List (Option (Int×Int))):B5 ((cs.filterMap id).map λ p=>(cst (some p),[p.1,p.2]))=(NP cs).map λ p=>(cst (some p),[p.1,p.2]):=by
 have key:∀(cs:List (Option (Int×Int))) (z:Option (Int×Int)),((cs.filterMap id).map λ p=>(cst (some p),[p.1,p.2])).foldl BR (z.map λ p=>(cst (some p),[p.1,p.2]))=(cs.foldl IR z).map λ p=>(cst (some p),[p.1,p.2]):=by
  intro cs;induction cs with
  |nil=>intro z;rfl
  |cons c r ih =>
   intro z;cases c with
   |none =>
    rw[show List.filterMap id (none::r)=List.filterMap id r from rfl,zbd,ih z];cases z<;>rfl
   |some q =>
    rw[show List.filterMap id (some q::r)=q::List.filterMap id r from rfl,za8,zbd,zbd,<-ih (IR z (some q))];congr 1;cases z with
    |none=>rfl
    |some p =>
     simp only[zc0,BR,HT.Gv,HT.Fj,IR,pW];by_cases h1:q.1=p.1
     ·by_cases h2:q.2=p.2
      ·rw[if_pos (show p.1<q.1\/(p.1=q.1/\p.2<=q.2) by omega)];simp[h1,h2]
      ·by_cases h3:q.2<p.2
       ·rw[if_neg (show ¬ (p.1<q.1\/(p.1=q.1/\p.2<=q.2)) by omega)];simp[h1,h2,h3]
       ·rw[if_pos (show p.1<q.1\/(p.1=q.1/\p.2<=q.2) by omega)];simp[h1,h2,h3]
     ·by_cases h3:q.1<p.1
      ·rw[if_neg (show ¬ (p.1<q.1\/(p.1=q.1/\p.2<=q.2)) by omega)];simp[h1,h3]
      ·rw[if_pos (show p.1<q.1\/(p.1=q.1/\p.2<=q.2) by omega)];simp[h1,h3]
 exact key cs none
theorem jR (cs:List (Option (Int×Int))):UQ (.lst ((cs.filterMap id).map λ p=>cst (some p))) .AK=.ok (cst (NP cs)):=by
 simp only[UQ,WK,Z5];cases NP cs<;>rfl
theorem Z6 (cs:List (Option (Int×Int))):HA (Bt (λ d ρ=>.ok (ρ.set 0 (some (.val d)))) (λ ρ=>(rv 0 ρ).bind λ x=>.ok (!AV x)) (rv 0) (cs.map cst) [none])=.ok (.lst ((cs.filterMap id).map λ p=>cst (some p))):=by
 rw[Md];rfl
noncomputable abbrev Co:=Option (Int×Int)
def DJ:Co->Co->Prop
 |_,none=>True
 |none,some _=>False
 |some p,some q=>p.1<q.1\/(p.1=q.1/\p.2<=q.2)
theorem D3:∀a:Co,DJ a a
 |none=>trivial
 |some p=>.inr ⟨rfl,Int.le_refl _⟩
theorem B4:∀ {a b c:Co},DJ a b->DJ b c->DJ a c
 |_,_,none,_,_=>trivial
 |none,none,some _,_,h|some _,none,some _,_,h|none,some _,some _,h,_=>h.elim
 |some p,some q,some r,h1,h2=>by simp only[DJ] at *;omega
theorem NQ:∀ {a b:Co},DJ a b->DJ b a->a=b
 |none,none,_,_=>rfl
 |none,some _,h,_|some _,none,_,h=>h.elim
 |some p,some q,h1,h2=>by
  obtain⟨p1,p2⟩:=p;obtain⟨q1,q2⟩:=q;simp only[DJ] at h1 h2;have e1:p1=q1:=by omega
  have e2:p2=q2:=by omega
  rw[e1,e2]
theorem EC:∀a b:Co,(IR a b=a/\DJ a b)\/(IR a b=b/\DJ b a/\a≠b)
 |none,none=>.inl ⟨rfl,trivial⟩
 |none,some q=>.inr ⟨rfl,trivial,λ h=>by cases h⟩
 |some p,none=>.inl ⟨rfl,trivial⟩
 |some p,some q=>by
  unfold IR pW;by_cases h:p.1<q.1\/(p.1=q.1/\p.2<=q.2)
  ·dsimp only;rw[if_pos h];exact .inl ⟨rfl,h⟩
  ·dsimp only;rw[if_neg h];refine .inr ⟨rfl,?_,λ e=>?_⟩
   ·simp only[DJ];omega
   ·cases e;exact h (.inr ⟨rfl,Int.le_refl _⟩)
theorem IS (a b:Co):DJ (IR a b) a:=by
 rcases EC a b with ⟨e,h⟩|⟨e,h,_⟩
 ·rw[e];exact D3 a
 ·rw[e];exact h
theorem Kv (a b:Co):DJ (IR a b) b:=by
 rcases EC a b with ⟨e,h⟩|⟨e,h,_⟩
 ·rw[e];exact h
 ·rw[e];exact D3 b
theorem S5 (cs:List Co):∀z:Co,DJ (cs.foldl IR z) z/\(∀x∈cs,DJ (cs.foldl IR z) x)/\(cs.foldl IR z=z\/cs.foldl IR z∈cs):=by
 induction cs with
 |nil=>intro z;exact⟨D3 z,(λ x h=>by cases h),.inl rfl⟩
 |cons c r ih =>
  intro z;obtain⟨h1,h2,h3⟩:=ih (IR z c);rw[zbd];refine⟨B4 h1 (IS z c),λ x hx=>?_,?_⟩
  ·rcases za9.mp hx with rfl|hx
   ·exact B4 h1 (Kv z x)
   ·exact h2 x hx
  ·rcases h3 with h3|h3
   ·rw[h3];rcases EC z c with ⟨e,_⟩|⟨e,_⟩
    ·exact .inl e
    ·rw[e];exact .inr za3
   ·exact .inr (za4 _ h3)
theorem V9 {cs:List Co}{x:Co}(h:x∈cs):DJ (NP cs) x:=(S5 cs none).2.1 x h
theorem NR (cs:List Co):NP cs=none\/NP cs∈cs:=(S5 cs none).2.2
theorem jS {cs:List Co}{v:Co}(h1:∀x∈cs,DJ v x)(h2:v≠none->∃x∈cs,DJ x v):NP cs=v:=by
 refine NQ ?_ ?_
 ·cases v with
  |none=>cases NP cs<;>exact trivial
  |some p =>
   obtain⟨x,hx,hl⟩:=h2 (by intro z;cases z);exact B4 (V9 hx) hl
 ·rcases NR cs with h|h
  ·rw[h];cases v<;>exact trivial
  ·exact h1 _ h
theorem PV:∀a b:Co,AZ a b=AZ b a
 |none,none=>rfl
 |none,some _|some _,none=>rfl
 |some p,some q=>by simp only[AZ];rw[Int.add_comm,Int.add_comm p.2]
theorem LB:∀ {a b:Co}(c:Co),DJ a b->DJ (AZ a c) (AZ b c)
 |_,none,c,_=>by cases c<;>exact trivial
 |none,some _,c,h=>h.elim
 |some p,some q,none,h=>trivial
 |some p,some q,some r,h=>by simp only[AZ,DJ] at *;omega
def NN:Co->Prop
 |none=>True
 |some p=>0<=p.1/\0<=p.2
theorem Z7:∀ {a b:Co},NN a->NN b->NN (AZ a b)
 |none,none,_,_=>trivial
 |none,some _,_,_|some _,none,_,_=>trivial
 |some p,some q,h1,h2=>by simp only[AZ,NN] at *;omega
theorem uO {a b:Co}(h1:NN a)(h2:NN b):NN (IR a b):=by
 rcases EC a b with ⟨e,_⟩|⟨e,_⟩
 ·rw[e];exact h1
 ·rw[e];exact h2
def ltN (a b:Co):Prop:=NN a/\DJ a b/\a≠b
theorem WL (a b c:Co)(h1:ltN a b)(h2:ltN b c):ltN a c:=
 ⟨h1.1,B4 h1.2.1 h2.2.1,λ e=>by subst e;exact h1.2.2 (NQ h1.2.1 h2.2.1)⟩
noncomputable def rank:Co->Nat×Nat×Nat
 |none=>(1,0,0)
 |some p=>(0,p.1.toNat,p.2.toNat)
theorem pX:∀a:Co,NN a->Acc ltN a:=by
 have wf:WellFounded (InvImage (Prod.Lex (· < ·) (Prod.Lex (· < ·) (· < ·))) rank):=InvImage.wf rank (Prod.lex Nat.lt_wfRel (Prod.lex Nat.lt_wfRel Nat.lt_wfRel)).wf;intro a;induction a using wf.induction with
 |h a ih =>
  intro ha;refine .intro _ λ b ⟨hb,hl,au⟩=>ih b ?_ hb;cases b with
  |none=>cases a with
   |none=>exact (au rfl).elim
   |some p=>exact hl.elim
  |some q=>cases a with
   |none=>exact Prod.Lex.left _ _ (by decide)
   |some p =>
    obtain⟨p1,p2⟩:=p;obtain⟨q1,q2⟩:=q;simp only[DJ,NN] at hl ha hb;show Prod.Lex _ _ (0,q1.toNat,q2.toNat) (0,p1.toNat,p2.toNat);refine Prod.Lex.right _ ?_;by_cases h:q1<p1
    ·exact Prod.Lex.left _ _ (by omega)
    ·have e:q1=p1:=by omega
     subst e;have h2:q2≠p2:=λ e=>au (by rw[e]);exact Prod.Lex.right _ (by omega)
theorem jT (a:Co):Acc ltN a:=.intro _ λ b h=>pX b h.1
theorem WM (cs:List Co):Acc (Ol ltN) cs:=Nu ltN jT cs.length cs rfl
structure Road where
 a:Int
 b:Int
 l:Option Int
 w:Int
noncomputable def DM:Option Int->D
 |none=>.AK
 |some i=>.int i
noncomputable def Cq (r:Road):D:=.tup [.int r.a,.int r.b,DM r.l,.int r.w]
noncomputable def Ae (m:Int)(rs:List Road):D:=.tup [.int m,.lst (rs.map Cq)]
noncomputable def Cu (r:Road):Co:=match r.l with | none=>none | some l=>some (l,1)
structure L0 (m:Nat)(r:Road):Prop where
 a0:0<=r.a
 a1:r.a<m
 b0:0<=r.b
 b1:r.b<m
 l0:∀l,r.l=some l->0<=l
theorem lT {m:Nat}{r:Road}(h:L0 m r):NN (Cu r):=by
 unfold Cu;split
 ·trivial
 ·rename_i l e;exact⟨h.l0 l e,by show (0:Int)<=1;decide⟩
noncomputable def atC (cs:List Co)(i:Int):Co:=cs.getD i.toNat none
theorem GH {cs:List Co}{i:Int}(h0:0<=i)(h1:i<cs.length):cs[i.toNat]?=some (atC cs i):=by
 unfold atC;rw[zb0,zaf (show i.toNat<cs.length by omega)];rfl
theorem set_same {α:Type}:∀ {l:List α}{i:Nat}{x:α},l[i]?=some x->l.set i x=l
 |[],_,_,h=>by cases h
 |y::r,0,x,h=>by cases h;rfl
 |y::r,i+1,x,h=>by rw[zam,set_same (by simpa using h)]
noncomputable def Dv (r:Road)(cs:List Co):List Co:=cs.set r.b.toNat (IR (atC cs r.b) (AZ (atC cs r.a) (Cu r)))
theorem Va {cs:List Co}{i j:Int}{v:Co}(hi:0<=i)(hj:0<=j)(h1:i<cs.length):atC (cs.set i.toNat v) j=if j=i then v else atC cs j:=by
 unfold atC;rw[zb0,zb0];by_cases h:j=i
 ·subst h;rw[if_pos rfl,zbb (by omega)];rfl
 ·rw[if_neg h,zb3 (by omega)]
structure Good (m s:Nat)(rs:List Road)(cs:List Co):Prop where
 len:cs.length=m
 st:atC cs s=some (0,0)
 nn:∀c∈cs,NN c
 sup:∀p:Int,0<=p->p<m->p≠s->atC cs p≠none->∃r∈rs,r.b=p/\DJ (AZ (atC cs r.a) (Cu r)) (atC cs p)
theorem Good.lU {m s:Nat}{rs:List Road}{cs:List Co}(g:Good m s rs cs){i:Int}(h0:0<=i)(h1:i<m):NN (atC cs i):=
 g.nn _ (zag (GH h0 (by rw[g.len];exact h1)))
theorem WN {m s:Nat}{rs:List Road}{cs:List Co}{r:Road}(g:Good m s rs cs)(hr:r∈rs)(AE:∀r∈rs,L0 m r):
 Good m s rs (Dv r cs)/\(∀i:Int,0<=i->DJ (atC (Dv r cs) i) (atC cs i))/\(IR (atC cs r.b) (AZ (atC cs r.a) (Cu r))=atC cs r.b->Dv r cs=cs)/\
 (IR (atC cs r.b) (AZ (atC cs r.a) (Cu r))≠atC cs r.b->Ol ltN (Dv r cs) cs):=by
 have ok:=AE r hr;have j2:r.b<cs.length:=by rw[g.len];exact ok.b1
 have hx:NN (AZ (atC cs r.a) (Cu r)):=Z7 (g.lU ok.a0 ok.a1) (lT ok);have hv:NN (IR (atC cs r.b) (AZ (atC cs r.a) (Cu r))):=uO (g.lU ok.b0 ok.b1) hx;have j3:∀i:Int,0<=i->atC (Dv r cs) i=if i=r.b then IR (atC cs r.b) (AZ (atC cs r.a) (Cu r)) else atC cs i:=λ i hi=>Va ok.b0 hi j2
 have le:∀i:Int,0<=i->DJ (atC (Dv r cs) i) (atC cs i):=λ i hi=>by
  rw[j3 i hi];by_cases h:i=r.b
  ·rw[if_pos h,h];exact IS _ _
  ·rw[if_neg h];exact D3 _
 refine⟨⟨by unfold Dv;rw[zcl];exact g.len,?_,λ c hc=>?_,λ p h0 h1 hp hn=>?_⟩,le,λ h=>?_,λ h=>?_⟩
 ·rw[j3 s (by omega)];by_cases h:(s:Int)=r.b
  ·rw[if_pos h,<-h,g.st];cases q:AZ (atC cs r.a) (Cu r) with
   |none=>rfl
   |some x =>
    rw[q] at hx;unfold IR pW;dsimp only;rw[if_pos (by simp only[NN] at hx;omega)]
  ·rw[if_neg h];exact g.st
 ·unfold Dv at hc;rcases List.mem_or_eq_of_mem_set hc with h|h
  ·exact g.nn c h
  ·rw[h];exact hv
 ·rw[j3 p h0] at hn ⊢;by_cases h:p=r.b
  ·rw[if_pos h] at hn ⊢;rcases EC (atC cs r.b) (AZ (atC cs r.a) (Cu r)) with ⟨e,_⟩|⟨e,_⟩
   ·rw[e] at hn ⊢;subst h;obtain⟨r',h2,h3,h4⟩:=g.sup r.b h0 h1 hp hn;exact⟨r',h2,h3,B4 (LB _ (le r'.a (AE r' h2).a0)) h4⟩
   ·rw[e];exact⟨r,hr,h.symm,LB _ (le r.a ok.a0)⟩
  ·rw[if_neg h] at hn ⊢;obtain⟨r',h2,h3,h4⟩:=g.sup p h0 h1 hp hn;exact⟨r',h2,h3,B4 (LB _ (le r'.a (AE r' h2).a0)) h4⟩
 ·unfold Dv;rw[h];exact set_same (GH ok.b0 j2)
 ·unfold Dv;exact UW ltN (GH ok.b0 j2) ⟨hv,IS _ _,h⟩
def Right (m s:Nat)(rs:List Road)(cs:List Co):Prop:=
 cs.length=m/\atC cs s=some (0,0)/\(∀c∈cs,NN c)/\∀p:Int,0<=p->p<m->p≠s->atC cs p=NP ((rs.filter λ r=>decide (r.b=p)).map λ r=>AZ (Cu r) (atC cs r.a))
theorem right_of {m s:Nat}{rs:List Road}{cs:List Co}(g:Good m s rs cs)(h:∀r∈rs,IR (atC cs r.b) (AZ (atC cs r.a) (Cu r))=atC cs r.b):Right m s rs cs:=by
 refine⟨g.len,g.st,g.nn,λ p h0 h1 hp=>?_⟩;symm;refine jS (λ x hx=>?_) λ hn=>?_
 ·obtain⟨r,hr,rfl⟩:=zay.mp hx;obtain⟨h2,h3⟩:=zbo.mp hr;have e:r.b=p:=by simpa using h3
  have:=Kv (atC cs r.b) (AZ (atC cs r.a) (Cu r));rw[h r h2,e] at this;rw[PV];exact this
 ·obtain⟨r,h2,h3,h4⟩:=g.sup p h0 h1 hp hn;refine⟨_,zay.mpr ⟨r,zbo.mpr ⟨h2,by simpa using h3⟩,rfl⟩,?_⟩;rw[PV];exact h4
theorem U1 {m s:Nat}(rs:List Road)(h:s<m):Good m s rs ((zai m none).set s (some (0,0))):=by
 have hl:(zai m (none:Co)).length=m:=List.length_replicate;have j3:∀i:Int,0<=i->atC ((zai m none).set s (some (0,0))) i=if i=s then some (0,0) else none:=λ i hi=>by
  have:=Va (cs:=zai m none) (i:=(s:Int)) (j:=i) (v:=some (0,0)) (by omega) hi (by rw[hl];omega);rw[zc7] at this;rw[this];by_cases h:i=s
  ·rw[if_pos h,if_pos h]
  ·rw[if_neg h,if_neg h];unfold atC;rw[zb0,zci];split<;>rfl
 refine⟨by rw[zcl,hl],?_,λ c hc=>?_,λ p h0 h1 hp hn=>?_⟩
 ·rw[j3 s (by omega),if_pos rfl]
 ·rcases List.mem_or_eq_of_mem_set hc with h|h
  ·rw[List.eq_of_mem_replicate h];trivial
  ·rw[h];exact⟨Int.le_refl _,Int.le_refl _⟩
 ·rw[j3 p h0,if_neg hp] at hn;exact (hn rfl).elim
theorem pY {α:Type}{l:List α}{n:Int}(h:0<=n/\n<l.length):UJ l n=l[n.toNat]? :=by
 unfold UJ ZY;obtain⟨h1,h2⟩:=h;simp[h1,h2]
theorem jU {n:Nat}{j:Int}(h:0<=j/\j<n):ZY n j=some j.toNat:=by
 unfold ZY;obtain⟨h1,h2⟩:=h;simp[h1,h2]
theorem Kw {α:Type}{f:α->D}{l:List α}{n:Int}{x:α}(h0:0<=n)(h:l[n.toNat]?=some x):rG (.lst (l.map f)) (.int n)=.ok (f x):=by
 have h1:=(zan.mp h).1;unfold rG;dsimp only;rw[pY (by rw[za5];omega),zat,h];rfl
theorem NS {cs:List Co}{i:Int}(h0:0<=i)(h1:i<cs.length):rG (.lst (cs.map cst)) (.int i)=.ok (cst (atC cs i)):=Kw h0 (GH h0 h1)
theorem QF {n:Nat}(c:Co):Pl (n+1) (cst c):=by
 cases c with
 |none=>exact oW
 |some p=>exact Yw (MC (GB _) (MC (GB _) Yy))
theorem Vb (a b:Co):AA (cst a) (cst b)=decide (a=b):=by
 rcases a with _|⟨a1,a2⟩<;>rcases b with _|⟨b1,b2⟩
 ·simp[cst,AA]
 ·simp[cst,AA]
 ·simp[cst,AA]
 ·rw[zd3];simp[cst,AA,CF]
theorem jV (a b:Co):Xs 16 (cst a) (cst b)=.ok (.bl (!decide (a=b))):=by rw[TL (QF (n:=15) a) (QF (n:=15) b),Vb]
theorem Vc (a b:Co):ZZ 16 (cst a) (cst b)=.ok (.bl (decide (a=b))):=by rw[Qw (QF (n:=15) a) (QF (n:=15) b),Vb]
theorem jW (c:Co):Lq (cst c)=true:=by
 cases c<;>simp[cst,Lq,Ki]
theorem LC (c:Co):dp (.ok (cst c))=.ok (cst c):=by
 unfold dp;rw[M.A8,if_pos (jW c)]
theorem B8 {a b:Int}(h:0<b):F7 (.int a) (.int b)=.ok (.int (a%b)):=by
 unfold F7 Bx;dsimp only;rw[if_pos h]
theorem ED {a b:Int}(h:Rk a b):K8 (.int a) (.int b)=.ok (.int (a / b)):=by
 unfold K8 Bx;dsimp only;rw[if_pos h]
inductive Wk (rs:List Road):Int->Int->Int×Int->Prop
 |nil (u:Int):Wk rs u u (0,0)
 |cons {r:Road} {l:Int} {w:Int} {c:Int×Int}:r∈rs->r.l=some l->Wk rs r.b w c->Wk rs r.a w (l+c.1,1+c.2)
theorem Wk.trans {rs:List Road}{u v w:Int}{c d:Int×Int}(h:Wk rs u v c)(k:Wk rs v w d):Wk rs u w (c.1+d.1,c.2+d.2):=by
 induction h with
 |nil u=>simpa using k
 |cons hr hl _ ih =>
  have:=Wk.cons hr hl (ih k);simpa [Int.add_assoc] using this
theorem Wk.one {rs:List Road}{r:Road}{l:Int}(hr:r∈rs)(hl:r.l=some l):Wk rs r.a r.b (l,1):=by
 have:=Wk.cons hr hl (Wk.nil (rs:=rs) r.b);simpa using this
def PX (rs:List Road)(u w:Int)(x:Co):Prop:=(∀c,Wk rs u w c->DJ x (some c))/\∀p,x=some p->Wk rs u w p
theorem PX.Cf {rs:List Road}{u w:Int}{x y:Co}(h:PX rs u w x)(k:PX rs u w y):x=y:=by
 refine NQ ?_ ?_
 ·cases y with
  |none=>cases x<;>exact trivial
  |some q=>exact h.1 q (k.2 q rfl)
 ·cases x with
  |none=>cases y<;>exact trivial
  |some q=>exact k.1 q (h.2 q rfl)
theorem Kx {r:Road}{c:Int×Int}(h:Cu r=some c):∃l,r.l=some l/\c=(l,1):=by
 unfold Cu at h;split at h
 ·cases h
 ·rename_i l e;cases h;exact⟨l,e,rfl⟩
theorem IT {a b:Co}{c:Int×Int}(h:AZ a b=some c):∃p q,a=some p/\b=some q/\c=(p.1+q.1,p.2+q.2):=by
 cases a with
 |none=>cases h
 |some p=>cases b with
  |none=>cases h
  |some q=>cases h;exact⟨p,q,rfl,rfl,rfl⟩
theorem Right.min_le {m s:Nat}{rs:List Road}{cs:List Co}(h:Right m s rs cs){r:Road}(hr:r∈rs)(AE:L0 m r):DJ (atC cs r.b) (AZ (Cu r) (atC cs r.a)):=by
 obtain⟨h1,h2,h3,h4⟩:=h;by_cases hs:r.b=s
 ·rw[hs,h2];have hn:NN (AZ (Cu r) (atC cs r.a)):=Z7 (lT AE) (h3 _ (zag (GH AE.a0 (by rw[h1];exact AE.a1))));cases q:AZ (Cu r) (atC cs r.a) with
  |none=>exact trivial
  |some p=>rw[q] at hn;simp only[NN] at hn;simp only[DJ];omega
 ·rw[h4 r.b AE.b0 AE.b1 hs];exact V9 (zay.mpr ⟨r,zbo.mpr ⟨hr,by simp⟩,rfl⟩)
theorem WO {m s:Nat}{rs:List Road}{cs:List Co}(h:Right m s rs cs)(AE:∀r∈rs,L0 m r){u w:Int}{c:Int×Int}(k:Wk rs u w c):DJ (atC cs w) (AZ (atC cs u) (some c)):=by
 induction k with
 |nil u =>
  cases atC cs u with
  |none=>exact trivial
  |some p=>simp only[AZ,DJ];omega
 | @cons r l w c hr hl _ ih =>
  refine B4 ih ?_;have h1:=h.min_le hr (AE r hr);have e:Cu r=some (l,1):=by unfold Cu;rw[hl]
  rw[e] at h1;cases q:atC cs r.a with
  |none=>exact trivial
  |some p =>
   rw[q] at h1;cases q2:atC cs r.b with
   |none=>rw[q2] at h1;exact h1.elim
   |some p2=>rw[q2] at h1;simp only[AZ,DJ] at *;omega
theorem WQ {m s:Nat}{rs:List Road}{cs:List Co}(h:Right m s rs cs)(AE:∀r∈rs,L0 m r):∀(n:Nat) (w:Int) (p:Int×Int),0<=w->w<m->atC cs w=some p->p.2.toNat=n->Wk rs s w p:=by
 obtain⟨h1,h2,h3,h4⟩:=h;intro n;induction n with
 |zero =>
  intro w p h0 hw hp hn;by_cases hs:w=s
  ·rw[hs,h2] at hp;cases hp;rw[hs];exact .nil _
  ·exfalso;have e:=h4 w h0 hw hs;rw[hp] at e;rcases NR ((rs.filter λ r=>decide (r.b=w)).map λ r=>AZ (Cu r) (atC cs r.a)) with z|z
   ·rw[z] at e;cases e
   ·rw[<-e] at z;obtain⟨r,hr,e2⟩:=zay.mp z;have n9:=(zbo.mp hr).1;obtain⟨p1,p2,e3,e4,e5⟩:=IT e2;obtain⟨l,hl,rfl⟩:=Kx e3;have ok:=AE r n9;have nn:=h3 _ (zag (GH ok.a0 (by rw[h1];exact ok.a1)));rw[e4] at nn;simp only[NN] at nn;rw[e5] at hn;simp only at hn;omega
 |succ n ih =>
  intro w p h0 hw hp hn;by_cases hs:w=s
  ·rw[hs,h2] at hp;cases hp;rw[hs];exact .nil _
  ·have e:=h4 w h0 hw hs;rw[hp] at e;rcases NR ((rs.filter λ r=>decide (r.b=w)).map λ r=>AZ (Cu r) (atC cs r.a)) with z|z
   ·rw[z] at e;cases e
   ·rw[<-e] at z;obtain⟨r,hr,e2⟩:=zay.mp z;obtain⟨n9,su⟩:=zbo.mp hr;have su:r.b=w:=by simpa using su
    obtain⟨p1,p2,e3,e4,e5⟩:=IT e2;obtain⟨l,hl,rfl⟩:=Kx e3;have ok:=AE r n9;have nn:=h3 _ (zag (GH ok.a0 (by rw[h1];exact ok.a1)));rw[e4] at nn;simp only[NN] at nn;subst e5;simp only at hn;have w1:=ih r.a p2 ok.a0 ok.a1 e4 (by omega);have w2:=w1.trans (Wk.one n9 hl);rw[su] at w2;have e6:((l+p2.1,1+p2.2):Int×Int)=(p2.1+l,p2.2+1):=by rw[Int.add_comm l,Int.add_comm 1]
    show Wk rs s w (l+p2.1,1+p2.2);rw[e6];exact w2
theorem Right.uP {m s:Nat}{rs:List Road}{cs:List Co}(h:Right m s rs cs)(AE:∀r∈rs,L0 m r){w:Int}(h0:0<=w)(hw:w<m):PX rs s w (atC cs w):=by
 refine⟨λ c k=>?_,λ p hp=>WQ h AE _ w p h0 hw hp rfl⟩;have:=WO h AE k;rw[h.2.1] at this;have e:AZ (some (0,0)) (some c)=some c:=by simp[AZ]
 rw[e] at this;exact this
noncomputable def hit (rs:List Road)(cs:List Co)(p:Nat)(k:Nat):Bool:=match rs[k]? with
 |some r=>decide (r.b=(p:Int))&&decide (AZ (atC cs r.a) (Cu r)≠none)&&decide (AZ (atC cs r.a) (Cu r)=atC cs (p:Int))
 |none=>false
theorem Wk.nn {m:Nat}{rs:List Road}(AE:∀r∈rs,L0 m r){u w:Int}{c:Int×Int}(h:Wk rs u w c):0<=c.1/\0<=c.2:=by
 induction h with
 |nil=>exact⟨Int.le_refl _,Int.le_refl _⟩
 |cons hr hl _ ih =>
  have:=(AE _ hr).l0 _ hl;simp only;omega
noncomputable def pD (p:Int×Int):D:=.tup [.int p.1,.int p.2]
theorem LD (p q:Int×Int):AA (pD p) (pD q)=decide (p=q):=by
 obtain⟨a,b⟩:=p;obtain⟨c,d⟩:=q;unfold pD;simp only[AA,CF,Bool.and_true];rw[zd3];simp
theorem S6 (p:Int×Int):keyOk true (pD p)=true:=rfl
theorem Vd (B:List (Int×Int))(p:Int×Int):Ms (B.map pD) (pD p)=decide (p∈B):=by
 unfold Ms;rw[List.any_map,zd3];simp only[List.any_eq_true,Function.comp,LD,decide_eq_true_eq];constructor
 ·rintro ⟨x,hx,rfl⟩;exact hx
 ·intro h;exact⟨p,h,rfl⟩
theorem QG (B:List (Int×Int))(vs:List D)(neg:Bool)(a b:Int):OB neg (.tup [.int a,.int b]) (.Bl true (B.map pD) vs)=.ok (.bl (if neg=true then !decide ((a,b)∈B) else decide ((a,b)∈B))):=by
 unfold OB;dsimp only;have h1:keyOk true (D.tup [D.int a,D.int b])=true:=rfl;have h2:Ms (B.map pD) (D.tup [D.int a,D.int b])=decide ((a,b)∈B):=Vd B (a,b);rw[if_pos h1,h2]
noncomputable def LF (B:List (Int×Int))(p:Int×Int):List (Int×Int):=if p∈B then B else B++[p]
noncomputable def Dh {α:Type}(B:List α):List D:=B.map λ _=>.bl true
theorem PY {α:Type}(f:α->D)(y:D):∀B:List α,JB (B.map f) (Dh B) y (.bl true)=Dh B
 |[]=>rfl
 |b::r=>by
  show JB (f b::r.map f) (.bl true::Dh r) y (.bl true)=.bl true::Dh r;rw[JB,PY f y r];split<;>rfl
theorem Ve (B:List (Int×Int))(p:Int×Int):putD (B.map pD) (Dh B) (pD p) (.bl true)=((LF B p).map pD,Dh (LF B p)):=by
 unfold putD LF;rw[Vd];by_cases h:p∈B
 ·rw[decide_eq_true h,if_pos rfl,if_pos h,PY]
 ·rw[decide_eq_false h,if_neg (by simp),if_neg h];unfold Dh;simp
theorem S7 {B:List (Int×Int)}{p q:Int×Int}:q∈LF B p↔q∈B\/q=p:=by
 unfold LF;split
 ·constructor
  ·exact .inl
  ·rintro (h|rfl)
   ·exact h
   ·assumption
 ·simp
theorem U2 {B:List (Int×Int)}{p:Int×Int}(h:B.Nodup):(LF B p).Nodup:=by
 unfold LF;split
 ·exact h
 ·rename_i hn;exact zb2.mpr ⟨h,by simp,λ a ha b hb z=>by simp at hb;subst hb;subst z;exact hn ha⟩
theorem LG {α:Type}[DecidableEq α]:∀ {l u:List α},l.Nodup->(∀x∈l,x∈u)->l.length<=u.length
 |[],_,_,_=>zb9 _
 |x::r,u,nd,h=>by
  have cW:=zbi.mp nd;have hx:=h x za3;have ih:=LG (l:=r) (u:=u.erase x) cW.2 λ y hy=>(List.mem_erase_of_ne (λ z=>cW.1 (by rw[<-z];exact hy))).mpr (h y (za4 _ hy));have e:=List.length_erase_of_mem hx;have:0<u.length:=List.length_pos_of_mem hx;rw[zad];omega
theorem Z8 (p:Int×Int):Lq (pD p)=true:=by simp[pD,Lq,Ki]
noncomputable def An (m:Nat):List Int:=(zav m).map λ i:Nat=>(i:Int)
theorem NT (m:Nat):((zav m).map λ i:Nat=>D.int (i:Int))=(An m).map D.int:=by unfold An;rw[zbz];rfl
theorem EO (m:Nat):(An m).length=m:=by unfold An;simp
theorem HJ {m:Nat}{p:Int}:p∈An m↔0<=p/\p<m:=by
 unfold An;constructor
 ·intro h;obtain⟨i,hi,rfl⟩:=zay.mp h;have:=zcs.mp hi;omega
 ·rintro ⟨h0,h1⟩;exact zay.mpr ⟨p.toNat,zcs.mpr (by omega),by omega⟩
noncomputable def Ba (B:List (Int×Int))(L:List Int)(v:Int):List (Int×Int):=(L.filter λ u=>decide ((u,v)∈B)).flatMap λ u=>((L.filter λ w=>decide ((v,w)∈B)).filter λ w=>decide (u≠w) && !decide ((u,w)∈B)).map λ w=>(u,w)
def pZ (B:List (Int×Int)):Prop:=∀x,(x,x)∉B
theorem WR (B:List (Int×Int))(L:List Int)(v:Int):(Ba B L v).length<=L.length*L.length:=by
 unfold Ba;rw[List.length_flatMap];have key:∀l:List Int,(l.map λ u=>(((L.filter λ w=>decide ((v,w)∈B)).filter λ w=>decide (u≠w) && !decide ((u,w)∈B)).map λ w=>(u,w)).length).sum<=l.length*L.length:=by
  intro l;induction l with
  |nil=>simp
  |cons u r ih =>
   rw[za8,List.sum_cons,zad,Nat.succ_mul];have:(((L.filter λ w=>decide ((v,w)∈B)).filter λ w=>decide (u≠w) && !decide ((u,w)∈B)).map λ w=>(u,w)).length<=L.length:=by
    rw[za5];exact zbw (List.length_filter_le _ _) (List.length_filter_le _ _)
   omega
 exact zbw (key _) (Nat.mul_le_mul_right _ (List.length_filter_le _ _))
theorem PZ {α:Type}(f:α->List Int):∀l:List α,HB (l.map λ x=>D.tup ((f x).map D.int))=some (l.map λ x=>(D.tup ((f x).map D.int),f x))
 |[]=>rfl
 |x::r=>by
  rw[za8,HB,PZ f r];simp[Yn,Ej]
theorem Q0 {B:List (Int×Int)}{L:List Int}{v:Int}{p:Int×Int}(h:p∈Ba B L v):p.1∈L/\p.2∈L/\p.1≠p.2:=by
 unfold Ba at h;obtain⟨u,hu,h⟩:=List.mem_flatMap.mp h;obtain⟨w,hw,rfl⟩:=zay.mp h;have h1:=zbo.mp hw;have h2:=zbo.mp h1.1;have h3:=zbo.mp hu;simp at h1;exact⟨h3.1,h2.1,h1.2.1⟩
noncomputable def Cr (B ps:List (Int×Int)):List (Int×Int):=ps.foldl LF B
structure CI (m:Nat)(B:List (Int×Int)):Prop where
 nd:B.Nodup
 no:pZ B
 yE:∀p∈B,(0<=p.1/\p.1<m)/\(0<=p.2/\p.2<m)
theorem CI.add {m:Nat}{B:List (Int×Int)}(h:CI m B){p:Int×Int}(hp:p.1≠p.2)(h1:0<=p.1/\p.1<m)(h2:0<=p.2/\p.2<m):CI m (LF B p):=by
 refine⟨U2 h.nd,λ x hx=>?_,λ q hq=>?_⟩
 ·rcases S7.mp hx with z|z
  ·exact h.no x z
  ·subst z;exact hp rfl
 ·rcases S7.mp hq with z|z
  ·exact h.yE q z
  ·subst z;exact⟨h1,h2⟩
theorem CI.Cr {m:Nat}{B:List (Int×Int)}(h:CI m B):∀ {ps:List (Int×Int)},(∀p∈ps,p.1≠p.2/\(0<=p.1/\p.1<m)/\(0<=p.2/\p.2<m))->CI m (L2.Cr B ps):=by
 intro ps;induction ps generalizing B with
 |nil=>intro _;exact h
 |cons p r ih =>
  intro hp;have:=hp p za3;exact ih (h.add this.1 this.2.1 this.2.2) λ q hq=>hp q (za4 _ hq)
theorem CI.len {m:Nat}{B:List (Int×Int)}(h:CI m B)(hm:m<=20):B.length<1000:=by
 have key:=LG (l:=B) (u:=(zav m).flatMap λ i:Nat=>(zav m).map λ j:Nat=>((i:Int),(j:Int))) h.nd λ p hp=>by
  obtain⟨h1,h2⟩:=h.yE p hp;refine List.mem_flatMap.mpr ⟨p.1.toNat,zcs.mpr (by omega),zay.mpr ⟨p.2.toNat,zcs.mpr (by omega),?_⟩⟩;rw[Int.toNat_of_nonneg h1.1,Int.toNat_of_nonneg h2.1]
 have e:((zav m).flatMap λ i:Nat=>(zav m).map λ j:Nat=>((i:Int),(j:Int))).length=m*m:=by
  rw[List.length_flatMap];simp[List.map_const',List.sum_replicate_nat]
 rw[e] at key;have:m*m<=20*20:=Nat.mul_le_mul hm hm;omega
theorem Ft (a b c d:Int):HT.lexLt [a,b] [c,d]=decide (a<c\/(a=c/\b<d)):=by
 rw[HT.Gv,HT.Gv,HT.Fj,zd3];by_cases h1:a=c
 ·subst h1;by_cases h2:b=d
  ·subst h2;simp
  ·simp[h2]
 ·simp[h1]
theorem WS {α β:Type}(f:α->β):∀bs:List (α×List Int),B5 (bs.map λ b=>(f b.1,b.2))=(B5 bs).map λ b=>(f b.1,b.2):=by
 intro bs;unfold B5
 suffices z:∀o:Option (α×List Int),(bs.map λ b=>(f b.1,b.2)).foldl BR (o.map λ b=>(f b.1,b.2))=(bs.foldl BR o).map λ b=>(f b.1,b.2) from z none
 induction bs with
 |nil=>intro o;rfl
 |cons b r ih =>
  intro o;rw[za8,zbd,zbd,<-ih];congr 1;cases o with
  |none=>rfl
  |some c =>
   unfold BR;dsimp only [zc0];split<;>rfl
theorem Z9 {α:Type}:∀(bs:List (α×List Int)) (o:Option (α×List Int)) (b:α×List Int),bs.foldl BR o=some b->b∈bs\/o=some b:=by
 intro bs;induction bs with
 |nil=>intro o b h;exact .inr h
 |cons x r ih =>
  intro o b h;rw[zbd] at h;rcases ih _ _ h with q|q
  ·exact .inl (za4 _ q)
  ·cases o with
   |none=>cases q;exact .inl za3
   |some c =>
    unfold BR at q;dsimp only at q;split at q
    ·cases q;exact .inl za3
    ·exact .inr q
theorem WT {α:Type}{bs:List (α×List Int)}(h2:∀b∈bs,∃x y:Int,b.2=[x,y]){b:α×List Int}(hb:B5 bs=some b):∀c∈bs,HT.lexLt c.2 b.2=false:=by
 unfold B5 at hb
 suffices z:∀(bs:List (α×List Int)) (o:Option (α×List Int)),(∀b∈bs,∃x y:Int,b.2=[x,y])->(∀b,o=some b->∃x y:Int,b.2=[x,y])->∀b,bs.foldl BR o=some b->(∀c∈bs,HT.lexLt c.2 b.2=false)/\(∀c,o=some c->HT.lexLt c.2 b.2=false) from (z bs none h2 (λ b h=>by cases h) b hb).1
 intro bs;induction bs with
 |nil =>
  intro o _ ho b h;refine⟨λ c hc=>(by cases hc),λ c hc=>?_⟩;have e:o=some b:=h;rw[hc] at e;cases e;obtain⟨x,y,e⟩:=ho _ hc;rw[e,Ft];simp
 |cons d r ih =>
  intro o h2 ho b h;rw[zbd] at h;have hd:=h2 d za3;have cu:∀b,BR o d=some b->∃x y:Int,b.2=[x,y]:=λ b hb=>by
   unfold BR at hb;cases o with
   |none=>cases hb;exact hd
   |some c =>
    dsimp only at hb;split at hb
    ·cases hb;exact hd
    ·cases hb;exact ho _ rfl
  obtain⟨i1,i2⟩:=ih (BR o d) (λ c hc=>h2 c (za4 _ hc)) cu b h;have zc:=JC o d;obtain⟨k,hk⟩:∃k,BR o d=some k:=by
   cases q:BR o d with
   |none=>exact (zc q).elim
   |some k=>exact⟨k,rfl⟩
  have zd:=i2 k hk;obtain⟨kx,ky,ek⟩:=cu k hk;have fb:∃x y:Int,b.2=[x,y]:=by
   have:=Z9 r (BR o d) b h;rcases this with z|z
   ·exact h2 b (za4 _ z)
   ·exact cu b z
  obtain⟨bx,by',eb⟩:=fb;obtain⟨dx,dy,ed⟩:=hd;rw[ek,eb,Ft,decide_eq_false_iff_not] at zd;have eO:HT.lexLt d.2 b.2=false/\∀c,o=some c->HT.lexLt c.2 b.2=false:=by
   unfold BR at hk;cases o with
   |none =>
    cases hk;rw[ed] at ek;injection ek with e1 e2
    injection e2 with e2 _
    refine⟨?_,λ c hc=>by cases hc⟩;rw[ed,eb,Ft,decide_eq_false_iff_not];omega
   |some c =>
    obtain⟨cx,cy,ec⟩:=ho c rfl;dsimp only at hk;rw[ed,ec,Ft] at hk;by_cases hl:dx<cx\/(dx=cx/\dy<cy)
    ·rw[if_pos (decide_eq_true hl)] at hk;cases hk;rw[ed] at ek;injection ek with e1 e2
     injection e2 with e2 _
     refine⟨?_,λ c' js=>?_⟩
     ·rw[ed,eb,Ft,decide_eq_false_iff_not];omega
     ·cases js;rw[ec,eb,Ft,decide_eq_false_iff_not];omega
    ·rw[if_neg (by simpa using hl)] at hk;cases hk;rw[ec] at ek;injection ek with e1 e2
     injection e2 with e2 _
     refine⟨?_,λ c' js=>?_⟩
     ·rw[ed,eb,Ft,decide_eq_false_iff_not];omega
     ·cases js;rw[ec,eb,Ft,decide_eq_false_iff_not];omega
  refine⟨λ c hc=>?_,eO.2⟩;rcases za9.mp hc with z|z
  ·rw[z];exact eO.1
  ·exact i1 c z
noncomputable def Bw (B:List (Int×Int))(L:List Int):Int:=match B5 (L.map λ p=>(p,[((Ba B L p).length:Int),p])) with
 |some k=>k.1
 |none=>0
theorem WU {B:List (Int×Int)}{L:List Int}(h:L≠[]):Bw B L∈L/\∀p∈L,¬ (((Ba B L p).length:Int)<(Ba B L (Bw B L)).length\/(((Ba B L p).length:Int)=(Ba B L (Bw B L)).length/\p<Bw B L)):=by
 unfold Bw;cases q:B5 (L.map λ p=>(p,[((Ba B L p).length:Int),p])) with
 |none=>exact (NF (λ z=>h (List.map_eq_nil_iff.mp z)) q).elim
 |some k =>
  obtain⟨p,hp,rfl⟩:=zay.mp (Le _ _ q);refine⟨hp,λ p' lc=>?_⟩;have:=WT (λ b hb=>by obtain⟨x,_,rfl⟩:=zay.mp hb;exact⟨_,_,rfl⟩) q _ (zay.mpr ⟨p',lc,rfl⟩);rw[Ft,decide_eq_false_iff_not] at this;exact this
noncomputable def Xv:Nat->List (Int×Int)->List Int->List Int
 |0,_,_=>[]
 |n+1,B,L=>if L=[] then [] else Bw B L::Xv n (Cr B (Ba B L (Bw B L))) (L.erase (Bw B L))
noncomputable def BU (rs:List Road):List (Int×Int):=rs.foldl (λ B r=>match r.l with | none=>B | some _=>LF B (r.a,r.b)) []
theorem S8 {m:Nat}:∀ {rs:List Road},(∀r∈rs,L0 m r/\r.a≠r.b)->CI m (BU rs):=by
 intro rs
 suffices z:∀(rs:List Road) (B:List (Int×Int)),CI m B->(∀r∈rs,L0 m r/\r.a≠r.b)->CI m (rs.foldl (λ B r=>match r.l with|none=>B|some _=>LF B (r.a,r.b)) B) from λ h=>z rs [] ⟨zcj,λ x h=>(by cases h),λ p h=>(by cases h)⟩ h
 intro rs;induction rs with
 |nil=>intro B h _;exact h
 |cons r t ih =>
  intro B h hr;rw[zbd];refine ih _ ?_ λ r' h'=>hr r' (za4 _ h');have:=hr r za3;cases r.l with
  |none=>exact h
  |some l=>exact h.add this.2 ⟨this.1.a0,this.1.a1⟩ ⟨this.1.b0,this.1.b1⟩
theorem Dw {f:Int->Int->M D}{a b:Int}:Bx f (.int a) (.int b)=f a b:=rfl
theorem Gj {bs:List Bool}:YB [.lst (bs.map D.bl)]=.ok (.bl (bs.all id)):=by unfold YB;dsimp only;rw[Nm]
theorem Gk {bs:List Bool}:tX [.lst (bs.map D.bl)]=.ok (.bl (bs.any id)):=by unfold tX;dsimp only;rw[Nm]
theorem Ff {a b:List D}(h:a.length+b.length<=1000):Mb (.lst a) (.lst b)=.ok (.lst ((a++b).map .sh)):=if_pos h
noncomputable def F9 (d:D)(n:Int):Bool:=match d with
 | .int j=>decide (0<=j)&&decide (j<n)
 |_=>false
noncomputable def BL (m:Nat):D->Bool
 | .lst xs=>(match Cw xs with|some ns=>decide (Hh ns=An m)|none=>false)
 |_=>false
def Vf (d:D):Prop:=KZ d=false/\∀xs,d=.lst xs->xs.length<=1000/\∀e∈xs,KZ e=false
theorem S9 (m:Nat):(An m).Pairwise (·<=·):=by
 unfold An;rw[List.pairwise_map];exact (List.pairwise_lt_range (n:=m)).imp λ h=>by omega
theorem JD (m:Nat):(An m).Nodup:=by
 unfold An List.Nodup;rw[List.pairwise_map];exact (List.pairwise_lt_range (n:=m)).imp λ h=>by omega
theorem Q1 {m:Nat}{L:List Int}:Hh L=An m↔L.Perm (An m):=
 ⟨λ h=>by rw[<-h];exact (Dt L).symm,λ h=>HH ((Dt L).trans h) (GF L) (S9 m)⟩
theorem NU {m:Nat}{L:List Int}:BL m (.lst (L.map D.int))=decide (Hh L=An m):=by unfold BL;dsimp only;rw[Ej]
theorem U5 {m:Nat}{L:List Int}(h:L.Perm (An m)):BL m (.lst (L.map D.int))=true:=by rw[NU];exact decide_eq_true (Q1.mpr h)
theorem WV {m:Nat}{xs:List D}(h:BL m (.lst xs)=true):∃L:List Int,xs=L.map D.int/\L.Perm (An m):=by
 unfold BL at h;dsimp only at h;split at h
 ·rename_i ns e;exact⟨ns,CO e,Q1.mp (of_decide_eq_true h)⟩
 ·cases h
theorem Ky {m:Nat}{L:List Int}(h:L.Perm (An m)):L.length=m:=by rw[h.length_eq,EO]
theorem D4 {m:Nat}{L:List Int}(h:L.Perm (An m)){p:Int}:p∈L↔0<=p/\p<m:=by rw[h.mem_iff,HJ]
theorem NV {m:Nat}{L:List Int}(h:L.Perm (An m)):L.Nodup:=h.nodup_iff.mpr (JD m)
theorem Sa {m:Nat}{xs:List D}(h:BL m (.lst xs)=true):xs.length=m/\(xs.map λ e=>F9 e m).all id=true:=by
 obtain⟨L,rfl,hp⟩:=WV h;refine⟨by rw[za5,Ky hp],?_⟩;rw[List.all_eq_true];intro b hb;rw[zbz] at hb;obtain⟨j,hj,rfl⟩:=zay.mp hb;have:=(D4 hp).mp hj;show (decide (0<=j)&&decide (j<m))=true;simp only[zb1,decide_eq_true_eq];exact this
theorem Vg {m:Nat}:∀ {xs:List D},(xs.map λ e=>F9 e m).all id=true->∃L:List Int,xs=L.map D.int
 |[],_=>⟨[],rfl⟩
 |d::r,h=>by
  rw[za8,List.all_cons,zb1] at h;obtain⟨L,rfl⟩:=Vg h.2;cases d with
  |int j=>exact⟨j::L,rfl⟩
  |_=>exact absurd h.1 (by simp[F9])
theorem Q2:∀ {a b:List Int},CF (a.map D.int) (b.map D.int)=decide (a=b)
 |[],[]=>by simp[CF]
 |[],y::t=>by simp[CF]
 |x::r,[]=>by simp[CF]
 |x::r,y::t=>by
  rw[za8,za8,CF,Q2,AA];by_cases h:x=y<;>by_cases k:r=t<;>simp[h,k]
theorem Za {a b:List Int}:AA (.lst (a.map D.int)) (.lst (b.map D.int))=decide (a=b):=by rw[AA];exact Q2
theorem Zb {a b:List Int}:ZZ 16 (.lst (a.map D.int)) (.lst (b.map D.int))=.ok (.bl (decide (a=b))):=by rw[Qw (UT (n:=15) a) (UT (n:=15) b),Za]
theorem WW {i:Nat}{L:List Int}(h:L.Perm (An i))(n:Nat):(L.take n++(i:Int)::L.drop n).Perm (An (i+1)):=by
 have e:An (i+1)=An i++[(i:Int)]:=by unfold An;rw[List.range_succ,zbm];rfl
 rw[e];refine List.perm_middle.trans ?_;rw[List.take_append_drop];exact ((h.cons _).trans (List.perm_append_singleton _ _).symm)
theorem MI {m:Nat}{xs:List D}(h:xs.length≠m):BL m (.lst xs)=false:=by
 cases q:BL m (.lst xs) with
 |false=>rfl
 |true=>exact (h (Sa q).1).elim
theorem Vh {i:Nat}{ρ:Aa}{ds:List D}{d:D}{p:Int}(hi:ρ[i]?=some (some (.own ds)))(h0:0<=p)(h1:p<ds.length):iK i ρ (.ok (.int p)) d=.ok (.next (ρ.set i (some (.own (ds.set p.toNat d))))):=by
 unfold iK;rw[hi];dsimp only;rw[M.A8];unfold oX;dsimp only;rw[jU ⟨h0,h1⟩]
theorem qA {xs:List D}(h:xs.length<=1000)(h2:∀e∈xs,KZ e=false):Vf (.lst xs):=⟨rfl,λ ys e=>by cases e;exact⟨h,h2⟩⟩
theorem WY {ρ:Aa}:YI 0 (none::ρ)=none::ρ:=rfl
theorem Zc:∃T Q:Int,Qp (.int 10) (.int 60)=.ok (.int T)/\Qp (.int 982451653) (.int 7)=.ok (.int Q)/\1000000<T/\T.natAbs<2^200/\0<Q/\Q.natAbs<2^250:=⟨10^60,982451653^7,rfl,rfl,by decide,by decide,by decide,by decide⟩
noncomputable def Ra:Int:=zab Zc
theorem lV:∃Q:Int,Qp (.int 10) (.int 60)=.ok (.int Ra)/\Qp (.int 982451653) (.int 7)=.ok (.int Q)/\1000000<Ra/\Ra.natAbs<2^200/\0<Q/\Q.natAbs<2^250:=za2 Zc
theorem Q3:Qp (.int 10) (.int 60)=.ok (.int Ra):=(za2 lV).1
theorem Zd:1000000<Ra:=(za2 lV).2.2.1
def cl:Nat->D->Prop
 |0,d=>KZ d=false
 |n+1,d=>KZ d=false/\∀ds,(d=.tup ds\/d=.lst ds)->∀e∈ds,cl n e
theorem cl.x {n:Nat}{d:D}(h:cl n d):KZ d=false:=by cases n with | zero=>exact h | succ n=>exact h.1
theorem D5 {n:Nat}{ds:List D}(h:∀e∈ds,cl n e):cl (n+1) (.tup ds):=⟨rfl,λ es e x hx=>by rcases e with e | e<;>cases e;exact h x hx⟩
theorem LH {n:Nat}{ds:List D}(h:∀e∈ds,cl n e):cl (n+1) (.lst ds):=⟨rfl,λ es e x hx=>by rcases e with e | e<;>cases e;exact h x hx⟩
theorem Kz {n:Nat}{d:D}(h:KZ d=false)(h2:∀ds,d≠.tup ds)(h3:∀ds,d≠.lst ds):cl n d:=by
 cases n with
 |zero=>exact h
 |succ n=>exact⟨h,λ ds e=>by rcases e with e|e;exact (h2 ds e).elim;exact (h3 ds e).elim⟩
theorem AJ {n:Nat}{i:Int}:cl n (.int i):=Kz rfl (λ _ h=>by cases h) (λ _ h=>by cases h)
theorem QH {n:Nat}:cl n .AK:=Kz rfl (λ _ h=>by cases h) (λ _ h=>by cases h)
theorem lW {n:Nat}{b:Bool}:cl n (.bl b):=Kz rfl (λ _ h=>by cases h) (λ _ h=>by cases h)
theorem qB {n:Nat}{b:PySem.Str}:cl n (.str b):=Kz rfl (λ _ h=>by cases h) (λ _ h=>by cases h)
theorem qC {n:Nat}{b:Bool}{ks vs:List D}:cl n (.Bl b ks vs):=Kz rfl (λ _ h=>by cases h) (λ _ h=>by cases h)
theorem qD {n:Nat}{l:Option Int}:cl n (DM l):=by cases l;exact QH;exact AJ
theorem Cs {n:Nat}:∀e∈([]:List D),cl n e:=λ e h=>by cases h
theorem Am {n:Nat}{d:D}{ds:List D}(h:cl n d)(t:∀e∈ds,cl n e):∀e∈d::ds,cl n e:=λ e he=>by
 rcases za9.mp he with rfl|he
 ·exact h
 ·exact t e he
theorem uQ {n:Nat}{r:Road}:cl (n+1) (Cq r):=D5 (Am AJ (Am AJ (Am qD (Am AJ Cs))))
theorem QI {n:Nat}{rs:List Road}:∀e∈rs.map Cq,cl (n+1) e:=λ e he=>by
 obtain⟨r,_,rfl⟩:=zay.mp he;exact uQ
noncomputable def BP (m:Int):D->Bool
 | .tup [a,b,l,w]=>F9 a m&&(F9 b m&&(!AA a b&&((AV l||F9 l Ra)&&F9 w Ra)))
 |_=>false
noncomputable def BM:D->Bool
 | .tup [.int m,.lst rs]=>(F9 (.int m) 17 && !decide (m=0))&&(decide (rs.length<=60)&&(rs.map (BP m)).all id)
 |_=>false
theorem Q4 {n:D}:BM (.tup [n])=false:=by cases n<;>rfl
theorem U6 {n r z:D}{t:List D}:BM (.tup (n::r::z::t))=false:=by cases n<;>cases r<;>rfl
theorem jX {n r:D}(h:∀i,n≠.int i):BM (.tup [n,r])=false:=by
 cases n with
 |int i=>exact (h i rfl).elim
 |_=>cases r<;>rfl
theorem Vi {n r:D}(h:∀i,r≠.lst i):BM (.tup [n,r])=false:=by
 cases r with
 |lst i=>exact (h i rfl).elim
 |_=>cases n<;>rfl
structure Hn (m:Nat)(r:Road):Prop where
 a0:0<=r.a
 a1:r.a<m
 b0:0<=r.b
 b1:r.b<m
 ab:r.a≠r.b
 l0:∀l,r.l=some l->0<=l/\l<Ra
 w0:0<=r.w
 w1:r.w<Ra
theorem KA {i n:Int}(h0:0<=i)(h1:i<n):F9 (.int i) n=true:=by unfold F9;simp[h0,h1]
theorem WZ {m:Nat}{r:Road}(h:Hn m r):BP m (Cq r)=true:=by
 unfold Cq BP;dsimp only;rw[KA h.a0 h.a1,KA h.b0 h.b1,KA h.w0 h.w1];have:AA (.int r.a) (.int r.b)=false:=by rw[AA];simp[h.ab]
 rw[this];cases hl:r.l with
 |none=>rfl
 |some l=>have:=h.l0 l hl;rw[show DM (some l)=.int l from rfl,KA this.1 this.2];rfl
theorem Sb {m:Nat}{rs:List Road}(h1:1<=m)(h2:m<=16)(hl:rs.length<=60)(h:∀r∈rs,Hn m r):BM (Ae m rs)=true:=by
 unfold Ae BM;dsimp only;rw[KA (by omega) (by omega),za5,decide_eq_true hl,decide_eq_false (by omega)];have:(((rs.map Cq).map (BP m)).all id)=true:=by
  rw[List.all_eq_true];intro b hb;rw[zbz] at hb;obtain⟨r,hr,rfl⟩:=zay.mp hb;exact WZ (h r hr)
 rw[this];rfl
theorem X0 {m:Int}{rs:List D}{y:D}(hy:y∈rs)(h:BP m y=false):BM (.tup [.int m,.lst rs])=false:=by
 unfold BM;dsimp only;have:((rs.map (BP m)).all id)=false:=by
  rw[List.all_eq_false];exact⟨_,List.mem_map_of_mem hy,by rw[h];exact zao⟩
 rw[this];simp
def QJ (y:D):Prop:=cl 3 y/\BM y=false
theorem C5 {p:D->Prop}{S A:List D}(h:∀y∈S,p y)(k:∀y∈A,p y):∀y∈S++A,p y:=λ y hy=>by
 rcases zar.mp hy with hy|hy
 ·exact h y hy
 ·exact k y hy
theorem all_cons {p:D->Prop}{d:D}{A:List D}(h:p d)(k:∀y∈A,p y):∀y∈d::A,p y:=λ y hy=>by
 rcases za9.mp hy with rfl|hy
 ·exact h
 ·exact k y hy
theorem all_nil {p:D->Prop}:∀y∈([]:List D),p y:=λ y hy=>by cases hy
theorem Ze {S:List D}{q:Int}(h:0<S.length)(h0:0<=q):F7 (.int q) (.int (S.length:Int))=.ok (.int (q%S.length))/\∃y,y∈S/\Bi (.lst S) (.int (q%(S.length:Int)))=.ok y:=by
 have dI:(0:Int)<(S.length:Int):=by omega
 have b0:0<=q%(S.length:Int):=zbx _ (by omega);have b1:q%(S.length:Int)<S.length:=zc1 _ dI;refine⟨B8 dI,S[(q%(S.length:Int)).toNat]'(by omega),List.getElem_mem _,?_⟩;have:=Kw (f:=λ d:D=>d) (l:=S) b0 (zaf (by omega));rw[List.map_id'] at this;exact this
theorem jY {a b:OT}:er (.tup [a,b])=.tup [er a,er b]:=by simp[er,Rz]
section
variable {α β:Type}{a b c d e f g:α}{x y:β}
theorem X1:(if [a,b,c,d,e].length<=1000 then x else y)=x:=rfl
theorem X2:(if [a,b,c,d,e,f].length<=1000 then x else y)=x:=rfl
theorem X3:(if [a,b,c,d,e,f,g].length<=1000 then x else y)=x:=rfl
theorem IU {t:Bool}:er (.Bl t [] [])=.Bl t [] []:=by simp[er,Rz]
end
structure zB (m:Nat)(rs:List Road)(rk:Int->Nat)(Af:Int->Int->Co):Prop where
 snd:∀x y c,Af x y=some c->Wk rs x y c/\x≠y/\(0<=x/\x<m)/\0<=y/\y<m
 road:∀r∈rs,DJ (Af r.a r.b) (Cu r)
 tri:∀p x y,x≠y->rk p<rk x->rk p<rk y->DJ (Af x y) (AZ (Af x p) (Af p y))
 inj:∀x y:Int,0<=x->x<m->0<=y->y<m->rk x=rk y->x=y
 nn:∀x y c,Wk rs x y c->0<=c.1/\0<=c.2
def yF (p q:Int×Int):Prop:=p.1<q.1\/(p.1=q.1/\p.2<=q.2)
theorem qE {a:Co}{q:Int×Int}(h:DJ a (some q)):∃p,a=some p/\yF p q:=by
 cases a with
 |none=>exact h.elim
 |some p=>exact⟨p,rfl,h⟩
section
variable {κ β:Type} [DecidableEq κ]
noncomputable def Bv:List (κ×β)->κ->Option β
 |[],_=>none
 |(k,v)::r,x=>if k=x then some v else Bv r x
noncomputable def GI (A:List (κ×β))(k:κ)(v:β):List (κ×β):=if (Bv A k).isSome=true then A.map λ kv=>if kv.1=k then (kv.1,v) else kv else A++[(k,v)]
theorem QK (k j:κ)(v:β):∀A:List (κ×β),Bv (A.map λ kv=>if kv.1=k then (kv.1,v) else kv) j=if j=k then (Bv A j).map λ _=>v else Bv A j
 |[]=>by simp[Bv]
 |(k',v')::r=>by
  rw[za8];by_cases h1:k'=k
  ·rw[if_pos h1];subst h1;simp only[Bv];by_cases h2:k'=j
   ·subst h2;simp
   ·rw[if_neg h2,if_neg h2,QK k' j v r]
  ·rw[if_neg h1];simp only[Bv];by_cases h2:k'=j
   ·subst h2;rw[if_pos rfl,if_pos rfl,if_neg h1]
   ·rw[if_neg h2,if_neg h2,QK k j v r]
theorem Sd (k j:κ)(v:β):∀A:List (κ×β),Bv A k=none->Bv (A++[(k,v)]) j=if j=k then some v else Bv A j
 |[],_=>by
  simp only[List.nil_append,Bv];by_cases h:k=j
  ·subst h;simp
  ·rw[if_neg h,if_neg (zbp h)]
 |(k',v')::r,h=>by
  simp only[Bv] at h;by_cases h1:k'=k
  ·rw[if_pos h1] at h;cases h
  ·rw[if_neg h1] at h;rw[zdi];simp only[Bv];rw[Sd k j v r h];by_cases h2:k'=j
   ·subst h2;rw[if_pos rfl,if_pos rfl,if_neg h1]
   ·rw[if_neg h2,if_neg h2]
theorem MJ (A:List (κ×β))(k j:κ)(v:β):Bv (GI A k v) j=if j=k then some v else Bv A j:=by
 unfold GI;by_cases h:(Bv A k).isSome=true
 ·rw[if_pos h,QK];by_cases hj:j=k
  ·subst hj;rw[if_pos rfl,if_pos rfl];obtain⟨x,hx⟩:=zbs.mp h;rw[hx];rfl
  ·rw[if_neg hj,if_neg hj]
 ·rw[if_neg h];exact Sd k j v A (by cases e:Bv A k with|none=>rfl|some x=>rw[e] at h;exact (h rfl).elim)
theorem IV:∀ {A:List (κ×β)}{k:κ},(Bv A k).isSome=true↔k∈A.map zbg
 |[],k=>by simp[Bv]
 |(k',v')::r,k=>by
  simp only[Bv,za8,za9];by_cases h:k'=k
  ·rw[if_pos h];simp[h]
  ·rw[if_neg h,IV];simp[zbp h]
theorem Se (A:List (κ×β))(k:κ)(v:β):(GI A k v).map zbg=if (Bv A k).isSome=true then A.map zbg else A.map zbg++[k]:=by
 unfold GI;split
 ·rw[zbz];refine List.map_congr_left λ kv _=>?_;dsimp only [Function.comp];split<;>rfl
 ·rw[zbm];rfl
theorem Q5 {A:List (κ×β)}{k:κ}{v:β}(h:(A.map zbg).Nodup):((GI A k v).map zbg).Nodup:=by
 rw[Se];split
 ·exact h
 ·rename_i hn;rw[IV] at hn;rw[zb2];exact⟨h,by simp,λ x hx y hy=>by rw[zaj.mp hy];exact λ e=>hn (e▸hx)⟩
theorem Sf {A:List (κ×β)}{k x:κ}{v:β}(h:x∈(GI A k v).map zbg):x∈A.map zbg\/x=k:=by
 rw[Se] at h;split at h
 ·exact .inl h
 ·rcases zar.mp h with h|h
  ·exact .inl h
  ·exact .inr (zaj.mp h)
variable {kf:κ->D}{vf:β->D}(he:∀a b,AA (kf a) (kf b)=decide (a=b))
include he
theorem Sg (A:List (κ×β))(k:κ):Ms (A.map λ kv=>kf kv.1) (kf k)=(Bv A k).isSome:=by
 induction A with
 |nil=>rfl
 |cons kv r ih =>
  obtain⟨k',v'⟩:=kv;unfold Ms at ih ⊢;rw[za8,zdd,ih,he];simp only[Bv];by_cases h:k'=k
  ·rw[if_pos h,decide_eq_true h];rfl
  ·rw[if_neg h,decide_eq_false h];rfl
theorem Zf (A:List (κ×β))(k:κ):Kl (A.map λ kv=>kf kv.1) (A.map λ kv=>vf kv.2) (kf k)=(Bv A k).map vf:=by
 induction A with
 |nil=>rfl
 |cons kv r ih =>
  obtain⟨k',v'⟩:=kv;rw[za8,za8,Kl,he,ih];simp only[Bv];by_cases h:k'=k
  ·rw[decide_eq_true h,if_pos rfl,if_pos h];rfl
  ·rw[decide_eq_false h,if_neg zao,if_neg h]
theorem Zg (k:κ)(v:β)(A:List (κ×β)):JB (A.map λ kv=>kf kv.1) (A.map λ kv=>vf kv.2) (kf k) (vf v)=(A.map λ kv=>if kv.1=k then (kv.1,v) else kv).map λ kv=>vf kv.2:=by
 induction A with
 |nil=>rfl
 |cons kv r ih =>
  obtain⟨k',v'⟩:=kv;rw[za8,za8,JB,he,ih,za8,za8];by_cases h:k'=k
  ·rw[decide_eq_true h,if_pos rfl,if_pos h]
  ·rw[decide_eq_false h,if_neg zao,if_neg h]
theorem Zh (A:List (κ×β))(k:κ)(v:β):putD (A.map λ kv=>kf kv.1) (A.map λ kv=>vf kv.2) (kf k) (vf v)=((GI A k v).map (λ kv=>kf kv.1),(GI A k v).map λ kv=>vf kv.2):=by
 unfold putD GI;rw[Sg he];by_cases h:(Bv A k).isSome=true
 ·rw[if_pos h,if_pos h,Zg he];refine Prod.ext ?_ rfl;dsimp only;rw[zbz];refine List.map_congr_left λ kv _=>?_;dsimp only [Function.comp];split<;>rfl
 ·rw[if_neg h,if_neg h,zbm,zbm];rfl
end
noncomputable abbrev LA:=List ((Int×Int)×((Int×Int)×Option Int))
noncomputable def Sh (v:(Int×Int)×Option Int):D:=.tup [cst (some v.1),DM v.2]
noncomputable def HK (A:LA):D:=.Bl true (A.map λ kv=>pD kv.1) (A.map λ kv=>Sh kv.2)
noncomputable def JV (A:LA):OT:=.Bl true (A.map λ kv=>pD kv.1) ((A.map λ kv=>Sh kv.2).map .sh)
noncomputable def A9 (A:LA)(p:Int×Int):Co:=(Bv A p).map zbg
noncomputable def layA (A:LA)(p:Int×Int)(c:Co)(mid:Option Int):LA:=match c with
 |none=>A
 |some c=>(match Bv A p with
  |none=>GI A p (c,mid)
  |some z=>if c.1<z.1.1\/(c.1=z.1.1/\c.2<z.1.2) then GI A p (c,mid) else A)
theorem HL (A:LA)(p q:Int×Int)(c:Co)(mid:Option Int):A9 (layA A p c mid) q=if q=p then IR (A9 A p) c else A9 A q:=by
 unfold layA A9;cases c with
 |none =>
  by_cases h:q=p
  ·subst h;rw[if_pos rfl];cases Bv A q<;>rfl
  ·rw[if_neg h]
 |some c =>
  cases e:Bv A p with
  |none =>
   dsimp only;rw[MJ];by_cases h:q=p
   ·rw[if_pos h,if_pos h];rfl
   ·rw[if_neg h,if_neg h]
  |some z =>
   dsimp only;by_cases hc:c.1<z.1.1\/(c.1=z.1.1/\c.2<z.1.2)
   ·rw[if_pos hc,MJ];by_cases h:q=p
    ·rw[if_pos h,if_pos h];simp only[zc0,IR,pW];rw[if_neg (by omega)]
    ·rw[if_neg h,if_neg h]
   ·rw[if_neg hc];by_cases h:q=p
    ·subst h;rw[if_pos rfl,e];simp only[zc0,IR,pW];rw[if_pos (by omega)]
    ·rw[if_neg h]
theorem U7 (A:LA)(p q:Int×Int)(c:Co)(mid:Option Int):DJ (A9 (layA A p c mid) q) (A9 A q):=by
 rw[HL];split
 ·rename_i h;subst h;exact IS _ _
 ·exact D3 _
theorem Zi {A:LA}{p x:Int×Int}{c:Co}{mid:Option Int}(h:x∈(layA A p c mid).map zbg):x∈A.map zbg\/x=p:=by
 unfold layA at h;split at h
 ·exact .inl h
 ·split at h
  ·exact Sf h
  ·split at h
   ·exact Sf h
   ·exact .inl h
theorem X4 {A:LA}{p:Int×Int}{c:Co}{mid:Option Int}(h:(A.map zbg).Nodup):((layA A p c mid).map zbg).Nodup:=by
 unfold layA;split
 ·exact h
 ·split
  ·exact Q5 h
  ·split
   ·exact Q5 h
   ·exact h
noncomputable def MK (p u:Int)(A:LA)(w:Int):LA:=if u=w then A else layA A (u,w) (AZ (A9 A (u,p)) (A9 A (p,w))) (some p)
noncomputable def X5 (p:Int)(H:List Int)(A:LA)(u:Int):LA:=H.foldl (MK p u) A
noncomputable def eY (A:LA)(p:Int)(H:List Int):LA:=H.foldl (X5 p H) A
noncomputable def Om:LA->List Int->LA
 |A,[]=>A
 |A,p::r=>Om (eY A p r) r
noncomputable def lay0 (rs:List Road):LA:=rs.foldl (λ A r=>layA A (r.a,r.b) (Cu r) none) []
noncomputable def Bp (rs:List Road)(L:List Int):LA:=Om (lay0 rs) L
structure EQ (m:Nat)(A:LA):Prop where
 nd:(A.map zbg).Nodup
 rg:∀p∈A.map zbg,p.1≠p.2/\(0<=p.1/\p.1<m)/\0<=p.2/\p.2<m
theorem EQ.lay {m:Nat}{A:LA}(h:EQ m A){p:Int×Int}{c:Co}{mid:Option Int}(hp:p.1≠p.2/\(0<=p.1/\p.1<m)/\0<=p.2/\p.2<m):EQ m (layA A p c mid):=
 ⟨X4 h.nd,λ q hq=>(Zi hq).elim (h.rg q) λ e=>e▸hp⟩
theorem EQ.len {m:Nat}{A:LA}(h:EQ m A)(hm:m<=20):A.length<1000:=by
 have:=CI.len (B:=A.map zbg) (m:=m) ⟨h.nd,λ x hx=>(h.rg _ hx).1 rfl,λ q hq=>⟨(h.rg q hq).2.1,(h.rg q hq).2.2⟩⟩ hm;rwa[za5] at this
theorem Gm {α β:Type}{f:β->α->β}(P:List α->β->Prop):∀ {L pre:List α}{b:β},P pre b->(∀a∈L,∀pre b,P pre b->P (pre++[a]) (f b a))->P (pre++L) (L.foldl f b)
 |[],pre,b,h,_=>by rw[zbj];exact h
 |a::L,pre,b,h,hs=>by
  have:=Gm P (L:=L) (hs a za3 pre b h) λ x hx=>hs x (za4 _ hx);rw[zck] at this;exact this
def jZ (rs:List Road)(A:LA):Prop:=∀x y c,A9 A (x,y)=some c->Wk rs x y c
theorem jZ.lay {rs:List Road}{A:LA}(h:jZ rs A){x y:Int}{c:Co}{mid:Option Int}(hc:∀p,c=some p->Wk rs x y p):jZ rs (layA A (x,y) c mid):=λ u w d hd=>by
 rw[HL] at hd;split at hd
 ·rename_i e;cases e;rcases EC (A9 A (x,y)) c with ⟨e,_⟩|⟨e,_⟩
  ·rw[e] at hd;exact h _ _ _ hd
  ·rw[e] at hd;exact hc d hd
 ·exact h _ _ _ hd
structure Over (m:Nat)(rs:List Road)(p:Int)(H:List Int)(A0 A:LA):Prop where
 ok:EQ m A
 sd:jZ rs A
 le:∀q,DJ (A9 A q) (A9 A0 q)
 sm:∀x y,(x∉H\/y∉H)->A9 A (x,y)=A9 A0 (x,y)
theorem X6 {m:Nat}{rs:List Road}{p:Int}{H:List Int}{A0 A:LA}(hp:p∉H)(hH:∀x∈H,0<=x/\x<m)(h:Over m rs p H A0 A){u w:Int}(hu:u∈H)(hw:w∈H):Over m rs p H A0 (MK p u A w)/\(u≠w->DJ (A9 (MK p u A w) (u,w)) (AZ (A9 A0 (u,p)) (A9 A0 (p,w)))):=by
 unfold MK;by_cases e:u=w
 ·rw[if_pos e];exact⟨h,λ z=>(z e).elim⟩
 ·rw[if_neg e];have e1:=h.sm u p (.inr hp);have e2:=h.sm p w (.inl hp);refine⟨⟨h.ok.lay ⟨e,hH u hu,hH w hw⟩,h.sd.lay λ c hc=>?_,λ q=>B4 (U7 _ _ _ _ _) (h.le q),λ x y dR=>?_⟩,λ _=>?_⟩
  ·obtain⟨a,b,ha,hb,rfl⟩:=IT hc;exact (h.sd _ _ _ ha).trans (h.sd _ _ _ hb)
  ·rw[HL,if_neg (λ z=>by cases z;exact dR.elim (λ q=>q hu) λ q=>q hw)];exact h.sm x y dR
  ·rw[HL,if_pos rfl,e1,e2];exact Kv _ _
theorem lX {p u:Int}{A:LA}{w:Int}(q:Int×Int):DJ (A9 (MK p u A w) q) (A9 A q):=by
 unfold MK;split
 ·exact D3 _
 ·exact U7 _ _ _ _ _
theorem lY {p u:Int}(q:Int×Int):∀(H:List Int) (A:LA),DJ (A9 (H.foldl (MK p u) A) q) (A9 A q)
 |[],A=>D3 _
 |w::H,A=>B4 (lY q H (MK p u A w)) (lX q)
theorem qG {m:Nat}{rs:List Road}{p:Int}{H:List Int}{A0 A:LA}(hp:p∉H)(hH:∀x∈H,0<=x/\x<m)(h:Over m rs p H A0 A){u:Int}(hu:u∈H):Over m rs p H A0 (X5 p H A u)/\∀w∈H,u≠w->DJ (A9 (X5 p H A u) (u,w)) (AZ (A9 A0 (u,p)) (A9 A0 (p,w))):=by
 unfold X5;have:=Gm (L:=H) (pre:=[]) (f:=MK p u) (b:=A) (λ W A=>Over m rs p H A0 A/\∀w∈W,u≠w->DJ (A9 A (u,w)) (AZ (A9 A0 (u,p)) (A9 A0 (p,w)))) ⟨h,λ w hw=>by cases hw⟩ λ w hw W B hB=>by
  obtain⟨b1,b2⟩:=hB;obtain⟨c1,c2⟩:=X6 hp hH b1 hu hw;refine⟨c1,λ x hx au=>?_⟩;rcases zar.mp hx with hx|hx
  ·exact B4 (lX _) (b2 x hx au)
  ·rw[zaj.mp hx] at au ⊢;exact c2 au
 exact this
theorem Zj {m:Nat}{rs:List Road}{p:Int}{H:List Int}{A:LA}(hp:p∉H)(hH:∀x∈H,0<=x/\x<m)(h1:EQ m A)(h2:jZ rs A):Over m rs p H A (eY A p H)/\∀u∈H,∀w∈H,u≠w->DJ (A9 (eY A p H) (u,w)) (AZ (A9 A (u,p)) (A9 A (p,w))):=by
 unfold eY;have:=Gm (L:=H) (pre:=[]) (f:=X5 p H) (b:=A) (λ U B=>Over m rs p H A B/\∀u∈U,∀w∈H,u≠w->DJ (A9 B (u,w)) (AZ (A9 A (u,p)) (A9 A (p,w)))) ⟨⟨h1,h2,λ q=>D3 _,λ x y _=>rfl⟩,λ u hu=>by cases hu⟩ λ u hu U B hB=>by
  obtain⟨b1,b2⟩:=hB;obtain⟨c1,c2⟩:=qG hp hH b1 hu;refine⟨c1,λ x hx w hw au=>?_⟩;rcases zar.mp hx with hx|hx
  ·exact B4 (lY _ H B) (b2 x hx w hw au)
  ·rw[zaj.mp hx] at au ⊢;exact c2 w hw au
 exact this
theorem QL {m:Nat}{rs:List Road}(AE:∀r∈rs,L0 m r/\r.a≠r.b):EQ m (lay0 rs)/\jZ rs (lay0 rs)/\∀r∈rs,DJ (A9 (lay0 rs) (r.a,r.b)) (Cu r):=by
 unfold lay0;have:=Gm (L:=rs) (pre:=[]) (f:=λ A r=>layA A (r.a,r.b) (Cu r) none) (b:=[]) (λ W A=>EQ m A/\jZ rs A/\∀r∈W,DJ (A9 A (r.a,r.b)) (Cu r)) ⟨⟨by simp,λ p hp=>by cases hp⟩,⟨(λ _ _ _ h=>by cases h),λ r hr=>by cases hr⟩⟩ λ r hr W B hB=>by
  obtain⟨b1,b2,b3⟩:=hB;obtain⟨o1,o2⟩:=AE r hr;refine⟨b1.lay ⟨o2,⟨o1.a0,o1.a1⟩,o1.b0,o1.b1⟩,b2.lay λ c hc=>?_,λ x hx=>?_⟩
  ·obtain⟨l,hl,rfl⟩:=Kx hc;exact Wk.one hr hl
  ·rcases zar.mp hx with hx|hx
   ·exact B4 (U7 _ _ _ _ _) (b3 x hx)
   ·rw[zaj.mp hx,HL,if_pos rfl];exact Kv _ _
 exact this
noncomputable def DQ:List Int->Int->Nat
 |[],_=>0
 |a::l,x=>if a=x then 0 else DQ l x+1
theorem Vj:∀ {pre post:List Int}{p:Int},p∉pre->DQ (pre++p::post) p=pre.length
 |[],post,p,_=>by simp[DQ]
 |a::pre,post,p,h=>by
  rw[za9,not_or] at h;rw[zdi,DQ,if_neg (zbp h.1),Vj h.2];rfl
theorem Zk:∀ {pre post:List Int}{x:Int},x∈pre->DQ (pre++post) x<pre.length
 |a::pre,post,x,h=>by
  rw[zdi,DQ];by_cases e:a=x
  ·rw[if_pos e];simp
  ·rw[if_neg e,zad];have:=Zk (post:=post) ((za9.mp h).resolve_left (zbp e));omega
theorem Vk:∀ {pre post:List Int}{x:Int},x∉pre->pre.length<=DQ (pre++post) x
 |[],post,x,_=>zb9 _
 |a::pre,post,x,h=>by
  rw[za9,not_or] at h;rw[zdi,DQ,if_neg (zbp h.1),zad];have:=Vk (post:=post) h.2;omega
theorem Zl:∀ {L:List Int}{x y:Int},x∈L->y∈L->DQ L x=DQ L y->x=y
 |a::l,x,y,hx,hy,e=>by
  rw[DQ,DQ] at e;by_cases h1:a=x
  ·by_cases h2:a=y
   ·rw[<-h1,<-h2]
   ·rw[if_pos h1,if_neg h2] at e;omega
  ·by_cases h2:a=y
   ·rw[if_neg h1,if_pos h2] at e;omega
   ·rw[if_neg h1,if_neg h2] at e;exact Zl ((za9.mp hx).resolve_left (zbp h1)) ((za9.mp hy).resolve_left (zbp h2)) (by omega)
theorem qH {L:List Int}{x:Int}(h:DQ L x<L.length):x∈L:=by
 refine Classical.byContradiction λ hn=>?_;have:=Vk (pre:=L) (post:=[]) hn;rw[zbj] at this;omega
theorem Zm:∀(L:List Int) (x:Int),DQ L x<=L.length
 |[],_=>zal _
 |a::l,x=>by
  rw[DQ,zad];split
  ·omega
  ·have:=Zm l x;omega
theorem Me:∀ {L:List Int}{p:Int},p∈L->∃pre post,L=pre++p::post/\p∉pre
 |a::l,p,h=>by
  by_cases ha:a=p
  ·subst ha;exact⟨[],l,rfl,by simp⟩
  ·obtain⟨pre,post,e2,hn⟩:=Me ((za9.mp h).resolve_left (zbp ha));exact⟨a::pre,post,by rw[zdi,<-e2],by simp[zbp ha,hn]⟩
theorem Zn {L:List Int}{p:Int}(h:DQ L p<L.length):∃pre post,L=pre++p::post/\p∉pre/\∀x,DQ L p<DQ L x->x∈L->x∈post:=by
 obtain⟨pre,post,e,hn⟩:=Me (qH h);refine⟨pre,post,e,hn,λ x hr hx=>?_⟩;subst e;rw[Vj hn] at hr;rcases zar.mp hx with hx|hx
 ·have:=Zk (post:=p::post) hx;omega
 ·rcases za9.mp hx with rfl|hx
  ·rw[Vj hn] at hr;omega
  ·exact hx
theorem qI {m:Nat}{rs:List Road}{L:List Int}(hL:L.Nodup)(hr:∀x∈L,0<=x/\x<m):∀(post pre:List Int) (A:LA),L=pre++post->EQ m A->jZ rs A->(∀r∈rs,DJ (A9 A (r.a,r.b)) (Cu r))->
 (∀pa p pb,L=pa++p::pb->pa.length<pre.length->∀x∈pb,∀y∈pb,x≠y->DJ (A9 A (x,y)) (AZ (A9 A (x,p)) (A9 A (p,y))))->
 EQ m (Om A post)/\jZ rs (Om A post)/\(∀r∈rs,DJ (A9 (Om A post) (r.a,r.b)) (Cu r))/\∀pa p pb,L=pa++p::pb->∀x∈pb,∀y∈pb,x≠y->DJ (A9 (Om A post) (x,y)) (AZ (A9 (Om A post) (x,p)) (A9 (Om A post) (p,y))):=by
 intro post;induction post with
 |nil =>
  intro pre A e h1 h2 h3 h4;rw[zbj] at e;refine⟨h1,h2,h3,λ pa p pb e2=>h4 pa p pb e2 ?_⟩;rw[<-e,e2,zah,zad];omega
 |cons p post ih =>
  intro pre A e h1 h2 h3 h4;rw[Om];have hn:(pre++p::post).Nodup:=e▸hL;rw[zb2,zbi] at hn;have dC:∀x∈post,0<=x/\x<m:=λ x hx=>hr x (by rw[e];simp[hx]);obtain⟨o,ov⟩:=Zj (p:=p) hn.2.1.1 dC h1 h2;refine ih (pre++[p]) (eY A p post) (by rw[e];simp) o.ok o.sd (λ r h8=>B4 (o.le _) (h3 r h8)) λ pa q pb e2 be x hx y hy au=>?_;rw[zah,zc9] at be;by_cases hq:pa.length<pre.length
  ·-- an oa one
   have w4:q∉post:=λ fj=>by
    have e3:pre++p::post=pa++q::pb:=by rw[<-e,e2]
    have q1:q∈pre:=by
     have:=congrArg (λ l=>l[pa.length]?) e3;rw[zc8 hq,zde (zal _),Nat.sub_self] at this;exact zag this
    exact hn.2.2 q q1 q (za4 _ fj) rfl
   rw[o.sm x q (.inr w4),o.sm q y (.inl w4)];exact B4 (o.le _) (h4 pa q pb e2 hq x hx y hy au)
  ·have bU:pa.length=pre.length:=by omega
   have e3:pa++q::pb=pre++p::post:=by rw[<-e2,e]
   obtain⟨rfl,e4⟩:=List.append_inj e3 bU;cases e4;rw[o.sm x p (.inr hn.2.1.1),o.sm p y (.inl hn.2.1.1)];exact ov x hx y hy au
theorem NW {m:Nat}{rs:List Road}{L:List Int}(hL:L.Perm (An m))(AE:∀r∈rs,L0 m r/\r.a≠r.b):EQ m (Bp rs L)/\zB m rs (DQ L) (λ x y=>A9 (Bp rs L) (x,y)):=by
 have l5:L.Nodup:=NV hL;obtain⟨a1,a2,a3⟩:=QL AE;obtain⟨b1,b2,b3,b4⟩:=qI l5 (λ x hx=>(D4 hL).mp hx) L [] (lay0 rs) rfl a1 a2 a3 (λ pa p pb _ h=>by simp at h);refine⟨b1,λ x y c h=>?_,b3,λ p x y au h1 h2=>?_,λ x y x0 x1 y0 y1 e=>Zl ((D4 hL).mpr ⟨x0,x1⟩) ((D4 hL).mpr ⟨y0,y1⟩) e,λ x y c h=>Wk.nn (λ r hr=>(AE r hr).1) h⟩
 ·have hm:(x,y)∈(Om (lay0 rs) L).map zbg:=by
   rw[<-IV];unfold A9 at h;cases q:Bv (Bp rs L) (x,y) with
   |none=>rw[q] at h;cases h
   |some z=>unfold Bp at q;rw[q];rfl
  have:=b1.rg _ hm;exact⟨b2 _ _ _ h,this.1,this.2.1,this.2.2⟩
 ·have cP:∀ {x y:Int} {c:Int×Int},A9 (Bp rs L) (x,y)=some c->x∈L/\y∈L:=fun {x y c} h=>by
   have hm:(x,y)∈(Om (lay0 rs) L).map zbg:=by
    rw[<-IV];unfold A9 at h;cases q:Bv (Bp rs L) (x,y) with
    |none=>rw[q] at h;cases h
    |some z=>unfold Bp at q;rw[q];rfl
   have:=b1.rg _ hm;exact⟨(D4 hL).mpr this.2.1,(D4 hL).mpr this.2.2⟩
  have bU:DQ L p<L.length:=zaq h1 (Zm L x);obtain⟨pre,post,e,hn,h9⟩:=Zn bU;cases q1:A9 (Bp rs L) (x,p) with
  |none=>cases A9 (Bp rs L) (x,y)<;>exact trivial
  |some c1 =>
   cases q2:A9 (Bp rs L) (p,y) with
   |none=>cases A9 (Bp rs L) (x,y)<;>exact trivial
   |some c2 =>
    have r:=b4 pre p post e x (h9 x h1 (cP q1).1) y (h9 y h2 (cP q2).2) au;rw[<-q1,<-q2];exact r
noncomputable abbrev CA:=List ((Int×Int)×(Int×Int))
noncomputable def zC (C:CA):D:=.Bl true (C.map λ kv=>pD kv.1) (C.map λ kv=>cst (some kv.2))
noncomputable def zD (C:CA):OT:=.Bl true (C.map λ kv=>pD kv.1) ((C.map λ kv=>cst (some kv.2)).map .sh)
noncomputable abbrev RA:=List (Int×(Int×Int))
noncomputable def zE (R:RA):D:=.Bl false (R.map λ kv=>D.int kv.1) (R.map λ kv=>cst (some kv.2))
noncomputable def yG (R:RA):OT:=.Bl false (R.map λ kv=>D.int kv.1) ((R.map λ kv=>cst (some kv.2)).map .sh)
theorem LI (A:LA):er (JV A)=HK A:=GD
theorem LJ (C:CA):er (zD C)=zC C:=GD
theorem LK (R:RA):er (yG R)=zE R:=GD
theorem NX (A:LA)(p:Int×Int)(neg:Bool):OB neg (pD p) (HK A)=.ok (.bl (if neg=true then !(Bv A p).isSome else (Bv A p).isSome)):=by
 unfold HK OB;dsimp only;rw[if_pos (S6 p),Sg LD]
theorem LL {A:LA}{p:Int×Int}{v:(Int×Int)×Option Int}(h:Bv A p=some v):Bi (HK A) (pD p)=.ok (Sh v):=by
 unfold HK Bi;dsimp only;rw[if_pos (S6 p),Zf LD,h];rfl
theorem Zo (A:LA)(p:Int×Int)(v:(Int×Int)×Option Int):putD (A.map λ kv=>pD kv.1) (A.map λ kv=>Sh kv.2) (pD p) (Sh v)=((GI A p v).map (λ kv=>pD kv.1),(GI A p v).map λ kv=>Sh kv.2):=Zh LD A p v
noncomputable def Ao (m:Nat)(rs:List Road)(L:List Int)(A:LA)(K:List (Int×Int)):D:=.ins "Ladder" ["own_map","own_order","laid","kept_ones"] [Ae m rs,.lst (L.map D.int),HK A,.lst (K.map pD)]
structure ER (m:Nat)(rs:List Road)(L:List Int)(A:LA)(K:List (Int×Int)):Prop where
 m1:1<=m
 m2:m<=16
 rl:rs.length<=60
 ok:∀r∈rs,L0 m r/\r.a≠r.b
 pm:L.Perm (An m)
 la:A=Bp rs L
 kn:K.Nodup
 km:∀p,p∈K↔∃c,A9 A p=some c/\PX rs p.1 p.2 (some c)
theorem ER.uR {m:Nat}{rs:List Road}{L:List Int}{A:LA}{K:List (Int×Int)}(h:ER m rs L A K):EQ m A:=by
 rw[h.la];exact (NW h.pm h.ok).1
theorem ES {A:LA}{p:Int×Int}{c:Int×Int}(h:A9 A p=some c):p∈A.map zbg:=by
 rw[<-IV];unfold A9 at h;cases q:Bv A p with
 |none=>rw[q] at h;cases h
 |some z=>rfl
theorem xK (p q:Int×Int):Z4 (cst (some p)) (cst (some q))=.ok (.bl (decide (p.1<q.1\/(p.1=q.1/\p.2<q.2)))):=by
 rw[<-Ft];rfl
theorem U8 {m:M Out}{t r:OT}(h:WP m (λ ρ=>Fq ρ=some t/\OT.sh .AK=r) (λ o=>match o with | .EK r' ρ=>Fq ρ=some t/\r'=r | _=>False) (λ _=>False)):Fs m=.ok (t,r):=by
 cases m with
 |bad|ex x=>exact h.elim
 |ok o =>
  cases o with
  |next ρ=>obtain⟨h1,h2⟩:=(show Fq ρ=some t/\OT.sh .AK=r from h);unfold Fs;dsimp only;rw[h1,<-h2]
  |EK r' ρ=>obtain⟨h1,h2⟩:=(show Fq ρ=some t/\r'=r from h);unfold Fs;dsimp only;rw[h1,<-h2]
  |ret d|Cm d|brk d|cont d=>exact h.elim
theorem LM {F:OT->List D->M (OT×OT)}{ρ:Aa}{p:Option Nat}{t t2 r:OT}{bT:List D}{i:Nat}(h:ρ[i]?=some (some (.ow (.tree p t))))(hN:YM t=true)(hF:F t bT=.ok (t2,r)):RT i F ρ [] bT=.ok (ρ.set i (some (toCl p t2)),r):=by
 rw[YN h rfl rfl hN hF,CZ]
theorem CT {A:LA}{p:Option Nat}{ρ:Aa}:Hg 0 (some (.ow (.tree p (JV A)))::ρ) []=.ok (true,A.map (λ kv=>pD kv.1),A.map λ kv=>Sh kv.2):=Ca
theorem EE {R:RA}{p:Option Nat}{ρ:Aa}:Hg 0 (some (.ow (.tree p (yG R)))::ρ) []=.ok (false,R.map (λ kv=>D.int kv.1),R.map λ kv=>cst (some kv.2)):=Ca
theorem EQ.ov {m:Nat}{A:LA}(h:EQ m A){p u w:Int}(hu:0<=u/\u<m)(hw:0<=w/\w<m):EQ m (MK p u A w):=by
 unfold MK;split
 ·exact h
 ·rename_i e;exact h.lay ⟨e,hu,hw⟩
theorem EQ.ou {m:Nat}{p u:Int}(hu:0<=u/\u<m):∀ {H:List Int}{A:LA},EQ m A->(∀x∈H,0<=x/\x<m)->EQ m (H.foldl (MK p u) A)
 |[],A,h,_=>h
 |w::H,A,h,hH=>by
  have r:=EQ.ou (A:=MK p u A w) (H:=H) (p:=p) hu (h.ov hu (hH w za3)) λ x hx=>hH x (za4 _ hx);exact r
theorem ET {α β:Type}{f:β->α->β}{l:List α}{i:Nat}{x:α}{b:β}(h:l[i]?=some x):(l.take (i+1)).foldl f b=f ((l.take i).foldl f b) x:=by
 rw[zd0,h,Option.toList_some,List.foldl_append];rfl
theorem EQ.lo {m:Nat}{p:Int}{H0:List Int}(h0:∀x∈H0,0<=x/\x<m):∀ {H:List Int}{A:LA},EQ m A->(∀x∈H,0<=x/\x<m)->EQ m (H.foldl (X5 p H0) A)
 |[],A,h,_=>h
 |w::H,A,h,hH=>by
  have r:=EQ.lo (p:=p) (A:=X5 p H0 A w) (H:=H) h0 (EQ.ou (hH w za3) h h0) λ x hx=>hH x (za4 _ hx);exact r
theorem IW (c:Co):Wi (.ok (.sh (cst c)))=.ok (.sh (cst c)):=by
 cases c<;>rfl
def xM (a b:List Co×Bool):Prop:=b.2=true/\(a.2=false\/(a.2=true/\Ol ltN a.1 b.1))
theorem qJ (x:List Co):Acc xM (x,false):=.intro _ λ y h=>by cases h.1
theorem qK (x:List Co):Acc xM (x,true):=by
 have:=WM x;induction this with
 |intro x _ ih =>
  refine .intro _ λ y h=>?_;obtain⟨y,b⟩:=y;rcases h.2 with e|⟨e,h2⟩
  ·dsimp only at e;subst e;exact qJ y
  ·dsimp only at e;subst e;exact ih y h2
theorem U9 (n:Nat):C7 0 n=(An n).map D.int:=by rw[EL,NT]
theorem Hn.yH {m:Nat}{r:Road}(h:Hn m r):L0 m r/\r.a≠r.b:=⟨⟨h.a0,h.a1,h.b0,h.b1,λ l hl=>(h.l0 l hl).1⟩,h.ab⟩
def KP (rs:List Road)(A:LA)(p:Int×Int):Prop:=∃c,A9 A p=some c/\PX rs p.1 p.2 (some c)
noncomputable def uS (A:LA)(cs:List Co)(u w:Int):Bool:=match A9 A (u,w) with
 |none=>false
 |some c=>decide (some c=atC cs w)
theorem Zp {m s:Nat}{rs:List Road}{cs:List Co}{A:LA}(hR:Right m s rs cs)(AE:∀r∈rs,L0 m r){w:Int}(h0:0<=w)(h1:w<m):uS A cs s w=true↔KP rs A (s,w):=by
 have hm:=hR.uP AE h0 h1;unfold uS KP;cases q:A9 A ((s:Int),w) with
 |none=>simp
 |some c =>
  dsimp only;constructor
  ·intro h;have e:=of_decide_eq_true h;exact⟨c,rfl,e▸hm⟩
  ·rintro ⟨c',e,h⟩;cases e;exact decide_eq_true (h.Cf hm)
theorem qL {m:Nat}{rs:List Road}{A:LA}{K:List (Int×Int)}(hA:EQ m A)(hm:m<=20)(hn:K.Nodup)(hK:∀p∈K,KP rs A p):K.length<1000:=by
 have hr:∀p∈K,p.1≠p.2/\(0<=p.1/\p.1<m)/\0<=p.2/\p.2<m:=λ p hp=>by
  obtain⟨c,hc,_⟩:=hK p hp;exact hA.rg p (ES hc)
 exact CI.len (m:=m) ⟨hn,λ x hx=>(hr _ hx).1 rfl,λ q hq=>⟨(hr q hq).2.1,(hr q hq).2.2⟩⟩ hm
theorem LN:∀ds:List D,(∀d∈ds,Lq d=true)->Hf (ds.map .sh)=true
 |[],_=>rfl
 |d::ds,h=>by
  rw[za8,Hf,Jc,h d za3,LN ds λ x hx=>h x (za4 _ hx)];rfl
theorem Si {ds:List D}(h:∀d∈ds,Lq d=true):Wi (.ok (.lst (ds.map .sh)))=.ok (.lst (ds.map .sh)):=by
 unfold Wi;simp only[M.A8];rw[Jc,LN ds h];rfl
theorem Zq (L:List Int):Wi (.ok (.lst ((L.map D.int).map .sh)))=.ok (.lst ((L.map D.int).map .sh)):=Si λ d hd=>by
 obtain⟨x,_,rfl⟩:=zay.mp hd;rfl
theorem kA (K:List (Int×Int)):Wi (.ok (.lst ((K.map pD).map .sh)))=.ok (.lst ((K.map pD).map .sh)):=Si λ d hd=>by
 obtain⟨x,_,rfl⟩:=zay.mp hd;exact Z8 x
theorem qM (v:(Int×Int)×Option Int):Lq (Sh v)=true:=by
 obtain⟨c,l⟩:=v;cases l<;>rfl
theorem kB (A:LA):Wi (.ok (JV A))=.ok (JV A):=by
 unfold Wi JV;simp only[M.A8];rw[Jc,LN _ λ d hd=>by
  obtain⟨x,_,rfl⟩:=zay.mp hd;exact qM x.2]
 rfl
theorem qN {L:List Int}(hn:L.Nodup){i:Nat}{x:Int}(h:L[i]?=some x):DQ L x=i:=by
 have be:=(zan.mp h).1;have e:L=L.take i++x::L.drop (i+1):=by
  have h2:L.drop i=x::L.drop (i+1):=by
   rw[List.drop_eq_getElem_cons be];rw[zaf be] at h;rw[zax h]
  rw[<-h2,List.take_append_drop]
 have hx:x∉L.take i:=λ hm=>by
  rw[e,zb2] at hn;exact hn.2.2 x hm x za3 rfl
 rw[e,Vj hx,zcd];omega
noncomputable abbrev Ar:=Option ((Int×Int)×Option Int)
noncomputable def JE (v:Ar)(c:Co)(mid:Option Int):Ar:=match c with
 |none=>v
 |some c=>(match v with
  |none=>some (c,mid)
  |some z=>if c.1<z.1.1\/(c.1=z.1.1/\c.2<z.1.2) then some (c,mid) else v)
theorem Vl (A:LA)(p q:Int×Int)(c:Co)(mid:Option Int):Bv (layA A p c mid) q=if q=p then JE (Bv A p) c mid else Bv A q:=by
 unfold layA JE;cases c with
 |none =>
  dsimp only;by_cases h:q=p
  ·rw[if_pos h,h]
  ·rw[if_neg h]
 |some c =>
  cases e:Bv A p with
  |none=>dsimp only;rw[MJ]
  |some z =>
   dsimp only;by_cases hc:c.1<z.1.1\/(c.1=z.1.1/\c.2<z.1.2)
   ·rw[if_pos hc,if_pos hc,MJ]
   ·rw[if_neg hc,if_neg hc];by_cases h:q=p
    ·rw[if_pos h,h,e]
    ·rw[if_neg h]
theorem Ua (p u w:Int)(A:LA)(x y:Int):Bv (MK p u A w) (x,y)=if x=u/\y=w/\x≠y then JE (Bv A (x,y)) (AZ (A9 A (x,p)) (A9 A (p,y))) (some p) else Bv A (x,y):=by
 unfold MK;by_cases e:u=w
 ·rw[if_pos e,if_neg (λ h=>h.2.2 (h.1.trans (e.trans h.2.1.symm)))]
 ·rw[if_neg e,Vl];by_cases h:(x,y)=(u,w)
  ·cases h;rw[if_pos rfl,if_pos ⟨rfl,rfl,e⟩]
  ·rw[if_neg h,if_neg (λ z=>h (by rw[z.1,z.2.1]))]
theorem Zr {p u:Int}(hu:u≠p)(x y:Int):∀ {H:List Int}{A:LA},H.Nodup->p∉H->Bv (H.foldl (MK p u) A) (x,y)=if x=u/\y∈H/\x≠y then JE (Bv A (x,y)) (AZ (A9 A (x,p)) (A9 A (p,y))) (some p) else Bv A (x,y)
 |[],A,_,_=>by rw[List.foldl_nil,if_neg (λ h=>by cases h.2.1)]
 |w::H,A,hn,hp=>by
  rw[zbi] at hn;have ze:p≠w:=λ e=>hp (by rw[e];exact za3);have zf:p∉H:=λ e=>hp (za4 _ e);have c1:A9 (MK p u A w) (x,p)=A9 A (x,p):=by unfold A9;rw[Ua,if_neg (λ h=>ze h.2.1)]
  have c2:A9 (MK p u A w) (p,y)=A9 A (p,y):=by unfold A9;rw[Ua,if_neg (λ h=>hu h.1.symm)]
  rw[zbd,Zr hu x y hn.2 zf,c1,c2,Ua];by_cases h1:x=u
  ·by_cases h2:x=y
   ·rw[if_neg (λ h=>h.2.2 h2),if_neg (λ h=>h.2.2 h2),if_neg (λ h=>h.2.2 h2)]
   ·by_cases h3:y=w
    ·have h4:y∉H:=by rw[h3];exact hn.1
     rw[if_neg (λ h=>h4 h.2.1),if_pos ⟨h1,h3,h2⟩,if_pos ⟨h1,by rw[h3];exact za3,h2⟩]
    ·by_cases h4:y∈H
     ·rw[if_pos ⟨h1,h4,h2⟩,if_neg (λ h=>h3 h.2.1),if_pos ⟨h1,za4 _ h4,h2⟩]
     ·rw[if_neg (λ h=>h4 h.2.1),if_neg (λ h=>h3 h.2.1),if_neg (λ h=>by rcases za9.mp h.2.1 with z|z;exact h3 z;exact h4 z)]
  ·rw[if_neg (λ h=>h1 h.1),if_neg (λ h=>h1 h.1),if_neg (λ h=>h1 h.1)]
theorem Sj {p:Int}{H:List Int}(hn:H.Nodup)(hp:p∉H)(x y:Int):∀ {U:List Int}{A:LA},U.Nodup->p∉U->Bv (U.foldl (X5 p H) A) (x,y)=if x∈U/\y∈H/\x≠y then JE (Bv A (x,y)) (AZ (A9 A (x,p)) (A9 A (p,y))) (some p) else Bv A (x,y)
 |[],A,_,_=>by rw[List.foldl_nil,if_neg (λ h=>by cases h.1)]
 |u::U,A,hU,w5=>by
  rw[zbi] at hU;have w6:u≠p:=λ e=>w5 (by rw[e];exact za3);have zg:p∉U:=λ e=>w5 (za4 _ e);have at':∀x y,Bv (X5 p H A u) (x,y)=if x=u/\y∈H/\x≠y then JE (Bv A (x,y)) (AZ (A9 A (x,p)) (A9 A (p,y))) (some p) else Bv A (x,y):=λ x y=>Zr w6 x y hn hp
  have c1:A9 (X5 p H A u) (x,p)=A9 A (x,p):=by unfold A9;rw[at',if_neg (λ h=>hp h.2.1)]
  have c2:A9 (X5 p H A u) (p,y)=A9 A (p,y):=by unfold A9;rw[at',if_neg (λ h=>w6 h.1.symm)]
  rw[zbd,Sj hn hp x y hU.2 zg,c1,c2,at'];by_cases h2:y∈H/\x≠y
  ·by_cases h1:x=u
   ·have h3:x∉U:=by rw[h1];exact hU.1
    rw[if_neg (λ h=>h3 h.1),if_pos ⟨h1,h2⟩,if_pos ⟨by rw[h1];exact za3,h2⟩]
   ·by_cases h3:x∈U
    ·rw[if_pos ⟨h3,h2⟩,if_neg (λ h=>h1 h.1),if_pos ⟨za4 _ h3,h2⟩]
    ·rw[if_neg (λ h=>h3 h.1),if_neg (λ h=>h1 h.1),if_neg (λ h=>by rcases za9.mp h.1 with z|z;exact h1 z;exact h3 z)]
  ·rw[if_neg (λ h=>h2 h.2),if_neg (λ h=>h2 h.2),if_neg (λ h=>h2 h.2)]
theorem LO {p:Int}{H:List Int}(hn:H.Nodup)(hp:p∉H)(A:LA)(x y:Int):Bv (eY A p H) (x,y)=if x∈H/\y∈H/\x≠y then JE (Bv A (x,y)) (AZ (A9 A (x,p)) (A9 A (p,y))) (some p) else Bv A (x,y):=Sj hn hp x y hn hp
noncomputable def kC (A:LA)(x y:Int)(W:List Int)(v:Ar):Ar:=W.foldl (λ v p=>JE v (AZ (A9 A (x,p)) (A9 A (p,y))) (some p)) v
theorem NY {x y:Int}:∀ {L:List Int}{A:LA},L.Nodup->(x∉L\/y∉L)->Bv (Om A L) (x,y)=Bv A (x,y)
 |[],A,_,_=>rfl
 |p::r,A,hn,h=>by
  rw[zbi] at hn;have h':x∉r\/y∉r:=h.imp (λ z w=>z (za4 _ w)) λ z w=>z (za4 _ w);rw[Om,NY hn.2 h',LO hn.2 hn.1,if_neg (λ z=>h'.elim (λ w=>w z.1) λ w=>w z.2.1)]
theorem Vm {x y:Int}(au:x≠y):∀ {L:List Int}{A:LA},L.Nodup->x∈L->y∈L->Bv (Om A L) (x,y)=kC (Om A L) x y (L.take (min (DQ L x) (DQ L y))) (Bv A (x,y))
 |[],A,_,h,_=>by cases h
 |p::r,A,hn,hx,hy=>by
  rw[zbi] at hn;have w9:∀z,z≠p->DQ (p::r) z=DQ r z+1:=λ z hz=>by show (if p=z then 0 else DQ r z+1)=_;rw[if_neg (zbp hz)]
  have wE:DQ (p::r) p=0:=by show (if p=p then 0 else DQ r p+1)=_;rw[if_pos rfl]
  rw[Om];by_cases h1:x=p
  ·rw[NY hn.2 (.inl (by rw[h1];exact hn.1)),LO hn.2 hn.1,if_neg (λ z=>hn.1 (by rw[<-h1];exact z.1)),h1,wE,Nat.zero_min];rfl
  by_cases h2:y=p
  ·rw[NY hn.2 (.inr (by rw[h2];exact hn.1)),LO hn.2 hn.1,if_neg (λ z=>hn.1 (by rw[<-h2];exact z.2.1)),h2,wE,Nat.min_zero];rfl
  have wP:x∈r:=(za9.mp hx).resolve_left h1;have ik:y∈r:=(za9.mp hy).resolve_left h2;have e1:A9 (Om (eY A p r) r) (x,p)=A9 A (x,p):=by unfold A9;rw[NY hn.2 (.inr hn.1),LO hn.2 hn.1,if_neg (λ z=>hn.1 z.2.1)]
  have e2:A9 (Om (eY A p r) r) (p,y)=A9 A (p,y):=by unfold A9;rw[NY hn.2 (.inl hn.1),LO hn.2 hn.1,if_neg (λ z=>hn.1 z.1)]
  have et:(p::r).take (min (DQ (p::r) x) (DQ (p::r) y))=p::r.take (min (DQ r x) (DQ r y)):=by
   rw[w9 x h1,w9 y h2,Nat.add_min_add_right,List.take_succ_cons]
  rw[et,Vm au hn.2 wP ik,LO hn.2 hn.1,if_pos ⟨wP,ik,au⟩];unfold kC;rw[zbd,e1,e2]
theorem X7 {rs:List Road}{L:List Int}{x y:Int}(hn:L.Nodup)(hx:x∈L)(hy:y∈L)(au:x≠y):Bv (Bp rs L) (x,y)=kC (Bp rs L) x y (L.take (min (DQ L x) (DQ L y))) (Bv (lay0 rs) (x,y)):=Vm au hn hx hy
theorem Vn (rs:List Road):∀x y c mid,Bv (lay0 rs) (x,y)=some (c,mid)->mid=none/\∃r∈rs,r.a=x/\r.b=y/\Cu r=some c:=by
 unfold lay0;have:=Gm (L:=rs) (pre:=[]) (f:=λ A r=>layA A (r.a,r.b) (Cu r) none) (b:=[]) (λ _ A=>∀x y c mid,Bv A (x,y)=some (c,mid)->mid=none/\∃r∈rs,r.a=x/\r.b=y/\Cu r=some c) (λ _ _ _ _ h=>by cases h) λ r hr W B hB x y c mid h=>by
  rw[Vl] at h;by_cases e:(x,y)=(r.a,r.b)
  ·cases e;rw[if_pos rfl] at h;unfold JE at h;cases q:Cu r with
   |none=>rw[q] at h;exact hB _ _ _ _ h
   |some d =>
    rw[q] at h;dsimp only at h;split at h
    ·cases h;exact⟨rfl,r,hr,rfl,rfl,q⟩
    ·rename_i z hz;split at h
     ·cases h;exact⟨rfl,r,hr,rfl,rfl,q⟩
     ·exact hB _ _ _ _ h
  ·rw[if_neg e] at h;exact hB _ _ _ _ h
 exact this
noncomputable def Zs (v:Ar):Co:=v.map zbg
theorem kD (v:Ar)(c:Co)(mid:Option Int):Zs (JE v c mid)=IR (Zs v) c:=by
 unfold JE Zs;cases c with
 |none=>cases v<;>rfl
 |some c =>
  cases v with
  |none=>rfl
  |some z =>
   dsimp only;simp only[zc0,IR,pW];by_cases hc:c.1<z.1.1\/(c.1=z.1.1/\c.2<z.1.2)
   ·rw[if_pos hc,if_neg (by omega)];rfl
   ·rw[if_neg hc,if_pos (by omega)];rfl
structure Fd (cd:Int->Co)(v0:Ar)(W:List Int)(v:Ar):Prop where
 yI:DJ (Zs v) (Zs v0)
 yJ:∀p∈W,DJ (Zs v) (cd p)
 AK:∀c,v=some (c,none)->v0=some (c,none)
 mid:∀c p,v=some (c,some p)->(∃W1 W2,W=W1++p::W2/\cd p=some c/\∀q∈W1,cd q≠some c)/\Zs v0≠some c
theorem qO {cd:Int->Co}{v0:Ar}(h0:∀c p,v0≠some (c,some p))(W:List Int):Fd cd v0 W (W.foldl (λ v p=>JE v (cd p) (some p)) v0):=by
 have:=Gm (L:=W) (pre:=[]) (f:=λ v p=>JE v (cd p) (some p)) (b:=v0) (λ W v=>Fd cd v0 W v) ⟨D3 _,(λ p hp=>by cases hp),λ c h=>h,λ c p h=>absurd h (h0 c p)⟩ λ p hp W v hv=>by
  have me:=kD v (cd p) (some p);refine⟨?_,λ q hq=>?_,λ c h=>?_,λ c q h=>?_⟩
  ·rw[me];exact B4 (IS _ _) hv.yI
  ·rw[me];rcases zar.mp hq with hq|hq
   ·exact B4 (IS _ _) (hv.yJ q hq)
   ·rw[zaj.mp hq];exact Kv _ _
  ·unfold JE at h;split at h
   ·exact hv.AK c h
   ·split at h
    ·cases h
    ·rename_i z;split at h
     ·cases h
     ·exact hv.AK c h
  ·have keep:v=some (c,some q)->(∃W1 W2,W++[p]=W1++q::W2/\cd q=some c/\∀q∈W1,cd q≠some c)/\Zs v0≠some c:=λ h=>by
    obtain⟨⟨W1,W2,e1,e2,e3⟩,e4⟩:=hv.mid c q h;exact⟨⟨W1,W2++[p],by rw[e1];simp,e2,e3⟩,e4⟩
   have new:∀d:Int×Int,cd p=some d->(∀z,Zs v=some z->d.1<z.1\/(d.1=z.1/\d.2<z.2))->(∃W1 W2,W++[p]=W1++p::W2/\cd p=some d/\∀q∈W1,cd q≠some d)/\Zs v0≠some d:=λ d hd be=>by
    have no:∀o:Co,DJ (Zs v) o->o≠some d:=λ o ho e=>by
     subst e;obtain⟨z,hz,hle⟩:=qE ho;have:=be z hz;simp only[yF] at hle;omega
    exact⟨⟨W,[],rfl,hd,λ q hq=>no _ (hv.yJ q hq)⟩,no _ hv.yI⟩
   unfold JE at h;split at h
   ·exact keep h
   ·rename_i c' hd;split at h
    ·cases h;exact new _ hd λ z hz=>by cases hz
    ·rename_i z;split at h
     ·rename_i hc;cases h;exact new _ hd λ z' hz=>by cases hz;exact hc
     ·exact keep h
 exact this
section
variable {m:Nat}{rs:List Road}{L:List Int}
theorem Sk {L:List Int}(hn:L.Nodup){k:Nat}{x:Int}(h:x∈L.take k):x∈L/\DQ L x<k:=by
 obtain⟨i,hi⟩:=List.mem_iff_getElem?.mp h;rw[List.getElem?_take] at hi;split at hi
 ·rename_i hk;exact⟨zag hi,by rw[qN hn hi];exact hk⟩
 ·cases hi
end
theorem X8 {α:Type}{a b c d e f g h:D}{x y:α}:(if [a,b,c,d,e,f,g,h].length<=1000 then x else y)=x:=if_pos (by simp)
theorem Q6 (r:Road):dp (.ok (Cq r))=.ok (Cq r):=by
 obtain⟨a,b,l,w⟩:=r;cases l<;>rfl
theorem LP (i:Int):dp (.ok (.int i))=.ok (.int i):=rfl
theorem kE (m:Nat)(rs:List Road):er (.tup [.sh (.int m),.lst ((rs.map Cq).map .sh)])=Ae m rs:=by
 rw[er,Rz,Ks,Rz,HF,Rz];rfl
structure KC (h:Heap)(d:Addr)(es:Array DictEntry)(ep:Nat):Prop where
 at':∃o,h.get? d=some o/\o.ExactDict/\o.data=.dict es ep
section
variable {prog:Program}{w:World}{A:Around}{E:Value->Shared->Prop}{s:Shared}{d it:Addr}{es:Array DictEntry}{ep i:Nat}
theorem KC.ty (x:KC s.heap d es ep):s.TypeIs (.ref d) "dict" := let ⟨o,h,c,_⟩:=x.at';⟨o,h,c.1⟩
theorem kF {Q:Value->Shared->Prop}(hs:(d==sysModules)=false)(x:KC s.heap d es ep)
 (q:Q (.ref s.heap.objs.size) {s with heap:=s.heap.push {cls:=.type "dict_keyiterator",data:=.fields #[.ref d,.int 0 0,.int es.size 0,.int ep 0]} }):wpAny (model prog w) A (pyIter (.ref d)) Q E s:=by
 have t:=x.ty;obtain⟨o,h1,h2,h3⟩:=x.at';apply wpAny_pyIter_slot t F.slot_dict_iter;apply wpAny_call_entry F.slot_dict_iter t F.entry_dict_iter _ (F.args_dict_iter_1 _);rw[Builtin.«dict.__iter__»];apply wpAny_bind;rw[Builtin.Dict.dictSlotNone];apply wpAny_bind;apply wpAny_notOrdered_dict t;refine wpAny_pure (a:=zbe d) ?_;refine wpAny_bind (m:=Builtin.Dict.showsAll d) ?_;rw[Builtin.Dict.showsAll,hs];refine wpAny_pure ?_;apply wpAny_bind;apply wpAny_dictEntries h1 h3;apply wpAny_bind;apply wpAny_dictEpoch h1 h3;apply wpAny_bind;refine wpAny_newObj_type (wpAny_pure ⟨_,rfl,"dict_keyiterator",_,⟨_,zau _ rfl,rfl⟩,F.slot_dict_keyiterator_next.lookup,?_⟩);simpa [rawInt] using q
theorem Sl {Q:Option Value->Shared->Prop}(hh:A.handled=none)(hit:s.heap.IsKeyIter it d i es.size ep)(x:KC s.heap d es ep)
 (go:∀(hi:i<es.size) (h':Heap),h'.IsKeyIter it d (i+1) es.size ep->zd4 it s.heap h'->Q (some es[i].key) {s with heap:=h' })
 (no:es.size<=i->∀h',Heap.ExtBut it s.heap h'->Q none {s with heap:=h' }):wpAny (model prog w) A (pyNext (.ref it)) Q E s:=by
 obtain⟨io,g1,g2,g3⟩:=id hit;obtain⟨o,h1,h2,h3⟩:=x.at';have t:=hit.typeIs;rw[pyNext];apply wpAny_bind;apply wpAny_attempt;apply wpAny_callSpecial?_slot (name:=Str.ofString "__next__") t F.slot_dict_keyiterator_next;apply wpAny_call_entry F.slot_dict_keyiterator_next t F.entry_dict_keyiterator_next _ (F.args_dict_keyiterator_next_1 _);apply wpAny_bind;refine wpAny_pure ?_;apply wpAny_bind;apply wpAny_bind;apply wpAny_bind;apply wpAny_typeNameOfWhole_keyiter t;refine wpAny_pure ?_;apply wpAny_bind;apply wpAny_fieldsOf g1 g3;rw[show Builtin.Dict_items.ownsTuple "dict_keyiterator" = false from by decide];show wpAny _ _ (ite ((zbe d==zco)=true) _ _) _ _ s;have nn:¬ (zbe d==zco)=true:=nofun;rw[if_neg nn];apply wpAny_bind;refine wpAny_pure (a:=d) ?_;apply wpAny_bind;apply wpAny_dictEntries h1 h3;rw[if_neg (by simp)];apply wpAny_bind;refine wpAny_pure (a:=d) ?_;apply wpAny_bind;apply wpAny_dictEpoch h1 h3;rw[if_neg (by simp)];refine wpAny_pure ?_;have i0:¬ (i:Int)<0:=by omega
 by_cases hi:i<es.size
 ·simp only[i0,if_false,zc7,zcr hi];apply wpAny_bind;apply wpAny_bind;apply wpAny_typeNameOfWhole_keyiter t;refine wpAny_pure ?_;apply wpAny_bind;apply wpAny_isOneOf_keyiter t;refine wpAny_bind (m:=setField (.ref it) 1 (rawInt ((i:Int)+1))) ?_;apply wpAny_setField g1 g3 (by simp);have st:(s.heap.update it (Obj.mapFields (·.setIfInBounds 1 (rawInt ((i:Int)+1))))).IsKeyIter it d (i+1) es.size ep:=
   ⟨_,zcq _ g1 (Obj.isFreed_of_fields (Obj.data_mapFields g3 _)),(Obj.cls_mapFields ..).trans g2,by rw[Obj.data_mapFields g3];simp[rawInt]⟩
  apply wpAny_bind;apply wpAny_holding;apply wpAny_bind;apply wpAny_isOneOf_keyiter st.typeIs;refine wpAny_pure (a:=es[i].key) ?_;exact wpAny_pure ⟨_,rfl,wpAny_pure (go hi _ st (zct ..))⟩
 ·have mf:es.size<=i:=by omega
  simp only[i0,if_false,zc7,Array.getElem?_eq_none mf];apply wpAny_bind;apply wpAny_bind;apply wpAny_typeNameOfWhole_keyiter t;refine wpAny_pure ?_;refine wpAny_bind (m:=setField (.ref it) 0 .none) ?_;apply wpAny_setField g1 g3 (by simp);apply wpAny_bind;rw[newExc];apply wpAny_bind;rw[newTuple];refine wpAny_newObj_type ?_ (by size_fits);apply wpAny_bind;refine wpAny_of_eq (a:=zco) (by simp only[firstArgMember];rfl) ?_;refine wpAny_newObj_type ?_ (by size_fits);simp only[raiseNew];apply wpAny_bind;apply wpAny_handled;rw[show A.in1.handled=none from hh];refine wpAny_bind (wpAny_pure (wpAny_throw ?_));refine wpAny_bind (wpAny_isInstance (T := "StopIteration") (b:=true) ⟨_,zau _ rfl,rfl⟩ isSubtype_stop ?_);exact wpAny_pure (no mf _ (((zct ..).extBut.push _).push _))
end
section
variable {X:Cx}{pins:List (Addr×Obj)}{σ:St}{H:Hp}{s:Shared}{a:Addr}{o:Obj}{kvs:List (List Key×V)}
noncomputable abbrev uT (H:Hp)(kvs:List (List Key×V))(xs:List (List Key×Addr×Value)):Prop:=Paired (λ(p:List Key×V) (q:List Key×Addr×Value)=>p.1=q.1/\H q.2.1=some (.tup (p.1.map kV))/\RelV p.2 q.2.2) kvs xs
theorem uT.get:∀ {kvs:List (List Key×V)}{xs:List (List Key×Addr×Value)},uT H kvs xs->∀ {i:Nat}{q:List Key×Addr×Value},xs[i]?=some q->∃p,kvs[i]?=some p/\H q.2.1=some (.tup (p.1.map kV))
 |_,_,.nil,i,q,e=>by cases e
 |_,_,.cons h t,0,q,e=>by cases e;exact⟨_,rfl,h.2.1⟩
 |_,_,.cons h t,i+1,q,e=>uT.get t (i:=i) e
end
theorem lZ {n:Nat}(p:Int×Int):Pl (n+1) (pD p):=Yw (MC (GB _) (MC (GB _) Yy))
theorem qP (p q:Int×Int):ZZ 16 (pD p) (pD q)=.ok (.bl (decide (p=q))):=by rw[Qw (lZ (n:=15) p) (lZ (n:=15) q),LD]
section
variable {P:Program}{w:World}{A:Around}{E:Value->Shared->Prop}{s:Shared}{a b:Addr}
noncomputable abbrev TK (P:Program)(w:World):=tupleKind (BV P w)
structure zF (P:Program)(w:World)(h:Heap)(d:Addr)(es:Array DictEntry)(ep:Nat)(xs:List (List Key×Addr×Value)):Prop where
 ob:KC h d es ep
 en:es.toList=xs.map (entryOfKey (TK P w))
 is:∀x∈xs,(TK P w).is h x.1 x.2.1
 nd:(xs.map (·.1)).Nodup
end
section
variable {X:Cx}{WX:Str->Hp->Prop}{c:Bool}{P0:E7}{P:Addr->Prop}{H:Hp}{σ:St}{ρ:Aa}{a b e:Expr}{f g:Aa->M D}{pos p:Pos}
theorem qQ {s:Shared}{pins:List (Addr×Obj)}{l:Addr}{ka:List (List Key×V)}(I:Inv X pins σ H s)(h:Rd H l (.dT ka)):(l==sysModules)=false/\∃es ep xs,uT H ka xs/\zF X.prog X.w s.heap l es ep xs:=by
 obtain⟨z,y,xs,r,o,es,ep,h1,h2,h3,h4,h5⟩:=(show BK X.prog X.w H s.heap l (.dT ka) from Y4 I.AE h);obtain⟨_,_,dO,r2,o2,zh,zi,g1,g2,g3,g4,g5,g6⟩:=MY I.AE h;exact⟨y,zh,zi,dO,r2,⟨⟨o2,g1,g2,g3⟩,g4,g5,g6⟩⟩
open Classical in
theorem Vo:∀ {ks lz:List Key},ks.map Fn=lz.map Fn->ks=lz
 |[],[],_=>rfl
 |[],_::_,h|_::_,[],h=>by cases h
 |k::ks,k'::lz,h=>by
  rw[za8,za8] at h;injection h with h1 h2
  have e:k=k':=by
   cases k<;>cases k'<;>first|(cases h1;rfl)|cases h1
  rw[e,Vo h2]
end
section
variable {P:Program}{w:World}{A:Around}{d it:Addr}{es:Array DictEntry}{ep:Nat}
theorem KC.keep {h h':Heap}(x:KC h d es ep)(k:∀o,h.get? d=some o->h'.get? d=some o):KC h' d es ep:=let ⟨o,a,b⟩:=x.at';⟨o,k o a,b⟩
theorem Zt (hh:A.handled=none)(au:d≠it):Walks P w A it [it,d] [it] es.size (λ i v=>∃hi:i<es.size,v=es[i].key) (λ i h=>h.IsKeyIter it d i es.size ep/\KC h d es ep) where
 sub:=λ b hb=>by simp at hb;simp[hb]
 frame:=λ _ _ _ st hk=>⟨st.1.at λ o e=>hk it (by simp) o e,st.2.keep λ o e=>hk d (by simp) o e⟩
 item:=λ i s Q E hi st hQ=>Sl hh st.1 st.2 (λ hi h' cT sb=>hQ _ h' s.toks ⟨hi,rfl⟩ ⟨cT,st.2.keep λ o e=>sb.extBut d o au e⟩ λ b o hb e=>sb.extBut b o (λ z=>hb (by simp[z])) e) λ z=>absurd z (by omega)
 done:=λ s Q E st hQ=>Sl hh st.1 st.2 (λ hi=>absurd hi (by omega)) λ _ h' eb=>hQ h' s.toks λ b o hb e=>eb b o (λ z=>hb (by simp[z])) e
 self:=λ _ _ _ _ st hQ=>wpAny_pyIter_keyiter st.1 hQ
theorem KC.lt {h:Heap}(x:KC h d es ep):d<h.objs.size:=let ⟨_,a,_⟩:=x.at';zak a
theorem qR (lo:(d==sysModules)=false):PySem.W.KdlSrc P w "dict" d d es.size (λ i v=>∃hi:i<es.size,v=es[i].key) (λ h=>KC h d es ep) where
 type:=λ _ x=>x.ty
 there:=λ _ x=>⟨x.lt,x.lt⟩
 keep:=λ _ _ x hk=>x.keep λ o e=>hk d (.inl rfl) o e
 notList:=by decide
 notTuple:=by decide
 hint:=λ _ _ _ _ x hq=>PySem.W.kdl_hint_dict x.ty hq
 iter:=λ _ _ hh x=>⟨_,_,(λ _ _ hq=>kF lo x hq),Zt hh (zaz x.lt),⟨⟨_,zau _ rfl,rfl,rfl⟩,x.keep λ o e=>zae _ e⟩⟩
end
open PySem PySem.Spec PyProof.Rows PySem.W
def Vp {α:Type}(c:Nat->Nat->Bool)(n:Nat):KasT α->(α->Prop)->Prop
 | .ret a,Q=>Q a
 | .ask i j k,Q=>i<n/\j<n/\Vp c n (k (c i j)) Q
section
variable {c:Nat->Nat->Bool}{n:Nat}
theorem Gn {α β:Type}{f:α->KasT β}{Q:β->Prop}:∀t:KasT α,Vp c n t (λ a=>Vp c n (f a) Q)->Vp c n (t.bind f) Q
 | .ret a,h=>h
 | .ask i j k,h=>⟨h.1,h.2.1,Gn (k (c i j)) h.2.2⟩
theorem DK {α:Type}{Q Q':α->Prop}(hq:∀a,Q a->Q' a):∀t:KasT α,Vp c n t Q->Vp c n t Q'
 | .ret a,h=>hq a h
 | .ask i j k,h=>⟨h.1,h.2.1,DK hq (k (c i j)) h.2.2⟩
theorem Zu {α:Type}{cmp:Nat->Nat->(Bool->Shared->Prop)->Shared->Prop}{s:Shared}(hc:∀i j C,i<n->j<n->C (c i j) s->cmp i j C s){Q:α->Prop}{G:α->Shared->Prop}(hG:∀a,Q a->G a s):∀t:KasT α,Vp c n t Q->t.kasWp cmp G s
 | .ret a,h=>hG a h
 | .ask i j k,h=>hc i j _ h.1 h.2.1 (Zu hc hG (k (c i j)) h.2.2)
end
section
variable {f:Nat->Int}{n:Nat}
noncomputable def gK (f:Nat->Int)(p:Array Nat)(i:Nat):Int:=f (p.getD i 0)
noncomputable def cK (f:Nat->Int)(i j:Nat):Bool:=decide (f i<f j)
structure JW (n:Nat)(p:Array Nat):Prop where
 pm:p.toList.Perm (zav n)
def Inj (f:Nat->Int)(n:Nat):Prop:=∀i j,i<n->j<n->f i=f j->i=j
theorem JW.size {p:Array Nat}(h:JW n p):p.size=n:=by
 have:=h.pm.length_eq;simpa using this
theorem qS {p:Array Nat}{i:Nat}{x:Nat}(h:p[i]?=some x):p.getD i 0=x:=by
 rw[zbu,h];rfl
theorem JW.at' {p:Array Nat}(h:JW n p){i:Nat}(hi:i<n):p[i]?=some (p.getD i 0):=by
 have hs:i<p.size:=by rw[h.size];exact hi
 rw[zcr hs,qS (zcr hs)]
theorem JW.lt {p:Array Nat}(h:JW n p)(hn:0<n)(i:Nat):p.getD i 0<n:=by
 by_cases hi:i<n
 ·have:=Array.mem_of_getElem? (h.at' hi);have:=h.pm.mem_iff.mp (Array.mem_toList_iff.mpr this);simpa using this
 ·rw[zbu,Array.getElem?_eq_none (by rw[h.size];omega)];exact hn
theorem JW.ne {p:Array Nat}(h:JW n p)(hf:Inj f n){i j:Nat}(hi:i<n)(hj:j<n)(au:i≠j):gK f p i≠gK f p j:=λ e=>by
 have e2:=hf _ _ (h.lt (by omega) i) (h.lt (by omega) j) e;have l5:p.toList.Nodup:=h.pm.nodup_iff.mpr List.nodup_range;have a1:=h.at' hi;have a2:=h.at' hj;rw[e2] at a1;rw[<-zda] at a1 a2;have zj:i<p.toList.length:=by rw[zc6,h.size];exact hi
 exact au ((List.getElem?_inj zj l5).mp (a1.trans a2.symm))
theorem JW.zG {p:Array Nat}(h:JW n p)(s d:Nat):JW n (bubble p s d):=⟨(Array.perm_iff_toList_perm.mp (bubble_perm p s d)).trans h.pm⟩
theorem JW.zH {p:Array Nat}(h:JW n p)(i j d:Nat):JW n (mirror p i j d):=⟨(Array.perm_iff_toList_perm.mp (mirror_perm p i j d)).trans h.pm⟩
def Xw (f:Nat->Int)(p:Array Nat)(k:Nat):Prop:=∀i j,i<j->j<k->gK f p i<gK f p j
def vS (f:Nat->Int)(p:Array Nat)(k:Nat):Prop:=∀i j,i<j->j<k->gK f p j<gK f p i
theorem Ub {p:Array Nat}(h:JW n p)(hf:Inj f n):∀(u m:Nat),1<=m->m+u<=n->Xw f p m->Vp (cK f) n (kas_asc p u m) λ m'=>m<=m'/\m'<=m+u/\Xw f p m'/\(m'<m+u->gK f p m'<gK f p (m'-1))
 |0,m,h1,h2,hs=>⟨zal _,zal _,hs,λ z=>absurd z (Nat.lt_irrefl _)⟩
 |u+1,m,h1,h2,hs=>by
  refine⟨h.lt (by omega) _,h.lt (by omega) _,?_⟩;by_cases e:gK f p m<gK f p (m-1)
  ·rw[show cK f (p.getD m 0) (p.getD (m-1) 0)=true from decide_eq_true e];dsimp only;rw[if_pos rfl];exact⟨zal _,by omega,hs,λ _=>e⟩
  ·rw[show cK f (p.getD m 0) (p.getD (m-1) 0)=false from decide_eq_false e];dsimp only;rw[if_neg zao];have ne:=h.ne hf (i:=m) (j:=m-1) (by omega) (by omega) (by omega);have cw:Xw f p (m+1):=λ i j eZ hj=>by
    by_cases ej:j=m
    ·subst ej;by_cases ei:i=j-1
     ·subst ei;omega
     ·have:=hs i (j-1) (by omega) (by omega);omega
    ·exact hs i j eZ (by omega)
   refine DK (λ m' hm=>⟨by omega,by omega,hm.2.2.1,λ z=>hm.2.2.2 (by omega)⟩) _ (Ub h hf u (m+1) (by omega) (by omega) cw)
theorem Vq {p:Array Nat}(h:JW n p)(hf:Inj f n):∀(u m:Nat),1<=m->m+u<=n->vS f p m->Vp (cK f) n (kas_desc u p m 0) λ r=>r.1=p/\r.2.2=0/\m<=r.2.1/\r.2.1<=m+u/\vS f p r.2.1
 |0,m,h1,h2,hs=>⟨rfl,rfl,zal _,zal _,hs⟩
 |u+1,m,h1,h2,hs=>by
  refine⟨h.lt (by omega) _,h.lt (by omega) _,?_⟩;by_cases e:gK f p m<gK f p (m-1)
  ·rw[show cK f (p.getD m 0) (p.getD (m-1) 0)=true from decide_eq_true e];dsimp only;rw[if_pos rfl,if_neg (by omega)];have cw:vS f p (m+1):=λ i j eZ hj=>by
    by_cases ej:j=m
    ·subst ej;by_cases ei:i=j-1
     ·subst ei;exact e
     ·have:=hs i (j-1) (by omega) (by omega);omega
    ·exact hs i j eZ (by omega)
   exact DK (λ r hm=>⟨hm.1,hm.2.1,by omega,by omega,hm.2.2.2.2⟩) _ (Vq h hf u (m+1) (by omega) (by omega) cw)
  ·rw[show cK f (p.getD m 0) (p.getD (m-1) 0)=false from decide_eq_false e];dsimp only;rw[if_neg zao];have ne:=h.ne hf (i:=m) (j:=m-1) (by omega) (by omega) (by omega);have e2:gK f p (m-1)<gK f p m:=by omega
   refine⟨h.lt (by omega) _,h.lt (by omega) _,?_⟩;rw[show cK f (p.getD (m-1) 0) (p.getD m 0)=true from decide_eq_true e2];dsimp only;rw[if_pos rfl];exact⟨rfl,rfl,zal _,Nat.le_add_right _ _,hs⟩
theorem Vr {p:Array Nat}(h:JW n p){m:Nat}(hm:m<=n){k:Nat}(hk:k<m):gK f (kas_rev p 0 m) k=gK f p (m-1-k):=by
 unfold gK kas_rev;have:=getElem?_mirror_all (xs:=p) (i:=0) (j:=m) (by rw[h.size];exact hm) k;rw[if_pos ⟨zb9 _,hk⟩,Nat.zero_add] at this;rw[zbu,this,<-zbu]
theorem kG {p:Array Nat}(h:JW n p)(hf:Inj f n){m:Nat}(h1:1<=m)(h2:m<=n)(hs:vS f p m):Vp (cK f) n (kas_tail3 m n p) λ r=>JW n r.2/\1<=r.1/\r.1<=n/\Xw f r.2 r.1:=by
 unfold kas_tail3;have hp:JW n (kas_rev p 0 m):=h.zH _ _ _;have cw:Xw f (kas_rev p 0 m) m:=λ i j eZ hj=>by
  rw[Vr h h2 (by omega),Vr h h2 hj];exact hs _ _ (by omega) (by omega)
 refine Gn _ (DK (λ m' hm=>?_) _ (Ub hp hf (n-m) m h1 (by omega) cw));exact⟨hp,by omega,by omega,hm.2.2.1⟩
theorem Zv {p:Array Nat}(h:JW n p)(hf:Inj f n)(h2:2<=n):Vp (cK f) n (kas_count n p) λ r=>JW n r.2/\1<=r.1/\r.1<=n/\Xw f r.2 r.1:=by
 unfold kas_count;refine Gn _ (DK (λ m hm=>?_) _ (Ub h hf (n-1) 1 (zal _) (by omega) λ i j eZ hj=>by omega));by_cases e:m=n
 ·rw[if_pos (by simp[e])];exact⟨h,by omega,by omega,hm.2.2.1⟩
 ·rw[if_neg (by simp[e])];by_cases e1:m > 1
  ·rw[if_pos e1];refine⟨h.lt (by omega) _,h.lt (by omega) _,?_⟩;rw[show cK f (p.getD 0 0) (p.getD (m-1) 0)=true from decide_eq_true (hm.2.2.1 0 (m-1) (by omega) (by omega))];dsimp only;rw[if_pos rfl];exact⟨h,by omega,by omega,hm.2.2.1⟩
  ·rw[if_neg e1];have em:m=1:=by omega
   subst em;have hd:gK f p 1<gK f p 0:=hm.2.2.2 (by omega);unfold kas_descPart;refine Gn _ (DK (λ r hr=>?_) _ (Vq h hf (n-(1+1)) (1+1) (by omega) (by omega) λ i j eZ hj=>?_))
   ·obtain⟨r1,r2,r3,r4,r5⟩:=hr;rw[if_neg (by omega),r1];exact kG h hf (by omega) (by omega) r5
   ·have ei:i=0:=by omega
    have ej:j=1:=by omega
    subst ei ej;exact hd
theorem NZ {p:Array Nat}(h:JW n p){k:Nat}(hk:k<n)(hs:Xw f p k):∀(u l r:Nat),l<=r->r<=k->r-l<=u->(∀i,i<l->¬ gK f p k<gK f p i)->(∀i,r<=i->i<k->gK f p k<gK f p i)->
 Vp (cK f) n (kas_place p k u l r) λ l'=>l'<=k/\(∀i,i<l'->¬ gK f p k<gK f p i)/\∀i,l'<=i->i<k->gK f p k<gK f p i
 |0,l,r,h1,h2,h3,ha,hb=>by
  have:l=r:=by omega
  subst this;exact⟨h2,ha,hb⟩
 |u+1,l,r,h1,h2,h3,ha,hb=>by
  unfold kas_place;by_cases e:l >= r
  ·rw[if_pos e];have:l=r:=by omega
   subst this;exact⟨h2,ha,hb⟩
  ·rw[if_neg e];have cD:l<=(l+r) / 2:=by omega
   have cm:(l+r) / 2<r:=by omega
   refine⟨h.lt (by omega) _,h.lt (by omega) _,?_⟩;by_cases q:gK f p k<gK f p ((l+r) / 2)
   ·rw[show cK f (p.getD k 0) (p.getD ((l+r) / 2) 0)=true from decide_eq_true q];dsimp only;rw[if_pos rfl];refine NZ h hk hs u l _ cD (by omega) (by omega) ha λ i hi1 mf=>?_;by_cases ei:i=(l+r) / 2
    ·subst ei;exact q
    ·have:=hs ((l+r) / 2) i (by omega) mf;omega
   ·rw[show cK f (p.getD k 0) (p.getD ((l+r) / 2) 0)=false from decide_eq_false q];dsimp only;rw[if_neg zao];refine NZ h hk hs u _ r (by omega) h2 (by omega) (λ i hi=>?_) hb;by_cases ei:i=(l+r) / 2
    ·subst ei;exact q
    ·have:=hs i ((l+r) / 2) (by omega) (by omega);omega
theorem Vs {p:Array Nat}(h:JW n p){k l:Nat}(hk:k<n)(hl:l<=k)(i:Nat):gK f (bubble p k (k-l)) i=if i=l then gK f p k else if l<i/\i<=k then gK f p (i-1) else gK f p i:=by
 unfold gK;have:=getElem?_bubble (xs:=p) (src:=k) (by rw[h.size];exact hk) (k-l) (by omega) i;have e:k-(k-l)=l:=by omega
 rw[e] at this;rw[zbu,this];split
 ·rw[<-zbu]
 ·split<;>rw[<-zbu]
theorem Zw (hf:Inj f n):∀(u k:Nat){p:Array Nat},k+u=n->JW n p->Xw f p k->Vp (cK f) n (kas_bin u p k) λ p'=>JW n p'/\Xw f p' n
 |0,k,p,e,h,hs=>by
  have:k=n:=by omega
  subst this;exact⟨h,hs⟩
 |u+1,k,p,e,h,hs=>by
  unfold kas_bin;refine Gn _ (DK (λ l hl=>?_) _ (NZ h (by omega) hs k 0 k (zb9 _) (zal _) (by omega) (λ i hi=>absurd hi (by omega)) λ i h1 h2=>absurd h2 (by omega)));obtain⟨j1,ha,hb⟩:=hl;refine Zw hf u (k+1) (by omega) (h.zG _ _) λ i j eZ hj=>?_;rw[Vs h (by omega) j1,Vs h (by omega) j1];have lo:∀i,i<l->gK f p i<gK f p k:=λ i hi=>by
   have:=ha i hi;have:=h.ne hf (i:=i) (j:=k) (by omega) (by omega) (by omega);omega
  by_cases ei:i=l
  ·rw[if_pos ei,if_neg (by omega),if_pos (by omega)];exact hb _ (by omega) (by omega)
  ·rw[if_neg ei];by_cases ej:j=l
   ·rw[if_pos ej,if_neg (by omega)];exact lo i (by omega)
   ·rw[if_neg ej];by_cases bi:l<i/\i<=k
    ·rw[if_pos bi,if_pos (by omega)];exact hs _ _ (by omega) (by omega)
    ·rw[if_neg bi];by_cases bj:l<j/\j<=k
     ·rw[if_pos bj];exact hs _ _ (by omega) (by omega)
     ·rw[if_neg bj];exact hs _ _ eZ (by omega)
theorem kH (hf:Inj f n)(h2:2<=n):Vp (cK f) n (kas_sort n) λ p'=>JW n p'/\Xw f p' n:=by
 unfold kas_sort;have h0:JW n (List.toArray (zav n)):=⟨by simp⟩;refine Gn _ (DK (λ r hr=>?_) _ (Zv h0 hf h2));obtain⟨r1,r2,r3,r4⟩:=hr;by_cases e:r.1<n
 ·rw[if_pos e];have em:max r.1 1=r.1:=by omega
  rw[em];exact Zw hf (n-r.1) r.1 (by omega) r1 r4
 ·rw[if_neg e];have en:r.1=n:=by omega
  rw[en] at r4;exact⟨r1,r4⟩
end
structure BH (h:Heap)(v:Value)(q:Int×Int):Prop where
 at':∃a o t u n,v=.ref a/\h.get? a=some o/\o.cls=.type "tuple" /\ o.data=.seq #[.int q.1 t,.int q.2 u] n
theorem BH.keep {h h':Heap}{v:Value}{q:Int×Int}(x:BH h v q)(k:∀b o,h.get? b=some o->h'.get? b=some o):BH h' v q:=by
 obtain⟨a,o,t,u,n,e,ho,r⟩:=x.at';exact⟨a,o,t,u,n,e,k _ _ ho,r⟩
noncomputable def kI (p q:Int×Int):Bool:=decide (p.1<q.1\/(p.1=q.1/\p.2<q.2))
section
variable {P:Program}{w:World}{A:Around}{E:Value->Shared->Prop}{s:Shared}
theorem kJ {v v':Value}{p q:Int×Int}{C:Bool->Shared->Prop}(hv:BH s.heap v p)(pe:BH s.heap v' q)(h:C (kI p q) s):wpAny (model P w) A (keyLt' (tuples' true) v v') C E s:=by
 obtain⟨a,o,t,u,n,rfl,ho,_,hd⟩:=hv.at';obtain⟨b,o',t',u',n',rfl,dl,_,d8⟩:=pe.at';refine kat_lt ho hd dl d8 ?_;refine kat_cons (SeqAt.EqAt.int_int p.1 t q.1 t' _ _ _ _ ?_);refine kat_go (λ e=>kat_yes (kat_cons (SeqAt.EqAt.int_int p.2 u q.2 u' _ _ _ _ (kat_go (λ e2=>kat_yes (kat_nil ?_)) λ e2=>kat_no ?_)))) λ e=>kat_no ?_
 ·have e1:p.1=q.1:=by simpa using e
  have e3:p.2=q.2:=by simpa using e2
  have:kI p q=false:=by unfold kI;rw[e1,e3];simp
  rw[this] at h;exact h
 ·have e1:p.1=q.1:=by simpa using e
  have:kI p q=decide (p.2<q.2):=by unfold kI;rw[e1];simp
  rw[this] at h;show wpAny _ _ (oneLt' false (.int p.2 u) (.int q.2 u')) _ _ _;exact kat_one _ _ (lt_int h)
 ·have e1:p.1≠q.1:=by simpa using e
  have:kI p q=decide (p.1<q.1):=by unfold kI;simp[e1]
  rw[this] at h;show wpAny _ _ (oneLt' true (.int p.1 t) (.int q.1 t')) _ _ _;exact oneLt_int h
theorem X9 {vs:List Value}{Q:SortKind->Shared->Prop}(au:0<vs.length)(hv:∀v∈vs,∃q,BH s.heap v q)(h:Q (tuples' true) s):wpAny (model P w) A (keyKind' vs.toArray) Q E s:=by
 have key:∀l:List Value,(∀v∈l,∃q,BH s.heap v q)->∃fs,KatTups s.heap l fs/\fs.length=l.length/\∀f∈fs,∃i t,f=Value.int i t:=by
  intro l;induction l with
  |nil=>exact λ _=>⟨[],.nil,rfl,λ f hf=>by cases hf⟩
  |cons v r ih =>
   intro hl;obtain⟨q,hq⟩:=hl v za3;obtain⟨a,o,t,u,n,rfl,ho,hc,hd⟩:=hq.at';obtain⟨fs,k1,k2,k3⟩:=ih λ v hv=>hl v (za4 _ hv);refine⟨.int q.1 t::fs,.cons ho hc hd rfl k1,by rw[zad,zad,k2],λ f hf=>?_⟩;rcases za9.mp hf with rfl|hf
   ·exact⟨_,_,rfl⟩
   ·exact k3 f hf
 obtain⟨fs,k1,k2,k3⟩:=key vs hv;refine kat_kind (T:=.type "int") k1 (by omega) (λ f hf=>?_) rfl h;obtain⟨i,t,rfl⟩:=k3 f hf;exact .of_pure rfl
noncomputable def JX (q:Int×Int):Int:=q.1*1000+q.2
theorem qT {p q:Int×Int}(hp:0<=p.2/\p.2<1000)(hq:0<=q.2/\q.2<1000):kI p q=decide (JX p<JX q):=by
 unfold kI JX;congr 1;apply propext;constructor<;>intro h<;>omega
theorem Vt {p q:Int×Int}(hp:0<=p.2/\p.2<1000)(hq:0<=q.2/\q.2<1000)(h:JX p=JX q):p=q:=by
 unfold JX at h;exact Prod.ext (by omega) (by omega)
theorem Uc {a:Addr}{vs:List Value}{ps:List (Int×Int)}{n:Nat}{Q:PySem.Fin->Shared->Prop}(ho:s.heap.get? a=some (seqObj "list" vs.toArray n))(wS:vs.length<64)(hl:ps.length=vs.length)(hv:∀(i:Nat) v q,vs[i]?=some v->ps[i]?=some q->BH s.heap v q)(hb:∀q∈ps,0<=q.2/\q.2<1000)(hn:ps.Nodup)
 (h:∀(I:List Nat),I.Perm (zav vs.length)->(I.map λ i=>ps.getD i (0,0)).Pairwise (λ p q=>JX p<JX q)->Q (.done (.ret .none)) {s with heap:=sortedHeap s.heap a vs (I.map λ i=>vs.getD i zco).toArray}):
 wpAny (model P w) A (Builtin.«list.sort» ⟨[.ref a],[]⟩) Q E s:=by
 rw[list_sort_plain];have ha:a<s.heap.objs.size:=zak ho;apply wpAny_bind;apply listItems_at ho rfl;apply wpAny_bind;refine listUpdate_at ho rfl ?_ (by rw[zaa,sizeLine_eq];omega) (zb9 _);obtain⟨e1,wT⟩:∃e1,(s.heap.update a (zc2 λ _=>(#[]:Array Value))).get? a=some (seqObj "list" #[] e1):=⟨_,get?_update_seq ho λ _=>#[]⟩;apply wpAny_bind;apply seqEpoch_at wT rfl;apply wpAny_bind;refine wpAny_newTuple ?_ (by show vs.length<=_;rw[sizeLine_eq];omega);apply wpAny_bind;refine wpAny_newList ?_ (zb9 _);apply wpAny_holding;have mh:(((s.heap.update a (zc2 λ _=>(#[]:Array Value))).push (seqObj "tuple" vs.toArray 0)).push (seqObj "list" #[] 0)).get? a=some (seqObj "list" #[] e1):=zae _ (zae _ wT);show wpAny (model P w) A _ Q E {s with heap:=((s.heap.update a (zc2 λ _=>(#[]:Array Value))).push (seqObj "tuple" vs.toArray 0)).push (seqObj "list" #[] 0)};dsimp only;obtain⟨h6,sv⟩:∃h6,h6=((s.heap.update a (zc2 λ _=>(#[]:Array Value))).push (seqObj "tuple" vs.toArray 0)).push (seqObj "list" #[] 0):=⟨_,rfl⟩;have fin:∀(I:List Nat),I.Perm (zav vs.length)->(I.map λ i=>ps.getD i (0,0)).Pairwise (λ p q=>JX p<JX q)->∀(z:Array Value),z=(I.map λ i=>vs.getD i zco).toArray->Q (.done (.ret .none)) {s with heap:=h6.update a (zc2 λ _=>z)}:=λ I i1 i2 z hz=>by
  rw[hz,sv];exact h I i1 i2
 rw[<-sv] at mh ⊢;have kp:∀b o,b≠a->s.heap.get? b=some o->h6.get? b=some o:=λ b o hb e=>by
  rw[sv];exact zae _ (zae _ ((Heap.get?_update_ne _ _ _ _ hb).trans e))
 have zl:∀(i:Nat) v q,vs[i]?=some v->ps[i]?=some q->BH h6 v q:=λ i v q hi hq=>by
  obtain⟨b,o,t,u,k,e,g1,g2,g3⟩:=(hv i v q hi hq).at';refine⟨b,o,t,u,k,e,kp b o (λ z=>?_) g1,g2,g3⟩;rw[z,ho] at g1;cases g1;injection g2 with g2
  exact absurd g2 (by decide)
 by_cases h2:vs.toArray.size<2
 ·rw[if_pos h2,if_pos h2];refine wpAny_bind (wpAny_pure ?_);rw[StateT.run_pure];refine wpAny_bind (wpAny_pure ?_);dsimp only;have ez:(arrOf (SortSt.mk' general' (vs.toArray.zip vs.toArray) #[] 7 none)).map (·.2)=((zav vs.length).map λ i=>vs.getD i zco).toArray:=by
   show (vs.toArray.zip vs.toArray).map (·.2)=_;apply Array.ext_getElem?;intro i;simp only[Array.getElem?_map,List.getElem?_toArray,zat];by_cases hi:i<vs.length
   ·rw[List.getElem?_range hi];simp[Array.getElem?_zip_eq_some,hi,zb0]
   ·rw[zca (by simp;omega),Array.getElem?_eq_none (by simp;omega)];rfl
  apply wpAny_bind;apply seqEpoch_at mh rfl;apply wpAny_bind;refine listUpdate_at mh rfl ?_ (zb9 _) (by rw[ez];simp;rw[sizeLine_eq];omega);simp only[bne_self_eq_false,zap,if_false];refine wpAny_pure (fin _ (.refl _) ?_ _ ez);rw[zaa] at h2;have cA:((zav vs.length).map λ i=>ps.getD i (0,0)).length<2:=by simpa using h2
  match hq:(zav vs.length).map λ i=>ps.getD i (0,0),cA with
  |[],_=>exact .nil
  |[x],_=>exact List.pairwise_singleton _ _
  |x::y::r,z=>exact absurd z (by simp only[zad];omega)
 ·rw[if_neg h2,if_neg h2];rw[zaa] at h2;have f0:∀i,i<vs.length->∃v q,vs[i]?=some v/\ps[i]?=some q/\vs.getD i zco=v/\ps.getD i (0,0)=q/\BH h6 v q/\0<=q.2/\q.2<1000:=λ i hi=>by
   have a1:vs[i]?=some vs[i]:=zaf hi;have a2:ps[i]?=some (ps[i]'(by omega)):=zaf _;exact⟨_,_,a1,a2,by rw[zb0,a1];rfl,by rw[zb0,a2];rfl,zl i _ _ a1 a2,hb _ (zag a2)⟩
  apply wpAny_bind;refine X9 (s:={s with heap:=h6}) (by omega) (λ v hv=>?_) ?_
  ·obtain⟨i,hi⟩:=List.mem_iff_getElem?.mp hv;obtain⟨v',q,b1,_,_,_,b5,_⟩:=f0 i (zan.mp hi).1;rw[hi] at b1;cases b1;exact⟨q,b5⟩
  have sw:Inj (λ i=>JX (ps.getD i (0,0))) vs.length:=λ i j hi hj e=>by
   obtain⟨_,q,_,b2,_,b4,_,b6⟩:=f0 i hi;obtain⟨_,q',_,d2,_,d4,_,d6⟩:=f0 j hj;dsimp only at e;rw[b4,d4] at e;have:=Vt b6 d6 e;subst this;exact (List.getElem?_inj (by omega) hn).mp (b2.trans d2.symm)
  have eQ:∀(i j:Nat) (C:Bool->Shared->Prop),i<vs.length->j<vs.length->C (cK (λ i=>JX (ps.getD i (0,0))) i j) {s with heap:=h6}->kas_ask P w A (tuples' true) vs i j C {s with heap:=h6}:=λ i j C hi hj hC=>by
   obtain⟨v,q,_,_,b3,b4,b5,b6⟩:=f0 i hi;obtain⟨v',q',_,_,d3,d4,d5,d6⟩:=f0 j hj;unfold kas_ask;rw[b3,d3];refine kJ (s:={s with heap:=h6}) b5 d5 ?_;subst b4 d4;rw[qT b6 d6];exact hC
  refine wpAny_bind (wpAny_mono (kat_run (ks:=vs) (vs:=vs) (κ:=tuples' true) (s:={s with heap:=h6}) (Q:=λ dX s'=>∃p:Array Nat,arrOf dX=p.map (kas_item (vs.toArray.zip vs.toArray))/\failedOf dX=none/\JW vs.length p/\Xw (λ i=>JX (ps.getD i (0,0))) p vs.length/\s'={s with heap:=h6}) (G:=λ p s'=>JW vs.length p/\Xw (λ i=>JX (ps.getD i (0,0))) p vs.length/\s'={s with heap:=h6})
   rfl (by omega) wS (λ p dX s' _ a2 a3 a4=>⟨p,a2,a3,a4⟩) (Zu eQ (λ p hp=>⟨hp.1,hp.2,rfl⟩) _ (kH sw (by omega)))) ?_ λ _ _ e=>e)
  rintro ⟨⟨⟩,dX⟩ s' ⟨p,j4,hf,hp,zm,rfl⟩;dsimp only;have mi:=kat_snds rfl j4;apply wpAny_bind;apply seqEpoch_at mh rfl;apply wpAny_bind;refine listUpdate_at mh rfl ?_ (zb9 _) (by rw[mi];simp;rw[hp.size,sizeLine_eq];omega);rw[hf];simp only[bne_self_eq_false,zap,if_false];refine wpAny_pure (fin p.toList hp.pm ?_ _ mi);rw[List.pairwise_map,List.pairwise_iff_getElem];intro i j hi hj eZ;rw[zc6,hp.size] at hi hj;have:=zm i j eZ hj;unfold gK at this;have g1:=hp.at' hi;have g2:=hp.at' hj;rw[<-zda,zan] at g1 g2;obtain⟨_,g1⟩:=g1;obtain⟨_,g2⟩:=g2;rw[g1,g2];exact this
end
section
variable {P:Program}{w:World}{A:Around}{E:Value->Shared->Prop}{s:Shared}{d:Addr}{es:Array DictEntry}{ep:Nat}
theorem Ud {R:List Value->Shared->Prop}(hh:A.handled=none)(lo:(d==sysModules)=false)(x:KC s.heap d es ep)(hz:es.size<=sizeLine)
 (q:∀(h':Heap) (tk:Nat) (acc:Array Value),(∀b o,s.heap.get? b=some o->h'.get? b=some o)->s.heap.objs.size<h'.objs.size->ItemsOf (λ i v=>∃hi:i<es.size,v=es[i].key) acc es.size->R acc.toList {s with heap:=h',toks:=tk}):wpAny (model P w) A (collect (.ref d)) R E s:=by
 rw[collect];apply wpAny_bind;apply wpAny_runValue;apply codeAny_builtin entry_proto_collect';rw[zcy PySem.F.plain_proto_collect _];refine wpAny_bind (m:=newList []) ?_;refine wpAny_newObj_type (wpAny_pure ⟨plainId_quiet PySem.F.plain_list_iadd _,codeAny_builtin entry_list_iadd' ?_⟩);rw[zcy PySem.F.plain_list_iadd _];have g0:(s.heap.push {cls:=.type "list",data:=.seq ([]:List Value).toArray}).get? s.heap.objs.size=some {cls:=.type "list",data:=.seq #[]}:=zau _ rfl;have key:=kdl_extend (prog:=P) (w:=w) (A:=A) (s:={s with heap:=s.heap.push {cls:=.type "list",data:=.seq ([]:List Value).toArray} })
  (R:=λ r s'=>∃h' tk acc c,r=.ok (.ret (.ref s.heap.objs.size))/\s'={s with heap:=h',toks:=tk}/\(∀b o,s.heap.get? b=some o->h'.get? b=some o)/\h'.get? s.heap.objs.size=some {cls:=.type "list",dict:=none,data:=.seq acc c,slots:=#[]}/\ItemsOf (λ i v=>∃hi:i<es.size,v=es[i].key) acc es.size)
  (qR lo) hh (x.keep λ o e=>zae _ e) s.heap.objs.size (Nat.ne_of_gt x.lt) (Nat.ne_of_gt x.lt) (.ref s.heap.objs.size) 0 g0
  (λ h' tk acc c kp gS hi=>⟨h',tk,acc,c,rfl,rfl,λ b o e=>kp b o (zaz (zak e)) (zae _ e),gS,hi⟩) hz
 have last:∀ {h':Heap} {tk:Nat} {acc:Array Value} {c:Nat},(∀b o,s.heap.get? b=some o->h'.get? b=some o)->h'.get? s.heap.objs.size=some {cls:=.type "list",dict:=none,data:=.seq acc c,slots:=#[]}->ItemsOf (λ i v=>∃hi:i<es.size,v=es[i].key) acc es.size->
  wpAny (model P w) A (load s.heap.objs.size >>= λ o=>match o.data with | .seq xs _=>pure xs.toList|_=>unsupported "internal:collect") R E {s with heap:=h',toks:=tk}:=λ kp gS hi =>
  wpAny_bind (wpAny_load gS (wpAny_pure (q _ _ _ kp (zak gS) hi)))
 refine wpAny_mono key (λ fin s' z=>?_) λ e s' z=>?_
 ·cases fin with
  |done f =>
   obtain⟨h',tk,acc,c,e,rfl,kp,gS,hi⟩:=z;cases e;exact last kp gS hi
  |again c1 =>
   refine⟨z.1,codeAny_mono z.2 λ r s2 y=>?_⟩;obtain⟨h',tk,acc,c,rfl,rfl,kp,gS,hi⟩:=y;exact last kp gS hi
 ·obtain⟨_,_,_,_,e',_⟩:=z;cases e'
theorem Xa {ps:List (Int×Int)}{Q:Value->Shared->Prop}(hh:A.handled=none)(lo:(d==sysModules)=false)(x:KC s.heap d es ep)(wS:es.size<64)(hl:ps.length=es.size)(hv:∀(i:Nat) (hi:i<es.size) q,ps[i]?=some q->BH s.heap es[i].key q)(hb:∀q∈ps,0<=q.2/\q.2<1000)(hn:ps.Nodup)
 (h:∀(h':Heap) (tk:Nat) (D:Addr) (c:Nat) (I:List Nat) (vs:List Value),(∀b o,s.heap.get? b=some o->h'.get? b=some o)->s.heap.objs.size<=D->vs.length=es.size->(∀(i:Nat) (hi:i<es.size),vs[i]?=some es[i].key)->h'.get? D=some (seqObj "list" (I.map λ i=>vs.getD i zco).toArray c)->I.Perm (zav es.size)->(I.map λ i=>ps.getD i (0,0)).Pairwise (λ p q=>JX p<JX q)->Q (.ref D) {s with heap:=h',toks:=tk}):
 wpAny (model P w) A (call (.builtin "sorted") [.ref d]) Q E s:=by
 apply Calls.call_function_entry kind_sorted plain_sorted entry_sorted (args_sorted1 _);rw[Builtin.«sorted»];refine wpAny_bind (m:=checkCount "sorted" 1 1 _) (wpAny_pure ?_);apply wpAny_bind;refine Ud hh lo x (by rw[sizeLine_eq];omega) λ h1 tk acc kp xa hi=>?_;have hsz:acc.size=es.size:=hi.1;have cB:∀(i:Nat) (hi:i<es.size),acc.toList[i]?=some es[i].key:=λ i mf=>by
  have e:acc[i]?=some (acc[i]'(by omega)):=zcr _;obtain⟨_,e2⟩:=hi.2 i _ e;rw[zda,e,e2]
 apply wpAny_bind;refine wpAny_newList ?_ (by rw[zc6,hsz,sizeLine_eq];omega);have ig:(h1.push (seqObj "list" acc.toList.toArray 0)).get? h1.objs.size=some (seqObj "list" acc.toList.toArray 0):=zau _ rfl;have sx:∀b o,s.heap.get? b=some o->(h1.push (seqObj "list" acc.toList.toArray 0)).get? b=some o:=λ b o e=>zae _ (kp b o e);show wpAny _ _ _ _ _ {s with heap:=h1.push (seqObj "list" acc.toList.toArray 0),toks:=tk};refine wpAny_bind (wpAny_holding (wpAny_call_entry slot_list_sort ⟨_,ig,rfl⟩ entry_list_sort ?_ (args_list_sort _)));have hlen:acc.toList.length=es.size:=by rw[zc6,hsz]
 refine Uc (s:={s with heap:=h1.push (seqObj "list" acc.toList.toArray 0),toks:=tk}) (ps:=ps) ig (by omega) (by omega) (λ i v q hi hq=>?_) hb hn λ I i1 i2=>⟨_,rfl,wpAny_pure ⟨_,rfl,?_⟩⟩
 ·have be:i<es.size:=by rw[<-hlen];exact (zan.mp hi).1
  rw[cB i be] at hi;cases hi;exact (hv i be q hq).keep sx
 ·obtain⟨c,hc⟩:=sortedHeap_at (out:=(I.map λ i=>acc.toList.getD i zco).toArray) ig;refine h _ tk _ c I acc.toList (λ b o e=>?_) (zbl xa) hlen cB hc (by rw[<-hlen];exact i1) i2;have be:b<s.heap.objs.size:=zak e;exact (sortedHeap_old (zaz (Nat.lt_trans be xa)) (zak (sx b o e))).trans (sx b o e)
end
noncomputable def Xx (p:Int×Int):List Key:=[.inl p.1,.inl p.2]
noncomputable def Xb (x:Int×Int):List (Int×Int)->List (Int×Int)
 |[]=>[x]
 |y::r=>if JX x<JX y then x::y::r else y::Xb x r
noncomputable def Mf:List (Int×Int)->List (Int×Int)
 |[]=>[]
 |x::r=>Xb x (Mf r)
theorem LQ (x:Int×Int):∀l,(Xb x l).Perm (x::l)
 |[]=>.refl _
 |y::r=>by
  unfold Xb;split
  ·exact .refl _
  ·exact ((LQ x r).cons y).trans (.swap x y r)
theorem EU:∀l,(Mf l).Perm l
 |[]=>.refl _
 |x::r=>(LQ x (Mf r)).trans ((EU r).cons x)
theorem Vu {x:Int×Int}:∀ {l:List (Int×Int)},(∀y∈l,JX x≠JX y)->l.Pairwise (λ p q=>JX p<JX q)->(Xb x l).Pairwise λ p q=>JX p<JX q
 |[],_,_=>List.pairwise_singleton _ _
 |y::r,hx,h=>by
  unfold Xb;have hy:=zby.mp h;split
  ·rename_i dR;exact zby.mpr ⟨λ z hz=>by
    rcases za9.mp hz with rfl|hz
    ·exact dR
    ·have:=hy.1 z hz;omega,h⟩
  ·rename_i dR;have:=hx y za3;exact zby.mpr ⟨λ z hz=>by
    rcases za9.mp ((LQ x r).mem_iff.mp hz) with rfl|hz
    ·omega
    ·exact hy.1 z hz,Vu (λ z hz=>hx z (za4 _ hz)) hy.2⟩
theorem Sn:∀ {l:List (Int×Int)},(∀q∈l,0<=q.2/\q.2<1000)->l.Nodup->(Mf l).Pairwise λ p q=>JX p<JX q
 |[],_,_=>.nil
 |x::r,hb,hn=>by
  have dW:=zbi.mp hn;refine Vu (λ y hy e=>?_) (Sn (λ q hq=>hb q (za4 _ hq)) dW.2);have ik:=(EU r).mem_iff.mp hy;have:=Vt (hb x za3) (hb y (za4 _ ik)) e;subst this;exact dW.1 ik
theorem Vv:∀ {a b:List (Int×Int)},a.Perm b->a.Pairwise (λ p q=>JX p<JX q)->b.Pairwise (λ p q=>JX p<JX q)->a=b
 |[],b,hp,_,_=>(List.nil_perm.mp hp).symm
 |x::r,[],hp,_,_=>by have:=hp.length_eq;simp at this
 |x::r,y::t,hp,ha,hb=>by
  have l7:=zby.mp ha;have bZ:=zby.mp hb;have e:x=y:=by
   have h1:x∈y::t:=hp.mem_iff.mp za3;have h2:y∈x::r:=hp.mem_iff.mpr za3;rcases za9.mp h1 with e|h1
   ·exact e
   rcases za9.mp h2 with e|h2
   ·exact e.symm
   have:=l7.1 _ h2;have:=bZ.1 _ h1;omega
  subst e;rw[Vv (List.Perm.cons_inv hp) l7.2 bZ.2]
section
variable {X:Cx}{WX:Str->Hp->Prop}{c:Bool}{P0:E7}{P:Addr->Prop}{H:Hp}{σ:St}{ρ:Aa}{a b e:Expr}{f g:Aa->M D}{fn:Aa->M OT}{pos:Pos}{te:TE}
noncomputable def uU (te:TE):TE:=λ σ H Q=>te σ H λ x H1=>∃a kvs ps,x=.ref a/\Rd H1 a (.dT kvs)/\kvs.map zbg=ps.map Xx/\(∀q∈ps,0<=q.2/\q.2<1000)/\ps.Nodup/\ps.length<64/\
 ∀ts:List Addr,ts.length=ps.length->(∀(i:Nat) t q,ts[i]?=some t->(Mf ps)[i]?=some q->H1 t=some (.tup ((Xx q).map kV)))->∀r,H1 r=none->Q (.ref r) (upd H1 r (.lst (ts.map V.ref)))
theorem Vw {s:Shared}{pins:List (Addr×Obj)}(I:Inv X pins σ H s){t:Addr}{q:Int×Int}(h:H t=some (.tup ((Xx q).map kV))):BH s.heap (.ref t) q:=by
 obtain⟨_,aa,r,o,h1,h2,n,h3⟩:=(show BK X.prog X.w H s.heap t (.tup ((Xx q).map kV)) from I.AE t _ h);have r':Vals [V.int q.1,V.int q.2] aa:=r;obtain⟨v1,r1,rfl,e1,r2⟩:∃v1 r1,aa=v1::r1/\RelV (.int q.1) v1/\Vals [V.int q.2] r1:=by
  cases r' with
  |cons a b=>exact⟨_,_,rfl,a,b⟩
 obtain⟨v2,r3,rfl,e2,r4⟩:∃v2 r3,r1=v2::r3/\RelV (.int q.2) v2/\Vals [] r3:=by
  cases r2 with
  |cons a b=>exact⟨_,_,rfl,a,b⟩
 cases r4;obtain⟨t1,rfl⟩:=e1;obtain⟨t2,rfl⟩:=e2;exact⟨t,o,t1,t2,n,rfl,h1,h2,h3⟩
theorem So:∀l:List Addr,Vals (l.map V.ref) (l.map zbe)
 |[]=>.nil
 |t::r=>.cons rfl (So r)
theorem Vx:∀ {kvs:List (List Key×V)}{ps:List (Int×Int)},(kvs.map λ kv=>D.tup (kv.1.map Fn))=ps.map pD->kvs.map zbg=ps.map Xx
 |[],[],_=>rfl
 |[],_::_,h|_::_,[],h=>by cases h
 |kv::kvs,q::ps,h=>by
  rw[za8,za8] at h;injection h with h1 h2
  injection h1 with h1
  have e:kv.1=Xx q:=Vo (h1.trans rfl);rw[za8,za8,Vx h2,e]
theorem Ue {p:Pos}(hc:X.calm=true)(hg:Gl X "sorted")(hm:X.mg "sorted" = none)(he:PE X e te)
 (hv:bootBuiltins "sorted" = some (.builtin "sorted"):=by decide +kernel) (hs:starEach [e] X.env=[(false,eval e X.env)]:=by rfl):
 PE X (.Call (.Name "sorted" p) [e] [] pos) (uU te):=by
 intro pins s σ H Q I h;refine wpAny_Call_Name_kw (Fi I hg hm hv ?_);refine PyProof.Rows.callWith_builtin1 ?_ hs;rw[hs];refine Calls.spliced_cons (BA (he pins s σ H _ I h) λ u s1 ⟨x,H1,I1,r1,q1⟩=>?_);obtain⟨l,kvs,ps,rfl,ha,hk,hb,hn,sq,h⟩:=q1;cases r1;refine Calls.spliced_nil ?_;obtain⟨n1,es,ep,xs,r,da⟩:=qQ I1 ha;have zs:=size_of_entries da.en;have zk:kvs.length=ps.length:=by have:=congrArg List.length hk;rwa[za5,za5] at this
 have zx:kvs.length=xs.length:=Paired.length r;have eR:∀(i:Nat) (hi:i<es.size),∃t q,es[i].key=.ref t/\ps[i]?=some q/\H1 t=some (.tup ((Xx q).map kV)):=λ i hi=>by
  obtain⟨y,hy⟩:∃y,xs[i]?=some y:=⟨xs[i]'(by omega),zaf _⟩;have ex:=entry_at da.en i;rw[zcr hi,hy] at ex;obtain⟨kv,g1,g2⟩:=uT.get r hy;obtain⟨q,hq⟩:∃q,ps[i]?=some q:=⟨ps[i]'(by omega),zaf _⟩;have e:=congrArg (λ l=>l[i]?) hk;rw[zat,zat,g1,hq] at e;have e2:kv.1=Xx q:=zax e;rw[e2] at g2;exact⟨y.2.1,q,by rw[zax ex];rfl,hq,g2⟩
 refine Xa (I1.ok.hd hc) n1 da.ob (by omega) (by omega) (λ i hi q hq=>?_) hb hn λ h' tk D c I vs kp hD hvl cB hl i1 i2=>?_
 ·obtain⟨t,q',k1,k2,k3⟩:=eR i hi;rw[hq] at k2;cases k2;rw[k1];exact Vw I1 k3
 ·obtain⟨tf,xb⟩:∃tf:Nat->Addr,∀i,i<es.size->∃q,vs[i]?=some (.ref (tf i))/\ps[i]?=some q/\H1 (tf i)=some (.tup ((Xx q).map kV)):=⟨λ i=>if hi:i<es.size then zab (eR i hi) else 0,λ i hi=>by
   dsimp only;rw[dif_pos hi];obtain⟨q,k1,k2,k3⟩:=za2 (eR i hi);exact⟨q,(cB i hi).trans (congrArg some k1),k2,k3⟩⟩
  have hI:∀i∈I,i<es.size:=λ i hi=>by simpa using i1.mem_iff.mp hi
  have eo:(I.map λ i=>ps.getD i (0,0))=Mf ps:=by
   refine Vv (List.Perm.trans ?_ (EU ps).symm) i2 (Sn hb hn);refine (i1.map _).trans (.of_eq ?_);apply List.ext_getElem?;intro i;rw[zat];by_cases hi:i<es.size
   ·rw[List.getElem?_range hi];obtain⟨q,hq⟩:∃q,ps[i]?=some q:=⟨ps[i]'(by omega),zaf _⟩;rw[zc0,zb0,hq];rfl
   ·rw[zca (by simp;omega),zca (by omega)];rfl
  have ev:(I.map λ i=>vs.getD i zco)=(I.map tf).map zbe:=by
   rw[zbz];refine List.map_congr_left λ i hi=>?_;obtain⟨q,k1,_,_⟩:=xb i (hI i hi);rw[zb0,k1];rfl
  rw[ev] at hl;have hIl:I.length=es.size:=by have:=i1.length_eq;simpa using this
  refine⟨.ref D,_,I1.laid (t':=tk) (o:=.lst ((I.map tf).map V.ref)) kp hD ⟨?_,(I.map tf).map zbe,c,So _,hl⟩,rfl,h (I.map tf) (by rw[za5];omega) (λ i t q ht hq=>?_) D (I1.AE.fresh hD)⟩
  ·rw[za5,za5];exact zbl (AS (by omega))
  ·rw[<-eo] at hq;rw[zat] at ht hq;cases qi:I[i]? with
   |none=>rw[qi] at ht;cases ht
   |some j =>
    rw[qi] at ht hq;cases ht;have hj:=hI j (zag qi);obtain⟨q',_,k2,k3⟩:=xb j hj;have:q=q':=by
     have:ps.getD j (0,0)=q:=zax hq;rw[zb0,k2] at this;exact this.symm
    subst this;exact k3
noncomputable def Ug:D->Option (Int×Int)
 | .tup [.int x,.int y]=>some (x,y)
 |_=>none
theorem Sq {k:D}{q:Int×Int}(h:Ug k=some q):k=pD q:=by
 unfold Ug at h;split at h
 ·cases h;rfl
 ·cases h
noncomputable def kK:List D->Option (List (Int×Int))
 |[]=>some []
 |k::r=>(match Ug k,kK r with|some q,some ps=>some (q::ps)|_,_=>none)
theorem QM:∀ps:List (Int×Int),kK (ps.map pD)=some ps
 |[]=>rfl
 |p::r=>by
  have e:Ug (pD p)=some p:=rfl;rw[za8,kK,e,QM r]
theorem QN:∀ {ks:List D}{ps:List (Int×Int)},kK ks=some ps->ks=ps.map pD
 |[],ps,h=>by cases h;rfl
 |k::r,ps,h=>by
  rw[kK] at h;cases q1:Ug k with
  |none=>rw[q1] at h;cases h
  |some q =>
   cases q2:kK r with
   |none=>rw[q1,q2] at h;cases h
   |some ye =>
    rw[q1,q2] at h;cases h;rw[za8,Sq q1,QN q2]
noncomputable def kL (d:D):M OT:=match d with
 | .Bl true ks _=>(match kK ks with|some ps=>if (∀q∈ps,0<=q.2/\q.2<1000)/\ps.Nodup/\ps.length<64 then .ok (.lst (((Mf ps).map pD).map .sh)) else .bad|none=>.bad)
 |_=>.bad
theorem Sr {K:za0}{H:Hp}{P:Addr->Prop}(ht:∀a,P a->E6 H a):∀ {ts:List Addr}{ps:List (Int×Int)},ts.length=ps.length->(∀(i:Nat) t q,ts[i]?=some t->ps[i]?=some q->H t=some (.tup ((Xx q).map kV)))->Aj K (del H P) (ts.map V.ref) (ps.map pD)
 |[],[],_,_=>.nil
 |[],_::_,h,_|_::_,[],h,_=>by cases h
 |t::ts,q::ps,h,hh=>by
  have h0:=hh 0 t q rfl rfl;have nt:¬ P t:=λ z=>by
   obtain⟨ob,z1,z2⟩:=ht t z;rw[h0] at z1;cases z1;exact (z2 _).1 rfl
  refine .cons ?_ (Sr ht (by simpa using h) λ i t' q' h1 h2=>hh (i+1) t' q' h1 h2);exact .tup (xs:=(Xx q).map kV) (by rw[AQ nt];exact h0) (.cons (.int _) (.cons (.int _) .nil))
theorem Uh {p:Pos}(hc:X.calm=true)(hg:Gl X "sorted")(hm:X.mg "sorted" = none)(he:DE X WX true e f)
 (hv:bootBuiltins "sorted" = some (.builtin "sorted"):=by decide +kernel) (hs:starEach [e] X.env=[(false,eval e X.env)]:=by rfl):
 DN X WX (.Call (.Name "sorted" p) [e] [] pos) (λ ρ=>(f ρ).bind kL):=by
 obtain⟨te,e1,e2⟩:=he;refine⟨_,Ue hc hg hm e1 hv hs,λ P0 P σ H Q ρ E h=>?_⟩;refine e2 P0 P σ H _ ρ E ?_;dsimp only at h;cases q:f ρ with
 |bad|ex x=>rw[q] at h;exact h
 |ok d =>
  rw[q] at h;simp only[M.A8] at h;intro v H1 s1 hv;unfold kL at h;split at h
  ·rename_i ks vs;split at h
   ·rename_i ps eb;have ek:=QN eb;split at h
    ·rename_i hl;cases hv with
     | @Jr a kvs _ hh cA =>
      have tk:=(E.same s1).Ci;exact⟨a,kvs,ps,rfl,hh.Bs,Vx ek,hl.1,hl.2.1,hl.2.2,λ ts h1 h2 r hr=>h.Jy s1 (Sr tk (by rw[(EU ps).length_eq];exact h1) h2) r hr⟩
    ·exact h.elim
   ·exact h.elim
  ·exact h.elim
end
noncomputable def kM (A:LA):List (Int×Int):=Mf (A.map zbg)
theorem QO {A:LA}{p:Int×Int}:p∈kM A↔(Bv A p).isSome=true:=by
 unfold kM;rw[(EU _).mem_iff,IV]
noncomputable def Zx (rs:List Road)(p c:Int×Int)(i:Nat):Bool:=match rs[i]? with
 |some r=>decide (r.a=p.1/\r.b=p.2/\Cu r=some c)
 |none=>false
noncomputable def Mt (rs:List Road)(p c:Int×Int):Nat:=((zav rs.length).filter (Zx rs p c)).headD 0
theorem Vy {rs:List Road}{p c:Int×Int}(h:∃r∈rs,r.a=p.1/\r.b=p.2/\Cu r=some c):∃(r:Road) (t:List Nat),(zav rs.length).filter (Zx rs p c)=Mt rs p c::t/\rs[Mt rs p c]?=some r/\r.a=p.1/\r.b=p.2/\Cu r=some c:=by
 obtain⟨r,hr,h1⟩:=h;obtain⟨i,hi⟩:=List.mem_iff_getElem?.mp hr;have hm:i∈(zav rs.length).filter (Zx rs p c):=zbo.mpr ⟨zcs.mpr (zan.mp hi).1,by unfold Zx;rw[hi];exact decide_eq_true h1⟩;unfold Mt;cases q:(zav rs.length).filter (Zx rs p c) with
 |nil=>rw[q] at hm;cases hm
 |cons n t =>
  have hn:n∈(zav rs.length).filter (Zx rs p c):=by rw[q];exact za3
  have hb:=(zbo.mp hn).2;unfold Zx at hb;cases z:rs[n]? with
  |none=>rw[z] at hb;cases hb
  |some r' =>
   rw[z] at hb;have bZ:r'.a=p.1/\r'.b=p.2/\Cu r'=some c:=by simpa using hb
   exact⟨r',t,rfl,z,bZ⟩
noncomputable def mB (rs:List Road)(A:LA):Nat->Int×Int->List Nat
 |0,_=>[]
 |k+1,p=>match Bv A p with
  |none=>[]
  |some (c,none)=>[Mt rs p c]
  |some (_,some q)=>mB rs A k (p.1,q)++mB rs A k (q,p.2)
noncomputable def Q7 (L:List Int)(p:Int×Int):Nat:=min (DQ L p.1) (DQ L p.2)
inductive Xc (rs:List Road):Int->List Nat->Int->Int->Prop
 |nil (x:Int):Xc rs x [] x 0
 |cons {x y l s:Int} {n:Nat} {N:List Nat} {r:Road}:rs[n]?=some r->r.a=x->r.l=some l->Xc rs r.b N y s->Xc rs x (n::N) y (l+s)
theorem Xc.tU {rs:List Road}{x q y s t:Int}{N M:List Nat}(h:Xc rs x N q s)(k:Xc rs q M y t):Xc rs x (N++M) y (s+t):=by
 induction h with
 |nil x=>simpa using k
 |cons h1 h2 h3 _ ih =>
  have:=Xc.cons h1 h2 h3 (ih k);simpa [Int.add_assoc] using this
theorem Xc.inv {rs:List Road}{x y s:Int}{n:Nat}{N:List Nat}(h:Xc rs x (n::N) y s):∃r l t,rs[n]?=some r/\r.a=x/\r.l=some l/\Xc rs r.b N y t/\s=l+t:=by
 cases h with
 |cons h1 h2 h3 h4=>exact⟨_,_,_,h1,h2,h3,h4,rfl⟩
section
variable {m:Nat}{rs:List Road}{L:List Int}{A:LA}{K:List (Int×Int)}
theorem IX (ok:ER m rs L A K){p c:Int×Int}{mid:Option Int}(h:Bv A p=some (c,mid)):(p.1∈L/\p.2∈L/\p.1≠p.2)/\(mid=none->∃r∈rs,r.a=p.1/\r.b=p.2/\Cu r=some c)/\∀q,mid=some q->DQ L q<Q7 L p/\q∈L/\∃a b ma mb,Bv A (p.1,q)=some (a,ma)/\Bv A (q,p.2)=some (b,mb)/\c=(a.1+b.1,a.2+b.2):=by
 obtain⟨x,y⟩:=p;have hn:=NV ok.pm;rw[ok.la] at h;have me:A9 (Bp rs L) (x,y)=some c:=by unfold A9;rw[h];rfl
 obtain⟨_,au,zn,zo⟩:=(NW ok.pm ok.ok).2.snd x y c me;have hx:=(D4 ok.pm).mpr zn;have hy:=(D4 ok.pm).mpr zo;have hf:=X7 (rs:=rs) hn hx hy au;have h0:∀c p,Bv (lay0 rs) (x,y)≠some (c,some p):=λ c p h=>by cases (Vn rs x y c _ h).1
 have hF:=qO (cd:=λ p=>AZ (A9 (Bp rs L) (x,p)) (A9 (Bp rs L) (p,y))) h0 (L.take (min (DQ L x) (DQ L y)));unfold kC at hf;rw[<-hf] at hF;refine⟨⟨hx,hy,au⟩,λ e=>?_,λ q e=>?_⟩
 ·subst e;exact (Vn rs x y c none (hF.AK c h)).2
 ·subst e;obtain⟨⟨W1,W2,e1,e2,_⟩,_⟩:=hF.mid c q h;have hq:q∈L.take (min (DQ L x) (DQ L y)):=by rw[e1];simp
  obtain⟨q1,q2⟩:=Sk hn hq;obtain⟨a,b,ha,hb,rfl⟩:=IT e2;have ex:∀ {z:Int×Int} {d:Int×Int},A9 (Bp rs L) z=some d->∃md,Bv A z=some (d,md):=fun {z d} hd=>by
   rw[ok.la];unfold A9 at hd;cases w:Bv (Bp rs L) z with
   |none=>rw[w] at hd;cases hd
   |some v=>rw[w] at hd;cases hd;exact⟨v.2,rfl⟩
  obtain⟨ma,h1⟩:=ex ha;obtain⟨mb,h2⟩:=ex hb;exact⟨q2,q1,a,b,ma,mb,h1,h2,rfl⟩
theorem Zy {p:Int×Int}{q:Int}(h:DQ L q<Q7 L p):Q7 L (p.1,q)=DQ L q/\Q7 L (q,p.2)=DQ L q:=by
 unfold Q7 at *;dsimp only;omega
theorem KD (ok:ER m rs L A K):∀(k k':Nat) (p:Int×Int),Q7 L p<k->Q7 L p<k'->mB rs A k p=mB rs A k' p
 |0,_,_,h,_|_+1,0,_,_,h=>absurd h (Nat.not_lt_zero _)
 |k+1,k'+1,p,h,h'=>by
  unfold mB;cases q:Bv A p with
  |none=>rfl
  |some z =>
   obtain⟨c,mid⟩:=z;cases mid with
   |none=>rfl
   |some v =>
    obtain⟨_,_,h3⟩:=IX ok q;obtain⟨hv,_,_⟩:=h3 v rfl;obtain⟨e1,e2⟩:=Zy hv;dsimp only;rw[KD ok k k' (p.1,v) (by omega) (by omega),KD ok k k' (v,p.2) (by omega) (by omega)]
noncomputable def CU (rs:List Road)(L:List Int)(A:LA)(p:Int×Int):List Nat:=mB rs A (Q7 L p+1) p
theorem Ss (ok:ER m rs L A K){p c:Int×Int}{v:Int}(h:Bv A p=some (c,some v)):CU rs L A p=CU rs L A (p.1,v)++CU rs L A (v,p.2):=by
 obtain⟨_,_,h3⟩:=IX ok h;obtain⟨hv,_,_⟩:=h3 v rfl;obtain⟨e1,e2⟩:=Zy hv
 conv=>lhs;unfold CU mB;rw[h]
 dsimp only;unfold CU;rw[KD ok (Q7 L p) (Q7 L (p.1,v)+1) (p.1,v) (by omega) (by omega),KD ok (Q7 L p) (Q7 L (v,p.2)+1) (v,p.2) (by omega) (by omega)]
theorem Q8 {p c:Int×Int}(h:Bv A p=some (c,none)):CU rs L A p=[Mt rs p c]:=by
 unfold CU mB;rw[h]
structure uV (rs:List Road)(L:List Int)(p c:Int×Int)(N:List Nat):Prop where
 ch:Xc rs p.1 N p.2 c.1
 ln:(N.length:Int)=c.2
 ne:1<=N.length
 up:N.length<=2^Q7 L p
 lo:∀n∈N.tail,∀r,rs[n]?=some r->DQ L r.a<Q7 L p
theorem O0 (ok:ER m rs L A K):∀(k:Nat){p c:Int×Int}{mid:Option Int},Q7 L p=k->Bv A p=some (c,mid)->uV rs L p c (CU rs L A p):=by
 intro k;induction k using Nat.strongRecOn with
 |ind k ih =>
  intro p c mid hk h;obtain⟨_,h2,h3⟩:=IX ok h;cases mid with
  |none =>
   rw[Q8 h];obtain⟨r,t,_,hr,ha,hb,hc⟩:=Vy (h2 rfl);obtain⟨l,hl,rfl⟩:=Kx hc;refine⟨?_,rfl,zal _,Nat.one_le_two_pow,λ n hn=>by cases hn⟩;have:=Xc.cons hr ha hl (.nil r.b);rw[hb] at this;simpa using this
  |some v =>
   obtain⟨hv,_,a,b,ma,mb,f1,f2,rfl⟩:=h3 v rfl;obtain⟨e1,e2⟩:=Zy hv;have u1:=ih (DQ L v) (by omega) e1 f1;have u2:=ih (DQ L v) (by omega) e2 f2;rw[Ss ok h];have p2:2^(DQ L v)+2^(DQ L v)<=2^Q7 L p:=by
    have:2^(DQ L v+1)<=2^Q7 L p:=Nat.pow_le_pow_right (by decide) (by omega);rw[Nat.pow_succ] at this;omega
   have l1:=u1.up;have l2:=u2.up;rw[e1] at l1;rw[e2] at l2;refine⟨u1.ch.tU u2.ch,?_,?_,?_,λ n hn r hr=>?_⟩
   ·rw[zah,Int.natCast_add,u1.ln,u2.ln]
   ·rw[zah];have:=u1.ne;omega
   ·rw[zah];omega
   ·have n1:=u1.ne;rcases zar.mp (by
     have:(CU rs L A (p.1,v)++CU rs L A (v,p.2)).tail=(CU rs L A (p.1,v)).tail++CU rs L A (v,p.2):=by
      cases q:CU rs L A (p.1,v) with
      |nil=>rw[q] at n1;cases n1
      |cons x xs=>rfl
     rw[this] at hn;exact hn) with hn|hn
    ·have:=u1.lo n hn r hr;omega
    ·cases q:CU rs L A (v,p.2) with
     |nil=>rw[q] at hn;cases hn
     |cons x xs =>
      rw[q] at hn;rcases za9.mp hn with rfl|hn
      ·have ch:=u2.ch;rw[q] at ch;obtain⟨r',_,_,g1,g2,_⟩:=ch.inv;rw[g1] at hr;cases hr;rw[g2];exact hv
      ·have:=u2.lo n (by rw[q];exact hn) r hr;omega
end
noncomputable def xN (m:Nat):List (Nat×Nat):=(zav m).flatMap λ i=>((zav m).filter λ j=>decide (i≠j)).map λ j=>(i,j)
theorem kN:∀m,m<=8->(xN m).length<64:=by decide
theorem EQ.xO {m:Nat}{A:LA}(h:EQ m A)(hm:m<=8):(A.map zbg).length<64:=by
 have key:=LG (l:=A.map zbg) (u:=(xN m).map λ q=>((q.1:Int),(q.2:Int))) h.nd λ p hp=>by
  obtain⟨h0,h1,h2⟩:=h.rg p hp;refine zay.mpr ⟨(p.1.toNat,p.2.toNat),List.mem_flatMap.mpr ⟨p.1.toNat,zcs.mpr (by omega),zay.mpr ⟨p.2.toNat,zbo.mpr ⟨zcs.mpr (by omega),decide_eq_true (by omega)⟩,rfl⟩⟩,?_⟩;dsimp only;rw[Int.toNat_of_nonneg h1.1,Int.toNat_of_nonneg h2.1]
 have:=kN m hm;rw[za5 (as:=xN m)] at key;omega
theorem kO {m:Nat}{A:LA}(hA:EQ m A)(hm:m<=8):kL (HK A)=.ok (.lst (((kM A).map pD).map .sh)):=by
 have e:HK A=.Bl true ((A.map zbg).map pD) (A.map λ kv=>Sh kv.2):=by unfold HK;rw[zbz];rfl
 rw[e];unfold kL;dsimp only;rw[QM];dsimp only;rw[if_pos ⟨λ q hq=>by have:=(hA.rg q hq).2.2;omega,hA.nd,hA.xO hm⟩];rfl
theorem Xd (rs:List Road):Jg 0 (rs.map Cq)=(zav rs.length).map λ i:Nat=>D.tup [.int (i:Int),Cq (rs.getD i ⟨0,0,none,0⟩)]:=by
 apply List.ext_getElem?;intro i;rw[zat];by_cases hi:i<rs.length
 ·obtain⟨e,he⟩:∃e,(Jg 0 (rs.map Cq))[i]?=some e:=⟨_,zaf (by rw[FL,za5];exact hi)⟩;obtain⟨d,hd,rfl⟩:=Ln he;obtain⟨r,hr,rfl⟩:=Cb hd;rw[he,List.getElem?_range hi,zc0,zb0,hr,Nat.zero_add];rfl
 ·rw[zca (by rw[FL,za5];omega),zca (by rw[List.length_range];omega)];rfl
theorem Xe {ρ:Aa}{i:Nat}{xs:List D}{d:D}(h:ρ[i]?=some (some (.own (xs++[d])))):Z3 i ρ [] (xs++[d])=.ok (ρ.set i (some (.own xs)),.sh d):=by
 rw[V6 h (p:=none) (t:=.lst ((xs++[d]).map .sh)) rfl (d:=d) (by simp)];rw[CZ,List.dropLast_concat,toCl_list]
noncomputable def Su (rs:List Road)(L:List Int)(A:LA)(W:List (Int×Int)):List Nat:=W.flatMap (CU rs L A)
noncomputable def mC (rs:List Road)(L:List Int)(A:LA):List (Int×Int)->Nat
 |[]=>0
 |p::W=>2*(CU rs L A p).length-1+mC rs L A W
theorem QP {m:Nat}{rs:List Road}{L:List Int}{A:LA}{K:List (Int×Int)}(ok:ER m rs L A K):∀ {W:List (Int×Int)},(∀p∈W,(Bv A p).isSome=true)->W.length<=(Su rs L A W).length
 |[],_=>zal _
 |p::W,h=>by
  obtain⟨z,hz⟩:=zbs.mp (h p za3);have:=(O0 ok _ (c:=z.1) (mid:=z.2) rfl hz).ne;have ih:=QP ok λ q hq=>h q (za4 _ hq);show W.length+1<=(CU rs L A p++Su rs L A W).length;rw[zah];omega
def xP (K:za0)(WX:Str->Hp->Prop)(P:Addr->Prop)(p:Addr)(fp:List Addr)(H:Hp)(Q:VK):M (OT×OT)->Prop
 | .ok tr=>uF K WX P p fp H Q (.ok tr)
 | .ex x=>∀H' P',(∀a,P a->a∉fp->H' a=H a)->Ag (del H P) (del H' P')->WX x H'
 | .bad=>False
noncomputable def mD (K:za0)(n:Nat)(F:OT->List D->M (OT×OT)):Sp:=λ vs H Q E=>vs.length=n/\∃P p t fp rest bT,vs=.ref p::rest/\(∀a,P a->E6 H a)/\(∀a∈fp,P a)/\fp.Nodup/\C6 K H P (.ref p) t fp/\Aj K (del H P) rest bT/\xP K (Df K E) P p fp H Q (F t bT)
noncomputable def LR (m:M Out):M (OT×OT):=match m with
 | .ex x=>.ex x
 | .ok o=>Fs (.ok o)
 | .bad=>.bad
section
variable {P:Program}{w:World}{K:za0}{mg:Str->Option Value}{base:Heap}
theorem qU {x qual:Str}{st:Stmt}{f:Addr}{fd:FuncData}{N ps:List Str}{k:Nat}(F:pT K x qual st f fd)(S:Ak N ps (A6 st))(g:Aa->M Out)
 (hb:∀(Bf:Value) (A:Around) (outer:List Env) (s:Shared) (H:Hp) (E:XK),BW k (A.deeper (envOfC qual (A6 st) s.heap.objs.size f Bf))->Pg (US P w K mg base N qual (A6 st) f Bf A outer s H E) (Df K E) (AM st) g):
 E8 P w K mg base (UR P w base) (k+1) f fd ps (mD K ps.length λ t bT=>LR (g (CS N t bT))):=by
 obtain⟨oc,od,dV,kV,doc,pm,an,Bf,ct,T7,rfl,lk,de⟩:=F.ex;refine UI lk de S (λ vs H Q E h=>h.1) λ A outer s H vs Q E hr h=>?_;obtain⟨hl,P',p,t,fp,rest,bT,rfl,ht,hp,nd,ho,hv,hq⟩:=h;obtain⟨tt,h1,h2⟩:=hb Bf A outer s H E hr;refine⟨tt,h1,h2 ⟨λ a=>P' a/\a∉fp,λ _=>p⟩ P' _ H _ _ (Ko ht hp nd ho hv) ?_⟩;dsimp only at hq;revert hq;cases g (CS N t bT) with
 |bad=>exact λ h=>h.elim
 |ex x=>exact λ h H' P2 t2=>h H' P2 (λ a ha hn=>t2.2 a ⟨ha,hn⟩) t2.1
 |ok o =>
  have sub:∀ {P2:Addr->Prop} {H2:Hp} {σ2:St} {ρ:Aa},Al K ⟨λ a=>P' a/\a∉fp,λ _=>p⟩ P2 H2 σ2 ρ->∀a,P2 a/\¬ (P' a/\a∉fp)->P2 a/\(P' a->a∈fp):=λ E a ha=>⟨ha.1,λ z=>Classical.byContradiction λ w=>ha.2 ⟨z,w⟩⟩;cases o with
  |ret d|Cm d=>exact λ h=>h.elim
  |next ρ =>
   intro hq σ' H' P2 t2 E2;unfold LR Fs at hq;dsimp only at hq;split at hq
   ·rename_i t' e;obtain⟨c,aO,k1,k2,k3,k4,k5,k6⟩:=MG E2 e;exact hq .AK H' P2 aO [] (λ a ha hn=>⟨E2.sub a ⟨ha,hn⟩,t2.2 a ⟨ha,hn⟩⟩) E2.Ci t2.1 k4 k5 (.sh .AK) zcj (λ a ha=>by cases ha) (λ a ha=>sub E2 a (k6 a ha)) (λ a ha=>by cases ha)
   ·exact hq.elim
  |EK r ρ =>
   intro hq v fr σ' H' P2 t2 E2 o2 cW hf;unfold LR Fs at hq;dsimp only at hq;split at hq
   ·rename_i t' e;obtain⟨c,aO,k1,k2,k3,k4,k5,k6⟩:=MG E2 e;exact hq v H' P2 aO fr (λ a ha hn=>⟨E2.sub a ⟨ha,hn⟩,t2.2 a ⟨ha,hn⟩⟩) E2.Ci t2.1 k4 k5 o2 cW (λ a ha=>(hf a ha).2.2 0 c _ aO k1 k2 k3) (λ a ha=>sub E2 a (k6 a ha)) (λ a ha=>sub E2 a ⟨(hf a ha).1,(hf a ha).2.1⟩)
   ·exact hq.elim
  |brk ρ|cont ρ=>exact λ h=>h.elim
structure Vz (P:Program)(w:World)(K:za0)(mg:Str->Option Value)(base:Heap)(x:Str)(k n:Nat)(F:OT->List D->M (OT×OT)):Prop where
 ex:∃C fa fd ps,uL K mg x C/\Mk K C fa/\E8 P w K mg base (UR P w base) k fa fd ps (mD K n F)/\Binds K fd ps []
theorem Zz {x qual:Str}{st:Stmt}{N ps:List Str}{k n:Nat}(T:U0 K mg x qual st ps)(S:Ak N ps (A6 st))(g:Aa->M Out)
 (hb:∀(f:Addr) (Bf:Value) (A:Around) (outer:List Env) (s:Shared) (H:Hp) (E:XK),BW k (A.deeper (envOfC qual (A6 st) s.heap.objs.size f Bf))->Pg (US P w K mg base N qual (A6 st) f Bf A outer s H E) (Df K E) (AM st) g) (hn:ps.length=n:=by rfl):
 Vz P w K mg base x (k+1) n (λ t bT=>LR (g (CS N t bT))):=by
 obtain⟨C,f,fd,h1,h2,F,hB⟩:=T.ex;subst hn;exact⟨⟨C,f,fd,ps,h1,h2,qU F S g (hb f),hB.1⟩⟩
noncomputable def Q9 (m:M (OT×OT)):M OT:=match m with
 | .ok (t,.sh .AK)=>.ok t
 | .ex x=>.ex x
 |_=>.bad
end
section
variable {X:Cx}{E:XK}{WX:Str->Hp->Prop}{c:Bool}{e:Expr}{es:List Expr}{fs:Aa->M (List D)}{pos:Pos}{H:Hp}
theorem Sv {x:Str}{k n:Nat}{F:OT->List D->M (OT×OT)}{p:Pos}(xo:XCall X E)(G:Vz X.prog X.w X.K X.mg X.base x k n F)(hr:BW (k+1) X.A)(hg:Gl X x)(ha:DA X (Df X.K E) true (e::es) fs)(dG:(e::es).length+1=n)
 (cC:(x==("__debug__" : Str))=false:=by decide) (he:starEach (e::es) X.env=(false,eval e X.env)::starEach es X.env:=by rfl) (bU:(backTo pos (starEach es X.env)).any (·.1)=false:=by rfl):
 DN X (Df X.K E) (.Call (.Name x p) (e::es) [] pos) (λ ρ=>(fs ρ).bind λ ds=>Q9 (F (.ins x [] []) ds)):=by
 obtain⟨C,fa,fd,ps,hT,hM,hF,hb⟩:=G.ex;obtain⟨ta,a1,a2,a3⟩:=ha;refine⟨_,fT hM hF hr hg hT.yY hb .nil xo.call a1 cC he bU,λ P0 P σ H Q ρ Ev h=>?_⟩;dsimp only at h;refine a2 P0 P σ H _ ρ Ev ?_;cases q:fs ρ with
 |bad|ex x=>rw[q] at h;exact h
 |ok ds =>
  rw[q] at h;simp only[M.A8] at h;intro vs H1 s1 cB y dx hy hd au;rw[zbj];have E1:=Ev.same s1;have sm:=WJ (C:=C) hy hd;have eI:∀a∈[y],H1 a=none:=λ a ha=>by rw[zaj.mp ha];exact hy
  refine⟨by rw[zad,cB.length,a3 ρ ds q];exact dG,PU P [y],y,.ins x [] [],[y],vs,ds,rfl,λ a ha=>?_,λ a ha=>.inr ha,by simp,C6.ins (fs:=[]) hT.ns AU .nil,cB.mono (Fb sm eI),?_⟩
  ·rcases ha with ha|ha
   ·exact (E1.Ci a ha).same sm
   ·rw[zaj.mp ha];exact⟨_,AU,λ xs=>⟨(λ z=>by cases z),(λ z w=>by cases w)⟩⟩
  ·cases q2:F (.ins x [] []) ds with
   |bad=>rw[q2] at h;exact h
   |ex z =>
    rw[q2] at h;refine λ H' P' k1 k3=>h H' λ b u eb=>?_;have e1:=s1 b u eb;have gf:b≠y:=λ z=>by rw[z,hy] at e1;cases e1
    have e2:=sm b u e1;by_cases hP:P b
    ·exact (k1 b (.inl hP) (by simp[gf])).trans e2
    ·exact (Ax (k3 b u (by rw[AQ λ z=>z.elim hP λ w=>gf (zaj.mp w)];exact e2))).2
   |ok tr =>
    obtain⟨t,r⟩:=tr;rw[q2] at h;simp only[Q9] at h;intro v H' P' aO fr k1 k2 k3 k4 k5 k6 k7 k8 k9 wv;cases r with
    |sh d =>
     cases d with
     |AK =>
      cases k6 with
      |sh hv =>
       cases hv;refine⟨rfl,h _ aO H' ?_ ?_ k5 ?_⟩
       ·intro b u eb;have e1:=s1 b u eb;have gf:b≠y:=λ z=>by rw[z,hy] at e1;cases e1
        have e2:=sm b u e1;by_cases hP:P b
        ·exact (k1 b (.inl hP) (by simp[gf])).2.trans e2
        ·exact (Ax (k3 b u (by rw[AQ λ z=>z.elim hP λ w=>gf (zaj.mp w)];exact e2))).2
       ·intro b xf;cases eb:H b with
        |none=>rfl
        |some u =>
         exfalso;have e1:=s1 b u eb;have gf:b≠y:=λ z=>by rw[z,hy] at e1;cases e1
         have e2:=sm b u e1;have hn:=λ z=>gf (zaj.mp ((k9 b xf).2 z));exact (Ax (k3 b u (by rw[AQ hn];exact e2))).1 (k9 b xf).1
       ·refine k4.move (λ b u eb=>?_) λ _ _=>rfl;obtain⟨g1,g2⟩:=Ax eb;rw[AQ]
        ·exact g2
        ·rintro (z|z)
         ·have gf:b≠y:=λ w=>by
           obtain⟨o,e1,_⟩:=E1.Ci b z;rw[w,hy] at e1;cases e1
          exact g1 (k1 b (.inl z) (by simp[gf])).1
         ·exact g1 (k9 b z).1
     |_=>exact h.elim
    |_=>exact h.elim
end
noncomputable def rL (l:List (Str×Bool))(y:Str):Option Bool:=match l with
 |[]=>none
 |p::r=>if y=p.1 then some p.2 else rL r y
theorem VA:∀ {l:List (Str×Bool)}{y:Str}{b:Bool},rL l y=some b->(y,b)∈l
 |[],_,_,h=>by cases h
 |p::r,y,b,h=>by
  unfold rL at h;split at h
  ·rename_i e;cases h;rw[e];exact za3
  ·exact za4 _ (VA h)
structure ZA (K:za0)(mg:Str->Option Value)(y:Str)(l:List (Str×Bool)):Prop where
 ex:∃C,mg y=some (.ref C)/\∀p∈l,∃c,za1 K mainGlobals p.1=some (some (.ref c))/\za7 K (.ref c) (.ref C)=some p.2/\Ng K c=true
structure uW (K:za0)(T:String)(l:List (Str×Bool)):Prop where
 ex:∀p∈l,∃c,za1 K mainGlobals p.1=some (some (.ref c))/\za7 K (.ref c) (.type T)=some p.2/\Ng K c=true
structure uX (K:za0)(mg:Str->Option Value)(y:Str)(l:List Str):Prop where
 ex:∃C,mg y=some (.ref C)/\∀x∈l,∃c,za1 K mainGlobals x=some (some (.ref c))/\Nh K C c=true
theorem CD {α:Type}{P:α->Prop}:∀x∈([]:List α),P x:=λ x h=>by cases h
theorem Ap {α:Type}{P:α->Prop}{a:α}{l:List α}(h:P a)(t:∀x∈l,P x):∀x∈a::l,P x:=λ x hx=>by
 rcases za9.mp hx with rfl|hx
 ·exact h
 ·exact t x hx
section
variable {X:Cx}{E:XK}{WX:Str->Hp->Prop}{c:Bool}{e:Expr}{f:Aa->M D}{pos p:Pos}
theorem ZC {K:za0}{Cv:Value}{l:List (Str×Bool)}(h:∀p∈l,∃c,za1 K mainGlobals p.1=some (some (.ref c))/\za7 K (.ref c) Cv=some p.2/\Ng K c=true):iD K Cv (rL l):=λ y b c h1 h2=>by
 obtain⟨c',g1,g2,g3⟩:=h _ (VA h1);rw[h2] at g1;cases g1;exact⟨g2,g3⟩
theorem Cy {x2:Str}{l:List (Str×Bool)}{p2:Pos}(T:ZA X.K X.mg x2 l)(hg:Gl X "isinstance")(hm:X.mg "isinstance" = none)(dP:Gl X x2)(ha:DE X WX c e f)
 (hb:bootBuiltins "isinstance" = some (.builtin "isinstance"):=by decide +kernel) (cU:(x2==("__debug__" : Str))=false:=by decide) (hs:starEach [e,.Name x2 p2] X.env=(false,eval e X.env)::starEach [.Name x2 p2] X.env:=by rfl) (cw:starEach [.Name x2 p2] X.env=[(false,eval (.Name x2 p2) X.env)]:=by rfl)
 (bU:(backTo pos (starEach [.Name x2 p2] X.env)).any (·.1)=false:=by rfl):
 DE X WX c (.Call (.Name "isinstance" p) [e,.Name x2 p2] [] pos) (λ ρ=>(f ρ).bind (W8 (rL l))):=by
 obtain⟨C,h1,h2⟩:=T.ex;exact iF (ZC h2) hg hm dP h1 ha hb cU hs cw bU
theorem ZD {Ty:String}{x2:Str}{l:List (Str×Bool)}{p2:Pos}(T:uW X.K Ty l)(hg:Gl X "isinstance")(hm:X.mg "isinstance" = none)(dP:Gl X x2)(cm:X.mg x2=none)(iz:bootBuiltins x2=some (.type Ty))(ha:DE X WX c e f)
 (hb:bootBuiltins "isinstance" = some (.builtin "isinstance"):=by decide +kernel) (cf:x2 ≠ "__name__" := by decide) (cU:(x2==("__debug__" : Str))=false:=by decide) (hs:starEach [e,.Name x2 p2] X.env=(false,eval e X.env)::starEach [.Name x2 p2] X.env:=by rfl) (cw:starEach [.Name x2 p2] X.env=[(false,eval (.Name x2 p2) X.env)]:=by rfl)
 (bU:(backTo pos (starEach [.Name x2 p2] X.env)).any (·.1)=false:=by rfl):
 DE X WX c (.Call (.Name "isinstance" p) [e,.Name x2 p2] [] pos) (λ ρ=>(f ρ).bind (W8 (rL l))):=
 iE (ZC T.ex) hg hm dP cm iz ha hb cf cU hs cw bU
theorem VB {C:Str}{n:Str}{l:List Str}{body cR:List Stmt}{b0:Stmt}{gb gs:Aa->M Out}{cp eM:Pos}{i m:Nat}(T:uX X.K X.mg C l)(cu:X.stack=X.env::X.outer)(jz:X.env.frame=some X.env.locals)(hN:X.N.Nodup)(hi:X.N[i]?=some n)(hx:X.env.scope.names.lookup n=some .local)(hg:Gl X C)
 (hb:∀(xe:Value->Shared->Prop) (pn:List (Addr×Obj)) (E:XK),XCall {X with xe:=xe,pn:=pn} E->Pg {X with xe:=xe,pn:=pn} (Df X.K E) body gb)
 (hs:∀ea:Addr,Pg (X.Xu (.ref ea)) (λ _ _=>False) (b0::cR) gs) (hl:X.N.length=m:=by rfl) (cC:(C==("__debug__" : Str))=false:=by decide):
 DS X WX (.Try body [.ExceptHandler (some (.Name C cp)) (some n) (b0::cR) eM] [] [] pos) (Ni m i (λ y=>decide (y∈l)) gb gs):=by
 obtain⟨CA,h1,h2⟩:=T.ex;subst hl;exact oV i cu jz hN hi hx hg h1 (λ y hy=>h2 y (of_decide_eq_true hy)) hb hs cC
end
section
variable {X:Cx}{WX:Str->Hp->Prop}{c:Bool}{a b e:Expr}{f g:Aa->M D}{pos:Pos}
theorem BH.Cf {h:Heap}{v:Value}{p q:Int×Int}(x:BH h v p)(y:BH h v q):p=q:=by
 obtain⟨a,o,t,u,n,rfl,ho,_,hd⟩:=x.at';obtain⟨a',o',t',u',n',e,dl,_,d8⟩:=y.at';cases e;rw[ho] at dl;cases dl;rw[hd] at d8;injection d8 with d8 _
 have h2:=congrArg Array.toList d8;injection h2 with h3 h4
 injection h4 with h4 _
 injection h3 with h3 _
 injection h4 with h4 _
 exact Prod.ext h3 h4
theorem ZE {pins:List (Addr×Obj)}{σ:St}{H:Hp}{s:Shared}{v:V}{u:Value}{q:Int×Int}(I:Inv X pins σ H s)(h:BZ X.K H v (pD q))(r:RelV v u):BH s.heap u q:=by
 cases h with
 | @tup t xs _ hh hl =>
  have e:xs=(Xx q).map kV:=by
   cases hl with
   |cons h1 hl =>
    cases hl with
    |cons h2 hl =>
     cases hl;cases h1;cases h2;rfl
  subst e;cases r;exact Vw I hh
theorem qV (hu:X.A.units+8<cLine):Hm X (compareOp .In) (λ x y H Q=>∃(l:Addr) (xs:List V) (p:Int×Int) (ps:List (Int×Int)),y=.ref l/\DL X.K H l xs/\Aj X.K H xs (ps.map pD)/\BZ X.K H x (pD p)/\Q (.bl (decide (p∈ps))) H):=by
 intro pins s σ H x y v u Q I rx ry h;obtain⟨l,xs,p,ps,rfl,hl,hs,hp,q⟩:=h;cases ry;obtain⟨aa,r,pl,hz⟩:=I.list hl;have at':∀ {xs:List V} {us:List Value} {ps:List (Int×Int)},Vals xs us->Aj X.K H xs (ps.map pD)->(∀w∈us,∃q∈ps,BH s.heap w q/\SeqAt.EqAt X.A.in1 s w v (AA (pD q) (pD p)))/\(∀q∈ps,∃w∈us,BH s.heap w q):=by
  intro xs us ps r;induction r generalizing ps with
  |nil =>
   intro hs;cases ps with
   |nil=>exact⟨λ w hw=>(by cases hw),λ q hq=>by cases hq⟩
   |cons q ps=>cases hs
  | @cons x0 u0 xs us r t ih =>
   intro hs;cases ps with
   |nil=>cases hs
   |cons q ps =>
    cases hs with
    |cons h1 h2 =>
     obtain⟨i1,i2⟩:=ih h2;have pa:=ZE I h1 r;refine⟨λ w hw=>?_,λ z hz=>?_⟩
     ·rcases za9.mp hw with rfl|hw
      ·exact⟨q,za3,pa,N4 I 2 X.A.in1 (pD q) (pD p) _ _ _ _ (by unfold pD;simp[Js,Lh]) rfl rfl (by show X.A.units+1+2<cLine;omega) h1 hp r rx⟩
      ·obtain⟨z,hz,g⟩:=i1 w hw;exact⟨z,za4 _ hz,g⟩
     ·rcases za9.mp hz with rfl|hz
      ·exact⟨_,za3,pa⟩
      ·obtain⟨w,hw,g⟩:=i2 z hz;exact⟨w,za4 _ hw,g⟩
 obtain⟨a1,a2⟩:=at' r hs;refine SeqAt.in_listAt (λ w=>@decide (BH s.heap w p) (zbc _)) pl.isList (λ w hw=>?_) ⟨.bl _,H,I,rfl,?_⟩
 ·obtain⟨q',_,g1,g2⟩:=a1 w (by simpa using hw);have e:AA (pD q') (pD p)=@decide (BH s.heap w p) (zbc _):=by
   by_cases h:q'=p
   ·subst h;rw[Ht];exact (@decide_eq_true _ (zbc _) g1).symm
   ·rw[@decide_eq_false _ (zbc _) λ z=>h (g1.Cf z)];have:=LD q' p;rw[this];exact decide_eq_false h
  rw[<-e];exact g2
 ·have e:(aa.toArray.any λ w=>@decide (BH s.heap w p) (zbc _))=decide (p∈ps):=by
   rw[List.any_toArray];by_cases h:p∈ps
   ·rw[decide_eq_true h];obtain⟨w,hw,g⟩:=a2 p h;exact List.any_eq_true.mpr ⟨w,hw,@decide_eq_true _ (zbc _) g⟩
   ·rw[decide_eq_false h];refine List.any_eq_false.mpr λ w hw z=>?_;obtain⟨q',fj,g1,_⟩:=a1 w hw;have z':=@of_decide_eq_true _ (zbc _) z;exact h (g1.Cf z'▸fj)
  rw[e];exact q
noncomputable def Sw (x y:D):M D:=match y with
 | .lst ds=>(match kK ds,Ug x with|some ps,some p=>.ok (.bl (decide (p∈ps)))|_,_=>.bad)
 |_=>.bad
theorem ZF:TB X.K WX (λ x y H Q=>∃(l:Addr) (xs:List V) (p:Int×Int) (ps:List (Int×Int)),y=.ref l/\DL X.K H l xs/\Aj X.K H xs (ps.map pD)/\BZ X.K H x (pD p)/\Q (.bl (decide (p∈ps))) H) Sw:=by
 intro P H x y v w Q ht hx hy h;have un:Ag (del H P) H:=λ b o e=>(Ax e).2;unfold Sw at h;split at h
 ·rename_i ds;cases q1:kK ds with
  |none=>rw[q1] at h;exact h.elim
  |some ps =>
   cases q2:Ug x with
   |none=>rw[q1,q2] at h;exact h.elim
   |some p =>
    rw[q1,q2] at h;have e1:=QN q1;have e2:=Sq q2;subst e1 e2;cases hy with
    |lst hs hh=>exact⟨_,_,p,ps,rfl,hs.Bs,hh.mono un,hx.mono un,h _ H (Ag.refl H) (.bl _)⟩
 ·exact h.elim
theorem kP {n:Nat}(hu:X.A.units+n<cLine)(ha:DE X WX c a f)(hb:DE X WX c b g)(hm:behindInMarks .In b=false:=by rfl)(hn:8<=n:=by decide):DT X WX (.Compare a [.In] [b] pos) (λ ρ=>((f ρ).bind λ x=>(g ρ).bind λ y=>Sw x y).bind Oj):=Gz (qV (by omega)) ZF ha hb hm
end
theorem Sx {m:M Out}{x:Str}(h:WP m (λ _=>False) (λ _=>False) (λ y=>y=x)):TN m=.ex x:=by
 cases m with
 |bad=>exact h.elim
 |ex y=>rw[show y=x from h];rfl
 |ok o=>cases o<;>exact h.elim
theorem VC {m:M Out}{x:Str}(h:WP m (λ _=>False) (λ _=>False) (λ y=>y=x)):LR m=.ex x:=by
 cases m with
 |bad=>exact h.elim
 |ex y=>rw[show y=x from h];rfl
 |ok o=>cases o<;>exact h.elim
theorem kQ {m:M Out}{t r:OT}(h:WP m (λ ρ=>Fq ρ=some t/\OT.sh .AK=r) (λ o=>match o with | .EK r' ρ=>Fq ρ=some t/\r'=r | _=>False) (λ _=>False)):LR m=.ok (t,r):=by
 have e:=U8 h;cases m with
 |bad|ex x=>exact h.elim
 |ok o=>exact e
def Xf (m:Nat)(A:LA)(u w:D):Prop:=KZ u=false/\KZ w=false/\(F9 u m=false\/F9 w m=false\/∃i j:Int,u=.int i/\w=.int j/\Bv A (i,j)=none)
noncomputable def mk (k:Nat):List D:=(zav 11).map λ i=>.bl (decide (i=k))
def ZG (m:Nat)(d:D):Prop:=Vf d/\BL m d=false/\AV d=false
theorem VD {m:Nat}{xs:List D}(h:BL m (.lst xs)=true):∃ns:List Int,xs=ns.map .int/\ns.Perm (An m):=by
 unfold BL at h;dsimp only at h;cases q:Cw xs with
 |none=>rw[q] at h;cases h
 |some ns =>
  rw[q] at h;have e:=of_decide_eq_true h;exact⟨ns,CO q,by rw[<-e];exact (Dt ns).symm⟩
theorem IY {m:Nat}{xs:List D}{y:D}(hy:y∈xs)(h:∀j:Int,y=.int j->j<0\/(m:Int)<=j):BL m (.lst xs)=false:=by
 cases q:BL m (.lst xs) with
 |false=>rfl
 |true =>
  obtain⟨ns,rfl,hp⟩:=VD q;obtain⟨j,hj,rfl⟩:=zay.mp hy;have:=HJ.mp (hp.mem_iff.mp hj);have:=h j rfl;omega
theorem kR {m:Nat}{a:Int}{xs:List D}:BL m (.lst (.int a::.int a::xs))=false:=by
 cases q:BL m (.lst (.int a::.int a::xs)) with
 |false=>rfl
 |true =>
  obtain⟨ns,e,hp⟩:=VD q;have hn:ns.Nodup:=hp.nodup_iff.mpr (JD m);cases ns with
  |nil=>cases e
  |cons b ns =>
   cases ns with
   |nil=>cases e
   |cons b2 ns =>
    rw[za8,za8] at e;injection e with e1 e2
    injection e2 with e2 _
    injection e1 with e1
    injection e2 with e2
    subst e1 e2;exact absurd za3 (zbi.mp hn).1
theorem mE {d:D}{m:Nat}(h:F9 d m=true):BN "int" d=true/\BN "bool" d=false:=by
 cases d<;>first|exact⟨rfl,rfl⟩|cases h
theorem ty_int {d:D}(hx:KZ d=false)(h1:BN "int" d=true)(h2:BN "bool" d=false):∃j,d=.int j:=by
 cases d<;>first|exact⟨_,rfl⟩|exact absurd h1 zao|exact absurd h2.symm zao|cases hx
theorem kS {ps:List (Int×Int)}{i j:Int}:Sw (.tup [.int i,.int j]) (.lst (ps.map pD))=.ok (.bl (decide ((i,j)∈ps))):=by
 unfold Sw;dsimp only;rw[QM];rfl
theorem ZH (k:Nat):Pl 16 (.lst (mk k)):=Yx (n:=15) λ d hd=>by
 obtain⟨i,_,rfl⟩:=zay.mp hd;exact⟨zb9 _,rfl⟩
theorem KG {d:D}(h:KZ d=false)(h2:∀xs,d≠.lst xs):Vf d:=⟨h,λ xs e=>(h2 xs e).elim⟩
end L2
set_option maxHeartbeats 4000000
namespace fc
open PySem L2
noncomputable def top (i:Nat):Stmt:=PySem.Challenge.pw_nodeladder_k34_ladder_refused.main.body.getD i (.Pass ⟨0,0,0,0⟩)
noncomputable abbrev Dx:Stmt:=top 14
theorem KH:Ak ["thing","bound"] ["thing","bound"] (A6 Dx):=⟨rfl,rfl,rfl,by decide +kernel,rfl,by decide +kernel,by decide +kernel⟩
noncomputable abbrev GJ:Stmt:=top 15
theorem OD:Ak ["thing"] ["thing"] (A6 GJ):=⟨rfl,rfl,rfl,by decide +kernel,rfl,by decide +kernel,by decide +kernel⟩
noncomputable abbrev LS:Stmt:=top 16
theorem Ui:Ak ["thing","many"] ["thing","many"] (A6 LS):=⟨rfl,rfl,rfl,by decide +kernel,rfl,by decide +kernel,by decide +kernel⟩
noncomputable abbrev O1:Stmt:=top 17
theorem LU:Ak ["thing","many","roads"] ["thing"] (A6 O1):=⟨rfl,rfl,rfl,by decide +kernel,rfl,by decide +kernel,by decide +kernel⟩
noncomputable abbrev LV:Stmt:=top 18
theorem Uj:Ak ["thing"] ["thing"] (A6 LV):=⟨rfl,rfl,rfl,by decide +kernel,rfl,by decide +kernel,by decide +kernel⟩
noncomputable abbrev QQ:Stmt:=top 19
theorem ZI:Ak ["one","other"] ["one","other"] (A6 QQ):=⟨rfl,rfl,rfl,by decide +kernel,rfl,by decide +kernel,by decide +kernel⟩
noncomputable abbrev QR:Stmt:=top 20
theorem ZJ:Ak ["some"] ["some"] (A6 QR):=⟨rfl,rfl,rfl,by decide +kernel,rfl,by decide +kernel,by decide +kernel⟩
noncomputable abbrev HM:Stmt:=top 21
theorem QS:Ak ["road"] ["road"] (A6 HM):=⟨rfl,rfl,rfl,by decide +kernel,rfl,by decide +kernel,by decide +kernel⟩
noncomputable abbrev Fu:Stmt:=top 23
theorem O2:Ak ["laid","pair"] ["laid","pair"] (A6 Fu):=⟨rfl,rfl,rfl,by decide +kernel,rfl,by decide +kernel,by decide +kernel⟩
noncomputable abbrev ZK:Stmt:=top 24
theorem qW:Ak ["laid","pair","cost","middle"] ["laid","pair","cost","middle"] (A6 ZK):=⟨rfl,rfl,rfl,by decide +kernel,rfl,by decide +kernel,by decide +kernel⟩
noncomputable abbrev JF:Stmt:=top 25
theorem Fg:Ak ["laid","place","higher","u","w","cost"] ["laid","place","higher"] (A6 JF):=⟨rfl,rfl,rfl,by decide +kernel,rfl,by decide +kernel,by decide +kernel⟩
noncomputable abbrev HN:Stmt:=top 26
theorem D6:Ak ["net","order","laid","road","rank","place"] ["net","order"] (A6 HN):=⟨rfl,rfl,rfl,by decide +kernel,rfl,by decide +kernel,by decide +kernel⟩
noncomputable abbrev JG:Stmt:=top 28
theorem Sy:Ak ["net","thing"] ["net","thing"] (A6 JG):=⟨rfl,rfl,rfl,by decide +kernel,rfl,by decide +kernel,by decide +kernel⟩
noncomputable abbrev DR:Stmt:=top 29
theorem LW:Ak ["net","thing"] ["net","thing"] (A6 DR):=⟨rfl,rfl,rfl,by decide +kernel,rfl,by decide +kernel,by decide +kernel⟩
noncomputable abbrev GL:Stmt:=top 30
theorem Fv:Ak ["net","bows","road"] ["net"] (A6 GL):=⟨rfl,rfl,rfl,by decide +kernel,rfl,by decide +kernel,by decide +kernel⟩
noncomputable abbrev EV:Stmt:=top 31
theorem C1:Ak ["bows","left","place","ahead","behind","missing","u"] ["bows","left","place"] (A6 EV):=⟨rfl,rfl,rfl,by decide +kernel,rfl,by decide +kernel,by decide +kernel⟩
noncomputable abbrev JH:Stmt:=top 32
theorem Sz:Ak ["bows","left"] ["bows","left"] (A6 JH):=⟨rfl,rfl,rfl,by decide +kernel,rfl,by decide +kernel,by decide +kernel⟩
noncomputable abbrev O3:Stmt:=top 33
theorem EF:Ak ["net","bows","left","order","place","bow"] ["net"] (A6 O3):=⟨rfl,rfl,rfl,by decide +kernel,rfl,by decide +kernel,by decide +kernel⟩
noncomputable abbrev GN:Stmt:=top 35
theorem BI:Ak ["net","start","costs","changed","road","cost"] ["net","start"] (A6 GN):=⟨rfl,rfl,rfl,by decide +kernel,rfl,by decide +kernel,by decide +kernel⟩
noncomputable abbrev D7:Stmt:=top 37
theorem JI:Ak ["net","order"] ["net","order"] (A6 D7):=⟨rfl,rfl,rfl,by decide +kernel,rfl,by decide +kernel,by decide +kernel⟩
noncomputable abbrev HP:Stmt:=top 38
theorem Ee:Ak ["net","laid","kept","u","costs"] ["net","laid"] (A6 HP):=⟨rfl,rfl,rfl,by decide +kernel,rfl,by decide +kernel,by decide +kernel⟩
noncomputable abbrev GO:Stmt:=top 39
theorem Ji:Ak ["net","arc","cost","numbers"] ["net","arc","cost"] (A6 GO):=⟨rfl,rfl,rfl,by decide +kernel,rfl,by decide +kernel,by decide +kernel⟩
noncomputable abbrev Av:Stmt:=inClass (top 40) 0
theorem JJ:Ak ["self","net","order"] ["self","net","order"] (A6 Av):=⟨rfl,rfl,rfl,by decide +kernel,rfl,by decide +kernel,by decide +kernel⟩
noncomputable abbrev Fw:Stmt:=inClass (top 40) 3
theorem O4:Ak ["self"] ["self"] (A6 Fw):=⟨rfl,rfl,rfl,by decide +kernel,rfl,by decide +kernel,by decide +kernel⟩
noncomputable abbrev Cc:Stmt:=inClass (top 40) 4
theorem Di:Ak ["self","u","w","many"] ["self","u","w"] (A6 Cc):=⟨rfl,rfl,rfl,by decide +kernel,rfl,by decide +kernel,by decide +kernel⟩
noncomputable abbrev Fx:Stmt:=inClass (top 40) 5
theorem O5:Ak ["self","u","w"] ["self","u","w"] (A6 Fx):=⟨rfl,rfl,rfl,by decide +kernel,rfl,by decide +kernel,by decide +kernel⟩
noncomputable abbrev DU:Stmt:=inClass (top 40) 6
theorem LX:Ak ["self","u","w"] ["self","u","w"] (A6 DU):=⟨rfl,rfl,rfl,by decide +kernel,rfl,by decide +kernel,by decide +kernel⟩
noncomputable abbrev D8:Stmt:=inClass (top 40) 7
theorem Bu:Ak ["self","u","w","roads","waiting","arc","middle"] ["self","u","w"] (A6 D8):=⟨rfl,rfl,rfl,by decide +kernel,rfl,by decide +kernel,by decide +kernel⟩
noncomputable abbrev HQ:Stmt:=top 42
theorem GP:Ak ["_law_cell","_law_k","_law_number"] ["_law_cell","_law_k"] (A6 HQ):=⟨rfl,rfl,rfl,by decide +kernel,rfl,by decide +kernel,by decide +kernel⟩
noncomputable abbrev JK:Stmt:=top 43
theorem BE:Ak ["_law_cell","_law_many","_law_mixed_here","_law_one","_law_other","_law_way","_law_length"] ["_law_cell","_law_many"] (A6 JK):=⟨rfl,rfl,rfl,by decide +kernel,rfl,by decide +kernel,by decide +kernel⟩
noncomputable abbrev LY:Stmt:=top 44
theorem EW:Ak ["_law_cells","_law_most","_law_head","_law_many","_law_roads"] ["_law_cells","_law_most"] (A6 LY):=⟨rfl,rfl,rfl,by decide +kernel,rfl,by decide +kernel,by decide +kernel⟩
noncomputable abbrev HR:Stmt:=top 45
theorem GQ:Ak ["_law_many","_law_cell","_law_order_here","_law_k"] ["_law_many","_law_cell"] (A6 HR):=⟨rfl,rfl,rfl,by decide +kernel,rfl,by decide +kernel,by decide +kernel⟩
noncomputable abbrev HS:Stmt:=top 46
theorem GR:Ak ["_law_e","_law_some"] ["_law_e"] (A6 HS):=⟨rfl,rfl,rfl,by decide +kernel,rfl,by decide +kernel,by decide +kernel⟩
noncomputable abbrev JL:Stmt:=top 47
theorem Fh:Ak ["_law_land","_law_order_here","_law_caught","_law_e"] ["_law_land","_law_order_here"] (A6 JL):=⟨rfl,rfl,rfl,by decide +kernel,rfl,by decide +kernel,by decide +kernel⟩
noncomputable abbrev HU:Stmt:=top 48
theorem Ef:Ak ["_law_ladder","_law_u","_law_w","_law_way","_law_caught","_law_e"] ["_law_ladder","_law_u","_law_w","_law_way"] (A6 HU):=⟨rfl,rfl,rfl,by decide +kernel,rfl,by decide +kernel,by decide +kernel⟩
noncomputable abbrev Fy:Stmt:=top 49
theorem Bd:Ak ["_law_land","_law_cell","_law_many","_law_roads","_law_some"] ["_law_land","_law_cell"] (A6 Fy):=⟨rfl,rfl,rfl,by decide +kernel,rfl,by decide +kernel,by decide +kernel⟩
noncomputable abbrev DV:Stmt:=top 50
theorem Cg:Ak ["_law_many","_law_cell","_law_order_here","_law_some"] ["_law_many","_law_cell"] (A6 DV):=⟨rfl,rfl,rfl,by decide +kernel,rfl,by decide +kernel,by decide +kernel⟩
noncomputable abbrev HV:Stmt:=top 51
theorem KI:Ak ["_law_many","_law_cell","_law_some"] ["_law_many","_law_cell"] (A6 HV):=⟨rfl,rfl,rfl,by decide +kernel,rfl,by decide +kernel,by decide +kernel⟩
noncomputable abbrev GS:Stmt:=top 52
theorem BJ:Ak ["_law_ladder","_law_many","_law_cell","_law_u","_law_w","_law_whole","_law_due","_law_way"] ["_law_ladder","_law_many","_law_cell"] (A6 GS):=⟨rfl,rfl,rfl,by decide +kernel,rfl,by decide +kernel,by decide +kernel⟩
noncomputable abbrev Hi:Stmt:=top 53
theorem Fz:Ak ["_law_script","_law_cells","_law_land","_law_order_here","_law_ladder","_law_cell","_law_bad","_law_odd","_law_u","_law_w"] ["_law_script"] (A6 Hi):=⟨rfl,rfl,rfl,by decide +kernel,rfl,by decide +kernel,by decide +kernel⟩
structure Txt (K:za0)(mg:Str->Option Value):Prop where
 LZ:B6 K mg "is_whole_below" Dx ["thing","bound"]
 QT:B6 K mg "is_measure" GJ ["thing"]
 Xg:B6 K mg "is_road" LS ["thing","many"]
 ZL:B6 K mg "is_map" O1 ["thing"]
 Xh:B6 K mg "checked" LV ["thing"]
 kT:B6 K mg "added" QQ ["one","other"]
 kU:B6 K mg "least" QR ["some"]
 SA:B6 K mg "road_cost" HM ["road"]
 OE:B6 K mg "cost_so_far" Fu ["laid","pair"]
 uY:B6 K mg "lay" ZK ["laid","pair","cost","middle"]
 Uk:B6 K mg "lay_over" JF ["laid","place","higher"]
 SD:B6 K mg "laid_arcs" HN ["net","order"]
 Ul:B6 K mg "is_order" JG ["net","thing"]
 Mu:B6 K mg "checked_order" DR ["net","thing"]
 QU:B6 K mg "first_bows" GL ["net"]
 O6:B6 K mg "missing_bows" EV ["bows","left","place"]
 Um:B6 K mg "lightest" JH ["bows","left"]
 ZM:B6 K mg "ranked" O3 ["net"]
 QV:B6 K mg "costs_from" GN ["net","start"]
 KJ:B6 K mg "order_or_ranked" D7 ["net","order"]
 SE:B6 K mg "kept_arcs" HP ["net","laid"]
 QW:B6 K mg "road_under" GO ["net","arc","cost"]
 KL:U0 K mg "Ladder" "Ladder.__init__" Av ["self","net","order"]
 OF:NM K "Ladder" "arcs" "Ladder.arcs" Fw ["self"]
 HW:NM K "Ladder" "checked_arc" "Ladder.checked_arc" Cc ["self","u","w"]
 OG:NM K "Ladder" "cost" "Ladder.cost" Fx ["self","u","w"]
 Mv:NM K "Ladder" "middle" "Ladder.middle" DU ["self","u","w"]
 KN:NM K "Ladder" "unpacked" "Ladder.unpacked" D8 ["self","u","w"]
 SF:B6 K mg "_law_mixed" HQ ["_law_cell","_law_k"]
 Uo:B6 K mg "_law_road" JK ["_law_cell","_law_many"]
 Xi:B6 K mg "_law_map" LY ["_law_cells","_law_most"]
 SG:B6 K mg "_law_order" HR ["_law_many","_law_cell"]
 SH:B6 K mg "_law_marks" HS ["_law_e"]
 Up:B6 K mg "_law_made" JL ["_law_land","_law_order_here"]
 SI:B6 K mg "_law_asked" HU ["_law_ladder","_law_u","_law_w","_law_way"]
 OH:B6 K mg "_law_bad_map" Fy ["_law_land","_law_cell"]
 Mw:B6 K mg "_law_bad_order" DV ["_law_many","_law_cell"]
 SJ:B6 K mg "_law_thing" HV ["_law_many","_law_cell"]
 QX:B6 K mg "_law_no_arc" GS ["_law_ladder","_law_many","_law_cell"]
 yK:B6 K mg "law" Hi ["_law_script"]
 QY:mg "ValueError" = none
 mF:mg "all" = none
 Uq:mg "bool" = none
 Mg:mg "enumerate" = none
 VE:mg "int" = none
 Au:mg "isinstance" = none
 SK:mg "len" = none
 JM:mg "list" = none
 mG:mg "min" = none
 D9:mg "range" = none
 SM:mg "sorted" = none
 mH:mg "sum" = none
 KO:mg "tuple" = none
 kW:ClsAt K mg "NoArc"
 kX:ClsAt K mg "NoMap"
 Xj:ClsAt K mg "NoOrder"
 Jj:uX K mg "LadderError" ["NoMap","NoOrder","NoArc"]
 kY:ZA K mg "NoArc" [("NoMap",false),("NoOrder",false),("NoArc",true)]
 ZN:ZA K mg "NoDeed" [("NoMap",false),("NoOrder",false),("NoArc",false)]
 Ur:ZA K mg "NoLength" [("NoMap",false),("NoOrder",false),("NoArc",false)]
 kZ:ZA K mg "NoMap" [("NoMap",true),("NoOrder",false),("NoArc",false)]
 Xk:ZA K mg "NoOrder" [("NoMap",false),("NoOrder",true),("NoArc",false)]
 Xl:ZA K mg "NoPlace" [("NoMap",false),("NoOrder",false),("NoArc",false)]
 ZO:ZA K mg "NoRoad" [("NoMap",false),("NoOrder",false),("NoArc",false)]
 lA:ZA K mg "NoRow" [("NoMap",false),("NoOrder",false),("NoArc",false)]
 ZP:ZA K mg "NoText" [("NoMap",false),("NoOrder",false),("NoArc",false)]
 lB:ZA K mg "NoWay" [("NoMap",false),("NoOrder",false),("NoArc",false)]
 QZ:uW K "ValueError" [("NoMap",true),("NoOrder",true),("NoArc",true)]
 JN:Jh K "Ladder" "kept_ones"
 Bq:Jh K "Ladder" "laid"
 Br:Jh K "Ladder" "own_map"
 EX:Jh K "Ladder" "own_order"
local macro_rules | `(tactic| simp_arith [$xs,*])=>`(tactic| simp only [pM,pN,IP,List.set_cons_zero,List.set_cons_succ,M.A8,El,Ek,FN,G1,G2,G3,ID,GD,HF,Ks,FR,FT,Em,Py,IA,IB,FU,Wt,En,Eo,Ds,Lw,Ca,Lx,FV,FW,Ep,Pz,FQ,CZ,toCl_list,toCl_listP,toCl_dct,IE,G4,G5,G6,G7,IF,G8,G9,Ga,lO,lN,FX,PB,FY,PD,FZ,G0,IC,PF,rJ,rK,Ww,Wx,Wy,Wz,WA,WB,toCl_nil,HA,Kn,Oj,Ly,Er,IG,IH,Gb,Gd,II,IJ,IK,IL,IM,Ge,Gf,Gg,Gh,Es,Eu,Ew,Ex,Ey,Gi,Ez,EA,PH,PJ,PL,PM,PN,EB,ite_tt,ite_ff,Bool.not_true,Bool.not_false,List.getElem?_cons_zero,List.getElem?_cons_succ,Dw,Gj,Gk,Wv,WY,Wu,X1,X2,X3,IU,LI,LJ,LK,CT,EE,IW,LC,X8,Q6,LP,$xs,*])
variable {P:Program}{w:World}{K:za0}{mg:Str->Option Value}{base:Heap}
theorem Dc:∃F:List D->M OT,(∀ {P w K mg base},Txt K mg->CC P w K mg base "is_whole_below" 1 2 F)/\(∀(d:D) (n:Int),KZ d=false->F [d,.int n]=.ok (.sh (.bl (F9 d n)))):=by
 refine⟨_,λ T=>AY (k:=0) T.LZ KH _ (λ f Bf A outer s H E hr=>(A7 (As (Bj (Jv (Fp (Nc _) rfl T.Au rfl T.VE (by decide +kernel) (A2 0 (pv 0))) (Jv (Qr (Fp (Ll _) rfl T.Au rfl T.Uq (by decide +kernel) (A2 0 (pv 0)))) (N7 (W4 sO sN A3 (A2 0 (pv 0)) (A2 1 (pv 1)))))))))),?_⟩;intro d n hx;have e0:AI ["thing","bound"] [d,.int n]=[some (.val d),some (.val (.int n))]:=rfl;rw[e0];refine Bh ?_;simp_arith[Ke hx];cases d with
 |int j =>
  simp_arith[];unfold F9;by_cases h1:0<=j<;>by_cases h2:j<n<;>simp[h1,h2,D2,Dw]<;>rfl
 |Ct x|ins x n d=>cases hx
 |_=>rfl
noncomputable def Hj:List D->M OT:=zab Dc
theorem B3:Txt K mg->CC P w K mg base "is_whole_below" 1 2 Hj:=(za2 Dc).1
theorem AL:∀(d:D) (n:Int),KZ d=false->Hj [d,.int n]=.ok (.sh (.bl (F9 d n))):=(za2 Dc).2
theorem FA:∃F:List D->M OT,(∀ {P w K mg base},Txt K mg->CC P w K mg base "is_measure" 2 1 F)/\(∀d:D,KZ d=false->F [d]=.ok (.sh (.bl (F9 d Ra)))):=by
 refine⟨_,λ T=>AY (k:=1) T.QT OD _ (λ f Bf A outer s H E hr=>(A7 (As (Ai Ad.toXCall (B3 T) (hr.mono (by decide)) rfl (A1 (A2 0 (pv 0)) (A1 (Lj A3 A3) A4)) rfl)))),?_⟩;intro d hx;have e0:AI ["thing"] [d]=[some (.val d)]:=rfl;rw[e0];have h1:=AL d Ra hx;refine Bh ?_;simp_arith[Q3,h1];rfl
noncomputable def Mh:List D->M OT:=zab FA
theorem Jk:Txt K mg->CC P w K mg base "is_measure" 2 1 Mh:=(za2 FA).1
theorem Jl:∀d:D,KZ d=false->Mh [d]=.ok (.sh (.bl (F9 d Ra))):=(za2 FA).2
theorem JO:∃F:List D->M OT,(∀ {P w K mg base},Txt K mg->CC P w K mg base "is_road" 3 2 F)/\(∀(d:D) (m:Int),cl 1 d->F [d,.int m]=.ok (.sh (.bl (BP m d)))):=by
 refine⟨_,λ T=>AY (k:=2) T.Xg Ui _ (λ f Bf A outer s H E hr=>(A5 (Bg (DW.dt (Hy (Dk (C8 (c:=true) (Fp (Nb _) rfl T.Au rfl T.KO (by decide +kernel) (A2 0 (pv 0))))) (Fo (Hx (c:=true) (B9 hr 16 (by decide)) (N8 rfl T.SK (A2 0 (pv 0))) A3)))) (A7 (As (Bj C0))) AN) (A5 (Bg (DW.dt (Hy (Dk (C8 (c:=true) (Ab (Ai Ad.toXCall (B3 T) (hr.mono (by decide)) rfl (A1 (Ah (B9 hr 16 (by decide)) (A2 0 (pv 0)) A3) (A1 (A2 1 (pv 1)) A4)) rfl)))) (Fo (Dk (C8 (c:=true) (Ab (Ai Ad.toXCall (B3 T) (hr.mono (by decide)) rfl (A1 (Ah (B9 hr 16 (by decide)) (A2 0 (pv 0)) A3) (A1 (A2 1 (pv 1)) A4)) rfl))))))) (A7 (As (Bj C0))) AN) (A5 (Bg (Jf (c:=true) (B9 hr 16 (by decide)) (Ah (B9 hr 16 (by decide)) (A2 0 (pv 0)) A3) (Ah (B9 hr 16 (by decide)) (A2 0 (pv 0)) A3)) (A7 (As (Bj C0))) AN) (A7 (As (Bj (Jv (tQ (oO (Ah (B9 hr 16 (by decide)) (A2 0 (pv 0)) A3)) (N7 (Ab (Ai Ad.toXCall (Jk T) (hr.mono (by decide)) rfl (A1 (Ah (B9 hr 16 (by decide)) (A2 0 (pv 0)) A3) A4) rfl)))) (N7 (Ab (Ai Ad.toXCall (Jk T) (hr.mono (by decide)) rfl (A1 (Ah (B9 hr 16 (by decide)) (A2 0 (pv 0)) A3) A4) rfl))))))))))),?_⟩;intro d m hc;have e0:AI ["thing","many"] [d,.int m]=[some (.val d),some (.val (.int m))]:=rfl;rw[e0];have hx:=hc.x;refine Bh ?_;cases d with
 |tup ds =>
  have ge:∀e∈ds,KZ e=false:=λ e he=>(hc.2 ds (.inl rfl) e he).x;rcases ds with _|⟨a,_|⟨b,_|⟨l,_|⟨w,_|⟨z,r⟩⟩⟩⟩⟩
  ·rfl
  ·rfl
  ·rfl
  ·rfl
  ·have i0:Bi (.tup [a,b,l,w]) (.int 0)=.ok a:=rfl;have i1:Bi (.tup [a,b,l,w]) (.int 1)=.ok b:=rfl;have i2:Bi (.tup [a,b,l,w]) (.int 2)=.ok l:=rfl;have i3:Bi (.tup [a,b,l,w]) (.int 3)=.ok w:=rfl;have ha:=AL a m (ge a (by simp));have hb:=AL b m (ge b (by simp));have hl:=Jl l (ge l (by simp));have hw:=Jl w (ge w (by simp));apply wp_step
   ·rfl
   unfold BP;dsimp only;cases qa:F9 a m with
   |false=>simp_arith[i0,ha,qa,D2];rfl
   |true =>
    cases qb:F9 b m with
    |false=>simp_arith[i0,i1,ha,hb,qa,qb,D2];rfl
    |true =>
     apply wp_step
     ·simp_arith[i0,i1,ha,hb,qa,qb,D2];rfl
     cases a with
     |int x =>
      cases b with
      |int y =>
       have he:AA (.int x) (.int y)=decide (x=y):=by rw[AA];by_cases h:x=y<;>simp[h]
       rw[he];by_cases dR:x=y
       ·simp_arith[i0,i1,decide_eq_true dR];rfl
       ·apply wp_step
        ·simp_arith[i0,i1,decide_eq_false dR];rfl
        rw[decide_eq_false dR];simp_arith[i2,i3,hl,hw];cases AV l<;>cases F9 l Ra<;>cases F9 w Ra<;>rfl
      |_=>cases qb
     |_=>cases qa
  ·have au:¬ (((a::b::l::w::z::r).length:Nat):Int)=4:=by simp only[zad];omega
   simp_arith[decide_eq_false au];rfl
 |Ct x|ins x n d=>cases hx
 |_=>rfl
noncomputable def SN:List D->M OT:=zab JO
theorem Us:Txt K mg->CC P w K mg base "is_road" 3 2 SN:=(za2 JO).1
theorem Ut:∀(d:D) (m:Int),cl 1 d->SN [d,.int m]=.ok (.sh (.bl (BP m d))):=(za2 JO).2
theorem M1:∃F:List D->M OT,(∀ {P w K mg base},Txt K mg->CC P w K mg base "is_map" 4 1 F)/\(∀d:D,cl 3 d->F [d]=.ok (.sh (.bl (BM d)))):=by
 refine⟨_,λ T=>AY (k:=3) T.ZL LU _ (λ f Bf A outer s H E hr=>(A5 (Bg (DW.dt (Hy (Dk (C8 (c:=true) (Fp (Nb _) rfl T.Au rfl T.KO (by decide +kernel) (A2 0 (pv 0))))) (Fo (Hx (c:=true) (B9 hr 16 (by decide)) (N8 rfl T.SK (A2 0 (pv 0))) A3)))) (A7 (As (Bj C0))) AN) (A5 (Az 1 LU.nd rfl (Or.inr rfl) (Ah (B9 hr 16 (by decide)) (A2 0 (pv 0)) A3)) (A5 (Az 2 LU.nd rfl (zb4 rfl) (Ah (B9 hr 16 (by decide)) (A2 0 (pv 0)) A3)) (A5 (Bg (DW.dt (Hy (Dk (C8 (c:=true) (Ab (Ai Ad.toXCall (B3 T) (hr.mono (by decide)) rfl (A1 (A2 1 (pv 1)) (A1 A3 A4)) rfl)))) (Fo (Jf (c:=true) (B9 hr 16 (by decide)) (A2 1 (pv 1)) A3)))) (A7 (As (Bj C0))) AN) (A5 (Bg (DW.dt (Hy (Dk (C8 (c:=true) (Fp (Pf _) rfl T.Au rfl T.JM (by decide +kernel) (A2 2 (pv 2))))) (Fo (lG (c:=true) (N8 rfl T.SK (A2 2 (pv 2))) A3)))) (A7 (As (Bj C0))) AN) (A7 (As (Bj (YC rfl rfl T.mF (Ab (Ec (NB:=["road","many"]) [none,some 1] rfl (Bn (A2 2 (pv 2))) rfl rfl (BC 0 (by decide) rfl rfl rfl) (λ _ _ _ _=>Ea) (λ _ _ _ _=>(Ab (Cp (Ai (Cn rfl).toXCall (Us T) (hr.mono (by decide)) rfl (A1 (A2 0 (pv 0)) (A1 (A2 1 (pv 1)) A4)) rfl)))))))))))))))),?_⟩;intro d hc;have e0:AI ["thing","many","roads"] [d]=[some (.val d),none,none]:=rfl;rw[e0];have hx:=hc.x;refine Bh ?_;cases d with
 |tup ds =>
  have ge:∀e∈ds,cl 2 e:=λ e he=>hc.2 ds (.inl rfl) e he;rcases ds with _|⟨n,_|⟨r,_|⟨z,t⟩⟩⟩
  ·rfl
  ·rw[Q4];rfl
  ·have i0:Bi (.tup [n,r]) (.int 0)=.ok n:=rfl;have i1:Bi (.tup [n,r]) (.int 1)=.ok r:=rfl;have hn:=AL n 17 (ge n (by simp)).x;have hr:=ge r (by simp);have xg:=hr.x;apply wp_step
   ·rfl
   apply wp_step
   ·simp_arith[i0];rfl
   apply wp_step
   ·simp_arith[i1];rfl
   cases qn:F9 n 17 with
   |false =>
    have e1:BM (.tup [n,r])=false:=by
     cases n with
     |int m=>cases r with
      |lst rs=>unfold BM;dsimp only;rw[qn];rfl
      |_=>rfl
     |_=>rfl
    rw[e1];simp_arith[hn,qn,D2];rfl
   |true =>
    cases n with
    |int m =>
     by_cases hm:m=0
     ·have e1:BM (.tup [.int m,r])=false:=by
       cases r with
       |lst rs=>unfold BM;dsimp only;rw[decide_eq_true hm];simp
       |_=>rfl
      rw[e1];simp_arith[hn,qn,D2,decide_eq_true hm];rfl
     ·apply wp_step
      ·simp_arith[hn,qn,D2,decide_eq_false hm];rfl
      cases r with
      |lst rs =>
       by_cases hl:rs.length<=60
       ·have dH:¬ (60:Int)<(rs.length:Int):=by omega
        have cA:rs.length<=1000:=by omega
        apply wp_step
        ·simp_arith[decide_eq_false dH];rfl
        simp_arith[if_pos cA];rw[Pn (λ d=>.bl (BP m d)) rs]
        ·have e2:(rs.map λ d=>D.bl (BP m d))=(rs.map (BP m)).map D.bl:=by rw[zbz];rfl
         rw[e2];unfold BM;dsimp only;rw[qn,decide_eq_true hl,decide_eq_false hm];simp_arith[Bool.true_and];rfl
        ·intro d hd;have:=Ut d m (hr.2 rs (.inr rfl) d hd);exact⟨_,rfl,rfl,by simp_arith[this]⟩
       ·have dH:(60:Int)<(rs.length:Int):=by omega
        unfold BM;dsimp only;rw[decide_eq_false hl];simp_arith[decide_eq_true dH,Bool.false_and,Bool.and_false];rfl
      |Ct x|ins x n d=>cases xg
      |_=>rfl
    |_=>cases qn
  ·have au:¬ (((n::r::z::t).length:Nat):Int)=2:=by simp only[zad];omega
   rw[U6];simp_arith[decide_eq_false au];rfl
 |Ct x|ins x n d=>cases hx
 |_=>rfl
noncomputable def VF:List D->M OT:=zab M1
theorem Xm:Txt K mg->CC P w K mg base "is_map" 4 1 VF:=(za2 M1).1
theorem Qa:∀d:D,cl 3 d->VF [d]=.ok (.sh (.bl (BM d))):=(za2 M1).2
theorem JP:∃F:List D->M OT,(∀ {P w K mg base},Txt K mg->CC P w K mg base "checked" 5 1 F)/\((∀(m:Nat) (rs:List Road),BM (Ae m rs)=true->rs.length<=60->F [Ae m rs]=.ok (.tup [.sh (.int m),.lst ((rs.map Cq).map .sh)]))/\(∀d:D,cl 3 d->BM d=false->F [d]=.ex "NoMap")):=by
 refine⟨_,λ T=>AY (k:=4) T.Xh Uj _ (λ f Bf A outer s H E hr=>(A5 (Bg (Dk (C8 (c:=true) (Ab (Ai Ad.toXCall (Xm T) (hr.mono (by decide)) rfl (A1 (A2 0 (pv 0)) A4) rfl)))) (A7 (Lp (c:=true) T.kX Ad rfl rfl Jt)) AN) (A7 (As (pB (Nw (Bj (Ah (B9 hr 16 (by decide)) (A2 0 (pv 0)) A3)) (Nw (Ec (NB:=["road"]) [none] rfl (Bn (Ah (B9 hr 16 (by decide)) (A2 0 (pv 0)) A3)) rfl rfl (BC 0 (by decide) rfl rfl rfl) (λ _ _ _ _=>Ea) (λ _ _ _ _=>(Na rfl T.KO (A2 0 (pv 0))))) Eb))))))),?_⟩;refine⟨λ m rs hm hl=>?_,λ d hc ho=>?_⟩
 ·have e0:AI ["thing"] [Ae m rs]=[some (.val (Ae m rs))]:=rfl;rw[e0];have h1:=Qa (Ae m rs) (D5 (Am AJ (Am (LH QI) Cs)));rw[hm] at h1;have n0:Bi (Ae m rs) (.int 0)=.ok (.int m):=rfl;have n1:Bi (Ae m rs) (.int 1)=.ok (.lst (rs.map Cq)):=rfl;have cA:(rs.map Cq).length<=1000:=by rw[za5];omega
  refine Bh ?_;apply wp_step
  ·simp_arith[h1,D2];rfl
  simp_arith[n0,n1,if_pos cA];rw[CH Cq (λ r hr=>⟨_,rfl,rfl,rfl⟩)];simp_arith[];exact⟨_,rfl,rfl⟩
 ·have e0:AI ["thing"] [d]=[some (.val d)]:=rfl;rw[e0];have h1:=Qa d hc;rw[ho] at h1;simp_arith[h1,D2];rfl
noncomputable def O7:List D->M OT:=zab JP
theorem Uu:Txt K mg->CC P w K mg base "checked" 5 1 O7:=(za2 JP).1
theorem JQ:(∀(m:Nat) (rs:List Road),BM (Ae m rs)=true->rs.length<=60->O7 [Ae m rs]=.ok (.tup [.sh (.int m),.lst ((rs.map Cq).map .sh)]))/\(∀d:D,cl 3 d->BM d=false->O7 [d]=.ex "NoMap"):=(za2 JP).2
theorem O8:∃F:List D->M OT,(∀ {P w K mg base},Txt K mg->CC P w K mg base "added" 1 2 F)/\(∀a b:Co,F [cst a,cst b]=.ok (.sh (cst (AZ a b)))):=by
 refine⟨_,λ T=>AY (k:=0) T.kT ZI _ (λ f Bf A outer s H E hr=>(A5 (Bg (DW.dt (Hy (Ju (c:=true) (A2 0 (pv 0))) (Fo (Ju (c:=true) (A2 1 (pv 1)))))) (A7 (As (Bj Ck))) AN) (A7 (As (Bj (Aw (A1 (CY (Ah (B9 hr 16 (by decide)) (A2 0 (pv 0)) A3) (Ah (B9 hr 16 (by decide)) (A2 1 (pv 1)) A3)) (A1 (CY (Ah (B9 hr 16 (by decide)) (A2 0 (pv 0)) A3) (Ah (B9 hr 16 (by decide)) (A2 1 (pv 1)) A3)) A4)))))))),?_⟩;intro a b;rcases a with _|⟨a1,a2⟩<;>rcases b with _|⟨b1,b2⟩<;>rfl
noncomputable def ZQ:List D->M OT:=zab O8
theorem SO:Txt K mg->CC P w K mg base "added" 1 2 ZQ:=(za2 O8).1
theorem SQ:∀a b:Co,ZQ [cst a,cst b]=.ok (.sh (cst (AZ a b))):=(za2 O8).2
theorem O9:∃F:List D->M OT,(∀ {P w K mg base},Txt K mg->CC P w K mg base "least" 1 1 F)/\(∀cs:List Co,cs.length<=1000->F [.lst (cs.map cst)]=.ok (.sh (cst (NP cs)))):=by
 refine⟨_,λ T=>AY (k:=0) T.kU ZJ _ (λ f Bf A outer s H E hr=>(A7 (As (Bj (hZ rfl (B9 hr 1 (by decide)) rfl T.mG (Ab (Ec (NB:=["cost"]) [none] rfl (Bn (A2 0 (pv 0))) rfl rfl (BC 0 (by decide) rfl rfl rfl) (λ _ _ _ _=>Iv (Qq (c:=true) (A2 0 (pv 0)))) (λ _ _ _ _=>(A2 0 (pv 0))))) Ck))))),?_⟩;intro cs hc;have e0:∀x:D,AI ["some"] [x]=[some (.val x)]:=λ x=>rfl;rw[e0];refine Bh ?_;have hl:(cs.map cst).length<=1000:=by rw[za5];exact hc
 have me:=Z6 cs;have zp:=jR cs;simp_arith[if_pos hl];rw[Md];simp_arith[zp];rfl
noncomputable def Uv:List D->M OT:=zab O9
theorem ZR:Txt K mg->CC P w K mg base "least" 1 1 Uv:=(za2 O9).1
theorem ZS:∀cs:List Co,cs.length<=1000->Uv [.lst (cs.map cst)]=.ok (.sh (cst (NP cs))):=(za2 O9).2
theorem GU:∃F:List D->M OT,(∀ {P w K mg base},Txt K mg->CC P w K mg base "road_cost" 1 1 F)/\(∀r:Road,F [Cq r]=.ok (.sh (cst (Cu r)))):=by
 refine⟨_,λ T=>AY (k:=0) T.SA QS _ (λ f Bf A outer s H E hr=>(A5 (Bg (Ju (c:=true) (Ah (B9 hr 16 (by decide)) (A2 0 (pv 0)) A3)) (A7 (As (Bj Ck))) AN) (A7 (As (Bj (Aw (A1 (Ah (B9 hr 16 (by decide)) (A2 0 (pv 0)) A3) (A1 A3 A4)))))))),?_⟩;intro r;obtain⟨a,b,l,w⟩:=r;cases l<;>rfl
noncomputable def Oa:List D->M OT:=zab GU
theorem Eg:Txt K mg->CC P w K mg base "road_cost" 1 1 Oa:=(za2 GU).1
theorem Eh:∀r:Road,Oa [Cq r]=.ok (.sh (cst (Cu r))):=(za2 GU).2
theorem EY:∃F:List D->M OT,(∀ {P w K mg base},Txt K mg->CC P w K mg base "cost_so_far" 1 2 F)/\(∀(A:LA) (p:Int×Int),F [HK A,pD p]=.ok (.sh (cst (A9 A p)))):=by
 refine⟨_,λ T=>AY (k:=0) T.OE O2 _ (λ f Bf A outer s H E hr=>(A5 (Bg (MF (c:=true) (B9 hr 16 (by decide)) (A2 1 (pv 1)) (A2 0 (pv 0))) (A7 (As (Bj Ck))) AN) (A7 (As (Bj (Ah (B9 hr 16 (by decide)) (Ah (B9 hr 16 (by decide)) (A2 0 (pv 0)) (A2 1 (pv 1))) A3)))))),?_⟩;intro A p;have e0:AI ["laid","pair"] [HK A,pD p]=[some (.val (HK A)),some (.val (pD p))]:=rfl;rw[e0];refine Bh ?_;have hm:=NX A p true;unfold A9;cases q:Bv A p with
 |none =>
  rw[q] at hm;simp_arith[hm,D2];rfl
 |some v =>
  rw[q] at hm;have hi:=LL q;have h0:Bi (Sh v) (.int 0)=.ok (cst (some v.1)):=rfl;apply wp_step
  ·simp_arith[hm,D2];rfl
  simp_arith[hi,h0];rfl
noncomputable def KQ:List D->M OT:=zab EY
theorem HX:Txt K mg->CC P w K mg base "cost_so_far" 1 2 KQ:=(za2 EY).1
theorem HY:∀(A:LA) (p:Int×Int),KQ [HK A,pD p]=.ok (.sh (cst (A9 A p))):=(za2 EY).2
theorem Uw:∃F:OT->List D->M (OT×OT),(∀ {P w K mg base},Txt K mg->Pu P w K mg base "lay" 1 4 F)/\(∀(A:LA) (p:Int×Int) (c:Co) (mid:Option Int),A.length<1000->F (JV A) [pD p,cst c,DM mid]=.ok (JV (layA A p c mid),.sh .AK)):=by
 refine⟨_,λ T=>RS (k:=0) T.uY qW _ (λ f Bf A outer s H E hr=>(A7 (Bg (Qy (DW.dt (N6 (Qq (c:=true) (A2 2 (pv 2))) (Ka (DW.dt (Hy (MF (c:=true) (B9 hr 16 (by decide)) (A2 1 (pv 1)) (A2 0 (pv 0))) (Fo (pS (c:=true) (B9 hr 16 (by decide)) (A2 2 (pv 2)) (Ah (B9 hr 16 (by decide)) (Ah (B9 hr 16 (by decide)) (A2 0 (pv 0)) (A2 1 (pv 1))) A3))))))))) (A7 (QB (B9 hr 16 (by decide)) (BX 0 (pv 0)) (A2 1 (pv 1)) (Aw (A1 (A2 2 (pv 2)) (A1 (A2 3 (pv 3)) A4))))) AN))),?_⟩;intro A p c mid hA;have e0:CS ["laid","pair","cost","middle"] (JV A) [pD p,cst c,DM mid]=[some (.ow (.tree (some 0) (JV A))),some (.val (pD p)),some (.val (cst c)),some (.val (DM mid))]:=rfl;rw[e0];refine U8 ?_;have hm:=NX A p true;have xh:∀c:Int×Int,D.tup [cst (some c),DM mid]=Sh (c,mid):=λ c=>rfl;have hl:(A.map λ kv=>pD kv.1).length<1000:=by rw[za5];exact hA
 have og:keyOk true (pD p)=true:=rfl;have be:∀v,(List.map (λ kv=>pD kv.1) (GI A p v))=(List.map (λ kv=>pD kv.1) (GI A p v)):=λ _=>rfl;cases c with
 |none =>
  refine C9 (ρ':=_) (by simp_arith[cst,AV];rfl) ⟨rfl,rfl⟩
 |some c =>
  have dG:AV (cst (some c))=false:=rfl;cases q:Bv A p with
  |none =>
   rw[q] at hm;have el:layA A p (some c) mid=GI A p (c,mid):=by unfold layA;dsimp only;rw[q]
   rw[el];refine C9 (ρ':=[some (.ow (.tree (some 0) (JV (GI A p (c,mid))))),some (.val (pD p)),some (.val (cst (some c))),some (.val (DM mid))]) (by
    simp_arith[dG,hm,D2,CT,xh,if_pos (And.intro og hl),Zo,og,hl,and_self,if_true];rfl) ⟨rfl,rfl⟩
  |some z =>
   rw[q] at hm;have hi:=LL q;have h0:Bi (Sh z) (.int 0)=.ok (cst (some z.1)):=rfl;have hx:=xK c z.1;by_cases hc:c.1<z.1.1\/(c.1=z.1.1/\c.2<z.1.2)
   ·have el:layA A p (some c) mid=GI A p (c,mid):=by unfold layA;dsimp only;rw[q];dsimp only;rw[if_pos hc]
    rw[decide_eq_true hc] at hx;rw[el];refine C9 (ρ':=[some (.ow (.tree (some 0) (JV (GI A p (c,mid))))),some (.val (pD p)),some (.val (cst (some c))),some (.val (DM mid))]) (by
     simp_arith[dG,hm,hi,h0,hx,D2,CT,xh,if_pos (And.intro og hl),Zo,og,hl,and_self,if_true];rfl) ⟨rfl,rfl⟩
   ·have el:layA A p (some c) mid=A:=by unfold layA;dsimp only;rw[q];dsimp only;rw[if_neg hc]
    rw[decide_eq_false hc] at hx;rw[el];refine C9 (ρ':=_) (by simp_arith[dG,hm,hi,h0,hx,D2];rfl) ⟨rfl,rfl⟩
noncomputable def uZ:OT->List D->M (OT×OT):=zab Uw
theorem ZT:Txt K mg->Pu P w K mg base "lay" 1 4 uZ:=(za2 Uw).1
theorem ZU:∀(A:LA) (p:Int×Int) (c:Co) (mid:Option Int),A.length<1000->uZ (JV A) [pD p,cst c,DM mid]=.ok (JV (layA A p c mid),.sh .AK):=(za2 Uw).2
theorem HZ:∃F:OT->List D->M (OT×OT),(∀ {P w K mg base},Txt K mg->Pu P w K mg base "lay_over" 2 3 F)/\(∀(m:Nat) (A:LA) (p:Int) (H:List Int),m<=20->EQ m A->(∀x∈H,0<=x/\x<m)->F (JV A) [.int p,.lst (H.map D.int)]=.ok (JV (eY A p H),.sh .AK)):=by
 refine⟨_,λ T=>RS (k:=1) T.Uk Fg _ (λ f Bf A outer s H E hr=>(A7 (Dn Ad.toXCall.own rfl (Bn (A2 2 (pv 2))) (BB 3 Fg.nd rfl (zb4 rfl)) (A7 (Dn Ad.toXCall.own rfl (Bn (A2 2 (pv 2))) (BB 4 Fg.nd rfl (zb4 rfl)) (A7 (Bg (Hx (c:=true) (B9 hr 16 (by decide)) (A2 3 (pv 3)) (A2 4 (pv 4))) (A5 (Az 5 Fg.nd rfl (zb4 rfl) (Ab (Jz (Ai Ad.toXCall (SO T) (hr.mono (by decide)) rfl (A1 (Ab (Ai Ad.toXCall (HX T) (hr.mono (by decide)) rfl (A1 (A2 0 (pv 0)) (A1 (Aw (A1 (A2 3 (pv 3)) (A1 (A2 1 (pv 1)) A4))) A4)) rfl)) (A1 (Ab (Ai Ad.toXCall (HX T) (hr.mono (by decide)) rfl (A1 (A2 0 (pv 0)) (A1 (Aw (A1 (A2 1 (pv 1)) (A1 (A2 4 (pv 4)) A4))) A4)) rfl)) A4)) rfl)))) (A7 (NE (YO Ad.toXCall (ZT T) (hr.mono (by decide)) rfl (BX 0 (pv 0)) (A1 (Aw (A1 (A2 3 (pv 3)) (A1 (A2 4 (pv 4)) A4))) (A1 (A2 5 (pv 5)) (A1 (A2 1 (pv 1)) A4))) rfl)))) AN))))))),?_⟩;intro m A p H hm hA hH;have e0:CS ["laid","place","higher","u","w","cost"] (JV A) [.int p,.lst (H.map D.int)]=[some (.ow (.tree (some 0) (JV A))),some (.val (.int p)),some (.val (.lst (H.map D.int))),none,none,none]:=rfl;rw[e0];refine U8 ?_;simp_arith[];refine Dr (λ i ρ=>∃s3 s4 s5:Option Cl,ρ=[some (.ow (.tree (some 0) (JV ((H.take i).foldl (X5 p H) A)))),some (.val (.int p)),some (.val (.lst (H.map D.int))),s3,s4,s5]) ⟨none,none,none,rfl⟩ ?_ ?_
 ·rintro i d ρ hd ⟨s3,s4,s5,rfl⟩;obtain⟨u,hu,rfl⟩:=Cb hd;have zq:=hH u (zag hu);refine⟨_,rfl,?_⟩;obtain⟨B,hB⟩:∃B,B=(H.take i).foldl (X5 p H) A:=⟨_,rfl⟩;have jg:EQ m B:=by rw[hB];exact EQ.lo hH hA λ x hx=>hH x (zbq hx)
  rw[<-hB,ET hu,<-hB];simp_arith[];refine Dr (λ j ρ=>∃s4 s5:Option Cl,ρ=[some (.ow (.tree (some 0) (JV ((H.take j).foldl (MK p u) B)))),some (.val (.int p)),some (.val (.lst (H.map D.int))),some (.val (.int u)),s4,s5]) ⟨s4,s5,rfl⟩ ?_ ?_
  ·rintro j d ρ hd ⟨s4,s5,rfl⟩;obtain⟨w,hw,rfl⟩:=Cb hd;have hwm:=hH w (zag hw);refine⟨_,rfl,?_⟩;obtain⟨C,hC⟩:∃C,C=(H.take j).foldl (MK p u) B:=⟨_,rfl⟩;have sy:EQ m C:=by rw[hC];exact EQ.ou zq jg λ x hx=>hH x (zbq hx)
   rw[ET hw,<-hC];by_cases e:u=w
   ·have ev:MK p u C w=C:=by unfold MK;rw[if_pos e]
    rw[ev];refine C9 (ρ':=_) (by simp_arith[decide_eq_true e];rfl) ⟨_,_,rfl⟩
   ·have ev:MK p u C w=layA C (u,w) (AZ (A9 C (u,p)) (A9 C (p,w))) (some p):=by unfold MK;rw[if_neg e]
    rw[ev];have h1:=HY C (u,p);have h2:=HY C (p,w);have h3:=SQ (A9 C (u,p)) (A9 C (p,w));have h4:=ZU C (u,w) (AZ (A9 C (u,p)) (A9 C (p,w))) (some p) (sy.len hm);have t1:∀a b:Int,D.tup [.int a,.int b]=pD (a,b):=λ a b=>rfl;have t2:DM (some p)=.int p:=rfl;rw[t2] at h4;have h5:=LM (ρ:=[some (.ow (.tree (some 0) (JV C))),some (.val (.int p)),some (.val (.lst (H.map D.int))),some (.val (.int u)),some (.val (.int w)),some (.val (cst (AZ (A9 C (u,p)) (A9 C (p,w)))))]) (i:=0) rfl rfl h4;simp_arith[decide_eq_false e,if_true];apply wp_step
    ·simp_arith[t1,h1,h2,h3];rfl
    refine C9 (ρ':=_) (by simp_arith[t1,h5];rfl) ⟨_,_,rfl⟩
  ·rintro ρ ⟨s4,s5,rfl⟩;rw[za5,zcc];exact⟨_,s4,s5,rfl⟩
 ·rintro ρ ⟨s3,s4,s5,rfl⟩;rw[za5,zcc];exact⟨rfl,trivial⟩
noncomputable def Qb:OT->List D->M (OT×OT):=zab HZ
theorem SR:Txt K mg->Pu P w K mg base "lay_over" 2 3 Qb:=(za2 HZ).1
theorem SS:∀(m:Nat) (A:LA) (p:Int) (H:List Int),m<=20->EQ m A->(∀x∈H,0<=x/\x<m)->Qb (JV A) [.int p,.lst (H.map D.int)]=.ok (JV (eY A p H),.sh .AK):=(za2 HZ).2
theorem GV:∃F:List D->M OT,(∀ {P w K mg base},Txt K mg->CC P w K mg base "laid_arcs" 3 2 F)/\(∀(m:Nat) (rs:List Road) (L:List Int),m<=20->L.Perm (An m)->(∀r∈rs,L0 m r/\r.a≠r.b)->F [Ae m rs,.lst (L.map D.int)]=.ok (JV (Bp rs L))):=by
 refine⟨_,λ T=>AY (k:=2) T.SD D6 _ (λ f Bf A outer s H E hr=>(A5 (D1 2 D6.nd rfl (zb4 rfl) (Kq true)) (A5 (Dn Ad.toXCall.own rfl (Bn (Ah (B9 hr 16 (by decide)) (A2 0 (pv 0)) A3)) (BB 3 D6.nd rfl (zb4 rfl)) (A7 (NE (YO Ad.toXCall (ZT T) (hr.mono (by decide)) rfl (BX 2 (pv 2)) (A1 (Aw (A1 (Ah (B9 hr 16 (by decide)) (A2 3 (pv 3)) A3) (A1 (Ah (B9 hr 16 (by decide)) (A2 3 (pv 3)) A3) A4))) (A1 (Ab (Ai Ad.toXCall (Eg T) (hr.mono (by decide)) rfl (A1 (A2 3 (pv 3)) A4) rfl)) (A1 Ck A4))) rfl)))) (A5 (Dn Ad.toXCall.own rfl (UP rfl T.Mg (A2 1 (pv 1))) (TC (n:=2) rfl (FK (BB 4 D6.nd rfl (zb4 rfl)) (FK (BB 5 D6.nd rfl (zb4 rfl)) Qt))) (A7 (NE (YO Ad.toXCall (SR T) (hr.mono (by decide)) rfl (BX 2 (pv 2)) (A1 (A2 5 (pv 5)) (A1 (Ab (BO (A2 1 (pv 1)) (C4 (CY (A2 4 (pv 4)) A3)) CB)) A4)) rfl)))) (A7 (Fc 2 (pv 2))))))),?_⟩;intro m rs L hm hL AE;have e0:AI ["net","order","laid","road","rank","place"] [Ae m rs,.lst (L.map D.int)]=[some (.val (Ae m rs)),some (.val (.lst (L.map D.int))),none,none,none,none]:=rfl;rw[e0];refine Bh ?_;have n1:Bi (Ae m rs) (.int 1)=.ok (.lst (rs.map Cq)):=rfl;apply wp_step
 ·rfl
 try simp only[zaw,zam]
 have jh:∀i,i<=rs.length->EQ m ((rs.take i).foldl (λ A r=>layA A (r.a,r.b) (Cu r) none) []):=λ i hi=>by
  have:=(QL (m:=m) (rs:=rs.take i) λ r hr=>AE r (zbq hr)).1;exact this
 refine By (I:=λ ρ=>∃s3 s4 s5:Option Cl,ρ=[some (.val (Ae m rs)),some (.val (.lst (L.map D.int))),some (.ow (.tree none (JV (lay0 rs)))),s3,s4,s5]) ?_ ?_
 ·simp_arith[n1];refine Dr (λ i ρ=>i<=rs.length/\∃s3 s4 s5:Option Cl,ρ=[some (.val (Ae m rs)),some (.val (.lst (L.map D.int))),some (.ow (.tree none (JV ((rs.take i).foldl (λ A r=>layA A (r.a,r.b) (Cu r) none) [])))),s3,s4,s5]) ⟨zb9 _,none,none,none,rfl⟩ ?_ ?_
  ·rintro i d ρ hd ⟨hi,s3,s4,s5,rfl⟩;obtain⟨r,hr,rfl⟩:=Cb hd;have be:=(zan.mp hr).1;refine⟨_,rfl,?_⟩;rw[ET hr];obtain⟨B,hB⟩:∃B,B=(rs.take i).foldl (λ A r=>layA A (r.a,r.b) (Cu r) none) []:=⟨_,rfl⟩;have jg:EQ m B:=by rw[hB];exact jh i hi
   rw[<-hB];have i0:Bi (Cq r) (.int 0)=.ok (.int r.a):=rfl;have i1:Bi (Cq r) (.int 1)=.ok (.int r.b):=rfl;have h1:=Eh r;have h2:=ZU B (r.a,r.b) (Cu r) none (jg.len hm);have t1:∀a b:Int,D.tup [.int a,.int b]=pD (a,b):=λ a b=>rfl;have t2:DM none=.AK:=rfl;rw[t2] at h2;have h5:=LM (ρ:=[some (.val (Ae m rs)),some (.val (.lst (L.map D.int))),some (.ow (.tree none (JV B))),some (.val (Cq r)),s4,s5]) (i:=2) rfl rfl h2;refine C9 (ρ':=_) (by simp_arith[i0,i1,h1,t1,h5];rfl) ⟨be,_,_,_,rfl⟩
  ·rintro ρ ⟨_,s3,s4,s5,rfl⟩;rw[za5,zcc];exact⟨s3,s4,s5,rfl⟩
 ·rintro ρ ⟨s3,s4,s5,rfl⟩;have sB:=QL AE;refine By (I:=λ ρ=>∃s3 s4 s5:Option Cl,ρ=[some (.val (Ae m rs)),some (.val (.lst (L.map D.int))),some (.ow (.tree none (JV (Bp rs L)))),s3,s4,s5]) ?_ ?_
  ·simp_arith[];refine Dr (λ i ρ=>i<=L.length/\∃(G:LA) (s3 s4 s5:Option Cl),ρ=[some (.val (Ae m rs)),some (.val (.lst (L.map D.int))),some (.ow (.tree none (JV G))),s3,s4,s5]/\EQ m G/\Om G (L.drop i)=Om (lay0 rs) L) ⟨zb9 _,lay0 rs,s3,s4,s5,rfl,sB.1,rfl⟩ ?_ ?_
   ·rintro i d ρ hd ⟨hi,G,s3,s4,s5,rfl,hG,ml⟩;obtain⟨d',dE,rfl⟩:=Ln hd;obtain⟨p,hp,rfl⟩:=Cb dE;have be:=(zan.mp hp).1;rw[Nat.zero_add];refine⟨_,rfl,?_⟩;have dC:∀x∈L.drop (i+1),0<=x/\x<m:=λ x hx=>(D4 hL).mp (List.mem_of_mem_drop hx);have ed:L.drop i=p::L.drop (i+1):=by
     rw[List.drop_eq_getElem_cons be];rw[zaf be] at hp;rw[zax hp]
    rw[ed,Om] at ml;have h2:=SS m G p (L.drop (i+1)) hm hG dC;have sl:T8 (some ((i:Int)+1)) none (.lst (L.map D.int))=.ok (.lst (((L.drop (i+1)).map D.int).map .sh)):=by rw[List.map_drop];exact NJ _ (i+1)
    have h5:=LM (ρ:=[some (.val (Ae m rs)),some (.val (.lst (L.map D.int))),some (.ow (.tree none (JV G))),s3,some (.val (.int i)),some (.val (.int p))]) (i:=2) rfl rfl h2;refine C9 (ρ':=_) (by simp_arith[sl,h5];rfl) ⟨be,_,_,_,_,rfl,EQ.lo dC hG dC,ml⟩
   ·rintro ρ ⟨_,G,s3,s4,s5,rfl,hG,ml⟩;rw[FL,za5,List.drop_length,Om] at ml;exact⟨s3,s4,s5,by rw[ml];rfl⟩
  ·rintro ρ ⟨s3,s4,s5,rfl⟩;exact⟨_,rfl,rfl⟩
noncomputable def Ob:List D->M OT:=zab GV
theorem R3:Txt K mg->CC P w K mg base "laid_arcs" 3 2 Ob:=(za2 GV).1
theorem R4:∀(m:Nat) (rs:List Road) (L:List Int),m<=20->L.Perm (An m)->(∀r∈rs,L0 m r/\r.a≠r.b)->Ob [Ae m rs,.lst (L.map D.int)]=.ok (JV (Bp rs L)):=(za2 GV).2
theorem I9:∃F:List D->M OT,(∀ {P w K mg base},Txt K mg->CC P w K mg base "is_order" 2 2 F)/\(∀(m:Nat) (x d:D),m<=60->Vf d->F [.tup [.int m,x],d]=.ok (.sh (.bl (BL m d)))):=by
 refine⟨_,λ T=>AY (k:=1) T.Ul Sy _ (λ f Bf A outer s H E hr=>(A5 (Bg (DW.dt (Hy (Dk (C8 (c:=true) (Fp (Pf _) rfl T.Au rfl T.JM (by decide +kernel) (A2 1 (pv 1))))) (Fo (Hx (c:=true) (B9 hr 16 (by decide)) (N8 rfl T.SK (A2 1 (pv 1))) (Ah (B9 hr 16 (by decide)) (A2 0 (pv 0)) A3))))) (A7 (As (Bj C0))) AN) (A5 (Bg (Dk (C8 (c:=true) (YC rfl rfl T.mF (Ab (Ec (NB:=["place","net"]) [none,some 0] rfl (Bn (A2 1 (pv 1))) rfl rfl (BC 0 (by decide) rfl rfl rfl) (λ _ _ _ _=>Ea) (λ _ _ _ _=>(Ab (Cp (Ai (Cn rfl).toXCall (B3 T) (hr.mono (by decide)) rfl (A1 (A2 0 (pv 0)) (A1 (Ah (B9 hr 16 (by decide)) (A2 1 (pv 1)) A3) A4)) rfl))))))))) (A7 (As (Bj C0))) AN) (A7 (As (Bj (Pd (B9 hr 16 (by decide)) (Ab (WE rfl rfl T.SM (A2 1 (pv 1)))) (Ab (Ed rfl rfl T.JM rfl T.D9 (Ah (B9 hr 16 (by decide)) (A2 0 (pv 0)) A3)))))))))),?_⟩;intro m x d hm ⟨hx,AE⟩;have e0:AI ["net","thing"] [.tup [.int m,x],d]=[some (.val (.tup [.int m,x])),some (.val d)]:=rfl;rw[e0];have n0:Bi (.tup [.int m,x]) (.int 0)=.ok (.int m):=rfl;refine Bh ?_;cases d with
 |lst xs =>
  obtain⟨hl,dQ⟩:=AE xs rfl;by_cases h1:xs.length=m
  ·have gy:(xs.length:Int)=(m:Int):=by omega
   apply wp_step
   ·simp_arith[n0,decide_eq_true gy];rfl
   have aV:∀ {gt:D->Aa->M Aa} {ft:Aa->M Bool} {fe:Aa->M D} {ρ:Aa},(∀d∈xs,∃ρ1,gt d ρ=.ok ρ1/\ft ρ1=.ok true/\fe ρ1=.ok (.bl (F9 d m)))->Bt gt ft fe xs ρ=.ok ((xs.map λ e=>F9 e m).map D.bl):=λ h=>by
    rw[Pn (λ d=>.bl (F9 d m)) xs h,zbz];rfl
   cases h2:(xs.map λ e=>F9 e m).all id with
   |false =>
    have hf:BL m (.lst xs)=false:=by
     cases q:BL m (.lst xs) with
     |false=>rfl
     |true=>have:=(Sa q).2;rw[h2] at this;cases this
    rw[hf];simp_arith[if_pos hl];rw[aV]
    ·simp_arith[h2];rfl
    ·intro d hd;have:=AL d m (dQ d hd);exact⟨_,rfl,rfl,by simp_arith[n0,this]⟩
   |true =>
    obtain⟨L,rfl⟩:=Vg h2;rw[za5] at h1;have hs:=WD (ns:=L) (by omega);have h3:=Kr (n:=m) (by omega);rw[NT] at h3;apply wp_step
    ·simp_arith[if_pos hl];rw[aV]
     ·simp_arith[h2];rfl
     ·intro d hd;have:=AL d m (dQ d hd);exact⟨_,rfl,rfl,by simp_arith[n0,this]⟩
    simp_arith[n0,hs,h3,Zb];rw[NU];rfl
  ·have gy:¬ (xs.length:Int)=(m:Int):=by omega
   rw[MI h1];simp_arith[n0,decide_eq_false gy];rfl
 |Ct x|ins x n d=>cases hx
 |_=>rfl
noncomputable def Qc:List D->M OT:=zab I9
theorem SU:Txt K mg->CC P w K mg base "is_order" 2 2 Qc:=(za2 I9).1
theorem Mi:∀(m:Nat) (x d:D),m<=60->Vf d->Qc [.tup [.int m,x],d]=.ok (.sh (.bl (BL m d))):=(za2 I9).2
theorem Dy:∃F:List D->M OT,(∀ {P w K mg base},Txt K mg->CC P w K mg base "checked_order" 3 2 F)/\((∀(m:Nat) (x:D) (L:List Int),m<=60->L.Perm (An m)->F [.tup [.int m,x],.lst (L.map .int)]=.ok (.lst ((L.map D.int).map .sh)))/\(∀(m:Nat) (x d:D),m<=60->Vf d->BL m d=false->F [.tup [.int m,x],d]=.ex "NoOrder")):=by
 refine⟨_,λ T=>AY (k:=2) T.Mu LW _ (λ f Bf A outer s H E hr=>(A5 (Bg (Dk (C8 (c:=true) (Ab (Ai Ad.toXCall (SU T) (hr.mono (by decide)) rfl (A1 (A2 0 (pv 0)) (A1 (A2 1 (pv 1)) A4)) rfl)))) (A7 (Lp (c:=true) T.Xj Ad rfl rfl Jt)) AN) (A7 (As (iR rfl T.JM (A2 1 (pv 1))))))),?_⟩;refine⟨λ m x L hm hL=>?_,λ m x d hm hd ho=>?_⟩
 ·have e0:AI ["net","thing"] [.tup [.int m,x],.lst (L.map .int)]=[some (.val (.tup [.int m,x])),some (.val (.lst (L.map .int)))]:=rfl;rw[e0];have hd:Vf (.lst (L.map D.int)):=⟨rfl,λ xs e=>by
   cases e;exact⟨by rw[za5,Ky hL];omega,λ e he=>by obtain⟨j,_,rfl⟩:=zay.mp he;rfl⟩⟩
  have h1:=Mi m x _ hm hd;rw[U5 hL] at h1;refine Bh ?_;apply wp_step
  ·simp_arith[h1];rfl
  simp_arith[];exact⟨_,rfl,rfl⟩
 ·have e0:AI ["net","thing"] [.tup [.int m,x],d]=[some (.val (.tup [.int m,x])),some (.val d)]:=rfl;rw[e0];have h1:=Mi m x _ hm hd;rw[ho] at h1;simp_arith[h1];rfl
noncomputable def Cd:List D->M OT:=zab Dy
theorem M2:Txt K mg->CC P w K mg base "checked_order" 3 2 Cd:=(za2 Dy).1
theorem Gp:(∀(m:Nat) (x:D) (L:List Int),m<=60->L.Perm (An m)->Cd [.tup [.int m,x],.lst (L.map .int)]=.ok (.lst ((L.map D.int).map .sh)))/\(∀(m:Nat) (x d:D),m<=60->Vf d->BL m d=false->Cd [.tup [.int m,x],d]=.ex "NoOrder"):=(za2 Dy).2
theorem FC:∃F:List D->M OT,(∀ {P w K mg base},Txt K mg->CC P w K mg base "first_bows" 2 1 F)/\(∀(m:Nat) (rs:List Road),m<=20->(∀r∈rs,L0 m r/\r.a≠r.b)->F [Ae m rs]=.ok (.Bl true ((BU rs).map pD) ((Dh (BU rs)).map .sh))):=by
 refine⟨_,λ T=>AY (k:=1) T.QU Fv _ (λ f Bf A outer s H E hr=>(A5 (D1 1 Fv.nd rfl (zb4 rfl) (Kq true)) (A5 (Dn Ad.toXCall.own rfl (Bn (Ah (B9 hr 16 (by decide)) (A2 0 (pv 0)) A3)) (BB 2 Fv.nd rfl (zb4 rfl)) (A7 (Bg (Qq (c:=true) (Ab (Ai Ad.toXCall (Eg T) (hr.mono (by decide)) rfl (A1 (A2 2 (pv 2)) A4) rfl))) (A7 (QB (B9 hr 16 (by decide)) (BX 1 (pv 1)) (Aw (A1 (Ah (B9 hr 16 (by decide)) (A2 2 (pv 2)) A3) (A1 (Ah (B9 hr 16 (by decide)) (A2 2 (pv 2)) A3) A4))) C0)) AN))) (A7 (Fc 1 (pv 1)))))),?_⟩;intro m rs hm AE;have e0:AI ["net","bows","road"] [Ae m rs]=[some (.val (Ae m rs)),none,none]:=rfl;rw[e0];refine Bh ?_;apply wp_step
 ·rfl
 have n1:Bi (Ae m rs) (.int 1)=.ok (.lst (rs.map Cq)):=rfl;refine By (I:=λ ρ=>∃s2,ρ=[some (.val (Ae m rs)),some (.ow (.tree none (.Bl true ((BU rs).map pD) ((Dh (BU rs)).map .sh)))),s2]) ?_ ?_
 ·simp_arith[n1];refine Dr (λ i ρ=>∃s2,ρ=[some (.val (Ae m rs)),some (.ow (.tree none (.Bl true ((BU (rs.take i)).map pD) ((Dh (BU (rs.take i))).map .sh)))),s2]) ⟨none,rfl⟩ ?_ ?_
  ·rintro i d ρ hd ⟨s2,rfl⟩;rw[zat] at hd;cases hq:rs[i]? with
   |none=>rw[hq] at hd;cases hd
   |some r =>
    rw[hq] at hd;cases hd;have hr:=zag hq;have et:rs.take (i+1)=rs.take i++[r]:=by rw[zd0,hq];rfl
    have eb:BU (rs.take (i+1))=(match r.l with|none=>BU (rs.take i)|some _=>LF (BU (rs.take i)) (r.a,r.b)):=by
     unfold BU;rw[et,List.foldl_append];rfl
    have zr:=S8 (m:=m) (rs:=rs.take i) λ r' h'=>AE r' (zbq h');have hlen:=zr.len hm;have h1:=Eh r;refine⟨_,rfl,?_⟩;cases hl:r.l with
    |none =>
     have e1:Cu r=none:=by unfold Cu;rw[hl]
     rw[hl] at eb;rw[e1] at h1;simp_arith[h1,cst,AV];exact⟨_,by rw[eb]⟩
    |some l =>
     have e1:Cu r=some (l,1):=by unfold Cu;rw[hl]
     rw[hl] at eb;rw[e1] at h1;have i0:Bi (Cq r) (.int 0)=.ok (.int r.a):=rfl;have i1:Bi (Cq r) (.int 1)=.ok (.int r.b):=rfl;have kk:keyOk true (D.tup [.int r.a,.int r.b])=true/\((BU (rs.take i)).map pD).length<1000:=⟨rfl,by rw[za5];exact hlen⟩;have pp:putD ((BU (rs.take i)).map pD) (Dh (BU (rs.take i))) (D.tup [.int r.a,.int r.b]) (.bl true)=_:=Ve (BU (rs.take i)) (r.a,r.b);simp_arith[h1,cst,AV,Bool.not_false,if_true,i0,i1,if_pos kk,pp];exact⟨_,by rw[eb]⟩
  ·rintro ρ ⟨s2,rfl⟩;rw[za5,zcc];exact⟨s2,rfl⟩
 ·rintro ρ ⟨s2,rfl⟩;exact⟨_,rfl,rfl⟩
noncomputable def Mj:List D->M OT:=zab FC
theorem OI:Txt K mg->CC P w K mg base "first_bows" 2 1 Mj:=(za2 FC).1
theorem OJ:∀(m:Nat) (rs:List Road),m<=20->(∀r∈rs,L0 m r/\r.a≠r.b)->Mj [Ae m rs]=.ok (.Bl true ((BU rs).map pD) ((Dh (BU rs)).map .sh)):=(za2 FC).2
theorem DY:∃F:List D->M OT,(∀ {P w K mg base},Txt K mg->CC P w K mg base "missing_bows" 1 3 F)/\(∀(B:List (Int×Int)) (vs:List D) (L:List Int) (v:Int),L.length<=30->F [.Bl true (B.map pD) vs,.lst (L.map .int),.int v]=.ok (.lst (((Ba B L v).map pD).map .sh))):=by
 refine⟨_,λ T=>AY (k:=0) T.O6 C1 _ (λ f Bf A outer s H E hr=>(A5 (Iw (NB:=["u","bows","place"]) 3 [none,some 0,some 2] C1.nd rfl (zb4 rfl) rfl (Bn (A2 1 (pv 1))) rfl rfl (BC 0 (by decide) rfl rfl rfl) (λ _ _ _ _=>Iv (TU (c:=true) (B9 hr 16 (by decide)) (Aw (A1 (A2 0 (pv 0)) (A1 (A2 2 (pv 2)) A4))) (A2 1 (pv 1)))) (λ _ _ _ _=>(A2 0 (pv 0)))) (A5 (Iw (NB:=["w","bows","place"]) 4 [none,some 0,some 2] C1.nd rfl (zb4 rfl) rfl (Bn (A2 1 (pv 1))) rfl rfl (BC 0 (by decide) rfl rfl rfl) (λ _ _ _ _=>Iv (TU (c:=true) (B9 hr 16 (by decide)) (Aw (A1 (A2 2 (pv 2)) (A1 (A2 0 (pv 0)) A4))) (A2 1 (pv 1)))) (λ _ _ _ _=>(A2 0 (pv 0)))) (A5 (D1 5 C1.nd rfl (zb4 rfl) (HE Eb)) (A5 (Dn Ad.toXCall.own rfl (Bn (A2 3 (pv 3))) (BB 6 C1.nd rfl (Or.inr rfl)) (A7 (YL (BX 5 (pv 5)) (by exact (Ec (NB:=["w","u","bows"]) [none,some 6,some 0] rfl (Bn (A2 4 (pv 4))) rfl rfl (BC 0 (by decide) rfl rfl rfl) (λ _ _ _ _=>Iv (DW.dt (N6 (Hx (c:=true) (B9 hr 16 (by decide)) (A2 1 (pv 1)) (A2 0 (pv 0))) (Ka (MF (c:=true) (B9 hr 16 (by decide)) (Aw (A1 (A2 1 (pv 1)) (A1 (A2 0 (pv 0)) A4))) (A2 2 (pv 2))))))) (λ _ _ _ _=>(Aw (A1 (A2 1 (pv 1)) (A1 (A2 0 (pv 0)) A4))))))))) (A7 (Fc 5 (pv 5)))))))),?_⟩;intro B vs L v hl;have e0:AI ["bows","left","place","ahead","behind","missing","u"] [.Bl true (B.map pD) vs,.lst (L.map .int),.int v]=[some (.val (.Bl true (B.map pD) vs)),some (.val (.lst (L.map .int))),some (.val (.int v)),none,none,none,none]:=rfl;rw[e0];refine Bh ?_;have hL:(L.map D.int).length<=1000:=by rw[za5];omega
 apply wp_step
 ·simp_arith[if_pos hL];rw[CG (λ u=>decide ((u,v)∈B)) D.int (λ u hu=>⟨_,rfl,by simp[pM,pN,IP,zaw,zam,M.A8,El,Ek,FN,G1,G2,G3,ID,GD,HF,Ks,FR,FT,Em,Py,IA,IB,FU,Wt,En,Eo,Ds,Lw,Ca,Lx,FV,FW,Ep,Pz,FQ,CZ,toCl_list,toCl_listP,toCl_dct,IE,G4,G5,G6,G7,IF,G8,G9,Ga,lO,lN,FX,PB,FY,PD,FZ,G0,IC,PF,rJ,rK,Ww,Wx,Wy,Wz,WA,WB,toCl_nil,HA,Kn,Oj,Ly,Er,IG,IH,Gb,Gd,II,IJ,IK,IL,IM,Ge,Gf,Gg,Gh,Es,Eu,Ew,Ex,Ey,Gi,Ez,EA,PH,PJ,PL,PM,PN,EB,ite_tt,ite_ff,Bool.not_true,Bool.not_false,zd5,zb7,Dw,Gj,Gk,Wv,WY,Wu,X1,X2,X3,IU,LI,LJ,LK,CT,EE,IW,LC,X8,Q6,LP,QG],λ _=>by simp_arith[]⟩)];simp_arith[];rfl
 apply wp_step
 ·simp_arith[if_pos hL];rw[CG (λ w=>decide ((v,w)∈B)) D.int (λ u hu=>⟨_,rfl,by simp[pM,pN,IP,zaw,zam,M.A8,El,Ek,FN,G1,G2,G3,ID,GD,HF,Ks,FR,FT,Em,Py,IA,IB,FU,Wt,En,Eo,Ds,Lw,Ca,Lx,FV,FW,Ep,Pz,FQ,CZ,toCl_list,toCl_listP,toCl_dct,IE,G4,G5,G6,G7,IF,G8,G9,Ga,lO,lN,FX,PB,FY,PD,FZ,G0,IC,PF,rJ,rK,Ww,Wx,Wy,Wz,WA,WB,toCl_nil,HA,Kn,Oj,Ly,Er,IG,IH,Gb,Gd,II,IJ,IK,IL,IM,Ge,Gf,Gg,Gh,Es,Eu,Ew,Ex,Ey,Gi,Ez,EA,PH,PJ,PL,PM,PN,EB,ite_tt,ite_ff,Bool.not_true,Bool.not_false,zd5,zb7,Dw,Gj,Gk,Wv,WY,Wu,X1,X2,X3,IU,LI,LJ,LK,CT,EE,IW,LC,X8,Q6,LP,QG],λ _=>by simp_arith[]⟩)];simp_arith[];rfl
 apply wp_step
 ·rfl
 try simp only[zaw,zam]
 have xj:((L.filter λ w=>decide ((v,w)∈B)).map D.int).length<=1000:=by rw[za5];exact zbw (List.length_filter_le _ _) (by omega)
 have hlen:=WR B L v;have hsq:L.length*L.length<=30*30:=Nat.mul_le_mul hl hl;generalize hA:L.filter (λ u=>decide ((u,v)∈B))=A;generalize hW:L.filter (λ w=>decide ((v,w)∈B))=W at xj ⊢;obtain⟨G,hG⟩:∃G:Int->List (Int×Int),G=λ u=>((W.filter λ w=>decide (u≠w) && !decide ((u,w)∈B)).map λ w=>(u,w)):=⟨_,rfl⟩;have ia:Ba B L v=A.flatMap G:=by unfold Ba;rw[hA,hW,hG]
 refine By (I:=λ ρ=>∃s6,ρ=[some (.val (.Bl true (B.map pD) vs)),some (.val (.lst (L.map .int))),some (.val (.int v)),some (.val (.lst (A.map .int))),some (.val (.lst (W.map .int))),some (.own ((A.flatMap G).map pD)),s6]) ?_ ?_
 ·simp_arith[];refine Dr (λ i ρ=>∃s6,ρ=[some (.val (.Bl true (B.map pD) vs)),some (.val (.lst (L.map .int))),some (.val (.int v)),some (.val (.lst (A.map .int))),some (.val (.lst (W.map .int))),some (.own (((A.take i).flatMap G).map pD)),s6]) ⟨none,rfl⟩ ?_ ?_
  ·rintro i d ρ hd ⟨s6,rfl⟩;obtain⟨u,hu,rfl⟩:=Cb hd;have et:A.take (i+1)=A.take i++[u]:=by rw[zd0,hu];rfl
   refine⟨_,rfl,?_⟩;have hb:(((A.take i).flatMap G).map pD).length+((G u).map pD).length<=1000:=by
    have h1:((A.take (i+1)).flatMap G).length<=(A.flatMap G).length:=by
     conv=>rhs;rw[<-List.take_append_drop (i+1) A,List.flatMap_append,zah]
     omega
    rw[et,List.flatMap_append,zah] at h1;rw[ia] at hlen;simp only[List.flatMap_cons,List.flatMap_nil,zbj] at h1;rw[za5,za5];omega
   have jt:(((W.filter λ w=>decide (u≠w) && !decide ((u,w)∈B)).map λ w=>(u,w)).map pD)=(W.filter λ w=>decide (u≠w) && !decide ((u,w)∈B)).map λ w=>D.tup [.int u,.int w]:=by rw[zbz];rfl
   refine C9 (ρ':=[some (.val (.Bl true (B.map pD) vs)),some (.val (.lst (L.map .int))),some (.val (.int v)),some (.val (.lst (A.map .int))),some (.val (.lst (W.map .int))),some (.own (((A.take (i+1)).flatMap G).map pD)),some (.val (.int u))]) ?_ ⟨_,rfl⟩;simp_arith[if_pos xj];rw[CG (λ w=>decide (u≠w) && !decide ((u,w)∈B)) (λ w=>D.tup [.int u,.int w]) (λ w hw=>⟨_,rfl,by
    simp[pM,pN,IP,zaw,zam,M.A8,El,Ek,FN,G1,G2,G3,ID,GD,HF,Ks,FR,FT,Em,Py,IA,IB,FU,Wt,En,Eo,Ds,Lw,Ca,Lx,FV,FW,Ep,Pz,FQ,CZ,toCl_list,toCl_listP,toCl_dct,IE,G4,G5,G6,G7,IF,G8,G9,Ga,lO,lN,FX,PB,FY,PD,FZ,G0,IC,PF,rJ,rK,Ww,Wx,Wy,Wz,WA,WB,toCl_nil,HA,Kn,Oj,Ly,Er,IG,IH,Gb,Gd,II,IJ,IK,IL,IM,Ge,Gf,Gg,Gh,Es,Eu,Ew,Ex,Ey,Gi,Ez,EA,PH,PJ,PL,PM,PN,EB,ite_tt,ite_ff,Bool.not_true,Bool.not_false,zd5,zb7,Dw,Gj,Gk,Wv,WY,Wu,X1,X2,X3,IU,LI,LJ,LK,CT,EE,IW,LC,X8,Q6,LP,QG,Xs,Js,AR,AA];by_cases h:u=w<;>simp[h],λ _=>by simp_arith[]⟩)]
   rw[<-jt];have zt:((W.filter λ w=>decide (u≠w) && !decide ((u,w)∈B)).map λ w=>(u,w))=G u:=by rw[hG]
   rw[zt];simp_arith[if_pos hb];rw[et,List.flatMap_append,List.flatMap_cons,List.flatMap_nil,zbj,<-zbm]
  ·rintro ρ ⟨s6,rfl⟩;rw[za5,zcc];exact⟨s6,rfl⟩
 ·rintro ρ ⟨s6,rfl⟩;rw[ia];exact⟨_,rfl,rfl⟩
noncomputable def Jm:List D->M OT:=zab DY
theorem Hk:Txt K mg->CC P w K mg base "missing_bows" 1 3 Jm:=(za2 DY).1
theorem Hl:∀(B:List (Int×Int)) (vs:List D) (L:List Int) (v:Int),L.length<=30->Jm [.Bl true (B.map pD) vs,.lst (L.map .int),.int v]=.ok (.lst (((Ba B L v).map pD).map .sh)):=(za2 DY).2
theorem Ia:∃F:List D->M OT,(∀ {P w K mg base},Txt K mg->CC P w K mg base "lightest" 2 2 F)/\(∀(B:List (Int×Int)) (vs:List D) (L:List Int),L≠[]->L.length<=30->F [.Bl true (B.map pD) vs,.lst (L.map .int)]=.ok (.sh (.int (Bw B L)))):=by
 refine⟨_,λ T=>AY (k:=1) T.Um Sz _ (λ f Bf A outer s H E hr=>(A7 (As (Bj (Ah (B9 hr 16 (by decide)) (jA rfl (B9 hr 16 (by decide)) rfl T.mG (Ab (Ec (NB:=["place","bows","left"]) [none,some 0,some 1] rfl (Bn (A2 1 (pv 1))) rfl rfl (BC 0 (by decide) rfl rfl rfl) (λ _ _ _ _=>Ea) (λ _ _ _ _=>(Aw (A1 (N8 rfl T.SK (Ab (Cp (Ai (Cn rfl).toXCall (Hk T) (hr.mono (by decide)) rfl (A1 (A2 1 (pv 1)) (A1 (A2 2 (pv 2)) (A1 (A2 0 (pv 0)) A4))) rfl)))) (A1 (A2 0 (pv 0)) A4))))))) A3))))),?_⟩;intro B vs L au hl;have e0:AI ["bows","left"] [.Bl true (B.map pD) vs,.lst (L.map .int)]=[some (.val (.Bl true (B.map pD) vs)),some (.val (.lst (L.map .int)))]:=rfl;rw[e0];refine Bh ?_;have hL:(L.map D.int).length<=1000:=by rw[za5];omega
 simp_arith[if_pos hL];rw[CH (λ p=>D.tup ([((Ba B L p).length:Int),p].map D.int)) (λ p hp=>⟨_,rfl,rfl,by
  have h1:=Hl B vs L p hl;simp_arith[h1,W5,za5,za8,List.map_nil]⟩)]
 simp_arith[V1];rw[PZ];have hb:=WS (λ p=>D.tup ([((Ba B L p).length:Int),p].map D.int)) (L.map λ p=>(p,[((Ba B L p).length:Int),p]));rw[zbz] at hb;have e2:((λ b:Int×List Int=>(D.tup ([((Ba B L b.1).length:Int),b.1].map D.int),b.2)) ∘ λ p=>(p,[((Ba B L p).length:Int),p]))=λ p=>(D.tup ([((Ba B L p).length:Int),p].map D.int),[((Ba B L p).length:Int),p]):=rfl;rw[e2] at hb;dsimp only;rw[hb];unfold Bw;cases q:B5 (L.map λ p=>(p,[((Ba B L p).length:Int),p])) with
 |none=>exact (NF (λ z=>au (List.map_eq_nil_iff.mp z)) q).elim
 |some k =>
  simp only[zc0,M.A8];rfl
noncomputable def Qd:List D->M OT:=zab Ia
theorem SV:Txt K mg->CC P w K mg base "lightest" 2 2 Qd:=(za2 Ia).1
theorem SW:∀(B:List (Int×Int)) (vs:List D) (L:List Int),L≠[]->L.length<=30->Qd [.Bl true (B.map pD) vs,.lst (L.map .int)]=.ok (.sh (.int (Bw B L))):=(za2 Ia).2
theorem M3:∃F:List D->M OT,(∀ {P w K mg base},Txt K mg->CC P w K mg base "ranked" 3 1 F)/\(∀(m:Nat) (rs:List Road),m<=20->(∀r∈rs,L0 m r/\r.a≠r.b)->F [Ae m rs]=.ok (.lst (((Xv m (BU rs) (An m)).map D.int).map .sh))):=by
 refine⟨_,λ T=>AY (k:=2) T.ZM EF _ (λ f Bf A outer s H E hr=>(A5 (D1 1 EF.nd rfl (zb4 rfl) (Ai Ad.toXCall (OI T) (hr.mono (by decide)) rfl (A1 (A2 0 (pv 0)) A4) rfl)) (A5 (D1 2 EF.nd rfl (zb4 rfl) (Ed rfl rfl T.JM rfl T.D9 (Ah (B9 hr 16 (by decide)) (A2 0 (pv 0)) A3))) (A5 (D1 3 EF.nd rfl (zb4 rfl) (HE Eb)) (A5 (Nl Ad.toXCall.own (Qy (C8 (c:=true) (A2 2 (pv 2)))) (A5 (Az 4 EF.nd rfl (zb4 rfl) (Ab (Jz (Ai Ad.toXCall (SV T) (hr.mono (by decide)) rfl (A1 (A2 1 (pv 1)) (A1 (A2 2 (pv 2)) A4)) rfl)))) (A5 (Dn Ad.toXCall.own rfl (Bn (Ab (Jz (Ai Ad.toXCall (Hk T) (hr.mono (by decide)) rfl (A1 (A2 1 (pv 1)) (A1 (A2 2 (pv 2)) (A1 (A2 4 (pv 4)) A4))) rfl)))) (BB 5 EF.nd rfl (zb4 rfl)) (A7 (QB (B9 hr 16 (by decide)) (BX 1 (pv 1)) (A2 5 (pv 5)) C0))) (A5 (Wq (BX 2 (pv 2)) (A2 4 (pv 4))) (A7 (Lm 3 (pv 3) (A2 4 (pv 4)))))))) (A7 (Fc 3 (pv 3)))))))),?_⟩;intro m rs hm AE;have e0:AI ["net","bows","left","order","place","bow"] [Ae m rs]=[some (.val (Ae m rs)),none,none,none,none,none]:=rfl;rw[e0];refine Bh ?_;have h1:=OJ m rs hm AE;have n0:Bi (Ae m rs) (.int 0)=.ok (.int m):=rfl;have h2:=Kr (n:=m) (by omega);rw[NT] at h2;apply wp_step
 ·simp_arith[h1];rfl
 apply wp_step
 ·simp_arith[n0,h2];rfl
 apply wp_step
 ·rfl
 try simp only[zaw,zam]
 refine By (I:=λ ρ=>∃s1 s2 s4 s5,ρ=[some (.val (Ae m rs)),s1,s2,some (.own ((Xv m (BU rs) (An m)).map D.int)),s4,s5]) ?_ ?_
 ·refine NG (lt:=λ a b:Nat=>a<b) (λ n ρ=>∃(B:List (Int×Int)) (L O:List Int) (s4 s5:Option Cl),ρ=[some (.val (Ae m rs)),some (.ow (.tree none (.Bl true (B.map pD) ((Dh B).map .sh)))),some (.own (L.map D.int)),some (.own (O.map D.int)),s4,s5]/\L.length=n/\n+O.length=m/\CI m B/\(∀p∈L,0<=p/\p<(m:Int))/\O++Xv n B L=Xv m (BU rs) (An m)) (Nat.lt_wfRel.wf.apply m) ⟨BU rs,An m,[],none,none,rfl,EO m,by simp,S8 AE,λ p hp=>HJ.mp hp,rfl⟩ ?_;rintro n ρ ⟨B,L,O,s4,s5,rfl,hn,hO,hB,hL,gh⟩;by_cases mn:L=[]
  ·subst mn;left;have:n=0:=by simpa using hn.symm
   subst this;rw[Xv,zbj] at gh;exact⟨rfl,⟨_,_,_,_,by rw[gh]⟩⟩
  ·right;have mo:L.length<=30:=by omega
   have q1:=SW B (Dh B) L mn mo;have q2:=Hl B (Dh B) L (Bw B L) mo;obtain⟨cP,_⟩:=WU (B:=B) mn;have eM:0<L.length:=List.length_pos_of_mem cP;obtain⟨n',rfl⟩:∃n',n=n'+1:=⟨n-1,by omega⟩;rw[Xv,if_neg mn] at gh;constructor
   ·simp_arith[RX];cases L with
    |nil=>exact (mn rfl).elim
    |cons x r=>rfl
   apply wp_step
   ·simp_arith[q1,pO jH];rfl
   try simp only[zaw,zam]
   have gc:Ki ((Ba B L (Bw B L)).map pD)=true:=RV Z8 _;refine By (I:=λ ρ=>∃s5,ρ=[some (.val (Ae m rs)),some (.ow (.tree none (.Bl true ((Cr B (Ba B L (Bw B L))).map pD) ((Dh (Cr B (Ba B L (Bw B L)))).map .sh)))),some (.own (L.map D.int)),some (.own (O.map D.int)),some (.val (.int (Bw B L))),s5]) ?_ ?_
   ·simp_arith[q2,jG gc];refine Dr (λ i ρ=>∃s5,ρ=[some (.val (Ae m rs)),some (.ow (.tree none (.Bl true ((Cr B ((Ba B L (Bw B L)).take i)).map pD) ((Dh (Cr B ((Ba B L (Bw B L)).take i))).map .sh)))),some (.own (L.map D.int)),some (.own (O.map D.int)),some (.val (.int (Bw B L))),s5]) ⟨s5,rfl⟩ ?_ ?_
    ·rintro i d ρ hd ⟨s5,rfl⟩;obtain⟨p,hp,rfl⟩:=Cb hd;refine⟨_,rfl,?_⟩;have zu:CI m (Cr B ((Ba B L (Bw B L)).take i)):=hB.Cr λ q hq=>by
      have:=Q0 (zbq hq);exact⟨this.2.2,hL _ this.1,hL _ this.2.1⟩
     have kk:keyOk true (pD p)=true/\((Cr B ((Ba B L (Bw B L)).take i)).map pD).length<1000:=⟨rfl,by rw[za5];exact zu.len hm⟩;have et:(Ba B L (Bw B L)).take (i+1)=(Ba B L (Bw B L)).take i++[p]:=by rw[zd0,hp];rfl
     have ea:Cr B ((Ba B L (Bw B L)).take (i+1))=LF (Cr B ((Ba B L (Bw B L)).take i)) p:=by
      unfold Cr;rw[et,List.foldl_append];rfl
     simp_arith[if_pos kk,Ve];exact⟨_,by rw[ea]⟩
    ·rintro ρ ⟨s5,rfl⟩;rw[za5,zcc];exact⟨s5,rfl⟩
   ·rintro ρ ⟨s5,rfl⟩;have zv:(O.map D.int).length<1000:=by rw[za5];omega
    apply wp_step
    ·simp_arith[Ej,if_pos cP];rfl
    refine C9 (ρ':=[some (.val (Ae m rs)),some (.ow (.tree none (.Bl true ((Cr B (Ba B L (Bw B L))).map pD) ((Dh (Cr B (Ba B L (Bw B L)))).map .sh)))),some (.own ((L.erase (Bw B L)).map D.int)),some (.own ((O++[Bw B L]).map D.int)),some (.val (.int (Bw B L))),s5]) ?_ ?_
    ·simp_arith[if_pos zv,zbm,za8,List.map_nil]
    ·have hlen:=List.length_erase_of_mem cP;refine⟨n',by omega,_,_,_,_,_,rfl,by omega,by rw[zah];simp;omega,hB.Cr λ q hq=>?_,λ p hp=>hL p (List.mem_of_mem_erase hp),?_⟩
     ·have:=Q0 hq;exact⟨this.2.2,hL _ this.1,hL _ this.2.1⟩
     ·rw[zck];exact gh
 ·rintro ρ ⟨s1,s2,s4,s5,rfl⟩;exact⟨_,rfl,rfl⟩
noncomputable def VG:List D->M OT:=zab M3
theorem Xn:Txt K mg->CC P w K mg base "ranked" 3 1 VG:=(za2 M3).1
theorem Xo:∀(m:Nat) (rs:List Road),m<=20->(∀r∈rs,L0 m r/\r.a≠r.b)->VG [Ae m rs]=.ok (.lst (((Xv m (BU rs) (An m)).map D.int).map .sh)):=(za2 M3).2
theorem FD:∃F:List D->M OT,(∀ {P w K mg base},Txt K mg->CC P w K mg base "costs_from" 2 2 F)/\(∀(m s:Nat) (rs:List Road),s<m->m<=900->(∀r∈rs,L0 m r)->∃cs:List Co,Right m s rs cs/\F [Ae m rs,.int s]=.ok (.lst ((cs.map cst).map .sh))):=by
 refine⟨_,λ T=>AY (k:=1) T.QV BI _ (λ f Bf A outer s H E hr=>(A5 (D1 2 BI.nd rfl (zb4 rfl) (YW Ck (Ah (B9 hr 16 (by decide)) (A2 0 (pv 0)) A3))) (A5 (Yz 2 (pv 2) (Aw (A1 A3 (A1 A3 A4))) (A2 1 (pv 1))) (A5 (Az 3 BI.nd rfl (zb4 rfl) C0) (A5 (Nl Ad.toXCall.own (C8 (c:=true) (A2 3 (pv 3))) (A5 (Az 3 BI.nd rfl (zb4 rfl) C0) (A7 (Dn Ad.toXCall.own rfl (Bn (Ah (B9 hr 16 (by decide)) (A2 0 (pv 0)) A3)) (BB 4 BI.nd rfl (zb4 rfl)) (A5 (Az 5 BI.nd rfl (zb4 rfl) (Ab (Jz (Ai Ad.toXCall (ZR T) (hr.mono (by decide)) rfl (A1 (AD (A1 (Ah (B9 hr 16 (by decide)) (A2 2 (pv 2)) (Ah (B9 hr 16 (by decide)) (A2 4 (pv 4)) A3)) (A1 (Ab (Ai Ad.toXCall (SO T) (hr.mono (by decide)) rfl (A1 (Ah (B9 hr 16 (by decide)) (A2 2 (pv 2)) (Ah (B9 hr 16 (by decide)) (A2 4 (pv 4)) A3)) (A1 (Ab (Ai Ad.toXCall (Eg T) (hr.mono (by decide)) rfl (A1 (A2 4 (pv 4)) A4) rfl)) A4)) rfl)) A4))) A4) rfl)))) (A7 (Bg (Qy (Hx (c:=true) (B9 hr 16 (by decide)) (A2 5 (pv 5)) (Ah (B9 hr 16 (by decide)) (A2 2 (pv 2)) (Ah (B9 hr 16 (by decide)) (A2 4 (pv 4)) A3)))) (A5 (Yz 2 (pv 2) (A2 5 (pv 5)) (Ah (B9 hr 16 (by decide)) (A2 4 (pv 4)) A3)) (A7 (Az 3 BI.nd rfl (zb4 rfl) C0))) AN))))))) (A7 (Fc 2 (pv 2)))))))),?_⟩;intro m s rs hs hm AE;have e0:AI ["net","start","costs","changed","road","cost"] [Ae m rs,.int s]=[some (.val (Ae m rs)),some (.val (.int s)),none,none,none,none]:=rfl;rw[e0];refine (λ h:∃t,_/\∃cs:List Co,Right m s rs cs/\t=.lst ((cs.map cst).map .sh)=>by
  obtain⟨t,h1,cs,h2,rfl⟩:=h;exact⟨cs,h2,h1⟩) (NH ?_)
 have n0:Bi (Ae m rs) (.int 0)=.ok (.int m):=rfl;have n1:Bi (Ae m rs) (.int 1)=.ok (.lst (rs.map Cq)):=rfl;have mq:=RY (d:=.AK) (n:=m) (by omega);have sK:zai m D.AK=(zai m (none:Co)).map cst:=by rw[List.map_replicate];rfl
 rw[sK] at mq;apply wp_step
 ·simp_arith[n0,mq];rfl
 try simp only[zaw,zam]
 have eS:=Vh (i:=2) (ρ:=[some (.val (Ae m rs)),some (.val (.int s)),some (.own ((zai m (none:Co)).map cst)),none,none,none]) (d:=.tup [.int 0,.int 0]) (p:=(s:Int)) rfl (by omega) (by rw[za5,List.length_replicate];omega);have ji:((zai m (none:Co)).map cst).set (s:Int).toNat (.tup [.int 0,.int 0])=((zai m none).set s (some (0,0))).map cst:=by rw[zc7,List.map_set];rfl
 rw[ji] at eS;apply wp_step
 ·simp_arith[eS];rfl
 try simp only[zaw,zam]
 apply wp_step
 ·rfl
 try simp only[zaw,zam]
 refine By (I:=λ ρ=>∃(cs:List Co) (s3 s4 s5:Option Cl),ρ=[some (.val (Ae m rs)),some (.val (.int s)),some (.own (cs.map cst)),s3,s4,s5]/\Right m s rs cs) ?_ ?_
 ·refine NG (lt:=xM) (λ z ρ=>∃(s4 s5:Option Cl),ρ=[some (.val (Ae m rs)),some (.val (.int s)),some (.own (z.1.map cst)),some (.val (.bl z.2)),s4,s5]/\Good m s rs z.1/\(z.2=false->Right m s rs z.1)) (qK _) ⟨none,none,rfl,U1 rs hs,λ e=>by cases e⟩ ?_;rintro ⟨cs,b⟩ ρ ⟨s4,s5,rfl,g,hR⟩;cases b with
  |false=>exact .inl ⟨rfl,cs,_,s4,s5,rfl,hR rfl⟩
  |true =>
   refine .inr ⟨rfl,?_⟩;apply wp_step
   ·rfl
   try simp only[zaw,zam]
   simp_arith[n1];refine Dr (λ i ρ=>∃(bX:List Co) (ch:Bool) (s4 s5:Option Cl),ρ=[some (.val (Ae m rs)),some (.val (.int s)),some (.own (bX.map cst)),some (.val (.bl ch)),s4,s5]/\Good m s rs bX/\(ch=true->Ol ltN bX cs)/\(ch=false->bX=cs/\∀r∈rs.take i,IR (atC cs r.b) (AZ (atC cs r.a) (Cu r))=atC cs r.b)) ⟨cs,false,s4,s5,rfl,g,(λ h=>by cases h),λ _=>⟨rfl,λ r hr=>by rw[List.take_zero] at hr;cases hr⟩⟩ ?_ ?_
   ·rintro i d ρ hd ⟨bX,ch,s4,s5,rfl,g1,h1,h2⟩;obtain⟨r,hq,rfl⟩:=Cb hd;have hr:=zag hq;have ok:=AE r hr;obtain⟨g2,_,g4,g5⟩:=WN g1 hr AE;have j2:r.b<bX.length:=by rw[g1.len];exact ok.b1
    have zw:r.a<bX.length:=by rw[g1.len];exact ok.a1
    have r0:Bi (Cq r) (.int 0)=.ok (.int r.a):=rfl;have r1:Bi (Cq r) (.int 1)=.ok (.int r.b):=rfl;have x0:Bi (.lst (bX.map cst)) (.int r.a)=.ok (cst (atC bX r.a)):=NS ok.a0 zw;have x1:Bi (.lst (bX.map cst)) (.int r.b)=.ok (cst (atC bX r.b)):=NS ok.b0 j2;have tj:=Eh r;have zy:=SQ (atC bX r.a) (Cu r);have hle:Uv [.lst [cst (atC bX r.b),cst (AZ (atC bX r.a) (Cu r))]]=.ok (.sh (cst (IR (atC bX r.b) (AZ (atC bX r.a) (Cu r))))):=ZS [atC bX r.b,AZ (atC bX r.a) (Cu r)] (by simp);have au:=jV (IR (atC bX r.b) (AZ (atC bX r.a) (Cu r))) (atC bX r.b);refine⟨_,rfl,?_⟩;apply wp_step
    ·simp_arith[r0,r1,x0,x1,tj,zy,hle];rfl
    try simp only[zaw,zam]
    by_cases hc:IR (atC bX r.b) (AZ (atC bX r.a) (Cu r))=atC bX r.b
    ·rw[decide_eq_true hc] at au;refine C9 (ρ':=_) (by simp_arith[r1,x1,au];rfl) ⟨bX,ch,_,_,rfl,g1,h1,λ hf=>?_⟩;obtain⟨e1,e2⟩:=h2 hf;subst e1;refine⟨rfl,λ r' h8=>?_⟩;rw[zd0,hq] at h8;rcases zar.mp h8 with h8|h8
     ·exact e2 r' h8
     ·have:r'=r:=by simpa using h8
      rw[this];exact hc
    ·rw[decide_eq_false hc] at au;have eS:=Vh (i:=2) (ρ:=[some (.val (Ae m rs)),some (.val (.int s)),some (.own (bX.map cst)),some (.val (.bl ch)),some (.val (Cq r)),some (.val (cst (IR (atC bX r.b) (AZ (atC bX r.a) (Cu r)))))]) (d:=cst (IR (atC bX r.b) (AZ (atC bX r.a) (Cu r)))) (p:=r.b) rfl ok.b0 (by rw[za5];exact j2);have ji:(bX.map cst).set r.b.toNat (cst (IR (atC bX r.b) (AZ (atC bX r.a) (Cu r))))=(Dv r bX).map cst:=by unfold Dv;rw[List.map_set]
     rw[ji] at eS;simp_arith[r1,x1,au,if_true];apply wp_step
     ·simp_arith[r1,eS];rfl
     refine C9 (ρ':=_) rfl ⟨Dv r bX,true,_,_,rfl,g2,λ _=>?_,λ hf=>by cases hf⟩;cases ch with
     |false=>obtain⟨e1,_⟩:=h2 rfl;subst e1;exact g5 hc
     |true=>exact Ol.trans ltN WL (g5 hc) (h1 rfl)
   ·rintro ρ' ⟨bX,ch,s4,s5,rfl,g1,h1,h2⟩;cases ch with
    |true=>exact⟨(bX,true),⟨rfl,.inr ⟨rfl,h1 rfl⟩⟩,s4,s5,rfl,g1,λ e=>by cases e⟩
    |false =>
     obtain⟨e1,e2⟩:=h2 rfl;subst e1;rw[za5,zcc] at e2;exact⟨(bX,false),⟨rfl,.inl rfl⟩,s4,s5,rfl,g1,λ _=>right_of g1 e2⟩
 ·rintro ρ' ⟨cs,s3,s4,s5,rfl,hR⟩;exact⟨_,rfl,cs,hR,rfl⟩
noncomputable def Ml:List D->M OT:=zab FD
theorem OK:Txt K mg->CC P w K mg base "costs_from" 2 2 Ml:=(za2 FD).1
theorem OL:∀(m s:Nat) (rs:List Road),s<m->m<=900->(∀r∈rs,L0 m r)->∃cs:List Co,Right m s rs cs/\Ml [Ae m rs,.int s]=.ok (.lst ((cs.map cst).map .sh)):=(za2 FD).2
theorem CJ:∃F:List D->M OT,(∀ {P w K mg base},Txt K mg->CC P w K mg base "order_or_ranked" 4 2 F)/\(∀(m:Nat) (rs:List Road),m<=20->(∀r∈rs,L0 m r/\r.a≠r.b)->(∀L:List Int,L.Perm (An m)->F [Ae m rs,.lst (L.map .int)]=.ok (.lst ((L.map D.int).map .sh)))/\F [Ae m rs,.AK]=.ok (.lst (((Xv m (BU rs) (An m)).map D.int).map .sh))/\(∀d:D,Vf d->BL m d=false->AV d=false->F [Ae m rs,d]=.ex "NoOrder")):=by
 refine⟨_,λ T=>AY (k:=3) T.KJ JI _ (λ f Bf A outer s H E hr=>(A5 (Bg (Ju (c:=true) (A2 1 (pv 1))) (A7 (As (Ai Ad.toXCall (Xn T) (hr.mono (by decide)) rfl (A1 (A2 0 (pv 0)) A4) rfl))) AN) (A7 (As (Ai Ad.toXCall (M2 T) (hr.mono (by decide)) rfl (A1 (A2 0 (pv 0)) (A1 (A2 1 (pv 1)) A4)) rfl))))),?_⟩;intro m rs hm AE;have h1:=Xo m rs hm AE;refine⟨λ L hL=>?_,?_,λ d hd ho hn=>?_⟩
 ·have h2:Cd [Ae m rs,.lst (L.map .int)]=.ok (.lst ((L.map D.int).map .sh)):=Gp.1 m (.lst (rs.map Cq)) L (by omega) hL;have e0:AI ["net","order"] [Ae m rs,.lst (L.map .int)]=[some (.val (Ae m rs)),some (.val (.lst (L.map .int)))]:=rfl;rw[e0];refine Bh ?_;apply wp_step
  ·rfl
  simp_arith[h2];exact⟨_,rfl,rfl⟩
 ·have e0:AI ["net","order"] [Ae m rs,.AK]=[some (.val (Ae m rs)),some (.val .AK)]:=rfl;rw[e0];refine Bh ?_;simp_arith[AV,h1];exact⟨_,rfl,rfl⟩
 ·have h2:Cd [Ae m rs,d]=.ex "NoOrder" := Gp.2 m (.lst (rs.map Cq)) d (by omega) hd ho;have e0:AI ["net","order"] [Ae m rs,d]=[some (.val (Ae m rs)),some (.val d)]:=rfl;rw[e0];refine Sx ?_;refine wp_step (ρ':=[some (.val (Ae m rs)),some (.val d)]) (by simp_arith[hn];try rfl) ?_;simp_arith[h2];rfl
noncomputable def BQ:List D->M OT:=zab CJ
theorem JR:Txt K mg->CC P w K mg base "order_or_ranked" 4 2 BQ:=(za2 CJ).1
theorem CK:∀(m:Nat) (rs:List Road),m<=20->(∀r∈rs,L0 m r/\r.a≠r.b)->(∀L:List Int,L.Perm (An m)->BQ [Ae m rs,.lst (L.map .int)]=.ok (.lst ((L.map D.int).map .sh)))/\BQ [Ae m rs,.AK]=.ok (.lst (((Xv m (BU rs) (An m)).map D.int).map .sh))/\(∀d:D,Vf d->BL m d=false->AV d=false->BQ [Ae m rs,d]=.ex "NoOrder"):=(za2 CJ).2
theorem GW:∃F:List D->M OT,(∀ {P w K mg base},Txt K mg->CC P w K mg base "kept_arcs" 3 2 F)/\(∀(m:Nat) (rs:List Road) (A:LA),m<=20->(∀r∈rs,L0 m r)->EQ m A->∃K:List (Int×Int),F [Ae m rs,HK A]=.ok (.lst ((K.map pD).map .sh))/\K.Nodup/\∀p,p∈K↔KP rs A p):=by
 refine⟨_,λ T=>AY (k:=2) T.SE Ee _ (λ f Bf A outer s H E hr=>(A5 (D1 2 Ee.nd rfl (zb4 rfl) (HE Eb)) (A5 (Dn Ad.toXCall.own rfl (Dm (c:=true) rfl T.D9 (Ah (B9 hr 16 (by decide)) (A2 0 (pv 0)) A3)) (BB 3 Ee.nd rfl (Or.inr rfl)) (A5 (Az 4 Ee.nd rfl (Or.inr rfl) (Ab (Ai Ad.toXCall (OK T) (hr.mono (by decide)) rfl (A1 (A2 0 (pv 0)) (A1 (A2 3 (pv 3)) A4)) rfl))) (A7 (YL (BX 2 (pv 2)) (by exact (Ec (NB:=["w","u","laid","costs"]) [none,some 3,some 1,some 4] rfl (Dm (c:=true) rfl T.D9 (Ah (B9 hr 16 (by decide)) (A2 0 (pv 0)) A3)) rfl rfl (BC 0 (by decide) rfl rfl rfl) (λ _ _ _ _=>Iv (DW.dt (N6 (TU (c:=true) (B9 hr 16 (by decide)) (Aw (A1 (A2 1 (pv 1)) (A1 (A2 0 (pv 0)) A4))) (A2 2 (pv 2))) (Ka (Jf (c:=true) (B9 hr 16 (by decide)) (Ah (B9 hr 16 (by decide)) (Ah (B9 hr 16 (by decide)) (A2 2 (pv 2)) (Aw (A1 (A2 1 (pv 1)) (A1 (A2 0 (pv 0)) A4)))) A3) (Ah (B9 hr 16 (by decide)) (A2 3 (pv 3)) (A2 0 (pv 0)))))))) (λ _ _ _ _=>(Aw (A1 (A2 1 (pv 1)) (A1 (A2 0 (pv 0)) A4)))))))))) (A7 (Fc 2 (pv 2)))))),?_⟩;intro m rs A hm AE hA;have e0:AI ["net","laid","kept","u","costs"] [Ae m rs,HK A]=[some (.val (Ae m rs)),some (.val (HK A)),none,none,none]:=rfl;rw[e0];refine (λ h:∃t,_/\∃K:List (Int×Int),t=.lst ((K.map pD).map .sh)/\K.Nodup/\∀p,p∈K↔KP rs A p=>by
  obtain⟨t,h1,K,rfl,h2⟩:=h;exact⟨K,h1,h2⟩) (NH ?_)
 have n0:Bi (Ae m rs) (.int 0)=.ok (.int m):=rfl;have hr:RE (.int (m:Int))=.ok ((An m).map D.int):=by rw[Hz (by omega),U9]
 have hl:((An m).map D.int).length<=1000:=by rw[za5,EO];omega
 apply wp_step
 ·rfl
 try simp only[zaw,zam]
 refine By (I:=λ ρ=>∃(K:List (Int×Int)) (s3 s4:Option Cl),ρ=[some (.val (Ae m rs)),some (.val (HK A)),some (.own (K.map pD)),s3,s4]/\K.Nodup/\∀p,p∈K↔KP rs A p) ?_ ?_
 ·simp_arith[n0,hr];refine Dr (λ i ρ=>i<=m/\∃(K:List (Int×Int)) (s3 s4:Option Cl),ρ=[some (.val (Ae m rs)),some (.val (HK A)),some (.own (K.map pD)),s3,s4]/\K.Nodup/\∀p,p∈K↔(p.1<i/\KP rs A p)) ⟨zb9 _,[],none,none,rfl,zcj,λ p=>⟨(λ h=>by cases h),λ h=>by
   obtain⟨c,hc,_⟩:=h.2;have:=(hA.rg p (ES hc)).2.1;omega⟩⟩ ?_ ?_
  ·rintro i d ρ hd ⟨hi,K,s3,s4,rfl,hn,hK⟩;obtain⟨u,hu,rfl⟩:=Cb hd;have be:i<m:=by have:=(zan.mp hu).1;rw[EO] at this;exact this
   have eu:u=(i:Int):=by
    unfold An at hu;rw[zat,List.getElem?_range be] at hu;exact (zax hu).symm
   subst eu;obtain⟨cs,hR,hF⟩:=OL m i rs be (by omega) AE;refine⟨_,rfl,?_⟩;apply wp_step
   ·simp_arith[hF];rfl
   try simp only[zaw,zam]
   obtain⟨W,hW⟩:∃W,W=(An m).filter λ w=>uS A cs i w:=⟨_,rfl⟩;have xk:∀w,w∈W↔KP rs A ((i:Int),w):=λ w=>by
    rw[hW,zbo,HJ];constructor
    ·rintro ⟨hw,h⟩;exact (Zp hR AE hw.1 hw.2).mp h
    ·intro h;obtain⟨c,hc,_⟩:=id h;have:=(hA.rg _ (ES hc)).2.2;exact⟨this,(Zp hR AE this.1 this.2).mpr h⟩
   have zI:W.Nodup:=by rw[hW];exact (JD m).filter _
   have cf:(K++W.map λ w=>((i:Int),w)).Nodup:=by
    rw[zb2];refine⟨hn,List.pairwise_map.mpr (zI.imp fun {a b} tm e=>tm (by cases e;rfl)),λ x hx y hy e=>?_⟩;subst e;obtain⟨w,_,rfl⟩:=zay.mp hy;have:=(hK _).mp hx;simp at this
   have xl:∀p,p∈K++W.map (λ w=>((i:Int),w))↔(p.1<((i+1:Nat):Int)/\KP rs A p):=λ p=>by
    rw[zar,hK];constructor
    ·rintro (h|h)
     ·exact⟨by have:=h.1;omega,h.2⟩
     ·obtain⟨w,hw,rfl⟩:=zay.mp h;exact⟨by dsimp only;omega,(xk w).mp hw⟩
    ·rintro ⟨h1,h2⟩;by_cases e:p.1<(i:Int)
     ·exact .inl ⟨e,h2⟩
     ·have e2:p.1=(i:Int):=by omega
      obtain⟨p1,p2⟩:=p;dsimp only at e2;subst e2;exact .inr (zay.mpr ⟨p2,(xk p2).mpr h2,rfl⟩)
   have hlen:=qL hA hm cf λ p hp=>((xl p).mp hp).2;have hb:(K.map pD).length+((W.map λ w=>((i:Int),w)).map pD).length<=1000:=by
    rw[zah] at hlen;rw[za5,za5];omega
   refine C9 (ρ':=[some (.val (Ae m rs)),some (.val (HK A)),some (.own ((K++W.map λ w=>((i:Int),w)).map pD)),some (.val (.int i)),some (.val (.lst (cs.map cst)))]) ?_ ⟨be,_,_,_,rfl,cf,xl⟩;have t1:∀a b:Int,D.tup [.int a,.int b]=pD (a,b):=λ a b=>rfl;simp_arith[n0,hr,if_pos hl];rw[CG (λ w=>uS A cs i w) (λ w=>pD ((i:Int),w)) (λ w hw=>⟨_,rfl,by
    have xm:=HJ.mp hw;have x1:Bi (.lst (cs.map cst)) (.int w)=.ok (cst (atC cs w)):=NS xm.1 (by rw[hR.1];exact xm.2);have gi:=NX A ((i:Int),w) false;unfold uS A9;cases q:Bv A ((i:Int),w) with
    |none =>
     rw[q] at gi;simp_arith[t1,gi];rfl
    |some v =>
     rw[q] at gi;have hit:=LL q;have h0:Bi (Sh v) (.int 0)=.ok (cst (some v.1)):=rfl;have he:=Vc (some v.1) (atC cs w);simp_arith[t1,gi,hit,h0,x1,he];rfl,λ _=>by simp_arith[t1]⟩)]
   rw[<-hW];have ew:W.map (λ w=>pD ((i:Int),w))=(W.map λ w=>((i:Int),w)).map pD:=by rw[zbz];rfl
   rw[ew];simp_arith[if_pos hb];rw[<-zbm]
  ·rintro ρ ⟨_,K,s3,s4,rfl,hn,hK⟩;refine⟨K,s3,s4,rfl,hn,λ p=>(hK p).trans ⟨λ h=>h.2,λ h=>⟨?_,h⟩⟩⟩;obtain⟨c,hc,_⟩:=h;have:=(hA.rg p (ES hc)).2.1;rw[za5,EO];omega
 ·rintro ρ ⟨K,s3,s4,rfl,hn,hK⟩;exact⟨_,rfl,K,rfl,hn,hK⟩
noncomputable def Oc:List D->M OT:=zab GW
theorem R5:Txt K mg->CC P w K mg base "kept_arcs" 3 2 Oc:=(za2 GW).1
theorem R6:∀(m:Nat) (rs:List Road) (A:LA),m<=20->(∀r∈rs,L0 m r)->EQ m A->∃K:List (Int×Int),Oc [Ae m rs,HK A]=.ok (.lst ((K.map pD).map .sh))/\K.Nodup/\∀p,p∈K↔KP rs A p:=(za2 GW).2
theorem FE:∃F:List D->M OT,(∀ {P w K mg base},Txt K mg->CC P w K mg base "road_under" 2 3 F)/\(∀(m:Nat) (rs:List Road) (p c:Int×Int),rs.length<=900->(∃r∈rs,r.a=p.1/\r.b=p.2/\Cu r=some c)->F [Ae m rs,pD p,cst (some c)]=.ok (.sh (.int (Mt rs p c:Nat)))):=by
 refine⟨_,λ T=>AY (k:=1) T.QW Ji _ (λ f Bf A outer s H E hr=>(A5 (Iw (NB:=["number","road","arc","cost"]) 3 [none,none,some 1,some 2] Ji.nd rfl (zb4 rfl) rfl (UP rfl T.Mg (Ah (B9 hr 16 (by decide)) (A2 0 (pv 0)) A3)) rfl rfl (jF (n:=2) rfl (Px 0 (by decide) rfl rfl rfl (Px 1 (by decide) rfl rfl rfl YV))) (λ _ _ _ _=>Iv (DW.dt (N6 (Jf (c:=true) (B9 hr 16 (by decide)) (Aw (A1 (Ah (B9 hr 16 (by decide)) (A2 1 (pv 1)) A3) (A1 (Ah (B9 hr 16 (by decide)) (A2 1 (pv 1)) A3) A4))) (A2 2 (pv 2))) (Ka (Jf (c:=true) (B9 hr 16 (by decide)) (Ab (Cp (Ai (Cn rfl).toXCall (Eg T) (hr.mono (by decide)) rfl (A1 (A2 1 (pv 1)) A4) rfl))) (A2 3 (pv 3))))))) (λ _ _ _ _=>(A2 0 (pv 0)))) (A7 (As (Bj (Ah (B9 hr 16 (by decide)) (A2 3 (pv 3)) A3)))))),?_⟩;intro m rs p c hl hr;have e0:AI ["net","arc","cost","numbers"] [Ae m rs,pD p,cst (some c)]=[some (.val (Ae m rs)),some (.val (pD p)),some (.val (cst (some c))),none]:=rfl;rw[e0];refine Bh ?_;obtain⟨r,t,hq,_⟩:=Vy hr;have n1:Bi (Ae m rs) (.int 1)=.ok (.lst (rs.map Cq)):=rfl;have cA:((zav rs.length).map λ i:Nat=>D.tup [.int (i:Int),Cq (rs.getD i ⟨0,0,none,0⟩)]).length<=1000:=by rw[za5,List.length_range];omega
 refine wp_step (ρ':=[some (.val (Ae m rs)),some (.val (pD p)),some (.val (cst (some c))),some (.val (.lst (((zav rs.length).filter (Zx rs p c)).map λ i:Nat=>D.int (i:Int))))]) (by
  simp_arith[n1,Xd,if_pos cA];rw[CG (Zx rs p c) (λ i:Nat=>D.int (i:Int)) (λ i hi=>⟨_,rfl,by
   have zJ:=zcs.mp hi;obtain⟨r,hr⟩:∃r,rs[i]?=some r:=⟨_,zaf zJ⟩;have eg:rs.getD i ⟨0,0,none,0⟩=r:=by rw[zb0,hr];rfl
   have r0:Bi (Cq r) (.int 0)=.ok (.int r.a):=rfl;have r1:Bi (Cq r) (.int 1)=.ok (.int r.b):=rfl;have t1:D.tup [.int r.a,.int r.b]=pD (r.a,r.b):=rfl;have oh:=qP (r.a,r.b) p;have tj:=Eh r;have hd2:=Vc (Cu r) (some c);have eb:Zx rs p c i=(decide ((r.a,r.b)=p)&&decide (Cu r=some c)):=by
    unfold Zx;rw[hr];dsimp only;by_cases e1:(r.a,r.b)=p
    ·subst e1;simp
    ·have:¬ (r.a=p.1/\r.b=p.2/\Cu r=some c):=λ h=>e1 (Prod.ext h.1 h.2.1);rw[decide_eq_false this,decide_eq_false e1];rfl
   rw[eb,eg];by_cases e1:(r.a,r.b)=p
   ·rw[decide_eq_true e1] at oh ⊢;simp_arith[r0,r1,t1,oh,tj,hd2,Bool.true_and];try rfl
   ·rw[decide_eq_false e1] at oh ⊢;simp_arith[r0,r1,t1,oh];try rfl,λ _=>by simp_arith[]⟩)]
  try rfl) ?_
 rw[hq];have hx:Bi (.lst ((Mt rs p c::t).map λ i:Nat=>D.int (i:Int))) (.int 0)=.ok (.int (Mt rs p c:Nat)):=Kw (by decide) rfl;simp_arith[hx];rfl
noncomputable def Mm:List D->M OT:=zab FE
theorem OM:Txt K mg->CC P w K mg base "road_under" 2 3 Mm:=(za2 FE).1
theorem ON:∀(m:Nat) (rs:List Road) (p c:Int×Int),rs.length<=900->(∃r∈rs,r.a=p.1/\r.b=p.2/\Cu r=some c)->Mm [Ae m rs,pD p,cst (some c)]=.ok (.sh (.int (Mt rs p c:Nat))):=(za2 FE).2
theorem CL:∃F:OT->List D->M (OT×OT),(∀ {P w K mg base},Txt K mg->Vz P w K mg base "Ladder" 6 3 F)/\((∀(m:Nat) (rs:List Road) (o:D) (L:List Int),1<=m->m<=16->rs.length<=60->(∀r∈rs,Hn m r)->L.Perm (An m)->(o=.lst (L.map D.int)\/(o=.AK/\L=Xv m (BU rs) (An m)))->∃(A:LA) (K:List (Int×Int)),ER m rs L A K/\∃t,F (.ins "Ladder" [] []) [Ae m rs,o]=.ok (t,.sh .AK)/\er t=Ao m rs L A K)/\(∀d o:D,cl 3 d->BM d=false->F (.ins "Ladder" [] []) [d,o]=.ex "NoMap")/\(∀(m:Nat) (rs:List Road) (d:D),1<=m->m<=16->rs.length<=60->(∀r∈rs,Hn m r)->Vf d->BL m d=false->AV d=false->F (.ins "Ladder" [] []) [Ae m rs,d]=.ex "NoOrder")):=by
 refine⟨_,λ T=>Zz (k:=5) T.KL JJ _ (λ f Bf A outer s H E hr=>(A5 (MH ["Ladder"] (Bc T.Br BD) (BX 0 (pv 0)) (Ab (Ai Ad.toXCall (Uu T) (hr.mono (by decide)) rfl (A1 (A2 1 (pv 1)) A4) rfl))) (A5 (MH ["Ladder"] (Bc T.EX BD) (BX 0 (pv 0)) (Ab (Jz (Ai Ad.toXCall (JR T) (hr.mono (by decide)) rfl (A1 (Du ["Ladder"] (Bc T.Br BD) (A2 0 (pv 0))) (A1 (A2 2 (pv 2)) A4)) rfl)))) (A5 (MH ["Ladder"] (Bc T.Bq BD) (BX 0 (pv 0)) (Ab (Jz (Ai Ad.toXCall (R3 T) (hr.mono (by decide)) rfl (A1 (Du ["Ladder"] (Bc T.Br BD) (A2 0 (pv 0))) (A1 (Du ["Ladder"] (Bc T.EX BD) (A2 0 (pv 0))) A4)) rfl)))) (A7 (MH ["Ladder"] (Bc T.JN BD) (BX 0 (pv 0)) (Ab (Jz (Ai Ad.toXCall (R5 T) (hr.mono (by decide)) rfl (A1 (Du ["Ladder"] (Bc T.Br BD) (A2 0 (pv 0))) (A1 (Du ["Ladder"] (Bc T.Bq BD) (A2 0 (pv 0))) A4)) rfl))))))))),?_⟩;refine⟨?_,λ d o hc ho=>?_,λ m rs d cD cm di eX hd ho hn=>?_⟩
 ·intro m rs o L cD cm di eX hL ho;have AE:∀r∈rs,L0 m r/\r.a≠r.b:=λ r hr=>(eX r hr).yH;have tq:=Sb cD cm di eX;have h1:=JQ.1 m rs tq di;have h2:BQ [Ae m rs,o]=.ok (.lst ((L.map D.int).map .sh)):=by
   rcases ho with rfl|⟨rfl,rfl⟩
   ·exact (CK m rs (by omega) AE).1 L hL
   ·exact (CK m rs (by omega) AE).2.1
  have h3:=R4 m rs L (by omega) hL AE;have hA:=(NW hL AE).1;obtain⟨K,h4,hn,hK⟩:=R6 m rs (Bp rs L) (by omega) (λ r hr=>(AE r hr).1) hA;refine⟨Bp rs L,K,⟨cD,cm,di,AE,hL,rfl,hn,hK⟩,.ins "Ladder" ["own_map","own_order","laid","kept_ones"] [.sh (Ae m rs),.sh (.lst (L.map D.int)),.sh (HK (Bp rs L)),.sh (.lst (K.map pD))],?_,rfl⟩;have e0:CS ["self","net","order"] (.ins "Ladder" [] []) [Ae m rs,o]=[some (.ow (.tree (some 0) (.ins "Ladder" [] []))),some (.val (Ae m rs)),some (.val o)]:=rfl;rw[e0];refine kQ ?_;have e1:er (.tup [.sh (.int m),.lst ((rs.map Cq).map .sh)])=Ae m rs:=by rw[jY,Ks,HF];rfl
  have T:∀(ns:List Str) (ds:List D),er (.ins "Ladder" ns (ds.map .sh))=.ins "Ladder" ns ds:=λ ns ds=>by rw[er,Qz]
  have T1:=T ["own_map"] [Ae m rs];have T2:=T ["own_map","own_order"] [Ae m rs,.lst (L.map D.int)];have T3:=T ["own_map","own_order","laid"] [Ae m rs,.lst (L.map D.int),HK (Bp rs L)];simp only[za8,List.map_nil] at T1 T2 T3;have d1:=Zq L;have d2:=kB (Bp rs L);have d3:=kA K;have f1:GG ["Ladder"] "own_map" (.ins "Ladder" ["own_map"] [Ae m rs])=.ok (Ae m rs):=rfl;have f2:GG ["Ladder"] "own_map" (.ins "Ladder" ["own_map","own_order"] [Ae m rs,.lst (L.map D.int)])=.ok (Ae m rs):=rfl;have f3:GG ["Ladder"] "own_order" (.ins "Ladder" ["own_map","own_order"] [Ae m rs,.lst (L.map D.int)])=.ok (.lst (L.map D.int)):=rfl;have f4:GG ["Ladder"] "own_map" (.ins "Ladder" ["own_map","own_order","laid"] [Ae m rs,.lst (L.map D.int),HK (Bp rs L)])=.ok (Ae m rs):=rfl;have f5:GG ["Ladder"] "laid" (.ins "Ladder" ["own_map","own_order","laid"] [Ae m rs,.lst (L.map D.int),HK (Bp rs L)])=.ok (HK (Bp rs L)):=rfl;refine wp_step (ρ':=[some (.ow (.tree (some 0) (.ins "Ladder" ["own_map"] [.sh (Ae m rs)]))),some (.val (Ae m rs)),some (.val o)]) (by simp_arith[h1,e1];rfl) ?_;refine wp_step (ρ':=[some (.ow (.tree (some 0) (.ins "Ladder" ["own_map","own_order"] [.sh (Ae m rs),.sh (.lst (L.map D.int))]))),some (.val (Ae m rs)),some (.val o)]) (by simp_arith[T1,f1,h2,d1];rfl) ?_;refine wp_step (ρ':=[some (.ow (.tree (some 0) (.ins "Ladder" ["own_map","own_order","laid"] [.sh (Ae m rs),.sh (.lst (L.map D.int)),.sh (HK (Bp rs L))]))),some (.val (Ae m rs)),some (.val o)]) (by simp_arith[T2,f2,f3,h3,d2];rfl) ?_;refine C9 (ρ':=[some (.ow (.tree (some 0) (.ins "Ladder" ["own_map","own_order","laid","kept_ones"] [.sh (Ae m rs),.sh (.lst (L.map D.int)),.sh (HK (Bp rs L)),.sh (.lst (K.map pD))]))),some (.val (Ae m rs)),some (.val o)]) (by simp_arith[T3,f4,f5,h4,d3];rfl) ⟨rfl,rfl⟩
 ·have e0:CS ["self","net","order"] (.ins "Ladder" [] []) [d,o]=[some (.ow (.tree (some 0) (.ins "Ladder" [] []))),some (.val d),some (.val o)]:=rfl;rw[e0];refine VC ?_;have h1:=JQ.2 d hc ho;simp_arith[h1];rfl
 ·have e0:CS ["self","net","order"] (.ins "Ladder" [] []) [Ae m rs,d]=[some (.ow (.tree (some 0) (.ins "Ladder" [] []))),some (.val (Ae m rs)),some (.val d)]:=rfl;rw[e0];refine VC ?_;have AE:∀r∈rs,L0 m r/\r.a≠r.b:=λ r hr=>(eX r hr).yH;have h1:=JQ.1 m rs (Sb cD cm di eX) di;have h2:=(CK m rs (by omega) AE).2.2 d hd ho hn;have e1:=kE m rs;have T1:er (.ins "Ladder" ["own_map"] [.sh (Ae m rs)])=.ins "Ladder" ["own_map"] [Ae m rs]:=by rw[er,Rz,Ks,Rz]
  have f1:GG ["Ladder"] "own_map" (.ins "Ladder" ["own_map"] [Ae m rs])=.ok (Ae m rs):=rfl;refine wp_step (ρ':=[some (.ow (.tree (some 0) (.ins "Ladder" ["own_map"] [.sh (Ae m rs)]))),some (.val (Ae m rs)),some (.val d)]) (by simp_arith[h1,e1];rfl) ?_;simp_arith[T1,f1,h2];rfl
noncomputable def B0:OT->List D->M (OT×OT):=zab CL
theorem EZ:Txt K mg->Vz P w K mg base "Ladder" 6 3 B0:=(za2 CL).1
theorem BY:(∀(m:Nat) (rs:List Road) (o:D) (L:List Int),1<=m->m<=16->rs.length<=60->(∀r∈rs,Hn m r)->L.Perm (An m)->(o=.lst (L.map D.int)\/(o=.AK/\L=Xv m (BU rs) (An m)))->∃(A:LA) (K:List (Int×Int)),ER m rs L A K/\∃t,B0 (.ins "Ladder" [] []) [Ae m rs,o]=.ok (t,.sh .AK)/\er t=Ao m rs L A K)/\(∀d o:D,cl 3 d->BM d=false->B0 (.ins "Ladder" [] []) [d,o]=.ex "NoMap")/\(∀(m:Nat) (rs:List Road) (d:D),1<=m->m<=16->rs.length<=60->(∀r∈rs,Hn m r)->Vf d->BL m d=false->AV d=false->B0 (.ins "Ladder" [] []) [Ae m rs,d]=.ex "NoOrder"):=(za2 CL).2
theorem F0:∃F:List D->M OT,(∀ {P w K mg base},Txt K mg->HI P w K mg base "Ladder" "arcs" 1 1 F)/\(∀(m:Nat) (rs:List Road) (L:List Int) (A:LA) (K:List (Int×Int)),EQ m A->m<=8->F [Ao m rs L A K]=.ok (.lst (((kM A).map pD).map .sh))):=by
 refine⟨_,λ T=>Ku (k:=0) T.OF O4 _ (λ f Bf A outer s H E hr=>(A7 (As (Uh rfl rfl T.SM (Du ["Ladder"] (Bc T.Bq BD) (A2 0 (pv 0))))))),?_⟩;intro m rs L A K hA hm;have e0:AI ["self"] [Ao m rs L A K]=[some (.val (Ao m rs L A K))]:=rfl;rw[e0];refine Bh ?_;have f2:GG ["Ladder"] "laid" (Ao m rs L A K)=.ok (HK A):=rfl;have hs:=kO hA hm;simp_arith[f2,hs];exact⟨_,rfl,rfl⟩
noncomputable def BF:List D->M OT:=zab F0
theorem Ic:Txt K mg->HI P w K mg base "Ladder" "arcs" 1 1 BF:=(za2 F0).1
theorem Ie:∀(m:Nat) (rs:List Road) (L:List Int) (A:LA) (K:List (Int×Int)),EQ m A->m<=8->BF [Ao m rs L A K]=.ok (.lst (((kM A).map pD).map .sh)):=(za2 F0).2
theorem C2:∃F:List D->M OT,(∀ {P w K mg base},Txt K mg->HI P w K mg base "Ladder" "checked_arc" 2 3 F)/\((∀(m:Nat) (rs:List Road) (L:List Int) (A:LA) (K:List (Int×Int)) (u w:Int),0<=u->u<m->0<=w->w<m->(Bv A (u,w)).isSome=true->F [Ao m rs L A K,.int u,.int w]=.ok (.sh (pD (u,w))))/\(∀(m:Nat) (rs:List Road) (L:List Int) (A:LA) (K:List (Int×Int)) (u w:D),Xf m A u w->F [Ao m rs L A K,u,w]=.ex "NoArc")):=by
 refine⟨_,λ T=>Ku (k:=1) T.HW Di _ (λ f Bf A outer s H E hr=>(A5 (Az 3 Di.nd rfl (zb4 rfl) (Ah (B9 hr 16 (by decide)) (Du ["Ladder"] (Bc T.Br BD) (A2 0 (pv 0))) A3)) (A5 (Bg (DW.dt (Hy (Dk (C8 (c:=true) (Ab (Ai Ad.toXCall (B3 T) (hr.mono (by decide)) rfl (A1 (A2 1 (pv 1)) (A1 (A2 3 (pv 3)) A4)) rfl)))) (Hy (Dk (C8 (c:=true) (Ab (Ai Ad.toXCall (B3 T) (hr.mono (by decide)) rfl (A1 (A2 2 (pv 2)) (A1 (A2 3 (pv 3)) A4)) rfl)))) (Fo (MF (c:=true) (B9 hr 16 (by decide)) (Aw (A1 (A2 1 (pv 1)) (A1 (A2 2 (pv 2)) A4))) (Du ["Ladder"] (Bc T.Bq BD) (A2 0 (pv 0)))))))) (A7 (Lp (c:=true) T.kW Ad rfl rfl Jt)) AN) (A7 (As (Bj (Aw (A1 (A2 1 (pv 1)) (A1 (A2 2 (pv 2)) A4))))))))),?_⟩;refine⟨?_,?_⟩
 ·intro m rs L A K u w u0 u1 w0 w1 hf;have e0:AI ["self","u","w","many"] [Ao m rs L A K,.int u,.int w]=[some (.val (Ao m rs L A K)),some (.val (.int u)),some (.val (.int w)),none]:=rfl;rw[e0];refine Bh ?_;have f1:GG ["Ladder"] "own_map" (Ao m rs L A K)=.ok (Ae m rs):=rfl;have f2:GG ["Ladder"] "laid" (Ao m rs L A K)=.ok (HK A):=rfl;have n0:Bi (Ae m rs) (.int 0)=.ok (.int m):=rfl;have h1:=AL (.int u) m rfl;have h2:=AL (.int w) m rfl;have g1:F9 (.int u) m=true:=by simp[F9,u0,u1]
  have g2:F9 (.int w) m=true:=by simp[F9,w0,w1]
  rw[g1] at h1;rw[g2] at h2;have hp:D.tup [.int u,.int w]=pD (u,w):=rfl;have hm:=NX A (u,w) true;rw[hf] at hm;apply wp_step
  ·simp_arith[f1,n0];rfl
  apply wp_step
  ·simp_arith[h1,h2,f2,hp,hm,D2];rfl
  rfl
 ·intro m rs L A K u w h;obtain⟨xu,xw,h⟩:=h;have e0:AI ["self","u","w","many"] [Ao m rs L A K,u,w]=[some (.val (Ao m rs L A K)),some (.val u),some (.val w),none]:=rfl;rw[e0];refine Sx ?_;have f1:GG ["Ladder"] "own_map" (Ao m rs L A K)=.ok (Ae m rs):=rfl;have f2:GG ["Ladder"] "laid" (Ao m rs L A K)=.ok (HK A):=rfl;have n0:Bi (Ae m rs) (.int 0)=.ok (.int m):=rfl;have h1:=AL u m xu;have h2:=AL w m xw;refine wp_step (ρ':=[some (.val (Ao m rs L A K)),some (.val u),some (.val w),some (.val (.int m))]) (by simp_arith[f1,n0];try rfl) ?_;cases g1:F9 u m with
  |false =>
   rw[g1] at h1;simp_arith[h1,D2];rfl
  |true =>
   rw[g1] at h1;cases g2:F9 w m with
   |false =>
    rw[g2] at h2;simp_arith[h1,h2,D2];rfl
   |true =>
    rw[g2] at h2;rcases h with h|h|⟨i,j,rfl,rfl,h⟩
    ·rw[g1] at h;cases h
    ·rw[g2] at h;cases h
    ·have hp:D.tup [.int i,.int j]=pD (i,j):=rfl;have hm:=NX A (i,j) true;rw[h] at hm;simp_arith[h1,h2,f2,hp,hm,D2];rfl
noncomputable def Ac:List D->M OT:=zab C2
theorem C3:Txt K mg->HI P w K mg base "Ladder" "checked_arc" 2 3 Ac:=(za2 C2).1
theorem AX:(∀(m:Nat) (rs:List Road) (L:List Int) (A:LA) (K:List (Int×Int)) (u w:Int),0<=u->u<m->0<=w->w<m->(Bv A (u,w)).isSome=true->Ac [Ao m rs L A K,.int u,.int w]=.ok (.sh (pD (u,w))))/\(∀(m:Nat) (rs:List Road) (L:List Int) (A:LA) (K:List (Int×Int)) (u w:D),Xf m A u w->Ac [Ao m rs L A K,u,w]=.ex "NoArc"):=(za2 C2).2
theorem F1:∃F:List D->M OT,(∀ {P w K mg base},Txt K mg->HI P w K mg base "Ladder" "cost" 3 3 F)/\((∀(m:Nat) (rs:List Road) (L:List Int) (A:LA) (K:List (Int×Int)) (u w:Int) (c:Int×Int),EQ m A->A9 A (u,w)=some c->F [Ao m rs L A K,.int u,.int w]=.ok (.sh (cst (some c))))/\(∀(m:Nat) (rs:List Road) (L:List Int) (A:LA) (K:List (Int×Int)) (u w:D),Xf m A u w->F [Ao m rs L A K,u,w]=.ex "NoArc")):=by
 refine⟨_,λ T=>Ku (k:=2) T.OG O5 _ (λ f Bf A outer s H E hr=>(A7 (As (Bj (Ah (B9 hr 16 (by decide)) (Ah (B9 hr 16 (by decide)) (Du ["Ladder"] (Bc T.Bq BD) (A2 0 (pv 0))) (Ab (IQ (k:=2) [("Ladder",Ac)] Ad.toXCall (DH (by decide) (C3 T) Fe) (hr.mono (by decide)) (A2 0 (pv 0)) (A1 (A2 1 (pv 1)) (A1 (A2 2 (pv 2)) A4)) rfl))) A3))))),?_⟩;refine⟨?_,?_⟩
 ·intro m rs L A K u w c hA hc;have e0:AI ["self","u","w"] [Ao m rs L A K,.int u,.int w]=[some (.val (Ao m rs L A K)),some (.val (.int u)),some (.val (.int w))]:=rfl;rw[e0];refine Bh ?_;have f2:GG ["Ladder"] "laid" (Ao m rs L A K)=.ok (HK A):=rfl;have hk:=hA.rg _ (ES hc);obtain⟨v,hv⟩:∃v,Bv A (u,w)=some (c,v):=by
   unfold A9 at hc;cases q:Bv A (u,w) with
   |none=>rw[q] at hc;cases hc
   |some z=>rw[q] at hc;obtain⟨z1,z2⟩:=z;cases hc;exact⟨z2,rfl⟩
  have h1:=AX.1 m rs L A K u w hk.2.1.1 hk.2.1.2 hk.2.2.1 hk.2.2.2 (by rw[hv];rfl);have hi:=LL hv;have h0:Bi (Sh (c,v)) (.int 0)=.ok (cst (some c)):=rfl;have hs:F8 [("Ladder",Ac)] "checked_arc" (Ao m rs L A K)=.ok Ac:=rfl;simp_arith[f2,hs,h1,hi,h0];rfl
 ·intro m rs L A K u w h;have e0:AI ["self","u","w"] [Ao m rs L A K,u,w]=[some (.val (Ao m rs L A K)),some (.val u),some (.val w)]:=rfl;rw[e0];refine Sx ?_;have f2:GG ["Ladder"] "laid" (Ao m rs L A K)=.ok (HK A):=rfl;have h1:=AX.2 m rs L A K u w h;have hs:F8 [("Ladder",Ac)] "checked_arc" (Ao m rs L A K)=.ok Ac:=rfl;simp_arith[f2,hs,h1];rfl
noncomputable def BG:List D->M OT:=zab F1
theorem Od:Txt K mg->HI P w K mg base "Ladder" "cost" 3 3 BG:=(za2 F1).1
theorem Ig:(∀(m:Nat) (rs:List Road) (L:List Int) (A:LA) (K:List (Int×Int)) (u w:Int) (c:Int×Int),EQ m A->A9 A (u,w)=some c->BG [Ao m rs L A K,.int u,.int w]=.ok (.sh (cst (some c))))/\(∀(m:Nat) (rs:List Road) (L:List Int) (A:LA) (K:List (Int×Int)) (u w:D),Xf m A u w->BG [Ao m rs L A K,u,w]=.ex "NoArc"):=(za2 F1).2
theorem Dz:∃F:List D->M OT,(∀ {P w K mg base},Txt K mg->HI P w K mg base "Ladder" "middle" 3 3 F)/\((∀(m:Nat) (rs:List Road) (L:List Int) (A:LA) (K:List (Int×Int)) (u w:Int) (c:Int×Int) (v:Option Int),EQ m A->Bv A (u,w)=some (c,v)->F [Ao m rs L A K,.int u,.int w]=.ok (.sh (DM v)))/\(∀(m:Nat) (rs:List Road) (L:List Int) (A:LA) (K:List (Int×Int)) (u w:D),Xf m A u w->F [Ao m rs L A K,u,w]=.ex "NoArc")):=by
 refine⟨_,λ T=>Ku (k:=2) T.Mv LX _ (λ f Bf A outer s H E hr=>(A7 (As (Bj (Ah (B9 hr 16 (by decide)) (Ah (B9 hr 16 (by decide)) (Du ["Ladder"] (Bc T.Bq BD) (A2 0 (pv 0))) (Ab (IQ (k:=2) [("Ladder",Ac)] Ad.toXCall (DH (by decide) (C3 T) Fe) (hr.mono (by decide)) (A2 0 (pv 0)) (A1 (A2 1 (pv 1)) (A1 (A2 2 (pv 2)) A4)) rfl))) A3))))),?_⟩;refine⟨?_,?_⟩
 ·intro m rs L A K u w c v hA hv;have e0:AI ["self","u","w"] [Ao m rs L A K,.int u,.int w]=[some (.val (Ao m rs L A K)),some (.val (.int u)),some (.val (.int w))]:=rfl;rw[e0];refine Bh ?_;have f2:GG ["Ladder"] "laid" (Ao m rs L A K)=.ok (HK A):=rfl;have hc:A9 A (u,w)=some c:=by unfold A9;rw[hv];rfl
  have hk:=hA.rg _ (ES hc);have h1:=AX.1 m rs L A K u w hk.2.1.1 hk.2.1.2 hk.2.2.1 hk.2.2.2 (by rw[hv];rfl);have hi:=LL hv;have h0:Bi (Sh (c,v)) (.int 1)=.ok (DM v):=rfl;have hs:F8 [("Ladder",Ac)] "checked_arc" (Ao m rs L A K)=.ok Ac:=rfl;simp_arith[f2,hs,h1,hi,h0];rfl
 ·intro m rs L A K u w h;have e0:AI ["self","u","w"] [Ao m rs L A K,u,w]=[some (.val (Ao m rs L A K)),some (.val u),some (.val w)]:=rfl;rw[e0];refine Sx ?_;have f2:GG ["Ladder"] "laid" (Ao m rs L A K)=.ok (HK A):=rfl;have h1:=AX.2 m rs L A K u w h;have hs:F8 [("Ladder",Ac)] "checked_arc" (Ao m rs L A K)=.ok Ac:=rfl;simp_arith[f2,hs,h1];rfl
noncomputable def Be:List D->M OT:=zab Dz
theorem M4:Txt K mg->HI P w K mg base "Ladder" "middle" 3 3 Be:=(za2 Dz).1
theorem Gq:(∀(m:Nat) (rs:List Road) (L:List Int) (A:LA) (K:List (Int×Int)) (u w:Int) (c:Int×Int) (v:Option Int),EQ m A->Bv A (u,w)=some (c,v)->Be [Ao m rs L A K,.int u,.int w]=.ok (.sh (DM v)))/\(∀(m:Nat) (rs:List Road) (L:List Int) (A:LA) (K:List (Int×Int)) (u w:D),Xf m A u w->Be [Ao m rs L A K,u,w]=.ex "NoArc"):=(za2 Dz).2
theorem CM:∃F:List D->M OT,(∀ {P w K mg base},Txt K mg->HI P w K mg base "Ladder" "unpacked" 3 3 F)/\((∀(m:Nat) (rs:List Road) (L:List Int) (A:LA) (K:List (Int×Int)) (u w:Int),ER m rs L A K->m<=8->(Bv A (u,w)).isSome=true->F [Ao m rs L A K,.int u,.int w]=.ok (.lst (((CU rs L A (u,w)).map λ n:Nat=>D.int (n:Int)).map .sh)))/\(∀(m:Nat) (rs:List Road) (L:List Int) (A:LA) (K:List (Int×Int)) (u w:D),Xf m A u w->F [Ao m rs L A K,u,w]=.ex "NoArc")):=by
 refine⟨_,λ T=>Ku (k:=2) T.KN Bu _ (λ f Bf A outer s H E hr=>(A5 (D1 3 Bu.nd rfl (zb4 rfl) (HE Eb)) (A5 (D1 4 Bu.nd rfl (zb4 rfl) (HE (Nw (IQ (k:=2) [("Ladder",Ac)] Ad.toXCall (DH (by decide) (C3 T) Fe) (hr.mono (by decide)) (A2 0 (pv 0)) (A1 (A2 1 (pv 1)) (A1 (A2 2 (pv 2)) A4)) rfl) Eb))) (A5 (Nl Ad.toXCall.own (Qy (C8 (c:=true) (A2 4 (pv 4)))) (A5 (iY 5 Bu.nd rfl (zb4 rfl) (pR (BX 4 (pv 4)))) (A5 (Az 6 Bu.nd rfl (zb4 rfl) (Ah (B9 hr 16 (by decide)) (Ah (B9 hr 16 (by decide)) (Du ["Ladder"] (Bc T.Bq BD) (A2 0 (pv 0))) (A2 5 (pv 5))) A3)) (A7 (Bg (Ju (c:=true) (A2 6 (pv 6))) (A7 (pI (BX 3 (pv 3)) (Ai Ad.toXCall (OM T) (hr.mono (by decide)) rfl (A1 (Du ["Ladder"] (Bc T.Br BD) (A2 0 (pv 0))) (A1 (A2 5 (pv 5)) (A1 (Ah (B9 hr 16 (by decide)) (Ah (B9 hr 16 (by decide)) (Du ["Ladder"] (Bc T.Bq BD) (A2 0 (pv 0))) (A2 5 (pv 5))) A3) A4))) rfl))) (A5 (Lm 4 (pv 4) (Aw (A1 (A2 6 (pv 6)) (A1 (Ah (B9 hr 16 (by decide)) (A2 5 (pv 5)) A3) A4)))) (A7 (Lm 4 (pv 4) (Aw (A1 (Ah (B9 hr 16 (by decide)) (A2 5 (pv 5)) A3) (A1 (A2 6 (pv 6)) A4))))))))))) (A7 (Fc 3 (pv 3))))))),?_⟩;refine⟨?_,?_⟩
 ·intro m rs L A K u w ok hm hf;have e0:AI ["self","u","w","roads","waiting","arc","middle"] [Ao m rs L A K,.int u,.int w]=[some (.val (Ao m rs L A K)),some (.val (.int u)),some (.val (.int w)),none,none,none,none]:=rfl;rw[e0];refine Bh ?_;have hA:=ok.uR;obtain⟨z0,xn⟩:=zbs.mp hf;have j0:A9 A (u,w)=some z0.1:=by unfold A9;rw[xn];rfl
  have hk:=hA.rg _ (ES j0);have dS:=AX.1 m rs L A K u w hk.2.1.1 hk.2.1.2 hk.2.2.1 hk.2.2.2 hf;have cg:F8 [("Ladder",Ac)] "checked_arc" (Ao m rs L A K)=.ok Ac:=rfl;have f1:GG ["Ladder"] "own_map" (Ao m rs L A K)=.ok (Ae m rs):=rfl;have f2:GG ["Ladder"] "laid" (Ao m rs L A K)=.ok (HK A):=rfl;have zK:=O0 ok _ (c:=z0.1) (mid:=z0.2) rfl xn;have zL:Q7 L (u,w)<=8:=by
   have:=Zm L u;have:=Ky ok.pm;unfold Q7;dsimp only;omega
  have zM:(CU rs L A (u,w)).length<=256:=by
   have:=zK.up;have h2:2^Q7 L (u,w)<=2^8:=Nat.pow_le_pow_right (by decide) zL;omega
  refine wp_step (ρ':=[some (.val (Ao m rs L A K)),some (.val (.int u)),some (.val (.int w)),some (.own []),none,none,none]) (by simp_arith[];try rfl) ?_;refine wp_step (ρ':=[some (.val (Ao m rs L A K)),some (.val (.int u)),some (.val (.int w)),some (.own []),some (.own [pD (u,w)]),none,none]) (by simp_arith[cg,dS];try rfl) ?_;refine By (I:=λ ρ=>∃s4 s5 s6:Option Cl,ρ=[some (.val (Ao m rs L A K)),some (.val (.int u)),some (.val (.int w)),some (.own ((CU rs L A (u,w)).map λ n:Nat=>D.int (n:Int))),s4,s5,s6]) ?_ ?_
  ·refine NG (lt:=λ a b:Nat=>a<b) (λ n ρ=>∃(N:List Nat) (W:List (Int×Int)) (o5 o6:Option D),ρ=[some (.val (Ao m rs L A K)),some (.val (.int u)),some (.val (.int w)),some (.own (N.map λ n:Nat=>D.int (n:Int))),some (.own ((W.map pD).reverse)),vO o5,vO o6]/\mC rs L A W=n/\(∀p∈W,(Bv A p).isSome=true)/\N++Su rs L A W=CU rs L A (u,w)) (Nat.lt_wfRel.wf.apply (mC rs L A [(u,w)])) ⟨[],[(u,w)],none,none,rfl,rfl,(λ p hp=>by rw[zaj.mp hp];exact hf),by unfold Su;simp⟩ ?_;rintro n ρ ⟨N,W,o5,o6,rfl,hn,hW,hE⟩;have hlen:=congrArg List.length hE;rw[zah] at hlen;have ni:=QP ok hW;cases W with
   |nil =>
    left;refine⟨rfl,some (.own []),vO o5,vO o6,?_⟩;have:N=CU rs L A (u,w):=by rw[<-hE];unfold Su;simp
    rw[this];rfl
   |cons p W =>
    have tu:D2 (.lst (((p::W).map pD).reverse))=.ok true:=by
     rw[RX];simp
    obtain⟨z,hz⟩:=zbs.mp (hW p za3);obtain⟨c,mid⟩:=z;obtain⟨_,m2,m3⟩:=IX ok hz;have zN:=O0 ok _ rfl hz;have tw:((p::W).map pD).reverse=(W.map pD).reverse++[pD p]:=by rw[za8,List.reverse_cons]
    have hi:=LL hz;have l0:Bi (Sh (c,mid)) (.int 0)=.ok (cst (some c)):=rfl;have l1:Bi (Sh (c,mid)) (.int 1)=.ok (DM mid):=rfl;have p0:Bi (pD p) (.int 0)=.ok (.int p.1):=rfl;have p1:Bi (pD p) (.int 1)=.ok (.int p.2):=rfl;have xp:Su rs L A (p::W)=CU rs L A p++Su rs L A W:=rfl;rw[xp,zah] at hlen;rw[xp] at hE;have zO:mC rs L A (p::W)=2*(CU rs L A p).length-1+mC rs L A W:=rfl;rw[zO] at hn;have zP:=QP ok λ q hq=>hW q (za4 _ hq);right;constructor
    ·simp_arith[tu];try rfl
    rw[tw];have hp:=Xe (ρ:=[some (.val (Ao m rs L A K)),some (.val (.int u)),some (.val (.int w)),some (.own (N.map λ n:Nat=>D.int (n:Int))),some (.own ((W.map pD).reverse++[pD p])),vO o5,vO o6]) (i:=4) (xs:=(W.map pD).reverse) (d:=pD p) rfl;apply wp_step
    ·simp_arith[hp];rfl
    try simp only[zaw,zam]
    refine wp_step (ρ':=[some (.val (Ao m rs L A K)),some (.val (.int u)),some (.val (.int w)),some (.own (N.map λ n:Nat=>D.int (n:Int))),some (.own ((W.map pD).reverse)),some (.val (pD p)),some (.val (DM mid))]) (by simp_arith[f2,hi,l1];try rfl) ?_;cases mid with
    |none =>
     have dG:AV (DM none)=true:=rfl;have zQ:=ON m rs p c (by have:=ok.rl;omega) (m2 rfl);rw[Q8 hz] at hE hlen hn;have eT:((N.map λ n:Nat=>D.int (n:Int)).map OT.sh).length<1000:=by rw[za5,za5];omega
     have ea:(N.map λ n:Nat=>D.int (n:Int)).map OT.sh++[OT.sh (.int (Mt rs p c:Nat))]=((N++[Mt rs p c]).map λ n:Nat=>D.int (n:Int)).map OT.sh:=by rw[zbm,zbm];rfl
     refine C9 (ρ':=[some (.val (Ao m rs L A K)),some (.val (.int u)),some (.val (.int w)),some (.own ((N++[Mt rs p c]).map λ n:Nat=>D.int (n:Int))),some (.own ((W.map pD).reverse)),vO (some (pD p)),vO (some (DM none))]) (by
      simp_arith[dG,f1,f2,hi,l0,zQ,if_true,if_pos eT,ea];rfl) ⟨mC rs L A W,?_,_,W,_,_,rfl,rfl,λ q hq=>hW q (za4 _ hq),by rw[zck];exact hE⟩
     rw[zc9] at hn;omega
    |some v =>
     obtain⟨_,_,a,b,ma,mb,g1,g2,_⟩:=m3 v rfl;have dG:AV (DM (some v))=false:=rfl;have lv:DM (some v)=.int v:=rfl;have mr:=Ss ok hz;have u1:=(O0 ok _ rfl g1).ne;have u2:=(O0 ok _ rfl g2).ne;have eT:((W.map pD).reverse).length<1000:=by rw[List.length_reverse,za5];omega
     have jj:((W.map pD).reverse++[pD (v,p.2)]).length<1000:=by
      rw[zah,List.length_reverse,za5,zc9];have:=zN.ne;omega
     have zR:(((p.1,v)::(v,p.2)::W).map pD).reverse=(W.map pD).reverse++[pD (v,p.2)]++[pD (p.1,v)]:=by rw[za8,za8,List.reverse_cons,List.reverse_cons]
     have tx:AV (.int v)=false:=rfl;simp_arith[lv,tx,zap,if_false];apply wp_step
     ·simp_arith[p1,if_pos eT];rfl
     try simp only[zaw,zam]
     have t1:D.tup [.int v,.int p.2]=pD (v,p.2):=rfl;refine C9 (ρ':=[some (.val (Ao m rs L A K)),some (.val (.int u)),some (.val (.int w)),some (.own (N.map λ n:Nat=>D.int (n:Int))),some (.own ((((p.1,v)::(v,p.2)::W).map pD).reverse)),vO (some (pD p)),vO (some (.int v))]) (by
      rw[zR];simp_arith[p0,t1,if_pos jj];try rfl) ⟨mC rs L A ((p.1,v)::(v,p.2)::W),?_,N,_,_,_,rfl,rfl,λ q hq=>?_,?_⟩
     ·rw[mr,zah] at hn;show 2*(CU rs L A (p.1,v)).length-1+(2*(CU rs L A (v,p.2)).length-1+mC rs L A W)<n;omega
     ·rcases za9.mp hq with rfl|hq
      ·rw[g1];rfl
      ·rcases za9.mp hq with rfl|hq
       ·rw[g2];rfl
       ·exact hW q (za4 _ hq)
     ·rw[mr] at hE;show N++(CU rs L A (p.1,v)++(CU rs L A (v,p.2)++Su rs L A W))=_;rw[<-zck (CU rs L A (p.1,v))];exact hE
  ·rintro ρ ⟨s4,s5,s6,rfl⟩;exact⟨_,rfl,rfl⟩
 ·intro m rs L A K u w h;have e0:AI ["self","u","w","roads","waiting","arc","middle"] [Ao m rs L A K,u,w]=[some (.val (Ao m rs L A K)),some (.val u),some (.val w),none,none,none,none]:=rfl;rw[e0];refine Sx ?_;have h1:=AX.2 m rs L A K u w h;have hs:F8 [("Ladder",Ac)] "checked_arc" (Ao m rs L A K)=.ok Ac:=rfl;refine wp_step (ρ':=[some (.val (Ao m rs L A K)),some (.val u),some (.val w),some (.own []),none,none,none]) (by simp_arith[];try rfl) ?_;simp_arith[hs,h1];rfl
noncomputable def B1:List D->M OT:=zab CM
theorem JS:Txt K mg->HI P w K mg base "Ladder" "unpacked" 3 3 B1:=(za2 CM).1
theorem F2:(∀(m:Nat) (rs:List Road) (L:List Int) (A:LA) (K:List (Int×Int)) (u w:Int),ER m rs L A K->m<=8->(Bv A (u,w)).isSome=true->B1 [Ao m rs L A K,.int u,.int w]=.ok (.lst (((CU rs L A (u,w)).map λ n:Nat=>D.int (n:Int)).map .sh)))/\(∀(m:Nat) (rs:List Road) (L:List Int) (A:LA) (K:List (Int×Int)) (u w:D),Xf m A u w->B1 [Ao m rs L A K,u,w]=.ex "NoArc"):=(za2 CM).2
theorem GX:∃F:List D->M OT,(∀ {P w K mg base},Txt K mg->CC P w K mg base "_law_mixed" 1 2 F)/\(∀c k:Int,0<=k->k<=1000->∃v:Int,0<=v/\F [.int c,.int k]=.ok (.sh (.int v))):=by
 refine⟨_,λ T=>AY (k:=0) T.SF GP _ (λ f Bf A outer s H E hr=>(A5 (Az 2 GP.nd rfl (zb4 rfl) (Bm (CY (Bm (A2 0 (pv 0)) A3) (MD A3 (CY (A2 1 (pv 1)) A3))) A3)) (A5 (Az 2 GP.nd rfl (zb4 rfl) (Bm (CY (CY (MD (A2 2 (pv 2)) (A2 2 (pv 2))) (MD A3 (A2 1 (pv 1)))) A3) A3)) (A7 (As (Bj (Bm (MD (A2 2 (pv 2)) (A2 2 (pv 2))) A3))))))),?_⟩;intro c k h0 h1;have e0:AI ["_law_cell","_law_k","_law_number"] [.int c,.int k]=[some (.val (.int c)),some (.val (.int k)),none]:=rfl;rw[e0];have m1:Nt (.int 48271) (.int (k+1))=.ok (.int (48271*(k+1))):=Kh (.inr (.inr (.inr ⟨by omega,by omega⟩)));obtain⟨x,hx⟩:∃x,x=(c%2147483629+48271*(k+1))%2147483647:=⟨_,rfl⟩;have x0:0<=x:=by omega
 have x1:x<2147483647:=by omega
 have m2:Nt (.int x) (.int x)=.ok (.int (x*x)):=Kh (.inr (.inr (.inr ⟨by omega,by omega⟩)));have m3:Nt (.int 69621) (.int k)=.ok (.int (69621*k)):=Kh (.inr (.inr (.inr ⟨by omega,by omega⟩)));obtain⟨y,hy⟩:∃y,y=(x*x+69621*k+7)%2147483587:=⟨_,rfl⟩;have y0:0<=y:=by rw[hy];exact zbx _ (by decide)
 have y1:y<2147483587:=by rw[hy];exact zc1 _ (by decide)
 have m4:Nt (.int y) (.int y)=.ok (.int (y*y)):=Kh (.inr (.inr (.inr ⟨by omega,by omega⟩)));refine⟨y*y%2147483579,zbx _ (by decide),?_⟩;simp[pM,pN,m1,Yg,F7,Bx,<-hx,m2,m3,<-hy,m4,TN,Ym,lN,Wj]
noncomputable def Oe:List D->M OT:=zab GX
theorem Dd:Txt K mg->CC P w K mg base "_law_mixed" 1 2 Oe:=(za2 GX).1
theorem De:∀c k:Int,0<=k->k<=1000->∃v:Int,0<=v/\Oe [.int c,.int k]=.ok (.sh (.int v)):=(za2 GX).2
theorem Ih:∃F:List D->M OT,(∀ {P w K mg base},Txt K mg->CC P w K mg base "_law_road" 2 2 F)/\(∀(c:Int) (m:Nat),2<=m->m<=20->0<=c->∃r:Road,Hn m r/\F [.int c,.int m]=.ok (.sh (Cq r))):=by
 refine⟨_,λ T=>AY (k:=1) T.Uo BE _ (λ f Bf A outer s H E hr=>(A5 (Az 2 BE.nd rfl (zb4 rfl) (Ab (Ai Ad.toXCall (Dd T) (hr.mono (by decide)) rfl (A1 (A2 0 (pv 0)) (A1 A3 A4)) rfl))) (A5 (Az 3 BE.nd rfl (zb4 rfl) (Bm (A2 2 (pv 2)) (A2 1 (pv 1)))) (A5 (Az 4 BE.nd rfl (zb4 rfl) (Bm (CY (CY (A2 3 (pv 3)) A3) (Bm (Gy (A2 2 (pv 2)) A3) (Yh (A2 1 (pv 1)) A3))) (A2 1 (pv 1)))) (A5 (Az 5 BE.nd rfl (zb4 rfl) (Bm (Gy (A2 2 (pv 2)) A3) A3)) (A5 (Az 6 BE.nd rfl (zb4 rfl) (Bm (Gy (A2 2 (pv 2)) A3) A3)) (A5 (Bg (Jf (c:=true) (B9 hr 16 (by decide)) (A2 5 (pv 5)) A3) (A7 (Az 6 BE.nd rfl (zb4 rfl) Ck)) AN) (A5 (Bg (Jf (c:=true) (B9 hr 16 (by decide)) (A2 5 (pv 5)) A3) (A7 (Az 6 BE.nd rfl (zb4 rfl) (Bm (A2 0 (pv 0)) (Lj A3 A3)))) AN) (A5 (Bg (Jf (c:=true) (B9 hr 16 (by decide)) (A2 5 (pv 5)) A3) (A7 (Az 6 BE.nd rfl (zb4 rfl) (Bm (Gy (A2 2 (pv 2)) A3) A3))) AN) (A7 (As (Bj (Aw (A1 (A2 3 (pv 3)) (A1 (A2 4 (pv 4)) (A1 (A2 6 (pv 6)) (A1 (Bm (Ab (Ai Ad.toXCall (Dd T) (hr.mono (by decide)) rfl (A1 (A2 0 (pv 0)) (A1 A3 A4)) rfl)) (Ah (B9 hr 16 (by decide)) (AD (A1 A3 (A1 (Lj A3 A3) A4))) (Bm (A2 0 (pv 0)) A3))) A4))))))))))))))))),?_⟩;intro c m cm hm hc;have e0:AI ["_law_cell","_law_many","_law_mixed_here","_law_one","_law_other","_law_way","_law_length"] [.int c,.int m]=[some (.val (.int c)),some (.val (.int m)),none,none,none,none,none]:=rfl;rw[e0];obtain⟨x,x0,hx⟩:=De c 1 (by omega) (by omega);obtain⟨y,y0,hy⟩:=De c 2 (by omega) (by omega);have oi:(0:Int)<(m:Int):=by omega
 have mt:(0:Int)<(m:Int)-1:=by omega
 obtain⟨a,ha⟩:∃a,a=x%(m:Int):=⟨_,rfl⟩;have a0:0<=a:=by rw[ha];exact zbx _ (by omega)
 have a1:a<m:=by rw[ha];exact zc1 _ oi
 obtain⟨s,hs⟩:∃s,s=x / 16%((m:Int)-1):=⟨_,rfl⟩;have s0:0<=s:=by rw[hs];exact zbx _ (by omega)
 have s1:s<(m:Int)-1:=by rw[hs];exact zc1 _ mt
 obtain⟨b,hb⟩:∃b,b=(a+1+s)%(m:Int):=⟨_,rfl⟩;have b0:0<=b:=by rw[hb];exact zbx _ (by omega)
 have b1:b<m:=by rw[hb];exact zc1 _ oi
 have tm:a≠b:=by
  have:=pQ (a:=a) (s:=1+s) (m:=m) a0 a1 (by omega) (by omega);rw[hb,Int.add_assoc];exact λ z=>this z.symm
 have zS:K8 (.int x) (.int 16)=.ok (.int (x / 16)):=ED (by unfold Rk;omega);have tz:K8 (.int x) (.int 256)=.ok (.int (x / 256)):=ED (by unfold Rk;omega);have ib:K8 (.int x) (.int 1536)=.ok (.int (x / 1536)):=ED (by unfold Rk;omega);have ma:F7 (.int x) (.int (m:Int))=.ok (.int a):=by rw[ha];exact B8 oi
 have sb:oM (.int (m:Int)) (.int 1)=.ok (.int ((m:Int)-1)):=rfl;have ms:F7 (.int (x / 16)) (.int ((m:Int)-1))=.ok (.int s):=by rw[hs];exact B8 mt
 have zT:Yg (.int a) (.int 1)=.ok (.int (a+1)):=rfl;have zU:Yg (.int (a+1)) (.int s)=.ok (.int (a+1+s)):=rfl;have mb:F7 (.int (a+1+s)) (.int (m:Int))=.ok (.int b):=by rw[hb];exact B8 oi
 have m6:F7 (.int (x / 256)) (.int 6)=.ok (.int (x / 256%6)):=B8 (by decide);have m4:F7 (.int (x / 1536)) (.int 4)=.ok (.int (x / 1536%4)):=B8 (by decide);have t6:F7 (.int (x / 1536)) (.int 101)=.ok (.int (x / 1536%101)):=B8 (by decide);have m2:F7 (.int c) (.int 2)=.ok (.int (c%2)):=B8 (by decide);have zV:=Zd;obtain⟨T,zW,jk,hT⟩:∃T:Int,T=Ra/\0<T/\Qp (.int 10) (.int 60)=.ok (.int T):=⟨Ra,rfl,by omega,Q3⟩;have mT:F7 (.int c) (.int T)=.ok (.int (c%T)):=B8 jk;obtain⟨w,w0,hw⟩:∃w,(0<w/\w<=T)/\Bi (.lst [.int 5,.int T]) (.int (c%2))=.ok (.int w):=by
  have h:c%2=0\/c%2=1:=by omega
  rcases h with h|h
  ·rw[h];exact⟨5,⟨by decide,by omega⟩,rfl⟩
  ·rw[h];exact⟨T,⟨jk,by omega⟩,rfl⟩
 have mw:F7 (.int y) (.int w)=.ok (.int (y%w)):=B8 w0.1;obtain⟨k,hk⟩:∃k,k=x / 256%6:=⟨_,rfl⟩;obtain⟨l,sB,hl⟩:∃l:Option Int,(∀z,l=some z->0<=z/\z<Ra)/\l=(if k=2 then some (x / 1536%101) else if k=1 then some (c%T) else if k=0 then none else some (x / 1536%4)):=by
  refine⟨_,λ z hz=>?_,rfl⟩;split at hz
  ·cases hz;omega
  ·split at hz
   ·cases hz;exact⟨zbx _ (by omega),by rw[<-zW];exact zc1 _ jk⟩
   ·split at hz
    ·cases hz
    ·cases hz;omega
 refine⟨⟨a,b,l,y%w⟩,⟨a0,a1,b0,b1,tm,sB,zbx _ (by omega),by have:=zc1 y w0.1;show y%w<Ra;omega⟩,Bh ?_⟩;rw[<-hk] at m6;apply wp_step
 ·simp_arith[hx];rfl
 apply wp_step
 ·simp_arith[ma];rfl
 apply wp_step
 ·simp_arith[zT,zS,sb,ms,zU,mb];rfl
 apply wp_step
 ·simp_arith[tz,m6];rfl
 apply wp_step
 ·simp_arith[ib,m4];rfl
 refine By (I:=λ ρ=>ρ=[some (.val (.int c)),some (.val (.int m)),some (.val (.int x)),some (.val (.int a)),some (.val (.int b)),some (.val (.int k)),some (.val (DM (if k=0 then none else some (x / 1536%4))))]) ?_ ?_
 ·simp_arith[];by_cases h:k=0
  ·simp only[h,decide_true,if_true];rfl
  ·simp only[h,decide_false,zap,if_false];rfl
 rintro ρ rfl;refine By (I:=λ ρ=>ρ=[some (.val (.int c)),some (.val (.int m)),some (.val (.int x)),some (.val (.int a)),some (.val (.int b)),some (.val (.int k)),some (.val (DM (if k=1 then some (c%T) else if k=0 then none else some (x / 1536%4))))]) ?_ ?_
 ·simp_arith[];by_cases h:k=1
  ·simp only[h,decide_true,if_true,pM,pN,IP,zaw,zam,M.A8,El,Ek,FN,G1,G2,G3,ID,GD,HF,Ks,FR,FT,Em,Py,IA,IB,FU,Wt,En,Eo,Ds,Lw,Ca,Lx,FV,FW,Ep,Pz,FQ,CZ,toCl_list,toCl_listP,toCl_dct,IE,G4,G5,G6,G7,IF,G8,G9,Ga,lO,lN,FX,PB,FY,PD,FZ,G0,IC,PF,rJ,rK,Ww,Wx,Wy,Wz,WA,WB,toCl_nil,HA,Kn,Oj,Ly,Er,IG,IH,Gb,Gd,II,IJ,IK,IL,IM,Ge,Gf,Gg,Gh,Es,Eu,Ew,Ex,Ey,Gi,Ez,EA,PH,PJ,PL,PM,PN,EB,ite_tt,ite_ff,Bool.not_true,Bool.not_false,zd5,zb7,Dw,Gj,Gk,Wv,WY,Wu,X1,X2,X3,IU,LI,LJ,LK,CT,EE,IW,LC,X8,Q6,LP,hT,mT];rfl
  ·simp only[h,decide_false,zap,if_false];rfl
 rintro ρ rfl;refine By (I:=λ ρ=>ρ=[some (.val (.int c)),some (.val (.int m)),some (.val (.int x)),some (.val (.int a)),some (.val (.int b)),some (.val (.int k)),some (.val (DM l))]) ?_ ?_
 ·rw[hl];simp_arith[];by_cases h:k=2
  ·simp only[h,decide_true,if_true,pM,pN,IP,zaw,zam,M.A8,El,Ek,FN,G1,G2,G3,ID,GD,HF,Ks,FR,FT,Em,Py,IA,IB,FU,Wt,En,Eo,Ds,Lw,Ca,Lx,FV,FW,Ep,Pz,FQ,CZ,toCl_list,toCl_listP,toCl_dct,IE,G4,G5,G6,G7,IF,G8,G9,Ga,lO,lN,FX,PB,FY,PD,FZ,G0,IC,PF,rJ,rK,Ww,Wx,Wy,Wz,WA,WB,toCl_nil,HA,Kn,Oj,Ly,Er,IG,IH,Gb,Gd,II,IJ,IK,IL,IM,Ge,Gf,Gg,Gh,Es,Eu,Ew,Ex,Ey,Gi,Ez,EA,PH,PJ,PL,PM,PN,EB,ite_tt,ite_ff,Bool.not_true,Bool.not_false,zd5,zb7,Dw,Gj,Gk,Wv,WY,Wu,X1,X2,X3,IU,LI,LJ,LK,CT,EE,IW,LC,X8,Q6,LP,ib,t6];rfl
  ·simp only[h,decide_false,zap,if_false];rfl
 rintro ρ rfl;simp_arith[hy,hT,m2,hw,mw];rfl
noncomputable def IZ:List D->M OT:=zab Ih
theorem SX:Txt K mg->CC P w K mg base "_law_road" 2 2 IZ:=(za2 Ih).1
theorem SY:∀(c:Int) (m:Nat),2<=m->m<=20->0<=c->∃r:Road,Hn m r/\IZ [.int c,.int m]=.ok (.sh (Cq r)):=(za2 Ih).2
theorem JT:∃F:List D->M OT,(∀ {P w K mg base},Txt K mg->CC P w K mg base "_law_map" 3 2 F)/\(∀(cs:List Int),cs.length<=25->(∀c∈cs,0<=c)->∃(m:Nat) (rs:List Road),1<=m/\m<=7/\rs.length<=24/\(∀r∈rs,Hn m r)/\F [.lst (cs.map .int),.int 7]=.ok (.sh (Ae m rs))):=by
 refine⟨_,λ T=>AY (k:=2) T.Xi EW _ (λ f Bf A outer s H E hr=>(A5 (Az 2 EW.nd rfl (zb4 rfl) (YS rfl rfl T.mH (Ab (BO (A2 0 (pv 0)) CB (C4 A3))))) (A5 (Az 3 EW.nd rfl (Or.inr rfl) (CY A3 (Bm (A2 2 (pv 2)) (A2 1 (pv 1))))) (A5 (Az 4 EW.nd rfl (zb4 rfl) (AD A4)) (A5 (Bg (lG (c:=true) (A2 3 (pv 3)) A3) (A7 (Iw (NB:=["_law_cell","_law_many"]) 4 [none,some 3] EW.nd rfl (zb4 rfl) rfl (Bn (Ab (BO (A2 0 (pv 0)) (C4 A3) (C4 A3)))) rfl rfl (BC 0 (by decide) rfl rfl rfl) (λ _ _ _ _=>Ea) (λ _ _ _ _=>(Ab (Cp (Ai (Cn rfl).toXCall (SX T) (hr.mono (by decide)) rfl (A1 (A2 0 (pv 0)) (A1 (A2 1 (pv 1)) A4)) rfl)))))) AN) (A7 (As (Bj (Aw (A1 (A2 3 (pv 3)) (A1 (A2 4 (pv 4)) A4))))))))))),?_⟩;intro cs hl hc;have e0:AI ["_law_cells","_law_most","_law_head","_law_many","_law_roads"] [.lst (cs.map .int),.int 7]=[some (.val (.lst (cs.map .int))),some (.val (.int 7)),none,none,none]:=rfl;rw[e0];obtain⟨h,hh⟩:∃h:Int,h=(cs.take 1).sum:=⟨_,rfl⟩;obtain⟨m,hm⟩:∃m:Nat,(m:Int)=1+h%7:=⟨(1+h%7).toNat,by omega⟩;have cD:1<=m:=by omega
 have cm:m<=7:=by omega
 have s1:T8 none (some 1) (.lst (cs.map D.int))=.ok (.lst (((cs.take 1).map D.int).map .sh)):=by rw[List.map_take];exact HG _ 1
 have s2:T8 (some 1) (some 25) (.lst (cs.map D.int))=.ok (.lst ((((cs.drop 1).take 24).map D.int).map .sh)):=by rw[List.map_take,List.map_drop];exact jI _ 1 25
 have m7:F7 (.int h) (.int 7)=.ok (.int (h%7)):=B8 (by decide);have hlen:((((cs.drop 1).take 24).map D.int)).length<=1000:=by rw[za5,zcd];omega
 by_cases hm3:1<m
 ·obtain⟨g,hg⟩:∃g:Int->Road,∀c,0<=c->(Hn m (g c)/\IZ [.int c,.int m]=.ok (.sh (Cq (g c)))):=by
   have this:∀c:Int,∃r:Road,0<=c->(Hn m r/\IZ [.int c,.int m]=.ok (.sh (Cq r))):=λ c=>by
    by_cases j0:0<=c
    ·obtain⟨r,hr⟩:=SY c m (by omega) (by omega) j0;exact⟨r,λ _=>hr⟩
    ·exact⟨⟨0,0,none,0⟩,λ z=>(j0 z).elim⟩
   exact⟨λ c=>zab (this c),λ c=>za2 (this c)⟩
  have xq:∀c∈(cs.drop 1).take 24,0<=c:=λ c aV=>hc c (List.mem_of_mem_drop (zbq aV));refine⟨m,((cs.drop 1).take 24).map g,cD,cm,by rw[za5,zcd];omega,λ r hr=>?_,Bh ?_⟩
  ·obtain⟨c,aV,rfl⟩:=zay.mp hr;exact (hg c (xq c aV)).1
  apply wp_step
  ·simp_arith[s1];rfl
  rw[<-hh];apply wp_step
  ·simp_arith[m7,<-hm];rfl
  apply wp_step
  ·rfl
  refine By (I:=λ ρ=>ρ=[some (.val (.lst (cs.map .int))),some (.val (.int 7)),some (.val (.int h)),some (.val (.int m)),some (.val (.lst ((((cs.drop 1).take 24).map g).map Cq)))]) ?_ ?_
  ·have t7:(1:Int)<(m:Int):=by omega
   simp_arith[decide_eq_true t7,s2,if_pos hlen];rw[CH (λ c=>Cq (g c)) (λ c aV=>⟨_,rfl,rfl,by
    have:=(hg c (xq c aV)).2;simp_arith[this]⟩)]
   simp_arith[];show _=_;rw[zbz];rfl
  rintro ρ rfl;simp_arith[];rfl
 ·refine⟨m,[],cD,cm,by simp,(λ r hr=>by cases hr),Bh ?_⟩;apply wp_step
  ·simp_arith[s1];rfl
  rw[<-hh];apply wp_step
  ·simp_arith[m7,<-hm];rfl
  apply wp_step
  ·rfl
  have t7:¬ (1:Int)<(m:Int):=by omega
  apply wp_step
  ·simp_arith[decide_eq_false t7];rfl
  simp_arith[];rfl
noncomputable def T6:List D->M OT:=zab JT
theorem Ux:Txt K mg->CC P w K mg base "_law_map" 3 2 T6:=(za2 JT).1
theorem Uy:∀(cs:List Int),cs.length<=25->(∀c∈cs,0<=c)->∃(m:Nat) (rs:List Road),1<=m/\m<=7/\rs.length<=24/\(∀r∈rs,Hn m r)/\T6 [.lst (cs.map .int),.int 7]=.ok (.sh (Ae m rs)):=(za2 JT).2
theorem GY:∃F:List D->M OT,(∀ {P w K mg base},Txt K mg->CC P w K mg base "_law_order" 2 2 F)/\(∀(m:Nat) (c:Int),m<=60->∃L:List Int,L.Perm (An m)/\F [.int m,.int c]=.ok (.lst ((L.map D.int).map .sh))):=by
 refine⟨_,λ T=>AY (k:=1) T.SG GQ _ (λ f Bf A outer s H E hr=>(A5 (D1 2 GQ.nd rfl (zb4 rfl) (HE Eb)) (A5 (Dn Ad.toXCall.own rfl (Dm (c:=true) rfl T.D9 (A2 0 (pv 0))) (BB 3 GQ.nd rfl (zb4 rfl)) (A7 (Wf 2 (pv 2) (Bm (Ab (Ai Ad.toXCall (Dd T) (hr.mono (by decide)) rfl (A1 (A2 1 (pv 1)) (A1 (A2 3 (pv 3)) A4)) rfl)) (CY (A2 3 (pv 3)) A3)) (A2 3 (pv 3))))) (A7 (Fc 2 (pv 2)))))),?_⟩;intro m c hm;have e0:AI ["_law_many","_law_cell","_law_order_here","_law_k"] [.int m,.int c]=[some (.val (.int m)),some (.val (.int c)),none,none]:=rfl;rw[e0];refine (λ h:∃t,_/\∃L:List Int,t=OT.lst ((L.map D.int).map .sh)/\L.Perm (An m)=>by
  obtain⟨t,h1,L,rfl,h2⟩:=h;exact⟨L,h2,h1⟩) (NH ?_)
 have hr:=Hz (n:=m) (by omega);apply wp_step
 ·rfl
 try simp only[zaw,zam]
 refine By (I:=λ ρ=>∃(L:List Int) (s3:Option Cl),ρ=[some (.val (.int m)),some (.val (.int c)),some (.own (L.map D.int)),s3]/\L.Perm (An m)) ?_ ?_
 ·simp_arith[hr];refine Dr (λ i ρ=>i<=m/\∃(L:List Int) (s3:Option Cl),ρ=[some (.val (.int m)),some (.val (.int c)),some (.own (L.map D.int)),s3]/\L.Perm (An i)) ⟨zb9 _,[],none,rfl,.refl _⟩ ?_ ?_
  ·rintro i d ρ hd ⟨_,L,s3,rfl,hL⟩;obtain⟨dE,hi⟩:=GA hd;rw[Int.zero_add] at dE;subst dE;have hlen:=Ky hL;refine⟨_,rfl,?_⟩;obtain⟨v,v0,hv⟩:=De c i (by omega) (by omega);have cD:F7 (.int v) (.int ((i:Int)+1))=.ok (.int (v%((i:Int)+1))):=B8 (by omega);have b0:0<=v%((i:Int)+1):=zbx _ (by omega);have b1:v%((i:Int)+1)<(i:Int)+1:=zc1 _ (by omega);refine C9 (ρ':=[some (.val (.int m)),some (.val (.int c)),some (.own ((L.take (v%((i:Int)+1)).toNat++(i:Int)::L.drop (v%((i:Int)+1)).toNat).map D.int)),some (.val (.int i))]) ?_ ⟨by omega,_,_,rfl,WW hL _⟩;simp_arith[hv,cD];rw[if_pos ⟨b0,by rw[za5];omega,by rw[za5];omega⟩];simp only[zbm,za8,List.map_take,List.map_drop];rfl
  ·rintro ρ ⟨_,L,s3,rfl,hL⟩;exact⟨L,s3,rfl,by rw[Dl] at hL;exact hL⟩
 ·rintro ρ ⟨L,s3,rfl,hL⟩;exact⟨_,rfl,L,rfl,hL⟩
noncomputable def Of:List D->M OT:=zab GY
theorem R7:Txt K mg->CC P w K mg base "_law_order" 2 2 Of:=(za2 GY).1
theorem R8:∀(m:Nat) (c:Int),m<=60->∃L:List Int,L.Perm (An m)/\Of [.int m,.int c]=.ok (.lst ((L.map D.int).map .sh)):=(za2 GY).2
theorem GZ:∃F:List D->M OT,(∀ {P w K mg base},Txt K mg->CC P w K mg base "_law_marks" 1 1 F)/\(F [.Ct "NoMap"]=.ok (.lst ((mk 0).map .sh))/\F [.Ct "NoOrder"]=.ok (.lst ((mk 1).map .sh))/\F [.Ct "NoArc"]=.ok (.lst ((mk 2).map .sh))):=by
 refine⟨_,λ T=>AY (k:=0) T.SH GR _ (λ f Bf A outer s H E hr=>(A5 (Az 1 GR.nd rfl (zb4 rfl) (AD (A1 (Cy T.kZ rfl T.Au rfl (A2 0 (pv 0))) (A1 (Cy T.Xk rfl T.Au rfl (A2 0 (pv 0))) (A1 (Cy T.kY rfl T.Au rfl (A2 0 (pv 0))) (A1 (Cy T.lB rfl T.Au rfl (A2 0 (pv 0))) A4)))))) (A5 (Az 1 GR.nd rfl (zb4 rfl) (Ab (AW (A2 1 (pv 1)) (AD (A1 (Cy T.Xl rfl T.Au rfl (A2 0 (pv 0))) (A1 (Cy T.ZO rfl T.Au rfl (A2 0 (pv 0))) (A1 (Cy T.Ur rfl T.Au rfl (A2 0 (pv 0))) (A1 (Cy T.ZN rfl T.Au rfl (A2 0 (pv 0))) A4)))))))) (A7 (As (AW (A2 1 (pv 1)) (AD (A1 (Cy T.ZP rfl T.Au rfl (A2 0 (pv 0))) (A1 (Cy T.lA rfl T.Au rfl (A2 0 (pv 0))) (A1 (Qr (ZD (x2 := "ValueError") T.QZ rfl T.Au rfl T.QY (by decide +kernel) (A2 0 (pv 0)))) A4)))))))))),?_⟩;refine⟨?_,?_,?_⟩
 ·refine Bh ?_;exact⟨_,rfl,rfl⟩
 ·refine Bh ?_;exact⟨_,rfl,rfl⟩
 ·refine Bh ?_;exact⟨_,rfl,rfl⟩
noncomputable def H9:List D->M OT:=zab GZ
theorem KR:Txt K mg->CC P w K mg base "_law_marks" 1 1 H9:=(za2 GZ).1
theorem Ha:H9 [.Ct "NoMap"]=.ok (.lst ((mk 0).map .sh))/\H9 [.Ct "NoOrder"]=.ok (.lst ((mk 1).map .sh))/\H9 [.Ct "NoArc"]=.ok (.lst ((mk 2).map .sh)):=(za2 GZ).2
theorem Ii:∃F:List D->M OT,(∀ {P w K mg base},Txt K mg->CC P w K mg base "_law_made" 8 2 F)/\((∀(m:Nat) (rs:List Road) (o:D) (L:List Int),1<=m->m<=16->rs.length<=60->(∀r∈rs,Hn m r)->L.Perm (An m)->o=.lst (L.map D.int)->F [Ae m rs,o]=.ok (.lst []))/\(∀d o:D,cl 3 d->BM d=false->F [d,o]=.ok (.lst ((mk 0).map .sh)))/\(∀(m:Nat) (rs:List Road) (d:D),1<=m->m<=16->rs.length<=60->(∀r∈rs,Hn m r)->Vf d->BL m d=false->AV d=false->F [Ae m rs,d]=.ok (.lst ((mk 1).map .sh)))):=by
 refine⟨_,λ T=>AY (k:=7) T.Up Fh _ (λ f Bf A outer s H E hr=>(A5 (Az 2 Fh.nd rfl (zb4 rfl) Ck) (A5 (VB (i:=3) (m:=4) T.Jj rfl rfl Fh.nd rfl rfl rfl (λ xe pn E xo=>(A7 (MB (c:=true) (Ab (Sv xo (EZ T) (hr.mono (by decide)) rfl (A1 (A2 0 (pv 0)) (A1 (A2 1 (pv 1)) A4)) rfl))))) (λ ea=>(A7 (Az 2 Fh.nd rfl (zb4 rfl) (A2 3 (pv 3)))))) (A5 (Bg (Ju (c:=true) (A2 2 (pv 2))) (A7 (As (HE Eb))) AN) (A7 (As (Ai Ad.toXCall (KR T) (hr.mono (by decide)) rfl (A1 (A2 2 (pv 2)) A4) rfl))))))),?_⟩;refine⟨λ m rs o L cD cm di eX hL ho=>?_,λ d o hc ho=>?_,λ m rs d cD cm di eX hd ho hn=>?_⟩
 ·have e0:AI ["_law_land","_law_order_here","_law_caught","_law_e"] [Ae m rs,o]=[some (.val (Ae m rs)),some (.val o),none,none]:=rfl;rw[e0];refine Bh ?_;obtain⟨A,K,ok,t,hI,hE⟩:=BY.1 m rs o L cD cm di eX hL (.inl ho);have g1:Q9 (B0 (.ins "Ladder" [] []) [Ae m rs,o])=.ok t:=by rw[hI];rfl
  refine wp_step (ρ':=[some (.val (Ae m rs)),some (.val o),some (.val .AK),none]) (by simp_arith[];try rfl) ?_;refine wp_step (ρ':=[some (.val (Ae m rs)),some (.val o),some (.val .AK),none]) (by simp_arith[Ni,g1];try rfl) ?_;have dG:AV .AK=true:=rfl;simp_arith[dG];exact⟨_,rfl,rfl⟩
 ·have e0:AI ["_law_land","_law_order_here","_law_caught","_law_e"] [d,o]=[some (.val d),some (.val o),none,none]:=rfl;rw[e0];refine Bh ?_;have h1:=BY.2.1 d o hc ho;have g1:Q9 (B0 (.ins "Ladder" [] []) [d,o])=.ex "NoMap" := by rw[h1];rfl
  have h2:=Ha.1;refine wp_step (ρ':=[some (.val d),some (.val o),some (.val .AK),none]) (by simp_arith[];try rfl) ?_;refine wp_step (ρ':=[none,none,some (.val (.Ct "NoMap")),none]) (by simp_arith[Ni,g1];rfl) ?_;refine wp_step (ρ':=[none,none,some (.val (.Ct "NoMap")),none]) (by simp_arith[];try rfl) ?_;simp_arith[h2];exact⟨_,rfl,rfl⟩
 ·have e0:AI ["_law_land","_law_order_here","_law_caught","_law_e"] [Ae m rs,d]=[some (.val (Ae m rs)),some (.val d),none,none]:=rfl;rw[e0];refine Bh ?_;have h1:=BY.2.2 m rs d cD cm di eX hd ho hn;have g1:Q9 (B0 (.ins "Ladder" [] []) [Ae m rs,d])=.ex "NoOrder" := by rw[h1];rfl
  have h2:=Ha.2.1;refine wp_step (ρ':=[some (.val (Ae m rs)),some (.val d),some (.val .AK),none]) (by simp_arith[];try rfl) ?_;refine wp_step (ρ':=[none,none,some (.val (.Ct "NoOrder")),none]) (by simp_arith[Ni,g1];rfl) ?_;refine wp_step (ρ':=[none,none,some (.val (.Ct "NoOrder")),none]) (by simp_arith[];try rfl) ?_;simp_arith[h2];exact⟨_,rfl,rfl⟩
noncomputable def J0:List D->M OT:=zab Ii
theorem Ij:Txt K mg->CC P w K mg base "_law_made" 8 2 J0:=(za2 Ii).1
theorem Ik:(∀(m:Nat) (rs:List Road) (o:D) (L:List Int),1<=m->m<=16->rs.length<=60->(∀r∈rs,Hn m r)->L.Perm (An m)->o=.lst (L.map D.int)->J0 [Ae m rs,o]=.ok (.lst []))/\(∀d o:D,cl 3 d->BM d=false->J0 [d,o]=.ok (.lst ((mk 0).map .sh)))/\(∀(m:Nat) (rs:List Road) (d:D),1<=m->m<=16->rs.length<=60->(∀r∈rs,Hn m r)->Vf d->BL m d=false->AV d=false->J0 [Ae m rs,d]=.ok (.lst ((mk 1).map .sh))):=(za2 Ii).2
theorem Hb:∃F:List D->M OT,(∀ {P w K mg base},Txt K mg->CC P w K mg base "_law_asked" 4 4 F)/\((∀(m:Nat) (rs:List Road) (L:List Int) (A:LA) (K:List (Int×Int)) (u w k:Int),ER m rs L A K->m<=8->(Bv A (u,w)).isSome=true->F [Ao m rs L A K,.int u,.int w,.int k]=.ok (.lst []))/\(∀(m:Nat) (rs:List Road) (L:List Int) (A:LA) (K:List (Int×Int)) (u w:D) (k:Int),Xf m A u w->F [Ao m rs L A K,u,w,.int k]=.ok (.lst ((mk 2).map .sh)))):=by
 refine⟨_,λ T=>AY (k:=3) T.SI Ef _ (λ f Bf A outer s H E hr=>(A5 (Az 4 Ef.nd rfl (zb4 rfl) Ck) (A5 (VB (i:=5) (m:=6) T.Jj rfl rfl Ef.nd rfl rfl rfl (λ xe pn E xo=>(A7 (Bg (Jf (c:=true) (B9 hr 16 (by decide)) (A2 3 (pv 3)) A3) (A7 (MB (c:=true) (Ab (IQ (k:=3) [("Ladder",BG)] xo (DH (by decide) (Od T) Fe) (hr.mono (by decide)) (A2 0 (pv 0)) (A1 (A2 1 (pv 1)) (A1 (A2 2 (pv 2)) A4)) rfl)))) (A7 (Bg (Jf (c:=true) (B9 hr 16 (by decide)) (A2 3 (pv 3)) A3) (A7 (MB (c:=true) (Ab (IQ (k:=3) [("Ladder",Be)] xo (DH (by decide) (M4 T) Fe) (hr.mono (by decide)) (A2 0 (pv 0)) (A1 (A2 1 (pv 1)) (A1 (A2 2 (pv 2)) A4)) rfl)))) (A7 (MB (c:=true) (Ab (IQ (k:=3) [("Ladder",B1)] xo (DH (by decide) (JS T) Fe) (hr.mono (by decide)) (A2 0 (pv 0)) (A1 (A2 1 (pv 1)) (A1 (A2 2 (pv 2)) A4)) rfl))))))))) (λ ea=>(A7 (Az 4 Ef.nd rfl (zb4 rfl) (A2 5 (pv 5)))))) (A5 (Bg (Ju (c:=true) (A2 4 (pv 4))) (A7 (As (HE Eb))) AN) (A7 (As (Ai Ad.toXCall (KR T) (hr.mono (by decide)) rfl (A1 (A2 4 (pv 4)) A4) rfl))))))),?_⟩;refine⟨λ m rs L A K u w k ok hm hf=>?_,λ m rs L A K u w k h=>?_⟩
 ·have e0:AI ["_law_ladder","_law_u","_law_w","_law_way","_law_caught","_law_e"] [Ao m rs L A K,.int u,.int w,.int k]=[some (.val (Ao m rs L A K)),some (.val (.int u)),some (.val (.int w)),some (.val (.int k)),none,none]:=rfl;rw[e0];refine Bh ?_;have s1:F8 [("Ladder",BG)] "cost" (Ao m rs L A K)=.ok BG:=rfl;have s2:F8 [("Ladder",Be)] "middle" (Ao m rs L A K)=.ok Be:=rfl;have s3:F8 [("Ladder",B1)] "unpacked" (Ao m rs L A K)=.ok B1:=rfl;obtain⟨z,hz⟩:=zbs.mp hf;have hc:A9 A (u,w)=some z.1:=by unfold A9;rw[hz];rfl
  have h1:=Ig.1 m rs L A K u w z.1 ok.uR hc;have h2:=Gq.1 m rs L A K u w z.1 z.2 ok.uR hz;have h3:=F2.1 m rs L A K u w ok hm hf;refine wp_step (ρ':=[some (.val (Ao m rs L A K)),some (.val (.int u)),some (.val (.int w)),some (.val (.int k)),some (.val .AK),none]) (by simp_arith[];try rfl) ?_;refine wp_step (ρ':=[some (.val (Ao m rs L A K)),some (.val (.int u)),some (.val (.int w)),some (.val (.int k)),some (.val .AK),none]) (by
   unfold Ni;by_cases k0:k=0
   ·simp_arith[decide_eq_true k0,s1,h1];try rfl
   ·by_cases k1:k=1
    ·simp_arith[decide_eq_false k0,decide_eq_true k1,s2,h2];try rfl
    ·simp_arith[decide_eq_false k0,decide_eq_false k1,s3,h3];try rfl) ?_
  have dG:AV .AK=true:=rfl;simp_arith[dG];exact⟨_,rfl,rfl⟩
 ·have e0:AI ["_law_ladder","_law_u","_law_w","_law_way","_law_caught","_law_e"] [Ao m rs L A K,u,w,.int k]=[some (.val (Ao m rs L A K)),some (.val u),some (.val w),some (.val (.int k)),none,none]:=rfl;rw[e0];refine Bh ?_;have s1:F8 [("Ladder",BG)] "cost" (Ao m rs L A K)=.ok BG:=rfl;have s2:F8 [("Ladder",Be)] "middle" (Ao m rs L A K)=.ok Be:=rfl;have s3:F8 [("Ladder",B1)] "unpacked" (Ao m rs L A K)=.ok B1:=rfl;have h1:=Ig.2 m rs L A K u w h;have h2:=Gq.2 m rs L A K u w h;have h3:=F2.2 m rs L A K u w h;have h4:=Ha.2.2;refine wp_step (ρ':=[some (.val (Ao m rs L A K)),some (.val u),some (.val w),some (.val (.int k)),some (.val .AK),none]) (by simp_arith[];try rfl) ?_;refine wp_step (ρ':=[none,none,none,none,some (.val (.Ct "NoArc")),none]) (by
   unfold Ni;by_cases k0:k=0
   ·simp_arith[decide_eq_true k0,s1,h1];try rfl
   ·by_cases k1:k=1
    ·simp_arith[decide_eq_false k0,decide_eq_true k1,s2,h2];try rfl
    ·simp_arith[decide_eq_false k0,decide_eq_false k1,s3,h3];try rfl) ?_
  refine wp_step (ρ':=[none,none,none,none,some (.val (.Ct "NoArc")),none]) (by simp_arith[];try rfl) ?_;simp_arith[h4];exact⟨_,rfl,rfl⟩
noncomputable def F5:List D->M OT:=zab Hb
theorem KS:Txt K mg->CC P w K mg base "_law_asked" 4 4 F5:=(za2 Hb).1
theorem Hc:(∀(m:Nat) (rs:List Road) (L:List Int) (A:LA) (K:List (Int×Int)) (u w k:Int),ER m rs L A K->m<=8->(Bv A (u,w)).isSome=true->F5 [Ao m rs L A K,.int u,.int w,.int k]=.ok (.lst []))/\(∀(m:Nat) (rs:List Road) (L:List Int) (A:LA) (K:List (Int×Int)) (u w:D) (k:Int),Xf m A u w->F5 [Ao m rs L A K,u,w,.int k]=.ok (.lst ((mk 2).map .sh))):=(za2 Hb).2
theorem F6:∃F:List D->M OT,(∀ {P w K mg base},Txt K mg->CC P w K mg base "_law_bad_map" 1 2 F)/\(∀(m:Nat) (rs:List Road) (c:Int),1<=m->m<=16->rs.length<=60->0<=c->∃d:D,F [Ae m rs,.int c]=.ok (.sh d)/\QJ d):=by
 refine⟨_,λ T=>AY (k:=0) T.OH Bd _ (λ f Bf A outer s H E hr=>(A5 (oQ (A2 0 (pv 0)) (TC (n:=2) rfl (FK (BB 2 Bd.nd rfl (zb4 rfl)) (FK (BB 3 Bd.nd rfl (zb4 rfl)) Qt)))) (A5 (Az 4 Bd.nd rfl (zb4 rfl) (AD (A1 Ck (A1 A3 (A1 Jt (A1 (AD (A1 (A2 2 (pv 2)) (A1 (A2 3 (pv 3)) A4))) (A1 (Aw (A1 (A2 2 (pv 2)) A4)) (A1 (Aw (A1 A3 (A1 (AD A4) A4))) (A1 (Aw (A1 A3 (A1 (AD A4) A4))) (A1 (Aw (A1 C0 (A1 (AD A4) A4))) (A1 (Aw (A1 (A2 2 (pv 2)) (A1 Ck A4))) (A1 (Aw (A1 (A2 2 (pv 2)) (A1 (Na rfl T.KO (A2 3 (pv 3))) A4))) A4)))))))))))) (A5 (Az 4 Bd.nd rfl (zb4 rfl) (Ab (AW (A2 4 (pv 4)) (AD (A1 (Aw (A1 (A2 2 (pv 2)) (A1 (Ab (AW (A2 3 (pv 3)) (AD (A1 (Aw (A1 A3 (A1 A3 (A1 A3 (A1 A3 A4))))) A4)))) A4))) (A1 (Aw (A1 (A2 2 (pv 2)) (A1 (Ab (AW (A2 3 (pv 3)) (AD (A1 (Aw (A1 A3 (A1 (A2 2 (pv 2)) (A1 A3 (A1 A3 A4))))) A4)))) A4))) (A1 (Aw (A1 (A2 2 (pv 2)) (A1 (Ab (AW (A2 3 (pv 3)) (AD (A1 Ck A4)))) A4))) A4))))))) (A5 (Az 4 Bd.nd rfl (zb4 rfl) (Ab (AW (A2 4 (pv 4)) (AD (A1 (Aw (A1 (A2 2 (pv 2)) (A1 (Ab (AW (A2 3 (pv 3)) (AD (A1 (Aw (A1 A3 (A1 A3 (A1 (Lk A3) (A1 A3 A4))))) A4)))) A4))) (A1 (Aw (A1 (A2 2 (pv 2)) (A1 (Ab (AW (A2 3 (pv 3)) (AD (A1 (Aw (A1 A3 (A1 A3 (A1 A3 A4)))) A4)))) A4))) (A1 (Aw (A1 (A2 2 (pv 2)) (A1 (Ab (AW (A2 3 (pv 3)) (AD (A1 (AD (A1 A3 (A1 A3 (A1 A3 (A1 A3 A4))))) A4)))) A4))) A4))))))) (A5 (Az 4 Bd.nd rfl (zb4 rfl) (Ab (AW (A2 4 (pv 4)) (AD (A1 (Aw (A1 (A2 2 (pv 2)) (A1 (Ab (AW (A2 3 (pv 3)) (AD (A1 (Aw (A1 (Lk A3) (A1 A3 (A1 A3 (A1 A3 A4))))) A4)))) A4))) (A1 (Aw (A1 (A2 2 (pv 2)) (A1 (Ab (AW (A2 3 (pv 3)) (AD (A1 (Aw (A1 A3 (A1 A3 (A1 (Lj A3 A3) (A1 A3 A4))))) A4)))) A4))) A4)))))) (A5 (Az 4 Bd.nd rfl (zb4 rfl) (Ab (AW (A2 4 (pv 4)) (AD (A1 (Aw (A1 (A2 2 (pv 2)) (A1 (Ab (AW (A2 3 (pv 3)) (AD (A1 (Aw (A1 A3 (A1 A3 (A1 A3 (A1 Ck A4))))) A4)))) A4))) (A1 (Aw (A1 (A2 2 (pv 2)) (A1 (Ab (AW (A2 3 (pv 3)) (AD (A1 (Aw (A1 A3 (A1 A3 (A1 C0 (A1 A3 A4))))) A4)))) A4))) (A1 (Aw (A1 (Lk (A2 2 (pv 2))) (A1 (AD A4) A4))) A4))))))) (A7 (As (Bj (Ah (B9 hr 16 (by decide)) (A2 4 (pv 4)) (Bm (A2 1 (pv 1)) A3)))))))))))),?_⟩;intro m rs c hm cm hl hc;have ht:=Zd;have e0:AI ["_law_land","_law_cell","_law_many","_law_roads","_law_some"] [Ae m rs,.int c]=[some (.val (.tup [.int m,.lst (rs.map Cq)])),some (.val (.int c)),none,none,none]:=rfl;rw[e0];refine (λ h:∃t,_/\∃d:D,t=OT.sh d/\QJ d=>by
  obtain⟨t,h1,d,rfl,h2⟩:=h;exact⟨d,h1,h2⟩) (NH ?_)
 have pl:∀x:D,Mb (.lst (rs.map Cq)) (.lst [x])=.ok (.lst ((rs.map Cq++[x]).map .sh)):=λ x=>Ff (by rw[za5];simp only[zad,zcm];omega);have cQ:∀x:D,cl 1 x->BP m x=false->QJ (.tup [.int m,.lst (rs.map Cq++[x])]):=λ x h1 h2=>⟨D5 (Am AJ (Am (LH (C5 QI (Am h1 Cs))) Cs)),X0 (zac _ (zaj.mpr rfl)) h2⟩;have tt:N9 [.lst (rs.map Cq)]=.ok (.tup (rs.map Cq)):=rfl;have h0:¬ (0<=- (m:Int)):=by omega
 have zX:∀ {n:Nat},cl (n+2) (.lst (rs.map Cq)):=fun {n}=>LH QI;have zY:∀ {n:Nat},cl (n+2) (.tup (rs.map Cq)):=fun {n}=>D5 QI;refine wp_step (ρ':=[some (.val (.tup [.int m,.lst (rs.map Cq)])),some (.val (.int c)),some (.val (.int m)),some (.val (.lst (rs.map Cq))),none]) (by simp_arith[];try rfl) ?_;refine By (I:=λ ρ=>∃S:List D,ρ=[some (.val (.tup [.int m,.lst (rs.map Cq)])),some (.val (.int c)),some (.val (.int m)),some (.val (.lst (rs.map Cq))),some (.val (.lst S))]/\S.length=10/\∀y∈S,QJ y) ?_ ?_
 ·refine C9 (ρ':=[some (.val (.tup [.int m,.lst (rs.map Cq)])),some (.val (.int c)),some (.val (.int m)),some (.val (.lst (rs.map Cq))),some (.val (.lst [.AK,.int 7,.str "map",.lst [.int m,.lst (rs.map Cq)],.tup [.int m],.tup [.int 0,.lst []],.tup [.int 17,.lst []],.tup [.bl true,.lst []],.tup [.int m,.AK],.tup [.int m,.tup (rs.map Cq)]]))]) (by simp_arith[tt];try rfl) ⟨_,rfl,rfl,?_⟩;refine all_cons ?_ (all_cons ?_ (all_cons ?_ (all_cons ?_ (all_cons ?_ (all_cons ?_ (all_cons ?_ (all_cons ?_ (all_cons ?_ (all_cons ?_ all_nil)))))))));all_goals refine⟨by repeat (first|exact zX|exact zY|exact AJ|exact QH|exact lW|exact qB|exact qC|exact Cs|apply D5|apply LH|apply Am),?_⟩
  ·rfl
  ·rfl
  ·rfl
  ·rfl
  ·exact Q4
  ·simp[BM,F9]
  ·simp[BM,F9]
  ·exact jX λ i h=>by cases h
  ·exact Vi λ i h=>by cases h
  ·exact Vi λ i h=>by cases h
 rintro ρ ⟨S,rfl,hS,dk⟩;refine By (I:=λ ρ=>∃S:List D,ρ=[some (.val (.tup [.int m,.lst (rs.map Cq)])),some (.val (.int c)),some (.val (.int m)),some (.val (.lst (rs.map Cq))),some (.val (.lst S))]/\S.length=13/\∀y∈S,QJ y) ?_ ?_
 ·simp_arith[pl,Q3];rw[Ff (by rw[hS];simp only[zad,zcm];omega)];simp_arith[];refine⟨_,rfl,by rw[zah,hS];rfl,C5 dk ?_⟩;exact (all_cons (cQ _ (D5 (Am AJ (Am AJ (Am AJ (Am AJ Cs))))) (by simp[BP,F9,AA,AV])) (all_cons (cQ _ (D5 (Am AJ (Am AJ (Am AJ (Am AJ Cs))))) (by simp[BP,F9,AA,AV])) (all_cons (cQ _ QH rfl) all_nil)))
 clear dk hS S;rintro ρ ⟨S,rfl,hS,dk⟩;refine By (I:=λ ρ=>∃S:List D,ρ=[some (.val (.tup [.int m,.lst (rs.map Cq)])),some (.val (.int c)),some (.val (.int m)),some (.val (.lst (rs.map Cq))),some (.val (.lst S))]/\S.length=16/\∀y∈S,QJ y) ?_ ?_
 ·simp_arith[pl,Q3];rw[Ff (by rw[hS];simp only[zad,zcm];omega)];simp_arith[];refine⟨_,rfl,by rw[zah,hS];rfl,C5 dk ?_⟩;exact (all_cons (cQ _ (D5 (Am AJ (Am AJ (Am AJ (Am AJ Cs))))) (by simp[BP,F9,AA,AV])) (all_cons (cQ _ (D5 (Am AJ (Am AJ (Am AJ Cs)))) rfl) (all_cons (cQ _ (LH (Am AJ (Am AJ (Am AJ (Am AJ Cs))))) rfl) all_nil)))
 clear dk hS S;rintro ρ ⟨S,rfl,hS,dk⟩;refine By (I:=λ ρ=>∃S:List D,ρ=[some (.val (.tup [.int m,.lst (rs.map Cq)])),some (.val (.int c)),some (.val (.int m)),some (.val (.lst (rs.map Cq))),some (.val (.lst S))]/\S.length=18/\∀y∈S,QJ y) ?_ ?_
 ·simp_arith[pl,Q3];rw[Ff (by rw[hS];simp only[zad,zcm];omega)];simp_arith[];refine⟨_,rfl,by rw[zah,hS];rfl,C5 dk ?_⟩;exact (all_cons (cQ _ (D5 (Am AJ (Am AJ (Am AJ (Am AJ Cs))))) (by simp[BP,F9,AA,AV])) (all_cons (cQ _ (D5 (Am AJ (Am AJ (Am AJ (Am AJ Cs))))) (by simp[BP,F9,AA,AV])) all_nil))
 clear dk hS S;rintro ρ ⟨S,rfl,hS,dk⟩;refine By (I:=λ ρ=>∃S:List D,ρ=[some (.val (.tup [.int m,.lst (rs.map Cq)])),some (.val (.int c)),some (.val (.int m)),some (.val (.lst (rs.map Cq))),some (.val (.lst S))]/\S.length=21/\∀y∈S,QJ y) ?_ ?_
 ·simp_arith[pl,Q3];rw[Ff (by rw[hS];simp only[zad,zcm];omega)];simp_arith[];refine⟨_,rfl,by rw[zah,hS];rfl,C5 dk ?_⟩;exact (all_cons (cQ _ (D5 (Am AJ (Am AJ (Am AJ (Am QH Cs))))) (by simp[BP,F9,AA,AV])) (all_cons (cQ _ (D5 (Am AJ (Am AJ (Am lW (Am AJ Cs))))) (by simp[BP,F9,AA,AV])) (all_cons (⟨D5 (Am AJ (Am (LH Cs) Cs)),by simp[BM,F9,h0];try omega⟩) all_nil)))
 clear dk hS S;rintro ρ ⟨S,rfl,hS,dk⟩;obtain⟨p1,y,hy,p2⟩:=Ze (S:=S) (by omega) hc;rw[hS] at p1 p2;have zZ:F7 (.int c) (.int 21)=.ok (.int (c%21)):=p1;have p2':Bi (.lst S) (.int (c%21))=.ok y:=p2;simp_arith[zZ,p2'];exact⟨y,rfl,dk y hy⟩
noncomputable def KU:List D->M OT:=zab F6
theorem Og:Txt K mg->CC P w K mg base "_law_bad_map" 1 2 KU:=(za2 F6).1
theorem Oh:∀(m:Nat) (rs:List Road) (c:Int),1<=m->m<=16->rs.length<=60->0<=c->∃d:D,KU [Ae m rs,.int c]=.ok (.sh d)/\QJ d:=(za2 F6).2
theorem DB:∃F:List D->M OT,(∀ {P w K mg base},Txt K mg->CC P w K mg base "_law_bad_order" 1 2 F)/\(∀(m:Nat) (c:Int),1<=m->m<=16->∃d:D,F [.int m,.int c]=.ok (.sh d)/\ZG m d):=by
 refine⟨_,λ T=>AY (k:=0) T.Mw Cg _ (λ f Bf A outer s H E hr=>(A5 (Az 2 Cg.nd rfl (zb4 rfl) (Ab (Ed rfl rfl T.JM rfl T.D9 (A2 0 (pv 0))))) (A5 (Az 3 Cg.nd rfl (zb4 rfl) (AD (A1 A3 (A1 Jt (A1 (Na rfl T.KO (A2 2 (pv 2))) (A1 (Ab (AW (A2 2 (pv 2)) (AD (A1 (A2 0 (pv 0)) A4)))) (A1 (Ab (BO (A2 2 (pv 2)) (C4 A3) CB)) (A1 (Ab (AW (Ab (BO (A2 2 (pv 2)) (C4 A3) CB)) (AD (A1 (A2 0 (pv 0)) A4)))) (A1 (Ab (Kq false)) (A1 (Ab (AW (AD (A1 (Lk A3) A4)) (Ab (BO (A2 2 (pv 2)) (C4 A3) CB)))) (A1 (AD (A1 (A2 2 (pv 2)) A4)) A4))))))))))) (A5 (Az 3 Cg.nd rfl (zb4 rfl) (Ab (AW (A2 3 (pv 3)) (AD (A1 (Ab (AW (AD (A1 Ck A4)) (Ab (BO (A2 2 (pv 2)) (C4 A3) CB)))) (A1 (Ab (AW (AD (A1 Jt A4)) (Ab (BO (A2 2 (pv 2)) (C4 A3) CB)))) (A1 (Ab (YW C0 (A2 0 (pv 0)))) (A1 (Ab (AW (A2 2 (pv 2)) (AD (A1 A3 A4)))) (A1 (Ab (AW (Ab (jN (Ab (BO (A2 2 (pv 2)) CB (C4 A3))) A3)) (Ab (BO (A2 2 (pv 2)) (C4 A3) CB)))) A4))))))))) (A7 (As (Bj (Ah (B9 hr 16 (by decide)) (A2 3 (pv 3)) (Yh (Bm (A2 1 (pv 1)) A3) (iM rfl T.VE (Jv (Pd (B9 hr 16 (by decide)) (Bm (A2 1 (pv 1)) A3) A3) (N7 (Pd (B9 hr 16 (by decide)) (A2 0 (pv 0)) A3))))))))))))),?_⟩;intro m c hm cm;have e0:AI ["_law_many","_law_cell","_law_order_here","_law_some"] [.int m,.int c]=[some (.val (.int m)),some (.val (.int c)),none,none]:=rfl;rw[e0];refine (λ h:∃t,_/\∃d:D,t=OT.sh d/\ZG m d=>by
  obtain⟨t,h1,d,rfl,h2⟩:=h;exact⟨d,h1,h2⟩) (NH ?_)
 have t8:((zav m).map λ i:Nat=>D.int (i:Int))=((An m).map D.int):=by unfold An;rw[zbz];rfl
 have di:=Kr (n:=m) (by omega);rw[t8] at di;have gj:((An m).map D.int).length=m:=by rw[za5,EO]
 have dE:(((An m).map D.int).drop 1).length=m-1:=by rw[zcp,gj]
 have hd2:(((An m).map D.int).drop 2).length=m-2:=by rw[zcp,gj]
 have hR:((An m).map D.int)=.int 0::((An m).map D.int).drop 1:=by
  obtain⟨k,rfl⟩:∃k,m=k+1:=⟨m-1,by omega⟩;unfold An;rw[List.range_succ_eq_map];rfl
 have tk1:((An m).map D.int).take 1=[.int 0]:=by rw[hR];rfl
 have jy:T8 (some 1) none (.lst ((An m).map D.int))=.ok (.lst ((((An m).map D.int).drop 1).map .sh)):=NJ _ 1;have fm:T8 (some 2) none (.lst ((An m).map D.int))=.ok (.lst ((((An m).map D.int).drop 2).map .sh)):=NJ _ 2;have st1:T8 none (some 1) (.lst ((An m).map D.int))=.ok (.lst (([D.int 0]).map .sh)):=by rw[<-tk1];exact HG _ 1
 have tt:N9 [.lst ((An m).map D.int)]=.ok (.tup ((An m).map D.int)):=rfl;have pl:∀a b:List D,a.length<=100->b.length<=100->Mb (.lst a) (.lst b)=.ok (.lst ((a++b).map .sh)):=λ a b h1 h2=>Ff (by omega);have p1:=pl ((An m).map D.int) [.int m] (by omega) (by show 1<=100;omega);have p2:=pl (((An m).map D.int).drop 1) [.int m] (by omega) (by show 1<=100;omega);have p3:=pl [.int (-1)] (((An m).map D.int).drop 1) (by show 1<=100;omega) (by omega);have p4:=pl [.AK] (((An m).map D.int).drop 1) (by show 1<=100;omega) (by omega);have p5:=pl [.str "0"] (((An m).map D.int).drop 1) (by show 1<=100;omega) (by omega);have p6:=pl ((An m).map D.int) [.int 0] (by omega) (by show 1<=100;omega);have p7:=pl [.int 0,.int 0] (((An m).map D.int).drop 2) (by show 2<=100;omega) (by omega);have rp:=RY (d:=.bl true) (n:=m) (by omega);have rp2:jM (.lst [.int 0]) (.int 2)=.ok (.lst ([D.int 0,.int 0].map .sh)):=rfl;have p8:=pl [.int 7,.str "01",.tup ((An m).map D.int),.lst (((An m).map D.int)++[.int m]),.lst (((An m).map D.int).drop 1),.lst (((An m).map D.int).drop 1++[.int m]),.Bl false [] [],.lst ([.int (-1)]++((An m).map D.int).drop 1),.lst [.lst ((An m).map D.int)]] [.lst ([.AK]++((An m).map D.int).drop 1),.lst ([.str "0"]++((An m).map D.int).drop 1),.lst (zai m (.bl true)),.lst (((An m).map D.int)++[.int 0]),.lst ([.int 0,.int 0]++((An m).map D.int).drop 2)] (by show 9<=100;omega) (by show 5<=100;omega);obtain⟨S,hS⟩:∃S:List D,S=[.int 7,.str "01",.tup ((An m).map D.int),.lst (((An m).map D.int)++[.int m]),.lst (((An m).map D.int).drop 1),.lst (((An m).map D.int).drop 1++[.int m]),.Bl false [] [],.lst ([.int (-1)]++((An m).map D.int).drop 1),.lst [.lst ((An m).map D.int)]]++[.lst ([.AK]++((An m).map D.int).drop 1),.lst ([.str "0"]++((An m).map D.int).drop 1),.lst (zai m (.bl true)),.lst (((An m).map D.int)++[.int 0]),.lst ([.int 0,.int 0]++((An m).map D.int).drop 2)]:=⟨_,rfl⟩;have hSl:S.length=14:=by rw[hS];rfl
 have xi:∀e∈((An m).map D.int),KZ e=false:=λ e he=>by obtain⟨j,_,rfl⟩:=zay.mp he;rfl
 have xd:∀k,∀e∈((An m).map D.int).drop k,KZ e=false:=λ k e he=>xi e (List.mem_of_mem_drop he);have lst:∀ {xs:List D},xs.length<=100->(∀e∈xs,KZ e=false)->BL m (.lst xs)=false->ZG m (.lst xs):=λ h1 h2 h3=>⟨qA (by omega) h2,h3,rfl⟩;have one:∀ {y:D},KZ y=false->∀e∈[y],KZ e=false:=λ h e he=>by rw[zaj.mp he];exact h
 have dk:∀y∈S,ZG m y:=by
  rw[hS];refine C5 (all_cons ?_ (all_cons ?_ (all_cons ?_ (all_cons ?_ (all_cons ?_ (all_cons ?_ (all_cons ?_ (all_cons ?_ (all_cons ?_ all_nil))))))))) (all_cons ?_ (all_cons ?_ (all_cons ?_ (all_cons ?_ (all_cons ?_ all_nil)))))
  ·exact⟨KG rfl λ xs h=>(by cases h),rfl,rfl⟩
  ·exact⟨KG rfl λ xs h=>(by cases h),rfl,rfl⟩
  ·exact⟨KG rfl λ xs h=>(by cases h),rfl,rfl⟩
  ·exact lst (by rw[zah,gj];show m+1<=100;omega) (C5 xi (one rfl)) (MI (by rw[zah,gj];show m+1≠m;omega))
  ·exact lst (by omega) (xd 1) (MI (by omega))
  ·exact lst (by rw[zah,dE];show m-1+1<=100;omega) (C5 (xd 1) (one rfl)) (IY (y:=.int m) (zac _ (zaj.mpr rfl)) λ j h=>by cases h;omega)
  ·exact⟨KG rfl λ xs h=>(by cases h),rfl,rfl⟩
  ·exact lst (by rw[zah,dE];show 1+(m-1)<=100;omega) (C5 (one rfl) (xd 1)) (IY (y:=.int (-1)) (zas _ (zaj.mpr rfl)) λ j h=>by cases h;omega)
  ·exact lst (by show 1<=100;omega) (one rfl) (IY (zaj.mpr rfl) λ j h=>by cases h)
  ·exact lst (by rw[zah,dE];show 1+(m-1)<=100;omega) (C5 (one rfl) (xd 1)) (IY (y:=.AK) (zas _ (zaj.mpr rfl)) λ j h=>by cases h)
  ·exact lst (by rw[zah,dE];show 1+(m-1)<=100;omega) (C5 (one rfl) (xd 1)) (IY (y:=.str "0") (zas _ (zaj.mpr rfl)) λ j h=>by cases h)
  ·exact lst (by rw[List.length_replicate];omega) (λ e he=>by rw[List.eq_of_mem_replicate he];rfl) (IY (y:=.bl true) (List.mem_replicate.mpr ⟨by omega,rfl⟩) λ j h=>by cases h)
  ·exact lst (by rw[zah,gj];show m+1<=100;omega) (C5 xi (one rfl)) (MI (by rw[zah,gj];show m+1≠m;omega))
  ·exact lst (by rw[zah,hd2];show 2+(m-2)<=100;omega) (C5 (all_cons rfl (one rfl)) (xd 2)) kR
 refine wp_step (ρ':=[some (.val (.int m)),some (.val (.int c)),some (.val (.lst ((An m).map D.int))),none]) (by simp_arith[di];try rfl) ?_;refine wp_step (ρ':=[some (.val (.int m)),some (.val (.int c)),some (.val (.lst ((An m).map D.int))),some (.val (.lst [.int 7,.str "01",.tup ((An m).map D.int),.lst (((An m).map D.int)++[.int m]),.lst (((An m).map D.int).drop 1),.lst (((An m).map D.int).drop 1++[.int m]),.Bl false [] [],.lst ([.int (-1)]++((An m).map D.int).drop 1),.lst [.lst ((An m).map D.int)]]))]) (by simp_arith[tt,jy,p1,p2,p3];try rfl) ?_;refine wp_step (ρ':=[some (.val (.int m)),some (.val (.int c)),some (.val (.lst ((An m).map D.int))),some (.val (.lst S))]) (by
  simp_arith[jy,fm,st1,p4,p5,p6,p7,rp,rp2,p8,hS];try rfl) ?_
 have t9:F7 (.int c) (.int 14)=.ok (.int (c%14)):=B8 (by decide);have b0:=zbx c (show (14:Int)≠0 by decide);have b1:=zc1 c (show (0:Int)<14 by decide);have pick:∀j:Int,0<=j->j<14->∃y,y∈S/\Bi (.lst S) (.int j)=.ok y:=λ j h0 h1=>by
  obtain⟨y,hy⟩:∃y,S[j.toNat]?=some y:=⟨S[j.toNat]'(by omega),zaf _⟩;have:=Kw (f:=id) h0 hy;rw[List.map_id] at this;exact⟨y,zag hy,this⟩
 have i1:RK [.bl true]=.ok (.int 1):=rfl;have i0:RK [.bl false]=.ok (.int 0):=rfl;by_cases h1:c%14=13
 ·by_cases h2:(m:Int)=1
  ·obtain⟨y,hy,hp⟩:=pick (c%14-1) (by omega) (by omega);simp_arith[t9,decide_eq_true h1,decide_eq_true h2,D2,if_true,i1,hp];exact⟨y,rfl,dk y hy⟩
  ·obtain⟨y,hy,hp⟩:=pick (c%14-0) (by omega) (by omega);simp_arith[t9,decide_eq_true h1,decide_eq_false h2,D2,if_true,i0,hp];exact⟨y,rfl,dk y hy⟩
 ·obtain⟨y,hy,hp⟩:=pick (c%14-0) (by omega) (by omega);simp_arith[t9,decide_eq_false h1,D2,zap,if_false,i0,hp];exact⟨y,rfl,dk y hy⟩
noncomputable def Il:List D->M OT:=zab DB
theorem M5:Txt K mg->CC P w K mg base "_law_bad_order" 1 2 Il:=(za2 DB).1
theorem M6:∀(m:Nat) (c:Int),1<=m->m<=16->∃d:D,Il [.int m,.int c]=.ok (.sh d)/\ZG m d:=(za2 DB).2
theorem He:∃F:List D->M OT,(∀ {P w K mg base},Txt K mg->CC P w K mg base "_law_thing" 1 2 F)/\(∀(m:Nat) (c:Int),1<=m->m<=16->∃d:D,F [.int m,.int c]=.ok (.sh d)/\KZ d=false):=by
 refine⟨_,λ T=>AY (k:=0) T.SJ KI _ (λ f Bf A outer s H E hr=>(A5 (Az 2 KI.nd rfl (zb4 rfl) (AD (A1 (A2 0 (pv 0)) (A1 (Lk A3) (A1 Ck (A1 Jt (A1 (AD (A1 A3 A4)) (A1 (Aw (A1 A3 A4)) (A1 C0 (A1 C0 (A1 (CY (A2 0 (pv 0)) (Bm (Gy (A2 1 (pv 1)) A3) (Lj A3 A3))) (A1 (Lk (A2 0 (pv 0))) (A1 (Ab (Kq false)) A4))))))))))))) (A7 (As (Bj (Ah (B9 hr 16 (by decide)) (Ab (AW (Ab (Ed rfl rfl T.JM rfl T.D9 (A2 0 (pv 0)))) (A2 2 (pv 2)))) (Bm (A2 1 (pv 1)) (CY (A2 0 (pv 0)) A3)))))))),?_⟩;intro m c hm cm;have e0:AI ["_law_many","_law_cell","_law_some"] [.int m,.int c]=[some (.val (.int m)),some (.val (.int c)),none]:=rfl;rw[e0];refine (λ h:∃t,_/\∃d:D,t=OT.sh d/\KZ d=false=>by
  obtain⟨t,h1,d,rfl,h2⟩:=h;exact⟨d,h1,h2⟩) (NH ?_)
 obtain⟨T,jk,hT⟩:∃T:Int,0<T/\Qp (.int 10) (.int 50)=.ok (.int T):=⟨10^50,by decide,rfl⟩;have w1:K8 (.int c) (.int 17)=.ok (.int (c / 17)):=ED ⟨by decide,by decide⟩;have w2:F7 (.int (c / 17)) (.int T)=.ok (.int (c / 17%T)):=B8 jk;have w3:F7 (.int c) (.int ((m:Int)+11))=.ok (.int (c%((m:Int)+11))):=B8 (by omega);have t8:((zav m).map λ i:Nat=>D.int (i:Int))=((An m).map D.int):=by unfold An;rw[zbz];rfl
 have di:=Kr (n:=m) (by omega);rw[t8] at di;have gj:((An m).map D.int).length=m:=by rw[za5,EO]
 have pp:Mb (.lst ((An m).map D.int)) (.lst [.int m,.int (-1),.AK,.str "0",.lst [.int 0],.tup [.int 0],.bl true,.bl false,.int (m+c / 17%T),.int (-m),.Bl false [] []]) =   .ok (.lst ((((An m).map D.int)++([.int m,.int (-1),.AK,.str "0",.lst [.int 0],.tup [.int 0],.bl true,.bl false,.int (m+c / 17%T),.int (-m),.Bl false [] []]:List D)).map .sh)):=Ff (by rw[gj];show m+11<=1000;omega);obtain⟨S,hS⟩:∃S:List D,S=((An m).map D.int)++[.int m,.int (-1),.AK,.str "0",.lst [.int 0],.tup [.int 0],.bl true,.bl false,.int (m+c / 17%T),.int (-m),.Bl false [] []]:=⟨_,rfl⟩;have hSl:S.length=m+11:=by rw[hS,zah,gj];rfl
 have hx:∀y∈S,KZ y=false:=by
  rw[hS];refine C5 (λ e he=>by obtain⟨j,_,rfl⟩:=zay.mp he;rfl) ?_;exact all_cons rfl (all_cons rfl (all_cons rfl (all_cons rfl (all_cons rfl (all_cons rfl (all_cons rfl (all_cons rfl (all_cons rfl (all_cons rfl (all_cons rfl all_nil))))))))))
 have b0:=zbx c (show (m:Int)+11≠0 by omega);have b1:=zc1 c (show (0:Int)<(m:Int)+11 by omega);obtain⟨y,hy⟩:∃y,S[(c%((m:Int)+11)).toNat]?=some y:=⟨S[(c%((m:Int)+11)).toNat]'(by omega),zaf _⟩;have hp:Bi (.lst S) (.int (c%((m:Int)+11)))=.ok y:=by
  have:=Kw (f:=id) b0 hy;rw[List.map_id] at this;exact this
 rw[<-hS] at pp;refine wp_step (ρ':=[some (.val (.int m)),some (.val (.int c)),some (.val (.lst [.int m,.int (-1),.AK,.str "0",.lst [.int 0],.tup [.int 0],.bl true,.bl false,.int (m+c / 17%T),.int (-m),.Bl false [] []]))]) (by simp_arith[w1,w2,hT];try rfl) ?_;simp_arith[di,pp,w3,hp];exact⟨y,rfl,hx y (zag hy)⟩
noncomputable def Oi:List D->M OT:=zab He
theorem KW:Txt K mg->CC P w K mg base "_law_thing" 1 2 Oi:=(za2 He).1
theorem KY:∀(m:Nat) (c:Int),1<=m->m<=16->∃d:D,Oi [.int m,.int c]=.ok (.sh d)/\KZ d=false:=(za2 He).2
theorem FF:∃F:List D->M OT,(∀ {P w K mg base},Txt K mg->CC P w K mg base "_law_no_arc" 5 3 F)/\(∀(m:Nat) (rs:List Road) (L:List Int) (A:LA) (K:List (Int×Int)) (c:Int),ER m rs L A K->m<=8->F [Ao m rs L A K,.int m,.int c]=.ok (.sh (.bl true))):=by
 refine⟨_,λ T=>AY (k:=4) T.QX BJ _ (λ f Bf A outer s H E hr=>(A5 (Az 3 BJ.nd rfl (zb4 rfl) (Ab (Ai Ad.toXCall (KW T) (hr.mono (by decide)) rfl (A1 (A2 1 (pv 1)) (A1 (Ab (Ai Ad.toXCall (Dd T) (hr.mono (by decide)) rfl (A1 (A2 2 (pv 2)) (A1 A3 A4)) rfl)) A4)) rfl))) (A5 (Az 4 BJ.nd rfl (zb4 rfl) (Ab (Ai Ad.toXCall (KW T) (hr.mono (by decide)) rfl (A1 (A2 1 (pv 1)) (A1 (Ab (Ai Ad.toXCall (Dd T) (hr.mono (by decide)) rfl (A1 (A2 2 (pv 2)) (A1 A3 A4)) rfl)) A4)) rfl))) (A5 (Az 5 BJ.nd rfl (zb4 rfl) (Jv (Fp (Nc _) rfl T.Au rfl T.VE (by decide +kernel) (A2 3 (pv 3))) (Jv (Qr (Fp (Ll _) rfl T.Au rfl T.Uq (by decide +kernel) (A2 3 (pv 3)))) (Jv (Fp (Nc _) rfl T.Au rfl T.VE (by decide +kernel) (A2 4 (pv 4))) (N7 (Qr (Fp (Ll _) rfl T.Au rfl T.Uq (by decide +kernel) (A2 4 (pv 4))))))))) (A5 (Iw (NB:=["_law_k"]) 6 [none] BJ.nd rfl (zb4 rfl) rfl (Dm (c:=true) rfl T.D9 A3) rfl rfl (BC 0 (by decide) rfl rfl rfl) (λ _ _ _ _=>Ea) (λ _ _ _ _=>(Pd (B9 hr 16 (by decide)) (A2 0 (pv 0)) A3))) (A5 (Bg (DW.dt (N6 (C8 (c:=true) (A2 5 (pv 5))) (Ka (kP (c:=true) (B9 hr 16 (by decide)) (Aw (A1 (A2 3 (pv 3)) (A1 (A2 4 (pv 4)) A4))) (Ab (S1 (k:=1) [("Ladder",BF)] Ad.toXCall (DH (by decide) (Ic T) Fe) (hr.mono (by decide)) (A2 0 (pv 0)))))))) (A7 (Az 6 BJ.nd rfl (zb4 rfl) (AD A4))) AN) (A5 (Dn Ad.toXCall.own rfl (Dm (c:=true) rfl T.D9 A3) (BB 7 BJ.nd rfl (zb4 rfl)) (A7 (Bg (Hx (c:=true) (B9 hr 16 (by decide)) (Ab (Ai Ad.toXCall (KS T) (hr.mono (by decide)) rfl (A1 (A2 0 (pv 0)) (A1 (A2 3 (pv 3)) (A1 (A2 4 (pv 4)) (A1 (Bm (CY (A2 7 (pv 7)) (A2 2 (pv 2))) A3) A4)))) rfl)) (A2 6 (pv 6))) (A7 (As (Bj C0))) AN))) (A7 (As (Bj C0)))))))))),?_⟩;intro m rs L A K c ok hm;have cD:=ok.m1;have e0:AI ["_law_ladder","_law_many","_law_cell","_law_u","_law_w","_law_whole","_law_due","_law_way"] [Ao m rs L A K,.int m,.int c]=[some (.val (Ao m rs L A K)),some (.val (.int m)),some (.val (.int c)),none,none,none,none,none]:=rfl;rw[e0];refine Bh ?_;obtain⟨v1,_,hv1⟩:=De c 11 (by omega) (by omega);obtain⟨v2,_,iz⟩:=De c 12 (by omega) (by omega);obtain⟨u,hu,xu⟩:=KY m v1 cD (by omega);obtain⟨w,hw,xw⟩:=KY m v2 cD (by omega);have iu:=λ T=>Ke (T:=T) xu;have iw:=λ T=>Ke (T:=T) xw;obtain⟨b,hb⟩:∃b,b=(BN "int" u&&(!BN "bool" u&&(BN "int" w && !BN "bool" w))):=⟨_,rfl⟩;have gl:RE (.int 11)=.ok (C7 0 11):=Hz (n:=11) (by omega);have gm:((zav 11).map λ i:Nat=>D.int (i:Int)).length<=1000:=by decide
 have hr3:RE (.int 3)=.ok (C7 0 3):=Hz (n:=3) (by omega);have w3:∀x:Int,F7 (.int x) (.int 3)=.ok (.int (x%3)):=λ x=>B8 (by decide);have s1:F8 [("Ladder",BF)] "arcs" (Ao m rs L A K)=.ok BF:=rfl;have j4:=Ie m rs L A K ok.uR hm;refine wp_step (ρ':=[some (.val (Ao m rs L A K)),some (.val (.int m)),some (.val (.int c)),some (.val u),none,none,none,none]) (by simp_arith[hv1,hu];try rfl) ?_;refine wp_step (ρ':=[some (.val (Ao m rs L A K)),some (.val (.int m)),some (.val (.int c)),some (.val u),some (.val w),none,none,none]) (by simp_arith[iz,hw];try rfl) ?_;refine wp_step (ρ':=[some (.val (Ao m rs L A K)),some (.val (.int m)),some (.val (.int c)),some (.val u),some (.val w),some (.val (.bl b)),none,none]) (by
  rw[hb];simp_arith[iu,iw,D2];cases BN "int" u<;>cases BN "bool" u<;>cases BN "int" w<;>cases BN "bool" w<;>rfl) ?_
 refine wp_step (ρ':=[some (.val (Ao m rs L A K)),some (.val (.int m)),some (.val (.int c)),some (.val u),some (.val w),some (.val (.bl b)),some (.val (.lst (mk 2))),none]) (by
  simp_arith[gl,EL,if_pos gm];rw[CH (λ i:Nat=>D.bl (decide (i=2))) (λ i hi=>⟨_,rfl,rfl,by
   have e:decide ((i:Int)=2)=decide (i=2):=by
    by_cases h:i=2
    ·rw[decide_eq_true h,decide_eq_true (by omega)]
    ·rw[decide_eq_false h,decide_eq_false (by omega)]
   simp_arith[e];try rfl⟩)]
  try rfl) ?_
 refine By (I:=λ ρ=>∃ic:List D,ρ=[some (.val (Ao m rs L A K)),some (.val (.int m)),some (.val (.int c)),some (.val u),some (.val w),some (.val (.bl b)),some (.val (.lst ic)),none]/\Xs 16 (.lst ic) (.lst ic)=.ok (.bl false)/\∀k:Int,F5 [Ao m rs L A K,u,w,.int k]=.ok (.lst (ic.map .sh))) ?_ ?_
 ·have bad:Xf m A u w->Xs 16 (.lst (mk 2)) (.lst (mk 2))=.ok (.bl false)/\∀k:Int,F5 [Ao m rs L A K,u,w,.int k]=.ok (.lst ((mk 2).map .sh)):=λ h=>⟨Nk (ZH 2),λ k=>Hc.2 m rs L A K u w k h⟩;cases nj:b with
  |false =>
   have gc:Xf m A u w:=by
    refine⟨xu,xw,?_⟩;cases g1:F9 u m with
    |false=>exact .inl rfl
    |true =>
     cases g2:F9 w m with
     |false=>exact .inr (.inl rfl)
     |true =>
      have t1:=mE g1;have t2:=mE g2;rw[nj,t1.1,t1.2,t2.1,t2.2] at hb;cases hb
   exact C9 (ρ':=[some (.val (Ao m rs L A K)),some (.val (.int m)),some (.val (.int c)),some (.val u),some (.val w),some (.val (.bl false)),some (.val (.lst (mk 2))),none]) (by simp_arith[D2];try rfl) ⟨mk 2,rfl,bad gc⟩
  |true =>
   rw[nj] at hb;have oj:BN "int" u=true/\BN "bool" u=false/\BN "int" w=true/\BN "bool" w=false:=by
    revert hb;cases BN "int" u<;>cases BN "bool" u<;>cases BN "int" w<;>cases BN "bool" w<;>simp
   obtain⟨i,rfl⟩:=ty_int xu oj.1 oj.2.1;obtain⟨j,rfl⟩:=ty_int xw oj.2.2.1 oj.2.2.2;have gi:=kS (ps:=kM A) (i:=i) (j:=j);by_cases dC:(i,j)∈kM A
   ·rw[decide_eq_true dC] at gi;have hs:=QO.mp dC;exact C9 (ρ':=[some (.val (Ao m rs L A K)),some (.val (.int m)),some (.val (.int c)),some (.val (.int i)),some (.val (.int j)),some (.val (.bl true)),some (.val (.lst [])),none]) (by simp_arith[D2,s1,j4,gi];try rfl) ⟨[],rfl,rfl,λ k=>Hc.1 m rs L A K i j k ok hm hs⟩
   ·rw[decide_eq_false dC] at gi;have gc:Xf m A (.int i) (.int j):=⟨rfl,rfl,.inr (.inr ⟨i,j,rfl,rfl,by
     cases q:Bv A (i,j) with
     |none=>rfl
     |some z=>exact (dC (QO.mpr (by rw[q];rfl))).elim⟩)⟩
    exact C9 (ρ':=[some (.val (Ao m rs L A K)),some (.val (.int m)),some (.val (.int c)),some (.val (.int i)),some (.val (.int j)),some (.val (.bl true)),some (.val (.lst (mk 2))),none]) (by simp_arith[D2,s1,j4,gi];try rfl) ⟨mk 2,rfl,bad gc⟩
 rintro ρ ⟨ic,rfl,au,eQ⟩;refine By (I:=λ ρ=>∃s,ρ=[some (.val (Ao m rs L A K)),some (.val (.int m)),some (.val (.int c)),some (.val u),some (.val w),some (.val (.bl b)),some (.val (.lst ic)),s]) ?_ ?_
 ·simp_arith[hr3];refine Dr (λ i ρ=>∃s,ρ=[some (.val (Ao m rs L A K)),some (.val (.int m)),some (.val (.int c)),some (.val u),some (.val w),some (.val (.bl b)),some (.val (.lst ic)),s]) ⟨none,rfl⟩ ?_ ?_
  ·rintro i d ρ hd ⟨s,rfl⟩;obtain⟨dE,hi⟩:=GA hd;rw[Int.zero_add] at dE;subst dE;refine⟨_,rfl,?_⟩;exact C9 (ρ':=[some (.val (Ao m rs L A K)),some (.val (.int m)),some (.val (.int c)),some (.val u),some (.val w),some (.val (.bl b)),some (.val (.lst ic)),some (.val (.int (i:Int)))]) (by simp_arith[w3,eQ,au];try rfl) ⟨_,rfl⟩
  ·rintro ρ ⟨s,rfl⟩;exact⟨s,rfl⟩
 ·rintro ρ ⟨s,rfl⟩;rfl
noncomputable def Mn:List D->M OT:=zab FF
theorem OO:Txt K mg->CC P w K mg base "_law_no_arc" 5 3 Mn:=(za2 FF).1
theorem OP:∀(m:Nat) (rs:List Road) (L:List Int) (A:LA) (K:List (Int×Int)) (c:Int),ER m rs L A K->m<=8->Mn [Ao m rs L A K,.int m,.int c]=.ok (.sh (.bl true)):=(za2 FF).2
theorem Uz:∃F:List D->M D,(∀ {P w K mg base f fd},Txt K mg->Xq K "law" "law" Hi f fd->E8 P w K mg base gF 9 f fd ["_law_script"] (TH K 1 F))/\(∀ns:List Int,ns.length<=63->(∀n∈ns,Sm n)->F [.lst (ns.map D.int)]=.ok (.bl true)):=by
 refine⟨_,fun {P w K mg base f fd} T F=>tS (k:=8) F Fz _ (λ Bf A outer s H E hr=>(A5 (Iw (NB:=["_law_cell"]) 1 [none] Fz.nd rfl (zb4 rfl) rfl (Bn (Ab (BO (A2 0 (pv 0)) CB (C4 A3)))) rfl rfl (BC 0 (by decide) rfl rfl rfl) (λ _ _ _ _=>Ea) (λ _ _ _ _=>(Bm (A2 0 (pv 0)) (Lj A3 A3)))) (A5 (Az 2 Fz.nd rfl (zb4 rfl) (Ab (Cp (Ai (Cn rfl).toXCall (Ux T) (hr.mono (by decide)) rfl (A1 (A2 1 (pv 1)) (A1 A3 A4)) rfl)))) (A5 (Az 3 Fz.nd rfl (zb4 rfl) (Ab (Cp (Ai (Cn rfl).toXCall (R7 T) (hr.mono (by decide)) rfl (A1 (Ah (B9 hr 16 (by decide)) (A2 2 (pv 2)) A3) (A1 (YS rfl rfl T.mH (A2 1 (pv 1))) A4)) rfl)))) (A5 (Az 4 Fz.nd rfl (zb4 rfl) (Ab (Cp (Sv (Cn rfl).toXCall (EZ T) (hr.mono (by decide)) rfl (A1 (A2 2 (pv 2)) (A1 (A2 3 (pv 3)) A4)) rfl)))) (A5 (Dn PassesOwn.never rfl (Bn (Ab (AW (AD (A1 A3 (A1 A3 (A1 A3 A4)))) (Ab (BO (A2 1 (pv 1)) CB (C4 A3)))))) (BB 5 Fz.nd rfl (zb4 rfl)) (A5 (Az 6 Fz.nd rfl (zb4 rfl) (Ab (Cp (Ai (Cn rfl).toXCall (Og T) (hr.mono (by decide)) rfl (A1 (A2 2 (pv 2)) (A1 (Gy (A2 5 (pv 5)) A3) A4)) rfl)))) (A5 (Az 7 Fz.nd rfl (zb4 rfl) (Ab (Cp (Ai (Cn rfl).toXCall (M5 T) (hr.mono (by decide)) rfl (A1 (Ah (B9 hr 16 (by decide)) (A2 2 (pv 2)) A3) (A1 (Gy (A2 5 (pv 5)) A3) A4)) rfl)))) (A5 (Bg (Hx (c:=true) (B9 hr 16 (by decide)) (Ab (Cp (Ai (Cn rfl).toXCall (Ij T) (hr.mono (by decide)) rfl (A1 (A2 6 (pv 6)) (A1 (Ah (B9 hr 16 (by decide)) (AD (A1 (A2 3 (pv 3)) (A1 (A2 7 (pv 7)) (A1 Ck A4)))) (Bm (A2 5 (pv 5)) A3)) A4)) rfl))) (Ab (Ec (NB:=["_law_k"]) [none] rfl (Dm (c:=true) rfl T.D9 A3) rfl rfl (BC 0 (by decide) rfl rfl rfl) (λ _ _ _ _=>Ea) (λ _ _ _ _=>(Pd (B9 hr 16 (by decide)) (A2 0 (pv 0)) A3))))) (A7 (Nd (Li C0))) AN) (A5 (Bg (DW.dt (Hy (Hx (c:=true) (B9 hr 16 (by decide)) (Ab (Cp (Ai (Cn rfl).toXCall (Ij T) (hr.mono (by decide)) rfl (A1 (A2 2 (pv 2)) (A1 (A2 7 (pv 7)) A4)) rfl))) (Ab (Ec (NB:=["_law_k"]) [none] rfl (Dm (c:=true) rfl T.D9 A3) rfl rfl (BC 0 (by decide) rfl rfl rfl) (λ _ _ _ _=>Ea) (λ _ _ _ _=>(Pd (B9 hr 16 (by decide)) (A2 0 (pv 0)) A3))))) (Fo (Hx (c:=true) (B9 hr 16 (by decide)) (Ab (Cp (Ai (Cn rfl).toXCall (Ij T) (hr.mono (by decide)) rfl (A1 (A2 2 (pv 2)) (A1 (A2 3 (pv 3)) A4)) rfl))) (AD A4))))) (A7 (Nd (Li C0))) AN) (A5 (Bg (Dk (C8 (c:=true) (Ab (Cp (Ai (Cn rfl).toXCall (OO T) (hr.mono (by decide)) rfl (A1 (A2 4 (pv 4)) (A1 (Ah (B9 hr 16 (by decide)) (A2 2 (pv 2)) A3) (A1 (A2 5 (pv 5)) A4))) rfl))))) (A7 (Nd (Li C0))) AN) (A7 (Dn PassesOwn.never rfl (Bn (Ab (BO (Ab (Cp (S1 (k:=1) [("Ladder",BF)] (Cn rfl).toXCall (DH (by decide) (Ic T) Fe) (hr.mono (by decide)) (A2 4 (pv 4))))) CB (C4 A3)))) (TC (n:=2) rfl (FK (BB 8 Fz.nd rfl (zb4 rfl)) (FK (BB 9 Fz.nd rfl (zb4 rfl)) Qt))) (A7 (Bg (Hx (c:=true) (B9 hr 16 (by decide)) (Ab (Cp (Ai (Cn rfl).toXCall (KS T) (hr.mono (by decide)) rfl (A1 (A2 4 (pv 4)) (A1 (A2 8 (pv 8)) (A1 (A2 9 (pv 9)) (A1 (Bm (A2 5 (pv 5)) A3) A4)))) rfl))) (AD A4)) (A7 (Nd (Li C0))) AN)))))))))) (A7 (Nd (Li C0))))))))),?_⟩;intro ns dJ g8;have e0:AI ["_law_script","_law_cells","_law_land","_law_order_here","_law_ladder","_law_cell","_law_bad","_law_odd","_law_u","_law_w"] [.lst (ns.map D.int)]=[some (.val (.lst (ns.map D.int))),none,none,none,none,none,none,none,none,none]:=rfl;rw[e0];refine uK ?_;obtain⟨T,jk,hT⟩:∃T:Int,0<T/\Qp (.int 10) (.int 60)=.ok (.int T):=⟨10^60,by decide,rfl⟩;have s1:T8 none (some 17) (.lst (ns.map D.int))=.ok (.lst (((ns.take 17).map D.int).map .sh)):=by rw[List.map_take];exact HG _ 17
 have hl1:((ns.take 17).map D.int).length<=1000:=by rw[za5,zcd];omega
 obtain⟨m,rs,cD,cm,di,AE,hF⟩:=Uy ((ns.take 17).map λ c=>c%T) (by rw[za5,zcd];omega) (λ c hc=>by obtain⟨x,_,rfl⟩:=zay.mp hc;exact zbx _ (by omega));apply wp_step
 ·simp_arith[s1,if_pos hl1];rw[CH (λ c=>D.int (c%T)) (λ c hc=>⟨_,rfl,rfl,by simp_arith[hT,B8 jk]⟩)];simp_arith[];rfl
 have e1:((ns.take 17).map λ c=>D.int (c%T))=((ns.take 17).map λ c=>c%T).map D.int:=by rw[zbz];rfl
 rw[e1];apply wp_step
 ·simp_arith[hF];rfl
 have n0:Bi (Ae m rs) (.int 0)=.ok (.int m):=rfl;obtain⟨L,hL,hFo⟩:=R8 m ((ns.take 17).map λ c=>c%T).sum (by omega);have eU:m<=16:=by omega
 have gn:rs.length<=60:=by omega
 obtain⟨A,K,ok,t,hI,hE⟩:=BY.1 m rs (.lst (L.map D.int)) L cD eU gn AE hL (.inl rfl);have g1:Q9 (B0 (.ins "Ladder" [] []) [Ae m rs,.lst (L.map D.int)])=.ok t:=by rw[hI];rfl
 have hA:=ok.uR;apply wp_step
 ·simp_arith[n0,hFo];rfl
 try simp only[zaw,zam]
 refine wp_step (ρ':=[some (.val (.lst (ns.map D.int))),some (.val (.lst (((ns.take 17).map λ c=>c%T).map D.int))),some (.val (Ae m rs)),some (.val (.lst (L.map D.int))),some (.val (Ao m rs L A K)),none,none,none,none,none]) (by simp_arith[g1,hE];try rfl) ?_;have ub:T8 none (some 12) (.lst (((ns.take 17).map λ c=>c%T).map D.int))=.ok (.lst (((((ns.take 17).map λ c=>c%T).take 12).map D.int).map .sh)):=by
  have:=HG (((ns.take 17).map λ c=>c%T).map D.int) 12;rw[<-List.map_take] at this;exact this
 have pp:Mb (.lst [.int 0,.int 1,.int 2]) (.lst ((((ns.take 17).map λ c=>c%T).take 12).map D.int))=.ok (.lst ((([0,1,2]++((ns.take 17).map λ c=>c%T).take 12).map D.int).map .sh)):=by
  rw[Ff (by rw[za5,zcd];show 3+_<=1000;omega),zbm];rfl
 have l8:∀c∈[0,1,2]++((ns.take 17).map λ c=>c%T).take 12,(0:Int)<=c:=λ c hc=>by
  rcases zar.mp hc with h|h
  ·simp only[za9,List.not_mem_nil,or_false] at h;omega
  ·obtain⟨x,_,rfl⟩:=zay.mp (zbq h);exact zbx _ (by omega)
 have gl:RE (.int 11)=.ok (C7 0 11):=Hz (n:=11) (by omega);have gm:((zav 11).map λ i:Nat=>D.int (i:Int)).length<=1000:=by decide
 have ek:∀(k i:Nat),decide ((i:Int)=(k:Int))=decide (i=k):=λ k i=>by
  by_cases h:i=k
  ·rw[decide_eq_true h,decide_eq_true (by omega)]
  ·rw[decide_eq_false h,decide_eq_false (by omega)]
 have ek0:=ek 0;have ek1:=ek 1;have ne0:=Nk (ZH 0);have ne1:=Nk (ZH 1);have xr:Xs 16 (.lst []) (.lst [])=.ok (.bl false):=rfl;have md1:=Ik.1 m rs (.lst (L.map D.int)) L cD eU gn AE hL rfl;have w3:∀x:Int,F7 (.int x) (.int 3)=.ok (.int (x%3)):=λ x=>B8 (by decide);have d3:∀x:Int,K8 (.int x) (.int 3)=.ok (.int (x / 3)):=λ x=>ED ⟨by decide,by decide⟩;have d63:∀x:Int,K8 (.int x) (.int 63)=.ok (.int (x / 63)):=λ x=>ED ⟨by decide,by decide⟩;have s1:F8 [("Ladder",BF)] "arcs" (Ao m rs L A K)=.ok BF:=rfl;have j4:=Ie m rs L A K hA (by omega);have rb:T8 none (some 3) (.lst ((kM A).map pD))=.ok (.lst ((((kM A).take 3).map pD).map .sh)):=by rw[List.map_take];exact HG _ 3
 refine By (I:=λ ρ=>∃s5 s6 s7 s8 s9:Option D,ρ=[some (.val (.lst (ns.map D.int))),some (.val (.lst (((ns.take 17).map λ c=>c%T).map D.int))),some (.val (Ae m rs)),some (.val (.lst (L.map D.int))),some (.val (Ao m rs L A K)),vO s5,vO s6,vO s7,vO s8,vO s9]) ?_ ?_
 ·simp_arith[ub,pp];refine Dr (λ i ρ=>∃s5 s6 s7 s8 s9:Option D,ρ=[some (.val (.lst (ns.map D.int))),some (.val (.lst (((ns.take 17).map λ c=>c%T).map D.int))),some (.val (Ae m rs)),some (.val (.lst (L.map D.int))),some (.val (Ao m rs L A K)),vO s5,vO s6,vO s7,vO s8,vO s9]) ⟨none,none,none,none,none,rfl⟩ ?_ ?_
  ·rintro i d ρ hd ⟨s5,s6,s7,s8,s9,rfl⟩;obtain⟨c,hc,rfl⟩:=Cb hd;have j0:=l8 c (zag hc);obtain⟨dm,hdm,dD⟩:=Oh m rs (c / 3) cD eU gn (by omega);obtain⟨dz,hdo,uc⟩:=M6 m (c / 63) cD eU;obtain⟨o,ho⟩:∃o,Bi (.lst [.lst (L.map D.int),dz,.AK]) (.int (c%3))=.ok o:=by
    have h3:c%3=0\/c%3=1\/c%3=2:=by omega
    rcases h3 with h|h|h<;>rw[h]
    ·exact⟨_,rfl⟩
    ·exact⟨_,rfl⟩
    ·exact⟨_,rfl⟩
   have md2:=Ik.2.1 dm o dD.1 dD.2;have md3:=Ik.2.2 m rs dz cD eU gn AE uc.1 uc.2.1 uc.2.2;have hna:=OP m rs L A K c ok (by omega);refine⟨_,rfl,?_⟩;refine wp_step (ρ':=[some (.val (.lst (ns.map D.int))),some (.val (.lst (((ns.take 17).map λ c=>c%T).map D.int))),some (.val (Ae m rs)),some (.val (.lst (L.map D.int))),some (.val (Ao m rs L A K)),some (.val (.int c)),some (.val dm),vO s7,vO s8,vO s9]) (by simp_arith[d3,hdm];try rfl) ?_;refine wp_step (ρ':=[some (.val (.lst (ns.map D.int))),some (.val (.lst (((ns.take 17).map λ c=>c%T).map D.int))),some (.val (Ae m rs)),some (.val (.lst (L.map D.int))),some (.val (Ao m rs L A K)),some (.val (.int c)),some (.val dm),some (.val dz),vO s8,vO s9]) (by simp_arith[n0,d63,hdo];try rfl) ?_;refine wp_step (ρ':=[some (.val (.lst (ns.map D.int))),some (.val (.lst (((ns.take 17).map λ c=>c%T).map D.int))),some (.val (Ae m rs)),some (.val (.lst (L.map D.int))),some (.val (Ao m rs L A K)),some (.val (.int c)),some (.val dm),some (.val dz),vO s8,vO s9]) (by
    simp_arith[w3,ho,md2,gl,EL,if_pos gm];rw[CH (λ i:Nat=>D.bl (decide (i=0))) (λ i hi=>⟨_,rfl,rfl,by
     have e:=ek0 i;simp_arith[];exact congrArg (λ b=>M.ok (D.bl b)) e⟩)]
    have e:((zav 11).map λ i:Nat=>D.bl (decide (i=0)))=mk 0:=rfl;simp_arith[e,ne0];try rfl) ?_
   refine wp_step (ρ':=[some (.val (.lst (ns.map D.int))),some (.val (.lst (((ns.take 17).map λ c=>c%T).map D.int))),some (.val (Ae m rs)),some (.val (.lst (L.map D.int))),some (.val (Ao m rs L A K)),some (.val (.int c)),some (.val dm),some (.val dz),vO s8,vO s9]) (by
    simp_arith[md3,gl,EL,if_pos gm];rw[CH (λ i:Nat=>D.bl (decide (i=1))) (λ i hi=>⟨_,rfl,rfl,by
     have e:=ek1 i;simp_arith[];exact congrArg (λ b=>M.ok (D.bl b)) e⟩)]
    have e:((zav 11).map λ i:Nat=>D.bl (decide (i=1)))=mk 1:=rfl;have e2:er (.lst [])=.lst []:=rfl;simp_arith[e,ne1,md1,e2,xr];try rfl) ?_
   refine wp_step (ρ':=[some (.val (.lst (ns.map D.int))),some (.val (.lst (((ns.take 17).map λ c=>c%T).map D.int))),some (.val (Ae m rs)),some (.val (.lst (L.map D.int))),some (.val (Ao m rs L A K)),some (.val (.int c)),some (.val dm),some (.val dz),vO s8,vO s9]) (by simp_arith[n0,hna,D2];try rfl) ?_;simp_arith[s1,j4,rb];refine Dr (λ i ρ=>∃s5 s6 s7 s8 s9:Option D,ρ=[some (.val (.lst (ns.map D.int))),some (.val (.lst (((ns.take 17).map λ c=>c%T).map D.int))),some (.val (Ae m rs)),some (.val (.lst (L.map D.int))),some (.val (Ao m rs L A K)),vO s5,vO s6,vO s7,vO s8,vO s9]/\s5=some (.int c)) ⟨some (.int c),some dm,some dz,s8,s9,rfl,rfl⟩ ?_ ?_
   ·rintro i d ρ hd ⟨s5,s6,s7,s8,s9,rfl,rfl⟩;obtain⟨p,hp,rfl⟩:=Cb hd;have hpA:=QO.mp (zbq (zag hp));have eQ:=Hc.1 m rs L A K p.1 p.2 (c%3) ok (by omega) hpA;have e2:er (.lst [])=.lst []:=rfl;refine⟨[some (.val (.lst (ns.map D.int))),some (.val (.lst (((ns.take 17).map λ c=>c%T).map D.int))),some (.val (Ae m rs)),some (.val (.lst (L.map D.int))),some (.val (Ao m rs L A K)),some (.val (.int c)),vO s6,vO s7,some (.val (.int p.1)),some (.val (.int p.2))],rfl,?_⟩;exact C9 (ρ':=[some (.val (.lst (ns.map D.int))),some (.val (.lst (((ns.take 17).map λ c=>c%T).map D.int))),some (.val (Ae m rs)),some (.val (.lst (L.map D.int))),some (.val (Ao m rs L A K)),vO (some (.int c)),vO s6,vO s7,vO (some (.int p.1)),vO (some (.int p.2))]) (by simp_arith[w3,eQ,e2,xr];try rfl) ⟨_,_,_,_,_,rfl,rfl⟩
   ·rintro ρ ⟨s5,s6,s7,s8,s9,rfl,_⟩;exact⟨s5,s6,s7,s8,s9,rfl⟩
  ·rintro ρ ⟨s5,s6,s7,s8,s9,rfl⟩;exact⟨s5,s6,s7,s8,s9,rfl⟩
 ·rintro ρ ⟨s5,s6,s7,s8,s9,rfl⟩;rfl
noncomputable def ZV:List D->M D:=zab Uz
theorem qX {P w K mg base f fd}:Txt K mg->Xq K "law" "law" Hi f fd->E8 P w K mg base gF 9 f fd ["_law_script"] (TH K 1 ZV):=(za2 Uz).1
theorem qY:∀ns:List Int,ns.length<=63->(∀n∈ns,Sm n)->ZV [.lst (ns.map D.int)]=.ok (.bl true):=(za2 Uz).2
theorem all_mk {l:PySem.W.OpenLaw}{w:World}{K:za0}{h:Heap}{mg:Str->Option Value}{fa:Addr}(X:K.In h)(G:h.Ns mainGlobals mg)(hfa:mg "law" = some (.ref fa))
 {ah:Addr} {om:Addr} {ue jl:Option Addr} {uf:Array (Option Value)} {ug jm jn jo gp jp:Value} {gq:Addr} {to23:Value} {uh:Option Addr} {ui:Nat} {uj:Array (Option Value)} {uk:Addr} {ul mx:Option Addr} {um:Array (Option Value)} {uo my mz m8 jq m9:Value} {az:Addr} {af:Addr} {cn:Addr} {bV:Addr} {ag:Addr} {ac:Addr} {ce:Addr} {cq:Addr} {cE:Addr} {cr:Addr} {cF:Addr}
 (av:za1 K mainGlobals "Ladder" = some (some (.ref ah))) (c0:zdf K ah Str.empty=true) (c3:zbf K ah=true) (c4:PySem.W.plainOver K ah=true) (c5:za6 K (.ref ah) "__setattr__" = some (some (.builtin "object.__setattr__"))) (c6:PySem.W.makesIn K ah=true) (c7:zb6 K (.ref ah)=true)
 (p1:FP K "is_whole_below" Dx)
 (p2:FP K "is_measure" GJ)
 (p3:FP K "is_road" LS)
 (p4:FP K "is_map" O1)
 (p5:FP K "checked" LV)
 (p6:FP K "added" QQ)
 (p7:FP K "least" QR)
 (p8:FP K "road_cost" HM)
 (p9:FP K "cost_so_far" Fu)
 (uq:FP K "lay" ZK)
 (ur:FP K "lay_over" JF)
 (ut:FP K "laid_arcs" HN)
 (uu:FP K "is_order" JG)
 (uv:FP K "checked_order" DR)
 (uw:FP K "first_bows" GL)
 (ux:FP K "missing_bows" EV)
 (uz:FP K "lightest" JH)
 (u3:FP K "ranked" O3)
 (u4:FP K "costs_from" GN)
 (u5:FP K "order_or_ranked" D7)
 (u6:FP K "kept_arcs" HP)
 (u7:FP K "road_under" GO)
 (u8:MP K ah "arcs" "Ladder.arcs" Fw)
 (u9:MP K ah "checked_arc" "Ladder.checked_arc" Cc)
 (va:MP K ah "cost" "Ladder.cost" Fx)
 (vb:MP K ah "middle" "Ladder.middle" DU)
 (vc:MP K ah "unpacked" "Ladder.unpacked" D8)
 (vd:FP K "_law_mixed" HQ)
 (ve:FP K "_law_road" JK)
 (vg:FP K "_law_map" LY)
 (vh:FP K "_law_order" HR)
 (vi:FP K "_law_marks" HS)
 (vj:FP K "_law_made" JL)
 (vk:FP K "_law_asked" HU)
 (vm:FP K "_law_bad_map" Fy)
 (vn:FP K "_law_bad_order" DV)
 (vo:FP K "_law_thing" HV)
 (vp:FP K "_law_no_arc" GS)
 (vq:za6 K (.ref ah) "__init__" = some (some (.ref om))) (vt:zdg K (.ref om)=true)
 (vw:K.lookup om=some ⟨ug,ue,.func (zb8 "__init__" "Ladder.__init__" (B2 Av) (AM Av) (A6 Av) (.ref gq) jm jn jo jl gp jp),uf⟩) (vx:zbn K gp "Ladder.__init__" = true) (vy:zb6 K (.ref om)=true)
 (gu:K.lookup gq=some ⟨to23,uh,.seq #[.none] ui,uj⟩)
 (on:za1 K mainGlobals "law" = some (some (.ref uk)))
 (vz:K.lookup uk=some ⟨uo,ul,.func (zb8 "law" "law" (B2 Hi) (AM Hi) (A6 Hi) .none my mz m8 mx jq m9),um⟩) (v3:zbn K jq "law" = true) (v4:zb6 K (.ref uk)=true)
 (z1:za1 K mainGlobals "ValueError" = some none)
 (z2:za1 K mainGlobals "all" = some none)
 (z3:za1 K mainGlobals "bool" = some none)
 (z4:za1 K mainGlobals "enumerate" = some none)
 (z5:za1 K mainGlobals "int" = some none)
 (z6:za1 K mainGlobals "isinstance" = some none)
 (z7:za1 K mainGlobals "len" = some none)
 (z8:za1 K mainGlobals "list" = some none)
 (z9:za1 K mainGlobals "min" = some none)
 (v5:za1 K mainGlobals "range" = some none)
 (v6:za1 K mainGlobals "sorted" = some none)
 (v7:za1 K mainGlobals "sum" = some none)
 (v8:za1 K mainGlobals "tuple" = some none)
 (bK:za1 K mainGlobals "LadderError" = some (some (.ref az)))
 (ax:za1 K mainGlobals "NoArc" = some (some (.ref af)))
 (cJ:za1 K mainGlobals "NoDeed" = some (some (.ref cn)))
 (cj:za1 K mainGlobals "NoLength" = some (some (.ref bV)))
 (ay:za1 K mainGlobals "NoMap" = some (some (.ref ag)))
 (ae:za1 K mainGlobals "NoOrder" = some (some (.ref ac)))
 (c8:za1 K mainGlobals "NoPlace" = some (some (.ref ce)))
 (cL:za1 K mainGlobals "NoRoad" = some (some (.ref cq)))
 (cX:za1 K mainGlobals "NoRow" = some (some (.ref cE)))
 (cM:za1 K mainGlobals "NoText" = some (some (.ref cr)))
 (cY:za1 K mainGlobals "NoWay" = some (some (.ref cF)))
 (cZ:zcn K af [.type "ValueError",.type "Exception",.type "BaseException",.type "object"] "ValueError.__new__" = true)
 (db:zcn K ag [.type "ValueError",.type "Exception",.type "BaseException",.type "object"] "ValueError.__new__" = true)
 (c9:zcn K ac [.type "ValueError",.type "Exception",.type "BaseException",.type "object"] "ValueError.__new__" = true)
 (aP:PySem.W.instIn K (.ref az) (.type "tuple")=some false) (aQ:zbf K az=true) (aR:zb5 K az (.type "BaseException")=some true)
 (aS:zb5 K af (.ref az)=some true)
 (aM:zb5 K ac (.ref az)=some true)
 (aT:zb5 K ag (.ref az)=some true)
 (a5:za6 K (.ref ag) "__getattribute__" = some (some (.builtin "BaseException.__getattribute__"))) (a6:za6 K (.ref ag) "__getattr__" = some none) (a7:zb5 K ag (.type "BaseException")=some true) (a8:zbf K ag=true) (a9:za6 K (.ref ag) "__class__" = some (some (.builtin "object.__class__"))) (aA:zcu K (.builtin "object.__class__") "__get__" = some (some (.builtin "getset_descriptor.__get__"))) (aB:zd8 K (.builtin "object.__class__")=some true) (aD:zb5 K ag (.type "object")=some true)
 (ai:za6 K (.ref ac) "__getattribute__" = some (some (.builtin "BaseException.__getattribute__"))) (aj:za6 K (.ref ac) "__getattr__" = some none) (ak:zb5 K ac (.type "BaseException")=some true) (al:zbf K ac=true) (am:za6 K (.ref ac) "__class__" = some (some (.builtin "object.__class__"))) (ao:zcu K (.builtin "object.__class__") "__get__" = some (some (.builtin "getset_descriptor.__get__"))) (ap:zd8 K (.builtin "object.__class__")=some true) (aq:zb5 K ac (.type "object")=some true)
 (aE:za6 K (.ref af) "__getattribute__" = some (some (.builtin "BaseException.__getattribute__"))) (aF:za6 K (.ref af) "__getattr__" = some none) (aG:zb5 K af (.type "BaseException")=some true) (aH:zbf K af=true) (aI:za6 K (.ref af) "__class__" = some (some (.builtin "object.__class__"))) (aJ:zcu K (.builtin "object.__class__") "__get__" = some (some (.builtin "getset_descriptor.__get__"))) (aK:zd8 K (.builtin "object.__class__")=some true) (aL:zb5 K af (.type "object")=some true)
 (bL:za7 K (.ref af) (.ref af)=some true)
 (bt:za7 K (.ref ac) (.ref af)=some false)
 (bM:za7 K (.ref ag) (.ref af)=some false)
 (bC:za7 K (.ref af) (.ref cn)=some false)
 (bn:za7 K (.ref ac) (.ref cn)=some false)
 (bD:za7 K (.ref ag) (.ref cn)=some false)
 (bo:za7 K (.ref af) (.ref bV)=some false)
 (ba:za7 K (.ref ac) (.ref bV)=some false)
 (bp:za7 K (.ref ag) (.ref bV)=some false)
 (bN:za7 K (.ref af) (.ref ag)=some false)
 (bu:za7 K (.ref ac) (.ref ag)=some false)
 (bO:za7 K (.ref ag) (.ref ag)=some true)
 (bv:za7 K (.ref af) (.ref ac)=some false)
 (bf:za7 K (.ref ac) (.ref ac)=some true)
 (bw:za7 K (.ref ag) (.ref ac)=some false)
 (bz:za7 K (.ref af) (.ref ce)=some false)
 (bg:za7 K (.ref ac) (.ref ce)=some false)
 (b7:za7 K (.ref ag) (.ref ce)=some false)
 (bE:za7 K (.ref af) (.ref cq)=some false)
 (bq:za7 K (.ref ac) (.ref cq)=some false)
 (bF:za7 K (.ref ag) (.ref cq)=some false)
 (bP:za7 K (.ref af) (.ref cE)=some false)
 (b8:za7 K (.ref ac) (.ref cE)=some false)
 (bQ:za7 K (.ref ag) (.ref cE)=some false)
 (bG:za7 K (.ref af) (.ref cr)=some false)
 (br:za7 K (.ref ac) (.ref cr)=some false)
 (bH:za7 K (.ref ag) (.ref cr)=some false)
 (bR:za7 K (.ref af) (.ref cF)=some false)
 (b9:za7 K (.ref ac) (.ref cF)=some false)
 (bS:za7 K (.ref ag) (.ref cF)=some false)
 (bc:za7 K (.ref af) (.type "ValueError")=some true)
 (aU:za7 K (.ref ac) (.type "ValueError")=some true)
 (bd:za7 K (.ref ag) (.type "ValueError")=some true)
 (aW:za6 K (.ref ah) "kept_ones" = some none)
 (bI:za6 K (.ref ah) "laid" = some none)
 (bh:za6 K (.ref ah) "own_map" = some none)
 (aX:za6 K (.ref ah) "own_order" = some none):
 ∃fd:FuncData,(∀(s:Shared) (v:Value),BindsTo s fd ⟨[v],[]⟩ [("_law_script",v)])/\∀base:Heap,K.In base->base.Ns mainGlobals mg->E8 l.prog w K mg base gF 9 fa fd ["_law_script"] (TH K 1 ZV):=by
 have e:=hfa.symm.trans (zbk X G on);cases e;have aN:VS K ah:=⟨c0,c3,c4,c5⟩;have F23:=jP (st:=Av) vw vx vy;have B23:Binds K (zb8 "__init__" "Ladder.__init__" (B2 Av) (AM Av) (A6 Av) (.ref gq) jm jn jo jl gp jp) ["self","net","order"] []:=λ s us hK hl=>by
  have cA:us.length=3:=by simpa using hl
  rcases us with _|⟨_,_|⟨_,_|⟨_,_|⟨_,us⟩⟩⟩⟩<;>first|exact PySem.W.binds_K hK rfl gu rfl rfl rfl|(simp at cA)
 have D23:Binds K (zb8 "__init__" "Ladder.__init__" (B2 Av) (AM Av) (A6 Av) (.ref gq) jm jn jo jl gp jp) ["self","net","order"] [.none]:=λ s us hK hl=>by
  have cA:us.length=2:=by simpa using hl
  rcases us with _|⟨_,_|⟨_,_|⟨_,_|⟨_,us⟩⟩⟩⟩<;>first|exact PySem.W.binds_K hK rfl gu rfl rfl rfl|(simp at cA)
 have T23:U0 K mg "Ladder" "Ladder.__init__" Av ["self","net","order"]:=⟨_,_,_,⟨av,zbk X G av⟩,⟨c6,vq,vt,c7⟩,F23,B23,D23⟩;have v9:=Tw (st:=Hi) vz v3 v4;have T40:B6 K mg "law" Hi ["_law_script"]:=⟨_,_,v9,zbk X G on,v9.binds (λ _ _ _ _ _ _=>vR λ _=>rfl)⟩;have T:Txt K mg:=⟨Bk X G p1,Bk X G p2,Bk X G p3,Bk X G p4,Bk X G p5,Bk X G p6,Bk X G p7,Bk X G p8,Bk X G p9,Bk X G uq,Bk X G ur,Bk X G ut,Bk X G uu,Bk X G uv,Bk X G uw,Bk X G ux,Bk X G uz,Bk X G u3,Bk X G u4,Bk X G u5,Bk X G u6,Bk X G u7,T23,S4 av aN u8,S4 av aN u9,S4 av aN va,S4 av aN vb,S4 av aN vc,Bk X G vd,Bk X G ve,Bk X G vg,Bk X G vh,Bk X G vi,Bk X G vj,Bk X G vk,Bk X G vm,Bk X G vn,Bk X G vo,Bk X G vp,T40,zbh X G z1,zbh X G z2,zbh X G z3,zbh X G z4,zbh X G z5,zbh X G z6,zbh X G z7,zbh X G z8,zbh X G z9,zbh X G v5,zbh X G v6,zbh X G v7,zbh X G v8,⟨_,ax,zbk X G ax,cZ⟩,⟨_,ay,zbk X G ay,db⟩,⟨_,ae,zbk X G ae,c9⟩,⟨_,zbk X G bK,(Ap ⟨_,ay,Nj aP aQ aR aT⟩ (Ap ⟨_,ae,Nj aP aQ aR aM⟩ (Ap ⟨_,ax,Nj aP aQ aR aS⟩ CD)))⟩,⟨_,zbk X G ax,(Ap ⟨_,ay,bM,AH a5 a6 a8 a9 aA aB aD a7⟩ (Ap ⟨_,ae,bt,AH ai aj al am ao ap aq ak⟩ (Ap ⟨_,ax,bL,AH aE aF aH aI aJ aK aL aG⟩ CD)))⟩,⟨_,zbk X G cJ,(Ap ⟨_,ay,bD,AH a5 a6 a8 a9 aA aB aD a7⟩ (Ap ⟨_,ae,bn,AH ai aj al am ao ap aq ak⟩ (Ap ⟨_,ax,bC,AH aE aF aH aI aJ aK aL aG⟩ CD)))⟩,⟨_,zbk X G cj,(Ap ⟨_,ay,bp,AH a5 a6 a8 a9 aA aB aD a7⟩ (Ap ⟨_,ae,ba,AH ai aj al am ao ap aq ak⟩ (Ap ⟨_,ax,bo,AH aE aF aH aI aJ aK aL aG⟩ CD)))⟩,⟨_,zbk X G ay,(Ap ⟨_,ay,bO,AH a5 a6 a8 a9 aA aB aD a7⟩ (Ap ⟨_,ae,bu,AH ai aj al am ao ap aq ak⟩ (Ap ⟨_,ax,bN,AH aE aF aH aI aJ aK aL aG⟩ CD)))⟩,⟨_,zbk X G ae,(Ap ⟨_,ay,bw,AH a5 a6 a8 a9 aA aB aD a7⟩ (Ap ⟨_,ae,bf,AH ai aj al am ao ap aq ak⟩ (Ap ⟨_,ax,bv,AH aE aF aH aI aJ aK aL aG⟩ CD)))⟩,⟨_,zbk X G c8,(Ap ⟨_,ay,b7,AH a5 a6 a8 a9 aA aB aD a7⟩ (Ap ⟨_,ae,bg,AH ai aj al am ao ap aq ak⟩ (Ap ⟨_,ax,bz,AH aE aF aH aI aJ aK aL aG⟩ CD)))⟩,⟨_,zbk X G cL,(Ap ⟨_,ay,bF,AH a5 a6 a8 a9 aA aB aD a7⟩ (Ap ⟨_,ae,bq,AH ai aj al am ao ap aq ak⟩ (Ap ⟨_,ax,bE,AH aE aF aH aI aJ aK aL aG⟩ CD)))⟩,⟨_,zbk X G cX,(Ap ⟨_,ay,bQ,AH a5 a6 a8 a9 aA aB aD a7⟩ (Ap ⟨_,ae,b8,AH ai aj al am ao ap aq ak⟩ (Ap ⟨_,ax,bP,AH aE aF aH aI aJ aK aL aG⟩ CD)))⟩,⟨_,zbk X G cM,(Ap ⟨_,ay,bH,AH a5 a6 a8 a9 aA aB aD a7⟩ (Ap ⟨_,ae,br,AH ai aj al am ao ap aq ak⟩ (Ap ⟨_,ax,bG,AH aE aF aH aI aJ aK aL aG⟩ CD)))⟩,⟨_,zbk X G cY,(Ap ⟨_,ay,bS,AH a5 a6 a8 a9 aA aB aD a7⟩ (Ap ⟨_,ae,b9,AH ai aj al am ao ap aq ak⟩ (Ap ⟨_,ax,bR,AH aE aF aH aI aJ aK aL aG⟩ CD)))⟩,⟨(Ap ⟨_,ay,bd,AH a5 a6 a8 a9 aA aB aD a7⟩ (Ap ⟨_,ae,aU,AH ai aj al am ao ap aq ak⟩ (Ap ⟨_,ax,bc,AH aE aF aH aI aJ aK aL aG⟩ CD)))⟩,⟨_,av,aN,aW⟩,⟨_,av,aN,bI⟩,⟨_,av,aN,bh⟩,⟨_,av,aN,aX⟩⟩;refine⟨zb8 "law" "law" (B2 Hi) (AM Hi) (A6 Hi) .none my mz m8 mx jq m9,λ s v=>.of_eq rfl,λ base _ _=>?_⟩;exact qX T v9
set_option maxHeartbeats 0 in
set_option maxHeartbeats 0 in
set_option maxHeartbeats 0 in
set_option maxHeartbeats 0 in
theorem left (w:World):(PySem.W.openEnds treeTable PySem.Challenge.pw_nodeladder_k34_ladder_refused w 6100).map (λ s=>PySem.W.openSeen (Dg PySem.Challenge.pw_nodeladder_k34_ladder_refused) [] (importedModules PySem.Challenge.pw_nodeladder_k34_ladder_refused.main.body) (λ s=>PySem.W.xlAt (Dg PySem.Challenge.pw_nodeladder_k34_ladder_refused) [] s&&PySem.W.recOk [] s) true s)=some (PySem.W.openGood (Dg PySem.Challenge.pw_nodeladder_k34_ladder_refused) []):=by
 rw[V8,pU,PySem.W.Fast.te4187177175401517315,PySem.W.Fast.te5923862056798008813,PySem.W.Fast.te18047755658444858975];exact QE (rO w) (QE (rP w) (QE (rQ w) (rR w)))
set_option maxHeartbeats 0 in
theorem qZ (w:World):Xz (Kp R0 PySem.Challenge.pw_nodeladder_k34_ladder_refused w) PySem.Challenge.pw_nodeladder_k34_ladder_refused:=by
 rw[pU,PySem.W.Fast.te18047755658444858975];exact fA w
set_option maxHeartbeats 0 in
theorem rA (w:World):XA (Kp R0 PySem.Challenge.pw_nodeladder_k34_ladder_refused w) PySem.Challenge.pw_nodeladder_k34_ladder_refused:=by
 rw[pU,PySem.W.Fast.te18047755658444858975];exact fB w
theorem walk {l:PySem.W.OpenLaw}{q:Program}{loose:List Str}{XP:(Str->Option Value)->Heap->Prop}{YP:World->Heap->Prop}{d:DefRec}{K:World->za0}(hn:l.most=some 63)(jb:d.params.defaults=[])
 (hY:∀(w:World) (h:Heap),YP w h->(K w).In h)
 (F:∀(w:World) (mg:Str->Option Value) (fa:Addr) (h:Heap),(K w).In h->h.Ns mainGlobals mg->mg d.name=some (.ref fa)->
  ∃fd:FuncData,(∀(s:Shared) (u:Value),BindsTo s fd ⟨[u],[]⟩ [("_law_script",u)])/\∀base:Heap,(K w).In base->base.Ns mainGlobals mg->E8 l.prog w (K w) mg base gF 9 fa fd ["_law_script"] (TH (K w) 1 ZV)):
 PySem.W.WalkO q loose XP YP l.row.toRowW d [] (λ f vs=>PySem.call f vs):=
 L2.uN (n:=63) (k:=9) (x := "_law_script") (CX:=λ _=>gF) (sp:=λ w=>TH (K w) 1 ZV) hn (by decide) jb ⟨rfl,by decide,by decide⟩ hY F (λ w H a ns g8 hl _ hS=>iN qY (K w) H a ns g8 hl hS) λ _ _ _ _ _ z=>z
end fc
open PySem PySem.W PyProof.Rows L2
set_option maxRecDepth 100000 in
set_option maxHeartbeats 0 in
theorem PySem.Challenge.cw_nodeladder_k34_ladder_refused_holds : PySem.Challenge.rw_nodeladder_k34_ladder_refused.Holds := by
 w_on;o_law
 refine holds_open (q:=Dg PySem.Challenge.pw_nodeladder_k34_ladder_refused) (loose:=[]) (Xt:=λ s=>xlAt (Dg PySem.Challenge.pw_nodeladder_k34_ladder_refused) [] s&&recOk [] s) (XP:=XL (Dg PySem.Challenge.pw_nodeladder_k34_ladder_refused) []) (Yf:=λ s=>s.heap) (Ya:=λ w=>Xy R0 PySem.Challenge.pw_nodeladder_k34_ladder_refused w 6100) (YP:=λ w h=>uM (Xy R0 PySem.Challenge.pw_nodeladder_k34_ladder_refused w 6100) h) (N:=6100) (jQ fc.left) (λ w s e b o q=>by rw[<-e] at q;exact q) (λ w h h' a b c o q=>b c o (a c o q)) (λ s e=>xl_of s (Bool.and_eq_true_iff.mp e).1) XL.keeps (by rfl) (by rfl) (by rfl) (λ s e=>recFacts_of (Bool.and_eq_true_iff.mp e).2) (by rfl) (by first|assumption|decide +kernel) (by decide +kernel) ⟨rfl,rfl,rfl,rfl,rfl,by decide +kernel⟩ ?hw ?hc;case hw=>w_witness2
 case hc =>
  refine fc.walk (l:=PySem.Challenge.rw_nodeladder_k34_ladder_refused) (K:=fc.Kp R0 PySem.Challenge.pw_nodeladder_k34_ladder_refused) rfl rfl (λ w h Y=>pV Y) ?F;intro w mg fa h KX G jc;obtain⟨av,c0,c3,c4,c5,c6,c7,p1,p2,p3,p4,p5,p6,p7,p8,p9,uq,ur,ut,uu,uv,uw,ux,uz,u3,u4,u5,u6,u7,u8,u9,va,vb,vc,vd,ve,vg,vh,vi,vj,vk,vm,vn,vo,vp,vq,vt,vw,vx,vy,gu,on,vz,v3,v4,z1,z2,z3,z4,z5,z6,z7,z8,z9,v5,v6,v7,v8,bK,ax,cJ,cj,ay,ae,c8⟩:=fc.qZ w;obtain⟨cL,cX,cM,cY,cZ,db,c9,aP,aQ,aR,aS,aM,aT,a5,a6,a7,a8,a9,aA,aB,aD,ai,aj,ak,al,am,ao,ap,aq,aE,aF,aG,aH,aI,aJ,aK,aL,bL,bt,bM,bC,bn,bD,bo,ba,bp,bN,bu,bO,bv,bf,bw,bz,bg,b7,bE,bq,bF,bP,b8,bQ,bG,br,bH,bR,b9,bS,bc,aU,bd,aW,bI,bh,aX⟩:=fc.rA w;exact fc.all_mk KX G jc av c0 c3 c4 c5 c6 c7 p1 p2 p3 p4 p5 p6 p7 p8 p9 uq ur ut uu uv uw ux uz u3 u4 u5 u6 u7 u8 u9 va vb vc vd ve vg vh vi vj vk vm vn vo vp vq vt vw vx vy gu on vz v3 v4 z1 z2 z3 z4 z5 z6 z7 z8 z9 v5 v6 v7 v8 bK ax cJ cj ay ae c8 cL cX cM cY cZ db c9 aP aQ aR aS aM aT a5 a6 a7 a8 a9 aA aB aD ai aj ak al am ao ap aq aE aF aG aH aI aJ aK aL bL bt bM bC bn bD bo ba bp bN bu bO bv bf bw bz bg b7 bE bq bF bP b8 bQ bG br bH bR b9 bS bc aU bd aW bI bh aX
