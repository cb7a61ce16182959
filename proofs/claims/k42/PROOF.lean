import PyProof.Rows.All
import Wide.All
import OpenK.AllK
import Wide.FinOn
import Lean
import PyProof.EqAt
import PyProof.EqKinds
import PyProof.TupleCall
import PyProof.NeKinds
import KE.KRevSl
import KE.KIsAll
import PyProof.ExcArgsOwn
import PyProof.ExcAttrAll.ValueError
import PyProof.ExcBaseAll.ValueError
import PyProof.FitsBits
import KE.LcSums
import KE.KRevIter
import PyProof.ListRange
import PyProof.Rows.SumAny
import PyProof.Rows.SortWalk
import PyProof.AttrMissHeap
import KE.KDictOf
import PyProof.ZipIter
import PyProof.DictWalks
import KE.KDictList
import PySem.Challenge.RW_nodeladder_k42_least_sums
set_option Elab.async false
set_option linter.all false
set_option maxRecDepth 1000000
open PySem.W renaming Frag→zy,nsIn→zE,findIn→zK,keepIn→zah,fnOf→zai,mg_none_of→zar,codeIn→zau,emptyDict→zba,hideAll_get→zbl,excIn→zbn,kia_one→zbs,instObj→zbt,plainGet→zcl,isFn→zcm
open Classical renaming choose_spec→zB,choose→zH,propDecidable→zct
open List renaming length_map→zC,mem_cons_self→zD,mem_cons_of_mem→zF,map_cons→zG,getElem?_eq_getElem→zJ,size_toArray→zL,mem_of_getElem?→zM,mem_append_right→zN,length_cons→zO,set_cons_succ→zP,mem_cons→zQ,replicate→zR,mem_singleton→zS,set_cons_zero→zV,range→zW,getElem?_eq_some_iff→zY,mem_map→za0,getElem?_map→za2,getD_eq_getElem?_getD→za4,mem_append→za5,length_append→za7,nodup_append→za9,getElem?_cons_succ→zaa,getElem?_set_self→zab,foldl_cons→zac,mem_append_left→zae,map_append→zag,append_nil→zal,map_map→zam,getElem?_set_ne→zap,mem_filter→zas,nodup_cons→zav,append_assoc→zaw,length_singleton→zb2,length_set→zb3,getElem?_cons_zero→zb4,nodup_nil→zb5,take_length→zb6,take_add_one→zb7,mem_of_mem_take→zb9,replicate_succ→zbb,filterMap_cons→zbc,mem_range→zbe,getElem?_append_left→zbf,take_append_drop→zbg,length_range→zbm,length_filter_le→zbp,getElem?_eq_none→zbq,drop_eq_getElem_cons→zbr,map_congr_left→zc0,getElem?_replicate→zc1,getElem?_range→zc2,lookup_cons→zc4,length_take→zc5,drop_length→zc6,length_replicate→zcc,find?_cons→zcd,any_cons→zci,all_cons→zcj,getElem?_append_right→zck,mem_or_eq_of_mem_set→zcn,length_drop→zcp,cons_append→zcq,all_eq_true→zcr
open PySem.Heap renaming get?_push_of_some→zI,lt_size→zT,get?_push_size→zZ,get?_update_other→zc8,get?_update_self→zce,SameBut→zcf
open Nat renaming le_refl→zU,ne_of_lt→zX,lt_of_lt_of_le→za3,zero_le→zak,le_trans→zat,le_of_lt→zaz,lt_of_le_of_lt→zc9
open Prod renaming fst→za1,snd→zb1
open Option.some renaming inj→za6
open Bool renaming false_eq_true→za8,and_eq_true→zad,false_ne_true→zaf,eq_iff_iff→zby
open PySem.F renaming plain_min_loop→zaj
open Or renaming inl→zan
open Ne renaming symm→zao
open PySem.Value renaming ref→zaq
open Int renaming toNat_natCast→zax,emod_nonneg→zbh,emod_lt_of_pos→zbi,zero_add→zcg
open PyProof.Rows renaming callWith_type1→zay
open PySem.Builtin.Int renaming intBits→zb0
open PySem.Around renaming under_plainId→zb8
open Option renaming map_some→zbd,isSome_iff_exists→zbu,map_eq_some_iff→zc3
open PySem.W.Fast renaming tw5923862056798008813→zbj,tw4187177175401517315→zbk
open PySem.Calls renaming spliced_cons→zbo,spliced_nil→zbw
open False renaming elim→zbv
open PySem.Builtin.Builtins renaming bindParams→zbx
open PySem.Obj renaming mapSeq→zbz
open True renaming intro→zc7
open PySem.NameKind renaming free→zca
open PySem.Paired renaming length→zcb
open PySem.Builtin.List renaming listTooLong→zch
open PySem renaming mem_of_lookup→zco
open ForInStep renaming yield→zcs
open Array renaming length_toList→zcu
section
set_option maxHeartbeats 0
namespace L2
open PySem PySem.Spec PyProof.Rows PySem.W PySem.Calls
noncomputable def inClass (s:Stmt)(j:Nat):Stmt:=match s with
 | .ClassDef _ _ _ body _ _ _ _ _ _ _=>body.getD j (.Pass ⟨0,0,0,0⟩)
 |_=>.Pass ⟨0,0,0,0⟩
noncomputable def AW (s:Stmt):Arguments:=match s with
 | .FunctionDef _ a _ _ _ _ _ _ _ _=>a
 |_=>{posonlyargs:=[],args:=[],vararg:=none,kwonlyargs:=[],kw_defaults:=[],kwarg:=none,defaults:=[]}
noncomputable def AE (s:Stmt):List Stmt:=match s with
 | .FunctionDef _ _ b _ _ _ _ _ _ _=>b
 |_=>[]
noncomputable def A3 (s:Stmt):Scope:=match s with
 | .FunctionDef _ _ _ _ _ _ sc _ _ _=>sc
 |_=>{kind:=.function,names:=[],isGenerator:=false,isCoroutine:=false}
structure FP (K:zy)(x:Str)(st:Stmt):Prop where
 ex:∃(f:Addr) (oc:Value) (od an:Option Addr) (sl:Array (Option Value)) (kV dc pm cd ct:Value),zE K mainGlobals x=some (some (.ref f))/\K.lookup f=some ⟨oc,od,.func (zai x x (AW st) (AE st) (A3 st) .none kV dc pm an cd ct),sl⟩/\zau K cd x=true/\zah K (.ref f)=true
theorem pH {K:zy}{x:Str}{st:Stmt}{f:Addr}{oc:Value}{od an:Option Addr}{sl:Array (Option Value)}{kV dc pm cd ct:Value}(a:zE K mainGlobals x=some (some (.ref f)))(l:K.lookup f=some ⟨oc,od,.func (zai x x (AW st) (AE st) (A3 st) .none kV dc pm an cd ct),sl⟩)(c:zau K cd x=true)(k:zah K (.ref f)=true):FP K x st:=⟨⟨f,oc,od,an,sl,kV,dc,pm,cd,ct,a,l,c,k⟩⟩
structure MP (K:zy)(C:Addr)(m qual:Str)(st:Stmt):Prop where
 ex:∃(f:Addr) (oc:Value) (od an:Option Addr) (sl:Array (Option Value)) (kV dc pm cd ct:Value),zK K (.ref C) m=some (some (.ref f))/\zcm K (.ref f)=true/\K.lookup f=some ⟨oc,od,.func (zai m qual (AW st) (AE st) (A3 st) .none kV dc pm an cd ct),sl⟩/\zau K cd qual=true/\zah K (.ref f)=true
theorem pI {K:zy}{C:Addr}{m qual:Str}{st:Stmt}{f:Addr}{oc:Value}{od an:Option Addr}{sl:Array (Option Value)}{kV dc pm cd ct:Value}(a:zK K (.ref C) m=some (some (.ref f)))(i:zcm K (.ref f)=true)(l:K.lookup f=some ⟨oc,od,.func (zai m qual (AW st) (AE st) (A3 st) .none kV dc pm an cd ct),sl⟩)(c:zau K cd qual=true)(k:zah K (.ref f)=true):MP K C m qual st:=⟨⟨f,oc,od,an,sl,kV,dc,pm,cd,ct,a,i,l,c,k⟩⟩
noncomputable def D2 (p:Program):Program:={p with main:={p.main with body:=p.main.body.filter λ s=>match s with | .FunctionDef .. =>true | .ClassDef .. =>true | _=>false} }
structure Rn where
 run:(String->Option Builtin)->Program->World->Nat->Option Value->Nat->Shared->Thread->Option Shared
 ns:Heap->Addr->Str->Option Value
 imp:(String->Option Builtin)->Program->World->Nat->Shared->Thread->Option Shared
 xA:Program->Shared->Option Shared
 st:Program->Shared×Thread
 tb:String->Option Builtin
noncomputable def MR (R:Rn)(p:Program)(w:World)(N:Nat):Option Shared:=
 ((R.imp R.tb (opening p) w N (R.st (opening p)).fst (R.st (opening p)).snd).bind (R.xA p)).bind λ s₀ =>
 match s₀.heap.isNs mainGlobals&&s₀.gens.size==0 with
 |true=>(R.run R.tb p w s₀.heap.objs.size (R.ns s₀.heap mainGlobals (Str.ofString "__annotations__")) N s₀ (topStub p)).bind λ s₁ =>
  match staticsOk (importedModules p.main.body) s₀.heap s₁.heap&&namesBound p s₁.heap&&gensDone s₁&&laidKept s₀.heap s₁.heap with
  |true=>some s₁
  |false=>none
 |false=>none
noncomputable def R1:Rn:=⟨PySem.W.Fast.tw14082659384304107361,PySem.W.Fast.tw8920871248978507458,PySem.W.Fast.tw10274390034422433532,PySem.W.Fast.tw14289696077712309145,PySem.W.Fast.tw1435165496053646825,PySem.W.Fast.tw14364793385576792824⟩
noncomputable def Xz (R:Rn)(p:Program)(w:World)(N:Nat):Heap:=match MR R p w N with | some s=>s.heap | none=>⟨#[],default⟩
noncomputable def tH (h:Heap)(as:List Addr):zy:=as.filterMap λ a=>(h.get? a).map λ o=>(a,o)
noncomputable def Ba (v:Option (Option Value)):Addr:=match v with | some (some (.ref f))=>f | _=>0
noncomputable def DD (K:zy)(f:Addr):Obj:=(K.lookup f).getD ⟨.none,none,.plain,#[]⟩
noncomputable def Hv (d:Data)(st:Stmt):FuncData:=match d with | .func fd=>fd | _=>zai Str.empty Str.empty (AW st) [] (A3 st) .none .none .none .none none .none .none
noncomputable def VZ (v:Value):Addr:=match v with | .ref a=>a | _=>0
noncomputable def uA (d:Data):Nat:=match d with | .seq _ n=>n | _=>0
theorem Ar {K:zy}{x:Str}{st:Stmt}(a:zE K mainGlobals x=some (some (.ref (Ba (zE K mainGlobals x)))):=by kernel_rfl)
 (l:K.lookup (Ba (zE K mainGlobals x))=some ⟨(DD K (Ba (zE K mainGlobals x))).cls,(DD K (Ba (zE K mainGlobals x))).dict,.func (zai x x (AW st) (AE st) (A3 st) .none (Hv (DD K (Ba (zE K mainGlobals x))).data st).kwdefaults (Hv (DD K (Ba (zE K mainGlobals x))).data st).doc (Hv (DD K (Ba (zE K mainGlobals x))).data st).pyModule (Hv (DD K (Ba (zE K mainGlobals x))).data st).annotations (Hv (DD K (Ba (zE K mainGlobals x))).data st).code (Hv (DD K (Ba (zE K mainGlobals x))).data st).closureTuple),(DD K (Ba (zE K mainGlobals x))).slots⟩:=by kernel_rfl)
 (c:zau K (Hv (DD K (Ba (zE K mainGlobals x))).data st).code x=true:=by kernel_rfl) (k:zah K (.ref (Ba (zE K mainGlobals x)))=true:=by kernel_rfl):FP K x st:=pH a l c k
theorem Me {K:zy}{C:Addr}{m qual:Str}{st:Stmt}(a:zK K (.ref C) m=some (some (.ref (Ba (zK K (.ref C) m)))):=by kernel_rfl)(i:zcm K (.ref (Ba (zK K (.ref C) m)))=true:=by kernel_rfl)
 (l:K.lookup (Ba (zK K (.ref C) m))=some ⟨(DD K (Ba (zK K (.ref C) m))).cls,(DD K (Ba (zK K (.ref C) m))).dict,.func (zai m qual (AW st) (AE st) (A3 st) .none (Hv (DD K (Ba (zK K (.ref C) m))).data st).kwdefaults (Hv (DD K (Ba (zK K (.ref C) m))).data st).doc (Hv (DD K (Ba (zK K (.ref C) m))).data st).pyModule (Hv (DD K (Ba (zK K (.ref C) m))).data st).annotations (Hv (DD K (Ba (zK K (.ref C) m))).data st).code (Hv (DD K (Ba (zK K (.ref C) m))).data st).closureTuple),(DD K (Ba (zK K (.ref C) m))).slots⟩:=by kernel_rfl)
 (c:zau K (Hv (DD K (Ba (zK K (.ref C) m))).data st).code qual=true:=by kernel_rfl) (k:zah K (.ref (Ba (zK K (.ref C) m)))=true:=by kernel_rfl):MP K C m qual st:=pI a i l c k
end L2
namespace cQ
open PySem L2
theorem prim:(PySem.W.chainsOk PySem.Challenge.pw_nodeladder_k42_least_sums||true)=true:=by k_qdec
theorem pJ (w:World):(MR R1 PySem.W.Fast.tw5351770228327538565 w 6100).map (λ s=>(zbk (D2 PySem.W.Fast.tw5351770228327538565) [] (zbj PySem.W.Fast.tw5351770228327538565.main.body) (λ s=>PySem.W.xlAt (D2 PySem.W.Fast.tw5351770228327538565) [] s&&PySem.W.recOk [] s) true s).1)=some (PySem.W.openGood (D2 PySem.W.Fast.tw5351770228327538565) []).1:=by kernel_rfl
theorem pK (w:World):(MR R1 PySem.W.Fast.tw5351770228327538565 w 6100).map (λ s=>(zbk (D2 PySem.W.Fast.tw5351770228327538565) [] (zbj PySem.W.Fast.tw5351770228327538565.main.body) (λ s=>PySem.W.xlAt (D2 PySem.W.Fast.tw5351770228327538565) [] s&&PySem.W.recOk [] s) true s).2.1)=some (PySem.W.openGood (D2 PySem.W.Fast.tw5351770228327538565) []).2.1:=by kernel_rfl
theorem pL (w:World):(MR R1 PySem.W.Fast.tw5351770228327538565 w 6100).map (λ s=>(zbk (D2 PySem.W.Fast.tw5351770228327538565) [] (zbj PySem.W.Fast.tw5351770228327538565.main.body) (λ s=>PySem.W.xlAt (D2 PySem.W.Fast.tw5351770228327538565) [] s&&PySem.W.recOk [] s) true s).2.2.1)=some (PySem.W.openGood (D2 PySem.W.Fast.tw5351770228327538565) []).2.2.1:=by kernel_rfl
theorem pM (w:World):(MR R1 PySem.W.Fast.tw5351770228327538565 w 6100).map (λ s=>(zbk (D2 PySem.W.Fast.tw5351770228327538565) [] (zbj PySem.W.Fast.tw5351770228327538565.main.body) (λ s=>PySem.W.xlAt (D2 PySem.W.Fast.tw5351770228327538565) [] s&&PySem.W.recOk [] s) true s).2.2.2)=some (PySem.W.openGood (D2 PySem.W.Fast.tw5351770228327538565) []).2.2.2:=by kernel_rfl
noncomputable def topP (p:Program)(i:Nat):Stmt:=p.main.body.getD i (.Pass ⟨0,0,0,0⟩)
noncomputable def Kp (R:Rn)(p:Program)(w:World):zy:=tH (Xz R p w 6100) (zW 430)
def XA (K:zy)(p:Program):Prop:=
 (zE K mainGlobals "Ladder" = some (some (.ref (Ba (zE K mainGlobals "Ladder")))))/\
 (zcl K (Ba (zE K mainGlobals "Ladder")) Str.empty=true)/\
 (PySem.W.hasDictIn K (Ba (zE K mainGlobals "Ladder"))=true)/\
 (PySem.W.plainOver K (Ba (zE K mainGlobals "Ladder"))=true)/\
 (zK K (.ref (Ba (zE K mainGlobals "Ladder"))) "__setattr__" = some (some (.builtin "object.__setattr__")))/\
 (PySem.W.makesIn K (Ba (zE K mainGlobals "Ladder"))=true)/\
 (zah K (.ref (Ba (zE K mainGlobals "Ladder")))=true)/\
 (FP K "is_whole_below" (topP p 7))/\
 (FP K "is_measure" (topP p 8))/\
 (FP K "is_road" (topP p 9))/\
 (FP K "is_map" (topP p 10))/\
 (FP K "checked" (topP p 11))/\
 (FP K "added" (topP p 12))/\
 (FP K "least" (topP p 13))/\
 (FP K "road_cost" (topP p 14))/\
 (FP K "kept_costs" (topP p 16))/\
 (FP K "kept_costs_turned" (topP p 17))/\
 (FP K "climbed" (topP p 18))/\
 (FP K "climbed_from" (topP p 19))/\
 (FP K "climbing_to" (topP p 20))/\
 (FP K "sums_at_tops" (topP p 21))/\
 (FP K "tops" (topP p 22))/\
 (FP K "cost_between" (topP p 24))/\
 (FP K "cost_so_far" (topP p 26))/\
 (FP K "lay" (topP p 27))/\
 (FP K "lay_over" (topP p 28))/\
 (FP K "laid_arcs" (topP p 29))/\
 (FP K "is_order" (topP p 31))/\
 (FP K "checked_order" (topP p 32))/\
 (FP K "first_bows" (topP p 33))/\
 (FP K "missing_bows" (topP p 34))/\
 (FP K "lightest" (topP p 35))/\
 (FP K "ranked" (topP p 36))/\
 (FP K "costs_from" (topP p 38))/\
 (FP K "order_or_ranked" (topP p 40))/\
 (FP K "kept_arcs" (topP p 41))/\
 (MP K (Ba (zE K mainGlobals "Ladder")) "order" "Ladder.order" (inClass (topP p 42) 2))/\
 (MP K (Ba (zE K mainGlobals "Ladder")) "checked_arc" "Ladder.checked_arc" (inClass (topP p 42) 4))/\
 (MP K (Ba (zE K mainGlobals "Ladder")) "cost" "Ladder.cost" (inClass (topP p 42) 5))/\
 (MP K (Ba (zE K mainGlobals "Ladder")) "kept" "Ladder.kept" (inClass (topP p 42) 8))/\
 (FP K "_law_cell_at" (topP p 44))
theorem cR (w:World):XA (Kp R1 PySem.W.Fast.tw5351770228327538565 w) PySem.W.Fast.tw5351770228327538565:=
 ⟨by kernel_rfl,by kernel_rfl,by kernel_rfl,by kernel_rfl,by kernel_rfl,by kernel_rfl,by kernel_rfl,Ar,Ar,Ar,Ar,Ar,Ar,Ar,Ar,Ar,Ar,Ar,Ar,Ar,Ar,Ar,Ar,Ar,Ar,Ar,Ar,Ar,Ar,Ar,Ar,Ar,Ar,Ar,Ar,Ar,Me,Me,Me,Me,Ar⟩
def XB (K:zy)(p:Program):Prop:=
 (FP K "_law_mixed" (topP p 45))/\
 (FP K "_law_road" (topP p 46))/\
 (FP K "_law_map" (topP p 47))/\
 (FP K "_law_order" (topP p 48))/\
 (FP K "_law_plus" (topP p 49))/\
 (FP K "_law_least" (topP p 50))/\
 (FP K "_law_all" (topP p 51))/\
 (FP K "_law_cost" (topP p 52))/\
 (FP K "_law_copy" (topP p 53))/\
 (zK K (.ref (Ba (zE K mainGlobals "Ladder"))) "__init__" = some (some (.ref (Ba (zK K (.ref (Ba (zE K mainGlobals "Ladder"))) "__init__")))))/\
 (zcm K (.ref (Ba (zK K (.ref (Ba (zE K mainGlobals "Ladder"))) "__init__")))=true)/\
 (K.lookup (Ba (zK K (.ref (Ba (zE K mainGlobals "Ladder"))) "__init__"))=some ⟨(DD K (Ba (zK K (.ref (Ba (zE K mainGlobals "Ladder"))) "__init__"))).cls,(DD K (Ba (zK K (.ref (Ba (zE K mainGlobals "Ladder"))) "__init__"))).dict,.func (zai "__init__" "Ladder.__init__" (AW (inClass (topP p 42) 0)) (AE (inClass (topP p 42) 0)) (A3 (inClass (topP p 42) 0)) (.ref (VZ (Hv (DD K (Ba (zK K (.ref (Ba (zE K mainGlobals "Ladder"))) "__init__"))).data (inClass (topP p 42) 0)).defaults)) (Hv (DD K (Ba (zK K (.ref (Ba (zE K mainGlobals "Ladder"))) "__init__"))).data (inClass (topP p 42) 0)).kwdefaults (Hv (DD K (Ba (zK K (.ref (Ba (zE K mainGlobals "Ladder"))) "__init__"))).data (inClass (topP p 42) 0)).doc (Hv (DD K (Ba (zK K (.ref (Ba (zE K mainGlobals "Ladder"))) "__init__"))).data (inClass (topP p 42) 0)).pyModule (Hv (DD K (Ba (zK K (.ref (Ba (zE K mainGlobals "Ladder"))) "__init__"))).data (inClass (topP p 42) 0)).annotations (Hv (DD K (Ba (zK K (.ref (Ba (zE K mainGlobals "Ladder"))) "__init__"))).data (inClass (topP p 42) 0)).code (Hv (DD K (Ba (zK K (.ref (Ba (zE K mainGlobals "Ladder"))) "__init__"))).data (inClass (topP p 42) 0)).closureTuple),(DD K (Ba (zK K (.ref (Ba (zE K mainGlobals "Ladder"))) "__init__"))).slots⟩)/\
 (zau K (Hv (DD K (Ba (zK K (.ref (Ba (zE K mainGlobals "Ladder"))) "__init__"))).data (inClass (topP p 42) 0)).code "Ladder.__init__" = true)/\
 (zah K (.ref (Ba (zK K (.ref (Ba (zE K mainGlobals "Ladder"))) "__init__")))=true)/\
 (K.lookup (VZ (Hv (DD K (Ba (zK K (.ref (Ba (zE K mainGlobals "Ladder"))) "__init__"))).data (inClass (topP p 42) 0)).defaults)=some ⟨(DD K (VZ (Hv (DD K (Ba (zK K (.ref (Ba (zE K mainGlobals "Ladder"))) "__init__"))).data (inClass (topP p 42) 0)).defaults)).cls,(DD K (VZ (Hv (DD K (Ba (zK K (.ref (Ba (zE K mainGlobals "Ladder"))) "__init__"))).data (inClass (topP p 42) 0)).defaults)).dict,.seq #[.none] (uA (DD K (VZ (Hv (DD K (Ba (zK K (.ref (Ba (zE K mainGlobals "Ladder"))) "__init__"))).data (inClass (topP p 42) 0)).defaults)).data),(DD K (VZ (Hv (DD K (Ba (zK K (.ref (Ba (zE K mainGlobals "Ladder"))) "__init__"))).data (inClass (topP p 42) 0)).defaults)).slots⟩)/\
 (zE K mainGlobals "law" = some (some (.ref (Ba (zE K mainGlobals "law")))))/\
 (K.lookup (Ba (zE K mainGlobals "law"))=some ⟨(DD K (Ba (zE K mainGlobals "law"))).cls,(DD K (Ba (zE K mainGlobals "law"))).dict,.func (zai "law" "law" (AW (topP p 54)) (AE (topP p 54)) (A3 (topP p 54)) .none (Hv (DD K (Ba (zE K mainGlobals "law"))).data (topP p 54)).kwdefaults (Hv (DD K (Ba (zE K mainGlobals "law"))).data (topP p 54)).doc (Hv (DD K (Ba (zE K mainGlobals "law"))).data (topP p 54)).pyModule (Hv (DD K (Ba (zE K mainGlobals "law"))).data (topP p 54)).annotations (Hv (DD K (Ba (zE K mainGlobals "law"))).data (topP p 54)).code (Hv (DD K (Ba (zE K mainGlobals "law"))).data (topP p 54)).closureTuple),(DD K (Ba (zE K mainGlobals "law"))).slots⟩)/\
 (zau K (Hv (DD K (Ba (zE K mainGlobals "law"))).data (topP p 54)).code "law" = true)/\
 (zah K (.ref (Ba (zE K mainGlobals "law")))=true)/\
 (zE K mainGlobals "all" = some none)/\
 (zE K mainGlobals "bool" = some none)/\
 (zE K mainGlobals "dict" = some none)/\
 (zE K mainGlobals "enumerate" = some none)/\
 (zE K mainGlobals "int" = some none)/\
 (zE K mainGlobals "isinstance" = some none)/\
 (zE K mainGlobals "len" = some none)/\
 (zE K mainGlobals "list" = some none)/\
 (zE K mainGlobals "min" = some none)/\
 (zE K mainGlobals "range" = some none)/\
 (zE K mainGlobals "sorted" = some none)/\
 (zE K mainGlobals "tuple" = some none)/\
 (zE K mainGlobals "NoArc" = some (some (.ref (Ba (zE K mainGlobals "NoArc")))))/\
 (zE K mainGlobals "NoMap" = some (some (.ref (Ba (zE K mainGlobals "NoMap")))))/\
 (zE K mainGlobals "NoOrder" = some (some (.ref (Ba (zE K mainGlobals "NoOrder")))))/\
 (zbn K (Ba (zE K mainGlobals "NoArc")) [.type "ValueError",.type "Exception",.type "BaseException",.type "object"] "ValueError.__new__" = true)/\
 (zbn K (Ba (zE K mainGlobals "NoMap")) [.type "ValueError",.type "Exception",.type "BaseException",.type "object"] "ValueError.__new__" = true)/\
 (zbn K (Ba (zE K mainGlobals "NoOrder")) [.type "ValueError",.type "Exception",.type "BaseException",.type "object"] "ValueError.__new__" = true)/\
 (zK K (.ref (Ba (zE K mainGlobals "Ladder"))) "kept_ones" = some none)/\
 (zK K (.ref (Ba (zE K mainGlobals "Ladder"))) "laid" = some none)/\
 (zK K (.ref (Ba (zE K mainGlobals "Ladder"))) "own_map" = some none)/\
 (zK K (.ref (Ba (zE K mainGlobals "Ladder"))) "own_order" = some none)
theorem cS (w:World):XB (Kp R1 PySem.W.Fast.tw5351770228327538565 w) PySem.W.Fast.tw5351770228327538565:=
 ⟨Ar,Ar,Ar,Ar,Ar,Ar,Ar,Ar,Ar,by kernel_rfl,by kernel_rfl,by kernel_rfl,by kernel_rfl,by kernel_rfl,by kernel_rfl,by kernel_rfl,by kernel_rfl,by kernel_rfl,by kernel_rfl,by kernel_rfl,by kernel_rfl,by kernel_rfl,by kernel_rfl,by kernel_rfl,by kernel_rfl,by kernel_rfl,by kernel_rfl,by kernel_rfl,by kernel_rfl,by kernel_rfl,by kernel_rfl,by kernel_rfl,by kernel_rfl,by kernel_rfl,by kernel_rfl,by kernel_rfl,by kernel_rfl,by kernel_rfl,by kernel_rfl,by kernel_rfl,by kernel_rfl⟩
end cQ
end
set_option Elab.async false
set_option linter.all false
set_option maxRecDepth 100000
namespace L2
open PySem PySem.Spec PyProof.Rows
noncomputable abbrev Key:=Sum Int Str
noncomputable def MS:Key->Value->Bool
 | .inl k,v=>Value.isInt k v
 | .inr x,v=>Value.isStrOf x v
noncomputable def uB (w:World):Key->Int
 | .inl k=>hashInt k
 | .inr x=>hashStr w x
theorem Bs:∀ {k:Key}{v:Value},MS k v=true->(∃i t,k=Sum.inl i/\v=Value.int i t)\/(∃x t,k=Sum.inr x/\v=Value.str x t)
 | .inl i,v,h=>by
  obtain⟨t,e⟩:=Value.isInt_shape (k:=i) (v:=v) h;exact .inl ⟨i,t,rfl,e⟩
 | .inr x,v,h=>by
  obtain⟨t,e⟩:=Value.isStrOf_shape (x:=x) (v:=v) h;exact .inr ⟨x,t,rfl,e⟩
theorem W0 (i:Int)(t:Tok):MS (.inl i) (.int i t)=true:=by simp[MS,Value.isInt]
theorem W2 (x:Str)(t:Tok):MS (.inr x) (.str x t)=true:=by simp[MS,Value.isStrOf]
theorem kJ (a b:Int):decide ((Sum.inl a:Key)=Sum.inl b)=(a==b):=by
 by_cases e:a=b
 ·subst e;simp
 ·have h:¬ (Sum.inl a:Key)=Sum.inl b:=λ q=>e (Sum.inl.inj q);rw[decide_eq_false h];exact (beq_eq_false_iff_ne.mpr e).symm
theorem kK (a b:Str):decide ((Sum.inr a:Key)=Sum.inr b)=decide (a=b):=by
 by_cases e:a=b
 ·subst e;simp
 ·have h:¬ (Sum.inr a:Key)=Sum.inr b:=λ q=>e (Sum.inr.inj q);rw[decide_eq_false h,decide_eq_false e]
theorem kL (a:Int)(b:Str):decide ((Sum.inl a:Key)=Sum.inr b)=false:=decide_eq_false (λ q=>nomatch q)
theorem kM (a:Str)(b:Int):decide ((Sum.inr a:Key)=Sum.inl b)=false:=decide_eq_false (λ q=>nomatch q)
noncomputable def AL (prog:Program)(w:World):PySem.KeyKind prog w Key where
 is:=MS
 hash:=uB w
 inj:=λ v a b ha hb=>by
  rcases Bs ha with ⟨i,t,rfl,rfl⟩|⟨x,t,rfl,rfl⟩
  ·rcases Bs hb with ⟨j,u,rfl,e⟩|⟨y,u,rfl,e⟩
   ·injection e with e1 _;rw[e1]
   ·exact nomatch e
  ·rcases Bs hb with ⟨j,u,rfl,e⟩|⟨y,u,rfl,e⟩
   ·exact nomatch e
   ·injection e with e1 _;rw[e1]
 byValue:=λ k v h=>by
  rcases Bs h with ⟨i,t,rfl,rfl⟩|⟨x,t,rfl,rfl⟩<;>rfl
 pyHash:=λ hv h=>by
  rcases Bs hv with ⟨i,t,rfl,rfl⟩|⟨x,t,rfl,rfl⟩
  ·exact wpAny_pyHash_int h
  ·exact wpAny_pyHash_str h
 eqBool:=λ hu hv h=>by
  rcases Bs hu with ⟨i,t,rfl,rfl⟩|⟨x,t,rfl,rfl⟩
  ·rcases Bs hv with ⟨j,u,rfl,rfl⟩|⟨y,u,rfl,rfl⟩
   ·rw[kJ] at h;exact wpAny_eqBool_int h
   ·rw[kL] at h;exact SeqAt.EqAt.int_str i t y u _ _ _ _ h
  ·rcases Bs hv with ⟨j,u,rfl,rfl⟩|⟨y,u,rfl,rfl⟩
   ·rw[kM] at h;exact SeqAt.EqAt.str_int x t j u _ _ _ _ h
   ·rw[kK] at h;exact wpAny_eqBool_str h
 «strs»:=λ k x t v h=>by
  rcases Bs h with ⟨i,u,rfl,e⟩|⟨y,u,rfl,e⟩
  ·exact nomatch e
  ·injection e with e1 _
   subst e1;cases v<;>rfl
theorem Rg (prog:Program)(w:World)(i:Int)(t:Tok):(AL prog w).is (.inl i) (.int i t)=true:=W0 i t
theorem Rh (prog:Program)(w:World)(x:Str)(t:Tok):(AL prog w).is (.inr x) (.str x t)=true:=W2 x t
inductive V where
 |AF|bl (b:Bool)|int (i:Int)|str (x:Str)|kN (b:Array UInt8)|pN (b:UInt64)|ref (a:Addr)|ty (n:String)
 deriving DecidableEq
def RelV:V->Value->Prop
 | .AF,u=>u=Value.none
 | .bl b,u=>u=Value.bool b
 | .int i,u=>∃t,u=Value.int i t
 | .str x,u=>∃t,u=Value.str x t
 | .kN b,u=>∃t,u=Value.bytes b t
 | .pN b,u=>∃t,u=Value.float b t
 | .ref a,u=>u=zaq a
 | .ty n,u=>u=Value.type n
noncomputable abbrev Vals:List V->List Value->Prop:=Paired RelV
theorem Vals.length {xs:List V}{us:List Value}(r:Vals xs us):xs.length=us.length:=zcb r
theorem Vals.get:∀ {xs:List V}{us:List Value}{i:Nat}{x:V},Vals xs us->xs[i]?=some x->∃u,us[i]?=some u/\RelV x u
 |_,_,_,_,.nil,e=>by simp at e
 |_,_,0,_,.cons r _,e=>by simp at e;subst e;exact⟨_,rfl,r⟩
 |_,_,i+1,x,.cons _ t,e=>by
  obtain⟨u,h1,h2⟩:=Vals.get (i:=i) (x:=x) t (by simpa using e);exact⟨u,by simpa using h1,h2⟩
theorem Vals.set {x:V}{u:Value}(r:RelV x u):∀ {xs:List V}{us:List Value}(i:Nat),Vals xs us->Vals (xs.set i x) (us.set i u)
 |_,_,_,.nil=>.nil
 |_,_,0,.cons _ t=>.cons r t
 |_,_,i+1,.cons q t=>.cons q (Vals.set r i t)
theorem Vals.append:∀ {xs ys:List V}{us ws:List Value},Vals xs us->Vals ys ws->Vals (xs++ys) (us++ws)
 |_,_,_,_,.nil,s=>s
 |_,_,_,_,.cons r t,s=>.cons r (Vals.append t s)
theorem Vals.take:∀ {xs:List V}{us:List Value}(n:Nat),Vals xs us->Vals (xs.take n) (us.take n)
 |_,_,0,_|_,_,_+1,.nil=>.nil
 |_,_,n+1,.cons r t=>.cons r (Vals.take n t)
theorem Vals.drop:∀ {xs:List V}{us:List Value}(n:Nat),Vals xs us->Vals (xs.drop n) (us.drop n)
 |_,_,0,r=>r
 |_,_,_+1,.nil=>.nil
 |_,_,n+1,.cons _ t=>Vals.drop n t
def Gh:Option V->Option Value->Prop
 |some v,some u=>RelV v u
 |none,none=>True
 |_,_=>False
def KV {κ:Type}:List (κ×V)->List (κ×Value)->Prop:=Paired λ(p:κ×V) (q:κ×Value)=>p.1=q.1/\RelV p.2 q.2
noncomputable def kV:Key->V
 | .inl i=>.int i
 | .inr x=>.str x
inductive HO where
 |lst (xs:List V)
 |tup (xs:List V)
 |dK (kvs:List (Key×V))|dT (kvs:List (List Key×V))
 |set (S:Int->Bool) (n:Nat)
 |ins (C dx:Addr) (fs:List (Str×V))
 |own (x:Addr)
 |xd (fs:List (Str×V))
 |met (f x:Addr)
 |tI (lo hi:Int)
 |Fp (o:Obj) (u:HO)
 |jH (ps:Array Value)
 |ext (φ:Heap->Prop)
noncomputable abbrev Hp:=Addr->Option HO
noncomputable def upd (H:Hp)(a:Addr)(o:HO):Hp:=λ b=>if b=a then some o else H b
theorem Aj {H:Hp}{a:Addr}{o:HO}:upd H a o a=some o:=by unfold upd;rw[if_pos rfl]
theorem Ab {H:Hp}{a b:Addr}{o:HO}(h:b≠a):upd H a o b=H b:=by unfold upd;rw[if_neg h]
theorem pO {H:Hp}{a b:Addr}{o u:HO}(h:H a=some o)(h':H b=some u)(d:o≠u):a≠b:=by
 intro e;subst e;rw[h] at h';exact d (za6 h')
theorem AH {H:Hp}{a b:Addr}{o:HO}(h:H a=some o)(h':H b=none):a≠b:=by
 intro e;subst e;rw[h] at h';cases h'
section
variable (P:Program) (w:World)
def B6 (H:Hp)(h:Heap)(a:Addr):HO->Prop
 | .lst xs=>xs.length<=sizeLine/\∃(aa:List Value) (n:Nat),Vals xs aa/\h.get? a=some {cls:=.type "list",data:=.seq aa.toArray n}
 | .tup xs=>xs.length<=sizeLine/\∃aa:List Value,Vals xs aa/\IsTup h a aa.toArray
 | .dK kvs=>kvs.length<=sizeLine/\(a==sysModules)=false/\∃vs,KV kvs vs/\h.DictOf (AL P w) a vs
 | .dT kvs=>kvs.length<=sizeLine/\(a==sysModules)=false/\∃xs:List (List Key×Addr×Value),
  Paired (λ(p:List Key×V) (q:List Key×Addr×Value)=>p.1=q.1/\H q.2.1=some (.tup (p.1.map kV))/\RelV p.2 q.2.2) kvs xs/\
  ∃o es ep,h.get? a=some o/\o.ExactDict/\o.data=.dict es ep/\es.toList=xs.map (entryOfKey (tupleKind (AL P w)))/\(xs.map (·.1)).Nodup
 | .set S n=>h.SetOf (intKind P w) a S n
 | .ins C dx fs=>H dx=some (.own a)/\fs.length<=1000/\dx≠a/\h.get? a=some (zbt C dx)/\
  ∃mA,h.Ns1 dx mA/\(∀f,Gh (fs.lookup f) (mA f))/\PySem.Within mA (fs.map (·.1))
 | .own _=>∃o,h.get? a=some o
 | .xd fs=>∃mA,h.Ns1 a mA/\∀f,Gh (fs.lookup f) (mA f)
 | .tI lo hi=>∃t u v,h.get? a=some {cls:=.type "range",data:=.fields #[.int lo t,.int hi u,.int 1 v]}
 | .Fp o u=>h.get? a=some o/\B6 H h a u
 | .jH ps=>h.get? a=some {cls:=.none,data:=.fields ps}
 | .met f x=>h.get? a=some (PySem.W.methodObj (.ref f) (.ref x))
 | .ext φ=>φ h/\(∃o,h.get? a=some o)/\∀h1 h2:Heap,φ h1->(∀o,h1.get? a=some o->h2.get? a=some o)->φ h2
def Fc (H:Hp)(h:Heap):Prop:=∀a o,H a=some o->B6 P w H h a o
end
section
variable {P:Program}{w:World}{H H':Hp}{h h':Heap}{a:Addr}{o:HO}
theorem B6.lt (x:B6 P w H h a o):a<h.objs.size:=by
 cases o with
 |lst xs=>obtain⟨_,_,_,_,e⟩:=x;exact zT e
 |tup xs=>obtain⟨_,_,_,p⟩:=x;exact p.lt
 |dK kvs|dT kvs=>obtain⟨_,_,_,_,o,_,_,e,_⟩:=x;exact zT e
 |set S n=>obtain⟨o,_,_,_,e,_⟩:=x;exact zT e
 |ins C dx fs=>obtain⟨_,_,_,e,_⟩:=x;exact zT e
 |own y=>obtain⟨_,e⟩:=x;exact zT e
 |xd fs=>obtain⟨_,⟨_,_,_,e,_⟩,_⟩:=x;exact zT e
 |tI lo hi=>obtain⟨_,_,_,e⟩:=x;exact zT e
 |Fp ob u=>obtain⟨e,_⟩:=x;exact zT e
 |jH ps|met f y=>exact zT (show h.get? a=some _ from x)
 |ext φ=>obtain⟨_,⟨_,e⟩,_⟩:=x;exact zT e
theorem Paired.kO {α β:Type}{F G:α->β->Prop}:∀ {l₁:List α}{l₂:List β},Paired F l₁ l₂->(∀a b,F a b->G a b)->Paired G l₁ l₂
 |_,_,.nil,_=>.nil
 |_,_,.cons r t,f=>.cons (f _ _ r) (Paired.kO t f)
theorem B6.MT (x:B6 P w H h a o)(k:∀b u,(b=a\/H b=some (.own a))->h.get? b=some u->h'.get? b=some u)
 (ho:∀b,H b=some (.own a)->H' b=some (.own a)) (ht:∀b xs,H b=some (.tup xs)->H' b=some (.tup xs)):B6 P w H' h' a o:=by
 induction o with
 |lst xs=>obtain⟨z,aa,n,r,e⟩:=x;exact⟨z,aa,n,r,k _ _ (.inl rfl) e⟩
 |tup xs=>obtain⟨z,aa,r,ob,e,c⟩:=x;exact⟨z,aa,r,ob,k _ _ (.inl rfl) e,c⟩
 |dK kvs=>obtain⟨z,y,vs,r,ob,es,ep,e,c⟩:=x;exact⟨z,y,vs,r,ob,es,ep,k _ _ (.inl rfl) e,c⟩
 |dT kvs =>
  obtain⟨z,y,xs,r,ob,es,ep,e,c⟩:=x;exact⟨z,y,xs,Paired.kO r λ p q z=>⟨z.1,ht _ _ z.2.1,z.2.2⟩,ob,es,ep,k _ _ (.inl rfl) e,c⟩
 |set S n=>obtain⟨ob,es,ep,t,e,c⟩:=x;exact⟨ob,es,ep,t,k _ _ (.inl rfl) e,c⟩
 |ins C dx fs =>
  obtain⟨d,z,ne,e,mA,⟨od,es,ep,e2,c⟩,r⟩:=x;exact⟨ho _ d,z,ne,k _ _ (.inl rfl) e,mA,⟨od,es,ep,k _ _ (.inr d) e2,c⟩,r⟩
 |own y=>obtain⟨ob,e⟩:=x;exact⟨ob,k _ _ (.inl rfl) e⟩
 |xd fs=>obtain⟨mA,⟨od,es,ep,e,c⟩,r⟩:=x;exact⟨mA,⟨od,es,ep,k _ _ (.inl rfl) e,c⟩,r⟩
 |tI lo hi=>obtain⟨t,u,v,e⟩:=x;exact⟨t,u,v,k _ _ (.inl rfl) e⟩
 |Fp ob u ih=>obtain⟨e,q⟩:=x;exact⟨k _ _ (.inl rfl) e,ih q⟩
 |jH ps =>
  have e:h.get? a=some {cls:=.none,data:=.fields ps}:=x;show h'.get? a=some {cls:=.none,data:=.fields ps};exact k a _ (.inl rfl) e
 |met f y =>
  have e:h.get? a=some (PySem.W.methodObj (.ref f) (.ref y)):=x;show h'.get? a=some (PySem.W.methodObj (.ref f) (.ref y));exact k a _ (.inl rfl) e
 |ext φ=>obtain⟨p,⟨o,e⟩,st⟩:=x;exact⟨st _ _ p λ o q=>k _ _ (.inl rfl) q,⟨o,k _ _ (.inl rfl) e⟩,st⟩
theorem Fc.lt (x:Fc P w H h)(e:H a=some o):a<h.objs.size:=(x a o e).lt
theorem Fc.fresh (x:Fc P w H h)(e:h.objs.size<=a):H a=none:=by
 cases q:H a with
 |none=>rfl
 |some u=>exact absurd (za3 (x.lt q) e) (Nat.lt_irrefl _)
theorem Fc.kept (x:Fc P w H h)(k:∀b u,h.get? b=some u->h'.get? b=some u):Fc P w H h':=λ a o e =>
 (x a o e).MT (λ b u _ q=>k b u q) (λ _ q=>q) λ _ _ q=>q
theorem Fc.laid (x:Fc P w H h)(k:∀b u,h.get? b=some u->h'.get? b=some u)(hp:h.objs.size<=a)(new:B6 P w (upd H a o) h' a o):Fc P w (upd H a o) h':=λ b u e=>by
 have hn:=x.fresh hp;by_cases hb:b=a
 ·subst hb;rw[Aj] at e;cases e;exact new
 ·rw[Ab hb] at e;exact (x b u e).MT (λ c v _ q=>k c v q) (λ c q=>by rw[Ab (AH q hn)];exact q) λ c xs q=>by rw[Ab (AH q hn)];exact q
end
def Rd (H:Hp)(a:Addr)(u:HO):Prop:=H a=some u\/∃o,H a=some (.Fp o u)
theorem Rd.ok {P:Program}{w:World}{H:Hp}{h:Heap}{a:Addr}{u:HO}(r:Rd H a u)(x:Fc P w H h):B6 P w H h a u:=by
 rcases r with r|⟨o,r⟩
 ·exact x a u r
 ·obtain⟨_,q⟩:=x a _ r;exact q
def pQ:Option HO->Prop
 |some (.lst _)|some (.dK _)|some (.dT _)|some (.set _ _)|some (.ins _ _ _)|some (.ext _)=>True
 |_=>False
section
variable {P:Program}{w:World}{H:Hp}{h h':Heap}{x e:Addr}{o':HO}
theorem Fc.write (ok:Fc P w H h)(mu:pQ (H x))(he:e=x\/H e=some (.own x))(k:∀b u,b≠e->h.get? b=some u->h'.get? b=some u)(d5:∃u,h'.get? e=some u)
 (new:B6 P w (upd H x o') h' x o'):Fc P w (upd H x o') h':=λ b u q=>by
 have jg:∀c y,H c=some (.own y)->c≠x:=λ c y r z=>by subst z;rw[r] at mu;exact mu
 have nk:∀c xs,H c=some (.tup xs)->c≠x:=λ c xs r z=>by subst z;rw[r] at mu;exact mu
 by_cases hb:b=x
 ·subst hb;rw[Aj] at q;cases q;exact new
 ·rw[Ab hb] at q;by_cases fj:b=e
  ·have q':H b=some (.own x):=by
    rcases he with z|z
    ·exact absurd (fj.trans z) hb
    ·rw[fj];exact z
   rw[q] at q';cases q';obtain⟨v,hv⟩:=d5;exact⟨v,by rw[fj];exact hv⟩
  ·refine (ok b u q).MT (λ c v hc r=>k c v ?_ r) (λ c r=>by rw[Ab (jg c b r)];exact r) λ c xs r=>by rw[Ab (nk c xs r)];exact r
   rcases hc with rfl|hc
   ·exact fj
   ·rintro rfl;rcases he with z|z
    ·exact jg c b hc z
    ·rw[hc] at z;cases z;exact hb rfl
end
structure Un (fs ex:List Addr)(H H':Hp)(h h':Heap):Prop where
 keep:∀b o,h.get? b=some o->H b=none->b∉fs->b∉ex->h'.get? b=some o
 slot:∀b o,h.get? b=some o->H b=none->b∈fs->b∉ex->∃sl,h'.get? b=some {o with slots:=sl}
 free:∀b o,h.get? b=some o->H b=none->b∉ex->H' b=none
 there:∀b o,h.get? b=some o->b∉ex->∃o',h'.get? b=some o'
 MU:∀b xs,H b=some (.tup xs)->H' b=some (.tup xs)
 KJ:∀b o u,H b=some (.Fp o u)->H' b=some (.Fp o u)
 MV:∀b ps,H b=some (.jH ps)->∃more,H' b=some (.jH (ps++more))
section
variable {fs ci ex nl:List Addr}{H H1 H2:Hp}{h h1 h2 h':Heap}{a x e:Addr}{o:HO}
theorem Un.any (u:Un fs ex H H1 h h1){b:Addr}{ob:Obj}(q:h.get? b=some ob)(n:H b=none)(hx:b∉ex):∃sl,h1.get? b=some {ob with slots:=sl}:=by
 by_cases hb:b∈fs
 ·exact u.slot b ob q n hb hx
 ·exact⟨ob.slots,u.keep b ob q n hb hx⟩
theorem Un.kept (k:∀b u,h.get? b=some u->h'.get? b=some u):Un fs ex H H h h':=
 ⟨λ b ob q _ _ _=>k b ob q,λ b ob q _ _ _=>⟨ob.slots,k b ob q⟩,λ _ _ _ n _=>n,λ b ob q _=>⟨ob,k b ob q⟩,λ _ _ q=>q,λ _ _ _ q=>q,λ _ ps q=>⟨#[],by rw[q];simp⟩⟩
theorem Un.refl:Un fs ex H H h h:=Un.kept λ _ _ q=>q
theorem Un.laid (k:∀b u,h.get? b=some u->h'.get? b=some u)(hp:h.objs.size<=a)(hn:H a=none):Un fs ex H (upd H a o) h h' where
 keep:=λ b u q _ _ _=>k b u q
 slot:=λ b u q _ _ _=>⟨u.slots,k b u q⟩
 free:=λ b u q n _=>by rw[Ab (zX (za3 (zT q) hp))];exact n
 there:=λ b u q _=>⟨u,k b u q⟩
 MU:=λ b xs q=>by rw[Ab (AH q hn)];exact q
 KJ:=λ b u xs q=>by rw[Ab (AH q hn)];exact q
 MV:=λ b ps q=>⟨#[],by rw[Ab (AH q hn),q];simp⟩
theorem Un.write (mu:pQ (H x))(he:e=x\/H e=some (.own x))(k:∀b u,b≠e->h.get? b=some u->h'.get? b=some u)(d5:∃u,h'.get? e=some u):Un fs ex H (upd H x o) h h':=by
 have hx:∀b,H b=none->b≠x:=λ b n z=>by subst z;rw[n] at mu;exact mu
 have hb:∀b,H b=none->b≠e:=λ b n z=>by
  subst z;rcases he with r|r
  ·exact hx b n r
  ·rw[n] at r;cases r
 have hm:∀b u,H b=some u->¬ pQ (some u)->b≠x:=λ b u q nm z=>by subst z;rw[q] at mu;exact nm mu
 refine⟨λ b u q n _ _=>k b u (hb b n) q,λ b u q n _ _=>⟨u.slots,k b u (hb b n) q⟩,λ b u q n _=>by rw[Ab (hx b n)];exact n,λ b u q _=>?_,
  λ b xs q=>by rw[Ab (hm b _ q λ z=>z)];exact q,λ b u xs q=>by rw[Ab (hm b _ q λ z=>z)];exact q,λ b ps q=>⟨#[],by rw[Ab (hm b _ q λ z=>z),q];simp⟩⟩
 by_cases fj:b=e
 ·subst fj;exact d5
 ·exact⟨u,k b u fj q⟩
end
noncomputable def C3 (h:Heap)(H:Hp):List Addr:=(zW h.objs.size).filter λ a=>(H a).isSome
noncomputable def Q1 (h:Heap)(H:Hp):Heap:=PySem.W.hideAll h (C3 h H)
theorem W3 (h:Heap)(H:Hp):(Q1 h H).objs.size=h.objs.size:=PySem.W.hideAll_size _ _
theorem XC {h:Heap}{H:Hp}{b:Addr}{o:Obj}(e:h.get? b=some o)(n:H b=none):(Q1 h H).get? b=some o:=
 zbl _ e λ hm=>by
  have q:(H b).isSome=true:=(zas.mp hm).2;rw[n] at q;simp at q
theorem cT {h:Heap}{H:Hp}{b:Addr}{o:Obj}(e:(Q1 h H).get? b=some o):h.get? b=some o/\H b=none:=by
 have e':h.get? b=some o:=PySem.W.of_hideAll (C3 h H) e;refine⟨e',?_⟩;cases q:H b with
 |none=>rfl
 |some x =>
  have hm:b∈C3 h H:=zas.mpr ⟨zbe.mpr (zT e'),by simp[q]⟩;have z:(Q1 h H).get? b=none:=PySem.W.hideAll_none (C3 h H) hm;rw[z] at e;cases e
noncomputable def cU (g h:Heap)(L:Addr):List (Addr×Obj):=(zW h.objs.size).filterMap λ a=>if a=L\/(g.get? a).isSome=true then none else (h.get? a).map λ o=>(a,o)
noncomputable def rest (g h:Heap)(L d:Addr):List (Addr×Obj):=(cU g h L).filter λ p=>decide (p.1≠d)
structure Mod (K:zy)(mg:Str->Option Value)(base:Heap):Prop where
 XD:K.In base
 glob:base.Ns mainGlobals mg
 blt:∃mb,base.Ns builtinsNs mb/\∀x:Str,x ≠ "__name__" -> mb x=bootBuiltins x
 nolimit:base.NoLimit
structure Cx where
 prog:Program
 w:World
 K:zy
 mg:Str->Option Value
 base:Heap
 A:Around
 N:List Str
 s₀:Shared
 H₀:Hp
 env:Env
 outer:List Env
 stack:List Env
 ex:List Addr
 fn:Str->Bool
 calm:Bool
 pn:List (Addr×Obj)
 xe:Value->Shared->Prop
noncomputable def Ls (l:List Env):List Addr:=l.filterMap (·.frame)
noncomputable abbrev Cx.fs (X:Cx):List Addr:=Ls X.outer
def uC (sc:Scope)(x:Str):Prop:=sc.names.lookup x=some .local\/sc.names.lookup x=some .cell\/sc.names.lookup x=some .free
def Loc (sc:Scope)(x:Str):Prop:=sc.names.lookup x=some .local\/sc.names.lookup x=some .cell
def Look (env:Env)(h:Heap)(m:Str->Option Value)(x:Str)(u:Value):Prop:=
 (env.kindOf x=some .local/\m x=some u)\/((env.kindOf x=some .cell\/env.kindOf x=some .free)/\∃c,env.cells.lookup x=some c/\h.IsCell c (some u))
structure Cx.Ok (X:Cx):Prop where
 mod:Mod X.K X.mg X.base
 kind:X.env.scope.kind=.function
 glob:X.env.globals=mainGlobals
 blt:X.env.builtins=builtinsNs
 above:X.s₀.heap.objs.size<=X.env.locals
 inj:∀x y c,X.env.cells.lookup x=some c->X.env.cells.lookup y=some c->x=y
 has:∀x,(X.env.kindOf x=some .cell\/X.env.kindOf x=some .free)->∃c,X.env.cells.lookup x=some c
 pR:∀x c,X.fn x=true->X.env.cells.lookup x=some c->X.s₀.heap.objs.size<=c
 hd:X.calm=true->X.A.handled=none
 frames:X.A.frames=some X.stack
 jI:X.stack=X.outer\/(X.stack=X.env::X.outer/\X.env.frame=some X.env.locals)
 tJ:∀b∈X.ex,b≠X.env.locals/\∀x c,X.env.cells.lookup x=some c->c≠b
 bs:∀b o,X.base.get? b=some o->X.s₀.heap.get? b=some o/\X.H₀ b=none
 cV:X.base.objs.size<=X.s₀.heap.objs.size
 XE:∀b o,X.base.get? b=some o->b∉X.ex
 XF:∀b∈X.ex,b∉X.fs
 Jm:X.s₀.heap.FunFrames X.base X.outer
 kQ:∀b∈X.fs,X.H₀ b=none
structure Inv (X:Cx)(pins:List (Addr×Obj))(σ:List (Option V))(H:Hp)(s:Shared):Prop where
 ok:X.Ok
 os:s.os=X.s₀.os
 bare:AllBare s.gens
 base:Un X.fs X.ex X.H₀ H X.s₀.heap s.heap
 loc:∃m,s.heap.Ns X.env.locals m/\∀(i:Nat) (x:Str) (v:V),X.N[i]?=some x->σ[i]?=some (some v)->uC X.env.scope x->∃u,RelV v u/\Look X.env s.heap m x u
 cell:∀x c,X.env.cells.lookup x=some c->∃v,s.heap.IsCell c v
 free:H X.env.locals=none
 Fd:∀x c,X.env.cells.lookup x=some c->H c=none
 pin:∀p∈X.pn++pins,s.heap.get? p.1=some p.2/\H p.1=none/\p.1≠X.env.locals/\p.1∉X.fs/\∀v,p.2.data≠.cell v
 Au:Fc X.prog X.w H s.heap
 len:σ.length=X.N.length
section
variable {X:Cx}{pins:List (Addr×Obj)}{σ:List (Option V)}{H H':Hp}{s:Shared}{h':Heap}
theorem Cx.Ok.uD (ok:X.Ok){b:Addr}{o:Obj}(e:X.base.get? b=some o):b∉X.fs:=λ hb=>by
 have:=(ok.Jm.mem hb).1;rw[e] at this;cases this
theorem Inv.bs (I:Inv X pins σ H s):∀b o,X.base.get? b=some o->s.heap.get? b=some o/\H b=none:=λ b o e =>
 ⟨I.base.keep b o (I.ok.bs b o e).1 (I.ok.bs b o e).2 (I.ok.uD e) (I.ok.XE b o e),I.base.free b o (I.ok.bs b o e).1 (I.ok.bs b o e).2 (I.ok.XE b o e)⟩
theorem Inv.bk (I:Inv X pins σ H s):∀b o,X.base.get? b=some o->s.heap.get? b=some o:=λ b o e=>(I.bs b o e).1
theorem Inv.mod (I:Inv X pins σ H s):Mod X.K X.mg X.base:=I.ok.mod
theorem Inv.Og (I:Inv X pins σ H s):X.K.In s.heap:=I.ok.mod.XD.keeps I.bk
theorem Inv.fr (I:Inv X pins σ H s):∃m,Fr X.base X.env.locals s.heap m:=
 let ⟨m,hn,_⟩:=I.loc
 ⟨m,hn,I.bk,zat I.ok.cV I.ok.above⟩
theorem Inv.lt (I:Inv X pins σ H s):X.env.locals<s.heap.objs.size:=let ⟨_,hn,_⟩:=I.loc;hn.lt
theorem Inv.sz (I:Inv X pins σ H s):X.s₀.heap.objs.size<=s.heap.objs.size:=zat I.ok.above (zaz I.lt)
theorem Inv.uE (I:Inv X pins σ H s){a:Addr}(h:s.heap.objs.size<=a):a∉X.fs:=λ hb=>by
 obtain⟨_,o,ho,_⟩:=I.ok.Jm.mem hb;exact absurd (za3 (zT ho) (zat I.sz h)) (Nat.lt_irrefl _)
theorem Inv.kR (I:Inv X pins σ H s):∀x c,X.env.cells.lookup x=some c->c≠X.env.locals:=λ x c e z=>by
 obtain⟨v,o,ho,hd⟩:=I.cell x c e;obtain⟨m,⟨o',es,ep,bq,b7,_⟩,_⟩:=I.loc;rw[z,bq] at ho;cases ho;rw[b7] at hd;cases hd
theorem Inv.Jm (I:Inv X pins σ H s):s.heap.FunFrames X.base X.outer:=by
 have all:∀(l:List Env),(∀b∈Ls l,b∈X.fs)->X.s₀.heap.FunFrames X.base l->s.heap.FunFrames X.base l:=by
  intro l;induction l with
  |nil=>intro _ _;trivial
  |cons env r ih =>
   intro hs hl;obtain⟨hk,⟨L,o,hf,hn,ho,hd⟩,hr⟩:=hl;have hL:L∈X.fs:=hs L (by unfold Ls;rw[zbc,hf];exact zD);obtain⟨sl,e⟩:=I.base.slot L o ho (I.ok.kQ L hL) hL λ z=>I.ok.XF L z hL;exact⟨hk,⟨L,_,hf,hn,e,hd⟩,ih (λ b hb=>hs b (by unfold Ls;rw[zbc,hf];exact zF _ hb)) hr⟩
 exact all X.outer (λ _ hb=>hb) I.ok.Jm
theorem Inv.stack (I:Inv X pins σ H s):s.heap.FunFrames X.base X.stack:=by
 rcases I.ok.jI with e|⟨e,hf⟩
 ·rw[e];exact I.Jm
 ·rw[e];obtain⟨m,hn,_⟩:=I.loc;refine .cons (by rw[I.ok.kind];decide) hf hn ?_ I.Jm;exact Heap.get?_none_of_le (zat I.ok.cV I.ok.above)
theorem Inv.Td (I:Inv X pins σ H s):∀b∈Ls X.stack,b∈X.env.locals::X.fs:=λ b hb=>by
 rcases I.ok.jI with e|⟨e,hf⟩
 ·rw[e] at hb;exact zF _ hb
 ·rw[e] at hb;unfold Ls at hb;rw[zbc,hf] at hb;exact hb
theorem Inv.Q2 (I:Inv X pins σ H s):∀b∈Ls X.stack,H b=none:=λ b hb=>by
 rcases zQ.mp (I.Td b hb) with e|hb
 ·rw[e];exact I.free
 ·obtain⟨_,o,ho,_⟩:=I.ok.Jm.mem hb;exact I.base.free b o ho (I.ok.kQ b hb) λ z=>I.ok.XF b z hb
theorem Inv.step {g':Array GenState}{t':Nat}{d':Drawn}{ch:List Addr}(I:Inv X pins σ H s)
 (cG:∀b∈ch,(b∈X.ex\/X.s₀.heap.objs.size<=b)/\b≠X.env.locals/\(∀x c,X.env.cells.lookup x=some c->c≠b)/\∀p∈X.pn++pins,p.1≠b)
 (keep:∀b o,b≠X.env.locals->b∉X.fs->b∉ch->s.heap.get? b=some o->H b=none->h'.get? b=some o)
 (slot:∀b o,b≠X.env.locals->b∈X.fs->b∉ch->s.heap.get? b=some o->H b=none->∃sl,h'.get? b=some {o with slots:=sl}) (free:∀b o,b∉ch->s.heap.get? b=some o->H b=none->H' b=none)
 (there:∀b o,b∉ch->s.heap.get? b=some o->∃o',h'.get? b=some o')
 (MU:∀b xs,H b=some (.tup xs)->H' b=some (.tup xs)) (KJ:∀b o u,H b=some (.Fp o u)->H' b=some (.Fp o u)) (MV:∀b ps,H b=some (.jH ps)->∃more,H' b=some (.jH (ps++more)))
 (ns:∀m,s.heap.Ns X.env.locals m->h'.Ns X.env.locals m) (Au:Fc X.prog X.w H' h') (hg:AllBare g'):
 Inv X pins σ H' {s with heap:=h',gens:=g',drawn:=d',toks:=t' }:=by
 have v5:∀b o,X.s₀.heap.get? b=some o->b≠X.env.locals:=λ b o e=>zX (za3 (zT e) I.ok.above);have i4:∀b o,X.s₀.heap.get? b=some o->b∉X.ex->b∉ch:=λ b o e hx hb=>by
  rcases (cG b hb).1 with z|z
  ·exact hx z
  ·exact absurd (za3 (zT e) z) (Nat.lt_irrefl _)
 have cellK:∀x c,X.env.cells.lookup x=some c->∀v,s.heap.IsCell c v->h'.IsCell c v:=λ x c e v ⟨o,ho,hd⟩=>by
  have jh:c∉ch:=λ z=>(cG c z).2.2.1 x c e rfl;by_cases hc:c∈X.fs
  ·obtain⟨sl,q⟩:=slot c o (I.kR x c e) hc jh ho (I.Fd x c e);exact⟨_,q,hd⟩
  ·exact⟨o,keep c o (I.kR x c e) hc jh ho (I.Fd x c e),hd⟩
 refine⟨I.ok,I.os,hg,⟨λ b o e n hb hx=>?_,λ b o e n hb hx=>?_,λ b o e n hx=>?_,λ b o e hx=>?_,λ b xs e=>MU b xs (I.base.MU b xs e),λ b o xs e=>KJ b o xs (I.base.KJ b o xs e),λ b ps e=>?_⟩,?_,λ x c e=>?_,?_,λ x c e=>?_,λ p hp=>?_,Au,I.len⟩
 ·exact keep b o (v5 b o e) hb (i4 b o e hx) (I.base.keep b o e n hb hx) (I.base.free b o e n hx)
 ·obtain⟨sl,e1⟩:=I.base.slot b o e n hb hx;obtain⟨mf,e2⟩:=slot b _ (v5 b o e) hb (i4 b o e hx) e1 (I.base.free b o e n hx);exact⟨mf,e2⟩
 ·obtain⟨o',e1⟩:=I.base.there b o e hx;exact free b o' (i4 b o e hx) e1 (I.base.free b o e n hx)
 ·obtain⟨o',e1⟩:=I.base.there b o e hx;exact there b o' (i4 b o e hx) e1
 ·obtain⟨m1,e1⟩:=I.base.MV b ps e;obtain⟨m2,e2⟩:=MV b _ e1;exact⟨m1++m2,by rw[e2,Array.append_assoc]⟩
 ·obtain⟨m,hn,hl⟩:=I.loc;refine⟨m,ns m hn,λ i x v e1 e2 e3=>?_⟩;obtain⟨u,r,l⟩:=hl i x v e1 e2 e3;refine⟨u,r,?_⟩;rcases l with l|⟨k,c,e,z⟩
  ·exact .inl l
  ·exact .inr ⟨k,c,e,cellK x c e _ z⟩
 ·obtain⟨v,z⟩:=I.cell x c e;exact⟨v,cellK x c e v z⟩
 ·obtain⟨m,⟨o,_,_,ho,_⟩,_⟩:=I.loc;exact free _ o (λ z=>(cG _ z).2.1 rfl) ho I.free
 ·obtain⟨v,o,ho,hd⟩:=I.cell x c e;exact free c o (λ z=>(cG c z).2.2.1 x c e rfl) ho (I.Fd x c e)
 ·obtain⟨e,n,ne,nf,d⟩:=I.pin p hp;have jh:p.1∉ch:=λ z=>(cG p.1 z).2.2.2 p hp rfl;exact⟨keep p.1 p.2 ne nf jh e n,free p.1 p.2 jh e n,ne,nf,d⟩
theorem Inv.un {t':Nat}(I:Inv X pins σ H s)(u:Un X.fs [] H H' s.heap h')(Au:Fc X.prog X.w H' h'):Inv X pins σ H' {s with heap:=h',toks:=t' }:=by
 obtain⟨m,⟨o,es,ep,ho,r⟩,_⟩:=id I.loc;obtain⟨sl,hL⟩:=u.any ho I.free (by simp);exact I.step (g':=s.gens) (d':=s.drawn) (ch:=[]) (λ _ z=>nomatch z) (λ b o _ hb _ e n=>u.keep b o e n hb (by simp)) (λ b o _ hb _ e n=>u.slot b o e n hb (by simp)) (λ b o _ e n=>u.free b o e n (by simp)) (λ b o _ e=>u.there b o e (by simp)) u.MU u.KJ u.MV (λ m' hm=>by
  obtain⟨o',nq,nr,bq,r'⟩:=hm;rw[ho] at bq;cases bq;exact⟨_,nq,nr,hL,r'⟩) Au I.bare
theorem Inv.call {g':Array GenState}{t':Nat}{d':Drawn}{ch:List Addr}(I:Inv X pins σ H s)(u:Un (Ls X.stack) ch H H' s.heap h')(Au:Fc X.prog X.w H' h')(hg:AllBare g')
 (cG:∀b∈ch,(b∈X.ex\/X.s₀.heap.objs.size<=b)/\b≠X.env.locals/\(∀x c,X.env.cells.lookup x=some c->c≠b)/\∀p∈X.pn++pins,p.1≠b):
 Inv X pins σ H' {s with heap:=h',gens:=g',drawn:=d',toks:=t' }:=by
 obtain⟨m,⟨o,es,ep,ho,r⟩,_⟩:=id I.loc;obtain⟨sl,hL⟩:=u.any ho I.free λ z=>(cG _ z).2.1 rfl;exact I.step (ch:=ch) cG (λ b o hL hb hc e n=>u.keep b o e n (λ z=>(zQ.mp (I.Td b z)).elim hL hb) hc) (λ b o _ _ hc e n=>u.any e n hc) (λ b o hc e n=>u.free b o e n hc) (λ b o hc e=>u.there b o e hc) u.MU u.KJ u.MV (λ m' hm=>by
  obtain⟨o',nq,nr,bq,r'⟩:=hm;rw[ho] at bq;cases bq;exact⟨_,nq,nr,hL,r'⟩) Au hg
theorem Inv.turned {t':Nat}{it:Addr}(I:Inv X pins σ H s)(k:∀b o,b≠it->s.heap.get? b=some o->h'.get? b=some o)(hn:H it=none)(hL:it≠X.env.locals)
 (h1:it∈X.ex\/X.s₀.heap.objs.size<=it) (h2:∀x c,X.env.cells.lookup x=some c->c≠it) (h3:∀p∈X.pn++pins,p.1≠it):Inv X pins σ H {s with heap:=h',toks:=t' }:=by
 have v6:∀b u,H b=some u->b≠it:=λ b u e z=>by rw[z,hn] at e;cases e
 refine I.step (g':=s.gens) (d':=s.drawn) (ch:=[it]) (λ b hb=>?_) (λ b o _ _ hc e _=>k b o (λ z=>hc (by simp[z])) e) (λ b o _ _ hc e _=>⟨o.slots,k b o (λ z=>hc (by simp[z])) e⟩) (λ _ _ _ _ n=>n)
  (λ b o hc e=>⟨o,k b o (λ z=>hc (by simp[z])) e⟩) (λ _ _ e=>e) (λ _ _ _ e=>e) (λ b ps e=>⟨#[],by rw[e];simp⟩) (λ m hm=>?_) (λ b u e=>?_) I.bare
 ·have e:b=it:=by simpa using hb
  subst e;exact⟨h1,hL,h2,h3⟩
 ·obtain⟨o,es,ep,ho,r⟩:=hm;exact⟨o,es,ep,k _ o (zao hL) ho,r⟩
 ·refine (I.Au b u e).MT (λ c v hc q=>k c v ?_ q) (λ _ q=>q) λ _ _ q=>q;rcases hc with z|z
  ·rw[z];exact v6 b u e
  ·exact v6 c _ z
theorem Inv.tok (I:Inv X pins σ H s)(t:Nat):Inv X pins σ H {s with toks:=t}:=I.un (h':=s.heap) (t':=t) Un.refl I.Au
theorem Inv.kept {t':Nat}(I:Inv X pins σ H s)(k:∀b u,s.heap.get? b=some u->h'.get? b=some u):Inv X pins σ H {s with heap:=h',toks:=t' }:=I.un (Un.kept k) (I.Au.kept k)
theorem Inv.laid {a:Addr}{o:HO}{t':Nat}(I:Inv X pins σ H s)(k:∀b u,s.heap.get? b=some u->h'.get? b=some u)(hp:s.heap.objs.size<=a)(new:B6 X.prog X.w (upd H a o) h' a o):
 Inv X pins σ (upd H a o) {s with heap:=h',toks:=t' }:=I.un (Un.laid k hp (I.Au.fresh hp)) (I.Au.laid k hp new)
theorem Inv.write {x e:Addr}{o:HO}{t':Nat}(I:Inv X pins σ H s)(mu:pQ (H x))(he:e=x\/H e=some (.own x))(k:∀b u,b≠e->s.heap.get? b=some u->h'.get? b=some u)(d5:∃u,h'.get? e=some u)
 (new:B6 X.prog X.w (upd H x o) h' x o):Inv X pins σ (upd H x o) {s with heap:=h',toks:=t' }:=I.un (Un.write mu he k d5) (I.Au.write mu he k d5 new)
theorem Inv.weak {σ':List (Option V)}(I:Inv X pins σ H s)(hl:σ'.length=σ.length)(w:∀(i:Nat) v,σ'[i]?=some (some v)->σ[i]?=some (some v)):Inv X pins σ' H s:=
 ⟨I.ok,I.os,I.bare,I.base,let ⟨m,hn,bS⟩:=I.loc;⟨m,hn,λ i x v e1 e2 e3=>bS i x v e1 (w i v e2) e3⟩,I.cell,I.free,I.Fd,I.pin,I.Au,hl.trans I.len⟩
theorem Inv.Jn {d6:List (Addr×Obj)}(I:Inv X pins σ H s)(h:∀p∈d6,s.heap.get? p.1=some p.2/\H p.1=none/\p.1≠X.env.locals/\p.1∉X.fs/\∀v,p.2.data≠.cell v):Inv X d6 σ H s:=
 ⟨I.ok,I.os,I.bare,I.base,I.loc,I.cell,I.free,I.Fd,λ p hp=>(za5.mp hp).elim (λ z=>I.pin p (zae _ z)) (h p),I.Au,I.len⟩
theorem Ri {N:List Str}(hN:N.Nodup){i j:Nat}{x:Str}(a:N[i]?=some x)(b:N[j]?=some x):i=j:=by
 obtain⟨h1,e1⟩:=zY.mp a;obtain⟨h2,e2⟩:=zY.mp b;exact (List.getElem_inj hN).mp (e1.trans e2.symm)
theorem OP {M:Model}{A:Around}{E:Value->Shared->Prop}{i:Nat}{x:Str}{v:V}{u:Value}{Q:Unit->Shared->Prop}(I:Inv X pins σ H s)(hN:X.N.Nodup)(hi:X.N[i]?=some x)(hx:Loc X.env.scope x)(r:RelV v u)
 (h:∀s',Inv X pins (σ.set i (some v)) H s'->(∃a,zcf a s.heap s'.heap/\(a=X.env.locals\/X.env.cells.lookup x=some a))->Q () s') (hf:X.fn x=true\/X.env.scope.names.lookup x=some .local:=by first|exact .inl rfl|exact .inr rfl|assumption):wpAny M A (storeName X.env x u) Q E s:=by
 obtain⟨m,hn,hl⟩:=id I.loc;have nu:(X.env.scope.kind==.class||(X.env.scope.kind==.module&&X.env.locals != X.env.globals))=false:=by rw[I.ok.kind];rfl
 have hiσ:i<σ.length:=by rw[I.len];exact (zY.mp hi).1
 have kR:=I.kR;have tracked:∀ {a:Addr} {h':Heap},(∃o,s.heap.get? a=some o/\H a=none)->zcf a s.heap h'->Fc X.prog X.w H h':=fun {a h'} ha hs b ob e=>by
  obtain⟨_,_,d8⟩:=ha;refine (I.Au b ob e).MT (λ c w' hc q=>(hs.2 c ?_).trans q) (λ _ q=>q) λ _ _ q=>q;rintro rfl;rcases hc with rfl|hc
  ·rw[d8] at e;cases e
  ·rw[d8] at hc;cases hc
 rcases hx with hk|hk
 ·refine wpAny_storeName_local hk hn (λ h' b8 hs=>?_) nu;obtain⟨oL,_,_,nv,_⟩:=id hn;refine h _ ⟨I.ok,I.os,I.bare,⟨λ b o e n hb hx=>?_,λ b o e n hb hx=>?_,I.base.free,λ b o e hx=>?_,I.base.MU,I.base.KJ,I.base.MV⟩,⟨_,b8,λ j y v' e1 e2 e3=>?_⟩,λ y c e=>?_,I.free,I.Fd,λ p hp=>?_,tracked ⟨oL,nv,I.free⟩ hs,by simpa using I.len⟩ ⟨_,hs,.inl rfl⟩
  ·exact (hs.2 b (zX (za3 (zT e) I.ok.above))).trans (I.base.keep b o e n hb hx)
  ·obtain⟨sl,e1⟩:=I.base.slot b o e n hb hx;exact⟨sl,(hs.2 b (zX (za3 (zT e) I.ok.above))).trans e1⟩
  ·obtain⟨o',e1⟩:=I.base.there b o e hx;exact⟨o',(hs.2 b (zX (za3 (zT e) I.ok.above))).trans e1⟩
  ·by_cases hj:j=i
   ·subst hj;rw[hi] at e1;cases e1;rw[zab hiσ] at e2;cases e2;exact⟨u,r,.inl ⟨hk,by simp⟩⟩
   ·rw[zap (zao hj)] at e2;obtain⟨u',r',q⟩:=hl j y v' e1 e2 e3;refine⟨u',r',?_⟩;rcases q with ⟨k,e⟩|⟨k,c,e,z⟩
    ·refine .inl ⟨k,?_⟩;have:y≠x:=λ e=>hj (Ri hN e1 (e▸hi));simp[this,e]
    ·exact .inr ⟨k,c,e,z.sameBut hs (kR y c e)⟩
  ·obtain⟨w',z⟩:=I.cell y c e;exact⟨w',z.sameBut hs (kR y c e)⟩
  ·obtain⟨e,n,ne,nf,d⟩:=I.pin p hp;exact⟨(hs.2 p.1 ne).trans e,n,ne,nf,d⟩
 ·have ny:X.fn x=true:=by
   rcases hf with z|z
   ·exact z
   ·rw[z] at hk;cases hk
  obtain⟨c,hc⟩:=I.ok.has x (.inl hk);obtain⟨w',z⟩:=I.cell x c hc;refine wpAny_storeName_cell I.ok.kind hk hc z (λ h' bK hs=>?_);obtain⟨oc,v7,nz⟩:=id z;refine h {s with heap:=h' } ⟨I.ok,I.os,I.bare,⟨λ b o e n hb hx=>?_,λ b o e n hb hx=>?_,I.base.free,λ b o e hx=>?_,I.base.MU,I.base.KJ,I.base.MV⟩,⟨m,hn.sameBut hs (zao (kR x c hc)),λ j y v' e1 e2 e3=>?_⟩,λ y c' e=>?_,I.free,I.Fd,λ p hp=>?_,tracked ⟨oc,v7,I.Fd x c hc⟩ hs,by simpa using I.len⟩ ⟨c,hs,.inr hc⟩
  ·exact (hs.2 b (zX (za3 (zT e) (I.ok.pR x c ny hc)))).trans (I.base.keep b o e n hb hx)
  ·obtain⟨sl,e1⟩:=I.base.slot b o e n hb hx;exact⟨sl,(hs.2 b (zX (za3 (zT e) (I.ok.pR x c ny hc)))).trans e1⟩
  ·obtain⟨o',e1⟩:=I.base.there b o e hx;exact⟨o',(hs.2 b (zX (za3 (zT e) (I.ok.pR x c ny hc)))).trans e1⟩
  ·by_cases hj:j=i
   ·subst hj;rw[hi] at e1;cases e1;rw[zab hiσ] at e2;cases e2;exact⟨u,r,.inr ⟨.inl hk,c,hc,bK⟩⟩
   ·rw[zap (zao hj)] at e2;obtain⟨u',r',q⟩:=hl j y v' e1 e2 e3;refine⟨u',r',?_⟩;rcases q with q|⟨k,c',e,z'⟩
    ·exact .inl q
    ·refine .inr ⟨k,c',e,z'.sameBut hs ?_⟩;rintro rfl;exact hj (Ri hN e1 (I.ok.inj _ _ _ e hc▸hi))
  ·by_cases mh:c'=c
   ·subst mh;exact⟨_,bK⟩
   ·obtain⟨w2,z2⟩:=I.cell y c' e;exact⟨w2,z2.sameBut hs mh⟩
  ·obtain⟨e,n,ne,nf,d⟩:=I.pin p hp;refine⟨(hs.2 p.1 ?_).trans e,n,ne,nf,d⟩;intro q;rw[q,v7] at e;have q':oc=p.2:=za6 e;exact d w' (by rw[<-q'];exact nz)
theorem Rj {M:Model}{A:Around}{E:Value->Shared->Prop}{i:Nat}{x:Str}{v:V}{u:Value}{Q:Unit->Shared->Prop}(I:Inv X pins σ H s)(hN:X.N.Nodup)(hi:X.N[i]?=some x)(hx:Loc X.env.scope x)(r:RelV v u)
 (h:∀s',Inv X pins (σ.set i (some v)) H s'->Q () s') (hf:X.fn x=true\/X.env.scope.names.lookup x=some .local:=by first|exact .inl rfl|exact .inr rfl|assumption):wpAny M A (storeName X.env x u) Q E s:=
 OP I hN hi hx r (λ s' I' _=>h s' I') hf
theorem Inv.jJ {s':Shared}{ch:List Addr}(I:Inv X pins σ H s)(ho:s'.os=s.os)(u:Un (Ls X.stack) ch H H' s.heap s'.heap)(Au:Fc X.prog X.w H' s'.heap)(hg:AllBare s'.gens)
 (cG:∀b∈ch,(b∈X.ex\/X.s₀.heap.objs.size<=b)/\b≠X.env.locals/\(∀x c,X.env.cells.lookup x=some c->c≠b)/\∀p∈X.pn++pins,p.1≠b):Inv X pins σ H' s':=by
 obtain⟨h',g',d',t',o'⟩:=s';have e:o'=s.os:=ho;subst e;exact I.call (g':=g') (t':=t') (d':=d') u Au hg cG
end
noncomputable abbrev XK:=Value->Option Addr->Hp->Prop
noncomputable abbrev St:=List (Option V)
noncomputable abbrev VK:=V->Hp->Prop
noncomputable abbrev TE:=St->Hp->VK->Prop
noncomputable abbrev TT:=St->Hp->(Bool->Hp->Prop)->Prop
noncomputable abbrev TA:=St->Hp->(List V->Hp->Prop)->Prop
structure Ends where
 nx:St->Hp->Prop
 rt:VK
 bk:St->Hp->Prop:=λ _ _=>False
 ct:St->Hp->Prop:=λ _ _=>False
noncomputable abbrev TS:=Ends->St->Hp->Prop
def EP (X:Cx)(pins:List (Addr×Obj))(σ:St)(Q:VK)(u:Value)(s':Shared):Prop:=∃v H',Inv X pins σ H' s'/\RelV v u/\Q v H'
def TP (X:Cx)(pins:List (Addr×Obj))(σ:St)(Q:Bool->Hp->Prop)(b:Bool)(s':Shared):Prop:=∃H',Inv X pins σ H' s'/\Q b H'
def AP (X:Cx)(pins:List (Addr×Obj))(σ:St)(Q:List V->Hp->Prop)(us:List Value)(s':Shared):Prop:=∃vs H',Inv X pins σ H' s'/\Vals vs us/\Q vs H'
def SP (X:Cx)(pins:List (Addr×Obj))(D:Ends)(f:Flow)(s':Shared):Prop:=
 match f with
 | .next=>∃σ' H',Inv X pins σ' H' s'/\D.nx σ' H'
 | .brk=>∃σ' H',Inv X pins σ' H' s'/\D.bk σ' H'
 | .cont=>∃σ' H',Inv X pins σ' H' s'/\D.ct σ' H'
 | .ret u=>∃v σ' H',Inv X pins σ' H' s'/\RelV v u/\D.rt v H'
def PE (X:Cx)(e:Expr)(t:TE):Prop:=
 ∀(pins:List (Addr×Obj)) (s:Shared) (σ:St) (H:Hp) (Q:VK),Inv X pins σ H s->t σ H Q->wpAny (model X.prog X.w) X.A (eval e X.env) (EP X pins σ Q) X.xe s
def PT (X:Cx)(e:Expr)(t:TT):Prop:=
 ∀(pins:List (Addr×Obj)) (s:Shared) (σ:St) (H:Hp) (Q:Bool->Hp->Prop),Inv X pins σ H s->t σ H Q->wpAny (model X.prog X.w) X.A (isTrue e X.env (eval e X.env)) (TP X pins σ Q) X.xe s
def PW (X:Cx)(e:Expr)(t:TT):Prop:=
 ∀(whole:Sem Value) (pins:List (Addr×Obj)) (s:Shared) (σ:St) (H:Hp) (Q:Bool->Hp->Prop),Inv X pins σ H s->t σ H Q->wpAny (model X.prog X.w) X.A (isTrue e X.env whole) (TP X pins σ Q) X.xe s
theorem PW.pt {X:Cx}{e:Expr}{t:TT}(h:PW X e t):PT X e t:=h _
def PA (X:Cx)(es:List Expr)(t:TA):Prop:=
 ∀(pos:Pos) (pins:List (Addr×Obj)) (s:Shared) (σ:St) (H:Hp) (Q:List V->Hp->Prop),Inv X pins σ H s->t σ H Q->wpAny (model X.prog X.w) X.A (spliced (backTo pos (starEach es X.env))) (AP X pins σ Q) X.xe s
def PS (X:Cx)(st:Stmt)(t:TS):Prop:=
 ∀(pins:List (Addr×Obj)) (s:Shared) (σ:St) (H:Hp) (D:Ends),Inv X pins σ H s->t D σ H->wpAny (model X.prog X.w) X.A (exec st X.env) (SP X pins D) X.xe s
def UN (X:Cx)(st:List Stmt)(t:TS):Prop:=
 ∀(pins:List (Addr×Obj)) (s:Shared) (σ:St) (H:Hp) (D:Ends),Inv X pins σ H s->t D σ H->wpAny (model X.prog X.w) X.A (execs st X.env) (SP X pins D) X.xe s
theorem Bc {α:Type}{t:Sem α}{Q Q':α->Shared->Prop}{M:Model}{A:Around}{E:Value->Shared->Prop}{s:Shared}(h:wpAny M A t Q E s)(hQ:∀a s,Q a s->Q' a s):wpAny M A t Q' E s:=wpAny_mono h hQ λ _ _ x=>x
section
variable {X:Cx}
theorem bin {a b:Expr}{ta tb:TE}(ha:PE X a ta)(hb:PE X b tb){pins:List (Addr×Obj)}{s:Shared}{σ:St}{H:Hp}{R:V->V->Hp->Prop}(I:Inv X pins σ H s)(h:ta σ H λ x H1=>tb σ H1 λ y H2=>R x y H2)
 {α:Type} {Q:α->Shared->Prop} {f:Value->Value->Sem α}
 (hf:∀v u s2 x y H2,Inv X pins σ H2 s2->RelV x v->RelV y u->R x y H2->wpAny (model X.prog X.w) X.A (f v u) Q X.xe s2):
 wpAny (model X.prog X.w) X.A (eval a X.env) (λ v s₁=>wpAny (model X.prog X.w) X.A (eval b X.env) (λ u s₂=>wpAny (model X.prog X.w) X.A (f v u) Q X.xe s₂) X.xe s₁) X.xe s:=by
 refine Bc (ha pins s σ H _ I h) λ v s1 ⟨x,H1,I1,r1,q1⟩=>?_;refine Bc (hb pins s1 σ H1 _ I1 q1) λ u s2 ⟨y,H2,I2,r2,q2⟩=>?_;exact hf v u s2 x y H2 I2 r1 r2 q2
noncomputable def Oj (i:Nat):TE:=λ σ H Q=>∃v,σ[i]?=some (some v)/\Q v H
noncomputable def tC (v:V):TE:=λ _ H Q=>Q v H
theorem kS {i:Nat}{x:Str}{pos:Pos}(hN:X.N[i]?=some x)(hv:uC X.env.scope x)(hd:(x==("__debug__" : Str))=false:=by decide)(br:(x==("__classdict__" : Str))=false:=by decide):PE X (.Name x pos) (Oj i):=by
 intro pins s σ H Q I h;obtain⟨v,e,h⟩:=h;obtain⟨m,hn,hl⟩:=I.loc;obtain⟨u,r,l⟩:=hl i x v hN e hv;have fin:EP X pins σ Q u s:=⟨v,H,I,r,h⟩;rcases l with ⟨hk,hm⟩|⟨hk,c,hc,bL⟩
 ·exact wpAny_Name (wpAny_loadName_local I.ok.kind hk hn hm fin) hd
 ·rcases hk with hk|hk
  ·exact wpAny_Name (wpAny_loadName_cell I.ok.kind hk hc bL fin) hd
  ·exact wpAny_Name (wpAny_loadName_free I.ok.kind hk hc bL fin br) hd
theorem kT {i j pos}:PE X (.Constant (.int i) j pos) (tC (.int i)):=λ _ _ _ H _ I h=>wpAny_Constant_int ⟨.int i,H,I.tok _,⟨_,rfl⟩,h⟩
theorem pS {b j pos}:PE X (.Constant (.bool b) j pos) (tC (.bl b)):=λ _ _ _ H _ I h=>Constant_bool ⟨.bl b,H,I,rfl,h⟩
theorem kU {j pos}:PE X (.Constant .none j pos) (tC .AF):=λ _ _ _ H _ I h=>Constant_none ⟨.AF,H,I,rfl,h⟩
theorem kW {x j pos}:PE X (.Constant (.str x) j pos) (tC (.str x)):=λ _ _ _ H _ I h=>Calls.Constant_str ⟨.str x,H,I.tok _,⟨_,rfl⟩,h⟩
def Gl (X:Cx)(x:Str):Prop:=X.env.kindOf x=some .globalImplicit
theorem Q3 {E:Value->Shared->Prop}{pins:List (Addr×Obj)}{s:Shared}{σ:St}{H:Hp}{x:Str}{u:Value}{pos:Pos}{Q:Value->Shared->Prop}(I:Inv X pins σ H s)(hg:Gl X x)(hm:X.mg x=some u)(h:Q u s)
 (hd:(x==("__debug__" : Str))=false:=by decide):wpAny (model X.prog X.w) X.A (eval (.Name x pos) X.env) Q E s:=
 Calls.Name_function_global I.ok.kind hg (Calls.loadGlobal_global (by rw[I.ok.glob];exact I.mod.glob.keeps I.bk) hm h) hd
theorem Ed {E:Value->Shared->Prop}{pins:List (Addr×Obj)}{s:Shared}{σ:St}{H:Hp}{x:Str}{u:Value}{pos:Pos}{Q:Value->Shared->Prop}(I:Inv X pins σ H s)(hg:Gl X x)(hm:X.mg x=none)(hv:bootBuiltins x=some u)(h:Q u s)
 (hn:x ≠ "__name__" := by decide) (hd:(x==("__debug__" : Str))=false:=by decide):wpAny (model X.prog X.w) X.A (eval (.Name x pos) X.env) Q E s:=by
 obtain⟨mb,h1,h2⟩:=I.mod.blt;exact Calls.Name_function_global I.ok.kind hg (Calls.loadGlobal_builtin (by rw[I.ok.glob];exact I.mod.glob.keeps I.bk) hm (by rw[I.ok.blt];exact h1.keeps I.bk) ((h2 x hn).trans hv) h) hd
theorem cW {x:Str}{v:V}{u:Value}{pos:Pos}(hg:Gl X x)(hm:X.mg x=none)(hv:bootBuiltins x=some u)(r:RelV v u)(hn:x ≠ "__name__" := by decide)(hd:(x==("__debug__" : Str))=false:=by decide):PE X (.Name x pos) (tC v):=
 λ _ _ _ H _ I h=>Ed I hg hm hv ⟨v,H,I,r,h⟩ hn hd
variable {a b:Expr}{ta tb:TE}{pos:Pos}
def PC (X:Cx)(op:CmpOp)(a b:Expr)(t:TE):Prop:=
 ∀(pins:List (Addr×Obj)) (s:Shared) (σ:St) (H:Hp) (Q:VK),Inv X pins σ H s->t σ H Q->
  wpAny (model X.prog X.w) X.A (eval a X.env) (λ v s₁=>wpAny (model X.prog X.w) X.A (eval b X.env) (λ u s₂=>wpAny (model X.prog X.w) X.A (compareOp op v u) (EP X pins σ Q) X.xe s₂) X.xe s₁) X.xe s
theorem Rk (b:Expr){op:CmpOp}(h:op≠.In)(h2:op≠.NotIn):behindInMarks op b=false:=by
 have e1:(op==CmpOp.In)=false:=by cases op<;>first|rfl|exact absurd rfl h
 have e2:(op==CmpOp.NotIn)=false:=by cases op<;>first|rfl|exact absurd rfl h2
 cases b<;>simp[behindInMarks,e1,e2]
noncomputable def uF (ta:TE):TE:=λ σ H Q=>ta σ H λ x H1=>Q (.bl (decide (x=.AF))) H1
noncomputable def pT (ta:TE):TE:=λ σ H Q=>ta σ H λ x H1=>Q (.bl (!decide (x=.AF))) H1
theorem RelV.Rl {x:V}{v:Value}(r:RelV x v):(v==Value.none)=decide (x=.AF):=by
 cases x with
 |AF|bl _=>cases r;rfl
 |int _|str _|kN _|pN _=>obtain⟨t,rfl⟩:=r;rfl
 |ref _|ty _=>cases r;rfl
theorem XG {j pos'}(ha:PE X a ta):PC X .Is a (.Constant .none j pos') (uF ta):=by
 intro pins s σ H Q I h;refine Bc (ha pins s σ H _ I h) λ v s1 ⟨x,H1,I1,r1,q1⟩=>?_;exact Constant_none (is_none_gen ⟨.bl _,H1,I1,by rw[r1.Rl];rfl,q1⟩)
theorem cX {j pos'}(ha:PE X a ta):PC X .IsNot a (.Constant .none j pos') (pT ta):=by
 intro pins s σ H Q I h;refine Bc (ha pins s σ H _ I h) λ v s1 ⟨x,H1,I1,r1,q1⟩=>?_;exact Constant_none (isnot_none_gen ⟨.bl _,H1,I1,by rw[r1.Rl];rfl,q1⟩)
noncomputable def tB (t:TE):TT:=λ σ H Q=>t σ H λ x H1=>∃c,x=.bl c/\Q c H1
theorem kX {op:CmpOp}{t:TE}(h:PC X op a b t)(h1:behindInMarks op b=false:=by first | exact Rk _ (by decide) (by decide) | rfl):PE X (.Compare a [op] [b] pos) t:=λ pins s σ H Q I hw=>wpAny_Compare1 (h pins s σ H Q I hw) h1
theorem XH {op:CmpOp}{t:TE}(h:PC X op a b t)(h1:behindInMarks op b=false:=by first | exact Rk _ (by decide) (by decide) | rfl):PT X (.Compare a [op] [b] pos) (tB t):=by
 intro pins s σ H Q I hw;refine wpAny_isTrue_Compare1 (Bc (h pins s σ H _ I hw) λ v s1 h1=>Bc h1 λ u s2 h2=>Bc h2 λ c s3 ⟨x,H1,I1,r1,q1⟩=>?_) h1;obtain⟨d,rfl,q⟩:=q1;cases r1;exact wpAny_truthy_bool ⟨H1,I1,q⟩
variable {tA mi:TT}{rest:List Expr}
noncomputable def uG (t u:TT):TT:=λ σ H Q=>t σ H λ c H1=>if c=true then u σ H1 Q else Q false H1
noncomputable def xB (t u:TT):TT:=λ σ H Q=>t σ H λ c H1=>if c=true then Q true H1 else u σ H1 Q
noncomputable def uH (t:TT):TT:=λ σ H Q=>t σ H λ c H1=>Q (!c) H1
theorem pw_and1 (ha:PT X a tA):PW X (.BoolOp .And [a] pos) tA:=by
 intro wh pins s σ H Q I h;refine isTrue_and (Bc (ha pins s σ H Q I h) λ c s1 e=>?_);cases c with
 |true=>exact isTrue_and_nil e
 |false=>exact e
theorem pw_or1 (ha:PT X a tA):PW X (.BoolOp .Or [a] pos) tA:=by
 intro wh pins s σ H Q I h;refine isTrue_or (Bc (ha pins s σ H Q I h) λ c s1 e=>?_);cases c with
 |false=>exact isTrue_or_nil e
 |true=>exact e
theorem pw_and (ha:PT X a tA)(hb:PW X (.BoolOp .And (b::rest) pos) mi):PW X (.BoolOp .And (a::b::rest) pos) (uG tA mi):=by
 intro wh pins s σ H Q I h;refine isTrue_and (Bc (ha pins s σ H _ I h) λ c s1 ⟨H1,I1,q1⟩=>?_);cases c with
 |true=>exact hb wh pins s1 σ H1 Q I1 q1
 |false=>exact⟨H1,I1,q1⟩
theorem pw_or (ha:PT X a tA)(hb:PW X (.BoolOp .Or (b::rest) pos) mi):PW X (.BoolOp .Or (a::b::rest) pos) (xB tA mi):=by
 intro wh pins s σ H Q I h;refine isTrue_or (Bc (ha pins s σ H _ I h) λ c s1 ⟨H1,I1,q1⟩=>?_);cases c with
 |true=>exact⟨H1,I1,q1⟩
 |false=>exact hb wh pins s1 σ H1 Q I1 q1
theorem kY (ha:PT X a tA):PT X (.UnaryOp .Not a pos) (uH tA):=by
 intro pins s σ H Q I h;exact isTrue_not (ha pins s σ H (λ c H1=>Q (!c) H1) I h)
noncomputable def pU (ta tb:TE):TE:=λ σ H Q=>ta σ H λ x H1=>∃c,x=.bl c/\if c=true then tb σ H1 Q else Q (.bl false) H1
noncomputable def uI (ta tb:TE):TE:=λ σ H Q=>ta σ H λ x H1=>∃c,x=.bl c/\if c=true then Q (.bl true) H1 else tb σ H1 Q
noncomputable def pV (ta:TE):TE:=λ σ H Q=>ta σ H λ x H1=>∃c,x=.bl c/\Q (.bl (!c)) H1
theorem kZ {op}{t:TE}(h:PE X a t):PE X (.BoolOp op [a] pos) t:=λ pins s σ H Q I hw=>BoolOp_one (h pins s σ H Q I hw)
theorem lA (ha:PE X a ta)(hb:PE X (.BoolOp .And (b::rest) pos) tb):PE X (.BoolOp .And (a::b::rest) pos) (pU ta tb):=by
 intro pins s σ H Q I h;refine BoolOp_and (Bc (ha pins s σ H _ I h) λ v s1 ⟨x,H1,I1,r1,q1⟩=>?_);obtain⟨c,rfl,q1⟩:=q1;cases r1;refine wpAny_truthy_bool ?_;cases c with
 |true=>exact hb pins s1 σ H1 Q I1 q1
 |false=>exact⟨.bl false,H1,I1,rfl,q1⟩
theorem pW (ha:PE X a ta)(hb:PE X (.BoolOp .Or (b::rest) pos) tb):PE X (.BoolOp .Or (a::b::rest) pos) (uI ta tb):=by
 intro pins s σ H Q I h;refine BoolOp_or (Bc (ha pins s σ H _ I h) λ v s1 ⟨x,H1,I1,r1,q1⟩=>?_);obtain⟨c,rfl,q1⟩:=q1;cases r1;refine wpAny_truthy_bool ?_;cases c with
 |false=>exact hb pins s1 σ H1 Q I1 q1
 |true=>exact⟨.bl true,H1,I1,rfl,q1⟩
theorem lB (ha:PE X a ta):PE X (.UnaryOp .Not a pos) (pV ta):=by
 intro pins s σ H Q I h;refine UnaryOp_ (Bc (ha pins s σ H _ I h) λ v s1 ⟨x,H1,I1,r1,q1⟩=>?_);obtain⟨c,rfl,q1⟩:=q1;cases r1;exact not_of (wpAny_truthy_bool ⟨.bl (!c),H1,I1,rfl,q1⟩)
end
def DF (K:zy)(H:Hp)(a:Addr)(xs:List V):Prop:=
 Rd H a (.lst xs) \/
  ∃(o:Obj) (aa:Array Value) (n:Nat),K.lookup a=some o/\o.cls=.type "list" /\ o.dict=none/\o.data=.seq aa n/\aa.size<=sizeLine/\Vals xs aa.toList
def EL (K:zy)(H:Hp)(a:Addr)(xs:List V):Prop:=
 Rd H a (.tup xs) \/
  ∃(o:Obj) (aa:Array Value) (n:Nat),K.lookup a=some o/\o.cls=.type "tuple" /\ o.data=.seq aa n/\aa.size<=sizeLine/\Vals xs aa.toList
noncomputable def uJ:Value->Option V
 | .none=>some .AF
 | .bool b=>some (.bl b)
 | .int i _=>some (.int i)
 | .str x _=>some (.str x)
 | .bytes b _=>some (.kN b)
 | .float b _=>some (.pN b)
 | .ref a=>some (.ref a)
 | .type n=>some (.ty n)
 |_=>none
theorem RelV.abs {x:V}{u:Value}(r:RelV x u):uJ u=some x:=by
 cases x with
 |AF|bl _=>cases r;rfl
 |int _|str _|kN _|pN _=>obtain⟨t,rfl⟩:=r;rfl
 |ref _|ty _=>cases r;rfl
theorem RelV.inj {x y:V}{u:Value}(r:RelV x u)(q:RelV y u):x=y:=za6 (r.abs.symm.trans q.abs)
theorem Vals.inj:∀ {xs ys:List V}{us:List Value},Vals xs us->Vals ys us->xs=ys
 |_,_,_,.nil,.nil=>rfl
 |_,_,_,.cons r t,.cons r' t'=>by rw[r.inj r',Vals.inj t t']
section
variable {X:Cx}{pins:List (Addr×Obj)}{σ:St}{H:Hp}{s:Shared}{a:Addr}{xs ys:List V}
theorem DF.of {K:zy}(h:H a=some (.lst xs)):DF K H a xs:=.inl (.inl h)
theorem EL.of {K:zy}(h:H a=some (.tup xs)):EL K H a xs:=.inl (.inl h)
theorem Inv.list (I:Inv X pins σ H s)(h:DF X.K H a xs):∃aa:List Value,Vals xs aa/\PlainL s.heap a aa.toArray/\xs.length<=sizeLine:=by
 rcases h with h|⟨o,aa,n,hk,hc,hd,hs,hz,r⟩
 ·obtain⟨z,aa,n,r,e⟩:=h.ok I.Au;exact⟨aa,r,⟨_,n,e,rfl,rfl,rfl⟩,z⟩
 ·refine⟨aa.toList,r,⟨o,n,I.Og a o hk,hc,hd,by simpa using hs⟩,?_⟩;have e:=r.length;simp only[zcu] at e;omega
theorem Inv.tuple (I:Inv X pins σ H s)(h:EL X.K H a xs):∃aa:List Value,Vals xs aa/\IsTup s.heap a aa.toArray/\xs.length<=sizeLine:=by
 rcases h with h|⟨o,aa,n,hk,hc,hs,hz,r⟩
 ·obtain⟨z,aa,r,p⟩:=h.ok I.Au;exact⟨aa,r,p,z⟩
 ·refine⟨aa.toList,r,⟨o,I.Og a o hk,hc,n,by simpa using hs⟩,?_⟩;have e:=r.length;simp only[zcu] at e;omega
theorem Inv.Jo (I:Inv X pins σ H s)(h:DF X.K H a xs)(h':DF X.K H a ys):xs=ys:=by
 obtain⟨aa,r,⟨o,n,e,_,_,d⟩,_⟩:=I.list h;obtain⟨its',r',⟨o',n',e',_,_,d'⟩,_⟩:=I.list h';rw[e] at e';cases e';rw[d] at d';injection d' with d1 _
 have:aa=its':=by simpa using congrArg Array.toList d1
 subst this;exact r.inj r'
theorem Inv.Fe (I:Inv X pins σ H s)(h:EL X.K H a xs)(h':EL X.K H a ys):xs=ys:=by
 obtain⟨aa,r,⟨o,e,_,n,d⟩,_⟩:=I.tuple h;obtain⟨its',r',⟨o',e',_,n',d'⟩,_⟩:=I.tuple h';rw[e] at e';cases e';rw[d] at d';injection d' with d1 _
 have:aa=its':=by simpa using congrArg Array.toList d1
 subst this;exact r.inj r'
end
noncomputable abbrev Cx.Ol (X:Cx)(E:Value->Shared->Prop):Cx:={X with xe:=E}
noncomputable abbrev Cx.pX (X:Cx):Cx:=X.Ol λ _ _=>False
theorem Cx.Ok.Ol {X:Cx}(ok:X.Ok)(E:Value->Shared->Prop):(X.Ol E).Ok:=
 ⟨ok.mod,ok.kind,ok.glob,ok.blt,ok.above,ok.inj,ok.has,ok.pR,ok.hd,ok.frames,ok.jI,ok.tJ,ok.bs,ok.cV,ok.XE,ok.XF,ok.Jm,ok.kQ⟩
theorem Cx.Ok.Gn {X:Cx}{E:Value->Shared->Prop}(ok:(X.Ol E).Ok):X.Ok:=
 ⟨ok.mod,ok.kind,ok.glob,ok.blt,ok.above,ok.inj,ok.has,ok.pR,ok.hd,ok.frames,ok.jI,ok.tJ,ok.bs,ok.cV,ok.XE,ok.XF,ok.Jm,ok.kQ⟩
section
variable {X:Cx}{pins:List (Addr×Obj)}{σ:St}{H:Hp}{s:Shared}{E:Value->Shared->Prop}
theorem Inv.Ol (I:Inv X pins σ H s)(E:Value->Shared->Prop):Inv (X.Ol E) pins σ H s:=⟨I.ok.Ol E,I.os,I.bare,I.base,I.loc,I.cell,I.free,I.Fd,I.pin,I.Au,I.len⟩
theorem Inv.Gn (I:Inv (X.Ol E) pins σ H s):Inv X pins σ H s:=⟨I.ok.Gn,I.os,I.bare,I.base,I.loc,I.cell,I.free,I.Fd,I.pin,I.Au,I.len⟩
theorem SP.Gn {D:Ends}{f:Flow}{s':Shared}(h:SP (X.Ol E) pins D f s'):SP X pins D f s':=by
 cases f with
 |next|brk|cont=>obtain⟨σ',H',I,q⟩:=h;exact⟨σ',H',I.Gn,q⟩
 |ret u=>obtain⟨v,σ',H',I,r,q⟩:=h;exact⟨v,σ',H',I.Gn,r,q⟩
theorem UN.pX {st:List Stmt}{t:TS}(h:UN X.pX st t):UN X st t:=λ pins s σ H D I hw =>
 wpAny_mono (h pins s σ H D (I.Ol _) hw) (λ _ _ q=>q.Gn) λ _ _ z=>zbv z
end
section
variable {X:Cx}{st:Stmt}{rest:List Stmt}{t u:TS}{e:Expr}{te:TE}{pos:Pos}
noncomputable def pY:TS:=λ D σ H=>D.nx σ H
noncomputable def uK (t u:TS):TS:=λ D σ H=>t {D with nx:=u D} σ H
theorem cY:UN X [] pY:=λ _ _ σ H _ I h=>wpAny_execs_nil ⟨σ,H,I,h⟩
theorem XI (h1:PS X st t)(h2:UN X rest u):UN X (st::rest) (uK t u):=by
 intro pins s σ H D I h;refine wpAny_execs_cons (Bc (h1 pins s σ H {D with nx:=u D} I h) λ f s1 q=>?_);cases f with
 |next =>
  obtain⟨σ',H',I',q⟩:=q;exact h2 pins s1 σ' H' D I' q
 |ret v|brk|cont=>exact q
theorem cZ (h1:PS X st t):UN X [st] t:=by
 intro pins s σ H D I h;refine wpAny_execs_cons (Bc (h1 pins s σ H D I h) λ f s1 q=>?_);cases f with
 |next=>exact wpAny_execs_nil q
 |ret v|brk|cont=>exact q
theorem Inv.quiet {pins:List (Addr×Obj)}{σ:St}{H:Hp}{s:Shared}(I:Inv X pins σ H s):interactive X.env=false:=by simp[interactive,I.ok.kind]
noncomputable def pZ (te:TE):TS:=λ D σ H=>te σ H λ _ H1=>D.nx σ H1
theorem Jp (he:PE X e te)(hs:swapsWith e none pos.line X.env=pure false:=by rfl):PS X (.Expr e pos) (pZ te):=by
 intro pins s σ H D I h;exact wpAny_Expr_any (Bc (he pins s σ H _ I h) λ v s1 ⟨x,H1,I1,r1,q1⟩=>⟨σ,H1,I1,q1⟩) I.quiet hs
noncomputable def uL (te:TE):TS:=λ D σ H=>te σ H D.rt
theorem Te (he:PE X e te):PS X (.Return (some e) pos) (uL te):=by
 intro pins s σ H D I h;exact wpAny_Return_some (Bc (he pins s σ H _ I h) λ v s1 ⟨x,H1,I1,r1,q1⟩=>⟨x,σ,H1,I1,r1,q1⟩)
noncomputable def uM (c:TT)(t u:TS):TS:=λ D σ H=>c σ H λ b H1=>if b=true then t D σ H1 else u D σ H1
theorem qA {c:Expr}{a b:List Stmt}{tc:TT}(hc:PT X c tc)(ha:UN X a t)(hb:UN X b u):PS X (.If c a b pos) (uM tc t u):=by
 intro pins s σ H D I h;refine wpAny_If (Bc (hc pins s σ H _ I h) λ d s1 ⟨H1,I1,q1⟩=>?_);cases d with
 |true=>exact ha pins s1 σ H1 D I1 q1
 |false=>exact hb pins s1 σ H1 D I1 q1
end
noncomputable abbrev TG:=V->St->Hp->(St->Hp->Prop)->Prop
noncomputable abbrev Xs:=List V->St->Hp->(St->Hp->Prop)->Prop
def PG (X:Cx)(target:Expr)(t:TG):Prop:=
 ∀(pins:List (Addr×Obj)) (s:Shared) (σ:St) (H:Hp) (v:V) (u:Value) (Q:St->Hp->Prop),Inv X pins σ H s->RelV v u->t v σ H Q->
  wpAny (model X.prog X.w) X.A (assign target X.env u) (λ _ s'=>∃σ' H',Inv X pins σ' H' s'/\Q σ' H') X.xe s
def oW (X:Cx)(ts:List Expr)(t:Xs):Prop:=
 ∀(pins:List (Addr×Obj)) (s:Shared) (σ:St) (H:Hp) (vs:List V) (us:List Value) (Q:St->Hp->Prop),Inv X pins σ H s->Vals vs us->t vs σ H Q->
  wpAny (model X.prog X.w) X.A (assignInOrder ((assignEach ts X.env).map (·.2)) us) (λ _ s'=>∃σ' H',Inv X pins σ' H' s'/\Q σ' H') X.xe s
noncomputable abbrev lC:=V->V->V->Hp->(Hp->Prop)->Prop
def qB (X:Cx)(t:lC):Prop:=
 ∀(pins:List (Addr×Obj)) (s:Shared) (σ:St) (H:Hp) (o i v:V) (ov iv u:Value) (Q:Hp->Prop),Inv X pins σ H s->RelV o ov->RelV i iv->RelV v u->t o i v H Q->
  wpAny (model X.prog X.w) X.A (setItem ov iv u) (λ _ s'=>∃H',Inv X pins σ H' s'/\Q H') X.xe s
section
variable {X:Cx}{pos:Pos}
noncomputable def OQ (i:Nat):TG:=λ v σ H Q=>Q (σ.set i (some v)) H
theorem Q4 {i:Nat}{x:Str}(hN:X.N.Nodup)(hi:X.N[i]?=some x)(hx:Loc X.env.scope x)(hf:X.fn x=true\/X.env.scope.names.lookup x=some .local:=by first | exact .inl rfl | exact .inr rfl | assumption):PG X (.Name x pos) (OQ i):=by
 intro pins s σ H v u Q I r h;exact wpAny_assign_Name (Rj I hN hi hx r (λ s' I'=>⟨_,H,I',h⟩) hf)
noncomputable def lD:Xs:=λ vs σ H Q=>vs=[]/\Q σ H
noncomputable def XJ (t:TG)(u:Xs):Xs:=λ vs σ H Q=>∃v r,vs=v::r/\t v σ H λ σ' H'=>u r σ' H' Q
theorem UO:oW X [] lD:=by
 intro pins s σ H vs us Q I r h;obtain⟨e,h⟩:=h;subst e;cases r;exact assignInOrder_nil ⟨σ,H,I,h⟩
theorem Rm {e:Expr}{es:List Expr}{t:TG}{u:Xs}(h1:PG X e t)(h2:oW X es u)
 (hs:(assignEach (e::es) X.env).map (·.2)=assign e X.env::(assignEach es X.env).map (·.2):=by rfl):oW X (e::es) (XJ t u):=by
 intro pins s σ H vs us Q I r h;obtain⟨v,vr,e1,h⟩:=h;subst e1;cases r with
 |cons r rr =>
  rw[hs];refine assignInOrder_cons (Bc (h1 pins s σ H _ _ _ I r h) λ _ s1 ⟨σ1,H1,I1,q1⟩=>?_);exact h2 pins s1 σ1 H1 _ _ Q I1 rr q1
noncomputable def lE (K:zy)(n:Nat)(t:Xs):TG:=λ v σ H Q=>∃a xs,v=.ref a/\EL K H a xs/\xs.length=n/\t xs σ H Q
theorem XM {es:List Expr}{k:Nat}{t:Xs}{n:Nat}(hc:X.calm=true)(h:oW X es t)
 (hn:(assignEach es X.env).length=n:=by rfl) (aR:(assignEach es X.env).findIdx? (·.1)=none:=by rfl):PG X (.Tuple es k pos) (lE X.K n t):=by
 intro pins s σ H v u Q I r hw;obtain⟨a,xs,e1,hq,hl,hw⟩:=hw;subst e1;cases r;obtain⟨aa,rv,ht,hz⟩:=I.tuple hq;refine assign_Tuple_tuple (I.ok.hd hc) ht (by simp[hn,<-hl,rv.length]) aR λ h' hx=>?_;have I1:Inv X pins σ H {s with heap:=h' }:=I.kept (t':=s.toks) λ b o e=>hx b o (zX (zT e)) e;exact h pins _ σ H xs _ Q I1 (by simpa using rv) hw
noncomputable def uN (to ti:TE)(t:lC):TG:=λ v σ H Q=>to σ H λ o H1=>ti σ H1 λ i H2=>t o i v H2 λ H3=>Q σ H3
theorem XN {o i:Expr}{to ti:TE}{t:lC}(ho:PE X o to)(hi:PE X i ti)(hs:qB X t)
 (ha:∀v,assign (.Subscript o i pos) X.env v=(do
  let ov <-holding [v] (eval o X.env);let iv <-holding [v,ov] (eval i X.env)
  standAt pos
  holding [v,ov,iv] (setItem ov iv v)
  release [v,ov,iv] []):=by intro _;rfl):PG X (.Subscript o i pos) (uN to ti t):=by
 intro pins s σ H v u Q I r h;rw[ha];refine wpAny_bind (wpAny_holding (Bc (ho pins s σ H _ I h) λ ov s1 ⟨x,H1,I1,r1,q1⟩=>?_));refine wpAny_bind (wpAny_holding (Bc (hi pins s1 σ H1 _ I1 q1) λ iv s2 ⟨y,H2,I2,r2,q2⟩=>?_));refine wpAny_bind (wpAny_standAt (wpAny_bind (wpAny_holding (Bc (hs pins s2 σ H2 x y v ov iv u _ I2 r1 r2 r q2) λ _ s3 ⟨H3,I3,q3⟩=>?_))));exact wpAny_release ⟨σ,H3,I3,q3⟩
noncomputable def qC (te:TE)(g:TG):TS:=λ D σ H=>te σ H λ x H1=>g x σ H1 D.nx
theorem Tf {tg e:Expr}{te:TE}{g:TG}(he:PE X e te)(hg:PG X tg g)(hs:swapsWithSole [tg] e pos.line X.env=pure false:=by rfl)(hw:swappedStores [tg] e X.env=pure none:=by rfl)
 (h1:(assignEach [tg] X.env).map (·.2)=[assign tg X.env]:=by rfl):PS X (.Assign [tg] e pos) (qC te g):=by
 intro pins s σ H D I h;refine wpAny_Assign_stores (Bc (he pins s σ H _ I h) λ v s1 ⟨x,H1,I1,r1,q1⟩=>?_) hs hw;rw[h1];exact Bc (hg pins s1 σ H1 x v _ I1 r1 q1) λ _ s2 q=>q
theorem XO {i:Nat}{x:Str}{e:Expr}{te:TE}{pos':Pos}(hN:X.N.Nodup)(hi:X.N[i]?=some x)(hx:Loc X.env.scope x)(he:PE X e te)(hs:swapsWith e (some (.Name x pos')) pos.line X.env=pure false:=by rfl)(hf:X.fn x=true\/X.env.scope.names.lookup x=some .local:=by first | exact .inl rfl | exact .inr rfl | assumption):
 PS X (.Assign [.Name x pos'] e pos) (qC te (OQ i)):=by
 intro pins s σ H D I h;refine wpAny_Assign_Name (Bc (he pins s σ H _ I h) λ v s1 ⟨y,H1,I1,r1,q1⟩=>?_) hs;exact Rj I1 hN hi hx r1 (λ s2 I2=>⟨_,H1,I2,q1⟩) hf
end
section
variable {X:Cx}{pos:Pos}
noncomputable def lF (c:TT)(tb:TS):TS:=λ D σ H=>∃W:Nat->St->Hp->Prop,(∃m,W m σ H)/\∀m σ H,W m σ H->
 c σ H λ b H1=>if b=true then ∃N:St->Hp->Prop,(∀σ' H',N σ' H'->∃m',m'<m/\W m' σ' H')/\tb {D with nx:=N,ct:=N,bk:=D.nx} σ H1 else D.nx σ H1
theorem XQ {c:Expr}{body:List Stmt}{tc:TT}{tb:TS}(hp:PassesOwn (model X.prog X.w) X.A X.env X.xe)(hc:PT X c tc)(hb:UN X body tb):PS X (.While c body [] pos) (lF tc tb):=by
 intro pins s σ H D I h;obtain⟨W,⟨m0,w0⟩,turn⟩:=h;refine wpAny_While (codeAny_whileLoop (λ n s'=>∃σ' H',Inv X pins σ' H' s'/\W n σ' H') ?_ m0 ⟨σ,H,I,w0⟩);rintro n s1 ⟨σ1,H1,I1,w1⟩;refine wpAny_passesOwn hp (Bc (hc pins s1 σ1 H1 _ I1 (turn n σ1 H1 w1)) λ b s2 ⟨H2,I2,q2⟩=>?_);cases b with
 |true =>
  obtain⟨N,hN,q2⟩:=q2;rw[if_pos rfl];refine wpAny_passesOwn hp (Bc (hb pins s2 σ1 H2 _ I2 q2) λ f s3 q3=>?_);cases f with
  |next =>
   obtain⟨σ3,H3,I3,n3⟩:=q3;obtain⟨m',hm,w3⟩:=hN σ3 H3 n3;exact⟨m',hm,σ3,H3,I3,w3⟩
  |cont =>
   obtain⟨σ3,H3,I3,n3⟩:=q3;obtain⟨m',hm,w3⟩:=hN σ3 H3 n3;exact⟨m',hm,σ3,H3,I3,w3⟩
  |brk|ret v=>exact q3
 |false =>
  rw[if_neg zaf];exact wpAny_execs_nil ⟨σ1,H2,I2,q2⟩
end
structure It where
 go:Nat->Hp->Prop
 cH:Nat->Hp->V->Hp->Prop
 stop:Nat->Hp->Prop
def LV (X:Cx)(pins:List (Addr×Obj))(H:Hp)(b:Addr):Prop:=
 H b=none/\b≠X.env.locals/\b∉X.fs/\(b∈X.ex\/X.s₀.heap.objs.size<=b)/\(∀x c,X.env.cells.lookup x=some c->c≠b)/\∀p∈X.pn++pins,p.1≠b
theorem Inv.W4 {X:Cx}{pins:List (Addr×Obj)}{σ:St}{H H':Hp}{s:Shared}{b:Addr}(I:Inv X pins σ H s)(hb:s.heap.objs.size<=b)(hn:H' b=none):LV X pins H' b:=by
 refine⟨hn,Nat.ne_of_gt (za3 I.lt hb),I.uE hb,.inr (zat I.sz hb),λ x c e z=>?_,λ p hp z=>?_⟩
 ·obtain⟨v,q⟩:=I.cell x c e;exact absurd (za3 q.lt (by rw[z];exact hb)) (Nat.lt_irrefl _)
 ·exact absurd (za3 (zT (I.pin p hp).1) (by rw[z];exact hb)) (Nat.lt_irrefl _)
structure Turn (P:Program)(w:World)(K:zy)(tg:Expr)(J:It)(fp:List Addr)(it:Addr)(tn:Nat->Heap->Prop):Prop where
 mem:it∈fp
 obj:∀i h,tn i h->∀b∈fp,∃o,h.get? b=some o/\∀v,o.data≠.cell v
 keep:∀i h h',tn i h->(∀b∈fp,∀o,h.get? b=some o->h'.get? b=some o)->tn i h'
 item:∀(X:Cx),X.prog=P->X.w=w->X.K=K->X.calm=true->∀(i:Nat) (pins:List (Addr×Obj)) (s:Shared) (σ:St) (H:Hp) (E:Value->Shared->Prop),Inv X pins σ H s->(∀b∈fp,LV X pins H b)->tn i s.heap->J.go i H->
  wpAny (model P w) X.A (pyNext (.ref it)) (λ r s1=>∃u,r=some u/\
   wpAny (model P w) X.A (letOwnedTupleGo tg (.ref it) u) (λ _ s2=>∃x H',Inv X pins σ H' s2/\RelV x u/\J.cH i H x H'/\tn (i+1) s2.heap/\∀b∈fp,H' b=none) E s1) E s
 done:∀(X:Cx),X.prog=P->X.w=w->X.K=K->X.calm=true->∀(i:Nat) (pins:List (Addr×Obj)) (s:Shared) (σ:St) (H:Hp) (E:Value->Shared->Prop),Inv X pins σ H s->(∀b∈fp,LV X pins H b)->tn i s.heap->J.stop i H->
  wpAny (model P w) X.A (pyNext (.ref it)) (λ r s1=>r=none/\Inv X pins σ H s1) E s
 self:∀(A:Around) (i:Nat) (s:Shared) (Q:Value->Shared->Prop) (E:Value->Shared->Prop),tn i s.heap->Q (.ref it) s->wpAny (model P w) A (pyIter (.ref it)) Q E s
noncomputable abbrev TI:=St->Hp->(It->Hp->Prop)->Prop
def uO (X:Cx)(pins:List (Addr×Obj))(σ:St)(tg:Expr)(R:It->Hp->Prop)(ml:Value)(s2:Shared):Prop:=
 ∃(it:Addr) (fp:List Addr) (tn:Nat->Heap->Prop) (J:It) (H':Hp),ml=.ref it/\Inv X pins σ H' s2/\Turn X.prog X.w X.K tg J fp it tn/\tn 0 s2.heap/\(∀b∈fp,LV X pins H' b)/\R J H'
def PI (X:Cx)(tg iter:Expr)(wi:TI):Prop:=
 ∀(pins:List (Addr×Obj)) (s:Shared) (σ:St) (H:Hp) (R:It->Hp->Prop),Inv X pins σ H s->wi σ H R->
  wpAny (model X.prog X.w) X.A (eval iter X.env) (λ v s1=>wpAny (model X.prog X.w) X.A (pyIter v) (uO X pins σ tg R) X.xe s1) X.xe s
theorem UP {M:Model}{A:Around}{E:Value->Shared->Prop}{s:Shared}{tg:Expr}{it:Addr}{u:Value}{o:Obj}{n:String}{vs:Array Value}{Q:Unit->Shared->Prop}(ho:s.heap.get? it=some o)(hc:o.cls=.type n)(hd:o.data=.fields vs)
 (hn:["enumerate","zip","dict_itemiterator","dict_reverseitemiterator","odict_iterator","itertools.zip_longest","itertools.pairwise"].contains n=false) (hQ:Q () s):wpAny M A (letOwnedTupleGo tg (.ref it) u) Q E s:=by
 unfold letOwnedTupleGo;cases tg<;>first
  |exact wpAny_pure hQ
  |(cases u<;>first
   |exact wpAny_pure hQ
   |(
    refine wpAny_bind (wpAny_load ho ?_);rw[hc,hd];show wpAny M A (if (["enumerate","zip","dict_itemiterator","dict_reverseitemiterator","odict_iterator","itertools.zip_longest","itertools.pairwise"].contains n&&vs[0]?== some (rawInt _))=true then _ else _) Q E s;rw[if_neg (by intro h;rw[hn,Bool.false_and] at h;cases h)];exact wpAny_pure hQ))
noncomputable def vW (K:zy)(a:Addr):It:=
 ⟨λ i H=>∃xs x,DF K H a xs/\xs[i]?=some x,λ i H x H'=>H'=H/\∀xs,DF K H a xs->xs[i]?=some x,λ i H=>∃xs,DF K H a xs/\xs.length<=i⟩
noncomputable def vX (K:zy)(a:Addr):It:=
 ⟨λ i H=>∃xs x,EL K H a xs/\xs[i]?=some x,λ i H x H'=>H'=H/\∀xs,EL K H a xs->xs[i]?=some x,λ i H=>∃xs,EL K H a xs/\xs.length<=i⟩
noncomputable def tK (lo:Int)(n:Nat):It:=⟨λ i _=>i<n,λ i H x H'=>H'=H/\x=.int (lo+i),λ i _=>n<=i⟩
theorem W5 {P:Program}{w:World}{K:zy}{tg:Expr}(a it:Addr):Turn P w K tg (vW K a) [it] it (λ i h=>h.IsListIter it a i) where
 mem:=by simp
 obj:=λ i h st b hb=>by
  have e:b=it:=by simpa using hb
  subst e;obtain⟨o,e,c,d⟩:=st;exact⟨o,e,λ v z=>by rw[d] at z;cases z⟩
 keep:=λ i h h' st k=>st.at λ o e=>k it (by simp) o e
 item:=by
  intro X hP hw hK hc i pins s σ H E I hf st hg;subst hP hw hK;obtain⟨xs,x,hq,hx⟩:=hg;obtain⟨aa,rv,p,hz⟩:=I.list hq;obtain⟨u,hu,ru⟩:=rv.get hx;obtain⟨f0,f1,f2,f3,f4,f5⟩:=hf it (by simp);refine wpAny_pyNext_list_item st p.isList (x:=u) (by simpa using hu) λ h' bT sb=>?_;have I1:Inv X pins σ H {s with heap:=h' }:=I.turned (t':=s.toks) (λ b o hb e=>(sb.2 b hb).trans e) f0 f1 f3 f4 f5;obtain⟨o,e,c,d⟩:=id bT;exact⟨u,rfl,UP (s:={s with heap:=h' }) e c d (by decide) ⟨x,H,I1,ru,⟨rfl,λ ys hy=>by rw[I.Jo hy hq];exact hx⟩,bT,λ b hb=>(hf b hb).1⟩⟩
 done:=by
  intro X hP hw hK hc i pins s σ H E I hf st hg;subst hP hw hK;obtain⟨xs,hq,hx⟩:=hg;obtain⟨aa,rv,p,hz⟩:=I.list hq;obtain⟨f0,f1,f2,f3,f4,f5⟩:=hf it (by simp);have hl:=rv.length;exact wpAny_pyNext_list_end (I.ok.hd hc) st p.isList (by simp;omega) λ h' eb=>⟨rfl,I.turned (t':=s.toks) (λ b o hb e=>eb b o hb e) f0 f1 f3 f4 f5⟩
 self:=λ _ _ _ _ _ st h=>wpAny_pyIter_listiter st h
theorem Tg {P:Program}{w:World}{K:zy}{tg:Expr}(a it:Addr):Turn P w K tg (vX K a) [it] it (λ i h=>h.IsTupleIter it a i) where
 mem:=by simp
 obj:=λ i h st b hb=>by
  have e:b=it:=by simpa using hb
  subst e;obtain⟨o,e,c,d⟩:=st;exact⟨o,e,λ v z=>by rw[d] at z;cases z⟩
 keep:=λ i h h' st k=>st.at λ o e=>k it (by simp) o e
 item:=by
  intro X hP hw hK hc i pins s σ H E I hf st hg;subst hP hw hK;obtain⟨xs,x,hq,hx⟩:=hg;obtain⟨aa,rv,p,hz⟩:=I.tuple hq;obtain⟨u,hu,ru⟩:=rv.get hx;obtain⟨f0,f1,f2,f3,f4,f5⟩:=hf it (by simp);refine wpAny_pyNext_tuple_item st (show s.heap.IsTuple a aa.toArray from p) (x:=u) (by simpa using hu) λ h' bT sb=>?_;have I1:Inv X pins σ H {s with heap:=h' }:=I.turned (t':=s.toks) (λ b o hb e=>(sb.2 b hb).trans e) f0 f1 f3 f4 f5;obtain⟨o,e,c,d⟩:=id bT;exact⟨u,rfl,UP (s:={s with heap:=h' }) e c d (by decide) ⟨x,H,I1,ru,⟨rfl,λ ys hy=>by rw[I.Fe hy hq];exact hx⟩,bT,λ b hb=>(hf b hb).1⟩⟩
 done:=by
  intro X hP hw hK hc i pins s σ H E I hf st hg;subst hP hw hK;obtain⟨xs,hq,hx⟩:=hg;obtain⟨aa,rv,p,hz⟩:=I.tuple hq;obtain⟨f0,f1,f2,f3,f4,f5⟩:=hf it (by simp);have hl:=rv.length;exact wpAny_pyNext_tuple_end (I.ok.hd hc) st (show s.heap.IsTuple a aa.toArray from p) (by simp;omega) λ h' eb=>⟨rfl,I.turned (t':=s.toks) (λ b o hb e=>eb b o hb e) f0 f1 f3 f4 f5⟩
 self:=λ _ _ _ _ _ st h=>wpAny_pyIter_tupleiter st h
theorem Th {P:Program}{w:World}{K:zy}{tg:Expr}(it:Addr)(lo:Int)(n:Nat):Turn P w K tg (tK lo n) [it] it (λ i h=>IsRangeIter h it (lo+(i:Nat)*1) ((n:Int)-(i:Nat)) 1) where
 mem:=by simp
 obj:=λ i h st b hb=>by
  have e:b=it:=by simpa using hb
  subst e;exact⟨_,st,λ v z=>by
   have z':Data.fields _=Data.cell v:=z;cases z'⟩
 keep:=λ i h h' st k=>k it (by simp) _ st
 item:=by
  intro X hP hw hK hc i pins s σ H E I hf st hg;subst hP hw hK;obtain⟨f0,f1,f2,f3,f4,f5⟩:=hf it (by simp);have W:=Walks.range (prog:=X.prog) (w:=X.w) (I.ok.hd hc) it lo 1 n;refine W.item i s _ _ hg st λ v h' tk hv bT kk=>?_;obtain⟨t,rfl⟩:=hv;have I1:Inv X pins σ H {s with heap:=h',toks:=tk}:=I.turned (λ b o hb e=>kk b o (by simpa using hb) e) f0 f1 f3 f4 f5;refine⟨_,rfl,UP (s:={s with heap:=h',toks:=tk}) (n := "range_iterator") bT rfl rfl (by decide) ⟨.int (lo+i),H,I1,⟨t,?_⟩,⟨rfl,rfl⟩,bT,λ b hb=>(hf b hb).1⟩⟩;rw[Int.mul_one]
 done:=by
  intro X hP hw hK hc i pins s σ H E I hf st hg;subst hP hw hK;obtain⟨f0,f1,f2,f3,f4,f5⟩:=hf it (by simp);exact wpAny_pyNext_range_end (I.ok.hd hc) st (by have:n<=i:=hg;omega) λ h' eb=>⟨rfl,I.turned (t':=s.toks) (λ b o hb e=>eb b o hb e) f0 f1 f3 f4 f5⟩
 self:=λ _ _ _ _ _ st h=>wpAny_pyIter_rangeiter st h
section
variable {X:Cx}{tg:Expr}
noncomputable def qD (K:zy)(tl:TE):TI:=λ σ H R=>tl σ H λ x H1=>∃a,x=.ref a/\(∃xs,DF K H1 a xs)/\R (vW K a) H1
noncomputable def uP (K:zy)(tl:TE):TI:=λ σ H R=>tl σ H λ x H1=>∃a,x=.ref a/\(∃xs,EL K H1 a xs)/\R (vX K a) H1
theorem dA {l:Expr}{tl:TE}(hl:PE X l tl):PI X tg l (qD X.K tl):=by
 intro pins s σ H R I h;refine Bc (hl pins s σ H _ I h) λ v s1 ⟨x,H1,I1,r1,q1⟩=>?_;obtain⟨a,e,⟨xs,hq⟩,q⟩:=q1;subst e;cases r1;obtain⟨aa,rv,p,hz⟩:=I1.list hq;refine wpAny_pyIter_list p.isList ?_;refine⟨s1.heap.objs.size,[s1.heap.objs.size],_,_,H1,rfl,I1.kept (t':=s1.toks) λ b o e=>zI _ e,W5 a _,⟨_,zZ _ rfl,rfl,rfl⟩,λ b hb=>?_,q⟩;have e:b=s1.heap.objs.size:=by simpa using hb
 subst e;exact I1.W4 (zU _) (I1.Au.fresh (zU _))
theorem lG {l:Expr}{tl:TE}(hl:PE X l tl):PI X tg l (uP X.K tl):=by
 intro pins s σ H R I h;refine Bc (hl pins s σ H _ I h) λ v s1 ⟨x,H1,I1,r1,q1⟩=>?_;obtain⟨a,e,⟨xs,hq⟩,q⟩:=q1;subst e;cases r1;obtain⟨aa,rv,p,hz⟩:=I1.tuple hq;refine wpAny_pyIter_tuple (show s1.heap.IsTuple a aa.toArray from p) ?_;refine⟨s1.heap.objs.size,[s1.heap.objs.size],_,_,H1,rfl,I1.kept (t':=s1.toks) λ b o e=>zI _ e,Tg a _,⟨_,zZ _ rfl,rfl,rfl⟩,λ b hb=>?_,q⟩;have e:b=s1.heap.objs.size:=by simpa using hb
 subst e;exact I1.W4 (zU _) (I1.Au.fresh (zU _))
theorem XR {pins:List (Addr×Obj)}{σ:St}{H:Hp}{s:Shared}{R:It->Hp->Prop}{E:Value->Shared->Prop}{lo hi:Int}{t u v:Tok}{tk:Nat}(I:Inv X pins σ H s)(h1 : -(2^62)<=lo)(h2:lo<2^62)(h3 : -(2^62)<=hi)(h4:hi<2^62)
 (q:R (tK lo (hi-lo).toNat) H):wpAny (model X.prog X.w) X.A (pyIter (.ref s.heap.objs.size)) (uO X pins σ tg R) E {s with heap:=s.heap.push {cls:=.type "range",data:=.fields #[.int lo t,.int hi u,.int 1 v]},toks:=tk}:=by
 refine wpAny_pyIter_range (IsRange.new ..) (small_one h1 h2 h3 h4) ?_;have I1:Inv X pins σ H {s with heap:=s.heap.push {cls:=.type "range",data:=.fields #[.int lo t,.int hi u,.int 1 v]},toks:=tk}:=I.kept λ b o e=>zI _ e;refine⟨(s.heap.push {cls:=.type "range",data:=.fields #[.int lo t,.int hi u,.int 1 v]}).objs.size,[(s.heap.push {cls:=.type "range",data:=.fields #[.int lo t,.int hi u,.int 1 v]}).objs.size],_,_,H,rfl,
  I1.kept (t':=tk) λ b o e=>zI _ e,Th _ lo (hi-lo).toNat,?_,λ b hb=>?_,q⟩
 ·have e1:lo+((0:Nat):Int)*1=lo:=by simp
  have e2:(((hi-lo).toNat:Nat):Int)-((0:Nat):Int)=Builtin.Range.rangeSize lo hi 1:=by rw[rangeSize_one];split<;>omega
  show IsRangeIter _ _ (lo+((0:Nat):Int)*1) ((((hi-lo).toNat:Nat):Int)-((0:Nat):Int)) 1;rw[e1,e2];exact zZ _ rfl
 ·have e:b=(s.heap.push {cls:=.type "range",data:=.fields #[.int lo t,.int hi u,.int 1 v]}).objs.size:=by simpa using hb
  subst e;exact I1.W4 (zU _) (I1.Au.fresh (zU _))
noncomputable def qE (ta:TA):TI:=λ σ H R=>ta σ H λ vs H1=>∃j:Int,vs=[.int j]/\-(2^62)<=j/\j<2^62/\R (tK 0 j.toNat) H1
theorem W6 {a:Expr}{ta:TA}{p pos:Pos}(hg:Gl X "range")(hm:X.mg "range" = none)(ha:PA X [a] ta)(hs:starEach [a] X.env=[(false,eval a X.env)]:=by rfl):PI X tg (.Call (.Name "range" p) [a] [] pos) (qE ta):=by
 intro pins s σ H R I h;refine Call_ (Ed I hg hm boot_range (zay (Bc (ha pos pins s σ H _ I h) λ us s1 ⟨vs,H1,I1,r1,q1⟩=>?_) hs rfl));obtain⟨j,e,q1,q2,q⟩:=q1;subst e;cases r1 with
 |cons r rr =>
  cases rr;obtain⟨t,rfl⟩:=r;exact call_range_1 (XR I1 (by omega) (by omega) q1 q2 (by simpa using q))
noncomputable def uQ (wi:TI)(g:TG)(tb:TS):TS:=λ D σ H=>wi σ H λ J H1=>∃W:Nat->Nat->St->Hp->Prop,(∃m,W 0 m σ H1)/\∀i m σ H,W i m σ H->
 (J.stop i H/\D.nx σ H)\/(J.go i H/\∃N:St->Hp->Prop,(∀σ' H',N σ' H'->∃m',m'<m/\W (i+1) m' σ' H')/\∀x H',J.cH i H x H'->g x σ H' λ σ2 H2=>tb {D with nx:=N,ct:=N,bk:=D.nx} σ2 H2)
noncomputable def IC (fp:List Addr)(h:Heap):List (Addr×Obj):=fp.filterMap λ b=>(h.get? b).map λ o=>(b,o)
theorem Fq {fp:List Addr}{h:Heap}{b:Addr}{o:Obj}(hb:b∈fp)(e:h.get? b=some o):(b,o)∈IC fp h:=List.mem_filterMap.mpr ⟨b,hb,by rw[e];rfl⟩
theorem OR {fp:List Addr}{h:Heap}{p:Addr×Obj}(hp:p∈IC fp h):p.1∈fp/\h.get? p.1=some p.2:=by
 obtain⟨b,hb,e⟩:=List.mem_filterMap.mp hp;cases q:h.get? b with
 |none=>rw[q] at e;cases e
 |some o =>
  rw[q] at e;have e':(b,o)=p:=za6 e;subst e';exact⟨hb,q⟩
theorem Inv.pinned {pins:List (Addr×Obj)}{σ:St}{H:Hp}{s:Shared}{fp:List Addr}(I:Inv X pins σ H s)(hf:∀b∈fp,LV X pins H b)(ho:∀b∈fp,∃o,s.heap.get? b=some o/\∀v,o.data≠.cell v):Inv X (pins++IC fp s.heap) σ H s:=
 I.Jn λ p hp=>(za5.mp hp).elim (λ z=>I.pin p (zN _ z)) λ z=>by
  obtain⟨hb,e⟩:=OR z;obtain⟨f0,f1,f2,_⟩:=hf p.1 hb;obtain⟨o,e',d⟩:=ho p.1 hb;rw[e] at e';cases e';exact⟨e,f0,f1,f2,d⟩
theorem Inv.Jq {pins pl:List (Addr×Obj)}{σ:St}{H:Hp}{s:Shared}(I:Inv X (pins++pl) σ H s):Inv X pins σ H s:=I.Jn λ p hp=>I.pin p (zN _ (zae _ hp))
theorem lH {iter:Expr}{body:List Stmt}{wi:TI}{g:TG}{tb:TS}{pos:Pos}(hp:PassesOwn (model X.prog X.w) X.A X.env X.xe)(hc:X.calm=true)(hi:PI X tg iter wi)(hg:PG X tg g)(hb:UN X body tb)
 (hs:∀x,foldedSetIterable iter X.env x=pure x:=by intro _;rfl):PS X (.For tg iter body [] pos) (uQ wi g tb):=by
 intro pins s σ H D I h;refine wpAny_For (Bc (hi pins s σ H _ I h) λ v s1 h1=>Bc h1 λ ml s2 h2=>?_) hs;obtain⟨it,fp,tn,J,H2,e,I2,T,da,f2,W,⟨m0,w0⟩,turn⟩:=h2;subst e;have bA:∀ {H':Hp},(∀b∈fp,H' b=none)->∀b∈fp,LV X pins H' b:=λ hn b hb=>⟨hn b hb,(f2 b hb).2⟩;refine codeAny_forLoop_any (λ n s'=>∃i σ' H',Inv X pins σ' H' s'/\tn i s'.heap/\(∀b∈fp,H' b=none)/\W i n σ' H') ?_ m0 ⟨0,σ,H2,I2,da,λ b hb=>(f2 b hb).1,w0⟩;rintro n s3 ⟨i,σ3,H3,I3,ji,jj,w3⟩;rcases turn i n σ3 H3 w3 with ⟨stop,qn⟩|⟨go,N,hN,step⟩
 ·refine wpAny_passesOwn hp (Bc (T.done X rfl rfl rfl hc i pins s3 σ3 H3 X.xe I3 (bA jj) ji stop) λ r s4 ⟨hr,I4⟩=>?_);subst hr;exact wpAny_execs_nil ⟨σ3,H3,I4,qn⟩
 ·refine wpAny_passesOwn hp (Bc (T.item X rfl rfl rfl hc i pins s3 σ3 H3 X.xe I3 (bA jj) ji go) λ r s4 ⟨u,hr,h4⟩=>?_);subst hr;refine wpAny_passesOwn hp (Bc h4 λ _ s5 ⟨x,H5,I5,r5,y5,fm,n4⟩=>?_);have n5:=I5.pinned (bA n4) (T.obj _ _ fm);refine wpAny_passesOwn hp (Bc (hg _ s5 σ3 H5 x u _ n5 r5 (step x H5 y5)) λ _ s6 ⟨σ6,H6,I6,q6⟩=>?_);refine wpAny_passesOwn hp (Bc (hb _ s6 σ6 H6 _ I6 q6) λ f s7 q7=>?_);have again:∀ {σ7:St} {H7:Hp},Inv X (pins++IC fp s5.heap) σ7 H7 s7->N σ7 H7->∃m,m<n/\∃i σ' H',Inv X pins σ' H' s7/\tn i s7.heap/\(∀b∈fp,H' b=none)/\W i m σ' H':=fun {σ7 H7} I7 n7=>by
   obtain⟨m',hm,w7⟩:=hN σ7 H7 n7;refine⟨m',hm,i+1,σ7,H7,I7.Jq,T.keep _ _ _ fm λ b hb o e=>(I7.pin (b,o) (zN _ (zN _ (Fq hb e)))).1,λ b hb=>?_,w7⟩;obtain⟨o,e,d⟩:=T.obj _ _ fm b hb;exact (I7.pin (b,o) (zN _ (zN _ (Fq hb e)))).2.1
  cases f with
  |next|cont=>obtain⟨σ7,H7,I7,n7⟩:=q7;exact again I7 n7
  |brk=>obtain⟨σ7,H7,I7,q7⟩:=q7;exact⟨σ7,H7,I7.Jq,q7⟩
  |ret v=>obtain⟨x7,σ7,H7,I7,r7,q7⟩:=q7;exact⟨x7,σ7,H7,I7.Jq,r7,q7⟩
end
noncomputable abbrev R2:=V->V->Hp->VK->Prop
def Gp (X:Cx)(f:Value->Value->Sem Value)(r:R2):Prop:=
 ∀(pins:List (Addr×Obj)) (s:Shared) (σ:St) (H:Hp) (x y:V) (v u:Value) (Q:VK),Inv X pins σ H s->RelV x v->RelV y u->r x y H Q->
  wpAny (model X.prog X.w) X.A (f v u) (EP X pins σ Q) X.xe s
def uR (X:Cx)(f:Value->Sem Value)(r:V->Hp->VK->Prop):Prop:=
 ∀(pins:List (Addr×Obj)) (s:Shared) (σ:St) (H:Hp) (x:V) (v:Value) (Q:VK),Inv X pins σ H s->RelV x v->r x H Q->
  wpAny (model X.prog X.w) X.A (f v) (EP X pins σ Q) X.xe s
def G0 (X:Cx)(f:Value)(r:List V->Hp->VK->Prop):Prop:=
 ∀(pins:List (Addr×Obj)) (s:Shared) (σ:St) (H:Hp) (xs:List V) (us:List Value) (Q:VK),Inv X pins σ H s->Vals xs us->r xs H Q->
  wpAny (model X.prog X.w) X.A (call f us) (EP X pins σ Q) X.xe s
def uS (X:Cx)(r:V->Hp->(Bool->Hp->Prop)->Prop):Prop:=
 ∀(pins:List (Addr×Obj)) (s:Shared) (σ:St) (H:Hp) (x:V) (v:Value) (Q:Bool->Hp->Prop),Inv X pins σ H s->RelV x v->r x H Q->
  wpAny (model X.prog X.w) X.A (truthy v) (TP X pins σ Q) X.xe s
noncomputable def oX (r:R2)(ta tb:TE):TE:=λ σ H Q=>ta σ H λ x H1=>tb σ H1 λ y H2=>r x y H2 Q
noncomputable def xC (r:V->Hp->VK->Prop)(ta:TE):TE:=λ σ H Q=>ta σ H λ x H1=>r x H1 Q
noncomputable def rI (C:Int->Int->Prop)(g:Int->Int->V):R2:=λ x y H Q=>∃i j,x=.int i/\y=.int j/\C i j/\Q (g i j) H
noncomputable def cI (g:Int->Int->V):R2:=λ x y H Q=>∃i j,x=.int i/\y=.int j/\Q (g i j) H
def rU (g:Int->V):V->Hp->VK->Prop:=λ x H Q=>∃i,x=.int i/\Q (g i) H
section
variable {X:Cx}{a b c:Expr}{ta tb tc:TE}{pos:Pos}
theorem lI (ha:PE X a ta)(hb:PE X b tb){pins:List (Addr×Obj)}{s:Shared}{σ:St}{H:Hp}{R:V->V->Hp->Prop}(I:Inv X pins σ H s)
 (h:ta σ H λ x H1=>tb σ H1 λ y H2=>R x y H2) {Q:Value->Shared->Prop} {f:Value->Value->Sem Value}
 (hf:∀v u s2 x y H2,Inv X pins σ H2 s2->RelV x v->RelV y u->R x y H2->wpAny (model X.prog X.w) X.A (f v u) Q X.xe s2):
 wpAny (model X.prog X.w) X.A (eval a X.env) (λ v s₁=>wpAny (model X.prog X.w) X.A (eval b X.env) (λ u s₂=>wpAny (model X.prog X.w) X.A (f v u) Q X.xe s₂) X.xe s₁) X.xe s:=by
 refine Bc (ha pins s σ H _ I h) λ v s1 ⟨x,H1,I1,r1,q1⟩=>?_;refine Bc (hb pins s1 σ H1 _ I1 q1) λ u s2 ⟨y,H2,I2,r2,q2⟩=>?_;exact hf v u s2 x y H2 I2 r1 r2 q2
theorem XS {op:Operator}{r:R2}(ho:Gp X (binaryOp op) r)(ha:PE X a ta)(hb:PE X b tb):PE X (.BinOp a op b pos) (oX r ta tb):=by
 intro pins s σ H Q I h;exact wpAny_BinOp (lI ha hb I h λ v u s2 x y H2 I2 rx ry q=>ho pins s2 σ H2 x y v u Q I2 rx ry q)
theorem qG {op:UnaryOp}{r:V->Hp->VK->Prop}(ho:uR X (unaryOp op) r)(ha:PE X a ta):PE X (.UnaryOp op a pos) (xC r ta):=by
 intro pins s σ H Q I h;exact UnaryOp_ (Bc (ha pins s σ H _ I h) λ v s1 ⟨x,H1,I1,r1,q1⟩=>ho pins s1 σ H1 x v Q I1 r1 q1)
theorem tL {f:Value->Value->Sem Value}{C:Int->Int->Prop}{g:Int->Int->Int}
 (rule:∀(i j:Int) (t u:Tok) (s:Shared) (Q:Value->Shared->Prop) (E:Value->Shared->Prop),C i j->Q (.int (g i j) s.toks) {s with toks:=s.toks+1}->wpAny (model X.prog X.w) X.A (f (.int i t) (.int j u)) Q E s):
 Gp X f (rI C λ i j=>.int (g i j)):=by
 intro pins s σ H x y v u Q I rx ry h;obtain⟨i,j,rfl,rfl,hc,q⟩:=h;obtain⟨t,rfl⟩:=rx;obtain⟨t',rfl⟩:=ry;exact rule i j t t' s _ _ hc ⟨.int (g i j),H,I.tok _,⟨_,rfl⟩,q⟩
theorem qH {f:Value->Value->Sem Value}{g:Int->Int->Int}
 (rule:∀(i j:Int) (t u:Tok) (s:Shared) (Q:Value->Shared->Prop) (E:Value->Shared->Prop),Q (.int (g i j) s.toks) {s with toks:=s.toks+1}->wpAny (model X.prog X.w) X.A (f (.int i t) (.int j u)) Q E s):
 Gp X f (cI λ i j=>.int (g i j)):=by
 intro pins s σ H x y v u Q I rx ry h;obtain⟨i,j,rfl,rfl,q⟩:=h;obtain⟨t,rfl⟩:=rx;obtain⟨t',rfl⟩:=ry;exact rule i j t t' s _ _ ⟨.int (g i j),H,I.tok _,⟨_,rfl⟩,q⟩
theorem lJ {f:Value->Value->Sem Value}{g:Int->Int->Bool}
 (rule:∀(i j:Int) (t u:Tok) (s:Shared) (Q:Value->Shared->Prop) (E:Value->Shared->Prop),Q (.bool (g i j)) s->wpAny (model X.prog X.w) X.A (f (.int i t) (.int j u)) Q E s):
 Gp X f (cI λ i j=>.bl (g i j)):=by
 intro pins s σ H x y v u Q I rx ry h;obtain⟨i,j,rfl,rfl,q⟩:=h;obtain⟨t,rfl⟩:=rx;obtain⟨t',rfl⟩:=ry;exact rule i j t t' s _ _ ⟨.bl (g i j),H,I,rfl,q⟩
def XT (i j:Int):Prop:=0<j/\j<1073741824
def dB (i j:Int):Prop:=0<=j/\j<=1000000/\i.natAbs<2^64
def XU (i j:Int):Prop:=(-(2^64)<i/\i<2^64)\/(-(2^64)<j/\j<2^64)
theorem XU.ok {i j:Int}(h:XU i j):IntMulOk i j:=by
 rcases h with ⟨h1,h2⟩|⟨h1,h2⟩
 ·exact .of_left (intBits_le_64 h1 h2)
 ·exact .of_right (intBits_le_64 h1 h2)
theorem lK:Gp X (binaryOp .Add) (cI λ i j=>.int (i+j)):=qH λ _ _ _ _ _ _ _ q=>add_int q
theorem lL:Gp X (binaryOp .Sub) (cI λ i j=>.int (i-j)):=qH λ _ _ _ _ _ _ _ q=>sub_int q
theorem dC:Gp X (binaryOp .FloorDiv) (rI XT λ i j=>.int (i / j)):=tL λ i j _ _ _ _ _ hc q=>by
 have h1:(0:Int)<j:=hc.1;have h2:j<1073741824:=hc.2;exact floordiv_int (by omega) (by rw[Int.fdiv_eq_ediv_of_nonneg i (by omega)];exact q) (.inl (PyProof.noPylong_small (by omega)))
theorem lM:Gp X (binaryOp .Mod) (rI (λ _ j=>0<j) λ i j=>.int (i%j)):=tL λ i j _ _ _ _ _ hc q=>by
 have h1:(0:Int)<j:=hc;exact mod_int' (by omega) (by rw[Int.fmod_eq_emod_of_nonneg i (by omega)];exact q)
theorem lN:Gp X (binaryOp .Pow) (rI dB λ i j=>.int (i^j.toNat)):=tL λ _ _ _ _ _ _ _ hc q=>pow_int_small hc.1 hc.2.1 hc.2.2 q
theorem xD {f:Value->Sem Value}{g:Int->Int}
 (rule:∀(i:Int) (t:Tok) (s:Shared) (Q:Value->Shared->Prop) (E:Value->Shared->Prop),Q (.int (g i) s.toks) {s with toks:=s.toks+1}->wpAny (model X.prog X.w) X.A (f (.int i t)) Q E s):
 uR X f (rU λ i=>.int (g i)):=by
 intro pins s σ H x v Q I rx h;obtain⟨i,rfl,q⟩:=h;obtain⟨t,rfl⟩:=rx;exact rule i t s _ _ ⟨.int (g i),H,I.tok _,⟨_,rfl⟩,q⟩
theorem lO:uR X (unaryOp .USub) (rU λ i=>.int (-i)):=xD λ _ _ _ _ _ q=>neg_int q
end
section
variable {X:Cx}{a b c:Expr}{ta tb tc:TE}{pos:Pos}
theorem jK:Gp X (compareOp .Lt) (cI λ i j=>.bl (decide (i<j))):=lJ λ _ _ _ _ _ _ _ q=>lt_int q
theorem qI:Gp X (compareOp .LtE) (cI λ i j=>.bl (decide (i<=j))):=lJ λ _ _ _ _ _ _ _ q=>le_int q
theorem qJ:Gp X (compareOp .Gt) (cI λ i j=>.bl (decide (j<i))):=lJ λ _ _ _ _ _ _ _ q=>gt_int q
theorem Gp.or {f:Value->Value->Sem Value}{r r':R2}(h:Gp X f r)(h':Gp X f r'):Gp X f (λ x y H Q=>r x y H Q\/r' x y H Q):=by
 intro pins s σ H x y v u Q I rx ry q;rcases q with q|q
 ·exact h pins s σ H x y v u Q I rx ry q
 ·exact h' pins s σ H x y v u Q I rx ry q
theorem ID (b:Expr){op:CmpOp}(h:op≠.In:=by decide)(h2:op≠.NotIn:=by decide):behindInMarks op b=false:=by
 have e1:(op==CmpOp.In)=false:=by cases op<;>first|rfl|exact absurd rfl h
 have e2:(op==CmpOp.NotIn)=false:=by cases op<;>first|rfl|exact absurd rfl h2
 cases b<;>simp[behindInMarks,e1,e2]
theorem dD {op:CmpOp}{r:R2}(ho:Gp X (compareOp op) r)(ha:PE X a ta)(hb:PE X b tb)(hm:behindInMarks op b=false):PE X (.Compare a [op] [b] pos) (oX r ta tb):=by
 intro pins s σ H Q I h;exact wpAny_Compare1 (lI ha hb I h λ v u s2 x y H2 I2 rx ry q=>ho pins s2 σ H2 x y v u Q I2 rx ry q) hm
noncomputable def qK (t:TE):TT:=λ σ H Q=>t σ H λ x H'=>∃k,x=.bl k/\Q k H'
theorem dE {op:CmpOp}{r:R2}(ho:Gp X (compareOp op) r)(ha:PE X a ta)(hb:PE X b tb)(hm:behindInMarks op b=false):PT X (.Compare a [op] [b] pos) (qK (oX r ta tb)):=by
 intro pins s σ H Q I h;refine wpAny_isTrue_Compare1 (Bc (ha pins s σ H _ I h) λ v s1 ⟨x,H1,I1,r1,q1⟩=>Bc (hb pins s1 σ H1 _ I1 q1) λ u s2 ⟨y,H2,I2,r2,q2⟩ =>
  Bc (ho pins s2 σ H2 x y v u _ I2 r1 r2 q2) λ c s3 ⟨z,H3,I3,r3,k,e,q3⟩=>?_) hm
 subst e;cases r3;exact wpAny_truthy_bool ⟨H3,I3,q3⟩
noncomputable def lP (r r':R2)(ta tb tc:TE):TE:=λ σ H Q=>ta σ H λ x H1=>tb σ H1 λ y H2=>r x y H2 λ z H3=>∃k,z=.bl k/\
 (if k=true then tc σ H3 λ w' H4=>r' y w' H4 Q else Q (.bl false) H3)
theorem XW {op fv:CmpOp}{r r':R2}(ho:Gp X (compareOp op) r)(bq:Gp X (compareOp fv) r')(ha:PE X a ta)(hb:PE X b tb)(hc:PE X c tc)
 (hm:lastMarks [op,fv] [b,c]=false:=by with_unfolding_all rfl):PE X (.Compare a [op,fv] [b,c] pos) (lP r r' ta tb tc):=by
 intro pins s σ H Q I h;refine Compare_chain (Bc (ha pins s σ H _ I h) λ v s1 ⟨x,H1,I1,r1,q1⟩=>chain_link (Bc (hb pins s1 σ H1 _ I1 q1) λ u s2 ⟨y,H2,I2,r2,q2⟩ =>
  Bc (ho pins s2 σ H2 x y v u _ I2 r1 r2 q2) λ d s3 ⟨z,H3,I3,r3,k,e,q3⟩=>?_)) hm
 subst e;cases r3;refine wpAny_truthy_bool ?_;cases k with
 |false=>exact ite_ff ⟨.bl false,H3,I3,rfl,q3⟩
 |true=>exact ite_tt (chain_last (Bc (hc pins s3 σ H3 _ I3 q3) λ w' s4 ⟨z',H4,I4,r4,q4⟩=>bq pins s4 σ H4 y z' u w' Q I4 r2 r4 q4))
def qL (K:zy)(x:V)(H:Hp)(k:Bool):Prop:=
 match x with
 | .AF=>k=false
 | .bl b=>k=b
 | .int i=>k=(i != 0)
 | .str y=>y.length<=sizeLine/\k=((y.length:Int) != 0)
 | .kN y=>y.size<=sizeLine/\k=((y.size:Int) != 0)
 | .ref p=>(∃xs,DF K H p xs/\k = !xs.isEmpty)\/(∃xs,EL K H p xs/\k = !xs.isEmpty)\/∃kvs,H p=some (.dK kvs)/\k = !kvs.isEmpty
 |_=>False
theorem Ti {κ:Type}{kvs:List (κ×V)}{vs:List (κ×Value)}(r:KV kvs vs):(!vs.isEmpty) = !kvs.isEmpty:=by
 cases r<;>rfl
theorem MW {xs:List V}{aa:List Value}(r:Vals xs aa):(!aa.toArray.isEmpty) = !xs.isEmpty:=by
 cases r<;>simp
theorem KL:(sizeLine:Nat)<2^63:=by rw[sizeLine_eq];decide
theorem lQ:uS X (λ x H Q=>∃k,qL X.K x H k/\Q k H):=by
 intro pins s σ H x v Q I rx h;obtain⟨k,e,q⟩:=h;have hl:=KL;have hs:sizeLine=16777216:=sizeLine_eq;cases x with
 |AF =>
  cases rx;have e':k=false:=e;subst e';exact truthy_none ⟨H,I,q⟩
 |bl b =>
  cases rx;have e':k=b:=e;subst e';exact wpAny_truthy_bool ⟨H,I,q⟩
 |int i =>
  obtain⟨t,rfl⟩:=rx;have e':k=(i != 0):=e;subst e';exact PySem.P.truthy_int ⟨H,I,q⟩
 |str y =>
  obtain⟨t,rfl⟩:=rx;obtain⟨hy,e'⟩:y.length<=sizeLine/\k=((y.length:Int) != 0):=e;subst e';exact PySem.P.truthy_str (by omega) ⟨H,I.tok _,q⟩
 |kN y =>
  obtain⟨t,rfl⟩:=rx;obtain⟨hy,e'⟩:y.size<=sizeLine/\k=((y.size:Int) != 0):=e;subst e';exact PySem.W.truthy_bytes (by omega) ⟨H,I.tok _,q⟩
 |ref p =>
  cases rx;have e':(∃xs,DF X.K H p xs/\k = !xs.isEmpty)\/(∃xs,EL X.K H p xs/\k = !xs.isEmpty)\/∃kvs,H p=some (.dK kvs)/\k = !kvs.isEmpty:=e;rcases e' with ⟨xs,hx,e'⟩|⟨xs,hx,e'⟩|⟨kvs,hx,e'⟩
  ·subst e';obtain⟨aa,r,pl,hz⟩:=I.list hx;have hlen:=r.length;exact wpAny_truthy_list pl.isList (by simp only[zL];omega) ⟨H,I.tok _,by rw[MW r];exact q⟩
  ·subst e';obtain⟨aa,r,pl,hz⟩:=I.tuple hx;have hlen:=r.length;exact truthy_tuple pl (by simp only[zL];omega) ⟨H,I.tok _,by rw[MW r];exact q⟩
  ·subst e';obtain⟨hz,hS,vs,r,m⟩:kvs.length<=sizeLine/\(p==sysModules)=false/\∃vs,KV kvs vs/\s.heap.DictOf (AL X.prog X.w) p vs:=I.Au p _ hx;have hlen:kvs.length=vs.length:=zcb r;exact wpAny_truthy_dict hS m (by omega) ⟨H,I.tok _,by rw[Ti r];exact q⟩
 |_=>exact (show False from e).elim
theorem XX (ha:PE X a ta)(he:∀whole,isTrue a X.env whole=(do let v <-whole;standAt a.pos;holding [v] (truthy v))):
 PT X a (λ σ H Q=>ta σ H λ x H'=>∃k,qL X.K x H' k/\Q k H'):=by
 intro pins s σ H Q I h;exact isTrue_plain (Bc (ha pins s σ H _ I h) λ v s1 ⟨x,H1,I1,r1,q1⟩=>lQ pins s1 σ H1 x v Q I1 r1 q1) (he _)
theorem vals1 {x:V}{us:List Value}(r:Vals [x] us):∃u,us=[u]/\RelV x u:=by
 cases r with
 |cons r1 r2=>cases r2;exact⟨_,rfl,r1⟩
theorem vals2 {x y:V}{us:List Value}(r:Vals [x,y] us):∃u w',us=[u,w']/\RelV x u/\RelV y w':=by
 cases r with
 |cons r1 r2 =>
  cases r2 with
  |cons r3 r4=>cases r4;exact⟨_,_,rfl,r1,r3⟩
theorem W7 (hc:X.calm=true):G0 X (.builtin "min") (λ xs H Q=>∃i j,xs=[.int i,.int j]/\Q (.int (if j<i then j else i)) H):=by
 intro pins s σ H xs us Q I r h;obtain⟨i,j,rfl,q⟩:=h;obtain⟨u,w',rfl,⟨t,rfl⟩,⟨t',rfl⟩⟩:=vals2 r;refine min_two_ints (I.ok.hd hc) λ h' tk k=>⟨_,H,I.kept k,?_,q⟩;by_cases hj:j<i
 ·rw[if_pos hj,if_pos hj];exact⟨_,rfl⟩
 ·rw[if_neg hj,if_neg hj];exact⟨_,rfl⟩
end
structure Tj (h:Heap)(x dx C:Addr)(mA:Str->Option Value):Prop where
 obj:h.get? x=some (zbt C dx)
 ns:h.Ns1 dx mA
 ne:dx≠x
theorem W8 {h:Heap}{dx:Addr}{mA:Str->Option Value}(n:h.Ns1 dx mA):∃od,h.get? dx=some od/\∀name,PySem.W.lookIn name od=some (mA name):=by
 obtain⟨o,es,ep,ho,hd,hk,_,hm⟩:=n;refine⟨o,ho,λ name=>?_⟩;have e:=hm name;unfold nsFind findBy at e;rw[<-Array.find?_toList] at e;unfold PySem.W.lookIn;rw[hd];dsimp only;split
 ·rename_i y q;rw[q] at e;exact congrArg some e
 ·rename_i q;rw[q] at e;have a:es.toList.any (·.refKey)=false:=by
   rw[List.any_eq_false];intro y hy;obtain⟨z,t,n9⟩:=hk y (Array.mem_toList_iff.mp hy);simp[DictEntry.refKey,n9]
  have a':¬ es.toList.any (·.refKey)=true:=by rw[a];exact zaf
  rw[if_neg a'];exact congrArg some e
theorem Tj.look {h:Heap}{x dx C:Addr}{mA:Str->Option Value}(I:Tj h x dx C mA):∃od,PySem.W.InstAt h x (zbt C dx) C (some od)/\∀name,PySem.W.lookIn name od=some (mA name):=
 let ⟨od,ho,hl⟩:=W8 I.ns
 ⟨od,⟨I.obj,rfl,rfl,ho⟩,hl⟩
section
variable {prog:Program}{w:World}{A:Around}{E:Value->Shared->Prop}{s:Shared}{K:zy}{x dx C f:Addr}{mA:Str->Option Value}{name:Str}{v:Value}
theorem get_map {expr:Bool}{Q:Value->Shared->Prop}(X:K.In s.heap)(I:Tj s.heap x dx C mA)(hg:zcl K C name=true)(hh:PySem.W.hasDictIn K C=true)
 (ha:zK K (.ref C) name=some none) (hv:mA name=some v) (og:PySem.W.handedIn v=true) (h:Q v {s with toks:=s.toks+1}):
 wpAny (model prog w) A (getAttr (.ref x) name expr) Q E s:=by
 obtain⟨od,J,hl⟩:=I.look;exact PySem.W.get_value X J (PySem.W.plainGet_of hg).1 (PySem.W.findObj_own hh ha rfl (by rw[hl,hv])) og h
theorem XY {pl:Sem Bool}{Q:Value×List Value->Shared->Prop}(X:K.In s.heap)(I:Tj s.heap x dx C mA)(hg:zcl K C name=true)
 (hf:zK K (.ref C) name=some (some (.ref f))) (ht:zcm K (.ref f)=true) (hv:mA name=none) (h:Q (.ref f,[.ref x]) s):
 wpAny (model prog w) A (getMethod (.ref x) name pl) Q E s:=by
 obtain⟨od,J,hl⟩:=I.look;exact PySem.W.method_fn X J (PySem.W.plainGet_of hg).1 (PySem.W.plainGet_of hg).2 hf (beq_iff_eq.mp ht) (by show (PySem.W.lookIn name od).map (·.isSome)=some false;rw[hl,hv];rfl) h
theorem dG {ns:List Str}{Q:Unit->Shared->Prop}(X:K.In s.heap)(I:Tj s.heap x dx C mA)
 (hs:zK K (.ref C) "__setattr__" = some (some (.builtin "object.__setattr__"))) (hp:PySem.W.plainOver K C=true) (ht:PySem.W.takerIn K C name=some none) (hh:PySem.W.hasDictIn K C=true)
 (hw:PySem.Within mA ns) (hsz:ns.length<=sizeLine)
 (h:∀h',Tj h' x dx C (λ y=>if y=name then some v else mA y)->zcf dx s.heap h'->Q () {s with heap:=h',toks:=s.toks+2}):
 wpAny (model prog w) A (setAttr (.ref x) name v) Q E s:=by
 obtain⟨od,J,hl⟩:=I.look;refine PySem.W.set_plain X J hs (PySem.W.osa_open (s:={s with toks:=s.toks+1}) (r:=none) X J hp ht λ b=>?_);obtain⟨cd,hc,b7⟩:=PySem.W.any_some hh;have hx:s.heap.get? x=some ⟨.ref C,some dx,.plain,#[]⟩:=I.obj;refine wpAny_bind (wpAny_pure (wpAny_bind (wpAny_bind (wpAny_loadPart hx (wpAny_bind (PySem.W.Looks.here (s:={s with toks:=s.toks+1}) (PySem.W.looks_clsIn X hc) ?_))))));rw[b7];refine wpAny_pure (a:=some dx) (wpAny_bind (wpAny_pure (wpAny_bind ?_)));refine wpAny_nsSet1 (s:={s with toks:=s.toks+1}) I.ns λ h' aD aZ=>?_;obtain⟨oD,ze,zf,xg,xh,xi⟩:=aD.count (PySem.Within.cons name v hw);refine wpAny_bind (wpAny_lookBehind xg (by rw[xh];exact pastItsLine_dict (zat xi (by rw[zO];omega))) ?_);exact wpAny_pure (h _ ⟨(aZ.2 _ (zao I.ne)).trans I.obj,aD,I.ne⟩ aZ)
theorem XZ {R:Result->Shared->Prop}{vs:List Value}{kw:List (Str×Value)}(X:K.In s.heap)(hm:PySem.W.makesIn K C=true)
 (hi:zK K (.ref C) "__init__" = some (some (.ref f))) (hf:PySem.W.typeIn K (.ref f)=some (.type "function"))
 (h:codeAny (model prog w) (A.under (.builtin "type.__call__" ⟨.ref C::vs,kw⟩)) (.call (.ref f) ⟨.ref (s.heap.objs.size+1)::vs,kw⟩) (PySem.W.InitBack (s.heap.objs.size+1) R)
  {s with heap:=(s.heap.push zba).push (zbt C s.heap.objs.size)}):
 codeAny (model prog w) A (.call (.ref C) ⟨vs,kw⟩) R s:=by
 obtain⟨hh,g,d,t,os⟩:=s;exact PySem.W.make_core (PySem.W.makes_of X hm) (PySem.W.looks_findIn X hi) (λ self=>PySem.W.bind_fn X self hf) (.inl rfl) h
end
noncomputable def Ee (f:Str)(v:V):List (Str×V)->List (Str×V)
 |[]=>[(f,v)]
 |(g,x)::r=>if g=f then (g,v)::r else (g,x)::Ee f v r
theorem Lu (f g:Str)(v:V):∀fs:List (Str×V),(Ee f v fs).lookup g=if g=f then some v else fs.lookup g
 |[]=>by
  show List.lookup g [(f,v)]=_;by_cases h:g=f
  ·have hb:(g==f)=true:=beq_iff_eq.mpr h;simp only[List.lookup,hb,if_pos h]
  ·have hb:(g==f)=false:=beq_eq_false_iff_ne.mpr h;simp only[List.lookup,hb,if_neg h]
 |(k,x)::r=>by
  have ih:=Lu f g v r;rw[show Ee f v ((k,x)::r)=(if k=f then (k,v)::r else (k,x)::Ee f v r) from rfl];by_cases hk:k=f
  ·rw[if_pos hk];by_cases h:g=k
   ·have hb:(g==k)=true:=beq_iff_eq.mpr h;simp only[List.lookup,hb,if_pos (h.trans hk)]
   ·have hb:(g==k)=false:=beq_eq_false_iff_ne.mpr h;simp only[List.lookup,hb,if_neg (λ e:g=f=>h (e.trans hk.symm))]
  ·rw[if_neg hk];by_cases h:g=k
   ·have hb:(g==k)=true:=beq_iff_eq.mpr h;simp only[List.lookup,hb,if_neg (λ e:g=f=>hk (h.symm.trans e))]
   ·have hb:(g==k)=false:=beq_eq_false_iff_ne.mpr h;simp only[List.lookup,hb];exact ih
theorem KN (f:Str)(v:V):∀fs:List (Str×V),f∈(Ee f v fs).map (·.1)/\∀g,g∈fs.map (·.1)->g∈(Ee f v fs).map (·.1)
 |[]=>⟨by simp[Ee],λ g h=>by simp at h⟩
 |(k,x)::r=>by
  obtain⟨i1,i2⟩:=KN f v r;rw[show Ee f v ((k,x)::r)=(if k=f then (k,v)::r else (k,x)::Ee f v r) from rfl];by_cases hk:k=f
  ·rw[if_pos hk];subst hk;exact⟨by simp,λ g h=>by simpa using h⟩
  ·rw[if_neg hk];refine⟨?_,λ g h=>?_⟩
   ·rw[zG];exact zF _ i1
   ·rw[zG] at h ⊢;rcases zQ.mp h with e|e
    ·exact zQ.mpr (.inl e)
    ·exact zF _ (i2 g e)
theorem Lw (f:Str)(v:V):∀fs:List (Str×V),(Ee f v fs).length<=fs.length+1
 |[]=>by simp[Ee]
 |(k,x)::r=>by
  have ih:=Lw f v r;rw[show Ee f v ((k,x)::r)=(if k=f then (k,v)::r else (k,x)::Ee f v r) from rfl];by_cases hk:k=f
  ·rw[if_pos hk,zO,zO];omega
  ·rw[if_neg hk,zO,zO];omega
theorem Gh.some_of {v:V}{o:Option Value}(r:Gh (some v) o):∃u,o=some u/\RelV v u:=by
 cases o with
 |none=>exact (show False from r).elim
 |some u=>exact⟨u,rfl,r⟩
theorem Gh.none_of {o:Option Value}(r:Gh none o):o=none:=by
 cases o with
 |none=>rfl
 |some u=>exact (show False from r).elim
theorem W9 {v:V}{u:Value}(r:RelV v u):PySem.W.handedIn u=true:=by
 cases v with
 |AF=>cases (show u=Value.none from r);rfl
 |bl b=>cases (show u=Value.bool b from r);rfl
 |int i=>obtain⟨t,e⟩:=(show ∃t,u=Value.int i t from r);cases e;rfl
 |str x=>obtain⟨t,e⟩:=(show ∃t,u=Value.str x t from r);cases e;rfl
 |kN b=>obtain⟨t,e⟩:=(show ∃t,u=Value.bytes b t from r);cases e;rfl
 |pN b=>obtain⟨t,e⟩:=(show ∃t,u=Value.float b t from r);cases e;rfl
 |ref a=>cases (show u=zaq a from r);rfl
 |ty n=>cases (show u=Value.type n from r);rfl
section
variable {P:Program}{w:World}{H H':Hp}{h h':Heap}{a C dx:Addr}{fs ci:List (Str×V)}
theorem Q5 (Au:Fc P w H h)(e:H a=some (.ins C dx fs)):∃mA,Tj h a dx C mA/\(∀f,Gh (fs.lookup f) (mA f))/\PySem.Within mA (fs.map (·.1))/\fs.length<=1000/\H dx=some (.own a):=by
 obtain⟨d,z,ne,ob,mA,n,r,q⟩:=(show B6 P w H h a (.ins C dx fs) from Au a _ e);exact⟨mA,⟨ob,n,ne⟩,r,q,z,d⟩
end
structure Wa (K:zy)(C:Addr):Prop where
 pg:zcl K C Str.empty=true
 hd:PySem.W.hasDictIn K C=true
 po:PySem.W.plainOver K C=true
 sa:zK K (.ref C) "__setattr__" = some (some (.builtin "object.__setattr__"))
theorem Wa.get {K:zy}{C:Addr}(c:Wa K C)(f:Str):zcl K C f=true:=c.pg
def IE (K:zy)(C:Addr)(f:Str):Prop:=zK K (.ref C) f=some none
theorem IE.qM {K:zy}{C:Addr}{f:Str}(n:IE K C f):PySem.W.takerIn K C f=some none:=by
 unfold PySem.W.takerIn;rw[show zK K (.ref C) f=some none from n];rfl
structure Meth (K:zy)(C:Addr)(m:Str)(f:Addr):Prop where
 at_:zK K (.ref C) m=some (some (.ref f))
 fn:zcm K (.ref f)=true
 kp:zah K (.ref f)=true
section
variable {X:Cx}{pins:List (Addr×Obj)}{σ:St}{H:Hp}{s:Shared}{a C dx:Addr}{fs:List (Str×V)}{f:Str}{v:V}{A:Around}{E:Value->Shared->Prop}
theorem Tn {b:Bool}{Q:Value->Shared->Prop}(I:Inv X pins σ H s)(e:H a=some (.ins C dx fs))(c:Wa X.K C)(n:IE X.K C f)(l:fs.lookup f=some v)
 (h:∀u s',Inv X pins σ H s'->RelV v u->Q u s'):wpAny (model X.prog X.w) A (getAttr (.ref a) f b) Q E s:=by
 obtain⟨mA,O,r,_,_,_⟩:=Q5 I.Au e;obtain⟨u,hu,ru⟩:=Gh.some_of (v:=v) (o:=mA f) (by rw[<-l];exact r f);exact get_map I.Og O (c.get f) c.hd n hu (W9 ru) (h u _ (I.tok _) ru)
theorem MX {m:Str}{g:Addr}{pl:Sem Bool}{Q:Value×List Value->Shared->Prop}(I:Inv X pins σ H s)(e:H a=some (.ins C dx fs))(c:Wa X.K C)(k:Meth X.K C m g)(l:fs.lookup m=none)
 (h:Q (.ref g,[.ref a]) s):wpAny (model X.prog X.w) A (getMethod (.ref a) m pl) Q E s:=by
 obtain⟨mA,O,r,_,_,_⟩:=Q5 I.Au e;have hn:mA m=none:=Gh.none_of (by rw[<-l];exact r m);exact XY I.Og O (c.get m) k.at_ k.fn hn h
theorem To {y:V}{u:Value}{Q:Unit->Shared->Prop}(I:Inv X pins σ H s)(e:H a=some (.ins C dx fs))(c:Wa X.K C)(n:IE X.K C f)(hl:fs.length<1000)(ry:RelV y u)
 (h:∀s',Inv X pins σ (upd H a (.ins C dx (Ee f y fs))) s'->Q () s'):wpAny (model X.prog X.w) A (setAttr (.ref a) f u) Q E s:=by
 obtain⟨mA,O,r,wi,_,ho⟩:=Q5 I.Au e;have hz:(fs.map (·.1)).length<=sizeLine:=by rw[zC,sizeLine_eq];omega
 refine dG I.Og O c.sa c.po n.qM c.hd wi hz λ h' O' sb=>h _ ?_;have hd:∃o,h'.get? dx=some o:=let ⟨o,_,_,e',_⟩:=O'.ns;⟨o,e'⟩;refine I.write (x:=a) (e:=dx) (by rw[e];exact zc7) (.inr ho) (λ b q hb z=>(sb.2 b hb).trans z) hd ?_;refine⟨by rw[Ab O.ne];exact ho,?_,O.ne,O'.obj,_,O'.ns,λ g=>?_,λ g hg=>?_⟩
 ·have:=Lw f y fs;omega
 ·show Gh ((Ee f y fs).lookup g) (if g=f then some u else mA g);rw[Lu];by_cases q:g=f
  ·rw[if_pos q,if_pos q];exact ry
  ·rw[if_neg q,if_neg q];exact r g
 ·by_cases q:g=f
  ·rw[q];exact (KN f y fs).1
  ·refine (KN f y fs).2 g (wi g λ z=>hg ?_);show (if g=f then some u else mA g)=none;rw[if_neg q];exact z
theorem Inv.made (I:Inv X pins σ H s):Inv X pins σ (upd (upd H s.heap.objs.size (.own (s.heap.objs.size+1))) (s.heap.objs.size+1) (.ins C s.heap.objs.size []))
 {s with heap:=(s.heap.push zba).push (zbt C s.heap.objs.size)}:=by
 have e1:(s.heap.push zba).get? s.heap.objs.size=some zba:=zZ s.heap rfl;have e2:((s.heap.push zba).push (zbt C s.heap.objs.size)).get? (s.heap.objs.size+1)=some (zbt C s.heap.objs.size):=by
  have:=zZ (s.heap.push zba) (o:=zbt C s.heap.objs.size) rfl;rwa[Heap.size_push] at this
 have e3:(s.heap.push zba).Ns s.heap.objs.size (λ _=>none):=⟨zba,#[],_,e1,rfl,(λ e he=>absurd he (by simp)),λ _=>rfl⟩;have I1:=I.laid (a:=s.heap.objs.size) (o:=.own (s.heap.objs.size+1)) (h':=s.heap.push zba) (t':=s.toks) (λ b u q=>zI _ q) (zU _) ⟨_,e1⟩;refine I1.laid (a:=s.heap.objs.size+1) (o:=.ins C s.heap.objs.size []) (t':=s.toks) (λ b u q=>zI _ q) (Nat.le_of_eq (Heap.size_push _ _)) ?_;have ne:s.heap.objs.size≠s.heap.objs.size+1:=zX (Nat.lt_succ_self _);refine⟨by rw[Ab ne,Aj],zak _,ne,e2,λ _=>none,(Heap.Ns1.of_empty e3).at λ o q=>zI _ q,λ _=>zc7,λ y hy=>absurd rfl hy⟩
theorem dH {prog:Program}{w:World}{env:Env}{e:Expr}{f:Str}{pos:Pos}{s:Shared}{Q:Value->Shared->Prop}(hb:attributeBase e f env (eval e env)=eval e env)
 (h:wpAny (model prog w) A (eval e env) (λ o s₁=>wpAny (model prog w) A (getAttr o f true) Q E s₁) E s):wpAny (model prog w) A (eval (.Attribute e f pos) env) Q E s:=
 Attribute_any_ h (by rw[arm_eval_Attribute,hb])
end
noncomputable def uT (K:zy)(ta:TE)(f:Str):TE:=λ σ H Q=>ta σ H λ x H1=>∃a C dx fs v,x=.ref a/\H1 a=some (.ins C dx fs)/\Wa K C/\IE K C f/\fs.lookup f=some v/\Q v H1
noncomputable def uU (K:zy)(ta tv:TE)(f:Str):TS:=λ D σ H=>tv σ H λ y H1=>ta σ H1 λ x H2=>∃a C dx fs,x=.ref a/\H2 a=some (.ins C dx fs)/\Wa K C/\IE K C f/\fs.length<1000/\
 D.nx σ (upd H2 a (.ins C dx (Ee f y fs)))
section
variable {X:Cx}{o e value:Expr}{f:Str}{pos pos' bB:Pos}{ta tv:TE}
theorem lR (he:PE X e ta)(hb:attributeBase e f X.env (eval e X.env)=eval e X.env):PE X (.Attribute e f pos) (uT X.K ta f):=by
 intro pins s σ H Q I h;refine dH hb (Bc (he pins s σ H _ I h) λ u s1 ⟨x,H1,I1,rx,a,C,dx,fs,v,ex,ea,c,n,l,q⟩=>?_);subst ex;obtain rfl:u=zaq a:=rx;exact Tn I1 ea c n l λ u' s2 I2 ru=>⟨v,H1,I2,ru,q⟩
theorem lS (ha:PE X o ta)(hv:PE X value tv)(hs:swapsWith value (some (.Attribute o f pos')) pos.line X.env=pure false):PS X (.Assign [.Attribute o f pos'] value pos) (uU X.K ta tv f):=by
 intro pins s σ H D I h;refine plainObj_wpAny_Assign_Attribute (Bc (hv pins s σ H _ I h) λ u s1 ⟨y,H1,I1,ry,q⟩=>Bc (ha pins s1 σ H1 _ I1 q) λ ov s2 ⟨x,H2,I2,rx,a,C,dx,fs,ex,ea,c,n,l,q2⟩=>?_) hs;subst ex;obtain rfl:ov=zaq a:=rx;exact To I2 ea c n l ry λ s3 I3=>⟨σ,_,I3,q2⟩
end
structure BM (k:Nat)(A:Around):Prop where
 hd:A.handled=none
 dp:A.depth+3*k+5<recursionLimit
 un:A.units+16*k+200<cLine
theorem BM.mono {j k:Nat}{A:Around}(r:BM k A)(h:j<=k):BM j A:=⟨r.hd,by have:=r.dp;omega,by have:=r.un;omega⟩
theorem BM.deeper {k:Nat}{A:Around}(r:BM (k+1) A)(env:Env):BM k (A.deeper env):=
 ⟨r.hd,by have:=r.dp;show A.depth+1+3*k+5<_;omega,by have:=r.un;show A.units+3+16*k+200<_;omega⟩
theorem Tp {A:Around}{C:Addr}{us:List Value}{kw:List (Str×Value)}:(A.under (.builtin "type.__call__" ⟨.ref C::us,kw⟩)).depth=A.depth+1:=by
 first|rfl|simp[Around.under,Code.weight,Code.isCreation,Code.isGuard,Code.isCaller,Code.frames,Code.isFrame,guardIds]
theorem Tq {A:Around}{C:Addr}{us:List Value}{kw:List (Str×Value)}:(A.under (.builtin "type.__call__" ⟨.ref C::us,kw⟩)).units=A.units+1:=by
 first|rfl|simp[Around.under,Code.cUnits,Code.frames,Code.isFrame]
theorem BM.make {k:Nat}{A:Around}(r:BM (k+1) A)(C:Addr)(us:List Value)(kw:List (Str×Value)):BM k (A.under (.builtin "type.__call__" ⟨.ref C::us,kw⟩)):=
 ⟨r.hd,by have:=r.dp;rw[Tp];omega,by have:=r.un;rw[Tq];omega⟩
theorem BM.depth {k:Nat}{A:Around}(r:BM k A):A.depth<recursionLimit:=by have:=r.dp;omega
theorem BM.units {k:Nat}{A:Around}(r:BM k A):A.units+64<cLine:=by have:=r.un;omega
noncomputable def lT:TA:=λ _ H Q=>Q [] H
noncomputable def jL (ta:TE)(tr:TA):TA:=λ σ H Q=>ta σ H λ x H1=>tr σ H1 λ xs H2=>Q (x::xs) H2
section
variable {X:Cx}{e:Expr}{es:List Expr}{te:TE}{t:TA}{pos:Pos}
theorem CO:PA X [] lT:=λ _ _ _ _ H Q I h=>zbw ⟨[],H,I,.nil,h⟩
theorem Bt (ha:PE X e te)(hr:PA X es t)(hs:starEach (e::es) X.env=(false,eval e X.env)::starEach es X.env:=by rfl):PA X (e::es) (jL te t):=by
 intro pos pins s σ H Q I h;rw[hs];show wpAny _ _ (spliced ((false,eval e X.env)::backTo pos (starEach es X.env))) _ _ s;refine zbo (Bc (ha pins s σ H _ I h) λ u s1 ⟨x,H1,I1,r1,q1⟩=>?_);exact Bc (hr pos pins s1 σ H1 _ I1 q1) λ us s2 ⟨xs,H2,I2,r2,q2⟩=>⟨x::xs,H2,I2,.cons r1 r2,q2⟩
noncomputable def uV (t:TA):TE:=λ σ H Q=>t σ H λ xs H1=>xs.length<=sizeLine/\∀p,H1 p=none->Q (.ref p) (upd H1 p (.tup xs))
noncomputable def uW (t:TA):TE:=λ σ H Q=>t σ H λ xs H1=>xs.length<=sizeLine/\∀p,H1 p=none->Q (.ref p) (upd H1 p (.lst xs))
theorem Y0 {x1}(h:PA X es t):PE X (.Tuple es x1 pos) (uV t):=by
 intro pins s σ H Q I hq;refine wpAny_Tuple_spliced (Bc (h pos pins s σ H _ I hq) λ us s1 ⟨xs,H1,I1,r,z,q⟩=>⟨by rw[<-r.length];exact z,?_⟩);have hf:H1 s1.heap.objs.size=none:=I1.Au.fresh (zU _);refine⟨.ref s1.heap.objs.size,upd H1 s1.heap.objs.size (.tup xs),I1.laid (t':=s1.toks) (λ b u e=>zI _ e) (zU _) ?_,rfl,q _ hf⟩;exact⟨z,us,r,⟨_,zZ _ rfl,rfl,_,rfl⟩⟩
theorem Ts (h:PA X es t):PE X (.List es pos) (uW t):=by
 intro pins s σ H Q I hq;refine wpAny_List_spliced (Bc (h pos pins s σ H _ I hq) λ us s1 ⟨xs,H1,I1,r,z,q⟩=>⟨by rw[<-r.length];exact z,?_⟩);have hf:H1 s1.heap.objs.size=none:=I1.Au.fresh (zU _);refine⟨.ref s1.heap.objs.size,upd H1 s1.heap.objs.size (.lst xs),I1.laid (t':=s1.toks) (λ b u e=>zI _ e) (zU _) ?_,rfl,q _ hf⟩;exact⟨z,us,0,r,zZ _ rfl⟩
end
noncomputable abbrev Sp:=List V->Hp->VK->XK->Prop
noncomputable abbrev UQ:=List Env->Hp->Shared->XK->Value->Shared->Prop
structure Tt (P:Program)(w:World)(K:zy)(mg:Str->Option Value)(base:Heap)(A:Around)(outer:List Env)(s:Shared)(H:Hp):Prop where
 frames:A.frames=some outer
 mod:Mod K mg base
 bs:∀b o,base.get? b=some o->s.heap.get? b=some o/\H b=none
 cV:base.objs.size<=s.heap.objs.size
 Jm:s.heap.FunFrames base outer
 kQ:∀b∈Ls outer,H b=none
 Au:Fc P w H s.heap
 bare:AllBare s.gens
def CE (outer:List Env)(P:Program)(w:World)(H:Hp)(s:Shared)(Q:VK)(u:Value)(s':Shared):Prop:=
 ∃v H',s'.os=s.os/\AllBare s'.gens/\Un (Ls outer) [] H H' s.heap s'.heap/\Fc P w H' s'.heap/\RelV v u/\Q v H'
def CR (CX:UQ)(outer:List Env)(P:Program)(w:World)(H:Hp)(s:Shared)(Q:VK)(E:XK)(r:Result)(s':Shared):Prop:=
 match r with
 | .ok (.ret u)=>CE outer P w H s Q u s'
 | .ok _=>False
 | .error e=>CX outer H s E e s'
structure Dr (P:Program)(w:World)(K:zy)(mg:Str->Option Value)(base:Heap)(CX:UQ)(k:Nat)(f:Addr)(fd:FuncData)(ps:List Str)(sp:Sp):Prop where
 len:∀vs H Q E,sp vs H Q E->vs.length=ps.length
 run:∀(A:Around) (outer:List Env) (s:Shared) (H:Hp) (args:Args) (us:List Value) (vs:List V) (Q:VK) (E:XK),BM k A->Tt P w K mg base A outer s H->BindsTo s fd args (ps.zip us)->Vals vs us->sp vs H Q E->
  codeAny (model P w) A (.call (.ref f) args) (CR CX outer P w H s Q E) s
theorem Tt.make {P:Program}{w:World}{K:zy}{mg:Str->Option Value}{base:Heap}{A:Around}{outer:List Env}{s:Shared}{H:Hp}(e:Tt P w K mg base A outer s H)(C:Addr)(us:List Value)(kw:List (Str×Value)):
 Tt P w K mg base (A.under (.builtin "type.__call__" ⟨.ref C::us,kw⟩)) outer s H:=⟨by first|exact e.frames|(simpa [Around.under,Code.envs,Code.isFrame,pushEnvs] using e.frames),e.mod,e.bs,e.cV,e.Jm,e.kQ,e.Au,e.bare⟩
section
variable {X:Cx}{pins:List (Addr×Obj)}{σ:St}{H:Hp}{s s':Shared}
theorem Inv.qN (I:Inv X pins σ H s):Tt X.prog X.w X.K X.mg X.base X.A X.stack s H:=
 ⟨I.ok.frames,I.ok.mod,I.bs,zat I.ok.cV I.sz,I.stack,I.Q2,I.Au,I.bare⟩
theorem Inv.after {Q:VK}{u:Value}(I:Inv X pins σ H s)(h:CE X.stack X.prog X.w H s Q u s'):EP X pins σ Q u s':=by
 obtain⟨v,H',os,bare,un,Au,r,q⟩:=h;obtain⟨hh,g,d,t,xj⟩:=s';obtain rfl:xj=s.os:=os;exact⟨v,H',I.call (h':=hh) (g':=g) (d':=d) (t':=t) (ch:=[]) un Au bare (λ b z=>absurd z (by simp)),r,q⟩
end
noncomputable def qO (sp:Sp)(bC:List V)(E:XK)(t:TA):TE:=λ σ H Q=>t σ H λ vs H1=>sp (vs++bC) H1 Q E
noncomputable def qP (C:Addr)(sp:Sp)(bC:List V)(E:XK)(t:TA):TE:=λ σ H Q=>t σ H λ vs H1=>∀x dx,H1 x=none->H1 dx=none->dx≠x->
 sp (.ref x::(vs++bC)) (upd (upd H1 dx (.own x)) x (.ins C dx [])) (λ v H2=>v=.AF/\Q (.ref x) H2) E
def Binds (K:zy)(fd:FuncData)(ps:List Str)(ds:List Value):Prop:=
 ∀(s:Shared) (us:List Value),K.In s.heap->(us++ds).length=ps.length->BindsTo s fd ⟨us,[]⟩ (ps.zip (us++ds))
theorem Binds.all {K:zy}{fd:FuncData}{ps:List Str}(h:∀us:List Value,us.length=ps.length->bindArgs fd ⟨us,[]⟩=pure (ps.zip us)):Binds K fd ps []:=λ s us _ hl=>by
 rw[zal] at hl ⊢;exact .of_eq (h us hl)
def Gq (CX:UQ)(X:Cx)(E:XK):Prop:=∀(pins:List (Addr×Obj)) (σ:St) (H:Hp) (s:Shared) (e:Value) (s':Shared),Inv X pins σ H s->CX X.stack H s E e s'->X.xe e s'
section
variable {X:Cx}{CX:UQ}{k:Nat}{f C:Addr}{fd:FuncData}{ps:List Str}{sp:Sp}{bC:List V}{ds:List Value}{E:XK}{x m:Str}{p pos apos:Pos}{e o:Expr}{es:List Expr}{ta:TE}{t:TA}
theorem Tu {pins:List (Addr×Obj)}{σ:St}{H:Hp}{s:Shared}{Q:VK}{us:List Value}{vs:List V}(F:Dr X.prog X.w X.K X.mg X.base CX k f fd ps sp)(hr:BM k X.A)(hb:Binds X.K fd ps ds)(hd:Vals bC ds)(hx:Gq CX X E)
 (I:Inv X pins σ H s) (r:Vals vs us) (h:sp (vs++bC) H Q E):wpAny (model X.prog X.w) X.A (call (.ref f) us) (EP X pins σ Q) X.xe s:=by
 have r2:Vals (vs++bC) (us++ds):=r.append hd;have hl:(us++ds).length=ps.length:=by rw[<-r2.length];exact F.len _ _ _ _ h
 refine wpAny_call (codeAny_mono (F.run X.A X.stack s H ⟨us,[]⟩ (us++ds) (vs++bC) Q E hr I.qN (hb s us I.Og hl) r2 h) λ r s' hq=>?_);cases r with
 |error e=>exact hx pins σ H s e s' I hq
 |ok fl =>
  cases fl with
  |ret u=>exact I.after hq
  |next|brk|cont=>exact zbv hq
theorem UR (F:Dr X.prog X.w X.K X.mg X.base CX k f fd ps sp)(hr:BM k X.A)(hg:Gl X x)(hm:X.mg x=some (.ref f))(hk:zah X.K (.ref f)=true)(hb:Binds X.K fd ps ds)(hd:Vals bC ds)(hx:Gq CX X E)
 (ha:PA X (e::es) t) (ba:(x==("__debug__" : Str))=false:=by decide) (he:starEach (e::es) X.env=(false,eval e X.env)::starEach es X.env:=by rfl) (hpl:(backTo pos (starEach es X.env)).any (·.1)=false:=by rfl):
 PE X (.Call (.Name x p) (e::es) [] pos) (qO sp bC E t):=by
 intro pins s σ H Q I h;refine wpAny_Call_Name_kw (Q3 I hg hm ?_ ba);refine PySem.W.callWith_K (h₀:=X.base) I.ok.mod.XD hk (Bc (ha pos pins s σ H _ I h) λ us s1 ⟨vs,H1,I1,r,q⟩=>⟨I1.Og,?_⟩) he hpl;exact Tu F hr hb hd hx I1 r q
structure Mk (K:zy)(C f:Addr):Prop where
 makes:PySem.W.makesIn K C=true
 init:zK K (.ref C) "__init__" = some (some (.ref f))
 fn:zcm K (.ref f)=true
 kp:zah K (.ref C)=true
theorem Y1 {pins:List (Addr×Obj)}{σ:St}{H:Hp}{s:Shared}{Q:VK}{us:List Value}{vs:List V}(M:Mk X.K C f)(F:Dr X.prog X.w X.K X.mg X.base CX k f fd ps sp)(hr:BM (k+1) X.A)(hb:Binds X.K fd ps ds)(hd:Vals bC ds)
 (hx:Gq CX X E) (I:Inv X pins σ H s) (r:Vals vs us)
 (h:∀x dx,H x=none->H dx=none->dx≠x->sp (.ref x::(vs++bC)) (upd (upd H dx (.own x)) x (.ins C dx [])) (λ v H2=>v=.AF/\Q (.ref x) H2) E):
 wpAny (model X.prog X.w) X.A (call (.ref C) us) (EP X pins σ Q) X.xe s:=by
 have hq:=h (s.heap.objs.size+1) s.heap.objs.size (I.Au.fresh (Nat.le_succ _)) (I.Au.fresh (zU _)) (zX (Nat.lt_succ_self _));have I2:=Inv.made (C:=C) I;have r2:Vals (V.ref (s.heap.objs.size+1)::(vs++bC)) (zaq (s.heap.objs.size+1)::(us++ds)):=.cons rfl (r.append hd);have hl:(zaq (s.heap.objs.size+1)::us++ds).length=ps.length:=by
  have e:=r2.length;rw[F.len _ _ _ _ hq] at e;exact e.symm
 refine wpAny_call (XZ (f:=f) I.Og M.makes M.init (beq_iff_eq.mp M.fn) (codeAny_mono (F.run _ X.stack _ _ ⟨zaq (s.heap.objs.size+1)::us,[]⟩ (zaq (s.heap.objs.size+1)::(us++ds)) _ _ E (hr.make C us [])
  (I2.qN.make C us []) (hb _ (zaq (s.heap.objs.size+1)::us) I2.Og hl) r2 hq) λ r s' f6=>?_))
 cases r with
 |error e=>exact hx pins σ _ _ e s' I2 f6
 |ok fl =>
  cases fl with
  |ret u =>
   obtain⟨v,H',I3,rv,ev,q3⟩:=I2.after f6;subst ev;exact⟨rv,⟨V.ref (s.heap.objs.size+1),H',I3,rfl,q3⟩⟩
  |next|brk|cont=>exact zbv f6
theorem dI (M:Mk X.K C f)(F:Dr X.prog X.w X.K X.mg X.base CX k f fd ps sp)(hr:BM (k+1) X.A)(hg:Gl X x)(hm:X.mg x=some (.ref C))(hb:Binds X.K fd ps ds)(hd:Vals bC ds)(hx:Gq CX X E)
 (ha:PA X (e::es) t) (ba:(x==("__debug__" : Str))=false:=by decide) (he:starEach (e::es) X.env=(false,eval e X.env)::starEach es X.env:=by rfl) (hpl:(backTo pos (starEach es X.env)).any (·.1)=false:=by rfl):
 PE X (.Call (.Name x p) (e::es) [] pos) (qP C sp bC E t):=by
 intro pins s σ H Q I h;refine wpAny_Call_Name_kw (Q3 I hg hm ?_ ba);refine PySem.W.callWith_K (h₀:=X.base) I.ok.mod.XD M.kp (Bc (ha pos pins s σ H _ I h) λ us s1 ⟨vs,H1,I1,r,q⟩=>⟨I1.Og,?_⟩) he hpl;exact Y1 M F hr hb hd hx I1 r q
end
def PK (X:Cx)(jk:List Keyword)(t:TA):Prop:=
 ∀(pos:Pos) (pins:List (Addr×Obj)) (s:Shared) (σ:St) (H:Hp) (Q:List V->Hp->Prop),Inv X pins σ H s->t σ H Q->wpAny (model X.prog X.w) X.A (evalAll ((backToKw pos (keywordEach jk X.env)).map (·.2))) (AP X pins σ Q) X.xe s
section
variable {X:Cx}{CX:UQ}{k:Nat}{f C:Addr}{fd:FuncData}{ps ks:List Str}{sp:Sp}{E:XK}{x m:Str}{p pos apos oh:Pos}{e o:Expr}{es:List Expr}{jk:List Keyword}{te ta:TE}{t tk:TA}{nm:Option Str}
theorem lU:PK X [] lT:=λ _ _ _ _ H Q I h=>wpAny_evalAll_nil ⟨[],H,I,.nil,h⟩
theorem dJ (ha:PE X e te)(hr:PK X jk t):PK X (⟨nm,e,oh⟩::jk) (jL te t):=by
 intro pos pins s σ H Q I h;show wpAny _ _ (evalAll ((do let v <-eval e X.env;standAt pos;pure v)::(backToKw pos (keywordEach jk X.env)).map (·.2))) _ _ s;refine wpAny_evalAll_cons (wpAny_bind (Bc (ha pins s σ H _ I h) λ u s1 ⟨x,H1,I1,r1,q1⟩=>wpAny_bind (wpAny_standAt (wpAny_pure ?_))));exact Bc (hr pos pins s1 σ H1 _ I1 q1) λ us s2 ⟨xs,H2,I2,r2,q2⟩=>⟨x::xs,H2,I2,.cons r1 r2,q2⟩
variable {g:List Value->List Value->List Value}{gV:List V->List V->List V}
end
structure Ai (N P:List Str)(sc:Scope):Prop where
 kind:sc.kind=.function
 co:sc.isCoroutine=false
 gen:sc.isGenerator=false
 nd:N.Nodup
 pre:N.take P.length=P
 vY:∀x∈P,sc.names.lookup x=some .local\/sc.names.lookup x=some .cell
 lV:∀y∈sc.names,y.2≠.free
theorem OS {kindOf:Str->Option NameKind}{x:Str}:∀ {binds:List (Str×Value)}{m:Str->Option Value},(∀v,(x,v)∉binds)->bindL kindOf binds m x=m x
 |[],_,_=>rfl
 |(n,v)::r,m,h=>by
  unfold bindL;rw[OS λ w hw=>h w (zF _ hw)];split
  ·have:x≠n:=by rintro rfl;exact h v zD
   simp[this]
  ·rfl
theorem OU {kindOf:Str->Option NameKind}{x:Str}:∀ {binds:List (Str×Value)}{m:Str->Option Value},(∀v,(x,v)∉binds)->bindC kindOf binds m x=m x
 |[],_,_=>rfl
 |(n,v)::r,m,h=>by
  unfold bindC;rw[OU λ w hw=>h w (zF _ hw)];split
  ·rfl
  ·have:x≠n:=by rintro rfl;exact h v zD
   simp[this]
theorem OV {kindOf:Str->Option NameKind}{x:Str}{v:Value}:∀ {P:List Str}{vs:List Value}{i:Nat}{m:Str->Option Value},P.Nodup->P[i]?=some x->vs[i]?=some v->kindOf x=some .local->
 bindL kindOf (P.zip vs) m x=some v
 |[],_,_,_,_,h,_,_|_::_,[],_,_,_,_,h,_=>by simp at h
 |p::P,w::vs,0,m,nd,h1,h2,hk=>by
  simp at h1 h2;subst h1;subst h2;show bindL kindOf ((p,w)::P.zip vs) m p=_;unfold bindL;rw[OS λ v hv=>(zav.mp nd).1 (List.of_mem_zip hv).1,if_pos hk];simp
 |p::P,w::vs,i+1,m,nd,h1,h2,hk=>by
  show bindL kindOf ((p,w)::P.zip vs) m x=_;unfold bindL;exact OV (i:=i) (zav.mp nd).2 (by simpa using h1) (by simpa using h2) hk
theorem OW {kindOf:Str->Option NameKind}{x:Str}{v:Value}:∀ {P:List Str}{vs:List Value}{i:Nat}{m:Str->Option Value},P.Nodup->P[i]?=some x->vs[i]?=some v->kindOf x≠some .local->
 bindC kindOf (P.zip vs) m x=some v
 |[],_,_,_,_,h,_,_|_::_,[],_,_,_,_,h,_=>by simp at h
 |p::P,w::vs,0,m,nd,h1,h2,hk=>by
  simp at h1 h2;subst h1;subst h2;show bindC kindOf ((p,w)::P.zip vs) m p=_;unfold bindC;rw[OU λ v hv=>(zav.mp nd).1 (List.of_mem_zip hv).1,if_neg hk];simp
 |p::P,w::vs,i+1,m,nd,h1,h2,hk=>by
  show bindC kindOf ((p,w)::P.zip vs) m x=_;unfold bindC;exact OW (i:=i) (zav.mp nd).2 (by simpa using h1) (by simpa using h2) hk
noncomputable def start (N:List Str)(vs:List V):St:=vs.map some++zR (N.length-vs.length) none
noncomputable def LW (CX:UQ)(P:Program)(w:World)(K:zy)(mg:Str->Option Value)(base:Heap)(N:List Str)(qual:Str)(scope:Scope)(f:Addr)(cd:Value)(A:Around)(outer:List Env)(s:Shared)(H:Hp)(E:XK):Cx where
 prog:=P
 w:=w
 K:=K
 mg:=mg
 base:=base
 A:=A.deeper (envOfC qual scope s.heap.objs.size f cd)
 N:=N
 s₀:=s
 H₀:=H
 env:=envOfC qual scope s.heap.objs.size f cd
 outer:=outer
 stack:=envOfC qual scope s.heap.objs.size f cd::outer
 ex:=[]
 calm:=true
 fn:=λ _=>true
 pn:=[]
 xe:=λ e s'=>wpAny (model P w) (A.deeper (envOfC qual scope s.heap.objs.size f cd)) (leaving (envOfC qual scope s.heap.objs.size f cd) e) (λ _ jl=>CX outer H s E e jl) (λ e' jl=>CX outer H s E e' jl) s'
theorem Ro {sc:Scope}{n:Nat}{x:Str}(h:sc.names.lookup x=some .cell):∃c,(cellsFrom n sc.names []).lookup x=some c:=by
 have q:=PySem.W.cellsFrom_some sc.names n [] (.inl h);exact zbu.mp q
theorem Wb {CX:UQ}{P:Program}{w:World}{K:zy}{mg:Str->Option Value}{base:Heap}{N ps:List Str}{qual:Str}{scope:Scope}{f:Addr}{cd:Value}{A:Around}{outer:List Env}{s s1:Shared}{H:Hp}{E:XK}{us:List Value}{vs:List V}
 (S:Ai N ps scope) (hd:A.handled=none) (e0:Tt P w K mg base A outer s H) (hl:vs.length=ps.length) (r:Vals vs us)
 (x:InCallC s s.heap.objs.size (bindL (envOfC qual scope s.heap.objs.size f cd).kindOf (ps.zip us) λ _=>none) (cellsFrom (s.heap.objs.size+1) scope.names []) (bindC (envOfC qual scope s.heap.objs.size f cd).kindOf (ps.zip us) λ _=>none) s1):
 Inv (LW CX P w K mg base N qual scope f cd A outer s H E) [] (start N vs) H s1:=by
 have hpl:ps.length<=N.length:=by have:=congrArg List.length S.pre;rw[zc5] at this;omega
 obtain⟨h1,tk,rfl,hk⟩:=x.done;have jm:∀b:Addr,b∉(LW CX P w K mg base N qual scope f cd A outer s H E).ex:=λ b z=>absurd (show b∈([]:List Addr) from z) (by simp);refine⟨⟨e0.mod,S.kind,rfl,rfl,zU _,λ y z c h1 h2=>?_,λ y hy=>?_,λ y c _ h=>?_,λ _=>hd,Around.frames_deeper e0.frames,.inr ⟨rfl,rfl⟩,λ b z=>absurd z (jm b),e0.bs,e0.cV,λ b _ _=>jm b,λ b z=>absurd z (jm b),e0.Jm,e0.kQ⟩,
  rfl,e0.bare,Un.kept hk,⟨_,x.toInCall.ns,λ i y v h1 h2 h3=>?_⟩,λ y c h=>⟨_,x.cell y c h⟩,e0.Au.fresh (zU _),λ y c h=>?_,λ p hp=>absurd (show p∈([]:List (Addr×Obj)) from hp) (by simp),e0.Au.kept hk,?_⟩
 ·exact name_of_addr x.apart (zco h1) (zco h2)
 ·have hy:scope.names.lookup y=some .cell\/scope.names.lookup y=some .free:=hy;rcases hy with hy|hy
  ·exact Ro hy
  ·exact absurd rfl (S.lV _ (zco hy))
 ·exact zaz (x.above y c (zco h))
 ·have hi:i<vs.length:=by
   unfold start at h2;by_cases hi:i<vs.length
   ·exact hi
   ·rw[zck (by simpa using hi)] at h2;rw[zc1] at h2;split at h2<;>cases h2
  have ha:vs[i]?=some v:=by
   unfold start at h2;rw[zbf (by simpa using hi),za2] at h2;cases e:vs[i]? with
   |none=>rw[e] at h2;cases h2
   |some a=>rw[e] at h2;cases h2;rfl
  obtain⟨u,hu,rv⟩:=r.get ha;have hp:ps[i]?=some y:=by
   rw[<-S.pre,List.getElem?_take_of_lt (by omega)];exact h1
  have v8:ps.Nodup:=by rw[<-S.pre];exact S.nd.sublist (List.take_sublist _ _)
  refine⟨u,rv,?_⟩;rcases S.vY y (zM hp) with k|k
  ·exact .inl ⟨k,OV v8 hp hu k⟩
  ·obtain⟨c,e⟩:=Ro (n:=s.heap.objs.size+1) k;refine .inr ⟨.inl k,c,e,?_⟩;have q:=x.cell y c e;rw[OW v8 hp hu (by show scope.names.lookup y≠_;rw[k];decide)] at q;exact q
 ·exact e0.Au.fresh (zaz (x.above y c (zco h)))
 ·unfold start;show _=N.length;rw[za7,zC,zcc];omega
theorem US {CX:UQ}{P:Program}{w:World}{K:zy}{mg:Str->Option Value}{base:Heap}{k:Nat}{f:Addr}{name qual:Str}{params:Arguments}{body:List Stmt}{scope:Scope}{dV kV doc pm B4 ct oc:Value}{an od:Option Addr}
 {T9:Array (Option Value)} {N ps:List Str} {sp:Sp} (lk:K.lookup f=some ⟨oc,od,.func (zai name qual params body scope dV kV doc pm an B4 ct),T9⟩) (br:zau K B4 qual=true) (S:Ai N ps scope)
 (len:∀vs H Q E,sp vs H Q E->vs.length=ps.length)
 (cj:∀(A:Around) (outer:List Env) (s:Shared) (H:Hp) (vs:List V) (Q:VK) (E:XK),BM k (A.deeper (envOfC qual scope s.heap.objs.size f B4))->sp vs H Q E->
  ∃t,UN (LW CX P w K mg base N qual scope f B4 A outer s H E) body t/\t {nx:=λ _ H'=>Q .AF H',rt:=Q} (start N vs) H):
 Dr P w K mg base CX (k+1) f (zai name qual params body scope dV kV doc pm an B4 ct) ps sp:=by
 refine⟨len,λ A outer s H args us vs Q E hr e0 hb r bU=>?_⟩;have hl:=len _ _ _ _ bU;have KX:K.In s.heap:=e0.mod.XD.keeps λ b o e=>(e0.bs b o e).1;have lim:s.heap.NoLimit:=e0.mod.nolimit.keeps λ b o e=>(e0.bs b o e).1;have jn:∀y∈ps.zip us,scope.names.lookup y.1=some .local\/(scope.names.lookup y.1=some .cell/\((cellsFrom (s.heap.objs.size+1) scope.names []).lookup y.1).isSome=true):=λ⟨n,v⟩ hy=>by
  rcases S.vY n (List.of_mem_zip hy).1 with q|q
  ·exact .inl q
  ·exact .inr ⟨q,PySem.W.cellsFrom_some _ _ _ (.inl q)⟩
 refine codeAny_call_function hr.depth (KX _ _ lk) rfl S.co S.gen rfl (PySem.W.codeRec_of KX br) (hb _ _ _ _ ?_);refine wpAny_newFunctionEnv_cells S.kind jn λ env he s1 x=>?_;subst he;refine⟨lim.keeps x.toInCall.keep,codeAny_func ?_⟩;obtain⟨t,ht,hq⟩:=cj A outer s H vs Q E (hr.deeper _) bU;have I:Inv (LW CX P w K mg base N qual scope f B4 A outer s H E) [] (start N vs) H s1:=Wb S hr.hd e0 hl r x;refine wpAny_mono (ht [] s1 (start N vs) H _ I hq) (λ fl s' hs=>?_) λ e s' hs=>hs;have fin:∀ {σ':St} {H':Hp} {v:V} {u:Value},Inv (LW CX P w K mg base N qual scope f B4 A outer s H E) [] σ' H' s'->RelV v u->Q v H'->CE outer P w H s Q u s':=
  fun {σ' H' v u} J rv q=>⟨v,H',J.os,J.bare,J.base,J.Au,rv,q⟩
 cases fl with
 |ret u =>
  obtain⟨v,σ',H',J,rv,q⟩:=hs;exact fin J rv q
 |next =>
  obtain⟨σ',H',J,q⟩:=hs;exact fin (v:=V.AF) (u:=Value.none) J rfl q
 |brk =>
  obtain⟨_,_,_,q⟩:=hs;exact zbv q
 |cont =>
  obtain⟨_,_,_,q⟩:=hs;exact zbv q
section
variable {X:Cx}{x:Str}{p pos:Pos}{e:Expr}{es:List Expr}{t:TA}{id T:String}{r:List V->Hp->VK->Prop}
noncomputable def uX (r:List V->Hp->VK->Prop)(t:TA):TE:=λ σ H Q=>t σ H λ vs H1=>r vs H1 Q
theorem Rp (hc:G0 X (.builtin id) r)(hg:Gl X x)(hm:X.mg x=none)(hv:bootBuiltins x=some (.builtin id))(ha:PA X (e::es) t)(hn:x ≠ "__name__" := by decide)(ba:(x==("__debug__" : Str))=false:=by decide)
 (he:starEach (e::es) X.env=(false,eval e X.env)::starEach es X.env:=by rfl) (hpl:(backTo pos (starEach es X.env)).any (·.1)=false:=by rfl):PE X (.Call (.Name x p) (e::es) [] pos) (uX r t):=by
 intro pins s σ H Q I h;refine wpAny_Call_Name_kw (Ed I hg hm hv ?_ hn ba);exact PyProof.Rows.callWith_builtin1 (Bc (ha pos pins s σ H _ I h) λ us s1 ⟨vs,H1,I1,r1,q1⟩=>hc pins s1 σ H1 vs us Q I1 r1 q1) he hpl
theorem KO (hc:G0 X (.type T) r)(hg:Gl X x)(hm:X.mg x=none)(hv:bootBuiltins x=some (.type T))(ha:PA X (e::es) t)(hn:x ≠ "__name__" := by decide)(ba:(x==("__debug__" : Str))=false:=by decide)
 (he:starEach (e::es) X.env=(false,eval e X.env)::starEach es X.env:=by rfl) (hpl:(backTo pos (starEach es X.env)).any (·.1)=false:=by rfl):PE X (.Call (.Name x p) (e::es) [] pos) (uX r t):=by
 intro pins s σ H Q I h;refine wpAny_Call_Name_kw (Ed I hg hm hv ?_ hn ba);exact zay (Bc (ha pos pins s σ H _ I h) λ us s1 ⟨vs,H1,I1,r1,q1⟩=>hc pins s1 σ H1 vs us Q I1 r1 q1) he hpl
end
end L2
namespace HT
open PySem PyProof.Rows
noncomputable def lexLt:List Int->List Int->Bool
 |[],[]=>false
 |[],_::_=>true
 |_::_,[]=>false
 |x::xs,y::ys=>if x=y then lexLt xs ys else decide (x<y)
theorem Fs (x y:Int)(xs ys:List Int):lexLt (x::xs) (y::ys)=if x=y then lexLt xs ys else decide (x<y):=rfl
theorem ES:lexLt [] []=false:=rfl
theorem MY (y:Int)(ys:List Int):lexLt [] (y::ys)=true:=rfl
theorem MZ (x:Int)(xs:List Int):lexLt (x::xs) []=false:=rfl
theorem Y2 (A:Around)(s:Shared)(a:Int)(t:Tok)(c:Int)(u:Tok):∃e,SeqAt.EqAt A s (.int a t) (.int c u) e/\(e=true↔a=c):=
 ⟨(a==c),SeqAt.EqAt.int_int a t c u,by simp⟩
theorem Y3 (A:Around)(s:Shared)(a:Int)(t:Tok)(c:Int)(u:Tok)(prog:Program)(w:World)(E:Value->Shared->Prop)(Q:Value->Shared->Prop)(h:Q (.bool (decide (a<c))) s):
 wpAny (model prog w) A (richCompare .Lt (.int a t) (.int c u)) Q E s:=
 (PyProof.Rows.lt_int h:wpAny (model prog w) A (compareOp .Lt (.int a t) (.int c u)) Q E s)
section
open PySem.SeqAt
open PySem.AutoSeq1 (wpAny_loadPart')
open PySem.MeetsSeq PySem.MeetsSeq2 PySem.MeetsSeq3
theorem Om (l b:Addr)(items aw:Array Value)(n n2:Nat)(dd oj:Option Addr)(sl jo:Array (Option Value))(ns ms:List Int)(hi:IntsAre items.toList ns)(hj:IntsAre aw.toList ms):
 Meets (Builtin.«tuple.__lt__» ⟨[.ref l,.ref b],[]⟩)
  (λ _ R s=>s.heap.get? l=some {cls:=.type "tuple",dict:=dd,data:=.seq items n,slots:=sl}/\s.heap.get? b=some {cls:=.type "tuple",dict:=oj,data:=.seq aw n2,slots:=jo}/\
   R (.ok (.ret (.bool (lexLt ns ms)))) s):=
 .of_wp λ prog w A R s h=>by
  obtain⟨hp,g,d,tk,os⟩:=s;obtain⟨hl,hb,h⟩:=h;have f2:=AutoSeq1.sub_tuple_tuple;have z1:items.size=ns.length:=by rw[<-hi.length];simp
  have z2:aw.size=ms.length:=by rw[<-hj.length];simp
  wp_walk using wpAny_loadPart' hl,wpAny_loadPart' hb,wpAny_forIn_list _ (λ rest b s'=>b.1=none/\s'=⟨hp,g,d,tk,os⟩/\∃(vs ws:List Value) (db i5:List Int),rest=vs.zip ws/\
   IntsAre vs db/\IntsAre ws i5/\db.length+aw.size=i5.length+items.size/\R (.ok (.ret (.bool (lexLt db i5)))) ⟨hp,g,d,tk,os⟩) _
  case turn =>
   rintro ⟨y,x⟩ rest b s' ⟨aG,rfl,vs,ws,db,i5,hz,om,mn,hlen,hR⟩;cases om with
   |nil=>rw[List.zip_nil_left] at hz;cases hz
   |cons a t on =>
    cases mn with
    |nil=>rw[List.zip_nil_right] at hz;cases hz
    |cons c u oq =>
     rw[List.zip_cons_cons] at hz;injection hz with xk d9
     injection xk with hy hx
     subst hy hx;rw[Fs] at hR;simp only[zO] at hlen;obtain⟨e,he,jp⟩:=Y2 A.in1 ⟨hp,g,d,tk,os⟩ a t c u;refine wpAny_bind (he prog w _ _ ?_);cases e with
     |true =>
      rw[if_pos (jp.mp rfl)] at hR
      wp_walk
      exact⟨rfl,rfl,_,_,_,_,d9,on,oq,by omega,hR⟩
     |false =>
      rw[if_neg (λ q=>absurd (jp.mpr q) zaf)] at hR;have xl:=Y3 A.in1 ⟨hp,g,d,tk,os⟩ a t c u prog w
      wp_walk using xl
      exact⟨_,rfl,by simpa using hR⟩
  case fin =>
   rintro ⟨b1,b2⟩ s' ⟨aG,rfl,vs,ws,db,i5,hz,om,mn,hlen,hR⟩;simp only at aG;subst aG;have hv:lexLt db i5=decide (items.size<aw.size):=by
    cases om with
    |nil =>
     cases mn with
     |nil =>
      simp only[List.length_nil] at hlen;rw[ES];exact (decide_eq_false (by omega)).symm
     |cons c u hw =>
      simp only[List.length_nil,zO] at hlen;rw[MY];exact (decide_eq_true (by omega)).symm
    |cons a t hv =>
     cases mn with
     |nil =>
      simp only[List.length_nil,zO] at hlen;rw[MZ];exact (decide_eq_false (by omega)).symm
     |cons c u hw =>
      rw[List.zip_cons_cons] at hz;cases hz
   rw[hv] at hR
   wp_walk
   exact⟨_,rfl,by simpa [Builtin.Tuple.tupleCompareSizes] using hR⟩
  case h =>
   exact⟨rfl,rfl,items.toList,aw.toList,ns,ms,rfl,hi,hj,by omega,h⟩
end
section
variable {prog:Program}{w:World}{A:Around}{E:Value->Shared->Prop}{s:Shared}
theorem IF {l b:Addr}{items aw:Array Value}{ns ms:List Int}{Q:Value->Shared->Prop}(hl:IsTup s.heap l items)(hb:IsTup s.heap b aw)(hi:IntsAre items.toList ns)(hj:IntsAre aw.toList ms)
 (hu:A.units<cLine) (h:Q (.bool (lexLt ns ms)) s):wpAny (model prog w) A (compareOp .Lt (.ref l) (.ref b)) Q E s:=by
 obtain⟨⟨cls,dd,data,sl⟩,ho,hc,n,hd⟩:=id hl;obtain⟨⟨xm,oj,data2,jo⟩,mo,v9,n2,hd2⟩:=id hb;simp only at hc hd v9 hd2;subst hc hd v9 hd2;exact richCompare_meets_room (op:=.Lt) ⟨_,ho,rfl⟩ ⟨_,mo,rfl⟩ PySem.F.slot_tuple_lt PySem.F.entry_tuple_lt (PySem.F.args_tuple_lt_2 _ _) (Om l b items aw n n2 dd oj sl jo ns ms hi hj)
  ⟨ho,mo,show Value.bool (lexLt ns ms)≠Value.notImplemented/\Q (.bool (lexLt ns ms)) s from ⟨(λ x=>nomatch x),h⟩⟩ hu
noncomputable def N0 (n d:Nat):Option Int->Nat
 |none=>d
 |some v=>if v<0 then (v+(n:Int)).toNat else min v.toNat n
theorem Y4 (n d:Nat):N0 n d none=d:=rfl
theorem Q6 (n d k:Nat):N0 n d (some (k:Int))=min k n:=by
 show (if (k:Int)<0 then ((k:Int)+(n:Int)).toNat else min (k:Int).toNat n)=min k n;rw[if_neg (by omega),zax]
end
end HT
namespace L2
open PySem PySem.Spec PyProof.Rows
noncomputable abbrev TO:=St->Hp->(Option Int->Hp->Prop)->Prop
def PO (X:Cx)(e:Option Expr)(t:TO):Prop:=
 ∀(pins:List (Addr×Obj)) (s:Shared) (σ:St) (H:Hp) (Q:Option Int->Hp->Prop),Inv X pins σ H s->t σ H Q->
  wpAny (model X.prog X.w) X.A (evalPart e X.env) (λ u s'=>∃o H',Inv X pins σ H' s'/\IsPart u o/\Q o H') X.xe s
noncomputable def dM:TO:=λ _ H Q=>Q none H
noncomputable def qQ (t:TE):TO:=λ σ H Q=>t σ H λ x H1=>∃i,x=.int i/\Q (some i) H1
theorem intsAre_of {ns:List Int}:∀ {us:List Value},Vals (ns.map V.int) us->IntsAre us ns:=by
 induction ns with
 |nil=>intro us r;rw[List.map_nil] at r;cases r;exact .nil
 |cons n ns ih =>
  intro us r;rw[zG] at r;cases r with
  |cons r1 r2 =>
   obtain⟨t,e⟩:=r1;subst e;exact .cons n t (ih r2)
section
variable {X:Cx}{e:Expr}{te:TE}{lo hi:Option Expr}{tl th:TO}{pos p2:Pos}
theorem dN:PO X none dM:=by
 intro pins s σ H Q I h;rw[evalPart_none];exact wpAny_pure ⟨none,H,I,.none,h⟩
theorem dO (h:PE X e te):PO X (some e) (qQ te):=by
 intro pins s σ H Q I hw;rw[evalPart_some];refine Bc (h pins s σ H _ I hw) λ u s1 ⟨x,H1,I1,r1,q1⟩=>?_;obtain⟨i,rfl,q⟩:=q1;obtain⟨t,rfl⟩:=r1;exact⟨some i,H1,I1,.int i t,q⟩
def vZ (X:Cx)(r:V->Option Int->Option Int->Hp->VK->Prop):Prop:=
 ∀(pins:List (Addr×Obj)) (s:Shared) (σ:St) (H:Hp) (x:V) (v vl vu:Value) (lo hi:Option Int) (sl:Addr) (Q:VK),Inv X pins σ H s->RelV x v->s.heap.IsSliceOf sl vl vu .none->IsPart vl lo->IsPart vu hi->r x lo hi H Q->
  ∃T id,typeLookup (.type T) "__getitem__" = pure (some (.builtin id))/\s.TypeIs v T/\wpAny (model X.prog X.w) X.A (getItem v (.ref sl)) (EP X pins σ Q) X.xe s
noncomputable def xE (r:V->Option Int->Option Int->Hp->VK->Prop)(te:TE)(tl th:TO):TE:=λ σ H Q=>te σ H λ x H1=>tl σ H1 λ l H2=>th σ H2 λ u H3=>r x l u H3 Q
theorem Y5 {r:V->Option Int->Option Int->Hp->VK->Prop}(hr:vZ X r)(he:PE X e te)(hl:PO X lo tl)(hu:PO X hi th):PE X (.Subscript e (.Slice lo hi none p2) pos) (xE r te tl th):=by
 intro pins s σ H Q I h;refine Subscript_ (Bc (he pins s σ H _ I h) λ v s1 ⟨x,H1,I1,r1,q1⟩=>?_);refine wpAny_Slice (Bc (hl pins s1 σ H1 _ I1 q1) λ vl s2 ⟨l,H2,I2,pl,q2⟩=>Bc (hu pins s2 σ H2 _ I2 q2) λ vu s3 ⟨u,H3,I3,pu,q3⟩=>?_);rw[evalPart_none];refine wpAny_pure ?_;have I4:Inv X pins σ H3 {s3 with heap:=s3.heap.push {cls:=.type "slice",data:=.fields #[vl,vu,.none]} }:=I3.kept (t':=s3.toks) λ b ob q=>zI _ q;obtain⟨T,id,hT,ht,hg⟩:=hr pins {s3 with heap:=s3.heap.push {cls:=.type "slice",data:=.fields #[vl,vu,.none]} } σ H3 x v vl vu l u s3.heap.objs.size Q I4 r1 (Heap.IsSliceOf.new ..) pl pu q3;show wpAny (model X.prog X.w) X.A (subscriptTail e (.Slice lo hi none p2) v (.ref s3.heap.objs.size)) (EP X pins σ Q) X.xe {s3 with heap:=s3.heap.push {cls:=.type "slice",data:=.fields #[vl,vu,.none]} };exact tail_any (ops:=[.ref s3.heap.objs.size,v]) ht hT hg (by with_unfolding_all rfl)
noncomputable def Y6 (xs:List V)(lo hi:Option Int):List V:=(xs.drop (HT.N0 xs.length 0 lo)).take (HT.N0 xs.length xs.length hi-HT.N0 xs.length 0 lo)
theorem Rq (xs:List V)(lo hi:Option Int):(Y6 xs lo hi).length<=xs.length:=by
 unfold Y6;rw[zc5,zcp];omega
noncomputable def qR (K:zy):R2:=λ x y H Q=>∃a b ns ms,x=.ref a/\y=.ref b/\EL K H a (ns.map V.int)/\EL K H b (ms.map V.int)/\Q (.bl (HT.lexLt ns ms)) H
theorem Y7 (hu:X.A.units<cLine):Gp X (compareOp .Lt) (qR X.K):=by
 intro pins s σ H x y v u Q I rx ry h;obtain⟨a,b,ns,ms,rfl,rfl,ha,hb,q⟩:=h;cases rx;cases ry;obtain⟨aa,r1,p1,_⟩:=I.tuple ha;obtain⟨bc,r2,p2,_⟩:=I.tuple hb;have i1:IntsAre aa.toArray.toList ns:=intsAre_of r1;have i2:IntsAre bc.toArray.toList ms:=intsAre_of r2;exact HT.IF p1 p2 i1 i2 hu ⟨.bl (HT.lexLt ns ms),H,I,rfl,q⟩
end
noncomputable def OX (n:Nat)(i:Int):Option Nat:=if 0<=i then (if i<n then some i.toNat else none) else if -(n:Int)<=i then some (i+n).toNat else none
noncomputable def Rr {α:Type}(xs:List α)(i:Int):Option α:=(OX xs.length i).bind λ j=>xs[j]?
theorem UT {n:Nat}{i:Int}{j:Nat}(h:OX n i=some j):seqIndex? i n=some j/\j<n/\-(n:Int)<=i/\i<n:=by
 unfold OX at h;by_cases h0:0<=i
 ·rw[if_pos h0] at h;by_cases h1:i<n
  ·rw[if_pos h1] at h;have e:i.toNat=j:=za6 h;exact⟨by rw[seqIndex_of h0 h1,e],by omega,by omega,h1⟩
  ·rw[if_neg h1] at h;cases h
 ·rw[if_neg h0] at h;by_cases h1 : -(n:Int)<=i
  ·rw[if_pos h1] at h;have e:(i+n).toNat=j:=za6 h;exact⟨by rw[seqIndex_neg (by omega) h1,e],by omega,h1,by omega⟩
  ·rw[if_neg h1] at h;cases h
theorem UU {α:Type}{xs:List α}{i:Int}{v:α}(h:Rr xs i=some v):∃j,seqIndex? i xs.length=some j/\xs[j]?=some v/\j<xs.length/\-(xs.length:Int)<=i/\i<xs.length:=by
 unfold Rr at h;cases e:OX xs.length i with
 |none=>rw[e] at h;cases h
 |some j =>
  rw[e] at h;obtain⟨h1,h2,h3,h4⟩:=UT e;exact⟨j,h1,h,h2,h3,h4⟩
def Hw (b:Expr):Prop:=∀o i,subscripted b false o i=operate [o,i] (getItem o i)
def dP (X:Cx)(r:R2):Prop:=
 ∀(value slice:Expr) (pins:List (Addr×Obj)) (s:Shared) (σ:St) (H:Hp) (x y:V) (v u:Value) (Q:VK),Inv X pins σ H s->RelV x v->RelV y u->r x y H Q->
  subscripted slice false v u=operate [v,u] (getItem v u)->wpAny (model X.prog X.w) X.A (subscriptTail value slice v u) (EP X pins σ Q) X.xe s
def xF (X:Cx)(id:String)(r:V->List V->Hp->VK->Prop):Prop:=
 ∀(pins:List (Addr×Obj)) (s:Shared) (σ:St) (H:Hp) (x:V) (xs:List V) (v:Value) (us:List Value) (Q:VK),Inv X pins σ H s->RelV x v->Vals xs us->r x xs H Q->
  wpAny (model X.prog X.w) X.A (call (.builtin id) (v::us)) (EP X pins σ Q) X.xe s
section
variable {X:Cx}{a b:Expr}{ta tb:TE}{pos:Pos}
theorem dP.or {r r':R2}(h:dP X r)(h':dP X r'):dP X (λ x y H Q=>r x y H Q\/r' x y H Q):=by
 intro value slice pins s σ H x y v u Q I rx ry q hs;rcases q with q|q
 ·exact h value slice pins s σ H x y v u Q I rx ry q hs
 ·exact h' value slice pins s σ H x y v u Q I rx ry q hs
theorem UW {r:R2}(hr:dP X r)(ha:PE X a ta)(hb:PE X b tb)(hs:Hw b):PE X (.Subscript a b pos) (oX r ta tb):=by
 intro pins s σ H Q I h;exact Subscript_ (lI ha hb I h λ v u s2 x y H2 I2 rx ry q=>hr a b pins s2 σ H2 x y v u Q I2 rx ry q (hs _ _))
noncomputable def lW (K:zy):R2:=λ x y H Q=>∃p xs i v,x=.ref p/\y=.int i/\DF K H p xs/\Rr xs i=some v/\Q v H
noncomputable def lX (K:zy):R2:=λ x y H Q=>∃p xs i v,x=.ref p/\y=.int i/\EL K H p xs/\Rr xs i=some v/\Q v H
theorem Mf:dP X (lW X.K):=by
 intro value slice pins s σ H x y v u Q I rx ry h hs;obtain⟨p,xs,i,z,rfl,rfl,hq,he,q⟩:=h;cases rx;obtain⟨t,rfl⟩:=ry;obtain⟨aa,r,pl,hz⟩:=I.list hq;obtain⟨j,h1,h2,h3,h4,h5⟩:=UU he;obtain⟨w,ew,bt⟩:=r.get h2;have hl:=r.length;have hn:=KL;have fin:EP X pins σ Q w s:=⟨z,H,I,bt,q⟩;by_cases h0:0<=i
 ·have hj:i.toNat=j:=by
   rw[seqIndex_of h0 h5] at h1;exact za6 h1
  exact item_listR pl.isList h0 (by omega) (by rw[hj];simpa using ew) fin hs
 ·have hj:(i+(aa.toArray.size:Int)).toNat=j:=by
   rw[seqIndex_neg (by omega) h4] at h1;rw[zL,<-hl];exact za6 h1
  exact subscriptTail_builtinR (x:=w) pl.isList.typeIs slot_list_getitem.lookup
   (wpAny_getItem_list_neg (Q:=λ r s'=>r=w/\EP X pins σ Q r s') pl.isList (by omega) (by rw[zL]<;>omega) (by omega) (by rw[hj];simpa using ew) ⟨rfl,fin⟩) hs
theorem lY:dP X (lX X.K):=by
 intro value slice pins s σ H x y v u Q I rx ry h hs;obtain⟨p,xs,i,z,rfl,rfl,hq,he,q⟩:=h;cases rx;obtain⟨t,rfl⟩:=ry;obtain⟨aa,r,pl,hz⟩:=I.tuple hq;obtain⟨j,h1,h2,h3,h4,h5⟩:=UU he;obtain⟨w,ew,bt⟩:=r.get h2;have hl:=r.length;have hn:=KL;have fin:EP X pins σ Q w s:=⟨z,H,I,bt,q⟩;exact subscriptTail_builtinR (x:=w) pl.typeIs slot_tuple_getitem.lookup
  (getItem_tuple (j:=j) (Q:=λ r s'=>r=w/\EP X pins σ Q r s') pl (by omega) (by omega) (by rw[zL,<-hl];exact h1) (by simpa using ew) ⟨rfl,fin⟩) hs
theorem Tv (aa:List Value)(n j:Nat)(u:Value):zbz (·.setIfInBounds j u) {cls:=.type "list",data:=.seq aa.toArray n}={cls:=.type "list",data:=.seq (aa.set j u).toArray n}:=by
 simp[zbz]
theorem Inv.lst {pins:List (Addr×Obj)}{σ:St}{H:Hp}{s:Shared}{p:Addr}{xs:List V}(I:Inv X pins σ H s)(h:H p=some (.lst xs)):
 ∃(aa:List Value) (n:Nat),Vals xs aa/\s.heap.get? p=some {cls:=.type "list",data:=.seq aa.toArray n}/\xs.length<=sizeLine:=by
 obtain⟨z,aa,n,r,e⟩:=I.Au p _ h;exact⟨aa,n,r,e,z⟩
theorem Inv.lZ {pins:List (Addr×Obj)}{σ:St}{H:Hp}{s:Shared}{p:Addr}{xs ys:List V}{aa its':List Value}{n n':Nat}{f:Obj->Obj}(I:Inv X pins σ H s)(h:H p=some (.lst xs))
 (ho:s.heap.get? p=some {cls:=.type "list",data:=.seq aa.toArray n}) (hf:f {cls:=.type "list",data:=.seq aa.toArray n}={cls:=.type "list",data:=.seq its'.toArray n' }) (r:Vals ys its') (hz:ys.length<=sizeLine) (t:Nat):
 Inv X pins σ (upd H p (.lst ys)) {s with heap:=s.heap.update p f,toks:=t}:=by
 have e:(s.heap.update p f).get? p=some {cls:=.type "list",data:=.seq its'.toArray n' }:=by
  rw[zce f ho (by rw[hf]<;>rfl),hf]
 refine I.write (x:=p) (e:=p) (by rw[h];trivial) (.inl rfl) (λ b u hb q=>(zc8 _ _ (zao hb)).trans q) ⟨_,e⟩ ?_;exact⟨hz,its',n',r,e⟩
def qS:V->V->V->Hp->(Hp->Prop)->Prop:=λ o i v H Q=>∃p xs k j,o=.ref p/\i=.int k/\H p=some (.lst xs)/\OX xs.length k=some j/\Q (upd H p (.lst (xs.set j v)))
theorem set_list:qB X qS:=by
 intro pins s σ H o i v ov iv u Q I ro ri rv h;obtain⟨p,xs,k,j,rfl,rfl,hp,hj,q⟩:=h;cases ro;obtain⟨t,rfl⟩:=ri;obtain⟨aa,n,r,ho,hz⟩:=I.lst hp;obtain⟨h1,h2,h3,h4⟩:=UT hj;have hl:=r.length;have hn:=KL;have I':Inv X pins σ (upd H p (.lst (xs.set j v))) {s with heap:=s.heap.update p (zbz (·.setIfInBounds j u))}:=
  I.lZ hp ho (Tv aa n j u) (r.set rv j) (by rw[zb3];exact hz) s.toks
 by_cases h0:0<=k
 ·have hk:k.toNat=j:=by
   rw[seqIndex_of h0 h4] at h1;exact za6 h1
  exact PySem.W.ki_setAt ho h0 (by omega) (by rw[zL,<-hl];exact h4) (by rw[hk];exact⟨_,I',q⟩)
 ·have hk:(k+(aa.toArray.size:Int)).toNat=j:=by
   rw[seqIndex_neg (by omega) h3] at h1;rw[zL,<-hl];exact za6 h1
  exact PySem.W.ki_setBack ho (by omega) (by rw[zL,<-hl];exact h3) (by omega) (by rw[hk];exact⟨_,I',q⟩)
theorem Q7 (lo hi:Option Int)(n:Nat):(sliceBounds lo hi none n).1=((HT.N0 n 0 lo:Nat):Int)/\(sliceBounds lo hi none n).2.1=((HT.N0 n n hi:Nat):Int)/\(sliceBounds lo hi none n).2.2=1:=by
 refine⟨?_,?_,rfl⟩
 ·cases lo with
  |none=>simp[sliceBounds,HT.N0]
  |some i =>
   simp only[sliceBounds,HT.N0,Option.getD_none,show (1:Int) > 0 by decide,if_true];by_cases h:i<0
   ·simp only[h,if_true]<;>omega
   ·simp only[h,if_false]<;>omega
 ·cases hi with
  |none=>simp[sliceBounds,HT.N0]
  |some i =>
   simp only[sliceBounds,HT.N0,Option.getD_none,show (1:Int) > 0 by decide,if_true];by_cases h:i<0
   ·simp only[h,if_true]<;>omega
   ·simp only[h,if_false]<;>omega
theorem Oo (aa:List Value)(lo hi:Option Int):slicePick aa.toArray lo hi none=((aa.drop (HT.N0 aa.length 0 lo)).take (HT.N0 aa.length aa.length hi-HT.N0 aa.length 0 lo)).toArray:=by
 obtain⟨h1,h2,h3⟩:=Q7 lo hi aa.toArray.size;unfold slicePick;rw[h1,h2,h3];simp only[sliceRange_one,pick_run,zL]<;>rfl
def uY (K:zy):V->Option Int->Option Int->Hp->VK->Prop:=λ x lo hi H Q=>∃a xs,x=.ref a/\DF K H a xs/\∀p,H p=none->Q (.ref p) (upd H p (.lst (Y6 xs lo hi)))
theorem dQ:vZ X (uY X.K):=by
 intro pins s σ H x v vl vu lo hi sl Q I rx hs pl pu h;obtain⟨a,xs,rfl,hx,q⟩:=h;cases rx;obtain⟨aa,r,ht,hz⟩:=I.list hx;have hlen:=r.length;refine⟨"list",_,slot_list_getitem.lookup,ht.isList.typeIs,?_⟩;refine wpAny_getItem_list_slice ht.isList hs pl pu .none (by simp) ?_ (by rw[zL]<;>omega);rw[Oo,<-hlen];refine⟨.ref s.heap.objs.size,_,I.laid (t':=s.toks) (o:=.lst (Y6 xs lo hi)) (λ b ob q=>zI _ q) (zU _) ?_,rfl,q _ (I.Au.fresh (zU _))⟩;exact⟨zat (Rq xs lo hi) hz,_,0,(r.drop (HT.N0 xs.length 0 lo)).take (HT.N0 xs.length xs.length hi-HT.N0 xs.length 0 lo),zZ _ rfl⟩
noncomputable def Jr:V->Bool
 | .AF| .bl _| .int _| .str _=>true
 |_=>false
noncomputable def jM:V->V->Bool
 | .AF,.AF=>true
 | .bl a,.bl b=>a==b
 | .bl a,.int b=>(if a then 1 else 0)==b
 | .int a,.bl b=>a==(if b then 1 else 0)
 | .int a,.int b| .str a,.str b=>a==b
 |_,_=>false
theorem mB {A:Around}{s:Shared}{y x:V}{u v:Value}(ry:RelV y u)(rx:RelV x v)(fy:Jr y=true)(fx:Jr x=true):SeqAt.EqAt A s u v (jM y x):=by
 cases y with
 |AF =>
  cases ry;cases x with
  |AF=>cases rx;exact SeqAt.EqAt.same _
  |bl b=>cases rx;exact SeqAt.EqAt.none_bool b
  |int b=>obtain⟨t,rfl⟩:=rx;exact SeqAt.EqAt.none_int b t
  |str b=>obtain⟨t,rfl⟩:=rx;exact SeqAt.EqAt.none_str b t
  |_=>exact absurd (show false=true from fx) zaf
 |bl a =>
  cases ry;cases x with
  |AF=>cases rx;exact SeqAt.EqAt.bool_none a
  |bl b=>cases rx;exact SeqAt.EqAt.bool_bool a b
  |int b=>obtain⟨t,rfl⟩:=rx;exact SeqAt.EqAt.bool_int a b t
  |str b=>obtain⟨t,rfl⟩:=rx;exact SeqAt.EqAt.bool_str a b t
  |_=>exact absurd (show false=true from fx) zaf
 |int a =>
  obtain⟨t',rfl⟩:=ry;cases x with
  |AF=>cases rx;exact SeqAt.EqAt.int_none a t'
  |bl b=>cases rx;exact SeqAt.EqAt.int_bool a t' b
  |int b=>obtain⟨t,rfl⟩:=rx;exact SeqAt.EqAt.int_int a t' b t
  |str b=>obtain⟨t,rfl⟩:=rx;exact SeqAt.EqAt.int_str a t' b t
  |_=>exact absurd (show false=true from fx) zaf
 |str a =>
  obtain⟨t',rfl⟩:=ry;cases x with
  |AF=>cases rx;exact SeqAt.EqAt.str_none a t'
  |bl b=>cases rx;exact SeqAt.EqAt.str_bool a t' b
  |int b=>obtain⟨t,rfl⟩:=rx;exact SeqAt.EqAt.str_int a t' b t
  |str b=>obtain⟨t,rfl⟩:=rx;exact SeqAt.EqAt.str_str a t' b t
  |_=>exact absurd (show false=true from fx) zaf
 |_=>exact absurd (show false=true from fy) zaf
noncomputable def Tw (x:V)(u:Value):Bool:=match u with
 | .none=>jM .AF x
 | .bool b=>jM (.bl b) x
 | .int i _=>jM (.int i) x
 | .str z _=>jM (.str z) x
 |_=>false
theorem Y8 {x y:V}{u:Value}(r:RelV y u)(f:Jr y=true):Tw x u=jM y x:=by
 cases y with
 |AF|bl b=>cases r;rfl
 |int i|str z=>obtain⟨t,rfl⟩:=r;rfl
 |_=>exact absurd (show false=true from f) zaf
theorem Js {x:V}:∀ {xs:List V}{us:List Value},Vals xs us->xs.all Jr=true->us.any (Tw x)=xs.any λ y=>jM y x
 |_,_,.nil,_=>rfl
 |y::xs,u::us,.cons r t,f=>by
  rw[zcj,zad] at f;rw[zci,zci,Y8 r f.1,Js t f.2]
theorem Gr {A:Around}{s:Shared}{x:V}{v:Value}(rx:RelV x v)(fx:Jr x=true):∀ {xs:List V}{us:List Value},Vals xs us->xs.all Jr=true->∀u∈us,SeqAt.EqAt A s u v (Tw x u)
 |_,_,.nil,_=>λ u hu=>by cases hu
 |y::xs,u::us,.cons r t,f=>λ u' hu=>by
  rw[zcj,zad] at f;rcases zQ.mp hu with rfl|hu
  ·rw[Y8 r f.1];exact mB r rx f.1 fx
  ·exact Gr rx fx t f.2 u' hu
noncomputable def tM (x:V)(xs:List V):Bool:=xs.any λ y=>jM y x
noncomputable def tN (K:zy)(neg:Bool):R2:=λ x y H Q=>∃p xs,y=.ref p/\(DF K H p xs\/EL K H p xs)/\Jr x=true/\xs.all Jr=true/\Q (.bl (if neg then !tM x xs else tM x xs)) H
theorem Wc:Gp X (compareOp .In) (tN X.K false):=by
 intro pins s σ H x y v u Q I rx ry h;obtain⟨p,xs,rfl,hq,fx,fs,q⟩:=h;cases ry;rcases hq with hq|hq
 ·obtain⟨aa,r,pl,hz⟩:=I.list hq;refine SeqAt.in_listAt (Tw x) pl.isList (λ w hw=>Gr rx fx r fs w (by simpa using hw)) ⟨.bl _,H,I,rfl,?_⟩;rw[show aa.toArray.any (Tw x)=aa.any (Tw x) by simp,Js r fs];exact q
 ·obtain⟨aa,r,pl,hz⟩:=I.tuple hq;refine SeqAt.in_tupleAt (Tw x) pl (λ w hw=>Gr rx fx r fs w (by simpa using hw)) ⟨.bl _,H,I,rfl,?_⟩;rw[show aa.toArray.any (Tw x)=aa.any (Tw x) by simp,Js r fs];exact q
theorem Q8:Gp X (compareOp .NotIn) (tN X.K true):=by
 intro pins s σ H x y v u Q I rx ry h;obtain⟨p,xs,rfl,hq,fx,fs,q⟩:=h;cases ry;rcases hq with hq|hq
 ·obtain⟨aa,r,pl,hz⟩:=I.list hq;refine SeqAt.notIn_listAt (Tw x) pl.isList (λ w hw=>Gr rx fx r fs w (by simpa using hw)) ⟨.bl _,H,I,rfl,?_⟩;rw[show aa.toArray.any (Tw x)=aa.any (Tw x) by simp,Js r fs];exact q
 ·obtain⟨aa,r,pl,hz⟩:=I.tuple hq;refine SeqAt.notIn_tupleAt (Tw x) pl (λ w hw=>Gr rx fx r fs w (by simpa using hw)) ⟨.bl _,H,I,rfl,?_⟩;rw[show aa.toArray.any (Tw x)=aa.any (Tw x) by simp,Js r fs];exact q
theorem Q9:G0 X (.builtin "len") (λ xs H Q=>∃p ys,xs=[.ref p]/\(DF X.K H p ys\/EL X.K H p ys)/\Q (.int ys.length) H):=by
 intro pins s σ H xs us Q I r h;obtain⟨p,ys,rfl,hq,q⟩:=h;obtain⟨u,rfl,rx⟩:=vals1 r;cases rx;have hn:=KL;rcases hq with hq|hq
 ·obtain⟨aa,r',pl,hz⟩:=I.list hq;have hlen:=r'.length;exact Calls.call_len_list pl.isList (by simp only[zL]<;>omega) ⟨.int ys.length,H,I.tok _,⟨s.toks+1,by rw[zL,hlen]⟩,q⟩
 ·obtain⟨aa,r',pl,hz⟩:=I.tuple hq;have hlen:=r'.length;exact len_tuple pl (by simp only[zL]<;>omega) ⟨.int ys.length,H,I.tok _,⟨s.toks+1,by rw[zL,hlen]⟩,q⟩
theorem Qa:G0 X (.type "list") (λ xs H Q=>∃p ys,xs=[.ref p]/\(DF X.K H p ys\/EL X.K H p ys)/\∀l,H l=none->Q (.ref l) (upd H l (.lst ys))):=by
 intro pins s σ H xs us Q I r h;obtain⟨p,ys,rfl,hq,q⟩:=h;obtain⟨u,rfl,rx⟩:=vals1 r;cases rx;have fin:∀(aa:List Value),Vals ys aa->ys.length<=sizeLine->∀(h':Heap) (c':Nat),(∀b o',s.heap.get? b=some o'->h'.get? b=some o')->
  h'.get? s.heap.objs.size=some {cls:=.type "list",dict:=none,data:=.seq aa.toArray c',slots:=#[]}->EP X pins σ Q (.ref s.heap.objs.size) {s with heap:=h' }:=λ aa r' hz h' c' kp e =>
  ⟨.ref s.heap.objs.size,_,I.laid (t':=s.toks) kp (zU _) (show B6 X.prog X.w _ h' _ (.lst ys) from ⟨hz,aa,c',r',e⟩),rfl,q _ (I.Au.fresh (zU _))⟩
 rcases hq with hq|hq
 ·obtain⟨aa,r',pl,hz⟩:=I.list hq;have hlen:=r'.length;obtain⟨o,ho,hc,n,hd⟩:=pl.isList;exact call_list_seq p (.inl rfl) ho hc hd (λ h' c' kp e=>fin aa r' hz h' c' kp e) (by simp only[zL]<;>omega)
 ·obtain⟨aa,r',pl,hz⟩:=I.tuple hq;have hlen:=r'.length;obtain⟨o,ho,hc,n,hd⟩:=pl;exact call_list_seq p (.inr rfl) ho hc hd (λ h' c' kp e=>fin aa r' hz h' c' kp e) (by simp only[zL]<;>omega)
theorem Oq:G0 X (.type "tuple") (λ xs H Q=>∃p ys,xs=[.ref p]/\((DF X.K H p ys/\∀l,H l=none->Q (.ref l) (upd H l (.tup ys)))\/(EL X.K H p ys/\Q (.ref p) H))):=by
 intro pins s σ H xs us Q I r h;obtain⟨p,ys,rfl,h⟩:=h;obtain⟨u,rfl,rx⟩:=vals1 r;cases rx;rcases h with ⟨hq,q⟩|⟨hq,q⟩
 ·obtain⟨aa,r',pl,hz⟩:=I.list hq;have hlen:=r'.length;refine call_tuple_list pl.isList (λ h' kp=>?_) (by simp only[zL]<;>omega);have I1:Inv X pins σ H {s with heap:=h' }:=I.kept (t':=s.toks) kp;have I2:Inv X pins σ (upd H h'.objs.size (.tup ys)) {s with heap:=h'.push {cls:=.type "tuple",data:=.seq aa.toArray} }:=
   I1.laid (t':=s.toks) (λ b o e=>zI _ e) (zU _) (show B6 X.prog X.w _ _ _ (.tup ys) from ⟨hz,aa,r',IsTup.new _ _⟩)
  exact⟨.ref h'.objs.size,_,I2,rfl,q _ (I1.Au.fresh (zU _))⟩
 ·obtain⟨aa,r',pl,hz⟩:=I.tuple hq;exact call_tuple_same pl ⟨.ref p,H,I,rfl,q⟩
def wA (K:zy)(T:String)(x:V)(H:Hp):Prop:=match x with
 | .str _=>T = "str"
 | .int _=>T = "int"
 | .ref p=>(T = "list" /\ ∃xs,DF K H p xs)\/(T = "tuple" /\ ∃o,K.lookup p=some o/\o.cls=.type "tuple" /\ o.dict=none) \/
  (T = "dict" /\ ((∃kvs,H p=some (.dK kvs))\/∃kvs,H p=some (.dT kvs)))\/(T = "set" /\ ∃S n,H p=some (.set S n))
 |_=>False
theorem mC {pins:List (Addr×Obj)}{σ:St}{H:Hp}{s:Shared}{T:String}{x:V}{v:Value}(I:Inv X pins σ H s)(r:RelV x v)(ty:wA X.K T x H):
 s.TypeIs v T/\∀a,v=.ref a->∃ob,s.heap.get? a=some ob/\ob.dict=none:=by
 cases x with
 |str z =>
  obtain⟨t,rfl⟩:=r;cases (show T = "str" from ty);exact⟨typeIs_str s z t,λ _ e=>nomatch e⟩
 |int i =>
  obtain⟨t,rfl⟩:=r;cases (show T = "int" from ty);exact⟨typeIs_int s i t,λ _ e=>nomatch e⟩
 |ref p =>
  cases r;rcases ty with ⟨rfl,xs,hq⟩|⟨rfl,o,hk,hc,hd⟩|⟨rfl,hk⟩|⟨rfl,S,n,hk⟩
  ·obtain⟨aa,_,pl,_⟩:=I.list hq;refine⟨pl.isList.typeIs,λ a e=>?_⟩;cases e;obtain⟨o,n,e,c,hd,_⟩:=pl;exact⟨o,e,hd⟩
  ·refine⟨⟨o,I.Og p o hk,hc⟩,λ a e=>?_⟩;cases e;exact⟨o,I.Og _ o hk,hd⟩
  ·have z:∃o,s.heap.get? p=some o/\o.ExactDict:=by
    rcases hk with ⟨kvs,hk⟩|⟨kvs,hk⟩
    ·obtain⟨_,_,_,_,o,_,_,e,ex,_⟩:=I.Au p _ hk;exact⟨o,e,ex⟩
    ·obtain⟨_,_,_,_,o,_,_,e,ex,_⟩:=I.Au p _ hk;exact⟨o,e,ex⟩
   obtain⟨o,e,ex⟩:=z;refine⟨⟨o,e,ex.1⟩,λ a e2=>?_⟩;cases e2;exact⟨o,e,ex.2.1⟩
  ·obtain⟨o,_,_,_,e,ex,_⟩:=I.Au p _ hk;refine⟨⟨o,e,ex.1⟩,λ a e2=>?_⟩;cases e2;exact⟨o,e,ex.2.1⟩
 |_=>exact zbv ty
noncomputable def xG (K:zy)(T:String)(r:V->List V->Hp->VK->Prop)(to:TE)(t:TA):TE:=λ σ H Q=>to σ H λ x H1=>wA K T x H1/\t σ H1 λ xs H2=>r x xs H2 Q
variable {o e:Expr}{es:List Expr}{to:TE}{t:TA}{name:Str}{apos ae:Pos}{T id:String}{r:V->List V->Hp->VK->Prop}
theorem UX (pa:PlainAttrs T)(slot:Slot T name id)(xn:typeOf (.builtin id)=pure (.type "method_descriptor"))(hm:xF X id r)(ho:PE X o to)(ha:PA X (e::es) t)
 (ay:attributeBase o name X.env (eval o X.env)=eval o X.env:=by rfl)
 (bi:((backTo ae (starEach (e::es) X.env)).all (λ x => !x.1)&&(backToKw ae (keywordEach [] X.env)).all (λ x=>x.1.isSome)
  && decide ((e::es).length+([]:List Keyword).length+(if ([]:List Keyword).isEmpty then 0 else 1)<30))=true:=by rfl)
 (az:(apos.endLine==ae.line)=true:=by rfl) (hs:starEach (e::es) X.env=(false,eval e X.env)::starEach es X.env:=by rfl) (ar:(backTo ae (starEach es X.env)).any (·.1)=false:=by rfl):
 PE X (.Call (.Attribute o name apos) (e::es) [] ae) (xG X.K T r to t):=by
 intro pins s σ H Q I h;refine wpAny_Call_method_late ay bi az rfl (Bc (ho pins s σ H _ I h) λ v s1 ⟨x,H1,I1,r1,ty,q1⟩=>?_);obtain⟨h1,h2⟩:=mC I1 r1 ty;refine⟨T,id,pa,slot,xn,h1,h2,?_⟩;have hA:=ha ae pins s1 σ H1 _ I1 q1;rw[hs] at hA ⊢;refine Calls.callWith_builtin (by show (false||(backTo ae (starEach es X.env)).any (·.1))=false;rw[ar]<;>rfl) (Calls.evalArgs_plain ?_);exact Bc hA λ us s2 ⟨vs,H2,I2,r2,q2⟩=>hm pins s2 σ H2 x vs v us Q I2 r1 r2 q2
end
def tO (X:Cx)(id:String)(r:V->List V->Hp->VK->Prop):Prop:=
 ∀(pins:List (Addr×Obj)) (s:Shared) (σ:St) (H:Hp) (x:V) (xs:List V) (v:Value) (us:List Value) (Q:VK),Inv X pins σ H s->RelV x v->Vals xs us->r x xs H Q->
  wpAny (model X.prog X.w) X.A (call (.builtin id) (v::us)) (EP X pins σ Q) X.xe s
theorem Vals.one:∀ {x:V}{us:List Value},Vals [x] us->∃u,us=[u]/\RelV x u
 |_,_,.cons r .nil=>⟨_,rfl,r⟩
theorem Vals.two:∀ {x y:V}{us:List Value},Vals [x,y] us->∃u v,us=[u,v]/\RelV x u/\RelV y v
 |_,_,_,.cons r (.cons q .nil)=>⟨_,_,rfl,r,q⟩
theorem Vals.dropLast {xs:List V}{us:List Value}(h:Vals xs us):Vals xs.dropLast us.dropLast:=by
 induction h with
 |nil=>exact .nil
 |cons r t ih =>
  cases t with
  |nil=>exact .nil
  |cons q t'=>exact .cons r ih
theorem Vals.eraseIdx:∀ {xs:List V}{us:List Value}(i:Nat),Vals xs us->Vals (xs.eraseIdx i) (us.eraseIdx i)
 |_,_,_,.nil=>.nil
 |_,_,0,.cons _ t=>t
 |_,_,i+1,.cons r t=>.cons r (Vals.eraseIdx i t)
theorem Vals.rep {xs:List V}{us:List Value}(h:Vals xs us):∀k:Nat,Vals (zR k xs).flatten (zR k us).flatten
 |0=>.nil
 |k+1=>by
  rw[zbb,zbb,List.flatten_cons,List.flatten_cons];exact Vals.append h (Vals.rep h k)
theorem foldl_rep (aa:List Value):∀(k:Nat) (acc:List Value),
 List.foldl (λ x1 x2=>x1++x2) acc.toArray (zR k aa.toArray)=(acc++(zR k aa).flatten).toArray
 |0,acc=>by simp
 |k+1,acc=>by
  have e:acc.toArray++aa.toArray=(acc++aa).toArray:=by simp
  have e2:(acc++aa)++(zR k aa).flatten=acc++(zR (k+1) aa).flatten:=by
   rw[zbb,List.flatten_cons,zaw]
  rw[<-e2,<-foldl_rep aa k (acc++aa),<-e,zbb,zac]
section
variable {X:Cx}{pins:List (Addr×Obj)}{σ:St}{H:Hp}{s:Shared}{l b:Addr}{xs ys zs:List V}
theorem Inv.dR {aa its':List Value}{n:Nat}{f:Array Value->Array Value}{t':Nat}(I:Inv X pins σ H s)(hH:H l=some (.lst xs))
 (e:s.heap.get? l=some {cls:=.type "list",data:=.seq aa.toArray n}) (hf:f aa.toArray=its'.toArray) (hv:Vals ys its') (hz:ys.length<=sizeLine):
 Inv X pins σ (upd H l (.lst ys)) {s with heap:=s.heap.update l (zbz f),toks:=t' }:=by
 have q:=PySem.IsL.update e f;rw[hf] at q;refine I.write (x:=l) (e:=l) (by rw[hH];exact trivial) (.inl rfl) (λ b' u hb hu=>(zc8 s.heap (zbz f) (zao hb)).trans hu) ⟨_,q⟩ ?_;exact⟨hz,its',_,hv,q⟩
theorem Inv.qT {aa:List Value}{t':Nat}(I:Inv X pins σ H s)(hv:Vals ys aa)(hz:ys.length<=sizeLine):
 Inv X pins σ (upd H s.heap.objs.size (.lst ys)) {s with heap:=s.heap.push {cls:=.type "list",data:=.seq aa.toArray},toks:=t' }:=
 I.laid (λ _ _ q=>zI _ q) (zU _) ⟨hz,aa,0,hv,zZ _ rfl⟩
theorem Inv.fresh (I:Inv X pins σ H s):H s.heap.objs.size=none:=I.Au.fresh (zU _)
theorem Inv.Wd (I:Inv X pins σ H s)(hH:H l=some (.lst xs)):xs.length<=sizeLine/\∃(aa:List Value) (n:Nat),Vals xs aa/\xs.length=aa.length/\s.heap.get? l=some {cls:=.type "list",data:=.seq aa.toArray n}:=by
 obtain⟨z,aa,n,r,e⟩:=I.Au l _ hH;exact⟨z,aa,n,r,r.length,e⟩
theorem Rt {n:Nat}(h:n<=sizeLine):zch n=false:=by
 unfold zch;exact decide_eq_false (by omega)
end
section
variable {X:Cx}
def dS:V->List V->Hp->VK->Prop:=λ x vs H Q=>∃l xs y,x=.ref l/\vs=[y]/\H l=some (.lst xs)/\xs.length<sizeLine/\Q .AF (upd H l (.lst (xs++[y])))
theorem We:tO X "list.append" dS:=by
 intro pins s σ H x vs v us Q I rx rv h;obtain⟨l,xs,y,rfl,rfl,hH,hz,q⟩:=h;cases rx;obtain⟨u,rfl,ru⟩:=rv.one;obtain⟨z,aa,n,r,hl,e⟩:=I.Wd hH;refine call_meets F.slot_list_append ⟨_,e,rfl⟩ F.entry_list_append (F.args_list_append_2 _ _) (PySem.list_append l aa.toArray n u (by rw[zL];omega)) ⟨e,?_⟩;refine⟨.AF,_,I.dR (its':=aa++[u]) hH e (by simp) (r.append (.cons ru .nil)) ?_,rfl,q⟩;rw[za7,zb2];omega
def dU:V->List V->Hp->VK->Prop:=λ x vs H Q=>∃l b xs zs,x=.ref l/\vs=[.ref b]/\H l=some (.lst xs)/\H b=some (.lst zs)/\xs.length+zs.length<=sizeLine/\Q .AF (upd H l (.lst (xs++zs)))
theorem Wf:tO X "list.extend" dU:=by
 intro pins s σ H x vs v us Q I rx rv h;obtain⟨l,b,xs,zs,rfl,rfl,hH,hB,hz,q⟩:=h;cases rx;obtain⟨u,rfl,ru⟩:=rv.one;cases ru;obtain⟨z,aa,n,r,hl,e⟩:=I.Wd hH;obtain⟨z2,bc,n2,r2,aE,e2⟩:=I.Wd hB;have hsz:aa.toArray.size+bc.toArray.size<=sizeLine:=by rw[zL,zL];omega
 have ck:¬ (!aa.toArray.isEmpty&&zch (aa.toArray.size+bc.toArray.size))=true:=by
  rw[Rt hsz,Bool.and_false];exact zaf
 refine call_meets F.slot_list_extend ⟨_,e,rfl⟩ F.entry_list_extend (F.args_list_extend_2 _ _)
  (AutoSeq1.list_extend_list_list_0 l aa.toArray n b bc.toArray n2 ck (by rw[zL];omega) (by omega)) ⟨e,e2,?_⟩
 refine⟨.AF,_,I.dR (its':=aa++bc) hH e (by simp) (r.append r2) ?_,rfl,q⟩;rw[za7];omega
noncomputable def uZ:R2:=λ x y H Q=>∃l k xs,x=.ref l/\y=.int k/\H l=some (.lst xs)/\-(2^63)<=k/\k<2^63/\xs.length*k.toNat<=sizeLine/\
 ∀p,H p=none->Q (.ref p) (upd H p (.lst (zR k.toNat xs).flatten))
theorem len_rep {α:Type}(xs:List α)(k:Nat):(zR k xs).flatten.length=k*xs.length:=by
 induction k with
 |zero=>simp
 |succ k ih=>rw[zbb,List.flatten_cons,za7,ih,Nat.succ_mul,Nat.add_comm]
theorem mD:Gp X (binaryOp .Mult) uZ:=by
 intro pins s σ H x y v u Q I rx ry h;obtain⟨l,k,xs,rfl,rfl,hH,h1,h2,hz,q⟩:=h;cases rx;obtain⟨t,rfl⟩:=ry;obtain⟨z,aa,n,r,hl,e⟩:=I.Wd hH;have hlen:aa.toArray.size*k.toNat<=sizeLine:=by rw[zL,<-hl];exact hz
 have oy:¬ aa.toArray.size*k.toNat > (2^63-1) / 8:=by
  have:(sizeLine:Nat)<=(2^63-1) / 8:=by decide
  omega
 have f7:¬ (!Builtin.List.listFitsIndex k)=true:=by
  rw[fitsIndex_both h1 h2];exact zaf
 have ck:¬ zch (aa.toArray.size*k.toNat)=true:=by
  rw[Rt hlen];exact zaf
 have aS:List.foldl (λ x1 x2=>x1++x2) #[] (zR (if aa.toArray.isEmpty=true then 0 else k.toNat) aa.toArray)=(zR k.toNat aa).flatten.toArray:=by
  have f0:∀m:Nat,List.foldl (λ x1 x2=>x1++x2) #[] (zR m aa.toArray)=(zR m aa).flatten.toArray:=λ m=>by
   have:=foldl_rep aa m [];rw[List.nil_append] at this;exact this
  rw[f0];cases aa with
  |nil=>simp
  |cons a r'=>rw[if_neg (by simp)]
 refine wpAny_binaryOp_repeat_ref (T := "list") (U := "int") (by decide) ⟨_,e,rfl⟩ (λ s'=>typeIs_int s' k t) noFill_list_mul F.fills_int_mul F.slot_int_rmul repeat_list F.slot_int_index.lookup
  (call_meets F.slot_int_rmul (typeIs_int s k t) F.entry_int_rmul (F.args_int_rmul_2 _ _) (int___rmul___int_list k t l aa.toArray n)
   ⟨e,rfl,⟨_,e,rfl⟩,call_meets F.slot_list_mul ⟨_,e,rfl⟩ F.entry_list_mul (F.args_list_mul_2 _ _) (AutoListH.list___mul___list_int_3 l aa.toArray n k t f7 oy ck) ⟨e,?_⟩⟩)
 rw[aS];exact⟨.ref _,_,I.qT (t':=s.toks) (r.rep k.toNat) (by rw[len_rep,Nat.mul_comm];exact hz),rfl,q _ I.fresh⟩
end
end L2
namespace wa
open PySem PySem.W PySem.Calls PyProof.Rows
theorem LX {P:Params}{h:Heap}:∀(ns:List Int) (vs:List Value),WellAll P h vs (ns.map WData.int)->IntsAre vs ns:=by
 intro ns;induction ns with
 |nil =>
  intro vs w;rw[List.map_nil] at w;cases w;exact .nil
 |cons n ns ih =>
  intro vs w;rw[zG] at w;cases w with
  |cons a b =>
   cases a;exact .cons _ _ (ih _ b)
theorem Wg {l:OpenLaw}{n:Nat}(hn:l.most=some n){P:Params}{h:Heap}{args:List WData}{vals:List Value}
 (de:l.row.toRowW.claim.pre args=true) (o5:WellAll P h vals args):
 ∃a vs ns,vals=[zaq a]/\args=[WData.list (ns.map WData.int)]/\h.get? a=some {cls:=.type "list",data:=.seq vs.toArray}/\IntsAre vs ns/\ns.length<=n:=by
 have xp:WShape.hasAll [] args [.list .int]=true:=(pre_splitW de).1;have hc:l.pre.holds [] {args:=args}=true:=(pre_splitW de).2;obtain⟨d,r,rfl,h1,h2⟩:=hasAllW_cons xp;obtain rfl:=hasAllW_nil h2;obtain⟨xs,rfl,h3⟩:=hasW_list h1;obtain⟨ns,rfl⟩:=items_int h3;have hlen:ns.length<=n:=by
  unfold OpenLaw.pre at hc;have h4:(WTm.not (.lt (.lit (.int (n:Int))) (.len (.arg 0)))).holds [] {args:=[.list (ns.map .int)]}=true:=by
   have h4:=(holds_andW hc).1;rw[hn] at h4;exact h4
  have h5:=condW_of h4 (w_not (w_lt w_lit (w_len_list (w_arg rfl))));rw[zC] at h5;refine Nat.le_of_not_lt λ q=>?_;have q':(n:Int)<((ns.length:Nat):Int):=by omega
  first
   |(rw[decide_eq_true q'] at h5;exact absurd h5 (by decide))
   |(simp at h5;omega)
 cases o5 with
 |cons w1 w2 =>
  cases w2;cases w1 with
  |list ho bD=>exact⟨_,_,ns,rfl,rfl,ho,LX ns _ bD,hlen⟩
theorem Wh (l:OpenLaw)(args:List WData):l.row.toRowW.claim.post args (.bool true) args=true:=
 postW_of (r:=l.row.toRowW) (X:=(true==true))
  (show WShape.has [] (.bool true) .bool=true by first|rfl|decide|simp[WShape.has,WShape.arms,WShape.armsAll])
  (show (WTm.eq .res (.lit (.bool true))).value [] {args:=args,res:=some (.bool true),after:=args}=some (.bool (true==true)) from w_eq_bool (w_res rfl) w_lit) rfl
end wa
namespace L2
open PySem PySem.Spec PyProof.Rows
theorem OY:∀ {vs:List Value}{ns:List Int},IntsAre vs ns->Vals (ns.map V.int) vs
 |_,_,.nil=>.nil
 |_,_,.cons n t h=>.cons ⟨t,rfl⟩ (OY h)
def dW (H:Hp):Prop:=∀b,H b=none\/∃o xs,H b=some (.Fp o (.lst xs))
theorem Ru {P:Program}{w:World}{K:zy}{mg mb:Str->Option Value}{CX:UQ}{k:Nat}{fa a:Addr}{fd:FuncData}{x:Str}{sp:Sp}{s₁:Shared}{vs:List Value}{ns:List Int}
 (KX:K.In s₁.heap) (f8:s₁.heap.Ns mainGlobals mg) (hb:s₁.heap.Ns builtinsNs mb) (o7:∀x:Str,x ≠ "__name__" -> mb x=bootBuiltins x) (o8:s₁.heap.NoLimit) (hg:s₁.gens=#[])
 (ha:s₁.heap.get? a=some {cls:=.type "list",data:=.seq vs.toArray}) (hi:IntsAre vs ns) (hl:ns.length<=sizeLine) (hr:BM k callerA)
 (F:∀base:Heap,K.In base->base.Ns mainGlobals mg->Dr P w K mg base CX k fa fd [x] sp) (jq:∀(s:Shared) (u:Value),BindsTo s fd ⟨[u],[]⟩ [(x,u)])
 (bU:∀H:Hp,dW H->DF K H a (ns.map V.int)->sp [.ref a] H (λ v _=>v=.bl true) λ _ _ _=>False)
 (jr:∀H e s',CX [] H s₁ (λ _ _ _=>False) e s'->False):
 codeAny (model P w) callerA (.call (.ref fa) ⟨[.ref a],[]⟩) (λ r s'=>r=.ok (.ret (.bool true))/\OldK s₁.heap s'.heap/\s'.os=s₁.os/\AllBare s'.gens) s₁:=by
 have rv:=OY hi;have pc:=hi.length;have core:∀H:Hp,dW H->DF K H a (ns.map V.int)->Fc P w H s₁.heap->(∀b,H b≠none->b=a)->(H a≠none->K.lookup a=none)->
  codeAny (model P w) callerA (.call (.ref fa) ⟨[.ref a],[]⟩) (λ r s'=>r=.ok (.ret (.bool true))/\OldK s₁.heap s'.heap/\s'.os=s₁.os/\AllBare s'.gens) s₁:=by
  intro H hO hS Au hA hK;have bM:∀ {b:Addr} {o:Obj},s₁.heap.get? b=some o->H b=none->(Q1 s₁.heap H).get? b=some o:=λ e n=>XC e n;have jm:∀ {b:Addr} {o:Obj} {es:Array DictEntry} {ep:Nat},s₁.heap.get? b=some o->o.data=.dict es ep->H b=none:=fun {b o es ep} e d=>by
   cases q:H b with
   |none=>rfl
   |some u =>
    have e':b=a:=hA b (by rw[q];simp);subst e';rw[ha] at e;cases e;have d':Data.seq vs.toArray _=Data.dict es ep:=d;cases d'
  have mq:∀ {b:Addr} {m:Str->Option Value},s₁.heap.Ns b m->(Q1 s₁.heap H).Ns b m:=fun {b m} ⟨o,es,ep,e,d,r⟩=>⟨o,es,ep,bM e (jm e d),d,r⟩;have wb:K.In (Q1 s₁.heap H):=λ b o e=>bM (KX b o e) (by
   cases q:H b with
   |none=>rfl
   |some u =>
    have e':b=a:=hA b (by rw[q];simp);subst e';rw[hK (by rw[q];simp)] at e;cases e)
  have hM:Mod K mg (Q1 s₁.heap H):=⟨wb,mq f8,⟨mb,mq hb,o7⟩,let ⟨mc,h1,h2⟩:=o8;⟨mc,mq h1,h2⟩⟩;have e0:Tt P w K mg (Q1 s₁.heap H) callerA [] s₁ H:=⟨rfl,hM,λ b o e=>cT e,Nat.le_of_eq (W3 _ _),trivial,λ b hb=>absurd (show b∈([]:List Addr) from hb) (by simp),Au,.of_eq hg⟩;refine codeAny_mono ((F _ wb (mq f8)).run callerA [] s₁ H ⟨[.ref a],[]⟩ [.ref a] [.ref a] _ _ hr e0 (jq s₁ (.ref a)) (.cons rfl .nil) (bU H hO hS)) λ r s' h=>?_;cases r with
  |error e=>exact (jr H e s' h).elim
  |ok fl =>
   cases fl with
   |next|brk|cont=>exact zbv h
   |ret u =>
    obtain⟨v,H',os,bare,un,f9,r',q⟩:=h;have q':v=.bl true:=q;subst q';obtain rfl:u=Value.bool true:=r';refine⟨rfl,OldK.of_keep λ b o e=>?_,os,bare⟩;cases q:H b with
    |none=>exact un.keep b o e q (by intro z;exact absurd (show b∈([]:List Addr) from z) (by simp)) (by simp)
    |some u =>
     rcases hO b with z|⟨ob,xs,z⟩
     ·rw[q] at z;cases z
     ·have z2:=un.KJ b ob _ z;obtain⟨e1,_⟩:=Au b _ z;obtain⟨e2,_⟩:=f9 b _ z2;rw[e] at e1;cases e1;exact e2
 cases hk:K.lookup a with
 |some o =>
  have e:=KX a o hk;rw[ha] at e;cases e;refine core (λ _=>none) (λ _=>.inl rfl) (.inr ⟨_,vs.toArray,_,hk,rfl,rfl,rfl,by rw[zL,pc];exact hl,by simpa using rv⟩) (λ b u z=>by have z':(none:Option HO)=some u:=z;cases z') (λ b z=>absurd rfl z) λ z=>absurd rfl z
 |none =>
  refine core (λ b=>if b=a then some (.Fp {cls:=.type "list",data:=.seq vs.toArray} (.lst (ns.map V.int))) else none) (λ b=>?_) (.inl (.inr ⟨{cls:=.type "list",data:=.seq vs.toArray},if_pos rfl⟩)) (λ b u z=>?_) (λ b z=>?_) λ _=>hk
  ·by_cases hb:b=a
   ·exact .inr ⟨_,_,if_pos hb⟩
   ·exact .inl (if_neg hb)
  ·by_cases hb:b=a
   ·have z':=(if_pos hb).symm.trans z;cases z';subst hb;exact⟨ha,by rw[zC];exact hl,vs,_,rv,ha⟩
   ·have z':=(if_neg hb).symm.trans z;cases z'
  ·by_cases hb:b=a
   ·exact hb
   ·exact absurd (if_neg hb) z
noncomputable abbrev dX:UQ:=λ _ _ _ _ _ _=>False
noncomputable abbrev E0:XK:=λ _ _ _=>False
structure Xu (K:zy)(x qual:Str)(st:Stmt)(f:Addr)(fd:FuncData):Prop where
 ex:∃(oc:Value) (od:Option Addr) (kV doc pm:Value) (an:Option Addr) (B4 ct:Value) (T9:Array (Option Value)),
  fd=zai x qual (AW st) (AE st) (A3 st) .none kV doc pm an B4 ct/\K.lookup f=some ⟨oc,od,.func fd,T9⟩/\zau K B4 qual=true
 kp:zah K (.ref f)=true
section
variable {P:Program}{w:World}{K:zy}{mg:Str->Option Value}{base:Heap}
theorem Xu.ok {x qual:Str}{st:Stmt}{f:Addr}{fd:FuncData}{N ps:List Str}{k:Nat}{sp:Sp}(F:Xu K x qual st f fd)(S:Ai N ps (A3 st))(len:∀vs H Q E,sp vs H Q E->vs.length=ps.length)
 (cj:∀(B4:Value) (A:Around) (outer:List Env) (s:Shared) (H:Hp) (vs:List V) (Q:VK) (E:XK),BM k (A.deeper (envOfC qual (A3 st) s.heap.objs.size f B4))->sp vs H Q E->
  ∃t,UN (LW dX P w K mg base N qual (A3 st) f B4 A outer s H E).pX (AE st) t/\t {nx:=λ _ H'=>Q .AF H',rt:=Q} (start N vs) H):Dr P w K mg base dX (k+1) f fd ps sp:=by
 obtain⟨oc,od,kV,doc,pm,an,B4,ct,T9,rfl,lk,br⟩:=F.ex;refine US lk br S len λ A outer s H vs Q E hr bU=>?_;obtain⟨t,h,q⟩:=cj B4 A outer s H vs Q E hr bU;exact⟨t,h.pX,q⟩
theorem Xu.binds {x qual:Str}{st:Stmt}{f:Addr}{fd:FuncData}{ps:List Str}(F:Xu K x qual st f fd)
 (h:∀(kV doc pm:Value) (an:Option Addr) (B4 ct:Value) (us:List Value),us.length=ps.length->bindArgs (zai x qual (AW st) (AE st) (A3 st) .none kV doc pm an B4 ct) ⟨us,[]⟩=pure (ps.zip us)):Binds K fd ps []:=by
 obtain⟨oc,od,kV,doc,pm,an,B4,ct,T9,rfl,lk,br⟩:=F.ex;exact .all (h kV doc pm an B4 ct)
theorem Tx {x qual:Str}{st:Stmt}{f:Addr}{oc:Value}{od an:Option Addr}{T9:Array (Option Value)}{kV doc pm B4 ct:Value}(l:K.lookup f=some ⟨oc,od,.func (zai x qual (AW st) (AE st) (A3 st) .none kV doc pm an B4 ct),T9⟩)
 (c:zau K B4 qual=true) (k:zah K (.ref f)=true):Xu K x qual st f (zai x qual (AW st) (AE st) (A3 st) .none kV doc pm an B4 ct):=⟨⟨oc,od,kV,doc,pm,an,B4,ct,T9,rfl,l,c⟩,k⟩
end
theorem AB {n:Nat}(h:n<=1000):n<sizeLine:=zc9 h (by decide)
section
variable {X:Cx}
theorem pv (i:Nat){x:Str}{pos:Pos}(hN:X.N[i]?=some x:=by rfl)(hv:uC X.env.scope x:=by first | exact zan rfl | exact Or.inr (zan rfl) | exact Or.inr (Or.inr rfl))(hd:(x==("__debug__" : Str))=false:=by decide)
 (br:(x==("__classdict__" : Str))=false:=by decide):PE X (.Name x pos) (Oj i):=kS hN hv hd br
end
def Ac (H H':Hp):Prop:=∀b o,H b=some o->H' b=some o
theorem Ac.refl (H:Hp):Ac H H:=λ _ _ h=>h
theorem Ac.trans {H H1 H2:Hp}(a:Ac H H1)(b:Ac H1 H2):Ac H H2:=λ c o h=>b c o (a c o h)
theorem Ac.seq {K:zy}{H H':Hp}{a:Addr}{xs:List V}(e:Ac H H')(h:DF K H a xs):DF K H' a xs:=by
 rcases h with (h|⟨o,h⟩)|h
 ·exact .inl (.inl (e _ _ h))
 ·exact .inl (.inr ⟨o,e _ _ h⟩)
 ·exact .inr h
section
variable {κ:Type} [DecidableEq κ]
noncomputable def Ot (kvs:List (κ×V))(k:κ):Option V:=(kvs.find? λ kv=>decide (kv.1=k)).map (·.2)
noncomputable def putK (kvs:List (κ×V))(k:κ)(v:V):List (κ×V):=
 if (kvs.any λ kv=>decide (kv.1=k))=true then kvs.map (λ kv=>if kv.1=k then (kv.1,v) else kv) else kvs++[(k,v)]
theorem N1 {p:κ×V}{r:List (κ×V)}{k:κ}(e:p.1=k):Ot (p::r) k=some p.2:=by simp[Ot,zcd,e]
theorem N2 {p:κ×V}{r:List (κ×V)}{k:κ}(e:¬ p.1=k):Ot (p::r) k=Ot r k:=by simp[Ot,zcd,e]
theorem Rv (k:κ):∀kvs:List (κ×V),(kvs.any λ kv=>decide (kv.1=k))=(Ot kvs k).isSome
 |[]=>rfl
 |p::r=>by
  rw[zci];by_cases e:p.1=k
  ·simp only[N1 e,decide_eq_true e,Bool.true_or,Option.isSome_some]
  ·rw[N2 e,decide_eq_false e,Bool.false_or];exact Rv k r
theorem Dn (kvs:List (κ×V))(k:κ)(v:V):(putK kvs k v).length<=kvs.length+1:=by
 unfold putK;split
 ·rw[zC];omega
 ·rw[za7,zO,List.length_nil];omega
theorem Gh.Ff {o:Option V}{u:Option Value}(r:Gh o u):o.isSome=u.isSome:=by
 cases o with
 |none=>cases u with
  |none=>rfl
  |some _=>exact (show False from r).elim
 |some _=>cases u with
  |none=>exact (show False from r).elim
  |some _=>rfl
theorem Gh.getD {o:Option V}{u:Option Value}{d:V}{d':Value}(r:Gh o u)(rd:RelV d d'):RelV (o.getD d) (u.getD d'):=by
 cases o with
 |none=>cases u with
  |none=>exact rd
  |some _=>exact (show False from r).elim
 |some _=>cases u with
  |none=>exact (show False from r).elim
  |some _=>exact r
theorem KV.val {kvs:List (κ×V)}{vs:List (κ×Value)}(r:KV kvs vs)(k:κ):Gh (Ot kvs k) (valueAt vs k):=by
 unfold KV at r;induction r with
 |nil=>exact zc7
 | @cons p q ps qs h t ih =>
  obtain⟨h1,h2⟩:=h;by_cases e:p.1=k
  ·have e':q.1=k:=h1.symm.trans e;have b:valueAt (q::qs) k=some q.2:=by simp[valueAt,zcd,e']
   rw[N1 e,b];exact h2
  ·have e':¬ q.1=k:=λ z=>e (h1.trans z);have b:valueAt (q::qs) k=valueAt qs k:=by simp[valueAt,zcd,e']
   rw[N2 e,b];exact ih
theorem KV.any {kvs:List (κ×V)}{vs:List (κ×Value)}(r:KV kvs vs)(k:κ):(kvs.any λ kv=>decide (kv.1=k))=vs.any λ kv=>decide (kv.1=k):=by
 unfold KV at r;induction r with
 |nil=>rfl
 |cons h t ih=>rw[zci,zci,ih,h.1]
theorem KV.mE {kvs:List (κ×V)}{vs:List (κ×Value)}(r:KV kvs vs)(k:κ){y:V}{u:Value}(ry:RelV y u):
 KV (kvs.map λ kv=>if kv.1=k then (kv.1,y) else kv) (vs.map λ kv=>if kv.1=k then (kv.1,u) else kv):=by
 unfold KV at r ⊢;induction r with
 |nil=>exact .nil
 | @cons p q ps qs h t ih =>
  rw[zG,zG];refine .cons ?_ ih;obtain⟨h1,h2⟩:=h;by_cases e:p.1=k
  ·rw[if_pos e,if_pos (h1.symm.trans e)];exact⟨h1,ry⟩
  ·rw[if_neg e,if_neg (λ z=>e (h1.trans z))];exact⟨h1,h2⟩
theorem KV.put {kvs:List (κ×V)}{vs:List (κ×Value)}(r:KV kvs vs)(k:κ){y:V}{u:Value}(ry:RelV y u):KV (putK kvs k y) (stored vs k u):=by
 unfold putK stored;rw[r.any k];by_cases e:(vs.any λ kv=>decide (kv.1=k))=true
 ·rw[if_pos e,if_pos e];exact r.mE k ry
 ·rw[if_neg e,if_neg e];exact Paired.snoc r ⟨rfl,ry⟩
theorem KV.length {kvs:List (κ×V)}{vs:List (κ×Value)}(r:KV kvs vs):kvs.length=vs.length:=zcb r
end
theorem Lx {P:Program}{w:World}{k:Key}{u:Value}(r:RelV (kV k) u):(AL P w).is k u=true:=by
 cases k with
 |inl i=>obtain⟨t,e⟩:=(show ∃t,u=Value.int i t from r);subst e;exact Rg P w i t
 |inr x=>obtain⟨t,e⟩:=(show ∃t,u=Value.str x t from r);subst e;exact Rh P w x t
theorem OZ {P:Program}{w:World}:∀ {ks:List Key}{us:List Value},Vals (ks.map kV) us->ItemsAre (AL P w) ks us
 |[],_,r=>by rw[List.map_nil] at r;cases r;exact .nil
 |k::ks,_,r=>by
  rw[zG] at r;cases r with
  |cons h t=>exact .cons (Lx h) (OZ t)
noncomputable abbrev KT (H:Hp):List (List Key×V)->List (List Key×Addr×Value)->Prop:=Paired λ p q=>p.1=q.1/\H q.2.1=some (.tup (p.1.map kV))/\RelV p.2 q.2.2
theorem KT.val {H:Hp}{kvs:List (List Key×V)}{xs:List (List Key×Addr×Value)}(r:KT H kvs xs)(k:List Key):Gh (Ot kvs k) ((atKey xs k).map (·.2)):=by
 induction r with
 |nil=>exact zc7
 | @cons p q ps qs h t ih =>
  obtain⟨h1,_,h2⟩:=h;by_cases e:p.1=k
  ·have e':q.1=k:=h1.symm.trans e;have b:atKey (q::qs) k=some q.2:=by simp[atKey,zcd,e']
   rw[N1 e,b];exact h2
  ·have e':¬ q.1=k:=λ z=>e (h1.trans z);have b:atKey (q::qs) k=atKey qs k:=by simp[atKey,zcd,e']
   rw[N2 e,b];exact ih
theorem KT.mE {H:Hp}{kvs:List (List Key×V)}{xs:List (List Key×Addr×Value)}(r:KT H kvs xs)(k:List Key){y:V}{u:Value}(ry:RelV y u):
 KT H (kvs.map λ kv=>if kv.1=k then (kv.1,y) else kv) (xs.map (putAt k u)):=by
 induction r with
 |nil=>exact .nil
 | @cons p q ps qs h t ih =>
  rw[zG,zG];refine .cons ?_ ih;obtain⟨h1,h2,h3⟩:=h;unfold putAt;by_cases e:p.1=k
  ·rw[if_pos e,if_pos (h1.symm.trans e)];exact⟨h1,h2,ry⟩
  ·rw[if_neg e,if_neg (λ z=>e (h1.trans z))];exact⟨h1,h2,h3⟩
theorem KT.put {H:Hp}{kvs:List (List Key×V)}{xs:List (List Key×Addr×Value)}(r:KT H kvs xs)(k:List Key){b:Addr}{y:V}{u:Value}(hb:H b=some (.tup (k.map kV)))(ry:RelV y u):
 KT H (putK kvs k y) (storedH xs k b u):=by
 have e:(kvs.any λ kv=>decide (kv.1=k))=(atKey xs k).isSome:=by
  rw[Rv,(r.val k).Ff,Option.isSome_map]
 unfold putK storedH;rw[e];by_cases q:(atKey xs k).isSome=true
 ·rw[if_pos q,if_pos q];exact r.mE k ry
 ·rw[if_neg q,if_neg q];exact Paired.snoc r ⟨rfl,hb,ry⟩
theorem KT.keeps {H H':Hp}{kvs:List (List Key×V)}{xs:List (List Key×Addr×Value)}(r:KT H kvs xs)(ht:∀b ys,H b=some (.tup ys)->H' b=some (.tup ys)):KT H' kvs xs:=
 Paired.kO r λ _ _ z=>⟨z.1,ht _ _ z.2.1,z.2.2⟩
section
variable {P:Program}{w:World}{H:Hp}{h:Heap}{a:Addr}
theorem jN {u:HO}(ok:Fc P w H h)(e:Rd H a u):B6 P w H h a u:=e.ok ok
theorem Jt {kvs:List (Key×V)}(ok:Fc P w H h)(e:Rd H a (.dK kvs)):kvs.length<=sizeLine/\(a==sysModules)=false/\∃vs,KV kvs vs/\h.DictOf (AL P w) a vs:=
 show B6 P w H h a (.dK kvs) from jN ok e
theorem jO {kvs:List (Key×V)}(ok:Fc P w H h)(e:H a=some (.dK kvs)):kvs.length<=sizeLine/\(a==sysModules)=false/\∃vs,KV kvs vs/\h.DictOf (AL P w) a vs:=Jt ok (.inl e)
theorem IG {ks:List Key}(ok:Fc P w H h)(e:H a=some (.tup (ks.map kV))):(tupleKind (AL P w)).is h ks a:=by
 obtain⟨_,aa,r,o,h1,h2,n,h3⟩:=(show B6 P w H h a (.tup (ks.map kV)) from ok a _ e);exact⟨o,aa.toArray,n,h1,h2,h3,by simpa using OZ r⟩
theorem N3 {kvs:List (List Key×V)}(ok:Fc P w H h)(e:Rd H a (.dT kvs)):kvs.length<=sizeLine/\(a==sysModules)=false/\
 ∃xs,KT H kvs xs/\h.DictOfH (tupleKind (AL P w)) a xs:=by
 obtain⟨z,y,xs,r,o,es,ep,h1,h2,h3,h4,h5⟩:=(show B6 P w H h a (.dT kvs) from jN ok e);refine⟨z,y,xs,r,o,es,ep,h1,h2,h3,h4,λ x hx=>?_,h5⟩;have all:∀ {l:List (List Key×V)} {m:List (List Key×Addr×Value)},KT H l m->∀x∈m,(tupleKind (AL P w)).is h x.1 x.2.1:=by
  intro l m q;induction q with
  |nil=>intro x hx;exact nomatch hx
  | @cons p q ps qs hq t ih =>
   intro x hx;rcases zQ.mp hx with e|hx
   ·subst e;exact IG ok (by rw[<-hq.1];exact hq.2.1)
   ·exact ih x hx
 exact all r x hx
theorem qU {kvs:List (List Key×V)}(ok:Fc P w H h)(e:H a=some (.dT kvs)):kvs.length<=sizeLine/\(a==sysModules)=false/\
 ∃xs,KT H kvs xs/\h.DictOfH (tupleKind (AL P w)) a xs:=N3 ok (.inl e)
end
def Qb (H:Hp)(a:Addr)(y:V)(r:Option V):Prop:=
 (∃kvs k,Rd H a (.dK kvs)/\y=kV k/\r=Ot kvs k)\/∃kvs k b,Rd H a (.dT kvs)/\y=.ref b/\H b=some (.tup (k.map kV))/\r=Ot kvs k
def qV (H:Hp)(a:Addr)(y v:V)(H':Hp):Prop:=
 (∃kvs k,H a=some (.dK kvs)/\y=kV k/\kvs.length<sizeLine/\H'=upd H a (.dK (putK kvs k v))) \/
 ∃kvs k b,H a=some (.dT kvs)/\y=.ref b/\H b=some (.tup (k.map kV))/\kvs.length<sizeLine/\H'=upd H a (.dT (putK kvs k v))
section
variable {X:Cx}{pins:List (Addr×Obj)}{σ:St}{H:Hp}{s:Shared}{a:Addr}{y v:V}{u r:Value}{o:Option V}{A:Around}{E:Value->Shared->Prop}
theorem Inv.big (I:Inv X pins σ H s):sysModules<s.heap.objs.size:=by
 have h:mainGlobals<s.heap.objs.size:=(I.mod.glob.keeps I.bk).lt;exact Nat.lt_trans (by decide) h
theorem Wi {Q:Value->Shared->Prop}(hu:A.units+1<cLine)(I:Inv X pins σ H s)(g:Qb H a y (some v))(ry:RelV y u)(h:∀w' s',Inv X pins σ H s'->RelV v w'->Q w' s'):
 wpAny (model X.prog X.w) A (getItem (.ref a) u) Q E s:=by
 rcases g with ⟨kvs,k,e,ey,l⟩|⟨kvs,k,b,e,ey,eb,l⟩
 ·subst ey;obtain⟨z,hd,vs,rel,dd⟩:=Jt I.Au e;obtain⟨w',hw,bt⟩:=Gh.some_of (v:=v) (o:=valueAt vs k) (by rw[l];exact rel.val k);exact wpAny_getItem_of (Lx ry) dd.mapOf hw (h w' _ (I.tok _) bt)
 ·subst ey;cases (show u=zaq b from ry);obtain⟨z,hd,xs,rel,dd⟩:=N3 I.Au e;obtain⟨w',hw,bt⟩:=Gh.some_of (v:=v) (o:=(atKey xs k).map (·.2)) (by rw[l];exact rel.val k);obtain⟨p,hp,xq⟩:=zc3.mp hw;refine wpAny_getItem_heap (tupleKind_room_in1 hu) (IG I.Au eb) dd hp ?_;rw[xq];exact h w' _ (I.tok _) bt
theorem vA {Q:Value->Shared->Prop}(hu:A.units+1<cLine)(I:Inv X pins σ H s)(g:Qb H a y o)(ry:RelV y u)(h:∀s',Inv X pins σ H s'->Q (.bool o.isSome) s'):
 wpAny (model X.prog X.w) A (compareOp .In u (.ref a)) Q E s:=by
 rcases g with ⟨kvs,k,e,ey,l⟩|⟨kvs,k,b,e,ey,eb,l⟩
 ·subst ey;obtain⟨z,hd,vs,rel,dd⟩:=Jt I.Au e;refine wpAny_in_of (Lx ry) hd dd.mapOf ?_;rw[<-(rel.val k).Ff,<-l];exact h _ (I.tok _)
 ·subst ey;cases (show u=zaq b from ry);obtain⟨z,hd,xs,rel,dd⟩:=N3 I.Au e;refine wpAny_in_heap (tupleKind_room_in1 hu) (IG I.Au eb) hd dd ?_;have q:=(rel.val k).Ff;rw[Option.isSome_map] at q;rw[<-q,<-l];exact h _ (I.tok _)
theorem dY {Q:Value->Shared->Prop}(hu:A.units+1<cLine)(I:Inv X pins σ H s)(g:Qb H a y o)(ry:RelV y u)(h:∀s',Inv X pins σ H s'->Q (.bool (!o.isSome)) s'):
 wpAny (model X.prog X.w) A (compareOp .NotIn u (.ref a)) Q E s:=by
 rcases g with ⟨kvs,k,e,ey,l⟩|⟨kvs,k,b,e,ey,eb,l⟩
 ·subst ey;obtain⟨z,hd,vs,rel,dd⟩:=Jt I.Au e;refine wpAny_notIn_of (Lx ry) hd dd.mapOf ?_;rw[<-(rel.val k).Ff,<-l];exact h _ (I.tok _)
 ·subst ey;cases (show u=zaq b from ry);obtain⟨z,hd,xs,rel,dd⟩:=N3 I.Au e;refine wpAny_notIn_heap (tupleKind_room_in1 hu) (IG I.Au eb) hd dd ?_;have q:=(rel.val k).Ff;rw[Option.isSome_map] at q;rw[<-q,<-l];exact h _ (I.tok _)
theorem Qc {h':Heap}{t':Nat}{ob:HO}(I:Inv X pins σ H s)(mu:pQ (H a))(hs:zcf a s.heap h')(he:∃q,h'.get? a=some q)(new:B6 X.prog X.w (upd H a ob) h' a ob):
 Inv X pins σ (upd H a ob) {s with heap:=h',toks:=t' }:=
 I.write (x:=a) (e:=a) mu (.inl rfl) (λ b q hb z=>(hs.2 b hb).trans z) he new
theorem Y9 {P:Program}{w:World}{H':Hp}{h':Heap}{kvs:List (Key×V)}{vs:List (Key×Value)}(z:kvs.length<=sizeLine)(hd:(a==sysModules)=false)(rel:KV kvs vs)(dd:h'.DictOf (AL P w) a vs):
 B6 P w H' h' a (.dK kvs):=⟨z,hd,vs,rel,dd⟩
theorem Wj {H':Hp}{Q:Unit->Shared->Prop}(hu:A.units+1<cLine)(I:Inv X pins σ H s)(g:qV H a y v H')(ry:RelV y u)(rv:RelV v r)(h:∀s',Inv X pins σ H' s'->Q () s'):
 wpAny (model X.prog X.w) A (setItem (.ref a) u r) Q E s:=by
 rcases g with ⟨kvs,k,e,ey,l,eH⟩|⟨kvs,k,b,e,ey,eb,l,eH⟩
 ·subst ey eH;obtain⟨z,hd,vs,rel,dd⟩:=jO I.Au e;have hz:vs.length<=sizeLine:=by rw[<-rel.length];exact z
  have hl:(putK kvs k v).length<=sizeLine:=by have:=Dn kvs k v;omega
  refine wpAny_setItem_pairs (hsz:=hz) (Lx ry) dd λ h' ga hs=>h _ ?_;have he:∃q,h'.get? a=some q:=let ⟨q,_,_,hq,_⟩:=ga;⟨q,hq⟩;exact Qc I (by rw[e];exact zc7) hs he (Y9 hl hd (rel.put k rv) ga)
 ·subst ey eH;cases (show u=zaq b from ry);obtain⟨z,hd,xs,rel,dd⟩:=qU I.Au e;have hz:xs.length<=sizeLine:=by rw[<-zcb rel];exact z
  have hl:(putK kvs k v).length<=sizeLine:=by have:=Dn kvs k v;omega
  refine wpAny_setItem_heap (hsz:=hz) (tupleKind_room_in1 hu) (IG I.Au eb) dd λ h' ga hs=>h _ ?_;obtain⟨q,es,ep,hq,h2,h3,h4,_,h5⟩:=ga;refine Qc I (by rw[e];exact zc7) hs ⟨q,hq⟩ ⟨hl,hd,_,(rel.put k eb rv).keeps λ c ys ec=>?_,q,es,ep,hq,h2,h3,h4,h5⟩;rw[Ab (pO ec e (λ z=>nomatch z))];exact ec
end
theorem Rw {X:Cx}{pins:List (Addr×Obj)}{σ:St}{H:Hp}{s:Shared}{a:Addr}{y:V}{o:Option V}(I:Inv X pins σ H s)(g:Qb H a y o):s.TypeIs (.ref a) "dict" := by
 rcases g with ⟨kvs,k,e,_,_⟩|⟨kvs,k,b,e,_,_,_⟩
 ·obtain⟨_,_,vs,_,dd⟩:=Jt I.Au e;exact dd.typeIs
 ·obtain⟨_,_,xs,_,dd⟩:=N3 I.Au e;exact dd.typeIs
noncomputable def qW (td ty tv:TE):TS:=λ D σ H=>tv σ H λ v H1=>td σ H1 λ x H2=>ty σ H2 λ y H3=>∃a H4,x=.ref a/\qV H3 a y v H4/\D.nx σ H4
section
variable {X:Cx}{o i e value:Expr}{pos pos' bB:Pos}{td ty tv:TE}
theorem dZ (hu:X.A.units+1<cLine)(ho:PE X o td)(hi:PE X i ty)(hv:PE X value tv)(hs:swapsWith value (some (.Subscript o i pos')) pos.line X.env=pure false):
 PS X (.Assign [.Subscript o i pos'] value pos) (qW td ty tv):=by
 intro pins s σ H D I h;refine wpAny_Assign_Subscript (Bc (hv pins s σ H _ I h) λ r s1 ⟨v,H1,I1,rv,q1⟩=>Bc (ho pins s1 σ H1 _ I1 q1) λ u s2 ⟨x,H2,I2,rx,q2⟩=>Bc (hi pins s2 σ H2 _ I2 q2) λ iv s3 ⟨y,H3,I3,ry,a,H4,ex,g,q3⟩=>?_) hs;subst ex;obtain rfl:u=zaq a:=rx;exact Wj hu I3 g ry rv λ s4 I4=>⟨σ,H4,I4,q3⟩
end
theorem Rx {P:Program}{w:World}{H:Hp}(h:Heap)(hb:sysModules<h.objs.size):B6 P w H (h.push {cls:=.type "dict",data:=.dict #[]}) h.objs.size (.dK []):=
 ⟨zak _,beq_eq_false_iff_ne.mpr (zao (zX hb)),[],.nil,Heap.DictOf.new h⟩
theorem Yb {P:Program}{w:World}{H:Hp}(h:Heap)(hb:sysModules<h.objs.size):B6 P w H (h.push {cls:=.type "dict",data:=.dict #[]}) h.objs.size (.dT []):=
 ⟨zak _,beq_eq_false_iff_ne.mpr (zao (zX hb)),[],.nil,_,#[],0,zZ _ rfl,⟨rfl,rfl,rfl⟩,rfl,rfl,zb5⟩
noncomputable def mF:TE:=λ _ H Q=>∀p,H p=none->Q (.ref p) (upd H p (.dK []))
noncomputable def mG:TE:=λ _ H Q=>∀p,H p=none->Q (.ref p) (upd H p (.dT []))
section
variable {X:Cx}{pos:Pos}
theorem Yc:PE X (.Dict [] [] pos) mF:=λ pins s σ H Q I h =>
 wpAny_Dict_empty ⟨.ref s.heap.objs.size,_,I.laid (a:=s.heap.objs.size) (o:=.dK []) (t':=s.toks) (λ _ _ q=>zI _ q) (zU _) (Rx s.heap I.big),rfl,h _ (I.Au.fresh (zU _))⟩
theorem Yd:PE X (.Dict [] [] pos) mG:=λ pins s σ H Q I h =>
 wpAny_Dict_empty ⟨.ref s.heap.objs.size,_,I.laid (a:=s.heap.objs.size) (o:=.dT []) (t':=s.toks) (λ _ _ q=>zI _ q) (zU _) (Yb s.heap I.big),rfl,h _ (I.Au.fresh (zU _))⟩
end
def Tz:List (TE×TE)->St->Hp->(List (V×V)->Hp->Prop)->Prop
 |[],_,H,Q=>Q [] H
 |(tk,tv)::r,σ,H,Q=>tk σ H λ x H1=>tv σ H1 λ y H2=>Tz r σ H2 λ ps H3=>Q ((x,y)::ps) H3
noncomputable abbrev VV:List (V×V)->List (Value×Value)->Prop:=Paired λ p q=>RelV p.1 q.1/\RelV p.2 q.2
def tP (X:Cx)(pos:Pos)(keys:List (Option Expr))(values:List Expr)(df:List (TE×TE)):Prop:=
 ∀(pins:List (Addr×Obj)) (s:Shared) (σ:St) (H:Hp) (Q:List (V×V)->Hp->Prop),Inv X pins σ H s->Tz df σ H Q->
  wpAny (model X.prog X.w) X.A (evalPairs (pairTrees keys values X.env pos)) (λ vs s'=>∃ps H',Inv X pins σ H' s'/\VV ps vs/\Q ps H') X.xe s
theorem eA {X:Cx}{pos:Pos}:tP X pos [] [] []:=λ pins s σ H Q I h=>pairTrees_nil_walk ⟨[],H,I,.nil,h⟩
theorem Ye {X:Cx}{pos:Pos}{k v:Expr}{ks:List (Option Expr)}{vs:List Expr}{tk tv:TE}{df:List (TE×TE)}(hk:PE X k tk)(hv:PE X v tv)(hr:tP X pos ks vs df):
 tP X pos (some k::ks) (v::vs) ((tk,tv)::df):=λ pins s σ H Q I h =>
 pairTrees_cons_walk (Bc (hk pins s σ H _ I h) λ u s1 ⟨x,H1,I1,rx,q1⟩=>Bc (hv pins s1 σ H1 _ I1 q1) λ w2 s2 ⟨y,H2,I2,ry,q2⟩ =>
  Bc (hr pins s2 σ H2 _ I2 q2) λ ws s3 ⟨ps,H3,I3,rel,q3⟩=>⟨(x,y)::ps,H3,I3,.cons ⟨rx,ry⟩ rel,q3⟩)
noncomputable def Gs (kvs more:List (Key×V)):List (Key×V):=more.foldl (λ acc kv=>putK acc kv.1 kv.2) kvs
theorem KV.merge:∀ {more:List (Key×V)}{rs:List (Key×Value)}{kvs:List (Key×V)}{vs:List (Key×Value)},KV more rs->KV kvs vs->KV (Gs kvs more) (merged vs rs):=by
 intro more rs kvs vs r;unfold KV at r;induction r generalizing kvs vs with
 |nil=>intro q;exact q
 | @cons p q ps qs h t ih =>
  intro r0;have e:KV (putK kvs p.1 p.2) (stored vs q.1 q.2):=by
   have:=r0.put p.1 h.2;rw[<-h.1];exact this
  exact ih e
theorem Ip:∀(more kvs:List (Key×V)),(Gs kvs more).length<=kvs.length+more.length
 |[],kvs=>by show kvs.length<=kvs.length+0;omega
 |p::r,kvs=>by
  have h1:=Ip r (putK kvs p.1 p.2);have h2:=Dn kvs p.1 p.2;show (Gs (putK kvs p.1 p.2) r).length<=_;rw[zO];omega
theorem N4 {P:Program}{w:World}:∀ {kvs:List (Key×V)}{ws:List (Value×Value)},VV (kvs.map λ kv=>(kV kv.1,kv.2)) ws->∃rs,Carries (AL P w) ws rs/\KV kvs rs
 |[],_,r=>by rw[List.map_nil] at r;cases r;exact⟨[],zc7,.nil⟩
 |p::kvs,_,r=>by
  rw[zG] at r;cases r with
  | @cons a b as bs h t =>
   obtain⟨rs,c,q⟩:=N4 (P:=P) (w:=w) t;obtain⟨b1,b2⟩:=b;exact⟨(p.1,b2)::rs,⟨Lx h.1,rfl,c⟩,.cons ⟨rfl,h.2⟩ q⟩
noncomputable def qX (df:List (TE×TE)):TE:=λ σ H Q=>∀p,H p=none->Tz df σ (upd H p (.dK [])) λ ps H2=>H2 p=some (.dK [])/\∃kvs:List (Key×V),ps=kvs.map (λ kv=>(kV kv.1,kv.2))/\kvs.length<=15/\Q (.ref p) (upd H2 p (.dK (Gs [] kvs)))
theorem eB {X:Cx}{pos:Pos}{keys:List (Option Expr)}{values:List Expr}{df:List (TE×TE)}(h:tP X pos keys values df)(bD:keys.all (·.isSome)=true)(hl:keys.length=values.length)(h0:keys≠[])
 (xr:keys.length<=15):PE X (.Dict keys values pos) (qX df):=by
 intro pins s σ H Q I q;have hn:=I.Au.fresh (zU s.heap.objs.size);have I1:=I.laid (a:=s.heap.objs.size) (o:=.dK []) (h':=s.heap.push {cls:=.type "dict",data:=.dict #[]}) (t':=s.toks) (λ _ _ q=>zI _ q) (zU _) (Rx s.heap I.big);refine wpAny_Dict_walk (knd:=AL X.prog X.w) bD hl h0 xr (Bc (h pins _ σ _ _ I1 (q _ hn)) λ ws s2 ⟨ps,H2,I2,rel,e,kvs,ep,lk,q2⟩=>?_);subst ep;obtain⟨rs,c,rk⟩:=N4 (P:=X.prog) (w:=X.w) rel;obtain⟨z,hd,wc,r0,dd⟩:=jO I2.Au e;cases r0;refine⟨rs,c,dd,λ h' ga hs=>⟨.ref s.heap.objs.size,_,?_,rfl,q2⟩⟩;have hz:(Gs [] kvs).length<=sizeLine:=by
  have h1:=Ip kvs [];rw[List.length_nil] at h1;rw[sizeLine_eq];omega
 have he:∃q,h'.get? s.heap.objs.size=some q:=let ⟨q,_,_,hq,_⟩:=ga;⟨q,hq⟩;exact Qc I2 (by rw[e];exact zc7) hs he (Y9 hz hd (rk.merge .nil) ga)
structure M1 (X:Cx)(o:Expr)(m:Str)(apos:Pos)(e:Expr)(ae:Pos):Prop where
 base:attributeBase o m X.env (eval o X.env)=eval o X.env
 xH:((backTo ae (starEach [e] X.env)).all (λ x => !x.1)&&(backToKw ae (keywordEach [] X.env)).all (λ x=>x.1.isSome)
  && decide (([e]:List Expr).length+([]:List Keyword).length+(if ([]:List Keyword).isEmpty then 0 else 1)<30))=true
 line:(apos.endLine==ae.line)=true
 qY:backTo ae (starEach [e] X.env)=[(false,eval e X.env)]
def vB (H:Hp)(a:Addr):Prop:=(∃kvs,Rd H a (.dK kvs))\/∃kvs,Rd H a (.dT kvs)
theorem TB {X:Cx}{pins:List (Addr×Obj)}{σ:St}{H:Hp}{s:Shared}{a:Addr}(I:Inv X pins σ H s)(d:vB H a):
 s.TypeIs (.ref a) "dict" /\ (∀b,zaq a=.ref b->∃ob,s.heap.get? b=some ob/\ob.dict=none)/\(a==sysModules)=false:=by
 rcases d with ⟨kvs,e⟩|⟨kvs,e⟩
 ·obtain⟨_,hd,vs,_,dd⟩:=Jt I.Au e;refine⟨dd.typeIs,λ b q=>?_,hd⟩;cases q;obtain⟨ob,_,_,h1,h2,_⟩:=dd;exact⟨ob,h1,h2.2.1⟩
 ·obtain⟨_,hd,xs,_,dd⟩:=N3 I.Au e;refine⟨dd.typeIs,λ b q=>?_,hd⟩;cases q;obtain⟨ob,_,_,h1,h2,_⟩:=dd;exact⟨ob,h1,h2.2.1⟩
section
variable {X:Cx}{pins:List (Addr×Obj)}{σ:St}{H:Hp}{s:Shared}{a:Addr}{y d:V}{u r:Value}{o:Option V}{A:Around}{E:Value->Shared->Prop}
theorem mH {Q:Value->Shared->Prop}(hu:A.units+1<cLine)(I:Inv X pins σ H s)(g:Qb H a y o)(ry:RelV y u)(h:∀w' s',Inv X pins σ H s'->RelV (o.getD .AF) w'->Q w' s'):
 wpAny (model X.prog X.w) A (call (.builtin "dict.get") [.ref a,u]) Q E s:=by
 rcases g with ⟨kvs,k,e,ey,l⟩|⟨kvs,k,b,e,ey,eb,l⟩
 ·subst ey;obtain⟨z,hd,vs,rel,dd⟩:=Jt I.Au e;refine call_meetsIn PySem.F.slot_dict_get dd.typeIs PySem.F.entry_dict_get (PySem.F.args_dict_get_2 _ _) (meets_dict_get (AL X.prog X.w) a (Lx ry) hd) ⟨_,dd.mapOf,h _ _ (I.tok _) ?_⟩;rw[l];exact (rel.val k).getD rfl
 ·subst ey;cases (show u=zaq b from ry);obtain⟨z,hd,xs,rel,dd⟩:=N3 I.Au e;refine call_meetsIn PySem.F.slot_dict_get dd.typeIs PySem.F.entry_dict_get (PySem.F.args_dict_get_2 _ _) (meetsH_dict_get (tupleKind (AL X.prog X.w)) a b hd) ⟨tupleKind_room_in1 hu,k,xs,IG I.Au eb,dd,h _ _ (I.tok _) ?_⟩;rw[l];exact (rel.val k).getD rfl
end
noncomputable def mI (td ty:TE):TE:=λ σ H Q=>td σ H λ x H1=>∃a,x=.ref a/\vB H1 a/\ty σ H1 λ y H2=>∃o,Qb H2 a y o/\Q (o.getD .AF) H2
section
variable {X:Cx}{o e f:Expr}{apos ae:Pos}{td ty tx:TE}
theorem Yg (hu:X.A.units+1<cLine)(ho:PE X o td)(he:PE X e ty)(m:M1 X o "get" apos e ae):PE X (.Call (.Attribute o "get" apos) [e] [] ae) (mI td ty):=by
 intro pins s σ H Q I h;refine wpAny_Call_method m.base m.xH m.line PySem.F.plainAttrs_dict PySem.F.slot_dict_get PySem.F.type_dict_get (Bc (ho pins s σ H _ I h) λ u s1 ⟨x,H1,I1,rx,a,ex,d,q1⟩=>?_);subst ex;obtain rfl:u=zaq a:=rx;obtain⟨t1,t2,_⟩:=TB I1 d;refine⟨t1,t2,?_⟩;rw[m.qY];refine Calls.callWith_builtin rfl (Calls.evalArgs_plain (zbo (Bc (he pins s1 σ H1 _ I1 q1) λ iv s2 ⟨y,H2,I2,ry,ov,g,q2⟩=>zbw ?_)));exact mH hu I2 g ry λ w' s3 I3 bt=>⟨_,H2,I3,bt,q2⟩
end
noncomputable def IH (sc outer:Scope):Bool:=
 decide (sc.kind=.function)&&sc.names.all λ y=>decide (y.2≠.cell)&&(decide (y.2≠.free)||decide (outer.names.lookup y.1=some .cell)||decide (outer.names.lookup y.1=some .free))&&(decide (y.2≠.local)||decide (sc.names.lookup y.1=some .local))
noncomputable def Ou (N NB:List Str)(sc:Scope)(μ:List (Option Nat)):Bool:=
 decide (NB.length=μ.length)&&(NB.zip μ).all λ p=>match p.2 with
  |none=>true
  |some i=>decide (N[i]?=some p.1)&&decide (sc.names.lookup p.1=some .free)
noncomputable def ET (μ:List (Option Nat))(σ:St):St:=μ.map λ o=>o.bind λ i=>(σ[i]?).join
noncomputable def Ii (cells:List (Str×Addr)):List (Str×NameKind)->List (Str×Addr)->List (Str×Addr)
 |[],cs=>cs
 |(n,k)::r,cs=>Ii cells r (if (k==.free)=true then (n,(cells.lookup n).getD 0)::cs else cs)
theorem Iq {scope:Scope}{env:Env}(h:∀y∈scope.names,y.2=.free->∃c,env.cells.lookup y.1=some c):closureFor scope env=pure (Ii env.cells scope.names []):=by
 unfold closureFor;have key:∀(names:List (Str×NameKind)) (cs:List (Str×Addr)),(∀y∈names,y.2=.free->∃c,env.cells.lookup y.1=some c)->
  (forIn names cs λ(x:Str×NameKind) r=>match x with
   |(name,kind)=>if (kind==zca)=true then do
    let __do_lift <-cellOf env name
    pure (zcs ((name,__do_lift)::r))
    else pure (zcs r):Sem _)=pure (Ii env.cells names cs):=by
  intro names;induction names with
  |nil=>intro cs _;rfl
  |cons y r ih =>
   intro cs hy;obtain⟨n,k⟩:=y;rw[List.forIn_cons];by_cases hk:k=.free
   ·subst hk;obtain⟨c,hc⟩:=hy (n,.free) zD rfl;have e:cellOf env n=pure c:=by unfold cellOf;rw[show env.cells.lookup n=some c from hc]
    simp only[e,beq_self_eq_true,if_true,pure_bind];rw[ih _ λ z hz=>hy z (zF _ hz)];simp only[Ii,beq_self_eq_true,if_true];rw[show env.cells.lookup n=some c from hc];rfl
   ·have hb:(k==zca)=false:=by simpa using hk
    simp only[hb,za8,if_false,pure_bind];rw[ih _ λ z hz=>hy z (zF _ hz)];simp only[Ii,hb,za8,if_false]
 have q:=key scope.names [] h;simp only[bind_pure];exact q
theorem Ry {cells:List (Str×Addr)}:∀ {names:List (Str×NameKind)}{cs:List (Str×Addr)}{x:Str}{c:Addr},(x,c)∈Ii cells names cs->(x,c)∈cs\/((x,.free)∈names/\c=(cells.lookup x).getD 0)
 |[],cs,x,c,h=>.inl h
 |(n,k)::r,cs,x,c,h=>by
  rcases Ry (names:=r) h with q|⟨q,e⟩
  ·by_cases hk:k=.free
   ·subst hk;simp only[beq_self_eq_true,if_true] at q;rcases zQ.mp q with z|z
    ·cases z;exact .inr ⟨zD,rfl⟩
    ·exact .inl z
   ·have hb:(k==zca)=false:=by simpa using hk
    simp only[hb,za8,if_false] at q;exact .inl q
  ·exact .inr ⟨zF _ q,e⟩
theorem N5 {cells:List (Str×Addr)}:∀ {names:List (Str×NameKind)}{cs:List (Str×Addr)}{p:Str×Addr},p∈cs->p∈Ii cells names cs
 |[],_,_,h=>h
 |(n,k)::r,cs,p,h=>by
  show p∈Ii cells r _;refine N5 ?_;by_cases hk:(k==zca)=true
  ·rw[if_pos hk];exact zF _ h
  ·rw[if_neg hk];exact h
theorem N6 {cells:List (Str×Addr)}:∀ {names:List (Str×NameKind)}{cs:List (Str×Addr)}{x:Str},(x,.free)∈names->∃c,(x,c)∈Ii cells names cs
 |(n,k)::r,cs,x,h=>by
  rcases zQ.mp h with z|z
  ·cases z;refine⟨(cells.lookup n).getD 0,?_⟩;show _∈Ii cells r (if (zca==zca)=true then _ else _);exact N5 (by rw[if_pos (beq_self_eq_true _)];exact zD)
  ·exact N6 (names:=r) z
theorem EU {x:Str}{c:Addr}:∀ {l:List (Str×Addr)},(x,c)∈l->∃c',l.lookup x=some c'
 |(y,d)::r,h=>by
  rw[zc4];by_cases e:(x==y)=true
  ·rw[e];exact⟨d,rfl⟩
  ·rw[Bool.eq_false_iff.mpr e];rcases zQ.mp h with z|z
   ·cases z;exact absurd (beq_self_eq_true x) e
   ·exact EU z
theorem Ju {scope:Scope}{env:Env}{x:Str}{k:NameKind}(h:(relabel scope env).names.lookup x=some k):∃k',scope.names.lookup x=some k'/\(k=k'\/(k'=.free/\k=.cell)):=by
 unfold relabel at h;dsimp only at h;revert h;induction scope.names with
 |nil=>intro h;cases h
 |cons y r ih =>
  obtain⟨n,k'⟩:=y;intro h;rw[zG,zc4] at h;rw[zc4];by_cases hc:(k'==zca&&env.scope.kind==.function&&env.kindOf n==some .cell)=true
  ·dsimp only at h;rw[if_pos hc] at h;dsimp only at h;cases e:x==n with
   |true =>
    rw[e] at h;have hf:k'=.free:=by
     have:=hc;simp only[zad] at this;simpa using this.1.1
    exact⟨k',rfl,.inr ⟨hf,(za6 h).symm⟩⟩
   |false=>rw[e] at h;exact ih h
  ·dsimp only at h;rw[if_neg hc] at h;dsimp only at h;cases e:x==n with
   |true=>rw[e] at h;exact⟨k',rfl,.inl (za6 h).symm⟩
   |false=>rw[e] at h;exact ih h
theorem lookup_mem {α:Type}{x:Str}{k:α}:∀ {l:List (Str×α)},l.lookup x=some k->(x,k)∈l
 |(y,d)::r,h=>by
  rw[zc4] at h;cases e:x==y with
  |true =>
   rw[e] at h;cases h;have:x=y:=by simpa using e
   subst this;exact zD
  |false=>rw[e] at h;exact zF _ (lookup_mem h)
noncomputable def blockOf (X:Cx)(s:Shared)(H:Hp)(scope:Scope)(C:Addr)(NB:List Str)(ex:List Addr):Cx:=
 {X with N:=NB,s₀:=s,H₀:=H,env:=compEnvC scope (Ii X.env.cells scope.names []) C X.env,outer:=X.stack,stack:=X.stack,ex:=ex,fn:=λ _=>false,pn:=[],xe:=λ _ _=>False}
section
variable {X:Cx}{pins:List (Addr×Obj)}{σ:St}{H:Hp}{s s4:Shared}{scope:Scope}{NB:List Str}{μ:List (Option Nat)}{fp:List Addr}{C:Addr}
theorem Hx (h:IH scope X.env.scope=true):scope.kind=.function:=by
 unfold IH at h;simp only[zad,decide_eq_true_eq] at h;exact h.1
theorem Hy {sc outer:Scope}(h:IH sc outer=true){y:Str×NameKind}(hy:y∈sc.names):y.2≠.cell/\(y.2=.free->outer.names.lookup y.1=some .cell\/outer.names.lookup y.1=some .free)/\(y.2=.local->sc.names.lookup y.1=some .local):=by
 unfold IH at h;simp only[zad,decide_eq_true_eq,zcr,Bool.or_eq_true] at h;obtain⟨⟨h1,h2⟩,h3⟩:=h.2 y hy;exact⟨h1,λ e=>by
  rcases h2 with (q|q)|q
  ·exact absurd e q
  ·exact .inl q
  ·exact .inr q,λ e=>h3.elim (λ q=>absurd e q) id⟩
theorem II (I:Inv X pins σ H s)(h:IH scope X.env.scope=true){x:Str}(hx:(x,.free)∈scope.names):∃c,X.env.cells.lookup x=some c:=I.ok.has x ((Hy h hx).2.1 rfl)
theorem Ef (I:Inv X pins σ H s)(h:IH scope X.env.scope=true){x:Str}{c:Addr}(e:(Ii X.env.cells scope.names []).lookup x=some c):X.env.cells.lookup x=some c:=by
 rcases Ry (lookup_mem e) with q|⟨q,r⟩
 ·cases q
 ·obtain⟨c',e'⟩:=II I h q;rw[e'] at r;rw[e',r];rfl
theorem N7 {env:Env}(h:IH scope env.scope=true){x:Str}{k:NameKind}(hk:(relabel scope env).names.lookup x=some k)(hc:k=.cell\/k=.free):(x,.free)∈scope.names:=by
 obtain⟨k',e,q⟩:=Ju hk;have m:=lookup_mem e;have n:=(Hy h m).1;rcases q with q|⟨q,_⟩
 ·subst q;rcases hc with z|z
  ·exact absurd z n
  ·subst z;exact m
 ·subst q;exact m
theorem eC (h:Ou X.N NB scope μ=true):NB.length=μ.length/\∀(j i:Nat),μ[j]?=some (some i)->∃x,NB[j]?=some x/\X.N[i]?=some x/\scope.names.lookup x=some .free:=by
 unfold Ou at h;simp only[zad,decide_eq_true_eq,zcr] at h;refine⟨h.1,λ j i e=>?_⟩;have hj:j<NB.length:=by rw[h.1];exact (zY.mp e).1
 have m:(NB[j],some i)∈NB.zip μ:=by
  refine List.mem_iff_getElem?.mpr ⟨j,?_⟩;rw[List.getElem?_zip_eq_some];exact⟨zJ hj,e⟩
 have q:=h.2 _ m;dsimp only at q;simp only[zad,decide_eq_true_eq] at q;exact⟨NB[j],zJ hj,q.1,q.2⟩
theorem RB (I:Inv X pins σ H s)(aF:IH scope X.env.scope=true)(bu:Ou X.N NB scope μ=true)(i6:∀b∈fp,LV X pins H b)(mr:∀b∈fp,∃o,s.heap.get? b=some o)
 (hC:s.heap.objs.size<=C) {h4:Heap} {t4:Nat} (ns:h4.Ns C λ _=>none) (k:∀b o,s.heap.get? b=some o->h4.get? b=some o):
 Inv (blockOf X s H scope C NB fp) [] (ET μ σ) H {s with heap:=h4,toks:=t4}:=by
 obtain⟨hlen,bu⟩:=eC bu;have we:∀b o,s.heap.get? b=some o->b≠C:=λ b o e=>zX (za3 (zT e) hC);have mt:∀x c,X.env.cells.lookup x=some c->c≠C:=λ x c e=>by
  obtain⟨v,o,ho,_⟩:=I.cell x c e;exact we c o ho
 refine⟨⟨I.ok.mod,(show scope.kind=_ from Hx aF),I.ok.glob,I.ok.blt,hC,λ x y c h1 h2=>I.ok.inj x y c (Ef I aF h1) (Ef I aF h2),λ x hx=>?_,λ x c h _=>(by cases h),I.ok.hd,I.ok.frames,.inl rfl,λ b hb=>?_,I.bs,zat I.ok.cV I.sz,λ b o e hb=>?_,λ b hb hz=>?_,I.stack,I.Q2⟩,
  rfl,I.bare,Un.kept k,⟨_,ns,λ j x v e1 e2 e3=>?_⟩,λ x c e=>?_,I.Au.fresh hC,λ x c e=>I.Fd x c (Ef I aF e),λ p hp=>(by cases hp),I.Au.kept k,?_⟩
 ·have q:(x,zca)∈scope.names:=by
   rcases hx with hx|hx
   ·exact N7 aF hx (.inl rfl)
   ·exact N7 aF hx (.inr rfl)
  obtain⟨c,m⟩:=N6 (cells:=X.env.cells) (cs:=[]) q;exact EU m
 ·obtain⟨o,ho⟩:=mr b hb;refine⟨we b o ho,λ x c e z=>?_⟩;exact (i6 b hb).2.2.2.2.1 x c (Ef I aF e) z
 ·rcases (i6 b hb).2.2.2.1 with z|z
  ·exact I.ok.XE b o e z
  ·exact absurd (za3 (zT (I.ok.bs b o e).1) z) (Nat.lt_irrefl _)
 ·rcases zQ.mp (I.Td b hz) with e|e
  ·exact (i6 b hb).2.1 e
  ·exact (i6 b hb).2.2.1 e
 ·have js:(μ[j]?).map (λ o=>o.bind λ i=>(σ[i]?).join)=some (some v):=by
   rw[<-za2];exact e2
  cases q:μ[j]? with
  |none=>rw[q] at js;cases js
  |some o =>
   rw[q] at js;cases o with
   |none=>cases js
   |some i =>
    have e4:(σ[i]?).join=some v:=by simpa using js
    have e5:σ[i]?=some (some v):=by
     cases z:σ[i]? with
     |none=>rw[z] at e4;cases e4
     |some w=>rw[z] at e4;simp at e4;rw[e4]
    obtain⟨x',n1,n2,n3⟩:=bu j i q;have ex:x'=x:=za6 (n1.symm.trans e1);subst ex;have m:=lookup_mem n3;have ov:=(Hy aF m).2.1 rfl;obtain⟨mm,hn,hl⟩:=I.loc;obtain⟨u,r,l⟩:=hl i x' v n2 e5 (ov.elim (λ z=>.inr (.inl z)) λ z=>.inr (.inr z));refine⟨u,r,.inr ⟨?_,?_⟩⟩
    ·rcases e3 with z|z|z
     ·obtain⟨k',z1,z2⟩:=Ju (k:=.local) z;rw[n3] at z1;cases z1;rcases z2 with z2|⟨_,z2⟩<;>cases z2
     ·exact .inl z
     ·exact .inr z
    ·rcases l with ⟨l,_⟩|⟨_,c,l1,l2⟩
     ·rcases ov with z|z<;>(rw[show X.env.kindOf x'=_ from z] at l;cases l)
     ·obtain⟨c',m'⟩:=N6 (cells:=X.env.cells) (cs:=[]) m;obtain⟨zg,l3⟩:=EU m';have l4:=Ef I aF l3;rw[l1] at l4;cases l4;refine⟨c,l3,?_⟩;obtain⟨o,ho,hd⟩:=l2;exact⟨o,k _ _ ho,hd⟩
 ·obtain⟨v,o,ho,hd⟩:=I.cell x c (Ef I aF e);exact⟨v,o,k _ _ ho,hd⟩
 ·show (ET μ σ).length=NB.length;unfold ET;rw[zC,hlen]
theorem Fc.adopt {P:Program}{w:World}{H:Hp}{h:Heap}{a:Addr}{o:HO}(x:Fc P w H h)(hn:H a=none)(new:B6 P w (upd H a o) h a o):Fc P w (upd H a o) h:=λ b u e=>by
 by_cases hb:b=a
 ·subst hb;rw[Aj] at e;cases e;exact new
 ·rw[Ab hb] at e;exact (x b u e).MT (λ c v _ q=>q) (λ c q=>by rw[Ab (AH q hn)];exact q) λ c xs q=>by rw[Ab (AH q hn)];exact q
theorem Wl {H':Hp}{s':Shared}{h':Heap}{D:Addr}{pl:List (Addr×Obj)}{σ':St}{aa:List Value}{ys:List V}{n:Nat}(I:Inv X pins σ H s)(i6:∀b∈fp,LV X pins H b)(J:Inv (blockOf X s H scope C NB fp) pl σ' H' s')
 (hC:s.heap.objs.size<=C) (hD:s.heap.objs.size<=D) (cJ:D≠C) (eD:s'.heap.get? D=some {cls:=.type "list",data:=.seq aa.toArray n}) (nD:H' D=none) (r:Vals ys aa) (hz:ys.length<=sizeLine)
 (sb:zcf C s'.heap h'):Inv X pins σ (upd H' D (.lst ys)) {s' with heap:=h' }:=by
 have gc:∀b o,s.heap.get? b=some o->b≠C:=λ b o e=>zX (za3 (zT e) hC);have pd:∀b o,s.heap.get? b=some o->b≠D:=λ b o e=>zX (za3 (zT e) hD);have freshD:H D=none:=I.Au.fresh hD;have nC:H' C=none:=J.free;have u:Un (Ls X.stack) fp H H' s.heap s'.heap:=J.base;have f9:Fc X.prog X.w H' h':=λ b ob e=>(J.Au b ob e).MT (λ c v hc q=>(sb.2 c (by
  intro z;subst z;rcases hc with rfl|hc
  ·rw[nC] at e;cases e
  ·rw[nC] at hc;cases hc)).trans q) (λ _ q=>q) λ _ _ q=>q
 refine I.jJ (ch:=fp) J.os ⟨λ b o e n hb hx=>?_,λ b o e n hb hx=>?_,λ b o e n hx=>?_,λ b o e hx=>?_,λ b xs e=>?_,λ b o u' e=>?_,λ b ps e=>?_⟩ (f9.adopt nD ⟨hz,aa,n,r,(sb.2 D cJ).trans eD⟩) J.bare λ b hb=>?_
 ·exact (sb.2 b (gc b o e)).trans (u.keep b o e n hb hx)
 ·obtain⟨sl,q⟩:=u.slot b o e n hb hx;exact⟨sl,(sb.2 b (gc b o e)).trans q⟩
 ·rw[Ab (pd b o e)];exact u.free b o e n hx
 ·obtain⟨o',q⟩:=u.there b o e hx;exact⟨o',(sb.2 b (gc b o e)).trans q⟩
 ·rw[Ab (AH e freshD)];exact u.MU b xs e
 ·rw[Ab (AH e freshD)];exact u.KJ b o u' e
 ·rw[Ab (AH e freshD)];exact u.MV b ps e
 ·obtain⟨_,f1,_,f3,f4,f5⟩:=i6 b hb;exact⟨f3,f1,f4,f5⟩
end
theorem Qd {prog:Program}{w:World}{A:Around}{R:Result->Shared->Prop}{s:Shared}{elt target iter:Expr}{ifs:List Expr}{scope:Scope}{pos:Pos}{it acc:Value}{env:Env}(I:Nat->Shared->Prop)
 (turn:∀n s,I n s->wpAny (model prog w) A (pyNext it) (λ r s₁=>match r with
  |none=>R (.ok .next) s₁
  |some v=>wpAny (model prog w) A (letOwnedTupleGo target it v) (λ _ s₁'=>wpAny (model prog w) A (assign target env v) (λ _ s₂ =>
   wpAny (model prog w) A (forIn ifs true λ c r=>if r=true then do let ok <-isTrue c env (eval c env);pure (zcs ok) else pure (zcs r)) (λ ok s₃ =>
    if ok=true then wpAny (model prog w) A (eval elt env) (λ x s₄ =>
     wpAny (model prog w) A (call (.builtin "list.append") [acc,x]) (λ _ s₅=>∃m,m<n/\I m s₅) (λ _ _=>False) s₄) (λ _ _=>False) s₃
    else ∃m,m<n/\I m s₃) (λ _ _=>False) s₂) (λ _ _=>False) s₁') (λ _ _=>False) s₁) (λ _ _=>False) s)
 (n:Nat) (h:I n s):
 codeAny (model prog w) A (.compLoop (.ListComp elt [⟨target,iter,ifs,0⟩] scope pos) 0 it acc env) R s:=by
 refine codeAny_loop rfl I (λ n s hI=>?_) n h;show wpAny _ A ((compTurn (.ListComp elt [⟨target,iter,ifs,0⟩] scope pos) 0 it acc env).onRaise (λ x=>do noteFrame x env;theTreesLotGoes x)) _ _ s;refine wpAny_noted ?_;rw[compTurn_list];refine wpAny_bind (wpAny_standAt (wpAny_bind (wpAny_mono (turn n s hI) (λ r s₁ h₁=>?_) λ _ _ h'=>h'.elim)));cases r with
 |none=>exact wpAny_pure h₁
 |some v =>
  refine wpAny_bind (wpAny_mono h₁ (λ _ s₁' h₁'=>?_) λ _ _ h'=>h'.elim);refine wpAny_bind (wpAny_mono h₁' (λ _ s₂ h₂=>wpAny_bind (wpAny_mono h₂ (λ ok s₃ h₃=>?_) λ _ _ h'=>h'.elim)) λ _ _ h'=>h'.elim);cases ok with
  |false=>exact wpAny_pure ⟨rfl,h₃⟩
  |true =>
   exact wpAny_bind (wpAny_bind (wpAny_mono h₃ (λ x s₄ h₄=>wpAny_bind (wpAny_mono h₄ (λ _ s₅ h₅=>wpAny_pure (wpAny_pure ⟨rfl,h₅⟩)) λ _ _ h'=>h'.elim)) λ _ _ h'=>h'.elim))
def oY (X:Cx)(cs:List Expr)(t:TT):Prop:=
 ∀(pins:List (Addr×Obj)) (s:Shared) (σ:St) (H:Hp) (Q:Bool->Hp->Prop),Inv X pins σ H s->t σ H Q->
  wpAny (model X.prog X.w) X.A (forIn cs true λ c r=>if r=true then do let ok <-isTrue c X.env (eval c X.env);pure (zcs ok) else pure (zcs r)) (TP X pins σ Q) X.xe s
noncomputable def vC:TT:=λ _ H Q=>Q true H
theorem eE {X:Cx}:oY X [] vC:=λ _ _ _ H _ I h=>wpAny_tests_nil ⟨H,I,h⟩
theorem eF {X:Cx}{c:Expr}{t:TT}(h:PT X c t):oY X [c] t:=λ pins s σ H Q I q=>wpAny_tests_one (h pins s σ H Q I q)
def KQ (μ:List (Option Nat))(g:TG):Prop:=∀σ x H Q,g x (ET μ σ) H Q->g x (ET μ σ) H λ σ' H'=>Q σ' H'/\∀(j:Nat) v,(ET μ σ)[j]?=some (some v)->σ'[j]?=some (some v)
theorem eG {μ:List (Option Nat)}{i:Nat}(h:μ[i]?=some none):KQ μ (OQ i):=λ σ x H Q q=>by
 refine⟨q,λ j v e=>?_⟩;have af:j≠i:=λ z=>by
  subst z;unfold ET at e;rw[za2,h] at e;cases e
 rw[zap (zao af)];exact e
def wB (J:It)(H1:Hp)(Q:VK)(st:V->Hp->(St->Hp->Prop)->Prop)(tc:TT)(te:TE):Prop:=
 ∃W:Nat->Nat->List V->Hp->Prop,(∃m,W 0 m [] H1)/\∀i m ys H2,W i m ys H2->
  (J.stop i H2/\∀D,H2 D=none->Q (.ref D) (upd H2 D (.lst ys))) \/
  (J.go i H2/\ys.length<sizeLine/\∃N:List V->Hp->Prop,(∀aU H',N aU H'->∃m',m'<m/\W (i+1) m' aU H')/\∀x H3,J.cH i H2 x H3->st x H3 λ σ4 H4=>tc σ4 H4 λ b H5=>if b=true then te σ4 H5 λ y H6=>N (ys++[y]) H6 else N ys H5)
noncomputable def P5 (wi:TI)(μ:List (Option Nat))(g:TG)(tc:Shared->Hp->Addr->List Addr->TT)(te:Shared->Hp->Addr->List Addr->TE):TE:=λ σ H Q=>wi σ H λ J H1=>∀s C ex,wB J H1 Q (λ x H K=>g x (ET μ σ) H K) (tc s H1 C ex) (te s H1 C ex)
section
variable {X:Cx}{pins:List (Addr×Obj)}{σ:St}{H2:Hp}{s2:Shared}{tg elt iter:Expr}{ifs:List Expr}{scope:Scope}{pos:Pos}{NB:List Str}{μ:List (Option Nat)}{g:TG}{tc:Shared->Hp->Addr->List Addr->TT}{te:Shared->Hp->Addr->List Addr->TE}{fp:List Addr}{it:Addr}{tn:Nat->Heap->Prop}{J:It}{Q:VK}
theorem P6 (hc:X.calm=true)(I2:Inv X pins σ H2 s2)(T:Turn X.prog X.w X.K tg J fp it tn)(da:tn 0 s2.heap)(f2:∀b∈fp,LV X pins H2 b)
 (aF:IH scope X.env.scope=true) (bu:Ou X.N NB scope μ=true) (jt:KQ μ g)
 (hb:∀(s:Shared) (H:Hp) (C:Addr) (ex:List Addr),PG (blockOf X s H scope C NB ex) tg g/\oY (blockOf X s H scope C NB ex) ifs (tc s H C ex)/\PE (blockOf X s H scope C NB ex) elt (te s H C ex))
 (q:∀C,wB J H2 Q (λ x H K=>g x (ET μ σ) H K) (tc s2 H2 C fp) (te s2 H2 C fp)) {RR:Value->Addr->Result->Shared->Prop} {E:Value->Shared->Prop}
 (fin:∀(D C:Addr) (s':Shared) (H':Hp) (ys:List V) (m:Str->Option Value),s2.heap.objs.size<=D->s2.heap.objs.size<=C->D≠C->s'.heap.Ns C m->H' C=none->(∀h',zcf C s'.heap h'->Inv X pins σ (upd H' D (.lst ys)) {s' with heap:=h' })->Q (.ref D) (upd H' D (.lst ys))->RR (.ref D) C (.ok .next) s'):
 wpAny (model X.prog X.w) X.A (newList []) (λ acc s₃=>wpAny (model X.prog X.w) X.A (newFunctionEnv scope X.env.globals (Ii X.env.cells scope.names []) [] X.env.qual none .none (some X.env)) (λ ju s₄ =>
  codeAny (model X.prog X.w) X.A (.compStart (.ListComp elt [⟨tg,iter,ifs,0⟩] scope pos) 0 (.ref it) acc {ju with scope:=relabel scope X.env}) (RR acc ju.locals) s₄) E s₃) E s2:=by
 have bL:∀y∈scope.names,y.2≠.cell:=λ y hy=>(Hy aF hy).1;refine wpAny_newObj_type (wpAny_newFunctionEnv bL (by intro y hy;simp at hy) (λ h₁ hns₁ hsb₁=>?_) (Hx aF));dsimp only at hns₁ hsb₁ ⊢;generalize pe:s2.heap.push {cls:=.type "list",dict:=none,data:=.seq ([]:List Value).toArray}=mw at hns₁ hsb₁ ⊢;have hC:mw.objs.size=s2.heap.objs.size+1:=by rw[<-pe,Heap.size_push]
 have cJ:s2.heap.objs.size≠mw.objs.size:=by rw[hC];exact zX (Nat.lt_succ_self _)
 have jv:s2.heap.objs.size<=mw.objs.size:=by rw[hC];exact Nat.le_succ _
 have old:∀b o,s2.heap.get? b=some o->h₁.get? b=some o:=λ b o e=>hsb₁.extBut b o (by rw[hC];exact zX (Nat.lt_succ_of_lt (zT e))) (zI _ (pe▸zI _ e));have eD:h₁.get? s2.heap.objs.size=some {cls:=.type "list",data:=.seq ([]:List Value).toArray}:=hsb₁.extBut _ _ cJ (zI _ (pe▸zZ _ rfl));have mr:∀b∈fp,∃o,s2.heap.get? b=some o:=λ b hb=>let ⟨o,e,_⟩:=T.obj _ _ da b hb;⟨o,e⟩;have pf:∀b∈fp,b≠s2.heap.objs.size:=λ b hb=>let ⟨o,e⟩:=mr b hb;zX (zT e);generalize wg:s2.heap.objs.size=D at jv cJ eD pf ⊢;generalize zh:mw.objs.size=C at *;have bV:s2.heap.objs.size<=D:=by rw[wg];exact zU _
 have cm:s2.heap.objs.size<=C:=by rw[wg];exact jv
 have I4:Inv (blockOf X s2 H2 scope C NB fp) [] (ET μ σ) H2 {s2 with heap:=h₁,toks:=s2.toks+([]:List (Str×Value)).length}:=RB I2 aF bu f2 mr cm (by simpa using hns₁) old;have bA:∀ {H':Hp} {pl:List (Addr×Obj)},(∀b∈fp,H' b=none)->(∀p∈pl,p.1=D)->∀b∈fp,LV (blockOf X s2 H2 scope C NB fp) pl H' b:=fun {H' pl} hn hp b hb=>by
  refine⟨hn b hb,(I4.ok.tJ b hb).1,I4.ok.XF b hb,.inl hb,λ x c e z=>(I4.ok.tJ b hb).2 x c e z,λ p jw z=>?_⟩;have ph:p∈pl:=by simpa [blockOf] using jw
  exact pf b hb (z▸hp p ph)
 have xt:D∉(blockOf X s2 H2 scope C NB fp).fs:=λ z=>by
  obtain⟨_,o,ho,_⟩:=I4.ok.Jm.mem z;exact absurd (zT ho) (Nat.not_lt.mpr bV)
 obtain⟨W,⟨m0,w0⟩,turn⟩:=q C;have loop:∀s₃:Shared,s₃={s2 with heap:=h₁,toks:=s2.toks+([]:List (Str×Value)).length} ->
  codeAny (model X.prog X.w) X.A (.compLoop (.ListComp elt [⟨tg,iter,ifs,0⟩] scope pos) 0 (.ref it) (.ref D) (compEnvC scope (Ii X.env.cells scope.names []) C X.env)) (RR (.ref D) C) s₃:=by
  rintro s₃ rfl;refine Qd (λ n s'=>∃i ys aa k H',Inv (blockOf X s2 H2 scope C NB fp) [(D,{cls:=.type "list",data:=.seq aa k})] (ET μ σ) H' s'/\tn i s'.heap/\(∀b∈fp,H' b=none)/\Vals ys aa.toList/\ys.length<=sizeLine/\W i n ys H') ?_ m0
   ⟨0,[],#[],0,H2,I4.Jn λ p hp=>?_,T.keep _ _ _ da λ b hb o e=>old b o e,λ b hb=>(f2 b hb).1,.nil,zak _,w0⟩
  rotate_left
  ·have e:=zS.mp hp;subst e;exact⟨eD,I2.Au.fresh bV,cJ,xt,λ v=>by simp⟩
  rintro n s3 ⟨i,ys,aa,k,H3,I3,ji,jj,rv,hz,w3⟩;rcases turn i n ys H3 w3 with ⟨stop,qn⟩|⟨go,aj,N,hN,step⟩
  ·refine wpAny_mono (T.done (blockOf X s2 H2 scope C NB fp) rfl rfl rfl hc i _ s3 _ H3 (λ _ _=>False) I3 (bA jj (by simp)) ji stop) (λ r s4 ⟨hr,mx⟩=>?_) λ _ _ e=>e;subst hr;obtain⟨p1,p2,p3,p4,p5⟩:=mx.pin _ (zN _ zD);obtain⟨m,hn,_⟩:=id mx.loc;have e1:s4.heap.get? D=some {cls:=.type "list",data:=.seq aa.toList.toArray k}:=by simpa using p1
   exact fin D C s4 H3 ys m bV cm cJ hn mx.free (λ h' sb=>Wl I2 f2 mx cm bV cJ e1 p2 rv hz sb) (qn D p2)
  ·refine wpAny_mono (T.item (blockOf X s2 H2 scope C NB fp) rfl rfl rfl hc i _ s3 _ H3 (λ _ _=>False) I3 (bA jj (by simp)) ji go) (λ r s4 ⟨u,hr,h4⟩=>?_) λ _ _ e=>e;subst hr;refine Bc h4 λ _ s5 ⟨x,H5,I5,r5,y5,fm,n4⟩=>?_;have n5:=I5.pinned (bA n4 (by simp)) (T.obj _ _ fm);have bT:=jt σ x H5 _ (step x H5 y5);obtain⟨hg,ht,he⟩:=hb s2 H2 C fp;refine Bc (hg _ s5 _ H5 x u _ n5 r5 bT) λ _ s6 ⟨σ6,H6,I6,q6,k6⟩=>?_;refine Bc (ht _ s6 σ6 H6 _ I6 q6) λ ok s7 ⟨H7,I7,q7⟩=>?_;have again:∀ {H8:Hp} {s8:Shared} {its':Array Value} {k':Nat} {aU:List V},Inv (blockOf X s2 H2 scope C NB fp) ([(D,{cls:=.type "list",data:=.seq its' k' })]++IC fp s5.heap) σ6 H8 s8->Vals aU its'.toList->aU.length<=sizeLine->(∃m,m<n/\W (i+1) m aU H8)->
    ∃m,m<n/\∃i ys aa k H',Inv (blockOf X s2 H2 scope C NB fp) [(D,{cls:=.type "list",data:=.seq aa k})] (ET μ σ) H' s8/\tn i s8.heap/\(∀b∈fp,H' b=none)/\Vals ys aa.toList/\ys.length<=sizeLine/\W i m ys H':=fun {H8 s8 its' k' aU} I8 bj xu n8=>by
    obtain⟨m',hm,w8⟩:=n8;refine⟨m',hm,i+1,aU,its',k',H8,(I8.Jq.weak ?_ k6),T.keep _ _ _ fm λ b hb o e=>(I8.pin (b,o) (zN _ (zN _ (Fq hb e)))).1,λ b hb=>?_,bj,xu,w8⟩
    ·rw[I8.len];exact I4.len
    ·obtain⟨o,e,d⟩:=T.obj _ _ fm b hb;exact (I8.pin (b,o) (zN _ (zN _ (Fq hb e)))).2.1
   cases ok with
   |false =>
    simp only[za8,if_false] at q7 ⊢;exact again I7 rv hz (hN _ _ q7)
   |true =>
    simp only[if_true] at q7 ⊢;refine Bc (he _ s7 σ6 H7 _ I7 q7) λ uy s8 ⟨y,H8,I8,r8,q8⟩=>?_;obtain⟨p1,p2,p3,p4,p5⟩:=I8.pin (D,_) (zN _ (zae _ zD));have e1:s8.heap.get? D=some {cls:=.type "list",data:=.seq aa k}:=p1;have hsz:aa.size=ys.length:=by rw[<-zcu];exact rv.length.symm
    refine call_meets F.slot_list_append ⟨_,e1,rfl⟩ F.entry_list_append (F.args_list_append_2 _ _) (PySem.list_append D aa k uy (by rw[hsz];omega)) ⟨e1,?_⟩;have pi:=PySem.IsL.update e1 (·.push uy);have Iu:Inv (blockOf X s2 H2 scope C NB fp) (IC fp s5.heap) σ6 H8 s8:=I8.Jn λ p hp=>I8.pin p (zN _ (zN _ hp));have It:=Iu.turned (it:=D) (h':=s8.heap.update D (zbz (·.push uy))) (t':=s8.toks) (λ b o hb e=>(zc8 _ _ (zao hb)).trans e) p2 p3 (.inr bV) (λ x c e z=>?_) (λ p hp z=>?_)
    ·refine again (its':=aa.push uy) (k':=if (aa.push uy).size==aa.size then k else k+1) (It.Jn λ p hp=>?_) (by simpa using rv.append (.cons r8 .nil)) (by rw[za7,zb2];omega) (hN _ _ q8);rcases za5.mp hp with hp|hp
     ·have e:=zS.mp hp;subst e;exact⟨pi,p2,p3,p4,λ v=>by simp⟩
     ·exact It.pin p (zN _ hp)
    ·have e':=Ef I2 aF e;obtain⟨v,o,ho,_⟩:=I2.cell x c e';exact absurd (zT ho) (by rw[z];exact Nat.not_lt.mpr bV)
    ·have jw:p∈IC fp s5.heap:=by simpa [blockOf] using hp
     exact pf p.1 (OR jw).1 z
 exact codeAny_compStart_list (loop _ rfl) (T.self _ 0 _ _ _ (T.keep _ _ _ da λ b hb o e=>old b o e) (loop _ rfl))
theorem UY {wi:TI}(hc:X.calm=true)(hi:PI X tg iter wi)(aF:IH scope X.env.scope=true)(bu:Ou X.N NB scope μ=true)(jt:KQ μ g)
 (hb:∀(s:Shared) (H:Hp) (C:Addr) (ex:List Addr),PG (blockOf X s H scope C NB ex) tg g/\oY (blockOf X s H scope C NB ex) ifs (tc s H C ex)/\PE (blockOf X s H scope C NB ex) elt (te s H C ex))
 (hs:∀x,foldedSetIterable iter X.env x=pure x:=by intro _;rfl):PE X (.ListComp elt [⟨tg,iter,ifs,0⟩] scope pos) (P5 wi μ g tc te):=by
 intro pins s σ H Q I h;have bE:∀y∈scope.names,y.2=.local->scope.names.lookup y.1=some .local:=λ y hy=>(Hy aF hy).2.2;have cn:closureFor scope X.env=pure (Ii X.env.cells scope.names []):=Iq λ y hy e=>II I aF (x:=y.1) (by rw[<-e];exact hy);rw[eval_ListComp];refine wpAny_comprehension_free (use:=none) rfl hs cn (Hx aF) bE (Bc (hi pins s σ H _ I h) λ v s1 h1=>Bc h1 λ ml s2 h2=>?_);obtain⟨it,fp,tn,J,H2,e,I2,T,da,f2,q⟩:=h2;subst e;refine P6 (RR:=λ acc C=>compPost (model X.prog X.w) X.A X.xe none (EP X pins σ Q) acc C) hc I2 T da f2 aF bu jt hb (λ C=>q s2 C fp) ?_;intro D C s' H' ys m hD hC cJ hn nC hI hq;exact⟨m,hn,λ h' sb=>⟨.ref D,_,hI h' sb,rfl,hq⟩⟩
noncomputable def qZ (i:Nat)(te:TE):TS:=λ D σ H=>te σ H λ x H1=>D.nx (σ.set i (some x)) H1
theorem UZ {wi:TI}{i:Nat}{y:Str}{py au:Pos}(hN:X.N.Nodup)(jx:X.N[i]?=some y)(hy:Loc X.env.scope y)(hc:X.calm=true)(hi:PI X tg iter wi)(aF:IH scope X.env.scope=true)(bu:Ou X.N NB scope μ=true)(jt:KQ μ g)
 (hb:∀(s:Shared) (H:Hp) (C:Addr) (ex:List Addr),PG (blockOf X s H scope C NB ex) tg g/\oY (blockOf X s H scope C NB ex) ifs (tc s H C ex)/\PE (blockOf X s H scope C NB ex) elt (te s H C ex))
 (bW:swapsWith (.ListComp elt [⟨tg,iter,ifs,0⟩] scope pos) (some (.Name y py)) au.line X.env=pure true:=by rfl)
 (hs:∀x,foldedSetIterable iter X.env x=pure x:=by intro _;rfl) (hf:X.fn y=true\/X.env.scope.names.lookup y=some .local:=by first|exact .inl rfl|exact .inr rfl|assumption):
 PS X (.Assign [.Name y py] (.ListComp elt [⟨tg,iter,ifs,0⟩] scope pos) au) (qZ i (P5 wi μ g tc te)):=by
 intro pins s σ H D' I h;have bE:∀y∈scope.names,y.2=.local->scope.names.lookup y.1=some .local:=λ y hy=>(Hy aF hy).2.2;have cn:closureFor scope X.env=pure (Ii X.env.cells scope.names []):=Iq λ y hy e=>II I aF (x:=y.1) (by rw[<-e];exact hy);rw[exec_Assign_Name_used _ _ _ _ bW];refine wpAny_bind (wpAny_standAt (wpAny_bind ?_));show wpAny _ X.A (do let _ <-comprehension (.ListComp elt [⟨tg,iter,ifs,0⟩] scope pos) scope X.env _ (newList []) false (eval iter X.env) (some (assign (.Name y py) X.env))) _ _ s;refine wpAny_bind (wpAny_mono (wpAny_comprehension_free (use:=some (assign (.Name y py) X.env)) (Q:=λ _ s'=>SP X pins D' .next s') rfl hs cn (Hx aF) bE (Bc (hi pins s σ H _ I h) λ v s1 h1=>Bc h1 λ ml s2 h2=>?_)) (λ _ s' hq=>wpAny_pure (wpAny_pure hq)) λ _ _ e=>e);obtain⟨it,fp,tn,J,H2,e,I2,T,da,f2,q⟩:=h2;subst e;refine P6 (RR:=λ acc C=>compPost (model X.prog X.w) X.A X.xe (some (assign (.Name y py) X.env)) (λ _ s'=>SP X pins D' .next s') acc C) hc I2 T da f2 aF bu jt hb (λ C=>q s2 C fp) ?_;intro D C s' H' ys m hD hC cJ hn nC hI hq;have I':=hI s'.heap (.refl ..);show wpAny _ X.A (assign (.Name y py) X.env (.ref D)) _ _ _;refine wpAny_assign_Name (OP (i:=i) (v:=.ref D) I' hN jx hy rfl (λ jl xv pk=>?_) hf);obtain⟨a,sb,ha⟩:=pk;have i4:a≠C:=by
  rcases ha with z|z
  ·rw[z];exact zX (za3 I2.lt hC)
  ·obtain⟨v,o,ho,_⟩:=I2.cell y a z;exact zX (za3 (zT ho) hC)
 refine⟨m,hn.sameBut sb (zao i4),λ h' bF=>?_⟩;refine⟨_,_,xv.turned (it:=C) (t':=jl.toks) (λ b o hb e=>(bF.2 b hb).trans e) (by rw[Ab (zao cJ)];exact nC) (Nat.ne_of_gt (za3 I2.lt hC)) (.inr (zat I2.sz hC)) (λ x c e z=>?_) (λ p hp z=>?_),hq⟩
 ·obtain⟨v,o,ho,_⟩:=I2.cell x c e;exact absurd (zT ho) (by rw[z];exact Nat.not_lt.mpr hC)
 ·exact absurd (zT (I2.pin p hp).1) (by rw[z];exact Nat.not_lt.mpr hC)
end
noncomputable def wC (K:zy)(a:Addr):It:=
 ⟨λ i H=>∃xs x,DF K H a xs/\xs[i]?=some x,λ i H v H'=>∃p x,H p=none/\v=.ref p/\(∀xs,DF K H a xs->xs[i]?=some x)/\H'=upd H p (.tup [.int i,x]),λ i H=>∃xs,DF K H a xs/\xs.length<=i⟩
theorem TC {X:Cx}{pins:List (Addr×Obj)}{σ:St}{H:Hp}{s:Shared}{h':Heap}{t':Nat}{e it:Addr}(I:Inv X pins σ H s)(he:LV X pins H e)(hi:LV X pins H it)(k:∀b o,b≠e->b≠it->s.heap.get? b=some o->h'.get? b=some o):Inv X pins σ H {s with heap:=h',toks:=t' }:=by
 obtain⟨e0,e1,e2,e3,e4,e5⟩:=he;obtain⟨f0,f1,f2,f3,f4,f5⟩:=hi;have ne:∀b u,H b=some u->b≠e/\b≠it:=λ b u q=>⟨λ z=>(by rw[z,e0] at q;cases q),λ z=>(by rw[z,f0] at q;cases q)⟩;refine I.step (g':=s.gens) (d':=s.drawn) (ch:=[e,it]) (λ b hb=>?_) (λ b o _ _ hc q _=>k b o (λ z=>hc (by simp[z])) (λ z=>hc (by simp[z])) q) (λ b o _ _ hc q _=>⟨o.slots,k b o (λ z=>hc (by simp[z])) (λ z=>hc (by simp[z])) q⟩) (λ _ _ _ _ n=>n)
  (λ b o hc q=>⟨o,k b o (λ z=>hc (by simp[z])) (λ z=>hc (by simp[z])) q⟩) (λ _ _ q=>q) (λ _ _ _ q=>q) (λ b ps q=>⟨#[],by rw[q];simp⟩) (λ m hm=>?_) (λ b u q=>?_) I.bare
 ·rcases zQ.mp hb with z|z
  ·subst z;exact⟨e3,e1,e4,e5⟩
  ·have z:=zS.mp z;subst z;exact⟨f3,f1,f4,f5⟩
 ·obtain⟨o,es,ep,ho,r⟩:=hm;exact⟨o,es,ep,k _ o (zao e1) (zao f1) ho,r⟩
 ·refine (I.Au b u q).MT (λ c v hc z=>k c v ?_ ?_ z) (λ _ z=>z) λ _ _ z=>z
  ·rcases hc with z|z
   ·rw[z];exact (ne b u q).1
   ·exact (ne c _ z).1
  ·rcases hc with z|z
   ·rw[z];exact (ne b u q).2
   ·exact (ne c _ z).2
theorem Wm {P:Program}{w:World}{K:zy}{cp:List Expr}{x1}{bB:Pos}(a e it:Addr)(af:e≠it):
 Turn P w K (.Tuple cp x1 bB) (wC K a) [e,it] e (λ i h=>(∃old,IsEnum h e it i old)/\h.IsListIter it a i) where
 mem:=by simp
 obj:=λ i h st b hb=>by
  obtain⟨⟨old,h1⟩,o,h2,c,d⟩:=st;rcases zQ.mp hb with z|z
  ·subst z;exact⟨_,h1,λ v z=>by cases z⟩
  ·have z:=zS.mp z;subst z;exact⟨o,h2,λ v z=>by rw[d] at z;cases z⟩
 keep:=λ i h h' st k=>⟨let ⟨old,h1⟩:=st.1;⟨old,k e (by simp) _ h1⟩,st.2.at λ o e=>k it (by simp) o e⟩
 item:=by
  intro X hP hw hK hc i pins s σ H E I hf st hg;subst hP hw hK;obtain⟨xs,x,hq,hx⟩:=hg;obtain⟨⟨old,he⟩,hit⟩:=st;obtain⟨aa,rv,p,hz⟩:=I.list hq;obtain⟨u,hu,ru⟩:=rv.get hx;have fe:=hf e (by simp);have fi:=hf it (by simp);refine wpAny_pyNext_enum_item he hit p.isList (x:=u) (by simpa using hu) af λ h1 d5 pq ht hsz hk=>?_;refine⟨_,rfl,wpAny_letOwnedTupleGo_enum (s:={s with heap:=h1,toks:=s.toks+1}) d5 λ h2 xw aZ=>?_⟩;have bG:zcf e h1 h2:=aZ;have nt:s.heap.objs.size≠e:=Nat.ne_of_gt (zT he);have xx:s.heap.objs.size≠it:=by
   obtain⟨o,ho,_⟩:=hit;exact Nat.ne_of_gt (zT ho)
  have I1:Inv X pins σ H {s with heap:=h2,toks:=s.toks+1}:=TC I fe fi λ b o hb aG q=>(bG.2 b hb).trans (hk b o hb aG q);have tup:h2.get? s.heap.objs.size=some {cls:=.type "tuple",data:=.seq #[.int i s.toks,u]}:=(bG.2 _ nt).trans ht;have nH:H s.heap.objs.size=none:=I.Au.fresh (zU _);have vv:Vals [.int i,x] [.int i s.toks,u]:=.cons ⟨_,rfl⟩ (.cons ru .nil);have pw:Fc X.prog X.w (upd H s.heap.objs.size (.tup [.int i,x])) h2:=I1.Au.adopt nH ⟨by show 2<=sizeLine;decide,_,vv,⟨_,tup,rfl,_,rfl⟩⟩;have I2:Inv X pins σ (upd H s.heap.objs.size (.tup [.int i,x])) {s with heap:=h2,toks:=s.toks+1}:=by
   refine I.step (g':=s.gens) (d':=s.drawn) (ch:=[e,it]) (λ b hb=>?_) (λ b o _ _ hc q _=>(bG.2 b (λ z=>hc (by simp[z]))).trans (hk b o (λ z=>hc (by simp[z])) (λ z=>hc (by simp[z])) q)) (λ b o _ _ hc q _=>⟨o.slots,(bG.2 b (λ z=>hc (by simp[z]))).trans (hk b o (λ z=>hc (by simp[z])) (λ z=>hc (by simp[z])) q)⟩)
    (λ b o hc q n=>by rw[Ab (zX (zT q))];exact n) (λ b o hc q=>⟨o,(bG.2 b (λ z=>hc (by simp[z]))).trans (hk b o (λ z=>hc (by simp[z])) (λ z=>hc (by simp[z])) q)⟩)
    (λ b xs q=>by rw[Ab (AH q nH)];exact q) (λ b o u q=>by rw[Ab (AH q nH)];exact q) (λ b ps q=>⟨#[],by rw[Ab (AH q nH),q];simp⟩) (λ m hm=>?_) pw I.bare
   ·rcases zQ.mp hb with z|z
    ·subst z;exact⟨fe.2.2.2.1,fe.2.1,fe.2.2.2.2.1,fe.2.2.2.2.2⟩
    ·have z:=zS.mp z;subst z;exact⟨fi.2.2.2.1,fi.2.1,fi.2.2.2.2.1,fi.2.2.2.2.2⟩
   ·obtain⟨o,es,ep,ho,r⟩:=hm;exact⟨o,es,ep,(bG.2 _ (zao fe.2.1)).trans (hk _ o (zao fe.2.1) (zao fi.2.1) ho),r⟩
  refine⟨.ref s.heap.objs.size,_,I2,rfl,⟨_,x,nH,rfl,λ ys hy=>by rw[I.Jo hy hq];exact hx,rfl⟩,⟨⟨u,xw⟩,pq.at λ o q=>(bG.2 it (zao af)).trans q⟩,λ b hb=>?_⟩;have aG:b≠s.heap.objs.size:=by
   rcases zQ.mp hb with z|z
   ·rw[z];exact zao nt
   ·rw[zS.mp z];exact zao xx
  rw[Ab aG];exact (hf b hb).1
 done:=by
  intro X hP hw hK hc i pins s σ H E I hf st hg;subst hP hw hK;obtain⟨xs,hq,hx⟩:=hg;obtain⟨⟨old,he⟩,hit⟩:=st;obtain⟨aa,rv,p,hz⟩:=I.list hq;have hl:=rv.length;obtain⟨f0,f1,f2,f3,f4,f5⟩:=hf it (by simp);exact wpAny_pyNext_enum_end (I.ok.hd hc) he hit p.isList (by simp;omega) λ h' eb=>⟨rfl,I.turned (t':=s.toks) (λ b o hb e=>eb b o hb e) f0 f1 f3 f4 f5⟩
 self:=λ _ _ _ _ _ st h=>let ⟨_,he⟩:=st.1;wpAny_pyIter_enum he h
section
variable {X:Cx}
noncomputable def rA (K:zy)(ta:TA):TI:=λ σ H R=>ta σ H λ vs H1=>∃a,vs=[.ref a]/\(∃xs,DF K H1 a xs)/\R (wC K a) H1
theorem eI {cp:List Expr}{x1}{bB:Pos}{a:Expr}{ta:TA}{p pos:Pos}(hg:Gl X "enumerate")(hm:X.mg "enumerate" = none)(ha:PA X [a] ta)(hb:bootBuiltins "enumerate" = some (.type "enumerate"):=by decide +kernel)(hs:starEach [a] X.env=[(false,eval a X.env)]:=by rfl):
 PI X (.Tuple cp x1 bB) (.Call (.Name "enumerate" p) [a] [] pos) (rA X.K ta):=by
 intro pins s σ H R I h;refine Call_ (Ed I hg hm hb (zay (Bc (ha pos pins s σ H _ I h) λ us s1 ⟨vs,H1,I1,r1,q1⟩=>?_) hs rfl));obtain⟨j,e,⟨xs,hq⟩,q⟩:=q1;subst e;cases r1 with
 |cons r rr =>
  cases rr;cases r;obtain⟨aa,rv,p,hz⟩:=I1.list hq;refine call_enumerate_list p.isList λ h' he hit hsz hk=>?_;refine wpAny_pyIter_enum (s:={s1 with heap:=h' }) he ?_;have I2:Inv X pins σ H1 {s1 with heap:=h' }:=I1.kept (t':=s1.toks) hk;refine⟨_,[s1.heap.objs.size+1,s1.heap.objs.size],_,_,H1,rfl,I2,Wm j _ _ (Nat.succ_ne_self _),⟨⟨_,he⟩,hit⟩,λ b hb=>?_,q⟩;rcases zQ.mp hb with z|z
  ·rw[z];exact I1.W4 (Nat.le_succ _) (I1.Au.fresh (Nat.le_succ _))
  ·rw[zS.mp z];exact I1.W4 (zU _) (I1.Au.fresh (zU _))
end
noncomputable def BK {α:Type}(o:Option (α×List Int))(b:α×List Int):Option (α×List Int):=match o with | none=>some b | some c=>if HT.lexLt b.2 c.2=true then some b else some c
noncomputable def B0 {α:Type}(bs:List (α×List Int)):Option (α×List Int):=bs.foldl BK none
noncomputable def Dp (bs:List (Addr×List Int)):Array Value:=match B0 bs with | none=>#[] | some b=>#[.ref b.1,.ref b.1]
theorem D6 {α:Type}(bs:List (α×List Int))(b:α×List Int):B0 (bs++[b])=match B0 bs with | none=>some b | some c=>if HT.lexLt b.2 c.2=true then some b else some c:=by
 unfold B0;rw[List.foldl_append];rfl
theorem KR {α:Type}:∀(bs:List (α×List Int)) (b:α×List Int),B0 bs=some b->b∈bs:=by
 intro bs
 suffices h:∀(bs:List (α×List Int)) (o:Option (α×List Int)) (b:α×List Int),bs.foldl BK o=some b->b∈bs\/o=some b by
  intro b hb;rcases h bs none b hb with q|q
  ·exact q
  ·cases q
 intro bs;induction bs with
 |nil=>intro o b h;exact .inr h
 |cons x r ih =>
  intro o b h;rw[zac] at h;rcases ih _ _ h with q|q
  ·exact .inl (zF _ q)
  ·cases o with
   |none=>cases q;exact .inl zD
   |some c =>
    unfold BK at q;dsimp only at q;split at q
    ·cases q;exact .inl zD
    ·exact .inr q
theorem Ov (a v:Value):argsOk "min" ⟨[a],[(Str.ofString "default",v)]⟩:=by unfold argsOk;kernel_rfl
section
variable {prog:Program}{w:World}{A:Around}{R:Result->Shared->Prop}
theorem Yh (bs:List (Addr×List Int))(tv:Addr->Array Value)(l I S:Addr)(d:Value)(hh:A.handled=none)(hu:A.in1.units<cLine)(dh:S≠I)(di:l≠I)(jy:l≠S)(ge:∀b∈bs,b.1≠I/\b.1≠S)
 (hk:∀b∈bs,IntsAre (tv b.1).toList b.2):∀(k j:Nat) (s:Shared) (c:Nat),bs.length-j=k->j<=bs.length->s.heap.IsListIter I l j->s.heap.IsList l (bs.map λ b=>zaq b.1).toArray->(∀b∈bs,IsTup s.heap b.1 (tv b.1))->
  s.heap.get? S=some {cls:=.type "list",dict:=none,data:=.seq (Dp (bs.take j)) c,slots:=#[]} ->
  (∀h' tk,(∀b o,b≠I->b≠S->s.heap.get? b=some o->h'.get? b=some o)->R (.ok (.ret (match B0 bs with|none=>d|some b=>.ref b.1))) {s with heap:=h',toks:=tk})->
  codeAny (model prog w) A (.builtin "min.loop" ⟨[.ref I,.none,.ref S],[(Str.ofString "default",d)]⟩) R s:=by
 have aA:(toString "min" ++ toString ".loop" : String) = "min.loop" := by decide
 intro k;induction k with
 |zero =>
  intro j s c hr hj hit hl ht hS hR;have bX:j=bs.length:=by omega
  subst bX;rw[zb6] at hS;refine codeAny_builtin PySem.F.entry_min_loop ?_;rw[zb8 zaj _];show wpAny _ A.in1 (seqItems? (.ref S) >>= _) _ _ s;refine wpAny_bind (wpAny_seqItems hS rfl ?_);show wpAny _ A.in1 (tryCatch (pyNext (.ref I)) _ >>= _) _ _ s;refine wpAny_bind (wpAny_tryCatch (wpAny_pyNext_list_end (A:=A.in1) hh hit hl (by simp) λ h' eb=>?_));have aH:h'.get? S=_:=eb S _ dh hS;unfold Dp at aH;cases hb:B0 bs with
  |none =>
   unfold Dp;rw[hb];show wpAny _ A.in1 (rule _ >>= _) _ _ _;refine wpAny_bind (wpAny_rule (wpAny_pure ?_));have q:=hR h' s.toks λ b o h1 h2 e=>eb b o h1 e;rw[hb] at q;exact q
  |some b =>
   rw[hb] at aH;unfold Dp;rw[hb];show wpAny _ A.in1 (updateSeq S (λ _=>#[]) >>= _) _ _ _;refine wpAny_bind ?_;refine wpAny_updateSeq aH rfl (wpAny_bind (wpAny_letGo (wpAny_pure ?_)));have q:=hR (h'.update S (zbz λ _=>#[])) s.toks λ b o h1 h2 e=>(zc8 _ _ (zao h2)).trans (eb b o h1 e);rw[hb] at q;exact q
 |succ k ih =>
  intro j s c hr hj hit hl ht hS hR;have aj:j<bs.length:=by omega
  have ej:bs.take (j+1)=bs.take j++[bs[j]]:=by rw[zb7,zJ aj];rfl
  have mj:bs[j]∈bs:=List.getElem_mem aj;refine codeAny_builtin PySem.F.entry_min_loop ?_;rw[zb8 zaj _];show wpAny _ A.in1 (seqItems? (.ref S) >>= _) _ _ s;refine wpAny_bind (wpAny_seqItems hS rfl ?_);show wpAny _ A.in1 (tryCatch (pyNext (.ref I)) _ >>= _) _ _ s;refine wpAny_bind (wpAny_tryCatch (wpAny_pyNext_list_item (A:=A.in1) hit hl (x:=.ref bs[j].1) (by simp[aj]) λ h' aX sb=>?_));have bF:zcf I s.heap h':=sb;have aH:h'.get? S=_:=(bF.2 S dh).trans hS;have bS:h'.IsList l (bs.map λ b=>zaq b.1).toArray:=hl.at λ o e=>(bF.2 l di).trans e;have cq:∀b∈bs,IsTup h' b.1 (tv b.1):=λ b hb=>by
   obtain⟨o,ho,r⟩:=ht b hb;exact⟨o,(bF.2 b.1 (ge b hb).1).trans ho,r⟩
  cases hb:B0 (bs.take j) with
  |none =>
   unfold Dp at aH ⊢;rw[hb] at aH ⊢;show wpAny _ A.in1 (updateSeq S (λ _=>#[.ref bs[j].1,.ref bs[j].1]) >>= _) _ _ _;refine wpAny_bind ?_;refine wpAny_updateSeq aH rfl ?_;rw[aA];have s1:=Heap.SameBut.update h' S (zbz λ _=>(#[.ref bs[j].1,.ref bs[j].1]:Array Value));refine wpAny_pure ⟨plainId_quiet zaj _,ih (j+1) _ (c+1) (by omega) aj (aX.at λ o e=>(s1.2 I (zao dh)).trans e) (bS.at λ o e=>(s1.2 l jy).trans e) (λ b hb=>?_) ?_ λ cr tk aY=>?_⟩
   ·obtain⟨o,ho,r⟩:=cq b hb;exact⟨o,(s1.2 b.1 (ge b hb).2).trans ho,r⟩
   ·refine (zce _ aH rfl).trans ?_;unfold Dp;rw[ej,D6,hb];rfl
   ·exact hR cr tk λ b o h1 h2 e=>aY b o h1 h2 ((s1.2 b h2).trans ((bF.2 b h1).trans e))
  |some m =>
   have mm:m∈bs:=zb9 (KR _ _ hb);unfold Dp at aH ⊢;rw[hb] at aH ⊢;show wpAny _ A.in1 (tryCatch (holding [.ref bs[j].1,.ref bs[j].1] (richCompare .Lt (.ref bs[j].1) (.ref m.1) >>= _)) _ >>= _) _ _ _;refine wpAny_bind (wpAny_tryCatch (wpAny_holding (wpAny_bind (HT.IF (cq _ mj) (cq _ mm) (hk _ mj) (hk _ mm) hu ?_))));refine wpAny_bind (wpAny_holding (wpAny_truthy_bool ?_));refine wpAny_bind (wpAny_letGo (wpAny_pure ?_));cases hc:HT.lexLt bs[j].2 m.2 with
   |true =>
    simp only[if_true];have s1:=Heap.SameBut.update h' S (zbz λ _=>(#[.ref bs[j].1,.ref bs[j].1]:Array Value));refine wpAny_bind ?_;refine wpAny_updateSeq aH rfl (wpAny_bind (wpAny_letGo ?_));rw[aA];refine wpAny_pure ⟨plainId_quiet zaj _,ih (j+1) _ c (by omega) aj (aX.at λ o e=>(s1.2 I (zao dh)).trans e) (bS.at λ o e=>(s1.2 l jy).trans e) (λ b hb=>?_) ?_ λ cr tk aY=>?_⟩
    ·obtain⟨o,ho,r⟩:=cq b hb;exact⟨o,(s1.2 b.1 (ge b hb).2).trans ho,r⟩
    ·refine (zce _ aH rfl).trans ?_;unfold Dp;rw[ej,D6,hb];simp only[hc,if_true];rfl
    ·exact hR cr tk λ b o h1 h2 e=>aY b o h1 h2 ((s1.2 b h2).trans ((bF.2 b h1).trans e))
   |false =>
    simp only[za8,if_false];refine wpAny_bind (wpAny_letGo ?_);rw[aA];refine wpAny_pure ⟨plainId_quiet zaj _,ih (j+1) _ c (by omega) aj aX bS cq ?_ λ cr tk aY=>?_⟩
    ·refine aH.trans ?_;unfold Dp;rw[ej,D6,hb];simp only[hc,za8,if_false]
    ·exact hR cr tk λ b o h1 h2 e=>aY b o h1 h2 ((bF.2 b h1).trans e)
theorem Ox {E:Value->Shared->Prop}{s:Shared}{Q:Value->Shared->Prop}(bs:List (Addr×List Int))(tv:Addr->Array Value)(l:Addr)(d:Value)(hh:A.handled=none)(hu:A.in1.units<cLine)
 (hl:s.heap.IsList l (bs.map λ b=>zaq b.1).toArray) (ht:∀b∈bs,IsTup s.heap b.1 (tv b.1)) (hk:∀b∈bs,IntsAre (tv b.1).toList b.2)
 (hQ:∀h' tk,(∀b o,s.heap.get? b=some o->h'.get? b=some o)->Q (match B0 bs with|none=>d|some b=>.ref b.1) {s with heap:=h',toks:=tk}):
 wpAny (model prog w) A (call (.builtin "min") [.ref l] [(Str.ofString "default",d)]) Q E s:=by
 have aA:(toString "min" ++ toString ".loop" : String) = "min.loop" := by decide
 obtain⟨ol,gf,_⟩:=id hl;have xy:l<s.heap.objs.size:=zT gf;refine kmk_tree PySem.F.kind_min PySem.F.plain_min PySem.F.entry_min (Ov _ _) ?_;show wpAny _ A.in1 (zbx "min" ["key","default"] 0 ⟨[],[(Str.ofString "default",d)]⟩ >>= _) _ _ s;refine wpAny_bind (wpAny_of_eq (show zbx "min" ["key","default"] 0 ⟨[],[(Str.ofString "default",d)]⟩=pure [none,some d] from rfl) ?_);refine wpAny_bind (wpAny_pure ?_);refine wpAny_bind (wpAny_pyIter_list hl ?_);refine wpAny_bind (wpAny_newList ?_ (zak _));rw[aA];have hS:(s.heap.push {cls:=.type "list_iterator",data:=.fields #[.ref l,.int 0 0]}).objs.size=s.heap.objs.size+1:=Heap.size_push ..;have old:∀b o,s.heap.get? b=some o->b≠s.heap.objs.size/\b≠(s.heap.push {cls:=.type "list_iterator",data:=.fields #[.ref l,.int 0 0]}).objs.size:=λ b o e=>⟨zX (zT e),by rw[hS];exact zX (Nat.lt_succ_of_lt (zT e))⟩;have grow:∀b o,s.heap.get? b=some o->((s.heap.push {cls:=.type "list_iterator",data:=.fields #[.ref l,.int 0 0]}).push {cls:=.type "list",data:=.seq #[]}).get? b=some o:=λ b o e=>zI _ (zI _ e);refine wpAny_pure ⟨plainId_quiet zaj _,?_⟩;refine Yh bs tv l s.heap.objs.size (s.heap.push {cls:=.type "list_iterator",data:=.fields #[.ref l,.int 0 0]}).objs.size d hh hu (by rw[hS];exact Nat.succ_ne_self _) (old l ol gf).1 (old l ol gf).2 (λ b hb=>?_) hk _ 0 _ 0 rfl (zak _) ?_ ?_ (λ b hb=>?_) ?_ ?_
 ·obtain⟨o,ho,_⟩:=ht b hb;exact old b.1 o ho
 ·exact⟨_,zI _ (zZ _ rfl),rfl,rfl⟩
 ·exact hl.at λ o e=>grow l o e
 ·obtain⟨o,ho,r⟩:=ht b hb;exact⟨o,grow b.1 o ho,r⟩
 ·exact zZ _ rfl
 ·intro h' tk gh;exact hQ h' tk λ b o e=>gh b o (old b o e).1 (old b o e).2 (grow b o e)
end
section
variable {X:Cx}{e e2:Expr}{te td:TE}{p pos kp:Pos}
noncomputable def rB (K:zy)(te td:TE):TE:=λ σ H Q=>te σ H λ x H1=>td σ H1 λ d H2=>∃(a:Addr) (bs:List (Addr×List Int)),x=.ref a/\DF K H2 a (bs.map λ b=>V.ref b.1)/\(∀b∈bs,EL K H2 b.1 (b.2.map V.int))/\Q (match B0 bs with | none=>d | some b=>.ref b.1) H2
theorem KS:∀ {bs:List (Addr×List Int)}{us:List Value},Vals (bs.map λ b=>V.ref b.1) us->us=bs.map λ b=>zaq b.1
 |[],_,.nil=>rfl
 |b::r,_,.cons h t=>by cases h;rw[KS t];rfl
theorem eJ (hc:X.calm=true)(hu:X.A.units+1<cLine)(hg:Gl X "min")(hm:X.mg "min" = none)(he:PE X e te)(hd:PE X e2 td)
 (aR:starEach [e] X.env=[(false,eval e X.env)]:=by rfl) (bD:(backToKw pos (keywordEach [⟨some "default",e2,kp⟩] X.env)).all (·.1.isSome)=true:=by rfl) (pz:(backToKw pos (keywordEach [⟨some "default",e2,kp⟩] X.env)).filterMap (·.1)=([("default" : Str)]:List Str):=by rfl)
 (qd:(backToKw pos (keywordEach [⟨some "default",e2,kp⟩] X.env)).any (·.1.isNone)=false:=by rfl) (bv:backTo pos (starEach [e] X.env)=(false,eval e X.env)::backTo pos (starEach [] X.env):=by rfl) (hpl:(backTo pos (starEach [e] X.env)).any (·.1)=false:=by rfl):
 PE X (.Call (.Name "min" p) [e] [⟨some "default",e2,kp⟩] pos) (rB X.K te td):=by
 intro pins s σ H Q I h;refine wpAny_Call_Name_kw (Ed I hg hm boot_min ?_ (by decide) (by decide));refine callWith_kw (Bc ((Bt he CO (hs:=aR)) pos pins s σ H (λ vs H1=>match vs with|[x]=>td σ H1 λ d H2=>∃(a:Addr) (bs:List (Addr×List Int)),x=.ref a/\DF X.K H2 a (bs.map λ b=>V.ref b.1)/\(∀b∈bs,EL X.K H2 b.1 (b.2.map V.int))/\Q (match B0 bs with|none=>d|some b=>.ref b.1) H2|_=>False) I h) λ us s1 ⟨vs,H1,I1,r1,q1⟩=>?_) bv hpl bD qd;obtain⟨x,rfl⟩:∃x,vs=[x]:=by
  match vs,q1 with
  |[x],_=>exact⟨x,rfl⟩
 refine Bc ((dJ hd lU) pos pins s1 σ H1 (λ zs H2=>match zs with|[d]=>∃(a:Addr) (bs:List (Addr×List Int)),x=.ref a/\DF X.K H2 a (bs.map λ b=>V.ref b.1)/\(∀b∈bs,EL X.K H2 b.1 (b.2.map V.int))/\Q (match B0 bs with|none=>d|some b=>.ref b.1) H2|_=>False) I1 q1) λ ws s2 ⟨zs,H2,I2,r2,q2⟩=>?_;obtain⟨d,rfl⟩:∃d,zs=[d]:=by
  match zs,q2 with
  |[d],_=>exact⟨d,rfl⟩
 obtain⟨a,bs,rfl,hl,hb,q⟩:=q2;obtain⟨ua,rfl,ra⟩:=r1.one;obtain⟨ud,rfl,rd⟩:=r2.one;cases ra;rw[pz];obtain⟨aa,rv,pl,hz⟩:=I2.list hl;have ei:=KS rv;subst ei;have tv:∀a:Addr,∃t:Array Value,∀b∈bs,b.1=a->IsTup s2.heap a t/\IntsAre t.toList b.2:=λ a=>by
  by_cases cu:∃b∈bs,b.1=a
  ·obtain⟨b,cu,rfl⟩:=cu;obtain⟨ts,rt,pt,_⟩:=I2.tuple (hb b cu);refine⟨ts.toArray,λ b' aG e=>⟨pt,?_⟩⟩;have q2:=hb b' aG;rw[e] at q2;have e2:=I2.Fe q2 (hb b cu);rw[<-e2] at rt;simpa using intsAre_of rt
  ·exact⟨#[],λ b aG e=>absurd ⟨b,aG,e⟩ cu⟩
 refine Ox bs (λ b=>zH (tv b)) a ud (I2.ok.hd hc) hu pl.isList (λ b aG=>(zB (tv b.1) b aG rfl).1) (λ b aG=>(zB (tv b.1) b aG rfl).2) λ h' tk hk=>?_;refine⟨match B0 bs with|none=>d|some b=>.ref b.1,H2,I2.kept (t':=tk) hk,?_,q⟩;cases B0 bs with
 |none=>exact rd
 |some b=>rfl
end
inductive D where
 |AF|bl (b:Bool)|int (i:Int)|str (x:Str)|tup (ds:List D)|lst (ds:List D)|DH (x:Str)|Bd (t:Bool) (ks vs:List D)|ins (x:Str) (ns:List Str) (ds:List D)
noncomputable def Cp:Key->D
 | .inl i=>.int i
 | .inr x=>.str x
def vD (a c:Addr)(h:Heap):Prop:=∃o,h.get? a=some o/\o.cls=.ref c/\PySem.W.notCls o=true
theorem Rd.same {H H':Hp}{a:Addr}{u:HO}(r:Rd H a u)(e:Ac H H'):Rd H' a u:=r.elim (λ h=>.inl (e _ _ h)) λ⟨o,h⟩=>.inr ⟨o,e _ _ h⟩
mutual
inductive Bu (K:zy) (H:Hp):V->D->Prop
 |AF:Bu K H .AF .AF
 |bl (b):Bu K H (.bl b) (.bl b)
 |int (i):Bu K H (.int i) (.int i)
 |str (x):Bu K H (.str x) (.str x)
 |tup {a xs ds}:H a=some (.tup xs)->Ag K H xs ds->Bu K H (.ref a) (.tup ds)
 |lst {a xs ds}:DF K H a xs->Ag K H xs ds->Bu K H (.ref a) (.lst ds)
 |Gu {a kvs ds}:Rd H a (.dK kvs)->Ag K H (kvs.map zb1) ds->Bu K H (.ref a) (.Bd false (kvs.map λ kv=>Cp kv.1) ds)
 |Hz {a kvs ds}:Rd H a (.dT kvs)->Ag K H (kvs.map zb1) ds->Bu K H (.ref a) (.Bd true (kvs.map λ kv=>.tup (kv.1.map Cp)) ds)
 |ins {a C dx fs x ds}:zE K mainGlobals x=some (some (.ref C))->H a=some (.ins C dx fs)->Ag K H (fs.map zb1) ds->Bu K H (.ref a) (.ins x (fs.map za1) ds)
 |DH {a c x}:zE K mainGlobals x=some (some (.ref c))->H a=some (.ext (vD a c))->Bu K H (.ref a) (.DH x)
inductive Ag (K:zy) (H:Hp):List V->List D->Prop
 |nil:Ag K H [] []
 |cons {x d xs ds}:Bu K H x d->Ag K H xs ds->Ag K H (x::xs) (d::ds)
end
theorem Ag.length {K:zy}{H:Hp}:∀ {xs:List V}{ds:List D},Ag K H xs ds->xs.length=ds.length
 |_,_,.nil=>rfl
 |_,_,.cons _ t=>by rw[zO,zO,Ag.length t]
theorem Ag.get {K:zy}{H:Hp}:∀ {xs:List V}{ds:List D}{i:Nat}{d:D},Ag K H xs ds->ds[i]?=some d->∃x,xs[i]?=some x/\Bu K H x d
 |_,_,_,_,.nil,e=>by simp at e
 |_,_,0,_,.cons r _,e=>by simp at e;subst e;exact⟨_,rfl,r⟩
 |_,_,i+1,d,.cons _ t,e=>by
  obtain⟨u,h1,h2⟩:=Ag.get (i:=i) (d:=d) t (by simpa using e);exact⟨u,by simpa using h1,h2⟩
theorem Ag.KU {K:zy}{H:Hp}:∀ {xs:List V}{ds:List D}{i:Nat}{x:V},Ag K H xs ds->xs[i]?=some x->∃d,ds[i]?=some d/\Bu K H x d
 |_,_,_,_,.nil,e=>by simp at e
 |_,_,0,_,.cons r _,e=>by simp at e;subst e;exact⟨_,rfl,r⟩
 |_,_,i+1,d,.cons _ t,e=>by
  obtain⟨u,h1,h2⟩:=Ag.KU (i:=i) (x:=d) t (by simpa using e);exact⟨u,by simpa using h1,h2⟩
theorem Ag.append {K:zy}{H:Hp}:∀ {xs ys:List V}{ds es:List D},Ag K H xs ds->Ag K H ys es->Ag K H (xs++ys) (ds++es)
 |_,_,_,_,.nil,h=>h
 |_,_,_,_,.cons r t,h=>.cons r (Ag.append t h)
theorem Ag.snoc {K:zy}{H:Hp}{xs:List V}{ds:List D}{x:V}{d:D}(h:Ag K H xs ds)(r:Bu K H x d):Ag K H (xs++[x]) (ds++[d]):=h.append (.cons r .nil)
theorem Ag.take {K:zy}{H:Hp}:∀ {xs:List V}{ds:List D}(n:Nat),Ag K H xs ds->Ag K H (xs.take n) (ds.take n)
 |_,_,0,_|_,_,_+1,.nil=>.nil
 |_,_,n+1,.cons r t=>.cons r (Ag.take n t)
theorem Ag.drop {K:zy}{H:Hp}:∀ {xs:List V}{ds:List D}(n:Nat),Ag K H xs ds->Ag K H (xs.drop n) (ds.drop n)
 |_,_,0,r=>r
 |_,_,_+1,.nil=>.nil
 |_,_,n+1,.cons _ t=>Ag.drop n t
theorem Ag.ints {K:zy}{H:Hp}:∀(ns:List Int),Ag K H (ns.map V.int) (ns.map D.int)
 |[]=>.nil
 |n::r=>.cons (.int n) (Ag.ints r)
theorem Ac.vE {K:zy}{H H':Hp}{a:Addr}{xs:List V}(e:Ac H H')(h:EL K H a xs):EL K H' a xs:=by
 rcases h with (h|⟨o,h⟩)|h
 ·exact .inl (.inl (e _ _ h))
 ·exact .inl (.inr ⟨o,e _ _ h⟩)
 ·exact .inr h
mutual
theorem Bu.mono {K:zy}{H H':Hp}(e:Ac H H'):∀ {v:V}{d:D},Bu K H v d->Bu K H' v d
 |_,_,.AF=>.AF
 |_,_,.bl b=>.bl b
 |_,_,.int i=>.int i
 |_,_,.str x=>.str x
 |_,_,.tup h r=>.tup (e _ _ h) (Ag.mono e r)
 |_,_,.lst h r=>.lst (e.seq h) (Ag.mono e r)
 |_,_,.Gu h r=>.Gu (h.same e) (Ag.mono e r)
 |_,_,.Hz h r=>.Hz (h.same e) (Ag.mono e r)
 |_,_,.ins n h r=>.ins n (e _ _ h) (Ag.mono e r)
 |_,_,.DH h r=>.DH h (e _ _ r)
theorem Ag.mono {K:zy}{H H':Hp}(e:Ac H H'):∀ {vs:List V}{ds:List D},Ag K H vs ds->Ag K H' vs ds
 |_,_,.nil=>.nil
 |_,_,.cons h t=>.cons (Bu.mono e h) (Ag.mono e t)
end
theorem AK {H:Hp}{p:Addr}(h:H p=none)(o:HO):Ac H (upd H p o):=λ b u q=>by rw[Ab (AH q h)];exact q
mutual
noncomputable def Ax:D->D->Bool
 | .AF,.AF=>true
 | .bl a,.bl b| .int a,.int b| .str a,.str b=>a==b
 | .bl a,.int b=>(if a then 1 else 0)==b
 | .int a,.bl b=>a==(if b then 1 else 0)
 | .tup a,.tup b| .lst a,.lst b=>Cr a b
 | .DH a,.DH b=>a==b
 | .Bd s a b,.Bd t c d=>(s==t)&&(Cr a c&&Cr b d)
 | .ins x n a,.ins y m b=>(x==y)&&((n==m)&&Cr a b)
 |_,_=>false
noncomputable def Cr:List D->List D->Bool
 |[],[]=>true
 |a::r,b::t=>Ax a b&&Cr r t
 |_,_=>false
end
mutual
theorem Jv:∀d:D,Ax d d=true
 | .AF=>by simp[Ax]
 | .bl b| .int b| .str b=>by simp[Ax]
 | .tup b| .lst b=>by simp only[Ax];exact E5 b
 | .DH b=>by simp[Ax]
 | .Bd s a b=>by simp only[Ax];rw[E5 a,E5 b];simp
 | .ins x n a=>by simp only[Ax];rw[E5 a];simp
theorem E5:∀d:List D,Cr d d=true
 |[]=>by simp[Cr]
 |a::r=>by simp only[Cr,Jv a,E5 r,Bool.and_true]
end
mutual
noncomputable def AM:D->Bool
 | .tup a| .lst a=>N8 a
 | .DH _| .Bd _ _ _| .ins _ _ _=>false
 |_=>true
noncomputable def N8:List D->Bool
 |[]=>true
 |a::r=>AM a&&N8 r
end
theorem Cb:∀ {ds:List D}{d:D},d∈ds->N8 ds=true->AM d=true
 |a::r,d,h,q=>by
  rw[N8,zad] at q;rcases zQ.mp h with z|z
  ·subst z;exact q.1
  ·exact Cb z q.2
mutual
noncomputable def IJ:D->Nat
 | .tup a| .lst a=>LY a+1
 |_=>0
noncomputable def LY:List D->Nat
 |[]=>0
 |a::r=>max (IJ a) (LY r)
end
theorem Ft:∀ {ds:List D}{d:D},d∈ds->IJ d<=LY ds
 |a::r,d,h=>by
  rw[LY];rcases zQ.mp h with z|z
  ·subst z;exact Nat.le_max_left _ _
  ·exact zat (Ft z) (Nat.le_max_right _ _)
theorem RC:∀ {a b:List D},Cr a b=true->a.length=b.length
 |[],[],_=>rfl
 |[],_::_,h|_::_,[],h=>by simp[Cr] at h
 |a::r,b::t,h=>by
  simp only[Cr,zad] at h;rw[zO,zO,RC h.2]
theorem Eg:∀(a b:List D),a.length=b.length->(zW a.length).all (λ j=>Ax (a.getD j .AF) (b.getD j .AF))=Cr a b
 |[],[],_=>by simp[Cr]
 |a::r,b::t,h=>by
  have ih:=Eg r t (by simpa using h);rw[zO,List.range_succ_eq_map,zcj,List.all_map,Cr,<-ih];simp[Function.comp_def]
 |[],_::_,h|_::_,[],h=>by cases h
theorem Mg {a b:List D}(h:a.length≠b.length):Cr a b=false:=by
 cases e:Cr a b with
 |false=>rfl
 |true=>exact absurd (RC e) h
theorem N9 (a b:List D):((zW (min a.length b.length)).all (λ j=>Ax (a.getD j .AF) (b.getD j .AF))&&(a.length==b.length))=Cr a b:=by
 by_cases h:a.length=b.length
 ·rw[<-Eg a b h,h];simp
 ·rw[Mg h,beq_false_of_ne h,Bool.and_false]
section
variable {X:Cx}{pins:List (Addr×Obj)}{σ:St}{H:Hp}{s:Shared}
theorem V0 (I:Inv X pins σ H s){a:Addr}{xs ys:List V}(h:DF X.K H a xs)(h':EL X.K H a ys):False:=by
 obtain⟨aa,_,⟨o,n,e,c,_,_⟩,_⟩:=I.list h;obtain⟨its',_,⟨o',e',c',_⟩,_⟩:=I.tuple h';rw[e] at e';cases e';rw[c] at c';revert c';decide
mutual
theorem eK (I:Inv X pins σ H s):∀ {v:V}{d d':D},AM d=true->AM d'=true->Bu X.K H v d->Bu X.K H v d'->d=d'
 |_,_,_,_,_,.AF,.AF|_,_,_,_,_,.bl _,.bl _|_,_,_,_,_,.int _,.int _|_,_,_,_,_,.str _,.str _=>rfl
 |_,_,_,n1,n2,.tup h r,.tup h' r'=>by
  have e:=I.Fe (.of h) (.of h');subst e;rw[Gv I (by rw[AM] at n1;exact n1) (by rw[AM] at n2;exact n2) r r']
 |_,_,_,n1,n2,.lst h r,.lst h' r'=>by
  have e:=I.Jo h h';subst e;rw[Gv I (by rw[AM] at n1;exact n1) (by rw[AM] at n2;exact n2) r r']
 |_,_,_,_,_,.tup h _,.lst h' _=>(V0 I h' (.of h)).elim
 |_,_,_,_,_,.lst h _,.tup h' _=>(V0 I h (.of h')).elim
 |_,_,_,n1,_,.DH _ _,_|_,_,_,n1,_,.Gu _ _,_|_,_,_,n1,_,.Hz _ _,_|_,_,_,n1,_,.ins _ _ _,_=>by rw[AM] at n1;cases n1
 |_,_,_,_,n2,_,.DH _ _|_,_,_,_,n2,_,.Gu _ _|_,_,_,_,n2,_,.Hz _ _|_,_,_,_,n2,_,.ins _ _ _=>by rw[AM] at n2;cases n2
theorem Gv (I:Inv X pins σ H s):∀ {v:List V}{d d':List D},N8 d=true->N8 d'=true->Ag X.K H v d->Ag X.K H v d'->d=d'
 |_,_,_,_,_,.nil,.nil=>rfl
 |_,_,_,n1,n2,.cons h r,.cons h' r'=>by
  rw[N8,zad] at n1 n2;rw[eK I n1.1 n2.1 h h',Gv I n1.2 n2.2 r r']
end
theorem Xv {xs:List V}{aa:List Value}(r:Vals xs aa)(j:Nat)(h:j<aa.toArray.size):∃x,xs[j]?=some x/\RelV x aa.toArray[j]:=by
 have h':j<aa.length:=by simpa using h
 have hx:j<xs.length:=by rw[r.length];exact h'
 obtain⟨u,hu,ru⟩:=r.get (zJ hx);rw[zJ h'] at hu;refine⟨xs[j],zJ hx,?_⟩;have e:aa.toArray[j]=u:=by simpa using hu
 rw[e];exact ru
theorem Cv {ds:List D}{j:Nat}{d:D}(h:ds[j]?=some d):ds.getD j .AF=d:=by rw[za4,h];rfl
theorem Qe (I:Inv X pins σ H s):∀(n:Nat) (A:Around) (d e:D) (v w:V) (u1 u2:Value),IJ d<=n->AM d=true->AM e=true->A.units+n<cLine->Bu X.K H v d->Bu X.K H w e->RelV v u1->RelV w u2->SeqAt.EqAt A s u1 u2 (Ax d e):=by
 intro n;induction n with
 |zero =>
  intro A d e v w u1 u2 hd ax ah hu h1 h2 r1 r2;have al:A.units<cLine:=by omega
  cases h1 with
  |DH _ _|Gu _ _|Hz _ _|ins _ _ _=>simp[AM] at ax
  |AF =>
   cases r1;cases h2 with
   |DH _ _|Gu _ _|Hz _ _|ins _ _ _=>simp[AM] at ah
   |AF=>cases r2;simp only[Ax];exact .same _
   |bl b=>cases r2;simp only[Ax];exact .none_bool _
   |int b=>obtain⟨t,rfl⟩:=r2;simp only[Ax];exact .none_int _ _
   |str b=>obtain⟨t,rfl⟩:=r2;simp only[Ax];exact .none_str _ _
   |tup h r=>cases r2;simp only[Ax];obtain⟨_,_,p,_⟩:=I.tuple (.of h);exact .none_tuple p al
   |lst h r=>cases r2;simp only[Ax];obtain⟨_,_,p,_⟩:=I.list h;exact .none_list p.isList al
  |bl a =>
   cases r1;cases h2 with
   |DH _ _|Gu _ _|Hz _ _|ins _ _ _=>simp[AM] at ah
   |AF=>cases r2;simp only[Ax];exact .bool_none _
   |bl b=>cases r2;simp only[Ax];exact .bool_bool _ _
   |int b=>obtain⟨t,rfl⟩:=r2;simp only[Ax];exact .bool_int _ _ _
   |str b=>obtain⟨t,rfl⟩:=r2;simp only[Ax];exact .bool_str _ _ _
   |tup h r=>cases r2;simp only[Ax];obtain⟨_,_,p,_⟩:=I.tuple (.of h);exact .bool_tuple _ p al
   |lst h r=>cases r2;simp only[Ax];obtain⟨_,_,p,_⟩:=I.list h;exact .bool_list _ p.isList al
  |int a =>
   obtain⟨t',rfl⟩:=r1;cases h2 with
   |DH _ _|Gu _ _|Hz _ _|ins _ _ _=>simp[AM] at ah
   |AF=>cases r2;simp only[Ax];exact .int_none _ _
   |bl b=>cases r2;simp only[Ax];exact .int_bool _ _ _
   |int b=>obtain⟨t,rfl⟩:=r2;simp only[Ax];exact .int_int _ _ _ _
   |str b=>obtain⟨t,rfl⟩:=r2;simp only[Ax];exact .int_str _ _ _ _
   |tup h r=>cases r2;simp only[Ax];obtain⟨_,_,p,_⟩:=I.tuple (.of h);exact .int_tuple _ _ p al
   |lst h r=>cases r2;simp only[Ax];obtain⟨_,_,p,_⟩:=I.list h;exact .int_list _ _ p.isList al
  |str a =>
   obtain⟨t',rfl⟩:=r1;cases h2 with
   |DH _ _|Gu _ _|Hz _ _|ins _ _ _=>simp[AM] at ah
   |AF=>cases r2;simp only[Ax];exact .str_none _ _
   |bl b=>cases r2;simp only[Ax];exact .str_bool _ _ _
   |int b=>obtain⟨t,rfl⟩:=r2;simp only[Ax];exact .str_int _ _ _ _
   |str b=>obtain⟨t,rfl⟩:=r2;simp only[Ax];exact .str_str _ _ _ _
   |tup h r=>cases r2;simp only[Ax];obtain⟨_,_,p,_⟩:=I.tuple (.of h);exact .str_tuple _ _ p al
   |lst h r=>cases r2;simp only[Ax];obtain⟨_,_,p,_⟩:=I.list h;exact .str_list _ _ p.isList al
  |tup h r|lst h r=>rw[IJ] at hd;omega
 |succ n ih =>
  intro A d e v w u1 u2 hd ax ah hu h1 h2 r1 r2;have al:A.units<cLine:=by omega
  have wj:A.in1.units+n<cLine:=by show A.units+1+n<cLine;omega
  by_cases gi:IJ d<=n
  ·exact ih A d e v w u1 u2 gi ax ah (by omega) h1 h2 r1 r2
  cases h1 with
  |DH _ _|Gu _ _|Hz _ _|ins _ _ _=>simp[AM] at ax
  |AF|bl _|int _|str _=>exact absurd (by simp[IJ]) gi
  | @tup a xs ds h r =>
   cases r1;obtain⟨aa,rv,p,_⟩:=I.tuple (.of h);cases h2 with
   |DH _ _|Gu _ _|Hz _ _|ins _ _ _=>simp[AM] at ah
   |AF=>cases r2;simp only[Ax];exact .tuple_none p al
   |bl b=>cases r2;simp only[Ax];exact .tuple_bool _ p al
   |int b=>obtain⟨t,rfl⟩:=r2;simp only[Ax];exact .tuple_int _ _ p al
   |str b=>obtain⟨t,rfl⟩:=r2;simp only[Ax];exact .tuple_str _ _ p al
   | @lst a2 cv es h' r'=>cases r2;simp only[Ax];obtain⟨_,_,p',_⟩:=I.list h';exact .tuple_list p p'.isList al
   | @tup a2 cv es h' r' =>
    cases r2;by_cases ha:a=a2
    ·subst ha;have e':=I.Fe (.of h) (.of h');subst e';have e2:=Gv I (by rw[AM] at ax;exact ax) (by rw[AM] at ah;exact ah) r r';subst e2;rw[Jv];exact .same _
    ·obtain⟨its',bj,p',_⟩:=I.tuple (.of h');refine .of_refs ha ?_;have q:=SeqAt.RcAt.tuples (A:=A) (e:=λ j=>Ax (ds.getD j .AF) (es.getD j .AF)) p p' al λ j h1 h2=>?_
     ·have z1:aa.toArray.size=ds.length:=by rw[zL,<-rv.length,r.length]
      have z2:its'.toArray.size=es.length:=by rw[zL,<-bj.length,r'.length]
      rw[z1,z2,N9] at q;simp only[Ax];exact q
     ·obtain⟨x,hx,rx⟩:=Xv rv j h1;obtain⟨y,hy,ry⟩:=Xv bj j h2;obtain⟨dx,ex,cz⟩:=r.KU hx;obtain⟨dy,ey,c4⟩:=r'.KU hy;rw[Cv ex,Cv ey];refine ih A.in1 dx dy x y _ _ ?_ (Cb (zM ex) (by rw[AM] at ax;exact ax)) (Cb (zM ey) (by rw[AM] at ah;exact ah)) wj cz c4 rx ry;rw[IJ] at hd;have:=Ft (zM ex);omega
  | @lst a xs ds h r =>
   cases r1;obtain⟨aa,rv,p,_⟩:=I.list h;cases h2 with
   |DH _ _|Gu _ _|Hz _ _|ins _ _ _=>simp[AM] at ah
   |AF=>cases r2;simp only[Ax];exact .list_none p.isList al
   |bl b=>cases r2;simp only[Ax];exact .list_bool _ p.isList al
   |int b=>obtain⟨t,rfl⟩:=r2;simp only[Ax];exact .list_int _ _ p.isList al
   |str b=>obtain⟨t,rfl⟩:=r2;simp only[Ax];exact .list_str _ _ p.isList al
   | @tup a2 cv es h' r'=>cases r2;simp only[Ax];obtain⟨_,_,p',_⟩:=I.tuple (.of h');exact .list_tuple p.isList p' al
   | @lst a2 cv es h' r' =>
    cases r2;by_cases ha:a=a2
    ·subst ha;have e':=I.Jo h h';subst e';have e2:=Gv I (by rw[AM] at ax;exact ax) (by rw[AM] at ah;exact ah) r r';subst e2;rw[Jv];exact .same _
    ·obtain⟨its',bj,p',_⟩:=I.list h';refine .of_refs ha ?_;have z1:aa.toArray.size=ds.length:=by rw[zL,<-rv.length,r.length]
     have z2:its'.toArray.size=es.length:=by rw[zL,<-bj.length,r'.length]
     by_cases hz:aa.toArray.size=its'.toArray.size
     ·have q:=SeqAt.RcAt.lists (A:=A) (e:=λ j=>Ax (ds.getD j .AF) (es.getD j .AF)) p.isList p'.isList hz al λ j h1 h2=>?_
      ·rw[z1,Eg ds es (by rw[<-z1,<-z2,hz])] at q;simp only[Ax];exact q
      ·obtain⟨x,hx,rx⟩:=Xv rv j h1;obtain⟨y,hy,ry⟩:=Xv bj j h2;obtain⟨dx,ex,cz⟩:=r.KU hx;obtain⟨dy,ey,c4⟩:=r'.KU hy;rw[Cv ex,Cv ey];refine ih A.in1 dx dy x y _ _ ?_ (Cb (zM ex) (by rw[AM] at ax;exact ax)) (Cb (zM ey) (by rw[AM] at ah;exact ah)) wj cz c4 rx ry;rw[IJ] at hd;have:=Ft (zM ex);omega
     ·have q:=SeqAt.RcAt.lists_lengths (A:=A) p.isList p'.isList (by simpa using hz) al;simp only[Ax];rw[Mg (by rw[<-z1,<-z2];exact hz)];exact q
theorem vF (I:Inv X pins σ H s)(A:Around)(d e:D)(v w:V)(u1 u2:Value)(hd:A.units+IJ d<cLine)(ax:AM d=true)(ah:AM e=true)(h1:Bu X.K H v d)(h2:Bu X.K H w e)(r1:RelV v u1)(r2:RelV w u2):SeqAt.RcAt A s u1 u2 (Ax d e):=by
 have al:A.units<cLine:=by omega
 cases h1 with
 |DH _ _|Gu _ _|Hz _ _|ins _ _ _=>simp[AM] at ax
 |AF =>
  cases r1;cases h2 with
  |DH _ _|Gu _ _|Hz _ _|ins _ _ _=>simp[AM] at ah
  |AF=>cases r2;simp only[Ax];exact .none_none
  |bl b=>cases r2;simp only[Ax];exact .none_bool _
  |int b=>obtain⟨t,rfl⟩:=r2;simp only[Ax];exact .none_int _ _
  |str b=>obtain⟨t,rfl⟩:=r2;simp only[Ax];exact .none_str _ _
  |tup h r=>cases r2;simp only[Ax];obtain⟨_,_,p,_⟩:=I.tuple (.of h);exact .none_tuple  p al
  |lst h r=>cases r2;simp only[Ax];obtain⟨_,_,p,_⟩:=I.list h;exact .none_list  p.isList al
 |bl a =>
  cases r1;cases h2 with
  |DH _ _|Gu _ _|Hz _ _|ins _ _ _=>simp[AM] at ah
  |AF=>cases r2;simp only[Ax];exact .bool_none _
  |bl b=>cases r2;simp only[Ax];exact .bool_bool _ _
  |int b=>obtain⟨t,rfl⟩:=r2;simp only[Ax];exact .bool_int _ _ _
  |str b=>obtain⟨t,rfl⟩:=r2;simp only[Ax];exact .bool_str _ _ _
  |tup h r=>cases r2;simp only[Ax];obtain⟨_,_,p,_⟩:=I.tuple (.of h);exact .bool_tuple _ p al
  |lst h r=>cases r2;simp only[Ax];obtain⟨_,_,p,_⟩:=I.list h;exact .bool_list _ p.isList al
 |int a =>
  obtain⟨t',rfl⟩:=r1;cases h2 with
  |DH _ _|Gu _ _|Hz _ _|ins _ _ _=>simp[AM] at ah
  |AF=>cases r2;simp only[Ax];exact .int_none _ _
  |bl b=>cases r2;simp only[Ax];exact .int_bool _ _ _
  |int b=>obtain⟨t,rfl⟩:=r2;simp only[Ax];exact .int_int _ _ _ _
  |str b=>obtain⟨t,rfl⟩:=r2;simp only[Ax];exact .int_str _ _ _ _
  |tup h r=>cases r2;simp only[Ax];obtain⟨_,_,p,_⟩:=I.tuple (.of h);exact .int_tuple _ _ p al
  |lst h r=>cases r2;simp only[Ax];obtain⟨_,_,p,_⟩:=I.list h;exact .int_list _ _ p.isList al
 |str a =>
  obtain⟨t',rfl⟩:=r1;cases h2 with
  |DH _ _|Gu _ _|Hz _ _|ins _ _ _=>simp[AM] at ah
  |AF=>cases r2;simp only[Ax];exact .str_none _ _
  |bl b=>cases r2;simp only[Ax];exact .str_bool _ _ _
  |int b=>obtain⟨t,rfl⟩:=r2;simp only[Ax];exact .str_int _ _ _ _
  |str b=>obtain⟨t,rfl⟩:=r2;simp only[Ax];exact .str_str _ _ _ _
  |tup h r=>cases r2;simp only[Ax];obtain⟨_,_,p,_⟩:=I.tuple (.of h);exact .str_tuple _ _ p al
  |lst h r=>cases r2;simp only[Ax];obtain⟨_,_,p,_⟩:=I.list h;exact .str_list _ _ p.isList al
 | @tup a xs ds h r =>
  cases r1;obtain⟨aa,rv,p,_⟩:=I.tuple (.of h);cases h2 with
  |DH _ _|Gu _ _|Hz _ _|ins _ _ _=>simp[AM] at ah
  |AF=>cases r2;simp only[Ax];exact .tuple_none  p al
  |bl b=>cases r2;simp only[Ax];exact .tuple_bool _ p al
  |int b=>obtain⟨t,rfl⟩:=r2;simp only[Ax];exact .tuple_int _ _ p al
  |str b=>obtain⟨t,rfl⟩:=r2;simp only[Ax];exact .tuple_str _ _ p al
  | @lst a2 cv es h' r'=>cases r2;simp only[Ax];obtain⟨_,_,p',_⟩:=I.list h';exact .tuple_list p p'.isList al
  | @tup a2 cv es h' r' =>
   cases r2;obtain⟨its',bj,p',_⟩:=I.tuple (.of h');have z1:aa.toArray.size=ds.length:=by rw[zL,<-rv.length,r.length]
   have z2:its'.toArray.size=es.length:=by rw[zL,<-bj.length,r'.length]
   have q:=SeqAt.RcAt.tuples (A:=A) (e:=λ j=>Ax (ds.getD j .AF) (es.getD j .AF)) p p' al λ j h1 h2=>?_
   ·rw[z1,z2,N9] at q;simp only[Ax];exact q
   ·obtain⟨x,hx,rx⟩:=Xv rv j h1;obtain⟨y,hy,ry⟩:=Xv bj j h2;obtain⟨dx,ex,cz⟩:=r.KU hx;obtain⟨dy,ey,c4⟩:=r'.KU hy;rw[Cv ex,Cv ey];rw[IJ] at hd;have:=Ft (zM ex);exact Qe I (LY ds) A.in1 dx dy x y _ _ this (Cb (zM ex) (by rw[AM] at ax;exact ax)) (Cb (zM ey) (by rw[AM] at ah;exact ah)) (by show A.units+1+_<cLine;omega) cz c4 rx ry
 | @lst a xs ds h r =>
  cases r1;obtain⟨aa,rv,p,_⟩:=I.list h;cases h2 with
  |DH _ _|Gu _ _|Hz _ _|ins _ _ _=>simp[AM] at ah
  |AF=>cases r2;simp only[Ax];exact .list_none  p.isList al
  |bl b=>cases r2;simp only[Ax];exact .list_bool _ p.isList al
  |int b=>obtain⟨t,rfl⟩:=r2;simp only[Ax];exact .list_int _ _ p.isList al
  |str b=>obtain⟨t,rfl⟩:=r2;simp only[Ax];exact .list_str _ _ p.isList al
  | @tup a2 cv es h' r'=>cases r2;simp only[Ax];obtain⟨_,_,p',_⟩:=I.tuple (.of h');exact .list_tuple p.isList p' al
  | @lst a2 cv es h' r' =>
   cases r2;obtain⟨its',bj,p',_⟩:=I.list h';have z1:aa.toArray.size=ds.length:=by rw[zL,<-rv.length,r.length]
   have z2:its'.toArray.size=es.length:=by rw[zL,<-bj.length,r'.length]
   by_cases hz:aa.toArray.size=its'.toArray.size
   ·have q:=SeqAt.RcAt.lists (A:=A) (e:=λ j=>Ax (ds.getD j .AF) (es.getD j .AF)) p.isList p'.isList hz al λ j h1 h2=>?_
    ·rw[z1,Eg ds es (by rw[<-z1,<-z2,hz])] at q;simp only[Ax];exact q
    ·obtain⟨x,hx,rx⟩:=Xv rv j h1;obtain⟨y,hy,ry⟩:=Xv bj j h2;obtain⟨dx,ex,cz⟩:=r.KU hx;obtain⟨dy,ey,c4⟩:=r'.KU hy;rw[Cv ex,Cv ey];rw[IJ] at hd;have:=Ft (zM ex);exact Qe I (LY ds) A.in1 dx dy x y _ _ this (Cb (zM ex) (by rw[AM] at ax;exact ax)) (Cb (zM ey) (by rw[AM] at ah;exact ah)) (by show A.units+1+_<cLine;omega) cz c4 rx ry
   ·have q:=SeqAt.RcAt.lists_lengths (A:=A) p.isList p'.isList (by simpa using hz) al;simp only[Ax];rw[Mg (by rw[<-z1,<-z2];exact hz)];exact q
theorem rC (I:Inv X pins σ H s)(A:Around)(d e:D)(v w:V)(u1 u2:Value)(hd:A.units+IJ d<cLine)(ax:AM d=true)(ah:AM e=true)(h1:Bu X.K H v d)(h2:Bu X.K H w e)(r1:RelV v u1)(r2:RelV w u2):SeqAt.RcNeAt A s u1 u2 (!Ax d e):=by
 have al:A.units<cLine:=by omega
 cases h1 with
 |DH _ _|Gu _ _|Hz _ _|ins _ _ _=>simp[AM] at ax
 |AF =>
  cases r1;cases h2 with
  |DH _ _|Gu _ _|Hz _ _|ins _ _ _=>simp[AM] at ah
  |AF=>cases r2;simp only[Ax];exact .none_none
  |bl b=>cases r2;simp only[Ax];exact .none_bool _
  |int b=>obtain⟨t,rfl⟩:=r2;simp only[Ax];exact .none_int _ _
  |str b=>obtain⟨t,rfl⟩:=r2;simp only[Ax];exact .none_str _ _
  |tup h r=>cases r2;simp only[Ax];obtain⟨_,_,p,_⟩:=I.tuple (.of h);exact .none_tuple  p al
  |lst h r=>cases r2;simp only[Ax];obtain⟨_,_,p,_⟩:=I.list h;exact .none_list  p.isList al
 |bl a =>
  cases r1;cases h2 with
  |DH _ _|Gu _ _|Hz _ _|ins _ _ _=>simp[AM] at ah
  |AF=>cases r2;simp only[Ax];exact .bool_none _
  |bl b=>cases r2;simp only[Ax];exact .bool_bool _ _
  |int b=>obtain⟨t,rfl⟩:=r2;simp only[Ax];exact .bool_int _ _ _
  |str b=>obtain⟨t,rfl⟩:=r2;simp only[Ax];exact .bool_str _ _ _
  |tup h r=>cases r2;simp only[Ax];obtain⟨_,_,p,_⟩:=I.tuple (.of h);exact .bool_tuple _ p al
  |lst h r=>cases r2;simp only[Ax];obtain⟨_,_,p,_⟩:=I.list h;exact .bool_list _ p.isList al
 |int a =>
  obtain⟨t',rfl⟩:=r1;cases h2 with
  |DH _ _|Gu _ _|Hz _ _|ins _ _ _=>simp[AM] at ah
  |AF=>cases r2;simp only[Ax];exact .int_none _ _
  |bl b=>cases r2;simp only[Ax];exact .int_bool _ _ _
  |int b=>obtain⟨t,rfl⟩:=r2;simp only[Ax];exact .int_int _ _ _ _
  |str b=>obtain⟨t,rfl⟩:=r2;simp only[Ax];exact .int_str _ _ _ _
  |tup h r=>cases r2;simp only[Ax];obtain⟨_,_,p,_⟩:=I.tuple (.of h);exact .int_tuple _ _ p al
  |lst h r=>cases r2;simp only[Ax];obtain⟨_,_,p,_⟩:=I.list h;exact .int_list _ _ p.isList al
 |str a =>
  obtain⟨t',rfl⟩:=r1;cases h2 with
  |DH _ _|Gu _ _|Hz _ _|ins _ _ _=>simp[AM] at ah
  |AF=>cases r2;simp only[Ax];exact .str_none _ _
  |bl b=>cases r2;simp only[Ax];exact .str_bool _ _ _
  |int b=>obtain⟨t,rfl⟩:=r2;simp only[Ax];exact .str_int _ _ _ _
  |str b=>obtain⟨t,rfl⟩:=r2;simp only[Ax];exact .str_str _ _ _ _
  |tup h r=>cases r2;simp only[Ax];obtain⟨_,_,p,_⟩:=I.tuple (.of h);exact .str_tuple _ _ p al
  |lst h r=>cases r2;simp only[Ax];obtain⟨_,_,p,_⟩:=I.list h;exact .str_list _ _ p.isList al
 | @tup a xs ds h r =>
  cases r1;obtain⟨aa,rv,p,_⟩:=I.tuple (.of h);cases h2 with
  |DH _ _|Gu _ _|Hz _ _|ins _ _ _=>simp[AM] at ah
  |AF=>cases r2;simp only[Ax];exact .tuple_none  p al
  |bl b=>cases r2;simp only[Ax];exact .tuple_bool _ p al
  |int b=>obtain⟨t,rfl⟩:=r2;simp only[Ax];exact .tuple_int _ _ p al
  |str b=>obtain⟨t,rfl⟩:=r2;simp only[Ax];exact .tuple_str _ _ p al
  | @lst a2 cv es h' r'=>cases r2;simp only[Ax];obtain⟨_,_,p',_⟩:=I.list h';exact .tuple_list p p'.isList al
  | @tup a2 cv es h' r' =>
   cases r2;obtain⟨its',bj,p',_⟩:=I.tuple (.of h');have z1:aa.toArray.size=ds.length:=by rw[zL,<-rv.length,r.length]
   have z2:its'.toArray.size=es.length:=by rw[zL,<-bj.length,r'.length]
   have q:=SeqAt.RcNeAt.tuples (A:=A) (e:=λ j=>Ax (ds.getD j .AF) (es.getD j .AF)) p p' al λ j h1 h2=>?_
   ·rw[z1,z2,N9] at q;simp only[Ax];exact q
   ·obtain⟨x,hx,rx⟩:=Xv rv j h1;obtain⟨y,hy,ry⟩:=Xv bj j h2;obtain⟨dx,ex,cz⟩:=r.KU hx;obtain⟨dy,ey,c4⟩:=r'.KU hy;rw[Cv ex,Cv ey];rw[IJ] at hd;have:=Ft (zM ex);exact Qe I (LY ds) A.in1 dx dy x y _ _ this (Cb (zM ex) (by rw[AM] at ax;exact ax)) (Cb (zM ey) (by rw[AM] at ah;exact ah)) (by show A.units+1+_<cLine;omega) cz c4 rx ry
 | @lst a xs ds h r =>
  cases r1;obtain⟨aa,rv,p,_⟩:=I.list h;cases h2 with
  |DH _ _|Gu _ _|Hz _ _|ins _ _ _=>simp[AM] at ah
  |AF=>cases r2;simp only[Ax];exact .list_none  p.isList al
  |bl b=>cases r2;simp only[Ax];exact .list_bool _ p.isList al
  |int b=>obtain⟨t,rfl⟩:=r2;simp only[Ax];exact .list_int _ _ p.isList al
  |str b=>obtain⟨t,rfl⟩:=r2;simp only[Ax];exact .list_str _ _ p.isList al
  | @tup a2 cv es h' r'=>cases r2;simp only[Ax];obtain⟨_,_,p',_⟩:=I.tuple (.of h');exact .list_tuple p.isList p' al
  | @lst a2 cv es h' r' =>
   cases r2;obtain⟨its',bj,p',_⟩:=I.list h';have z1:aa.toArray.size=ds.length:=by rw[zL,<-rv.length,r.length]
   have z2:its'.toArray.size=es.length:=by rw[zL,<-bj.length,r'.length]
   by_cases hz:aa.toArray.size=its'.toArray.size
   ·have q:=SeqAt.RcNeAt.lists (A:=A) (e:=λ j=>Ax (ds.getD j .AF) (es.getD j .AF)) p.isList p'.isList hz al λ j h1 h2=>?_
    ·rw[z1,Eg ds es (by rw[<-z1,<-z2,hz])] at q;simp only[Ax];exact q
    ·obtain⟨x,hx,rx⟩:=Xv rv j h1;obtain⟨y,hy,ry⟩:=Xv bj j h2;obtain⟨dx,ex,cz⟩:=r.KU hx;obtain⟨dy,ey,c4⟩:=r'.KU hy;rw[Cv ex,Cv ey];rw[IJ] at hd;have:=Ft (zM ex);exact Qe I (LY ds) A.in1 dx dy x y _ _ this (Cb (zM ex) (by rw[AM] at ax;exact ax)) (Cb (zM ey) (by rw[AM] at ah;exact ah)) (by show A.units+1+_<cLine;omega) cz c4 rx ry
   ·have q:=SeqAt.RcNeAt.lists_lengths (A:=A) p.isList p'.isList (by simpa using hz) al;simp only[Ax];rw[Mg (by rw[<-z1,<-z2];exact hz)];exact q
noncomputable def eL (K:zy)(A:Around)(neg:Bool):R2:=λ x y H Q=>∃d e,Bu K H x d/\Bu K H y e/\A.units+IJ d<cLine/\AM d=true/\AM e=true/\Q (.bl (if neg=true then !Ax d e else Ax d e)) H
theorem Yi:Gp X (compareOp .Eq) (eL X.K X.A false):=by
 intro pins s σ H x y v u Q I rx ry h;obtain⟨d,e,hd,he,hu,n1,n2,q⟩:=h;exact vF I X.A d e x y v u hu n1 n2 hd he rx ry X.prog X.w X.xe _ ⟨.bl _,H,I,rfl,q⟩
theorem mJ:Gp X (compareOp .NotEq) (eL X.K X.A true):=by
 intro pins s σ H x y v u Q I rx ry h;obtain⟨d,e,hd,he,hu,n1,n2,q⟩:=h;exact rC I X.A d e x y v u hu n1 n2 hd he rx ry X.prog X.w X.xe _ ⟨.bl _,H,I,rfl,q⟩
end
inductive OT where
 |sh (d:D)|lst (ts:List OT)|tup (ts:List OT)|Bd (t:Bool) (ks:List D) (ts:List OT)|ins (x:Str) (ns:List Str) (ts:List OT)
inductive Ow where
 |rows (BF:List (List D))
 |LZ (p:Nat) (ds:List D)
 |tree (p:Option Nat) (t:OT)
inductive Cl where
 |val (d:D)|own (ds:List D)|ow (o:Ow)
noncomputable abbrev Aa:=List (Option Cl)
inductive M (α:Type) where
 |ok (a:α)|ex (c:Str)|bad
noncomputable def M.bind {α β:Type}(m:M α)(k:α->M β):M β:=match m with
 | .ok a=>k a
 | .ex c=>.ex c
 | .bad=>.bad
@[simp] theorem M.A7 {α β:Type}(a:α) (k:α->M β):(M.ok a).bind k=k a:=rfl
noncomputable def del (H:Hp)(P:Addr->Prop):Hp:=λ a=>open Classical in if P a then none else H a
theorem Az {H:Hp}{P:Addr->Prop}{a:Addr}(h:¬ P a):del H P a=H a:=by unfold del;rw[if_neg h]
theorem Eh {H:Hp}{P:Addr->Prop}{a:Addr}(h:P a):del H P a=none:=by unfold del;rw[if_pos h]
theorem Am {H:Hp}{P:Addr->Prop}{a:Addr}{o:HO}(h:del H P a=some o):¬ P a/\H a=some o:=by
 by_cases hp:P a
 ·rw[Eh hp] at h;cases h
 ·rw[Az hp] at h;exact⟨hp,h⟩
theorem Rd.Bg {H:Hp}{P:Addr->Prop}{a:Addr}{u:HO}(r:Rd (del H P) a u):Rd H a u:=r.elim (λ h=>.inl (Am h).2) λ⟨o,h⟩=>.inr ⟨o,(Am h).2⟩
theorem Ac.del {H H':Hp}{P:Addr->Prop}(e:Ac H H'):Ac (del H P) (del H' P):=λ b o h=>by
 obtain⟨h1,h2⟩:=Am h;rw[Az h1];exact e b o h2
theorem CP {H:Hp}{P P':Addr->Prop}(h:∀a,P' a->P a):Ac (L2.del H P) (L2.del H P'):=λ b o e=>by
 obtain⟨h1,h2⟩:=Am e;rw[Az λ z=>h1 (h b z)];exact h2
theorem Ei {H:Hp}{P:Addr->Prop}:Ac (L2.del H P) H:=λ b o e=>(Am e).2
def E6 (H:Hp)(a:Addr):Prop:=∃o,H a=some o/\∀xs,o≠.tup xs/\∀z,o≠.Fp z (.tup xs)
theorem E6.same {H H':Hp}{a:Addr}(h:E6 H a)(e:Ac H H'):E6 H' a:=let ⟨o,q,r⟩:=h;⟨o,e a o q,r⟩
theorem E6.no {H:Hp}{a:Addr}(h:E6 H a)(e:H a=none):False:=by
 obtain⟨o,q,r⟩:=h;rw[e] at q;cases q
theorem E6.lst {H:Hp}{a:Addr}{xs:List V}(h:H a=some (.lst xs)):E6 H a:=⟨_,h,λ _=>⟨λ z=>(by cases z),λ _ z=>by cases z⟩⟩
mutual
inductive BQ (K:zy) (H:Hp) (P:Addr->Prop):V->OT->List Addr->Prop
 |sh {v d}:Bu K (del H P) v d->BQ K H P v (.sh d) []
 |lst {p xs ts fp}:H p=some (.lst xs)->Aw K H P xs ts fp->BQ K H P (.ref p) (.lst ts) (p::fp)
 |tup {p xs ts fp}:del H P p=some (.tup xs)->Aw K H P xs ts fp->BQ K H P (.ref p) (.tup ts) fp
 |dK {p kvs ts fp}:H p=some (.dK kvs)->Aw K H P (kvs.map zb1) ts fp->BQ K H P (.ref p) (.Bd false (kvs.map λ kv=>Cp kv.1) ts) (p::fp)
 |dT {p kvs ts fp}:H p=some (.dT kvs)->Aw K H P (kvs.map zb1) ts fp->BQ K H P (.ref p) (.Bd true (kvs.map λ kv=>.tup (kv.1.map Cp)) ts) (p::fp)
 |ins {p C dx fs ts fp x}:zE K mainGlobals x=some (some (.ref C))->H p=some (.ins C dx fs)->Aw K H P (fs.map zb1) ts fp->BQ K H P (.ref p) (.ins x (fs.map za1) ts) (p::fp)
inductive Aw (K:zy) (H:Hp) (P:Addr->Prop):List V->List OT->List Addr->Prop
 |nil:Aw K H P [] [] []
 |cons {v t fp vs ts fq}:BQ K H P v t fp->Aw K H P vs ts fq->Aw K H P (v::vs) (t::ts) (fp++fq)
end
mutual
noncomputable def er:OT->D
 | .sh d=>d
 | .lst ts=>.lst (RD ts)
 | .tup ts=>.tup (RD ts)
 | .Bd t ks ts=>.Bd t ks (RD ts)
 | .ins x ns ts=>.ins x ns (RD ts)
noncomputable def RD:List OT->List D
 |[]=>[]
 |t::r=>er t::RD r
end
theorem V1:∀ts:List OT,RD ts=ts.map er
 |[]=>rfl
 |t::r=>by rw[RD,V1 r,zG]
mutual
theorem BQ.move {K:zy}{H H':Hp}{P P':Addr->Prop}(sm:Ac (del H P) (del H' P')):∀ {v:V}{t:OT}{fp:List Addr},(∀a∈fp,H' a=H a)->BQ K H P v t fp->BQ K H' P' v t fp
 |_,_,_,_,.sh h=>.sh (h.mono sm)
 |_,_,_,k,.lst h r=>.lst ((k _ zD).trans h) (Aw.move sm (λ a ha=>k a (zF _ ha)) r)
 |_,_,_,k,.tup h r=>.tup (sm _ _ h) (Aw.move sm k r)
 |_,_,_,k,.dK h r=>.dK ((k _ zD).trans h) (Aw.move sm (λ a ha=>k a (zF _ ha)) r)
 |_,_,_,k,.dT h r=>.dT ((k _ zD).trans h) (Aw.move sm (λ a ha=>k a (zF _ ha)) r)
 |_,_,_,k,.ins n h r=>.ins n ((k _ zD).trans h) (Aw.move sm (λ a ha=>k a (zF _ ha)) r)
theorem Aw.move {K:zy}{H H':Hp}{P P':Addr->Prop}(sm:Ac (del H P) (del H' P')):∀ {v:List V}{t:List OT}{fp:List Addr},(∀a∈fp,H' a=H a)->Aw K H P v t fp->Aw K H' P' v t fp
 |_,_,_,_,.nil=>.nil
 |_,_,_,k,.cons h r=>.cons (BQ.move sm (λ a ha=>k a (zae _ ha)) h) (Aw.move sm (λ a ha=>k a (zN _ ha)) r)
end
mutual
theorem BQ.C3 {K:zy}{H:Hp}{P:Addr->Prop}:∀ {v:V}{t:OT}{fp:List Addr},BQ K H P v t fp->∀a∈fp,E6 H a
 |_,_,_,.sh h,a,ha=>by cases ha
 |_,_,_,.lst h r,a,ha=>by
  rcases zQ.mp ha with rfl|ha
  ·exact .lst h
  ·exact Aw.C3 r a ha
 |_,_,_,.tup h r,a,ha=>Aw.C3 r a ha
 |_,_,_,.dK h r,a,ha=>by
  rcases zQ.mp ha with rfl|ha
  ·exact⟨_,h,λ _=>⟨λ z=>(by cases z),λ _ z=>by cases z⟩⟩
  ·exact Aw.C3 r a ha
 |_,_,_,.dT h r,a,ha=>by
  rcases zQ.mp ha with rfl|ha
  ·exact⟨_,h,λ _=>⟨λ z=>(by cases z),λ _ z=>by cases z⟩⟩
  ·exact Aw.C3 r a ha
 |_,_,_,.ins n h r,a,ha=>by
  rcases zQ.mp ha with rfl|ha
  ·exact⟨_,h,λ _=>⟨λ z=>(by cases z),λ _ z=>by cases z⟩⟩
  ·exact Aw.C3 r a ha
theorem Aw.C3 {K:zy}{H:Hp}{P:Addr->Prop}:∀ {v:List V}{t:List OT}{fp:List Addr},Aw K H P v t fp->∀a∈fp,E6 H a
 |_,_,_,.nil,a,ha=>by cases ha
 |_,_,_,.cons h r,a,ha=>by
  rcases za5.mp ha with ha|ha
  ·exact BQ.C3 h a ha
  ·exact Aw.C3 r a ha
end
mutual
theorem BQ.Cy {K:zy}{H:Hp}{P P':Addr->Prop}:∀ {v:V}{t:OT}{fp ak:List Addr},BQ K H P v t fp->BQ K H P' v t ak->fp=ak
 |_,_,_,_,.sh _,.sh _=>rfl
 |_,_,_,_,.lst h r,.lst h' r'=>by
  rw[h] at h';cases h';rw[Aw.Cy r r']
 |_,_,_,_,.tup h r,.tup h' r'=>by
  have e:=(Am h).2.symm.trans (Am h').2;cases e;exact Aw.Cy r r'
 |_,_,_,_,.dK (kvs:=kvs) (ts:=ts) h r,x=>by
  generalize ht:OT.Bd false (kvs.map λ kv=>Cp kv.1) ts=t at x;cases x with
  |dK h' r' =>
   rw[h] at h';cases h';injection ht with _ _ e
   subst e;rw[Aw.Cy r r']
  |dT h' r'=>rw[h] at h';cases h'
  |_=>cases ht
 |_,_,_,_,.dT (kvs:=kvs) (ts:=ts) h r,x=>by
  generalize ht:OT.Bd true (kvs.map λ kv=>D.tup (kv.1.map Cp)) ts=t at x;cases x with
  |dT h' r' =>
   rw[h] at h';cases h';injection ht with _ _ e
   subst e;rw[Aw.Cy r r']
  |dK h' r'=>rw[h] at h';cases h'
  |_=>cases ht
 |_,_,_,_,.ins (fs:=fs) (ts:=ts) (x:=y) n h r,x=>by
  generalize ht:OT.ins y (fs.map za1) ts=t at x;cases x with
  |ins n' h' r' =>
   rw[h] at h';cases h';injection ht with _ _ e
   subst e;rw[Aw.Cy r r']
  |_=>cases ht
theorem Aw.Cy {K:zy}{H:Hp}{P P':Addr->Prop}:∀ {v:List V}{t:List OT}{fp ak:List Addr},Aw K H P v t fp->Aw K H P' v t ak->fp=ak
 |_,_,_,_,.nil,.nil=>rfl
 |_,_,_,_,.cons h r,.cons h' r'=>by rw[BQ.Cy h h',Aw.Cy r r']
end
mutual
theorem BQ.has {K:zy}{H:Hp}{P P0:Addr->Prop}(hs:∀a,P0 a->P a):∀ {v:V}{t:OT}{fp:List Addr},(∀a∈fp,¬ P0 a)->BQ K H P v t fp->Bu K (del H P0) v (er t)
 |_,_,_,_,.sh h=>by rw[er];exact h.mono (CP hs)
 |_,_,_,k,.lst h r=>by rw[er];exact .lst (.of (show del H P0 _=_ by rw[Az (k _ zD)];exact h)) (Aw.has hs (λ a ha=>k a (zF _ ha)) r)
 |_,_,_,k,.tup h r=>by rw[er];exact .tup (CP hs _ _ h) (Aw.has hs k r)
 |_,_,_,k,.dK h r=>by rw[er];exact .Gu (.inl (show del H P0 _=_ by rw[Az (k _ zD)];exact h)) (Aw.has hs (λ a ha=>k a (zF _ ha)) r)
 |_,_,_,k,.dT h r=>by rw[er];exact .Hz (.inl (show del H P0 _=_ by rw[Az (k _ zD)];exact h)) (Aw.has hs (λ a ha=>k a (zF _ ha)) r)
 |_,_,_,k,.ins n h r=>by rw[er];exact .ins n (show del H P0 _=_ by rw[Az (k _ zD)];exact h) (Aw.has hs (λ a ha=>k a (zF _ ha)) r)
theorem Aw.has {K:zy}{H:Hp}{P P0:Addr->Prop}(hs:∀a,P0 a->P a):∀ {v:List V}{t:List OT}{fp:List Addr},(∀a∈fp,¬ P0 a)->Aw K H P v t fp->Ag K (del H P0) v (RD t)
 |_,_,_,_,.nil=>by rw[RD];exact .nil
 |_,_,_,k,.cons h r=>by rw[RD];exact .cons (BQ.has hs (λ a ha=>k a (zae _ ha)) h) (Aw.has hs (λ a ha=>k a (zN _ ha)) r)
end
inductive Bv (K:zy) (H:Hp) (P:Addr->Prop):List Addr->List (List D)->Prop
 |nil:Bv K H P [] []
 |cons {q:Addr} {xs:List V} {ds:List D} {ps:List Addr} {BF:List (List D)}:H q=some (.lst xs)->Ag K (del H P) xs ds->Bv K H P ps BF->Bv K H P (q::ps) (ds::BF)
def D1 (K:zy)(H:Hp)(P:Addr->Prop):Cl->V->List Addr->Prop
 | .own ds,v,fp=>∃p xs,v=.ref p/\fp=[p]/\H p=some (.lst xs)/\Ag K (del H P) xs ds
 | .ow (.rows BF),v,fp=>∃p ps,v=.ref p/\fp=p::ps/\H p=some (.lst (ps.map V.ref))/\Bv K H P ps BF
 | .ow (.LZ _ ds),v,fp=>∃p xs,v=.ref p/\fp=[p]/\H p=some (.lst xs)/\Ag K (del H P) xs ds
 | .ow (.tree _ t),v,fp=>BQ K H P v t fp
 | .val _,_,_=>False
noncomputable def Ij:Cl->Bool
 | .val _=>false
 |_=>true
theorem Bv.move {K:zy}{H H':Hp}{P P':Addr->Prop}(sm:Ac (del H P) (del H' P')):∀ {ps:List Addr}{BF:List (List D)},(∀a∈ps,H' a=H a)->Bv K H P ps BF->Bv K H' P' ps BF
 |_,_,_,.nil=>.nil
 |_,_,k,.cons h r t=>.cons ((k _ zD).trans h) (r.mono sm) (Bv.move sm (λ a ha=>k a (zF _ ha)) t)
theorem Bv.at {K:zy}{H:Hp}{P:Addr->Prop}:∀ {ps:List Addr}{BF:List (List D)},Bv K H P ps BF->∀a∈ps,∃xs,H a=some (.lst xs)
 |_,_,.nil,a,h=>by cases h
 |_,_,.cons h r t,a,ha=>by
  rcases zQ.mp ha with rfl|ha
  ·exact⟨_,h⟩
  ·exact t.at a ha
theorem Bv.length {K:zy}{H:Hp}{P:Addr->Prop}:∀ {ps:List Addr}{BF:List (List D)},Bv K H P ps BF->ps.length=BF.length
 |_,_,.nil=>rfl
 |_,_,.cons h r t=>by rw[zO,zO,t.length]
theorem Bv.get {K:zy}{H:Hp}{P:Addr->Prop}:∀ {ps:List Addr}{BF:List (List D)}{i:Nat}{ds:List D},Bv K H P ps BF->BF[i]?=some ds->∃q xs,ps[i]?=some q/\H q=some (.lst xs)/\Ag K (del H P) xs ds
 |_,_,_,_,.nil,e=>by simp at e
 |_,_,0,_,.cons h r _,e=>by simp at e;subst e;exact⟨_,_,rfl,h,r⟩
 |_,_,i+1,ds,.cons _ _ t,e=>by
  obtain⟨q,xs,h1,h2⟩:=Bv.get (i:=i) (ds:=ds) t (by simpa using e);exact⟨q,xs,by simpa using h1,h2⟩
theorem RE:∀ {ps qs:List Addr},ps.map V.ref=qs.map V.ref->ps=qs
 |[],[],_=>rfl
 |[],_::_,h|_::_,[],h=>by cases h
 |p::ps,q::qs,h=>by
  rw[zG,zG] at h;injection h with h1 h2
  injection h1 with h1
  rw[h1,RE h2]
theorem D1.move {K:zy}{H H':Hp}{P P':Addr->Prop}(sm:Ac (del H P) (del H' P')){c:Cl}{v:V}{fp:List Addr}(k:∀a∈fp,H' a=H a)(h:D1 K H P c v fp):D1 K H' P' c v fp:=by
 cases c with
 |val d=>exact h
 |own ds =>
  obtain⟨p,xs,rfl,rfl,h1,h2⟩:=h;exact⟨p,xs,rfl,rfl,(k p zD).trans h1,h2.mono sm⟩
 |ow o =>
  cases o with
  |rows BF =>
   obtain⟨p,ps,rfl,rfl,h1,h2⟩:=h;exact⟨p,ps,rfl,rfl,(k p zD).trans h1,h2.move sm λ a ha=>k a (zF _ ha)⟩
  |LZ p ds =>
   obtain⟨p,xs,rfl,rfl,h1,h2⟩:=h;exact⟨p,xs,rfl,rfl,(k p zD).trans h1,h2.mono sm⟩
  |tree p t=>exact BQ.move sm k h
theorem D1.at {K:zy}{H:Hp}{P:Addr->Prop}{c:Cl}{v:V}{fp:List Addr}(h:D1 K H P c v fp):∀a∈fp,∃o,H a=some o:=by
 cases c with
 |val d=>exact h.elim
 |own ds =>
  obtain⟨p,xs,rfl,rfl,h1,h2⟩:=h;exact λ a ha=>⟨.lst xs,by rw[zS.mp ha];exact h1⟩
 |ow o =>
  cases o with
  |rows BF =>
   obtain⟨p,ps,rfl,rfl,h1,h2⟩:=h;intro a ha;rcases zQ.mp ha with rfl|ha
   ·exact⟨_,h1⟩
   ·obtain⟨xs,q⟩:=h2.at a ha;exact⟨_,q⟩
  |LZ p ds =>
   obtain⟨p,xs,rfl,rfl,h1,h2⟩:=h;exact λ a ha=>⟨.lst xs,by rw[zS.mp ha];exact h1⟩
  |tree p t =>
   intro a ha;obtain⟨o,q,_⟩:=BQ.C3 h a ha;exact⟨o,q⟩
theorem D1.same {K:zy}{H H':Hp}{P:Addr->Prop}(e:Ac H H'){c:Cl}{v:V}{fp:List Addr}(h:D1 K H P c v fp):D1 K H' P c v fp:=
 h.move e.del λ a ha=>by obtain⟨xs,q⟩:=h.at a ha;rw[q];exact e _ _ q
theorem D1.Cy {K:zy}{H:Hp}{P P':Addr->Prop}{c:Cl}{v:V}{fp ak:List Addr}(h:D1 K H P c v fp)(h':D1 K H P' c v ak):fp=ak:=by
 cases c with
 |val d=>exact h.elim
 |own ds =>
  obtain⟨p,xs,rfl,rfl,h1,h2⟩:=h;obtain⟨p',dL,e,rfl,ee,gj⟩:=h';cases e;rfl
 |ow o =>
  cases o with
  |rows BF =>
   obtain⟨p,ps,rfl,rfl,h1,h2⟩:=h;obtain⟨p',zi,e,rfl,ee,gj⟩:=h';cases e;rw[h1] at ee;injection ee with e
   injection e with e
   rw[RE e]
  |LZ p ds =>
   obtain⟨p,xs,rfl,rfl,h1,h2⟩:=h;obtain⟨p',dL,e,rfl,ee,gj⟩:=h';cases e;rfl
  |tree p t=>exact BQ.Cy h h'
structure Ds where
 pr:Addr->Prop
 g:Nat->Addr
instance:CoeFun Ds (λ _=>Addr->Prop):=⟨Ds.pr⟩
instance:Coe Ds (Addr->Prop):=⟨Ds.pr⟩
noncomputable def P7:Cl->Option Nat
 | .ow (.LZ n _)=>some n
 | .ow (.tree (some n) _)=>some n
 |_=>none
structure Ak (K:zy)(P0:Ds)(P:Addr->Prop)(H:Hp)(σ:St)(ρ:Aa):Prop where
 sub:∀a,P0 a->P a
 C3:∀a,P a->E6 H a
 val:∀(i:Nat) d,ρ[i]?=some (some (.val d))->∃v,σ[i]?=some (some v)/\Bu K (del H P) v d
 ows:∀(i:Nat) c,ρ[i]?=some (some c)->Ij c=true->∃v fp,σ[i]?=some (some v)/\D1 K H P c v fp/\(∀a∈fp,P a/\¬ P0 a)/\fp.Nodup
 apart:∀(i j:Nat) c c' v v' fp ak,ρ[i]?=some (some c)->ρ[j]?=some (some c')->σ[i]?=some (some v)->σ[j]?=some (some v')->D1 K H P c v fp->D1 K H P c' v' ak->i≠j->∀a∈fp,a∉ak
 len:σ.length=ρ.length
 pin:∀(i:Nat) c n,ρ[i]?=some (some c)->P7 c=some n->σ[i]?=some (some (.ref (P0.g n)))
theorem Ak.own {K:zy}{P0:Ds}{P:Addr->Prop}{H:Hp}{σ:St}{ρ:Aa}(E:Ak K P0 P H σ ρ)(i:Nat)(ds:List D)(h:ρ[i]?=some (some (.own ds))):
 ∃p xs,σ[i]?=some (some (.ref p))/\H p=some (.lst xs)/\P p/\¬ P0 p/\Ag K (del H P) xs ds:=by
 obtain⟨v,fp,h1,⟨p,xs,rfl,rfl,h2,h3⟩,h4,_⟩:=E.ows i _ h rfl;exact⟨p,xs,h1,h2,(h4 p zD).1,(h4 p zD).2,h3⟩
theorem Ak.Yj {K:zy}{P0:Ds}{P P':Addr->Prop}{H H':Hp}{σ:St}{ρ:Aa}(E:Ak K P0 P H σ ρ)(sm:Ac (del H P) (del H' P')){i j:Nat}{c c':Cl}{v v':V}{fp ak:List Addr}
 (ki:∀v fp,σ[i]?=some (some v)->D1 K H P c v fp->∀a∈fp,H' a=H a) (kj:∀v fp,σ[j]?=some (some v)->D1 K H P c' v fp->∀a∈fp,H' a=H a)
 (hi:ρ[i]?=some (some c)) (hj:ρ[j]?=some (some c')) (si:σ[i]?=some (some v)) (sj:σ[j]?=some (some v')) (h:D1 K H' P' c v fp) (h':D1 K H' P' c' v' ak) (af:i≠j):∀a∈fp,a∉ak:=by
 have key:∀(k:Nat) (d:Cl) (w:V) (fq:List Addr),ρ[k]?=some (some d)->σ[k]?=some (some w)->(∀v fp,σ[k]?=some (some v)->D1 K H P d v fp->∀a∈fp,H' a=H a)->D1 K H' P' d w fq->D1 K H P d w fq:=λ k d w fq hk sk kk ho=>by
  have io:Ij d=true:=by cases d<;>first|rfl|exact ho.elim
  obtain⟨w',bY,s2,o2,_⟩:=E.ows k d hk io;rw[sk] at s2;cases s2;have o3:=o2.move sm (kk _ _ sk o2);rw[ho.Cy o3];exact o2
 exact E.apart i j c c' v v' fp ak hi hj si sj (key i c v fp hi si ki h) (key j c' v' ak hj sj kj h') af
theorem Ak.same {K:zy}{P0:Ds}{P:Addr->Prop}{H H':Hp}{σ:St}{ρ:Aa}(E:Ak K P0 P H σ ρ)(e:Ac H H'):Ak K P0 P H' σ ρ:=
 ⟨E.sub,λ a h=>(E.C3 a h).same e,λ i d h=>let ⟨v,h1,h2⟩:=E.val i d h;⟨v,h1,h2.mono e.del⟩,
  λ i c h io=>let ⟨v,fp,h1,h2,h3,h4⟩:=E.ows i c h io;⟨v,fp,h1,h2.same e,h3,h4⟩,
  λ i j c c' v v' fp ak hi hj si sj h h' af=>E.Yj e.del (λ v fp _ o a ha=>by obtain⟨xs,q⟩:=o.at a ha;rw[q];exact e _ _ q) (λ v fp _ o a ha=>by obtain⟨xs,q⟩:=o.at a ha;rw[q];exact e _ _ q) hi hj si sj h h' af,E.len,E.pin⟩
def gV (K:zy)(WX:Str->Hp->Prop)(P:Addr->Prop)(H:Hp)(Q:VK):M D->Prop
 | .ok d=>∀v H',Ac H H'->Bu K (del H' P) v d->Q v H'
 | .ex x=>∀H',Ac H H'->WX x H'
 | .bad=>False
def gA (K:zy)(WX:Str->Hp->Prop)(P:Addr->Prop)(H:Hp)(Q:List V->Hp->Prop):M (List D)->Prop
 | .ok d=>∀v H',Ac H H'->Ag K (del H' P) v d->Q v H'
 | .ex x=>∀H',Ac H H'->WX x H'
 | .bad=>False
def gT (WX:Str->Hp->Prop)(H:Hp)(Q:Bool->Hp->Prop):M Bool->Prop
 | .ok b=>∀H',Ac H H'->Q b H'
 | .ex x=>∀H',Ac H H'->WX x H'
 | .bad=>False
section
variable {K:zy}{WX:Str->Hp->Prop}{P:Addr->Prop}{H H':Hp}
theorem gV.same {Q:VK}{m:M D}(h:gV K WX P H Q m)(e:Ac H H'):gV K WX P H' Q m:=by
 cases m with
 |ok d=>exact λ v H2 q hv=>h v H2 (e.trans q) hv
 |ex x=>exact λ H2 q=>h H2 (e.trans q)
 |bad=>exact h
theorem gA.same {Q:List V->Hp->Prop}{m:M (List D)}(h:gA K WX P H Q m)(e:Ac H H'):gA K WX P H' Q m:=by
 cases m with
 |ok d=>exact λ v H2 q hv=>h v H2 (e.trans q) hv
 |ex x=>exact λ H2 q=>h H2 (e.trans q)
 |bad=>exact h
theorem gT.same {Q:Bool->Hp->Prop}{m:M Bool}(h:gT WX H Q m)(e:Ac H H'):gT WX H' Q m:=by
 cases m with
 |ok d|ex x=>exact λ H2 q=>h H2 (e.trans q)
 |bad=>exact h
end
def Lv (c:Bool)(P0:Ds)(P:Addr->Prop):Addr->Prop:=if c=true then P else P0.pr
def DE (X:Cx)(WX:Str->Hp->Prop)(c:Bool)(e:Expr)(f:Aa->M D):Prop:=
 ∃t,PE X e t/\∀P0 P σ H Q ρ,Ak X.K P0 P H σ ρ->gV X.K WX (Lv c P0 P) H Q (f ρ)->t σ H Q
def DA (X:Cx)(WX:Str->Hp->Prop)(c:Bool)(es:List Expr)(f:Aa->M (List D)):Prop:=
 ∃t,PA X es t/\(∀P0 P σ H Q ρ,Ak X.K P0 P H σ ρ->gA X.K WX (Lv c P0 P) H Q (f ρ)->t σ H Q)/\∀ρ ds,f ρ=.ok ds->ds.length=es.length
def DT (X:Cx)(WX:Str->Hp->Prop)(e:Expr)(f:Aa->M Bool):Prop:=
 ∃t,PT X e t/\∀P0 P σ H Q ρ,Ak X.K P0 P H σ ρ->gT WX H Q (f ρ)->t σ H Q
def DW (X:Cx)(WX:Str->Hp->Prop)(e:Expr)(f:Aa->M Bool):Prop:=
 ∃t,PW X e t/\∀P0 P σ H Q ρ,Ak X.K P0 P H σ ρ->gT WX H Q (f ρ)->t σ H Q
theorem DW.dt {X:Cx}{WX:Str->Hp->Prop}{e:Expr}{f:Aa->M Bool}(h:DW X WX e f):DT X WX e f:=let ⟨t,h1,h2⟩:=h;⟨t,h1.pt,h2⟩
section
variable {X:Cx}{WX:Str->Hp->Prop}{c:Bool}{P0:Ds}{P:Addr->Prop}{H:Hp}{σ:St}{ρ:Aa}
theorem Ak.lv (E:Ak X.K P0 P H σ ρ)(c:Bool):∀a,Lv c P0 P a->P a:=λ a h=>by
 cases c with
 |true=>exact h
 |false=>exact E.sub a h
theorem Ak.rD (E:Ak X.K P0 P H σ ρ)(c:Bool):∀a,Lv c P0 P a->E6 H a:=λ a h=>E.C3 a (E.lv c a h)
theorem Na {e:Expr}{f:Aa->M D}(h:DE X WX true e f):DE X WX false e f:=by
 obtain⟨t,h1,h2⟩:=h;refine⟨t,h1,λ P0 P σ H Q ρ E g=>h2 P0 P σ H Q ρ E ?_⟩;cases e:f ρ with
 |ok d=>rw[e] at g;exact λ v H' s hv=>g v H' s (hv.mono (CP E.sub))
 |ex x|bad=>rw[e] at g;exact g
noncomputable def rE:D->Bool
 | .tup _ | .lst _ | .DH _ | .Bd _ _ _ | .ins _ _ _=>false
 |_=>true
noncomputable def fl (m:M D):M D:=m.bind λ d=>if rE d=true then .ok d else .bad
noncomputable def rv (i:Nat)(ρ:Aa):M D:=match ρ[i]? with | some (some (.val d))=>.ok d | _=>.bad
noncomputable def ra (i:Nat)(ρ:Aa):M D:=match ρ[i]? with | some (some (.val d))=>.ok d | some (some (.own ds))=>.ok (.lst ds) | some (some (.ow (.rows BF)))=>.ok (.lst (BF.map D.lst)) | some (some (.ow (.LZ _ ds)))=>.ok (.lst ds) | some (some (.ow (.tree _ t)))=>.ok (er t) | _=>.bad
theorem A1 (i:Nat){x:Str}{pos:Pos}(h:PE X (.Name x pos) (Oj i)):DE X WX true (.Name x pos) (rv i):=by
 refine⟨_,h,λ P0 P σ H Q ρ E g=>?_⟩;unfold rv at g;split at g
 ·rename_i d e;obtain⟨v,h1,h2⟩:=E.val i d e;exact⟨v,h1,g v H (Ac.refl H) h2⟩
 ·exact g.elim
theorem A6 {i j pos}:DE X WX c (.Constant (.int i) j pos) (λ _=>.ok (.int i)):=⟨_,kT,λ P0 P σ H Q ρ E g=>g _ H (Ac.refl H) (.int i)⟩
theorem CQ {b j pos}:DE X WX c (.Constant (.bool b) j pos) (λ _=>.ok (.bl b)):=⟨_,pS,λ P0 P σ H Q ρ E g=>g _ H (Ac.refl H) (.bl b)⟩
theorem Fu {j pos}:DE X WX c (.Constant .none j pos) (λ _=>.ok .AF):=⟨_,kU,λ P0 P σ H Q ρ E g=>g _ H (Ac.refl H) .AF⟩
theorem TF {x j pos}:DE X WX c (.Constant (.str x) j pos) (λ _=>.ok (.str x)):=⟨_,kW,λ P0 P σ H Q ρ E g=>g _ H (Ac.refl H) (.str x)⟩
def V2 (K:zy)(WX:Str->Hp->Prop)(r:R2)(bd:D->D->M D):Prop:=
 ∀(P:Addr->Prop) (H:Hp) (x y:D) (v w:V) (Q:VK),(∀a,P a->E6 H a)->Bu K (del H P) v x->Bu K (del H P) w y->gV K WX P H Q (bd x y)->r v w H Q
variable {a b:Expr}{f g:Aa->M D}{pos:Pos}
theorem RF {ta tb:TE}{r:R2}{bd:D->D->M D}(ha:∀P0 P σ H Q ρ,Ak X.K P0 P H σ ρ->gV X.K WX (Lv c P0 P) H Q (f ρ)->ta σ H Q)(hb:∀P0 P σ H Q ρ,Ak X.K P0 P H σ ρ->gV X.K WX (Lv c P0 P) H Q (g ρ)->tb σ H Q)
 (hr:V2 X.K WX r bd) {Q:VK} (E:Ak X.K P0 P H σ ρ) (h:gV X.K WX (Lv c P0 P) H Q ((f ρ).bind λ x=>(g ρ).bind λ y=>bd x y)):oX r ta tb σ H Q:=by
 refine ha P0 P σ H _ ρ E ?_;cases e:f ρ with
 |bad|ex x=>rw[e] at h;exact h
 |ok x =>
  rw[e] at h;intro v H1 s1 hv;refine hb P0 P σ H1 _ ρ (E.same s1) ?_;cases e2:g ρ with
  |bad=>rw[e2] at h;exact h
  |ex y=>rw[e2] at h;exact gV.same (m:=.ex y) h s1
  |ok y =>
   rw[e2] at h;intro w H2 s2 hw;exact hr _ H2 x y v w Q (λ a q=>((E.same s1).same s2).rD c a q) (hv.mono s2.del) hw ((gV.same h s1).same s2)
theorem P8 {op:Operator}{r:R2}{bd:D->D->M D}(ho:Gp X (binaryOp op) r)(hr:V2 X.K WX r bd)(ha:DE X WX c a f)(hb:DE X WX c b g):DE X WX c (.BinOp a op b pos) (λ ρ=>(f ρ).bind λ x=>(g ρ).bind λ y=>bd x y):=by
 obtain⟨ta,a1,a2⟩:=ha;obtain⟨tb,b1,b2⟩:=hb;exact⟨_,XS ho a1 b1,λ P0 P σ H Q ρ E h=>RF a2 b2 hr E h⟩
theorem Yk {op:CmpOp}{r:R2}{bd:D->D->M D}(ho:Gp X (compareOp op) r)(hr:V2 X.K WX r bd)(ha:DE X WX c a f)(hb:DE X WX c b g)(hm:behindInMarks op b=false):DE X WX c (.Compare a [op] [b] pos) (λ ρ=>(f ρ).bind λ x=>(g ρ).bind λ y=>bd x y):=by
 obtain⟨ta,a1,a2⟩:=ha;obtain⟨tb,b1,b2⟩:=hb;exact⟨_,dD ho a1 b1 hm,λ P0 P σ H Q ρ E h=>RF a2 b2 hr E h⟩
theorem rF {r:R2}{bd:D->D->M D}(ho:dP X r)(hr:V2 X.K WX r bd)(ha:DE X WX c a f)(hb:DE X WX c b g)(hs:Hw b):DE X WX c (.Subscript a b pos) (λ ρ=>(f ρ).bind λ x=>(g ρ).bind λ y=>bd x y):=by
 obtain⟨ta,a1,a2⟩:=ha;obtain⟨tb,b1,b2⟩:=hb;exact⟨_,UW ho a1 b1 hs,λ P0 P σ H Q ρ E h=>RF a2 b2 hr E h⟩
noncomputable def Bo (k:Int->Int->M D)(x y:D):M D:=match x,y with | .int i,.int j=>k i j | _,_=>.bad
theorem Bu.int_inv {K:zy}{H:Hp}{v:V}{i:Int}(h:Bu K H v (.int i)):v=.int i:=by cases h;rfl
theorem Bu.Nb {K:zy}{H:Hp}{v:V}{i:Bool}(h:Bu K H v (.bl i)):v=.bl i:=by cases h;rfl
theorem Qf {C:Int->Int->Prop}{gv:Int->Int->V}{gd:Int->Int->D}[∀i j,Decidable (C i j)](hg:∀i j K H,Bu K H (gv i j) (gd i j)):V2 X.K WX (rI C gv) (Bo λ i j=>if C i j then .ok (gd i j) else .bad):=by
 intro P H x y v w Q ht hx hy h;unfold Bo at h;split at h
 ·rename_i i j;rw[hx.int_inv,hy.int_inv];dsimp only at h;by_cases hc:C i j
  ·rw[if_pos hc] at h;exact⟨i,j,rfl,rfl,hc,h _ H (Ac.refl H) (hg i j _ _)⟩
  ·rw[if_neg hc] at h;exact h.elim
 ·exact h.elim
theorem Mh {gv:Int->Int->V}{gd:Int->Int->D}(hg:∀i j K H,Bu K H (gv i j) (gd i j)):V2 X.K WX (cI gv) (Bo λ i j=>.ok (gd i j)):=by
 intro P H x y v w Q ht hx hy h;unfold Bo at h;split at h
 ·rename_i i j;rw[hx.int_inv,hy.int_inv];exact⟨i,j,rfl,rfl,h _ H (Ac.refl H) (hg i j _ _)⟩
 ·exact h.elim
instance (i j:Int):Decidable (XT i j):=by unfold XT;infer_instance
instance (i j:Int):Decidable (dB i j):=by unfold dB;infer_instance
instance (i j:Int):Decidable (XU i j):=by unfold XU;infer_instance
noncomputable def mK:=Bo λ i j=>.ok (.int (i+j))
noncomputable def rG:=Bo λ i j=>.ok (.int (i-j))
noncomputable def Gi:=Bo λ i j=>if 0<j then .ok (.int (i%j)) else .bad
noncomputable def G1:=Bo λ i j=>if XT i j then .ok (.int (i / j)) else .bad
noncomputable def Wn:=Bo λ i j=>if dB i j then .ok (.int (i^j.toNat)) else .bad
noncomputable def wD:=Bo λ i j=>.ok (.bl (decide (i<j)))
noncomputable def xI:=Bo λ i j=>.ok (.bl (decide (i<=j)))
noncomputable def wF:=Bo λ i j=>.ok (.bl (decide (j<i)))
noncomputable def xJ:=Bo λ i j=>.ok (.bl (decide (j<=i)))
theorem BX (ha:DE X WX c a f)(hb:DE X WX c b g):DE X WX c (.BinOp a .Add b pos) (λ ρ=>(f ρ).bind λ x=>(g ρ).bind λ y=>mK x y):=P8 lK (Mh λ _ _ _ _=>.int _) ha hb
theorem mL (ha:DE X WX c a f)(hb:DE X WX c b g):DE X WX c (.BinOp a .Sub b pos) (λ ρ=>(f ρ).bind λ x=>(g ρ).bind λ y=>rG x y):=P8 lL (Mh λ _ _ _ _=>.int _) ha hb
theorem BN (ha:DE X WX c a f)(hb:DE X WX c b g):DE X WX c (.BinOp a .Mod b pos) (λ ρ=>(f ρ).bind λ x=>(g ρ).bind λ y=>Gi x y):=P8 lM (Qf λ _ _ _ _=>.int _) ha hb
theorem CS (ha:DE X WX c a f)(hb:DE X WX c b g):DE X WX c (.BinOp a .FloorDiv b pos) (λ ρ=>(f ρ).bind λ x=>(g ρ).bind λ y=>G1 x y):=P8 dC (Qf λ _ _ _ _=>.int _) ha hb
theorem Yl (ha:DE X WX c a f)(hb:DE X WX c b g):DE X WX c (.BinOp a .Pow b pos) (λ ρ=>(f ρ).bind λ x=>(g ρ).bind λ y=>Wn x y):=P8 lN (Qf λ _ _ _ _=>.int _) ha hb
noncomputable def cK (n:Nat)(x y:D):M D:=if IJ x<=n/\AM x=true/\AM y=true then .ok (.bl (Ax x y)) else .bad
noncomputable def Wo (n:Nat)(x y:D):M D:=if IJ x<=n/\AM x=true/\AM y=true then .ok (.bl (!Ax x y)) else .bad
theorem Ym {n:Nat}(hu:X.A.units+n<cLine):V2 X.K WX (eL X.K X.A false) (cK n):=by
 intro P H x y v w Q ht hx hy h;unfold cK at h;by_cases hd:IJ x<=n/\AM x=true/\AM y=true
 ·rw[if_pos hd] at h;exact⟨x,y,hx.mono Ei,hy.mono Ei,by omega,hd.2.1,hd.2.2,h _ H (Ac.refl H) (.bl _)⟩
 ·rw[if_neg hd] at h;exact h.elim
theorem mM {n:Nat}(hu:X.A.units+n<cLine):V2 X.K WX (eL X.K X.A true) (Wo n):=by
 intro P H x y v w Q ht hx hy h;unfold Wo at h;by_cases hd:IJ x<=n/\AM x=true/\AM y=true
 ·rw[if_pos hd] at h;exact⟨x,y,hx.mono Ei,hy.mono Ei,by omega,hd.2.1,hd.2.2,h _ H (Ac.refl H) (.bl _)⟩
 ·rw[if_neg hd] at h;exact h.elim
theorem Yn {n:Nat}(hu:X.A.units+n<cLine)(ha:DE X WX c a f)(hb:DE X WX c b g):DE X WX c (.Compare a [.Eq] [b] pos) (λ ρ=>(f ρ).bind λ x=>(g ρ).bind λ y=>cK n x y):=Yk Yi (Ym hu) ha hb (ID _)
noncomputable def Bj:D->Bool
 | .AF=>true
 |_=>false
theorem Bu.vG {K:zy}{H:Hp}{v:V}{d:D}(h:Bu K H v d):decide (v=.AF)=Bj d:=by
 cases h<;>simp[Bj]
theorem TH {j pos'}(ha:DE X WX c a f):DE X WX c (.Compare a [.Is] [.Constant .none j pos'] pos) (λ ρ=>(f ρ).bind λ x=>.ok (.bl (Bj x))):=by
 obtain⟨ta,a1,a2⟩:=ha;refine⟨_,kX (XG a1),λ P0 P σ H Q ρ E h=>?_⟩;dsimp only at h;refine a2 P0 P σ H _ ρ E ?_;cases e:f ρ with
 |bad|ex x=>rw[e] at h;exact h
 |ok x=>rw[e] at h;exact λ v H1 s1 hv=>h _ H1 s1 (by rw[hv.vG];exact .bl _)
noncomputable def eM (x y:D):M D:=match x,y with
 | .tup ds,.int i| .lst ds,.int i=>(match Rr ds i with|some d=>.ok d|none=>.bad)
 |_,_=>.bad
theorem Ag.Rr {K:zy}{H:Hp}{xs:List V}{ds:List D}{i:Int}{d:D}(h:Ag K H xs ds)(e:L2.Rr ds i=some d):∃v,L2.Rr xs i=some v/\Bu K H v d:=by
 unfold L2.Rr at e ⊢;rw[<-h.length] at e;cases q:OX xs.length i with
 |none=>rw[q] at e;cases e
 |some j =>
  rw[q] at e;exact h.get e
theorem DF.Bg {K:zy}{H:Hp}{P:Addr->Prop}{a:Addr}{xs:List V}(h:DF K (del H P) a xs):DF K H a xs:=Ei.seq h
theorem EL.Bg {K:zy}{H:Hp}{P:Addr->Prop}{a:Addr}{xs:List V}(h:EL K (del H P) a xs):EL K H a xs:=Ei.vE h
theorem Gw:V2 X.K WX (λ x y H Q=>lW X.K x y H Q\/lX X.K x y H Q) eM:=by
 intro P H x y v w Q ht hx hy h;unfold eM at h;split at h
 ·rename_i ds i;split at h
  ·rename_i d e;cases hy;cases hx with
   |tup hs hl =>
    obtain⟨u,h1,h2⟩:=hl.Rr e;exact .inr ⟨_,_,i,u,rfl,rfl,EL.of (Am hs).2,h1,h _ H (Ac.refl H) h2⟩
  ·exact h.elim
 ·rename_i ds i;split at h
  ·rename_i d e;cases hy;cases hx with
   |lst hs hl =>
    obtain⟨u,h1,h2⟩:=hl.Rr e;exact .inl ⟨_,_,i,u,rfl,rfl,hs.Bg,h1,h _ H (Ac.refl H) h2⟩
  ·exact h.elim
 ·exact h.elim
theorem A8:DA X WX c [] (λ _=>.ok []):=⟨_,CO,λ P0 P σ H Q ρ E h=>h [] H (Ac.refl H) .nil,λ ρ ds h=>by cases h;rfl⟩
theorem A2 {e:Expr}{es:List Expr}{f:Aa->M D}{fs:Aa->M (List D)}(he:DE X WX c e f)(hr:DA X WX c es fs)(hs:starEach (e::es) X.env=(false,eval e X.env)::starEach es X.env:=by rfl):
 DA X WX c (e::es) (λ ρ=>(f ρ).bind λ d=>(fs ρ).bind λ ds=>.ok (d::ds)):=by
 obtain⟨te,e1,e2⟩:=he;obtain⟨tr,r1,r2,r3⟩:=hr;refine⟨_,Bt e1 r1 hs,λ P0 P σ H Q ρ E h=>?_,λ ρ ds h=>?_⟩
 rotate_left
 ·dsimp only at h;cases q:f ρ with
  |bad|ex x=>rw[q] at h;cases h
  |ok x =>
   rw[q] at h;cases q2:fs ρ with
   |bad|ex x=>rw[q2] at h;cases h
   |ok xs =>
    rw[q2] at h;cases h;rw[zO,zO,r3 ρ xs q2]
 dsimp only at h;refine e2 P0 P σ H _ ρ E ?_;cases q:f ρ with
 |bad|ex x=>rw[q] at h;exact h
 |ok x =>
  rw[q] at h;intro v H1 s1 hv;refine r2 P0 P σ H1 _ ρ (E.same s1) ?_;cases q2:fs ρ with
  |bad=>rw[q2] at h;exact h
  |ex y=>rw[q2] at h;exact gA.same (m:=.ex y) h s1
  |ok ds =>
   rw[q2] at h;exact λ vs H2 s2 be=>h _ H2 (s1.trans s2) (.cons (hv.mono s2.del) be)
theorem Jw {H:Hp}{P:Addr->Prop}{p:Addr}{o:HO}(hn:H p=none)(ht:∀a,P a->E6 H a):del (upd H p o) P p=some o:=by
 rw[Az λ z=>(ht p z).no hn];exact Aj
theorem AR {es:List Expr}{fs:Aa->M (List D)}{x1}(ha:DA X WX c es fs)(hz:es.length<=1000:=by decide):DE X WX c (.Tuple es x1 pos) (λ ρ=>(fs ρ).bind λ ds=>if ds.length<=1000 then .ok (.tup ds) else .bad):=by
 obtain⟨ta,a1,a2,a3⟩:=ha;refine⟨_,Y0 a1,λ P0 P σ H Q ρ E h=>?_⟩;dsimp only at h;refine a2 P0 P σ H _ ρ E ?_;cases q:fs ρ with
 |bad|ex y=>rw[q] at h;exact h
 |ok ds =>
  rw[q] at h;simp only[M.A7] at h;by_cases hd:ds.length<=1000
  ·rw[if_pos hd] at h;intro vs H1 s1 be;refine⟨zaz (AB (by rw[be.length];exact hd)),λ p hp=>h _ _ (s1.trans (AK hp _)) (.tup (Jw hp λ a q=>(E.same s1).rD c a q) (be.mono (AK hp _).del))⟩
  ·rw[if_neg hd] at h;exact h.elim
theorem IK {es:List Expr}{fs:Aa->M (List D)}(ha:DA X WX c es fs):DE X WX c (.List es pos) (λ ρ=>(fs ρ).bind λ ds=>if ds.length<=1000 then .ok (.lst ds) else .bad):=by
 obtain⟨ta,a1,a2,a3⟩:=ha;refine⟨_,Ts a1,λ P0 P σ H Q ρ E h=>?_⟩;dsimp only at h;refine a2 P0 P σ H _ ρ E ?_;cases q:fs ρ with
 |bad|ex y=>rw[q] at h;exact h
 |ok ds =>
  rw[q] at h;simp only[M.A7] at h;by_cases hd:ds.length<=1000
  ·rw[if_pos hd] at h;intro vs H1 s1 be;refine⟨zaz (AB (by rw[be.length];exact hd)),λ p hp=>h _ _ (s1.trans (AK hp _)) (.lst (.of (Jw hp λ a q=>(E.same s1).rD c a q)) (be.mono (AK hp _).del))⟩
  ·rw[if_neg hd] at h;exact h.elim
end
noncomputable def P9 (d:D):M Bool:=match d with | .bl b=>.ok b | _=>.bad
section
variable {X:Cx}{WX:Str->Hp->Prop}{c:Bool}{P0:Ds}{P:Addr->Prop}{H:Hp}{σ:St}{ρ:Aa}{a b e:Expr}{f g:Aa->M D}{ft gt:Aa->M Bool}{pos:Pos}
theorem rH {WX:Str->Hp->Prop}{P:Addr->Prop}{K:zy}{H:Hp}{Q:Bool->Hp->Prop}{m:M D}(h:gT WX H Q (m.bind P9)):gV K WX P H (λ x H'=>∃k,x=.bl k/\Q k H') m:=by
 cases m with
 |bad|ex x=>exact h
 |ok d =>
  intro v H' s hv;simp only[M.A7] at h;unfold P9 at h;split at h
  ·rename_i b;exact⟨b,hv.Nb,h H' s⟩
  ·exact h.elim
theorem Fv {op:CmpOp}{r:R2}{bd:D->D->M D}(ho:Gp X (compareOp op) r)(hr:V2 X.K WX r bd)(ha:DE X WX c a f)(hb:DE X WX c b g)(hm:behindInMarks op b=false):DT X WX (.Compare a [op] [b] pos) (λ ρ=>((f ρ).bind λ x=>(g ρ).bind λ y=>bd x y).bind P9):=by
 obtain⟨ta,a1,a2⟩:=ha;obtain⟨tb,b1,b2⟩:=hb;exact⟨_,dE ho a1 b1 hm,λ P0 P σ H Q ρ E h=>RF a2 b2 hr E (rH h)⟩
theorem rJ (ha:DE X WX c a f)(hb:DE X WX c b g):DT X WX (.Compare a [.Lt] [b] pos) (λ ρ=>((f ρ).bind λ x=>(g ρ).bind λ y=>wD x y).bind P9):=Fv jK (Mh λ _ _ _ _=>.bl _) ha hb (ID _)
theorem rK (ha:DE X WX c a f)(hb:DE X WX c b g):DT X WX (.Compare a [.Gt] [b] pos) (λ ρ=>((f ρ).bind λ x=>(g ρ).bind λ y=>wF x y).bind P9):=Fv qJ (Mh λ _ _ _ _=>.bl _) ha hb (ID _)
theorem Ly {n:Nat}(hu:X.A.units+n<cLine)(ha:DE X WX c a f)(hb:DE X WX c b g):DT X WX (.Compare a [.Eq] [b] pos) (λ ρ=>((f ρ).bind λ x=>(g ρ).bind λ y=>cK n x y).bind P9):=Fv Yi (Ym hu) ha hb (ID _)
theorem Gx {n:Nat}(hu:X.A.units+n<cLine)(ha:DE X WX c a f)(hb:DE X WX c b g):DT X WX (.Compare a [.NotEq] [b] pos) (λ ρ=>((f ρ).bind λ x=>(g ρ).bind λ y=>Wo n x y).bind P9):=Fv mJ (mM hu) ha hb (ID _)
theorem Gy {j pos'}(ha:DE X WX c a f):DT X WX (.Compare a [.Is] [.Constant .none j pos'] pos) (λ ρ=>(f ρ).bind λ x=>.ok (Bj x)):=by
 obtain⟨ta,a1,a2⟩:=ha;refine⟨_,XH (XG a1),λ P0 P σ H Q ρ E h=>?_⟩;dsimp only at h;refine a2 P0 P σ H _ ρ E ?_;cases e:f ρ with
 |bad|ex x=>rw[e] at h;exact h
 |ok x=>rw[e] at h;exact λ v H1 s1 hv=>⟨_,rfl,by rw[hv.vG];exact h H1 s1⟩
theorem HA {j pos'}(ha:DE X WX c a f):DT X WX (.Compare a [.IsNot] [.Constant .none j pos'] pos) (λ ρ=>(f ρ).bind λ x=>.ok (!Bj x)):=by
 obtain⟨ta,a1,a2⟩:=ha;refine⟨_,XH (cX a1),λ P0 P σ H Q ρ E h=>?_⟩;dsimp only at h;refine a2 P0 P σ H _ ρ E ?_;cases e:f ρ with
 |bad|ex x=>rw[e] at h;exact h
 |ok x=>rw[e] at h;exact λ v H1 s1 hv=>⟨_,rfl,by rw[hv.vG];exact h H1 s1⟩
theorem Ci (ha:DT X WX a ft):DT X WX (.UnaryOp .Not a pos) (λ ρ=>(ft ρ).bind λ b=>.ok (!b)):=by
 obtain⟨ta,a1,a2⟩:=ha;refine⟨_,kY a1,λ P0 P σ H Q ρ E h=>?_⟩;dsimp only at h;refine a2 P0 P σ H _ ρ E ?_;cases e:ft ρ with
 |bad|ex x=>rw[e] at h;exact h
 |ok x=>rw[e] at h;exact λ H1 s1=>h H1 s1
theorem Fw (ha:DT X WX a ft):DW X WX (.BoolOp .And [a] pos) ft:=let ⟨ta,a1,a2⟩:=ha;⟨_,pw_and1 a1,a2⟩
theorem CT (ha:DT X WX a ft):DW X WX (.BoolOp .Or [a] pos) ft:=let ⟨ta,a1,a2⟩:=ha;⟨_,pw_or1 a1,a2⟩
theorem IL {rest:List Expr}(ha:DT X WX a ft)(hb:DW X WX (.BoolOp .And (b::rest) pos) gt):DW X WX (.BoolOp .And (a::b::rest) pos) (λ ρ=>(ft ρ).bind λ k=>if k=true then gt ρ else .ok false):=by
 obtain⟨ta,a1,a2⟩:=ha;obtain⟨tb,b1,b2⟩:=hb;refine⟨_,pw_and a1 b1,λ P0 P σ H Q ρ E h=>?_⟩;dsimp only at h;refine a2 P0 P σ H _ ρ E ?_;cases e:ft ρ with
 |bad|ex x=>rw[e] at h;exact h
 |ok k =>
  rw[e] at h;intro H1 s1;cases k with
  |true =>
   simp only[M.A7,if_true] at h ⊢;exact b2 P0 P σ H1 _ ρ (E.same s1) (h.same s1)
  |false =>
   simp only[M.A7,za8,if_false] at h ⊢;exact h H1 s1
theorem DJ {rest:List Expr}(ha:DT X WX a ft)(hb:DW X WX (.BoolOp .Or (b::rest) pos) gt):DW X WX (.BoolOp .Or (a::b::rest) pos) (λ ρ=>(ft ρ).bind λ k=>if k=true then .ok true else gt ρ):=by
 obtain⟨ta,a1,a2⟩:=ha;obtain⟨tb,b1,b2⟩:=hb;refine⟨_,pw_or a1 b1,λ P0 P σ H Q ρ E h=>?_⟩;dsimp only at h;refine a2 P0 P σ H _ ρ E ?_;cases e:ft ρ with
 |bad|ex x=>rw[e] at h;exact h
 |ok k =>
  rw[e] at h;intro H1 s1;cases k with
  |true =>
   simp only[M.A7,if_true] at h ⊢;exact h H1 s1
  |false =>
   simp only[M.A7,za8,if_false] at h ⊢;exact b2 P0 P σ H1 _ ρ (E.same s1) (h.same s1)
theorem TJ {op}(ha:DE X WX c a f):DE X WX c (.BoolOp op [a] pos) f:=let ⟨ta,a1,a2⟩:=ha;⟨_,kZ a1,a2⟩
theorem TK {rest:List Expr}(ha:DE X WX c a f)(hb:DE X WX c (.BoolOp .And (b::rest) pos) g):DE X WX c (.BoolOp .And (a::b::rest) pos) (λ ρ=>((f ρ).bind P9).bind λ k=>if k=true then g ρ else .ok (.bl false)):=by
 obtain⟨ta,a1,a2⟩:=ha;obtain⟨tb,b1,b2⟩:=hb;refine⟨_,lA a1 b1,λ P0 P σ H Q ρ E h=>?_⟩;dsimp only at h;refine a2 P0 P σ H _ ρ E ?_;cases e:f ρ with
 |bad|ex x=>rw[e] at h;exact h
 |ok d =>
  rw[e] at h;simp only[M.A7] at h;unfold P9 at h;split at h
  ·rename_i k;intro v H1 s1 hv;refine⟨k,hv.Nb,?_⟩;cases k with
   |true =>
    simp only[M.A7,if_true] at h ⊢;exact b2 P0 P σ H1 _ ρ (E.same s1) (h.same s1)
   |false =>
    simp only[M.A7,za8,if_false] at h ⊢;exact h _ H1 s1 (.bl _)
  ·exact h.elim
theorem rL {rest:List Expr}(ha:DE X WX c a f)(hb:DE X WX c (.BoolOp .Or (b::rest) pos) g):DE X WX c (.BoolOp .Or (a::b::rest) pos) (λ ρ=>((f ρ).bind P9).bind λ k=>if k=true then .ok (.bl true) else g ρ):=by
 obtain⟨ta,a1,a2⟩:=ha;obtain⟨tb,b1,b2⟩:=hb;refine⟨_,pW a1 b1,λ P0 P σ H Q ρ E h=>?_⟩;dsimp only at h;refine a2 P0 P σ H _ ρ E ?_;cases e:f ρ with
 |bad|ex x=>rw[e] at h;exact h
 |ok d =>
  rw[e] at h;simp only[M.A7] at h;unfold P9 at h;split at h
  ·rename_i k;intro v H1 s1 hv;refine⟨k,hv.Nb,?_⟩;cases k with
   |true =>
    simp only[M.A7,if_true] at h ⊢;exact h _ H1 s1 (.bl _)
   |false =>
    simp only[M.A7,za8,if_false] at h ⊢;exact b2 P0 P σ H1 _ ρ (E.same s1) (h.same s1)
  ·exact h.elim
theorem mO (ha:DE X WX c a f):DE X WX c (.UnaryOp .Not a pos) (λ ρ=>((f ρ).bind P9).bind λ k=>.ok (.bl (!k))):=by
 obtain⟨ta,a1,a2⟩:=ha;refine⟨_,lB a1,λ P0 P σ H Q ρ E h=>?_⟩;dsimp only at h;refine a2 P0 P σ H _ ρ E ?_;cases e:f ρ with
 |bad|ex x=>rw[e] at h;exact h
 |ok d =>
  rw[e] at h;simp only[M.A7] at h;unfold P9 at h;split at h
  ·rename_i k;exact λ v H1 s1 hv=>⟨k,hv.Nb,h _ H1 s1 (.bl _)⟩
  ·exact h.elim
theorem vH (ha:DE X WX c a f):DE X WX c (.UnaryOp .USub a pos) (λ ρ=>(f ρ).bind λ d=>match d with | .int i=>.ok (.int (-i)) | _=>.bad):=by
 obtain⟨ta,a1,a2⟩:=ha;refine⟨_,qG lO a1,λ P0 P σ H Q ρ E h=>?_⟩;dsimp only at h;refine a2 P0 P σ H _ ρ E ?_;cases e:f ρ with
 |bad|ex x=>rw[e] at h;exact h
 |ok d =>
  rw[e] at h;simp only[M.A7] at h;split at h
  ·rename_i i;exact λ v H1 s1 hv=>⟨i,hv.int_inv,h _ H1 s1 (.int _)⟩
  ·exact h.elim
theorem Wq {d:Expr}{h:Aa->M D}{op fv:CmpOp}{p q:Int->Int->Bool}(ho:Gp X (compareOp op) (cI λ i j=>.bl (p i j)))(bq:Gp X (compareOp fv) (cI λ i j=>.bl (q i j)))(ha:DE X WX c a f)(hb:DE X WX c b g)(hd:DE X WX c d h)
 (hm:lastMarks [op,fv] [b,d]=false:=by with_unfolding_all rfl):DE X WX c (.Compare a [op,fv] [b,d] pos) (λ ρ=>(f ρ).bind λ x=>(g ρ).bind λ y=>Bo (λ i j=>if p i j=true then (h ρ).bind λ z=>Bo (λ _ k=>.ok (.bl (q j k))) (.int 0) z else .ok (.bl false)) x y):=by
 obtain⟨ta,a1,a2⟩:=ha;obtain⟨tb,b1,b2⟩:=hb;obtain⟨td,d1,d2⟩:=hd;refine⟨_,XW ho bq a1 b1 d1 hm,λ P0 P σ H Q ρ E hh=>?_⟩;dsimp only at hh;refine a2 P0 P σ H _ ρ E ?_;cases e:f ρ with
 |bad|ex x=>rw[e] at hh;exact hh
 |ok x =>
  rw[e] at hh;intro v H1 s1 hv;refine b2 P0 P σ H1 _ ρ (E.same s1) ?_;cases e2:g ρ with
  |bad=>rw[e2] at hh;exact hh
  |ex y=>rw[e2] at hh;exact gV.same (m:=.ex y) hh s1
  |ok y =>
   rw[e2] at hh;simp only[M.A7] at hh;unfold Bo at hh;split at hh
   ·rename_i i j;intro w H2 s2 hw;refine⟨i,j,hv.int_inv,hw.int_inv,p i j,rfl,?_⟩;dsimp only at hh;by_cases hp:p i j=true
    ·rw[if_pos hp] at hh ⊢;refine d2 P0 P σ H2 _ ρ ((E.same s1).same s2) ?_;cases e3:h ρ with
     |bad=>rw[e3] at hh;exact hh
     |ex z=>rw[e3] at hh;exact gV.same (gV.same (m:=.ex z) hh s1) s2
     |ok z =>
      rw[e3] at hh;simp only[M.A7] at hh;cases z with
      |int k=>exact λ u H3 s3 hu=>⟨j,k,hw.int_inv,hu.int_inv,hh _ H3 ((s1.trans s2).trans s3) (.bl _)⟩
      |_=>exact hh.elim
    ·rw[if_neg hp] at hh ⊢;exact hh _ H2 (s1.trans s2) (.bl _)
   ·exact hh.elim
def Lz (K:zy)(WX:Str->Hp->Prop)(r:List V->Hp->VK->Prop)(dF:List D->M D):Prop:=
 ∀(P:Addr->Prop) (H:Hp) (ds:List D) (vs:List V) (Q:VK),(∀a,P a->E6 H a)->Ag K (del H P) vs ds->gV K WX P H Q (dF ds)->r vs H Q
variable {x:Str}{p:Pos}{es:List Expr}{fs:Aa->M (List D)}{id T:String}{r:List V->Hp->VK->Prop}{dF:List D->M D}
theorem Yo {ta:TA}(ha:∀P0 P σ H Q ρ,Ak X.K P0 P H σ ρ->gA X.K WX (Lv c P0 P) H Q (fs ρ)->ta σ H Q)(hr:Lz X.K WX r dF){Q:VK}(E:Ak X.K P0 P H σ ρ)(h:gV X.K WX (Lv c P0 P) H Q ((fs ρ).bind dF)):uX r ta σ H Q:=by
 refine ha P0 P σ H _ ρ E ?_;cases e:fs ρ with
 |bad|ex x=>rw[e] at h;exact h
 |ok ds =>
  rw[e] at h;exact λ vs H1 s1 be=>hr _ H1 ds vs Q (λ a q=>(E.same s1).rD c a q) be (h.same s1)
theorem Jx (hc:G0 X (.builtin id) r)(hr:Lz X.K WX r dF)(hg:Gl X x)(hm:X.mg x=none)(hv:bootBuiltins x=some (.builtin id))(ha:DA X WX c (e::es) fs)(hn:x ≠ "__name__" := by decide)(ba:(x==("__debug__" : Str))=false:=by decide)
 (he:starEach (e::es) X.env=(false,eval e X.env)::starEach es X.env:=by rfl) (hpl:(backTo pos (starEach es X.env)).any (·.1)=false:=by rfl):DE X WX c (.Call (.Name x p) (e::es) [] pos) (λ ρ=>(fs ρ).bind dF):=by
 obtain⟨ta,a1,a2,a3⟩:=ha;exact⟨_,Rp hc hg hm hv a1 hn ba he hpl,λ P0 P σ H Q ρ E h=>Yo a2 hr E h⟩
theorem Wr (hc:G0 X (.type T) r)(hr:Lz X.K WX r dF)(hg:Gl X x)(hm:X.mg x=none)(hv:bootBuiltins x=some (.type T))(ha:DA X WX c (e::es) fs)(hn:x ≠ "__name__" := by decide)(ba:(x==("__debug__" : Str))=false:=by decide)
 (he:starEach (e::es) X.env=(false,eval e X.env)::starEach es X.env:=by rfl) (hpl:(backTo pos (starEach es X.env)).any (·.1)=false:=by rfl):DE X WX c (.Call (.Name x p) (e::es) [] pos) (λ ρ=>(fs ρ).bind dF):=by
 obtain⟨ta,a1,a2,a3⟩:=ha;exact⟨_,KO hc hg hm hv a1 hn ba he hpl,λ P0 P σ H Q ρ E h=>Yo a2 hr E h⟩
noncomputable def Ws (ds:List D):M D:=match ds with
 |[.lst xs]|[.tup xs]=>.ok (.int xs.length)
 |_=>.bad
theorem Ag.one {K:zy}{H:Hp}{vs:List V}{d:D}(h:Ag K H vs [d]):∃v,vs=[v]/\Bu K H v d:=by
 cases h with
 |cons h t=>cases t;exact⟨_,rfl,h⟩
theorem Ag.two {K:zy}{H:Hp}{vs:List V}{d e:D}(h:Ag K H vs [d,e]):∃v w,vs=[v,w]/\Bu K H v d/\Bu K H w e:=by
 cases h with
 |cons h t =>
  obtain⟨w,rfl,hw⟩:=t.one;exact⟨_,w,rfl,h,hw⟩
theorem mP:Lz X.K WX (λ xs H Q=>∃p ys,xs=[.ref p]/\(DF X.K H p ys\/EL X.K H p ys)/\Q (.int ys.length) H) Ws:=by
 intro P H ds vs Q ht hl h;unfold Ws at h;split at h
 ·obtain⟨v,rfl,hv⟩:=hl.one;cases hv with
  |lst hs hh=>exact⟨_,_,rfl,.inl hs.Bg,by rw[hh.length];exact h _ H (Ac.refl H) (.int _)⟩
 ·obtain⟨v,rfl,hv⟩:=hl.one;cases hv with
  |tup hs hh=>exact⟨_,_,rfl,.inr (EL.of (Am hs).2),by rw[hh.length];exact h _ H (Ac.refl H) (.int _)⟩
 ·exact h.elim
theorem Fx (hg:Gl X "len")(hm:X.mg "len" = none)(ha:DE X WX c e f)(hs:starEach [e] X.env=[(false,eval e X.env)]:=by rfl):DE X WX c (.Call (.Name "len" p) [e] [] pos) (λ ρ=>((f ρ).bind λ d=>(M.ok []).bind λ ds=>.ok (d::ds)).bind Ws):=
 Jx Q9 mP hg hm PySem.boot_len (A2 ha A8 hs) (he:=hs)
noncomputable def TM (ds:List D):M D:=match ds with
 |[.lst xs]|[.tup xs]=>.ok (.tup xs)
 |_=>.bad
theorem Yp:Lz X.K WX (λ xs H Q=>∃p ys,xs=[.ref p]/\((DF X.K H p ys/\∀l,H l=none->Q (.ref l) (upd H l (.tup ys)))\/(EL X.K H p ys/\Q (.ref p) H))) TM:=by
 intro P H ds vs Q ht hl h;unfold TM at h;split at h
 ·obtain⟨v,rfl,hv⟩:=hl.one;cases hv with
  |lst hs hh=>exact⟨_,_,rfl,.inl ⟨hs.Bg,λ l hn=>h _ _ (AK hn _) (.tup (Jw hn ht) (hh.mono (AK hn _).del))⟩⟩
 ·obtain⟨v,rfl,hv⟩:=hl.one;cases hv with
  |tup hs hh=>exact⟨_,_,rfl,.inr ⟨EL.of (Am hs).2,h _ H (Ac.refl H) (.tup hs hh)⟩⟩
 ·exact h.elim
theorem Yq (hg:Gl X "tuple")(hm:X.mg "tuple" = none)(ha:DE X WX c e f)(hb:bootBuiltins "tuple" = some (.type "tuple"):=by decide +kernel)(hs:starEach [e] X.env=[(false,eval e X.env)]:=by rfl):DE X WX c (.Call (.Name "tuple" p) [e] [] pos) (λ ρ=>((f ρ).bind λ d=>(M.ok []).bind λ ds=>.ok (d::ds)).bind TM):=
 Wr Oq Yp hg hm hb (A2 ha A8 hs) (he:=hs)
noncomputable def jP:D->String
 | .AF => "NoneType"
 | .bl _ => "bool"
 | .int _ => "int"
 | .str _ => "str"
 | .tup _ => "tuple"
 | .lst _ => "list"
 | .DH _ => "NoneType"
 | .Bd _ _ _ => "dict"
 | .ins _ _ _ => "NoneType"
noncomputable def EJ (T:String)(d:D):Bool:=(jP d==T)||(jP d == "bool" && T == "int")
noncomputable def Jy (T:String)(d:D):M D:=match d with
 | .DH _| .ins _ _ _=>.bad
 |d=>.ok (.bl (EJ T d))
noncomputable def V3:D->Bool
 | .DH _| .ins _ _ _=>true
 |_=>false
theorem RG {T:String}{d:D}(h:V3 d=false):Jy T d=.ok (.bl (EJ T d)):=by cases d<;>first | rfl | cases h
def vI (K:zy)(T:String):List V->Hp->VK->Prop:=λ xs H Q=>∃x d,xs=[x,.ty T]/\Bu K H x d/\V3 d=false/\Q (.bl (EJ T d)) H
theorem Yr {T:String}(hk:∀d:D,PySem.W.kitOne X.K (.type (jP d)) (.type T)=some (EJ T d)):G0 X (.builtin "isinstance") (vI X.K T):=by
 intro pins s σ H xs us Q I r h;obtain⟨x,d,rfl,hd,hx,q⟩:=h;obtain⟨u,w,rfl,rx,bt⟩:=r.two;cases bt;have fin:∀tk,EP X pins σ Q (.bool (EJ T d)) {s with toks:=tk}:=λ tk=>⟨.bl _,H,I.tok tk,rfl,q⟩;have e:=hk d;cases hd with
 |DH _ _|ins _ _ _=>cases hx
 |Gu hs hl =>
  cases rx;obtain⟨⟨o,h1,h2⟩,_,_⟩:=TB I (.inl ⟨_,hs⟩);exact zbs PySem.W.kitx_dict I.Og ⟨o,h1,h2⟩ e (λ z=>nomatch z) fin
 |Hz hs hl =>
  cases rx;obtain⟨⟨o,h1,h2⟩,_,_⟩:=TB I (.inr ⟨_,hs⟩);exact zbs PySem.W.kitx_dict I.Og ⟨o,h1,h2⟩ e (λ z=>nomatch z) fin
 |AF=>cases rx;exact zbs PySem.W.kitx_none I.Og zc7 e (λ z=>nomatch z) fin
 |bl b=>cases rx;exact zbs PySem.W.kitx_bool I.Og zc7 e (λ z=>nomatch z) fin
 |int b=>obtain⟨t,rfl⟩:=rx;exact zbs PySem.W.kitx_int I.Og zc7 e (λ z=>nomatch z) fin
 |str b=>obtain⟨t,rfl⟩:=rx;exact zbs PySem.W.kitx_str I.Og zc7 e (λ z=>nomatch z) fin
 |tup hs hl =>
  cases rx;obtain⟨_,_,⟨o,h1,h2,_⟩,_⟩:=I.tuple (.of hs);exact zbs PySem.W.kitx_tuple I.Og ⟨o,h1,h2⟩ e (λ z=>nomatch z) fin
 |lst hs hl =>
  cases rx;obtain⟨_,_,⟨o,n,h1,h2,_⟩,_⟩:=I.list hs;exact zbs PySem.W.kitx_list I.Og ⟨o,h1,h2⟩ e (λ z=>nomatch z) fin
theorem EV {T:String}{x2:Str}{p2:Pos}(hk:∀d:D,PySem.W.kitOne X.K (.type (jP d)) (.type T)=some (EJ T d))(hg:Gl X "isinstance")(hm:X.mg "isinstance" = none)(jz:Gl X x2)(cL:X.mg x2=none)(xz:bootBuiltins x2=some (.type T))(ha:DE X WX c e f)
 (hb:bootBuiltins "isinstance" = some (.builtin "isinstance"):=by decide +kernel) (aD:x2 ≠ "__name__" := by decide) (qe:(x2==("__debug__" : Str))=false:=by decide) (hs:starEach [e,.Name x2 p2] X.env=(false,eval e X.env)::starEach [.Name x2 p2] X.env:=by rfl) (aZ:starEach [.Name x2 p2] X.env=[(false,eval (.Name x2 p2) X.env)]:=by rfl)
 (hpl:(backTo pos (starEach [.Name x2 p2] X.env)).any (·.1)=false:=by rfl):
 DE X WX c (.Call (.Name "isinstance" p) [e,.Name x2 p2] [] pos) (λ ρ=>(f ρ).bind λ d=>Jy T d):=by
 obtain⟨ta,a1,a2⟩:=ha;refine⟨_,Rp (Yr hk) hg hm hb (Bt a1 (Bt (cW (v:=.ty T) jz cL xz rfl aD qe) CO aZ) hs) (by decide) (by decide) hs hpl,λ P0 P σ H Q ρ E h=>?_⟩;dsimp only at h;refine a2 P0 P σ H _ ρ E ?_;cases q:f ρ with
 |bad|ex x=>rw[q] at h;exact h
 |ok d =>
  rw[q] at h;simp only[M.A7] at h;cases hx:V3 d with
  |true=>cases d<;>first|exact h.elim|cases hx
  |false =>
   rw[RG hx] at h;exact λ v H1 s1 hv=>⟨v,d,rfl,hv.mono Ei,hx,h _ H1 s1 (.bl _)⟩
theorem IM (K:zy)(d:D):PySem.W.kitOne K (.type (jP d)) (.type "tuple")=some (EJ "tuple" d):=by cases d<;>rfl
theorem KW (K:zy)(d:D):PySem.W.kitOne K (.type (jP d)) (.type "list")=some (EJ "list" d):=by cases d<;>rfl
theorem Pa (K:zy)(d:D):PySem.W.kitOne K (.type (jP d)) (.type "bool")=some (EJ "bool" d):=by cases d<;>rfl
theorem RH (K:zy)(d:D):PySem.W.kitOne K (.type (jP d)) (.type "int")=some (EJ "int" d):=by cases d<;>rfl
noncomputable def oZ (lo hi:Option Int)(d:D):M D:=match d with
 | .lst ds=>.ok (.lst ((ds.drop (HT.N0 ds.length 0 lo)).take (HT.N0 ds.length ds.length hi-HT.N0 ds.length 0 lo)))
 |_=>.bad
def DO (X:Cx)(WX:Str->Hp->Prop)(c:Bool)(e:Option Expr)(f:Aa->M (Option Int)):Prop:=
 ∃t,PO X e t/\∀P0 P σ H Q ρ,Ak X.K P0 P H σ ρ->(match f ρ with | .ok o=>∀H',Ac H H'->Q o H' | .ex x=>∀H',Ac H H'->WX x H' | .bad=>False)->t σ H Q
theorem V4:DO X WX c none (λ _=>.ok none):=⟨_,dN,λ P0 P σ H Q ρ E h=>h H (Ac.refl H)⟩
noncomputable def wG (d:D):M (Option Int):=match d with | .int i=>.ok (some i) | _=>.bad
theorem Mi (ha:DE X WX c e f):DO X WX c (some e) (λ ρ=>(f ρ).bind wG):=by
 obtain⟨ta,a1,a2⟩:=ha;refine⟨_,dO a1,λ P0 P σ H Q ρ E h=>?_⟩;dsimp only at h;refine a2 P0 P σ H _ ρ E ?_;cases q:f ρ with
 |bad|ex x=>rw[q] at h;exact h
 |ok d =>
  rw[q] at h;cases d with
  |int i=>exact λ v H1 s1 hv=>⟨i,hv.int_inv,h H1 s1⟩
  |_=>exact h.elim
end
inductive Out where
 |ret (d:D)|next (ρ:Aa)|brk (ρ:Aa)|cont (ρ:Aa)|CN (c:Cl)|Fg (t:OT) (ρ:Aa)
def Tr (P0 P:Addr->Prop)(H:Hp)(P':Addr->Prop)(H':Hp):Prop:=Ac (del H P) (del H' P')/\∀a,P0 a->H' a=H a
theorem Tr.refl {P0 P:Addr->Prop}{H:Hp}:Tr P0 P H P H:=⟨Ac.refl _,λ _ _=>rfl⟩
theorem Tr.trans {P0 P P1 P2:Addr->Prop}{H H1 H2:Hp}(a:Tr P0 P H P1 H1)(b:Tr P0 P1 H1 P2 H2):Tr P0 P H P2 H2:=⟨a.1.trans b.1,λ x h=>(b.2 x h).trans (a.2 x h)⟩
theorem Ak.tr {K:zy}{P0:Ds}{P:Addr->Prop}{H H':Hp}{σ:St}{ρ:Aa}(E:Ak K P0 P H σ ρ)(e:Ac H H'):Tr P0 P H P H':=
 ⟨e.del,λ a h=>by obtain⟨o,q,_⟩:=E.C3 a (E.sub a h);rw[e a o q,q]⟩
def gS (K:zy)(WX:Str->Hp->Prop)(P0:Ds)(P:Addr->Prop)(H:Hp)(Z:Ends):M Out->Prop
 | .ok (.ret d)=>∀v H' P',Tr P0 P H P' H'->Bu K (del H' P0) v d->Z.rt v H'
 | .ok (.next ρ)=>∀σ' H' P',Tr P0 P H P' H'->Ak K P0 P' H' σ' ρ->Z.nx σ' H'
 | .ok (.brk ρ)=>∀σ' H' P',Tr P0 P H P' H'->Ak K P0 P' H' σ' ρ->Z.bk σ' H'
 | .ok (.cont ρ)=>∀σ' H' P',Tr P0 P H P' H'->Ak K P0 P' H' σ' ρ->Z.ct σ' H'
 | .ok (.CN c)=>∀v fp H' P',Tr P0 P H P' H'->(∀a,P0 a->P' a)->(∀a,P' a->E6 H' a)->D1 K H' P' c v fp->(∀a∈fp,P' a/\¬ P0 a)->fp.Nodup->Z.rt v H'
 | .ok (.Fg t ρ)=>∀v fp σ' H' P',Tr P0 P H P' H'->Ak K P0 P' H' σ' ρ->BQ K H' P' v t fp->fp.Nodup->(∀a∈fp,P' a/\¬ P0 a/\∀(j:Nat) c v' fq,ρ[j]?=some (some c)->σ'[j]?=some (some v')->D1 K H' P' c v' fq->a∉fq)->Z.rt v H'
 | .ex x=>∀H' P',Tr P0 P H P' H'->WX x H'
 | .bad=>False
theorem gS.tr {K:zy}{WX:Str->Hp->Prop}{P0:Ds}{P P':Addr->Prop}{H H':Hp}{Z:Ends}{m:M Out}(h:gS K WX P0 P H Z m)(t:Tr P0 P H P' H'):gS K WX P0 P' H' Z m:=by
 cases m with
 |bad=>exact h
 |ex x=>exact λ H2 P2 t2=>h H2 P2 (t.trans t2)
 |ok o =>
  cases o with
  |ret d=>exact λ v H2 P2 t2 hv=>h v H2 P2 (t.trans t2) hv
  |next ρ|brk ρ|cont ρ=>exact λ σ2 H2 P2 t2 hv=>h σ2 H2 P2 (t.trans t2) hv
  |CN c=>exact λ v fp H2 P2 t2=>h v fp H2 P2 (t.trans t2)
  |Fg c ρ=>exact λ v fp σ2 H2 P2 t2=>h v fp σ2 H2 P2 (t.trans t2)
def DS (X:Cx)(WX:Str->Hp->Prop)(st:Stmt)(g:Aa->M Out):Prop:=
 ∃t,PS X st t/\∀P0 P σ H Z ρ,Ak X.K P0 P H σ ρ->gS X.K WX P0 P H Z (g ρ)->t Z σ H
def Ta (X:Cx)(WX:Str->Hp->Prop)(st:List Stmt)(g:Aa->M Out):Prop:=
 ∃t,UN X st t/\∀P0 P σ H Z ρ,Ak X.K P0 P H σ ρ->gS X.K WX P0 P H Z (g ρ)->t Z σ H
noncomputable def Ys (m:M Out)(k:Aa->M Out):M Out:=match m with
 | .ok (.next ρ)=>k ρ
 |m=>m
section
variable {X:Cx}{WX:Str->Hp->Prop}{c:Bool}{P0:Ds}{P:Addr->Prop}{H:Hp}{σ:St}{ρ:Aa}{a b e:Expr}{f g:Aa->M D}{ft gt:Aa->M Bool}{pos:Pos}{st:Stmt}{rest:List Stmt}{g1 g2:Aa->M Out}
theorem Ay:Ta X WX [] (λ ρ=>.ok (.next ρ)):=⟨_,cY,λ P0 P σ H Z ρ E h=>h σ H P Tr.refl E⟩
theorem A5 (h:DS X WX st g1):Ta X WX [st] g1:=let ⟨t,h1,h2⟩:=h;⟨_,cZ h1,h2⟩
theorem A4 (h:DS X WX st g1)(hr:Ta X WX rest g2):Ta X WX (st::rest) (λ ρ=>Ys (g1 ρ) g2):=by
 obtain⟨t,h1,h2⟩:=h;obtain⟨u,r1,r2⟩:=hr;refine⟨_,XI h1 r1,λ P0 P σ H Z ρ E h=>?_⟩;dsimp only at h;refine h2 P0 P σ H {Z with nx:=u Z} ρ E ?_;cases q:g1 ρ with
 |bad|ex x=>rw[q] at h;exact h
 |ok o =>
  rw[q] at h;cases o with
  |ret d|brk d|cont d|CN d|Fg d ρ2=>exact h
  |next ρ'=>exact λ σ' H' P' t E'=>r2 P0 P' σ' H' Z ρ' E' (gS.tr h t)
theorem Qg (ha:DE X WX false e f):DS X WX (.Return (some e) pos) (λ ρ=>(f ρ).bind λ d=>.ok (.ret d)):=by
 obtain⟨ta,a1,a2⟩:=ha;refine⟨_,Te a1,λ P0 P σ H Z ρ E h=>?_⟩;dsimp only at h;refine a2 P0 P σ H _ ρ E ?_;cases q:f ρ with
 |bad=>rw[q] at h;exact h
 |ex x=>rw[q] at h;exact λ H' s=>h H' P (E.tr s)
 |ok d=>rw[q] at h;exact λ v H' s hv=>h v H' P (E.tr s) hv
theorem B7 {c:Expr}{sa sb:List Stmt}(hc:DT X WX c ft)(ha:Ta X WX sa g1)(hb:Ta X WX sb g2):DS X WX (.If c sa sb pos) (λ ρ=>(ft ρ).bind λ k=>if k=true then g1 ρ else g2 ρ):=by
 obtain⟨tc,c1,c2⟩:=hc;obtain⟨ta,a1,a2⟩:=ha;obtain⟨tb,b1,b2⟩:=hb;refine⟨_,qA c1 a1 b1,λ P0 P σ H Z ρ E h=>?_⟩;dsimp only at h;refine c2 P0 P σ H _ ρ E ?_;cases q:ft ρ with
 |bad=>rw[q] at h;exact h
 |ex x=>rw[q] at h;exact λ H' s=>h H' P (E.tr s)
 |ok k =>
  rw[q] at h;intro H1 s1;cases k with
  |true =>
   simp only[M.A7,if_true] at h ⊢;exact a2 P0 P σ H1 Z ρ (E.same s1) (h.tr (E.tr s1))
  |false =>
   simp only[M.A7,za8,if_false] at h ⊢;exact b2 P0 P σ H1 Z ρ (E.same s1) (h.tr (E.tr s1))
theorem get_set {α:Type}{l:List α}{i j:Nat}{x y:α}(h:(l.set i x)[j]?=some y):(i=j/\i<l.length/\x=y)\/(i≠j/\l[j]?=some y):=by
 by_cases e:i=j
 ·subst e;rw[List.getElem?_set_self'] at h;cases q:l[i]? with
  |none=>rw[q] at h;cases h
  |some z =>
   rw[q] at h;exact .inl ⟨rfl,(zY.mp q).1,by simpa using h⟩
 ·rw[zap e] at h;exact .inr ⟨e,h⟩
theorem Ak.Wt {K:zy}(E:Ak K P0 P H σ ρ){i:Nat}{v:V}{d:D}(hv:Bu K (del H P) v d):Ak K P0 P H (σ.set i (some v)) (ρ.set i (some (.val d))):=by
 have gs:∀ {j:Nat},i≠j->(σ.set i (some v))[j]?=σ[j]? :=λ h=>zap h;refine⟨E.sub,E.C3,λ j e h=>?_,λ j c h io=>?_,λ j k c c' u u' fp ak h1 h2 h3 h4 h5 h6 af=>?_,by rw[zb3,zb3];exact E.len,λ j c n h hp=>?_⟩
 rotate_left 3
 ·rcases get_set h with ⟨rfl,hl,e1⟩|⟨af,h⟩
  ·cases e1;cases hp
  ·rw[gs af];exact E.pin j c n h hp
 ·rcases get_set h with ⟨rfl,hl,e1⟩|⟨af,h⟩
  ·cases e1;exact⟨v,zab (by rw[E.len];exact hl),hv⟩
  ·obtain⟨w,h1,h2⟩:=E.val j e h;exact⟨w,by rw[gs af];exact h1,h2⟩
 ·rcases get_set h with ⟨rfl,hl,e1⟩|⟨af,h⟩
  ·cases e1;cases io
  ·obtain⟨w,fp,h1,h2⟩:=E.ows j c h io;exact⟨w,fp,by rw[gs af];exact h1,h2⟩
 ·rcases get_set h1 with ⟨rfl,hl,e1⟩|⟨c5,h1⟩
  ·cases e1;exact h5.elim
  ·rcases get_set h2 with ⟨rfl,hl,e1⟩|⟨aD,h2⟩
   ·cases e1;exact h6.elim
   ·rw[gs c5] at h3;rw[gs aD] at h4;exact E.apart j k c c' u u' fp ak h1 h2 h3 h4 h5 h6 af
theorem Ak.Yt {K:zy}(E:Ak K P0 P H σ ρ){P':Addr->Prop}{H':Hp}{i:Nat}{v:V}{c:Cl}{fp:List Addr}(hs:∀a,P a->P' a)(ht:∀a,P' a->E6 H' a)(sm:Ac (del H P) (del H' P'))
 (keep:∀(j:Nat) c' v' ak,i≠j->ρ[j]?=some (some c')->σ[j]?=some (some v')->D1 K H P c' v' ak->∀a∈ak,H' a=H a/\a∉fp)
 (new:D1 K H' P' c v fp) (hp:∀a∈fp,P' a/\¬ P0 a) (nd:fp.Nodup) (gl:∀n,P7 c=some n->v=.ref (P0.g n):=by intro n z;cases z):Ak K P0 P' H' (σ.set i (some v)) (ρ.set i (some c)):=by
 have gs:∀ {j:Nat},i≠j->(σ.set i (some v))[j]?=σ[j]? :=λ h=>zap h;refine⟨λ a h=>hs a (E.sub a h),ht,λ j e h=>?_,λ j c' h io=>?_,λ j k c1 c2 u u' a9 bY h1 h2 h3 h4 h5 h6 af=>?_,by rw[zb3,zb3];exact E.len,λ j c' n h hp=>?_⟩
 rotate_left 3
 ·rcases get_set h with ⟨rfl,hl,e1⟩|⟨af,h⟩
  ·cases e1;rw[zab (by rw[E.len];exact hl),gl n hp]
  ·rw[gs af];exact E.pin j c' n h hp
 ·rcases get_set h with ⟨rfl,hl,e1⟩|⟨af,h⟩
  ·cases e1;exact new.elim
  ·obtain⟨w,h1,h2⟩:=E.val j e h;exact⟨w,by rw[gs af];exact h1,h2.mono sm⟩
 ·rcases get_set h with ⟨rfl,hl,e1⟩|⟨af,h⟩
  ·cases e1;exact⟨v,fp,zab (by rw[E.len];exact hl),new,hp,nd⟩
  ·obtain⟨w,fq,h1,h2,h3,h4⟩:=E.ows j c' h io;exact⟨w,fq,by rw[gs af];exact h1,h2.move sm λ a ha=>(keep j c' w fq af h h1 h2 a ha).1,λ a ha=>⟨hs a (h3 a ha).1,(h3 a ha).2⟩,h4⟩
 ·have back:∀(l:Nat) (d:Cl) (w:V) (fq:List Addr),i≠l->ρ[l]?=some (some d)->σ[l]?=some (some w)->D1 K H' P' d w fq->∃fr,D1 K H P d w fr/\fr=fq:=λ l d w fq hn hk sk ho=>by
   have io:Ij d=true:=by cases d<;>first|rfl|exact ho.elim
   obtain⟨w',bY,s2,o2,_⟩:=E.ows l d hk io;rw[sk] at s2;cases s2;exact⟨bY,o2,(o2.move sm λ a ha=>(keep l d w bY hn hk sk o2 a ha).1).Cy ho⟩
  rcases get_set h1 with ⟨rfl,hl,e1⟩|⟨c5,h1⟩
  ·cases e1;rw[zab (by rw[E.len];exact hl)] at h3;cases h3;rcases get_set h2 with ⟨e,_⟩|⟨aD,h2⟩
   ·exact (af e).elim
   ·rw[gs aD] at h4;obtain⟨fr,o,rfl⟩:=back k c2 u' bY aD h2 h4 h6;intro a ha hb;rw[new.Cy h5] at keep;exact (keep k c2 u' fr aD h2 h4 o a hb).2 ha
  ·rw[gs c5] at h3;obtain⟨fr,o,rfl⟩:=back j c1 u a9 c5 h1 h3 h5;rcases get_set h2 with ⟨rfl,hl,e1⟩|⟨aD,h2⟩
   ·cases e1;rw[zab (by rw[E.len];exact hl)] at h4;cases h4;intro a ha;rw[new.Cy h6] at keep;exact (keep j c1 u fr c5 h1 h3 o a ha).2
   ·rw[gs aD] at h4;obtain⟨qg,o2,rfl⟩:=back k c2 u' bY aD h2 h4 h6;exact E.apart j k c1 c2 u u' fr qg h1 h2 h3 h4 o o2 af
theorem Ak.rM {K:zy}(E:Ak K P0 P H σ ρ){P':Addr->Prop}{H':Hp}{i:Nat}{v:V}{c:Cl}{fp:List Addr}(hs:∀a,P0 a->P' a)(ht:∀a,P' a->E6 H' a)(sm:Ac (del H P) (del H' P'))
 (keep:∀(j:Nat) c' v' ak,i≠j->ρ[j]?=some (some c')->σ[j]?=some (some v')->D1 K H P c' v' ak->∀a∈ak,H' a=H a/\a∉fp/\P' a)
 (new:D1 K H' P' c v fp) (hp:∀a∈fp,P' a/\¬ P0 a) (nd:fp.Nodup) (gl:∀n,P7 c=some n->v=.ref (P0.g n):=by intro n z;cases z):Ak K P0 P' H' (σ.set i (some v)) (ρ.set i (some c)):=by
 have gs:∀ {j:Nat},i≠j->(σ.set i (some v))[j]?=σ[j]? :=λ h=>zap h;refine⟨hs,ht,λ j e h=>?_,λ j c' h io=>?_,λ j k c1 c2 u u' a9 bY h1 h2 h3 h4 h5 h6 af=>?_,by rw[zb3,zb3];exact E.len,λ j c' n h hp=>?_⟩
 rotate_left 3
 ·rcases get_set h with ⟨rfl,hl,e1⟩|⟨af,h⟩
  ·cases e1;rw[zab (by rw[E.len];exact hl),gl n hp]
  ·rw[gs af];exact E.pin j c' n h hp
 ·rcases get_set h with ⟨rfl,hl,e1⟩|⟨af,h⟩
  ·cases e1;exact new.elim
  ·obtain⟨w,h1,h2⟩:=E.val j e h;exact⟨w,by rw[gs af];exact h1,h2.mono sm⟩
 ·rcases get_set h with ⟨rfl,hl,e1⟩|⟨af,h⟩
  ·cases e1;exact⟨v,fp,zab (by rw[E.len];exact hl),new,hp,nd⟩
  ·obtain⟨w,fq,h1,h2,h3,h4⟩:=E.ows j c' h io;exact⟨w,fq,by rw[gs af];exact h1,h2.move sm λ a ha=>(keep j c' w fq af h h1 h2 a ha).1,λ a ha=>⟨(keep j c' w fq af h h1 h2 a ha).2.2,(h3 a ha).2⟩,h4⟩
 ·have back:∀(l:Nat) (d:Cl) (w:V) (fq:List Addr),i≠l->ρ[l]?=some (some d)->σ[l]?=some (some w)->D1 K H' P' d w fq->∃fr,D1 K H P d w fr/\fr=fq:=λ l d w fq hn hk sk ho=>by
   have io:Ij d=true:=by cases d<;>first|rfl|exact ho.elim
   obtain⟨w',bY,s2,o2,_⟩:=E.ows l d hk io;rw[sk] at s2;cases s2;exact⟨bY,o2,(o2.move sm λ a ha=>(keep l d w bY hn hk sk o2 a ha).1).Cy ho⟩
  rcases get_set h1 with ⟨rfl,hl,e1⟩|⟨c5,h1⟩
  ·cases e1;rw[zab (by rw[E.len];exact hl)] at h3;cases h3;rcases get_set h2 with ⟨e,_⟩|⟨aD,h2⟩
   ·exact (af e).elim
   ·rw[gs aD] at h4;obtain⟨fr,o,rfl⟩:=back k c2 u' bY aD h2 h4 h6;intro a ha hb;rw[new.Cy h5] at keep;exact (keep k c2 u' fr aD h2 h4 o a hb).2.1 ha
  ·rw[gs c5] at h3;obtain⟨fr,o,rfl⟩:=back j c1 u a9 c5 h1 h3 h5;rcases get_set h2 with ⟨rfl,hl,e1⟩|⟨aD,h2⟩
   ·cases e1;rw[zab (by rw[E.len];exact hl)] at h4;cases h4;intro a ha;rw[new.Cy h6] at keep;exact (keep j c1 u fr c5 h1 h3 o a ha).2.1
   ·rw[gs aD] at h4;obtain⟨qg,o2,rfl⟩:=back k c2 u' bY aD h2 h4 h6;exact E.apart j k c1 c2 u u' fr qg h1 h2 h3 h4 o o2 af
theorem Nc {α:Type}:∀ {l:List α}{i:Nat}{x:α},l[i]?=some x->l.set i x=l
 |[],_,_,h=>by cases h
 |y::r,0,x,h=>by cases h;rfl
 |y::r,i+1,x,h=>by rw[zP,Nc (by simpa using h)]
theorem Ak.mut {K:zy}(E:Ak K P0 P H σ ρ){i p:Nat}{xs:List V}{ds j0:List D}(ho:ρ[i]?=some (some (.own ds)))(hs:σ[i]?=some (some (.ref p)))(pP:P p)(my:¬ P0 p)(hx:Ag K (del H P) xs j0):
 Ak K P0 P (upd H p (.lst xs)) σ (ρ.set i (some (.own j0)))/\Tr P0 P H P (upd H p (.lst xs)):=by
 have sd:del (upd H p (.lst xs)) P=del H P:=by
  funext b;by_cases hb:P b
  ·rw[Eh hb,Eh hb]
  ·rw[Az hb,Az hb,Ab (λ z=>hb (by rw[z];exact pP))]
 have sm:Ac (del H P) (del (upd H p (.lst xs)) P):=by rw[sd];exact Ac.refl _
 obtain⟨v,fp,s1,o1,_⟩:=E.ows i _ ho rfl;rw[hs] at s1;cases s1;have key:=E.Yt (P':=P) (H':=upd H p (.lst xs)) (i:=i) (v:=.ref p) (c:=.own j0) (fp:=[p]) (λ a h=>h) (λ a h=>?_) sm (λ j c' v' ak af h1 h2 h3 a ha=>?_) ⟨p,xs,rfl,rfl,Aj,by rw[sd];exact hx⟩ (λ a ha=>by rw[zS.mp ha];exact⟨pP,my⟩) (by simp)
 ·rw[Nc hs] at key;exact⟨key,sm,λ a h=>by rw[Ab (λ z=>my (by rw[<-z];exact h))]⟩
 ·by_cases ha:a=p
  ·subst ha;exact E6.lst Aj
  ·unfold E6;rw[Ab ha];exact E.C3 a h
 ·obtain⟨p',dL,e,rfl,_⟩:=o1;cases e;have hn:a≠p:=λ z=>E.apart j i c' _ v' _ ak [p] h1 ho h2 hs h3 ⟨p,dL,rfl,rfl,by assumption⟩ (zao af) a ha (by rw[z];exact zS.mpr rfl);exact⟨Ab hn,λ z=>hn (zS.mp z)⟩
theorem Ak.grow {K:zy}(E:Ak K P0 P H σ ρ){i p:Nat}{xs:List V}{ds:List D}{v:V}{d:D}(ho:ρ[i]?=some (some (.own ds)))(hs:σ[i]?=some (some (.ref p)))(hp:H p=some (.lst xs))(pP:P p)(my:¬ P0 p)(hx:Ag K (del H P) xs ds)(hv:Bu K (del H P) v d):
 Ak K P0 P (upd H p (.lst (xs++[v]))) σ (ρ.set i (some (.own (ds++[d]))))/\Tr P0 P H P (upd H p (.lst (xs++[v]))):=E.mut ho hs pP my (hx.snoc hv)
theorem AV (i:Nat){x:Str}{pos':Pos}(hN:X.N.Nodup)(hi:X.N[i]?=some x)(hx:Loc X.env.scope x)(ha:DE X WX true e f)(hs:swapsWith e (some (.Name x pos')) pos.line X.env=pure false:=by rfl)(hf:X.fn x=true\/X.env.scope.names.lookup x=some .local:=by first | exact .inl rfl | exact .inr rfl | assumption):
 DS X WX (.Assign [.Name x pos'] e pos) (λ ρ=>(f ρ).bind λ d=>.ok (.next (ρ.set i (some (.val d))))):=by
 obtain⟨ta,a1,a2⟩:=ha;refine⟨_,XO hN hi hx a1 hs hf,λ P0 P σ H Z ρ E h=>?_⟩;dsimp only at h;refine a2 P0 P σ H _ ρ E ?_;cases q:f ρ with
 |bad=>rw[q] at h;exact h
 |ex x=>rw[q] at h;exact λ H' s=>h H' P (E.tr s)
 |ok d=>rw[q] at h;exact λ v H' s hv=>h _ H' P (E.tr s) ((E.same s).Wt hv)
noncomputable def Wu (i:Nat)(ρ:Aa)(m:M D):M Out:=match ρ[i]? with
 |some (some (.own ds))=>m.bind λ d=>if ds.length<1000 then .ok (.next (ρ.set i (some (.own (ds++[d]))))) else .bad
 |_=>.bad
theorem KY (i:Nat){x:Str}{p1 apos ae:Pos}(hv:PE X (.Name x p1) (Oj i))(ha:DE X WX true e f)(hs:starEach [e] X.env=[(false,eval e X.env)]:=by rfl)
 (bW:swapsWith (.Call (.Attribute (.Name x p1) "append" apos) [e] [] ae) none pos.line X.env=pure false:=by rfl)
 (ay:attributeBase (.Name x p1) "append" X.env (eval (.Name x p1) X.env)=eval (.Name x p1) X.env:=by rfl)
 (bi:((backTo ae (starEach [e] X.env)).all (λ x => !x.1)&&(backToKw ae (keywordEach [] X.env)).all (λ x=>x.1.isSome)&&decide (([e]:List Expr).length+([]:List Keyword).length+(if ([]:List Keyword).isEmpty then 0 else 1)<30))=true:=by rfl)
 (az:(apos.endLine==ae.line)=true:=by rfl) (ar:(backTo ae (starEach [] X.env)).any (·.1)=false:=by rfl):
 DS X WX (.Expr (.Call (.Attribute (.Name x p1) "append" apos) [e] [] ae) pos) (λ ρ=>Wu i ρ (f ρ)):=by
 obtain⟨ta,a1,a2⟩:=ha;refine⟨_,Jp (UX PySem.F.plainAttrs_list PySem.F.slot_list_append PySem.F.type_list_append We hv (Bt a1 CO hs) ay bi az hs ar) bW,λ P0 P σ H Z ρ E h=>?_⟩;dsimp only at h;unfold Wu at h;split at h
 ·rename_i ds e1;obtain⟨p,xs,h1,h2,h3,h4,h5⟩:=E.own i ds e1;refine⟨_,h1,.inl ⟨rfl,xs,.of h2⟩,?_⟩;refine a2 P0 P σ H _ ρ E ?_;cases q:f ρ with
  |bad=>rw[q] at h;exact h
  |ex y=>rw[q] at h;exact λ H' s=>h H' P (E.tr s)
  |ok d =>
   rw[q] at h;simp only[M.A7] at h;by_cases hl:ds.length<1000
   ·rw[if_pos hl] at h;intro v H1 s1 hv;have E1:=E.same s1;have gj:H1 p=some (.lst xs):=s1 _ _ h2;refine⟨p,xs,v,rfl,rfl,gj,AB (by rw[h5.length];omega),?_⟩;obtain⟨E2,t2⟩:=E1.grow e1 h1 gj h3 h4 (h5.mono s1.del) hv;exact h _ _ _ ((E.tr s1).trans t2) E2
   ·rw[if_neg hl] at h;exact h.elim
 ·exact h.elim
end
def gG (K:zy)(P0:Ds)(P:Addr->Prop)(H:Hp)(Q:St->Hp->Prop):M Aa->Prop
 | .ok ρ=>∀σ',Ak K P0 P H σ' ρ->Q σ' H
 |_=>False
def DG (X:Cx)(tg:Expr)(gt:D->Aa->M Aa):Prop:=
 ∃g:TG,PG X tg g/\∀P0 P σ H Q ρ v d,Ak X.K P0 P H σ ρ->Bu X.K (del H P) v d->gG X.K P0 P H Q (gt d ρ)->g v σ H Q
def tQ (X:Cx)(x3:List Expr)(gt:List D->Aa->M Aa):Prop:=
 ∃g:Xs,oW X x3 g/\∀P0 P σ H Q ρ v d,Ak X.K P0 P H σ ρ->Ag X.K (del H P) v d->gG X.K P0 P H Q (gt d ρ)->g v σ H Q
structure RI (K:zy)(J:It)(P:Addr->Prop)(H:Hp)(ds:List D):Prop where
 go:∀(i:Nat) P' H',Ac (del H P) (del H' P')->i<ds.length->J.go i H'
 stop:∀(i:Nat) P' H',Ac (del H P) (del H' P')->ds.length<=i->J.stop i H'
 cH:∀(i:Nat) P' H' v eh d,Ac (del H P) (del H' P')->(∀a,P' a->E6 H' a)->ds[i]?=some d->J.cH i H' v eh->Ac H' eh/\Bu K (del eh P') v d
def DI (X:Cx)(WX:Str->Hp->Prop)(tg iter:Expr)(f:Aa->M (List D)):Prop:=
 ∃wi,PI X tg iter wi/\∀P0 P σ H R ρ,Ak X.K P0 P H σ ρ->(match f ρ with | .ok ds=>∀J H',Ac H H'->RI X.K J P H' ds->R J H' | .ex x=>∀H',Ac H H'->WX x H' | .bad=>False)->wi σ H R
noncomputable def forM (gt:D->Aa->M Aa)(body:Aa->M Out):List D->Aa->M Out
 |[],ρ=>.ok (.next ρ)
 |d::r,ρ=>match gt d ρ with
  | .ok ρ1=>(match body ρ1 with
   | .ok (.next ρ2)| .ok (.cont ρ2)=>forM gt body r ρ2
   | .ok (.brk ρ2)=>.ok (.next ρ2)
   |m=>m)
  |_=>.bad
section
variable {X:Cx}{WX:Str->Hp->Prop}{c:Bool}{P0:Ds}{P:Addr->Prop}{H:Hp}{σ:St}{ρ:Aa}{a b e tg iter:Expr}{f g:Aa->M D}{ft:Aa->M Bool}{pos:Pos}{gt:D->Aa->M Aa}{dk:List D->Aa->M Aa}{gb:Aa->M Out}{fi:Aa->M (List D)}
theorem AN (i:Nat){x:Str}(hN:X.N.Nodup)(hi:X.N[i]?=some x)(hx:Loc X.env.scope x)(hf:X.fn x=true\/X.env.scope.names.lookup x=some .local:=by first | exact .inl rfl | exact .inr rfl | assumption):DG X (.Name x pos) (λ d ρ=>.ok (ρ.set i (some (.val d)))):=
 ⟨_,Q4 hN hi hx hf,λ P0 P σ H Q ρ v d E hv h=>h _ (E.Wt hv)⟩
theorem Mj:tQ X [] (λ ds ρ=>match ds with | []=>.ok ρ | _=>.bad):=⟨_,UO,λ P0 P σ H Q ρ v d E hv h=>by
 cases hv with
 |nil=>exact⟨rfl,h σ E⟩
 |cons _ _=>exact h.elim⟩
theorem Cs {es:List Expr}(h1:DG X e gt)(h2:tQ X es dk)(hs:(assignEach (e::es) X.env).map (·.2)=assign e X.env::(assignEach es X.env).map (·.2):=by rfl):
 tQ X (e::es) (λ ds ρ=>match ds with|d::r=>(gt d ρ).bind (dk r)|[]=>.bad):=by
 obtain⟨t,a1,a2⟩:=h1;obtain⟨u,b1,b2⟩:=h2;refine⟨_,Rm a1 b1 hs,λ P0 P σ H Q ρ v d E hv h=>?_⟩;cases hv with
 |nil=>exact h.elim
 | @cons x d xs ds hx bZ =>
  refine⟨x,xs,rfl,a2 P0 P σ H _ ρ x d E hx ?_⟩;dsimp only at h;cases q:gt d ρ with
  |bad|ex y=>rw[q] at h;exact h
  |ok ρ1=>rw[q] at h;exact λ σ' E'=>b2 P0 P σ' H Q ρ1 xs ds E' bZ h
theorem Qh {es:List Expr}{k n:Nat}(hc:X.calm=true)(h:tQ X es dk)(hn:(assignEach es X.env).length=n:=by rfl)(aR:(assignEach es X.env).findIdx? (·.1)=none:=by rfl):
 DG X (.Tuple es k pos) (λ d ρ=>match d with | .tup ds=>if ds.length=n then dk ds ρ else .bad|_=>.bad):=by
 obtain⟨t,a1,a2⟩:=h;refine⟨_,XM hc a1 hn aR,λ P0 P σ H Q ρ v d E hv h=>?_⟩;cases hv with
 | @tup a xs ds hs hl =>
  dsimp only at h;by_cases hd:ds.length=n
  ·rw[if_pos hd] at h;exact⟨a,xs,rfl,EL.of (Am hs).2,by rw[hl.length];exact hd,a2 P0 P σ H Q ρ xs ds E hl h⟩
  ·rw[if_neg hd] at h;exact h.elim
 |_=>exact h.elim
theorem mQ (ha:DE X WX true e f)(hg:DG X tg gt)(hs:swapsWithSole [tg] e pos.line X.env=pure false:=by rfl)(hw:swappedStores [tg] e X.env=pure none:=by rfl)(h1:(assignEach [tg] X.env).map (·.2)=[assign tg X.env]:=by rfl):
 DS X WX (.Assign [tg] e pos) (λ ρ=>(f ρ).bind λ d=>match gt d ρ with | .ok ρ'=>.ok (.next ρ')|_=>.bad):=by
 obtain⟨ta,a1,a2⟩:=ha;obtain⟨t,b1,b2⟩:=hg;refine⟨_,Tf a1 b1 hs hw h1,λ P0 P σ H Z ρ E h=>?_⟩;dsimp only at h;refine a2 P0 P σ H _ ρ E ?_;cases q:f ρ with
 |bad=>rw[q] at h;exact h
 |ex x=>rw[q] at h;exact λ H' s=>h H' P (E.tr s)
 |ok d =>
  rw[q] at h;simp only[M.A7] at h;intro v H' s hv;refine b2 P0 P σ H' _ ρ v d (E.same s) hv ?_;cases q2:gt d ρ with
  |ok ρ'=>rw[q2] at h;exact λ σ' E'=>h σ' H' P (E.tr s) E'
  |_=>rw[q2] at h;exact h.elim
theorem Be (ha:DE X WX true e f):DI X WX tg e (λ ρ=>(f ρ).bind λ d=>match d with | .lst ds=>.ok ds | _=>.bad):=by
 obtain⟨ta,a1,a2⟩:=ha;refine⟨_,dA a1,λ P0 P σ H R ρ E h=>?_⟩;dsimp only at h;refine a2 P0 P σ H _ ρ E ?_;cases q:f ρ with
 |bad|ex x=>rw[q] at h;exact h
 |ok d =>
  rw[q] at h;cases d with
  |lst ds =>
   intro v H1 s1 hv;cases hv with
   | @lst a xs _ hs hl =>
    refine⟨a,rfl,⟨xs,hs.Bg⟩,h _ H1 s1 ⟨λ i P' H' s hi=>?_,λ i P' H' s hi=>?_,λ i P' H' v eh d s ht hd y=>?_⟩⟩
    ·obtain⟨x,hx,_⟩:=hl.get (zJ hi);exact⟨xs,x,(s.seq hs).Bg,hx⟩
    ·exact⟨xs,(s.seq hs).Bg,by rw[hl.length];exact hi⟩
    ·obtain⟨rfl,y⟩:=y;obtain⟨x,hx,b7⟩:=hl.get hd;have e:=y xs (s.seq hs).Bg;rw[hx] at e;cases e;exact⟨Ac.refl _,b7.mono s⟩
  |_=>exact h.elim
noncomputable def Cz (lo:Int):Nat->List D
 |0=>[]
 |n+1=>.int lo::Cz (lo+1) n
theorem Bk (lo:Int):∀n:Nat,(Cz lo n).length=n:=by
 intro n;induction n generalizing lo with
 |zero=>rfl
 |succ n ih=>rw[Cz,zO,ih]
theorem BB {lo:Int}{n i:Nat}{d:D}(h:(Cz lo n)[i]?=some d):d=.int (lo+i)/\i<n:=by
 have hi:i<n:=by
  have:=(zY.mp h).1;rw[Bk] at this;exact this
 refine⟨?_,hi⟩;induction n generalizing lo i with
 |zero=>omega
 |succ n ih =>
  cases i with
  |zero=>rw[Cz] at h;simp at h;rw[<-h];simp
  |succ i =>
   rw[Cz,zaa] at h;rw[ih h (by omega)];congr 1;omega
theorem TN {K:zy}{P:Addr->Prop}{H:Hp}(lo:Int)(n:Nat):RI K (tK lo n) P H (Cz lo n):=
 ⟨λ i P' H' _ hi=>by rw[Bk] at hi;exact hi,λ i P' H' _ hi=>by rw[Bk] at hi;exact hi,λ i P' H' v eh d _ _ hd y=>by
  obtain⟨rfl,rfl⟩:=y;obtain⟨rfl,_⟩:=BB hd;exact⟨Ac.refl _,.int _⟩⟩
noncomputable def Wv:D->M (List D)
 | .int j=>@ite _ (-(2^62)<=j/\j<2^62) (zct _) (.ok (Cz 0 j.toNat)) .bad
 |_=>.bad
theorem RJ {j:Int}(h1 : -(2^62)<=j)(h2:j<2^62):Wv (.int j)=.ok (Cz 0 j.toNat):=if_pos ⟨h1,h2⟩
theorem Jz {n:Nat}(h:n<=1000):Wv (.int (n:Int))=.ok (Cz 0 n):=by
 rw[RJ (by omega) (by omega),zax]
theorem Bi {p:Pos}(hg:Gl X "range")(hm:X.mg "range" = none)(ha:DE X WX c a f)(hs:starEach [a] X.env=[(false,eval a X.env)]:=by rfl):
 DI X WX tg (.Call (.Name "range" p) [a] [] pos) (λ ρ=>(f ρ).bind Wv):=by
 obtain⟨ta,a1,a2⟩:=ha;refine⟨_,W6 hg hm (Bt a1 CO hs) hs,λ P0 P σ H R ρ E h=>?_⟩;dsimp only at h;refine a2 P0 P σ H _ ρ E ?_;cases q:f ρ with
 |bad|ex x=>rw[q] at h;exact h
 |ok d =>
  rw[q] at h;cases d with
  |int j =>
   simp only[M.A7] at h;by_cases hj : -(2^62)<=j/\j<2^62
   ·rw[RJ hj.1 hj.2] at h;exact λ v H1 s1 hv=>⟨j,by rw[hv.int_inv],hj.1,hj.2,h _ H1 s1 (TN 0 _)⟩
   ·have e:Wv (.int j)=.bad:=if_neg hj;rw[e] at h;exact h.elim
  |_=>exact h.elim
noncomputable def Ir (k:Nat):List D->List D
 |[]=>[]
 |d::r=>.tup [.int k,d]::Ir (k+1) r
theorem E7 (k:Nat)(ds:List D):(Ir k ds).length=ds.length:=by
 induction ds generalizing k with
 |nil=>rfl
 |cons d r ih=>rw[Ir,zO,zO,ih]
theorem HB {k i:Nat}{ds:List D}{e:D}(h:(Ir k ds)[i]?=some e):∃d,ds[i]?=some d/\e=.tup [.int ((k+i:Nat):Int),d]:=by
 induction ds generalizing k i with
 |nil=>rw[Ir] at h;simp at h
 |cons d r ih =>
  cases i with
  |zero=>rw[Ir] at h;simp at h;exact⟨d,rfl,by rw[<-h];rfl⟩
  |succ i =>
   rw[Ir,zaa] at h;obtain⟨d',h1,h2⟩:=ih h;refine⟨d',by simpa using h1,?_⟩;rw[h2];congr 3;omega
theorem Qi {cp:List Expr}{x1}{bB p:Pos}(hg:Gl X "enumerate")(hm:X.mg "enumerate" = none)(ha:DE X WX true a f)(hb:bootBuiltins "enumerate" = some (.type "enumerate"):=by decide +kernel)(hs:starEach [a] X.env=[(false,eval a X.env)]:=by rfl):
 DI X WX (.Tuple cp x1 bB) (.Call (.Name "enumerate" p) [a] [] pos) (λ ρ=>(f ρ).bind λ d=>match d with | .lst ds=>.ok (Ir 0 ds)|_=>.bad):=by
 obtain⟨ta,a1,a2⟩:=ha;refine⟨_,eI hg hm (Bt a1 CO hs) hb hs,λ P0 P σ H R ρ E h=>?_⟩;dsimp only at h;refine a2 P0 P σ H _ ρ E ?_;cases q:f ρ with
 |bad|ex x=>rw[q] at h;exact h
 |ok d =>
  rw[q] at h;cases d with
  |lst ds =>
   intro v H1 s1 hv;cases hv with
   | @lst a xs _ hs hl =>
    refine⟨a,rfl,⟨xs,hs.Bg⟩,h _ H1 s1 ⟨λ i P' H' s hi=>?_,λ i P' H' s hi=>?_,λ i P' H' v eh d s ht hd y=>?_⟩⟩
    ·rw[E7] at hi;obtain⟨x,hx,_⟩:=hl.get (zJ hi);exact⟨xs,x,(s.seq hs).Bg,hx⟩
    ·rw[E7] at hi;exact⟨xs,(s.seq hs).Bg,by rw[hl.length];exact hi⟩
    ·obtain⟨p,x,hn,rfl,y,rfl⟩:=y;obtain⟨d',aI,rfl⟩:=HB hd;obtain⟨x',hx,b7⟩:=hl.get aI;have e:=y xs (s.seq hs).Bg;rw[hx] at e;cases e;refine⟨AK hn _,.tup (Jw hn ht) (.cons ?_ (.cons ((b7.mono s).mono (AK hn _).del) .nil))⟩;rw[Nat.zero_add];exact .int _
  |_=>exact h.elim
theorem Fh {α:Type}{l:List α}{i:Nat}(h:i<l.length):l.drop i=l[i]::l.drop (i+1):=zbr h
theorem BC {body:List Stmt}(hp:PassesOwn (model X.prog X.w) X.A X.env X.xe)(hc:X.calm=true)(hi:DI X WX tg iter fi)(hg:DG X tg gt)(hb:Ta X WX body gb)(hs:∀x,foldedSetIterable iter X.env x=pure x:=by intro _;rfl):
 DS X WX (.For tg iter body [] pos) (λ ρ=>(fi ρ).bind λ ds=>forM gt gb ds ρ):=by
 obtain⟨wi,i1,i2⟩:=hi;obtain⟨t,a1,a2⟩:=hg;obtain⟨tb,b1,b2⟩:=hb;refine⟨_,lH hp hc i1 a1 b1 hs,λ P0 P σ H Z ρ E h=>?_⟩;dsimp only at h;refine i2 P0 P σ H _ ρ E ?_;cases q:fi ρ with
 |bad=>rw[q] at h;exact h
 |ex x=>rw[q] at h;exact λ H' s=>h H' P (E.tr s)
 |ok ds =>
  rw[q] at h;simp only[M.A7] at h;intro J H1 s1 ok;refine⟨λ i m σ' H'=>m=ds.length-i/\i<=ds.length/\∃P' ρ',Tr P0 P H1 P' H'/\Ak X.K P0 P' H' σ' ρ'/\gS X.K WX P0 P' H' Z (forM gt gb (ds.drop i) ρ'),
   ⟨ds.length,by simp,zak _,P,ρ,Tr.refl,E.same s1,by rw[List.drop_zero];exact h.tr (E.tr s1)⟩,?_⟩
  rintro i m σ' H' ⟨rfl,hi,P',ρ',t',E',g'⟩;by_cases aj:i<ds.length
  ·refine .inr ⟨ok.go i P' H' t'.1 aj,λ σ2 H2=>i+1<=ds.length/\∃P2 ρ2,Tr P0 P H1 P2 H2/\Ak X.K P0 P2 H2 σ2 ρ2/\gS X.K WX P0 P2 H2 Z (forM gt gb (ds.drop (i+1)) ρ2),λ σ2 H2 hq=>⟨ds.length-(i+1),by omega,rfl,hq.1,hq.2⟩,λ v H2 y=>?_⟩;obtain⟨s2,hv⟩:=ok.cH i P' H' v H2 ds[i] t'.1 E'.C3 (zJ aj) y;rw[Fh aj,forM] at g';have E2:=E'.same s2;refine a2 P0 P' σ' H2 _ ρ' v ds[i] E2 hv ?_;cases q1:gt ds[i] ρ' with
   |bad=>rw[q1] at g';exact g'
   |ex x=>rw[q1] at g';exact g'.elim
   |ok ρ1 =>
    rw[q1] at g';dsimp only at g';intro σ3 E3;refine b2 P0 P' σ3 H2 _ ρ1 E3 ?_;have tt:Tr P0 P H1 P' H2:=t'.trans (E'.tr s2);cases q2:gb ρ1 with
    |bad=>rw[q2] at g';exact g'
    |ex x=>rw[q2] at g';exact gS.tr (m:=.ex x) g' (E'.tr s2)
    |ok o =>
     rw[q2] at g';cases o with
     |ret d=>exact gS.tr (m:=.ok (.ret d)) g' (E'.tr s2)
     |CN d=>exact gS.tr (m:=.ok (.CN d)) g' (E'.tr s2)
     |Fg d ρ2=>exact gS.tr (m:=.ok (.Fg d ρ2)) g' (E'.tr s2)
     |next ρ2|cont ρ2=>exact λ σ4 H4 P4 t4 E4=>⟨aj,P4,ρ2,tt.trans t4,E4,gS.tr g' ((E'.tr s2).trans t4)⟩
     |brk ρ2=>exact λ σ4 H4 P4 t4 E4=>g' σ4 H4 P4 ((E'.tr s2).trans t4) E4
  ·have e:i=ds.length:=by omega
   subst e;refine .inl ⟨ok.stop _ P' H' t'.1 (zU _),?_⟩;rw[zc6,forM] at g';exact g' σ' H' P' Tr.refl E'
end
noncomputable def TQ (K:zy)(n:Nat)(F:List D->M D):Sp:=λ vs H Q _=>vs.length=n/\∃P ds,(∀a,P a->E6 H a)/\Ag K (del H P) vs ds/\gV K (λ _ _=>False) P H Q (F ds)
noncomputable def AG (N:List Str)(ds:List D):Aa:=ds.map (λ d=>some (.val d))++zR (N.length-ds.length) none
noncomputable def vJ:Cl->M D
 | .val d=>.ok d
 | .own ds=>.ok (.lst ds)
 | .ow (.rows BF)=>.ok (.lst (BF.map D.lst))
 | .ow (.LZ _ _)=>.bad
 | .ow (.tree _ t)=>.ok (er t)
noncomputable def fin (m:M Out):M D:=match m with
 | .ok (.ret d)=>.ok d
 | .ok (.CN c)=>vJ c
 | .ok (.next _)=>.ok .AF
 |_=>.bad
theorem Pb {K:zy}{P:Addr->Prop}{H:Hp}{N:List Str}{vs:List V}{ds:List D}(ht:∀a,P a->E6 H a)(h:Ag K (del H P) vs ds):Ak K ⟨P,λ _=>0⟩ P H (start N vs) (AG N ds):=by
 have hl:=h.length;have key:∀(i:Nat) (c:Cl),(AG N ds)[i]?=some (some c)->∃d,ds[i]?=some d/\c=.val d:=λ i c e=>by
  unfold AG at e;by_cases hi:i<ds.length
  ·rw[zbf (by simpa using hi),za2] at e;cases q:ds[i]? with
   |none=>rw[q] at e;cases e
   |some d=>rw[q] at e;cases e;exact⟨d,rfl,rfl⟩
  ·rw[zck (by simpa using hi),zc1] at e;split at e<;>cases e
 refine⟨λ _ h=>h,ht,λ i d e=>?_,λ i es e io=>?_,λ i j c c' v v' fp ak e _ _ _ ho _ _=>?_,?_,λ i c n e hp=>?_⟩
 rotate_left 4
 ·obtain⟨d',q,z⟩:=key i _ e;cases z;cases hp
 ·obtain⟨d',q,z⟩:=key i _ e;cases z;obtain⟨v,hv,hd⟩:=h.get q;refine⟨v,?_,hd⟩;unfold start;rw[zbf (by rw[zC];exact (zY.mp hv).1),za2,hv];rfl
 ·obtain⟨d',q,z⟩:=key i _ e;cases z;cases io
 ·obtain⟨d',q,z⟩:=key i _ e;cases z;exact ho.elim
 ·unfold start AG;simp[hl]
theorem DM {P:Addr->Prop}{H H':Hp}{P':Addr->Prop}(t:Tr P P H P' H'):Ac H H':=λ b o e=>by
 by_cases hb:P b
 ·rw[t.2 b hb];exact e
 ·exact (Am (t.1 b o (by rw[Az hb];exact e))).2
theorem Bv.mR {K:zy}{H:Hp}{P P0:Addr->Prop}(hs:∀a,P0 a->P a):∀ {ps:List Addr}{BF:List (List D)},(∀a∈ps,¬ P0 a)->Bv K H P ps BF->Ag K (del H P0) (ps.map V.ref) (BF.map D.lst)
 |_,_,_,.nil=>.nil
 |_,_,k,.cons h r t=>.cons (.lst (.of (show del H P0 _=_ by rw[Az (k _ zD)];exact h)) (r.mono (CP hs))) (Bv.mR hs (λ a ha=>k a (zF _ ha)) t)
theorem eN {K:zy}{WX:Str->Hp->Prop}{P P2:Addr->Prop}{H H':Hp}{Q:VK}{c:Cl}{v:V}{fp:List Addr}(h:gV K WX P H Q (vJ c))(t':Tr P P H P2 H')(hs:∀a,P a->P2 a)(ht:∀a,P2 a->E6 H' a)(ho:D1 K H' P2 c v fp)(hp:∀a∈fp,P2 a/\¬ P a):Q v H':=by
 cases c with
 |val d=>exact ho.elim
 |own ds =>
  obtain⟨p,xs,rfl,rfl,h1,h2⟩:=ho;exact h _ H' (DM t') (.lst (.of (show del H' P p=_ by rw[Az (hp p zD).2];exact h1)) (h2.mono (CP hs)))
 |ow o =>
  cases o with
  |rows BF =>
   obtain⟨p,ps,rfl,rfl,h1,h2⟩:=ho;exact h _ H' (DM t') (.lst (.of (show del H' P p=_ by rw[Az (hp p zD).2];exact h1)) (h2.mR hs λ a ha=>(hp a (zF _ ha)).2))
  |LZ p ds=>exact h.elim
  |tree p t=>exact h _ H' (DM t') (BQ.has hs (λ a ha=>(hp a ha).2) ho)
section
variable {P:Program}{w:World}{K:zy}{mg:Str->Option Value}{base:Heap}
theorem rN {x qual:Str}{st:Stmt}{f:Addr}{fd:FuncData}{N ps:List Str}{k:Nat}(F:Xu K x qual st f fd)(S:Ai N ps (A3 st))(g:Aa->M Out)
 (hb:∀(B4:Value) (A:Around) (outer:List Env) (s:Shared) (H:Hp) (E:XK),BM k (A.deeper (envOfC qual (A3 st) s.heap.objs.size f B4))->Ta (LW dX P w K mg base N qual (A3 st) f B4 A outer s H E).pX (λ _ _=>False) (AE st) g):
 Dr P w K mg base dX (k+1) f fd ps (TQ K ps.length λ ds=>fin (g (AG N ds))):=by
 refine F.ok S (λ vs H Q E h=>h.1) λ B4 A outer s H vs Q E hr h=>?_;obtain⟨hl,P',ds,ht,hv,hq⟩:=h;obtain⟨t,h1,h2⟩:=hb B4 A outer s H E hr;refine⟨t,h1,h2 ⟨P',λ _=>0⟩ P' _ H _ _ (Pb ht hv) ?_⟩;dsimp only at hq;revert hq;cases g (AG N ds) with
 |bad|ex x=>exact λ h=>h.elim
 |ok o =>
  cases o with
  |ret d=>exact λ h v H' P2 t hv=>h v H' (DM t) hv
  |next ρ=>exact λ h σ' H' P2 t E=>h .AF H' (DM t) .AF
  |brk ρ|cont ρ=>exact λ h=>h.elim
  |CN c=>exact λ h v fp H' P2 t hs ht ho hp nd=>eN h t hs ht ho hp
  |Fg d ρ=>exact λ h=>h.elim
end
section
variable {X:Cx}{WX:Str->Hp->Prop}{c:Bool}{P0:Ds}{P:Addr->Prop}{H:Hp}{σ:St}{ρ:Aa}{a b e tg iter:Expr}{f g:Aa->M D}{ft:Aa->M Bool}{pos:Pos}{gt:D->Aa->M Aa}{fi:Aa->M (List D)}{es:List Expr}{fs:Aa->M (List D)}
noncomputable def AS (μ:List (Option Nat))(ρ:Aa):Aa:=μ.map λ o=>o.bind λ i=>match ρ[i]? with | some (some (.val d))=>some (.val d) | _=>none
theorem HC {μ:List (Option Nat)}{ρ:Aa}{j:Nat}{cl:Cl}(h:(AS μ ρ)[j]?=some (some cl)):∃i d,μ[j]?=some (some i)/\ρ[i]?=some (some (.val d))/\cl=.val d:=by
 unfold AS at h;rw[za2] at h;cases q:μ[j]? with
 |none=>rw[q] at h;cases h
 |some o =>
  rw[q] at h;cases o with
  |none=>cases h
  |some i =>
   simp only[zbd,Option.bind_some,Option.some.injEq] at h;split at h
   ·rename_i d e;cases h;exact⟨i,d,rfl,e,rfl⟩
   ·cases h
theorem Ak.block {K:zy}(E:Ak K P0 P H σ ρ)(μ:List (Option Nat)):Ak K P0 P H (ET μ σ) (AS μ ρ):=by
 refine⟨E.sub,E.C3,λ j d h=>?_,λ j ds h io=>?_,λ j k c c' v v' fp ak h _ _ _ ho _ _=>?_,by unfold ET AS;simp,λ j c n h hp=>by obtain⟨i,d',h1,h2,h3⟩:=HC h;subst h3;cases hp⟩
 ·obtain⟨i,d',h1,h2,h3⟩:=HC h;cases h3;obtain⟨v,h4,h5⟩:=E.val i d h2;refine⟨v,?_,h5⟩;unfold ET;rw[za2,h1];simp[h4]
 ·obtain⟨i,d',h1,h2,h3⟩:=HC h;cases h3;cases io
 ·obtain⟨i,d',h1,h2,h3⟩:=HC h;cases h3;exact ho.elim
noncomputable def AX (gt:D->Aa->M Aa)(ft:Aa->M Bool)(fe:Aa->M D):List D->Aa->M (List D)
 |[],_=>.ok []
 |d::r,ρ=>match gt d ρ with
  | .ok ρ1=>(match ft ρ1 with
   | .ok k=>if k=true then (match fe ρ1 with
    | .ok y=>(match AX gt ft fe r ρ with | .ok ys=>.ok (y::ys)|_=>.bad)
    |_=>.bad) else AX gt ft fe r ρ
   |_=>.bad)
  |_=>.bad
def pA (X:Cx)(scope:Scope)(NB:List Str)(μ:List (Option Nat))(tg:Expr)(gt:D->Aa->M Aa):Prop:=
 ∃g:TG,(∀s H C ex,PG (blockOf X s H scope C NB ex) tg g)/\KQ μ g/\∀P0 P σ H Q ρ v d,Ak X.K P0 P H σ ρ->Bu X.K (del H P) v d->gG X.K P0 P H Q (gt d ρ)->g v σ H Q
theorem Bw {scope:Scope}{NB:List Str}{μ:List (Option Nat)}(i:Nat){x:Str}(hN:NB.Nodup)(hi:NB[i]?=some x)(hx:(relabel scope X.env).names.lookup x=some .local)(hm:μ[i]?=some none):pA X scope NB μ (.Name x pos) (λ d ρ=>.ok (ρ.set i (some (.val d)))):=
 ⟨OQ i,λ s H C ex=>Q4 (X:=blockOf X s H scope C NB ex) hN hi (.inl hx) (.inr hx),eG hm,λ P0 P σ H Q ρ v d E hv h=>h _ (E.Wt hv)⟩
def pB (X:Cx)(cs:List Expr)(f:Aa->M Bool):Prop:=
 ∃t,oY X cs t/\∀P0 P σ H Q ρ,Ak X.K P0 P H σ ρ->gT (λ _ _=>False) H Q (f ρ)->t σ H Q
theorem Dk:pB X [] (λ _=>.ok true):=⟨_,eE,λ P0 P σ H Q ρ E h=>h H (Ac.refl H)⟩
theorem Fy (h:DT X (λ _ _=>False) a ft):pB X [a] ft:=let ⟨t,h1,h2⟩:=h;⟨_,eF h1,h2⟩
noncomputable def JA (m:M (List D)):M D:=match m with | .ok ys=>.ok (.lst ys) | _=>.bad
theorem mS {μ:List (Option Nat)}{wi:TI}{gg:TG}{tc:Shared->Hp->Addr->List Addr->TT}{te:Shared->Hp->Addr->List Addr->TE}{fe:Aa->M D}
 (i2:∀P0 P σ H R ρ,Ak X.K P0 P H σ ρ->(match fi ρ with | .ok ds=>∀J H',Ac H H'->RI X.K J P H' ds->R J H' | .ex x=>∀H',Ac H H'->WX x H' | .bad=>False)->wi σ H R)
 (g2:∀P0 P σ H Q ρ v d,Ak X.K P0 P H σ ρ->Bu X.K (del H P) v d->gG X.K P0 P H Q (gt d ρ)->gg v σ H Q)
 (t2:∀s H' C ex P0 P σ H Q ρ,Ak X.K P0 P H σ ρ->gT (λ _ _=>False) H Q (ft ρ)->tc s H' C ex σ H Q)
 (e2:∀s H' C ex P0 P σ H Q ρ,Ak X.K P0 P H σ ρ->gV X.K (λ _ _=>False) (Lv c P0 P) H Q (fe ρ)->te s H' C ex σ H Q) {Q:VK}
 (E:Ak X.K P0 P H σ ρ) (h:gV X.K WX (Lv c P0 P) H Q ((fi ρ).bind λ ds=>if ds.length<=1000 then JA (AX gt ft fe ds (AS μ ρ)) else .bad)):P5 wi μ gg tc te σ H Q:=by
 refine i2 P0 P σ H _ ρ E ?_;cases q:fi ρ with
 |bad|ex x=>rw[q] at h;exact h
 |ok ds =>
  rw[q] at h;simp only[M.A7] at h;by_cases hd:¬ ds.length<=1000
  ·rw[if_neg hd] at h;exact h.elim
  have hd:ds.length<=1000:=by omega
  rw[if_pos hd] at h;intro J H1 s1 ok s C ex;cases qc:AX gt ft fe ds (AS μ ρ) with
  |bad|ex x=>rw[qc] at h;exact h.elim
  |ok total =>
   rw[qc] at h;unfold JA at h;dsimp only at h;have E1:=E.same s1;refine⟨λ i m ys H2=>m=ds.length-i/\i<=ds.length/\ys.length<=i/\Ac H1 H2/\∃es rest,Ag X.K (del H2 (Lv c P0 P)) ys es/\AX gt ft fe (ds.drop i) (AS μ ρ)=.ok rest/\es++rest=total,
    ⟨ds.length,by simp,zak _,zU _,Ac.refl _,[],total,.nil,by rw[List.drop_zero];exact qc,rfl⟩,?_⟩
   rintro i m ys H2 ⟨rfl,hi,hy,s2,es,rest,bw,ad,a4⟩;by_cases aj:i<ds.length
   ·refine .inr ⟨ok.go i P H2 s2.del aj,zc9 hy (AB (by omega)),λ aU H'=>i+1<=ds.length/\aU.length<=i+1/\Ac H1 H'/\∃es rest,Ag X.K (del H' (Lv c P0 P)) aU es/\AX gt ft fe (ds.drop (i+1)) (AS μ ρ)=.ok rest/\es++rest=total,λ aU H' hq=>⟨ds.length-(i+1),by omega,rfl,hq.1,hq.2.1,hq.2.2.1,hq.2.2.2⟩,λ v H3 y=>?_⟩;have E2:=E1.same s2;obtain⟨s3,hv⟩:=ok.cH i P H2 v H3 ds[i] s2.del E2.C3 (zJ aj) y;rw[Fh aj,AX] at ad;have E3:=(E2.same s3).block μ;refine g2 P0 P _ H3 _ (AS μ ρ) v ds[i] E3 hv ?_;cases q1:gt ds[i] (AS μ ρ) with
    |bad|ex x=>rw[q1] at ad;cases ad
    |ok ρ1 =>
     rw[q1] at ad;dsimp only at ad;intro σ4 E4;refine t2 s H1 C ex P0 P σ4 H3 _ ρ1 E4 ?_;cases q2:ft ρ1 with
     |bad|ex x=>rw[q2] at ad;cases ad
     |ok k =>
      rw[q2] at ad;dsimp only at ad;intro H5 s5;cases k with
      |false =>
       simp only[za8,if_false] at ad ⊢;exact⟨aj,by omega,(s2.trans s3).trans s5,es,rest,(bw.mono s3.del).mono s5.del,ad,a4⟩
      |true =>
       simp only[if_true] at ad ⊢;refine e2 s H1 C ex P0 P σ4 H5 _ ρ1 (E4.same s5) ?_;cases q3:fe ρ1 with
       |bad|ex x=>rw[q3] at ad;cases ad
       |ok y' =>
        rw[q3] at ad;dsimp only at ad;cases q4:AX gt ft fe (ds.drop (i+1)) (AS μ ρ) with
        |bad|ex x=>rw[q4] at ad;cases ad
        |ok gm =>
         rw[q4] at ad;cases ad;intro w H6 s6 hw;refine⟨aj,by rw[za7,zb2];omega,((s2.trans s3).trans s5).trans s6,es++[y'],gm,(((bw.mono s3.del).mono s5.del).mono s6.del).snoc hw,rfl,?_⟩;rw[zaw];exact a4
   ·have e:i=ds.length:=by omega
    subst e;rw[zc6,AX] at ad;cases ad;rw[zal] at a4;subst a4;refine .inl ⟨ok.stop _ P H2 s2.del (zU _),λ D0 hn=>h _ _ ((s1.trans s2).trans (AK hn _)) (.lst (.of (Jw hn λ a q=>(E1.same s2).rD c a q)) (bw.mono (AK hn _).del))⟩
theorem JB {scope:Scope}{NB:List Str}{ifs:List Expr}{elt:Expr}{fe:Aa->M D}(i:Nat){x:Str}{px au:Pos}(μ:List (Option Nat))(hN:X.N.Nodup)(jx:X.N[i]?=some x)(hx:Loc X.env.scope x)(hc:X.calm=true)(hi:DI X WX tg iter fi)(aF:IH scope X.env.scope=true)(bu:Ou X.N NB scope μ=true)(hg:pA X scope NB μ tg gt)
 (ht:∀s H C ex,pB (blockOf X s H scope C NB ex) ifs ft) (he:∀s H C ex,DE (blockOf X s H scope C NB ex) (λ _ _=>False) true elt fe)
 (bW:swapsWith (.ListComp elt [⟨tg,iter,ifs,0⟩] scope pos) (some (.Name x px)) au.line X.env=pure true:=by rfl) (hs:∀x,foldedSetIterable iter X.env x=pure x:=by intro _;rfl) (hf:X.fn x=true\/X.env.scope.names.lookup x=some .local:=by first|exact .inl rfl|exact .inr rfl|assumption):
 DS X WX (.Assign [.Name x px] (.ListComp elt [⟨tg,iter,ifs,0⟩] scope pos) au) (λ ρ=>((fi ρ).bind λ ds=>if ds.length<=1000 then JA (AX gt ft fe ds (AS μ ρ)) else .bad).bind λ d=>.ok (.next (ρ.set i (some (.val d))))):=by
 obtain⟨wi,i1,i2⟩:=hi;obtain⟨gg,g1,gk,g2⟩:=hg;refine⟨_,UZ hN jx hx hc i1 aF bu gk (λ s H C ex=>⟨g1 s H C ex,(zB (ht s H C ex)).1,(zB (he s H C ex)).1⟩) bW hs hf,λ P0 P σ H Z ρ E h=>?_⟩;refine mS (c:=true) i2 g2 (λ s H' C ex P0 P σ H Q ρ E h=>(zB (ht s H' C ex)).2 P0 P σ H Q ρ E h) (λ s H' C ex P0 P σ H Q ρ E h=>(zB (he s H' C ex)).2 P0 P σ H Q ρ E h) E ?_;dsimp only at h;revert h;cases ((fi ρ).bind λ ds=>if ds.length<=1000 then JA (AX gt ft fe ds (AS μ ρ)) else .bad) with
 |bad=>exact λ h=>h
 |ex y=>exact λ h H' s=>h H' P (E.tr s)
 |ok d=>exact λ h v H' s hv=>h _ H' P (E.tr s) ((E.same s).Wt hv)
end
section
variable {X:Cx}{WX:Str->Hp->Prop}{c:Bool}{P0:Ds}{P:Addr->Prop}{H:Hp}{σ:St}{ρ:Aa}{a b e k:Expr}{f g:Aa->M D}{te tk:TE}{pos p2:Pos}
noncomputable def xK (x y:D):M D:=match x,y with | .lst ds,.int i=>if i = -1 then .ok (.lst ds.reverse) else .bad | _,_=>.bad
noncomputable def CG:List D->Option (List Int)
 |[]=>some []
 | .int i::r=>(CG r).map (i::·)
 |_=>none
noncomputable def Yu:D->Option (List Int)
 | .tup ds=>CG ds
 |_=>none
noncomputable def Gz:List D->Option (List (D×List Int))
 |[]=>some []
 |d::r=>(Yu d).bind λ k=>(Gz r).map ((d,k)::·)
noncomputable def V5 (l d:D):M D:=match l with
 | .lst ds=>(match Gz ds with|some ks=>.ok (match B0 ks with|none=>d|some b=>b.1)|none=>.bad)
 |_=>.bad
theorem KZ {K:zy}{H:Hp}:∀ {xs:List V}{ds:List D}{ns:List Int},Ag K H xs ds->CG ds=some ns->xs=ns.map V.int
 |_,_,_,.nil,e=>by simp only[CG] at e;cases e;rfl
 |_,_,_,.cons (d:=d) h t,e=>by
  cases d with
  |int i =>
   simp only[CG] at e;cases q:CG _ with
   |none=>rw[q] at e;cases e
   |some ns =>
    rw[q] at e;cases e;rw[h.int_inv,KZ t q];rfl
  |_=>simp[CG] at e
noncomputable abbrev Alike (K:zy)(H:Hp):List (Addr×List Int)->List (D×List Int)->Prop:=Paired λ p q=>p.2=q.2/\Bu K H (.ref p.1) q.1
theorem IP {K:zy}{H:Hp}:∀ {xs:List V}{ds:List D}{ks:List (D×List Int)},Ag K H xs ds->Gz ds=some ks->∃bs:List (Addr×List Int),xs=bs.map (λ b=>V.ref b.1)/\(∀b∈bs,EL K H b.1 (b.2.map V.int))/\Alike K H bs ks
 |_,_,_,.nil,e=>by simp only[Gz] at e;cases e;exact⟨[],rfl,by simp,.nil⟩
 |_,_,_,.cons (d:=d) h t,e=>by
  simp only[Gz] at e;cases q:Yu d with
  |none=>rw[q] at e;cases e
  |some k =>
   rw[q] at e;simp only[Option.bind_some] at e;cases q2:Gz _ with
   |none=>rw[q2] at e;cases e
   |some ks =>
    rw[q2] at e;cases e;obtain⟨bs,h1,h2,h3⟩:=IP t q2;cases d with
    |tup es =>
     have h':=h;cases h with
     | @tup a xs _ hs hl =>
      simp only[Yu] at q;have e1:=KZ hl q;subst e1;refine⟨(a,k)::bs,by rw[h1];rfl,λ b hb=>?_,.cons ⟨rfl,h'⟩ h3⟩;rcases zQ.mp hb with z|z
      ·subst z;exact EL.of hs
      ·exact h2 b z
    |_=>simp[Yu] at q
theorem Nd {K:zy}{H:Hp}{bs:List (Addr×List Int)}{ks:List (D×List Int)}(h:Alike K H bs ks):(B0 bs=none/\B0 ks=none)\/∃b k,B0 bs=some b/\B0 ks=some k/\b.2=k.2/\Bu K H (.ref b.1) k.1:=by
 unfold B0
 suffices z:∀(o:Option (Addr×List Int)) (o':Option (D×List Int)),((o=none/\o'=none)\/∃b k,o=some b/\o'=some k/\b.2=k.2/\Bu K H (.ref b.1) k.1)->
  ((bs.foldl BK o=none/\ks.foldl BK o'=none) \/
   ∃b k,bs.foldl BK o=some b/\ks.foldl BK o'=some k/\b.2=k.2/\Bu K H (.ref b.1) k.1) from z none none (.inl ⟨rfl,rfl⟩)
 induction h with
 |nil=>intro o o' h;exact h
 | @cons b k bs ks hh t ih =>
  intro o o' h;rw[zac,zac];refine ih _ _ ?_;rcases h with ⟨rfl,rfl⟩|⟨b',k',rfl,rfl,e1,e2⟩
  ·exact .inr ⟨b,k,rfl,rfl,hh⟩
  ·unfold BK;dsimp only;rw[hh.1,e1];by_cases hl:HT.lexLt k.2 k'.2=true
   ·rw[if_pos hl,if_pos hl];exact .inr ⟨b,k,rfl,rfl,hh⟩
   ·rw[if_neg hl,if_neg hl];exact .inr ⟨b',k',rfl,rfl,e1,e2⟩
theorem eO {p kp:Pos}{e2:Expr}(hc:X.calm=true)(hu:X.A.units+1<cLine)(hg:Gl X "min")(hm:X.mg "min" = none)(ha:DE X WX c e f)(hb:DE X WX c e2 g)
 (aR:starEach [e] X.env=[(false,eval e X.env)]:=by rfl) (bD:(backToKw pos (keywordEach [⟨some "default",e2,kp⟩] X.env)).all (·.1.isSome)=true:=by rfl) (pz:(backToKw pos (keywordEach [⟨some "default",e2,kp⟩] X.env)).filterMap (·.1)=([("default" : Str)]:List Str):=by rfl)
 (qd:(backToKw pos (keywordEach [⟨some "default",e2,kp⟩] X.env)).any (·.1.isNone)=false:=by rfl) (bv:backTo pos (starEach [e] X.env)=(false,eval e X.env)::backTo pos (starEach [] X.env):=by rfl) (hpl:(backTo pos (starEach [e] X.env)).any (·.1)=false:=by rfl):
 DE X WX c (.Call (.Name "min" p) [e] [⟨some "default",e2,kp⟩] pos) (λ ρ=>(f ρ).bind λ x=>(g ρ).bind λ y=>V5 x y):=by
 obtain⟨ta,a1,a2⟩:=ha;obtain⟨tb,b1,b2⟩:=hb;refine⟨_,eJ hc hu hg hm a1 b1 aR bD pz qd bv hpl,λ P0 P σ H Q ρ E h=>RF (r:=λ x d H2 Q=>∃(a:Addr) (bs:List (Addr×List Int)),x=.ref a/\DF X.K H2 a (bs.map λ b=>V.ref b.1)/\(∀b∈bs,EL X.K H2 b.1 (b.2.map V.int))/\Q (match B0 bs with|none=>d|some b=>.ref b.1) H2) a2 b2 ?_ E h⟩;intro P H x y v w Q ht hx hy h;unfold V5 at h;split at h
 ·rename_i ds;split at h
  ·rename_i ks e1;cases hx with
   | @lst a xs _ hs hl =>
    obtain⟨bs,rfl,h2,h3⟩:=IP hl e1;refine⟨a,bs,rfl,hs.Bg,λ b hb=>(h2 b hb).Bg,?_⟩;rcases Nd h3 with ⟨q1,q2⟩|⟨b,k,q1,q2,_,q3⟩
    ·rw[q1];rw[q2] at h;exact h _ H (Ac.refl H) hy
    ·rw[q1];rw[q2] at h;exact h _ H (Ac.refl H) q3
  ·exact h.elim
 ·exact h.elim
end
theorem AU {A:Around}{k:Nat}(hr:BM k A)(n:Nat)(hn:n<=64):A.units+n<cLine:=by have:=hr.units;omega
structure AO (K:zy)(mg:Str->Option Value)(x:Str)(st:Stmt)(ps:List Str):Prop where
 ex:∃f fd,Xu K x x st f fd/\mg x=some (.ref f)/\Binds K fd ps []
theorem B6.there {P:Program}{w:World}{H:Hp}{h:Heap}{a:Addr}{o:HO}(x:B6 P w H h a o):∃ob,h.get? a=some ob:=by
 cases o with
 |lst xs=>obtain⟨_,_,_,_,e⟩:=x;exact⟨_,e⟩
 |tup xs=>obtain⟨_,_,_,o,e,_⟩:=x;exact⟨o,e⟩
 |dK kvs|dT kvs=>obtain⟨_,_,_,_,o,_,_,e,_⟩:=x;exact⟨_,e⟩
 |set S n=>obtain⟨o,_,_,_,e,_⟩:=x;exact⟨_,e⟩
 |ins C dx fs=>obtain⟨_,_,_,e,_⟩:=x;exact⟨_,e⟩
 |own y=>obtain⟨_,e⟩:=x;exact⟨_,e⟩
 |xd fs=>obtain⟨_,⟨_,_,_,e,_⟩,_⟩:=x;exact⟨_,e⟩
 |tI lo hi=>obtain⟨_,_,_,e⟩:=x;exact⟨_,e⟩
 |Fp ob u=>obtain⟨e,_⟩:=x;exact⟨_,e⟩
 |jH ps|met f y=>exact⟨_,(show h.get? a=some _ from x)⟩
 |ext φ=>obtain⟨_,⟨_,e⟩,_⟩:=x;exact⟨_,e⟩
theorem Fc.gone {P:Program}{w:World}{H:Hp}{h:Heap}{a:Addr}(x:Fc P w H h)(e:h.get? a=none):H a=none:=by
 cases q:H a with
 |none=>rfl
 |some o=>obtain⟨ob,z⟩:=(x a o q).there;rw[e] at z;cases z
structure mT (base g:Heap)(H:Hp)(l:List Env)(ea c:Addr)(h:Heap):Prop where
 zA:∃a0,Heap.FlyingW base l ea (.ref c) a0 h
 new:g.get? ea=none
 un:H ea=none
 tr:∀oe vs T,h.get? ea=some oe->oe.data=.fields vs->vs[1]?=some (.ref T)->H T=none/\g.get? T=none
noncomputable def TR (P:Program)(w:World)(base:Heap):UQ:=λ outer H s E ev s'=>∃(ea c:Addr) (H':Hp),ev=.ref ea/\s'.os=s.os/\AllBare s'.gens/\Un (Ls outer) [] H H' s.heap s'.heap/\Fc P w H' s'.heap/\mT base s.heap H' outer ea c s'.heap/\E (.ref c) none H'
section
variable {P:Program}{w:World}{K:zy}{mg:Str->Option Value}{base:Heap}{N:List Str}{qual:Str}{scope:Scope}{f:Addr}{cd:Value}{A:Around}{outer:List Env}{s:Shared}{H:Hp}{E:XK}
noncomputable abbrev V6 (P:Program)(w:World)(K:zy)(mg:Str->Option Value)(base:Heap)(N:List Str)(qual:Str)(scope:Scope)(f:Addr)(cd:Value)(A:Around)(outer:List Env)(s:Shared)(H:Hp)(E:XK):Cx:=
 LW (TR P w base) P w K mg base N qual scope f cd A outer s H E
theorem jQ {pins:List (Addr×Obj)}{σ:St}{H1:Hp}{s1:Shared}{h' B:Heap}{ea c:Addr}{a0:Value}{hid:List Addr}(J:Inv (V6 P w K mg base N qual scope f cd A outer s H E) pins σ H1 s1)
 (hB:∀b o,s1.heap.get? b=some o->b∉Ls (envOfC qual scope s.heap.objs.size f cd::outer)->b∉hid->(H1 b≠none\/∃o',s.heap.get? b=some o')->B.get? b=some o) (x4:base.StaysIn B)
 (hh:∀b∈hid,H1 b=none/\s.heap.get? b=none) (hT:∀b,B.get? b=none->b∉Ls (envOfC qual scope s.heap.objs.size f cd::outer)->H1 b=none/\s.heap.get? b=none)
 (x5:s.heap.get? ea=none) (qh:H1 ea=none) (F:Heap.FlyingW B outer ea (.ref c) a0 h') (cM:s1.heap.UpToSlots h') (q:E (.ref c) none H1):
 TR P w base outer H s E (.ref ea) {s1 with heap:=h' }:=by
 have qi:∀b∈Ls outer,∃o,s1.heap.get? b=some o/\∀vs,o.data≠.fields vs:=λ b hb=>(J.Jm.mem hb).2;have j1:∀b o,s.heap.get? b=some o->b≠s.heap.objs.size:=λ b o e=>zX (zT e);have jI:∀b,b∈Ls (envOfC qual scope s.heap.objs.size f cd::outer)->b=s.heap.objs.size\/b∈Ls outer:=λ b hb=>by
  have aG:b∈s.heap.objs.size::Ls outer:=hb;exact zQ.mp aG
 have U:Un (Ls outer) [] H H1 s.heap s1.heap:=J.base;have c6:∀b o,s.heap.get? b=some o->b∉hid:=λ b o e hb=>by rw[(hh b hb).2] at e;cases e
 have j3:∀b o,H1 b≠none->s1.heap.get? b=some o->h'.get? b=some o:=λ b o hn e=>by
  refine F.1 b o (hB b o e (λ hb=>?_) (λ hb=>hn (hh b hb).1) (.inl hn));exact hn (J.Q2 b hb)
 refine⟨ea,c,H1,rfl,J.os,J.bare,⟨λ b o e n hb hx=>?_,λ b o e n hb hx=>?_,U.free,λ b o e hx=>?_,U.MU,U.KJ,U.MV⟩,λ b ob e=>?_,⟨⟨a0,?_⟩,x5,qh,λ oe vs T h1 h2 h3=>?_⟩,q⟩
 ·refine F.1 b o (hB b o (U.keep b o e n hb hx) (λ z=>?_) (c6 b o e) (.inr ⟨o,e⟩));rcases jI b z with z|z
  ·exact j1 b o e z
  ·exact hb z
 ·obtain⟨sl,e1⟩:=U.slot b o e n hb hx;obtain⟨o2,e2,nf⟩:=qi b hb;rw[e1] at e2;obtain⟨mf,e3⟩:=cM b _ e1 (by cases e2;exact nf);exact⟨mf,e3⟩
 ·obtain⟨o',e1⟩:=U.there b o e hx;by_cases hb:b∈Ls outer
  ·obtain⟨o2,e2,nf⟩:=qi b hb;obtain⟨mf,e3⟩:=cM b _ e2 nf;exact⟨_,e3⟩
  ·refine⟨o',F.1 b o' (hB b o' e1 (λ z=>?_) (c6 b o e) (.inr ⟨o,e⟩))⟩;rcases jI b z with z|z
   ·exact j1 b o e z
   ·exact hb z
 ·refine (J.Au b ob e).MT (λ x v hx q=>j3 x v ?_ q) (λ _ q=>q) λ _ _ q=>q;rcases hx with rfl|hx
  ·rw[e];intro z;cases z
  ·rw[hx];intro z;cases z
 ·exact PySem.W.flyingW_base x4 F
 ·obtain⟨_,_,ff,zj,aJ,T',oT,ts,k1,k2,k3,k4,k5,k6,k7,k8,k9⟩:=F;rw[show ({s1 with heap:=h' }:Shared).heap.get? ea=h'.get? ea from rfl,k1] at h1;cases h1;rw[k3] at h2;cases h2;rw[k4] at h3;cases h3;refine hT T k5 λ hb=>?_;rcases jI T hb with z|z
  ·obtain⟨m,⟨oL,es,ep,nv,qj,_⟩,_⟩:=J.loc;obtain⟨sl,e3⟩:=cM s.heap.objs.size oL nv λ vs zz=>by rw[qj] at zz;cases zz
   rw[<-z,k7] at e3;cases e3;rw[show oL.data=_ from k8] at qj;cases qj
  ·obtain⟨o2,e2,nf⟩:=qi T z;obtain⟨sl,e3⟩:=cM T o2 e2 nf;rw[k7] at e3;cases e3;exact nf ts k8
theorem Yv {l:List Env}:∀env∈l,∀a,env.frame=some a->a∈Ls l:=λ env he a ha=>List.mem_filterMap.mpr ⟨env,he,ha⟩
theorem eQ {pins:List (Addr×Obj)}{σ:St}{H1:Hp}{s2:Shared}{h1:Heap}{ea C:Addr}{vs:List Value}(J:Inv (V6 P w K mg base N qual scope f cd A outer s H E) pins σ H1 s2)(hx:Heap.MadeExcOf s2.heap h1 ea (.ref C) vs)(q:E (.ref C) none H1):
 (V6 P w K mg base N qual scope f cd A outer s H E).xe (.ref ea) {s2 with heap:=h1}:=by
 have J1:Inv (V6 P w K mg base N qual scope f cd A outer s H E) pins σ H1 {s2 with heap:=h1}:=J.kept (t':=s2.toks) hx.keeps;have fr:=J.stack;have gn:=Yv (l:=envOfC qual scope s.heap.objs.size f cd::outer);refine wpAny_leaves_madeW (base:=PySem.W.hideAll s2.heap (Ls (envOfC qual scope s.heap.objs.size f cd::outer))) (outer:=outer) (L:=s.heap.objs.size) J.ok.frames rfl (λ b o e=>PySem.W.of_hideAll _ e) (PySem.W.funFrames_hide fr gn) hx λ h' t F ht zk cM=>?_;have c7:∀b,s2.heap.get? b=none->H1 b=none/\s.heap.get? b=none:=λ b e=>by
  refine⟨J.Au.gone e,?_⟩;cases q:s.heap.get? b with
  |none=>rfl
  |some o=>obtain⟨o',z⟩:=J.base.there b o q (by simp[LW]);rw[e] at z;cases z
 refine jQ (B:=PySem.W.hideAll s2.heap (Ls (envOfC qual scope s.heap.objs.size f cd::outer))) (hid:=[]) J1 (λ b o e hb _ x6=>?_) (λ b o e=>?_) (λ b z=>by cases z) (λ b e hb=>?_) (c7 ea hx.new).2 (c7 ea hx.new).1 F cM q
 ·have mo:∃o2,s2.heap.get? b=some o2:=by
   rcases x6 with z|⟨o',z⟩
   ·cases q2:H1 b with
    |none=>exact absurd q2 z
    |some u=>exact (J.Au b u q2).there
   ·exact J.base.there b o' z (by simp[LW])
  obtain⟨o2,e2⟩:=mo;have e3:=hx.keeps b o2 e2;rw[show ({s2 with heap:=h1}:Shared).heap.get? b=h1.get? b from rfl,e3] at e;cases e;exact zbl _ e2 hb
 ·refine zbl _ (J.bk b o e) λ hb=>?_;have z:base.get? b=none:=(fr.mem hb).1;rw[show base.get? b=some o from e] at z;cases z
 ·refine c7 b ?_;cases q2:s2.heap.get? b with
  |none=>rfl
  |some o=>rw[zbl _ q2 hb] at e;cases e
theorem eR:Gq (TR P w base) (V6 P w K mg base N qual scope f cd A outer s H E) E:=by
 intro pins σ H0 s0 ev s1 I h;obtain⟨ea,c,H1,rfl,x8,x9,U,Au,⟨⟨a0,F⟩,aS,wk,xL⟩,q⟩:=h;have J:Inv (V6 P w K mg base N qual scope f cd A outer s H E) pins σ H1 s1:=I.jJ (ch:=[]) x8 U Au x9 λ b hb=>by cases hb
 obtain⟨f1,f2,f3,oe,vs,T,oT,ts,k1,k2,k3,k4,k5,k6,k7,k8,k9⟩:=F;have hT:=xL oe vs T k1 k3 k4;have fr:=J.stack;have entry:∀b,s0.heap.get? b=none->s.heap.get? b=none:=λ b e=>by
  cases q:s.heap.get? b with
  |none=>rfl
  |some o=>obtain⟨o',z⟩:=I.base.there b o q (by simp[LW]);rw[e] at z;cases z
 have gn:∀env∈(envOfC qual scope s.heap.objs.size f cd::outer),∀a,env.frame=some a->a∈Ls (envOfC qual scope s.heap.objs.size f cd::outer)++[ea,T]:=λ env he a ha=>zae _ (Yv env he a ha);have FB:Heap.FlyingW (PySem.W.hideAll s1.heap (Ls (envOfC qual scope s.heap.objs.size f cd::outer)++[ea,T])) (envOfC qual scope s.heap.objs.size f cd::outer) ea (.ref c) a0 s1.heap:=
  ⟨λ b o e=>PySem.W.of_hideAll _ e,PySem.W.hideAll_none _ (by simp),PySem.W.funFrames_hide fr gn,oe,vs,T,oT,ts,k1,k2,k3,k4,PySem.W.hideAll_none _ (by simp),k6,k7,k8,k9⟩
 refine wpAny_leaves_onW (outer:=outer) (L:=s.heap.objs.size) J.ok.frames rfl FB λ h' F' cM=>?_;have j4:∀b,s1.heap.get? b=none->H1 b=none/\s.heap.get? b=none:=λ b e=>by
  refine⟨J.Au.gone e,?_⟩;cases q:s.heap.get? b with
  |none=>rfl
  |some o=>obtain⟨o',z⟩:=J.base.there b o q (by simp[LW]);rw[e] at z;cases z
 have hid:∀b∈[ea,T],H1 b=none/\s.heap.get? b=none:=λ b hb=>by
  rcases zQ.mp hb with z|z
  ·rw[z];exact⟨wk,entry ea aS⟩
  ·rw[zS.mp z];exact⟨hT.1,entry T hT.2⟩
 refine jQ (hid:=[ea,T]) J (λ b o e hb i7 _=>zbl _ e λ z=>(za5.mp z).elim hb i7) (λ b o e=>?_) hid (λ b e hb=>?_) (entry ea aS) wk F' cM q
 ·refine zbl _ (J.bk b o e) λ hb=>?_;rcases za5.mp hb with hb|hb
  ·have z:base.get? b=none:=(fr.mem hb).1;rw[show base.get? b=some o from e] at z;cases z
  ·rcases zQ.mp hb with z|z
   ·rw[z] at e;rw[show base.get? ea=some o from e] at f2;cases f2
   ·rw[zS.mp z] at e;rw[show base.get? T=some o from e] at k5;cases k5
 ·by_cases i7:b∈[ea,T]
  ·exact hid b i7
  ·refine j4 b ?_;cases q2:s1.heap.get? b with
   |none=>rfl
   |some o=>rw[zbl _ q2 λ z=>(za5.mp z).elim hb i7] at e;cases e
end
structure XCall (X:Cx)(E:XK):Prop where
 call:Gq (TR X.prog X.w X.base) X E
 own:PassesOwn (model X.prog X.w) X.A X.env X.xe
structure tR (X:Cx)(E:XK):Prop extends XCall X E where
 made:∀pins σ H s h' ea C vs,Inv X pins σ H s->Heap.MadeExcOf s.heap h' ea (.ref C) vs->E (.ref C) none H->X.xe (.ref ea) {s with heap:=h' }
theorem A9 {P:Program}{w:World}{K:zy}{mg:Str->Option Value}{base:Heap}{N:List Str}{qual:Str}{scope:Scope}{f:Addr}{cd:Value}{A:Around}{outer:List Env}{s:Shared}{H:Hp}{E:XK}:
 tR (V6 P w K mg base N qual scope f cd A outer s H E) E:=⟨⟨eR,PassesOwn.leaving⟩,λ _ _ _ _ _ _ _ _ J hx q=>eQ J hx q⟩
theorem BH {X:Cx}(h:X.xe=λ _ _=>False):tR X E0:=⟨⟨λ _ _ _ _ _ _ _ h=>by obtain⟨_,_,_,_,_,_,_,_,_,q⟩:=h;exact q.elim,by rw[h];exact PassesOwn.never⟩,λ _ _ _ _ _ _ _ _ _ _ q=>q.elim⟩
def Dt (K:zy)(E:XK):Str->Hp->Prop:=λ x H=>∃c,zE K mainGlobals x=some (some (.ref c))/\E (.ref c) none H
section
variable {X:Cx}{E:XK}{WX:Str->Hp->Prop}{c:Bool}{e:Expr}{es:List Expr}{fs:Aa->M (List D)}{f:Aa->M D}{ft:Aa->M Bool}{pos:Pos}
theorem eS {K:zy}{h₀:Heap}{C:Addr}{wl:List Value}{newId:String}(X:K.In h₀)(q:zbn K C wl newId=true):
 ∃bm N nm q bs hdct sn sub ab col dd k0 k1 k2 k3 k5 mN,h₀.get? C=some (excClassObj nm q C N bs bm hdct sn sub ab col dd k0 k1 k2 k3 k5 newId)/\h₀.Ns N mN/\mN "__init__" = none/\OwnTail h₀ wl bm:=by
 unfold zbn at q;split at q
 ·rename_i dd cd sl ho;split at q
  ·rename_i C' bm k0 k1 k2 k3 n k5 hm hs;simp only[zad,beq_iff_eq,Bool.not_eq_true'] at q;obtain⟨⟨⟨⟨⟨rfl,rfl⟩,j5⟩,ht⟩,Au⟩,mz⟩:=q;obtain⟨nm,bs,mro,ns,qn,hd,sn,sub,ab,col,del⟩:=cd;dsimp only at hm j5 Au mz;subst hm j5;have cM:sl=#[k0,k1,k2,k3,some (.builtin n),k5]:=by
    obtain⟨l⟩:=sl;simp only at hs;rw[hs]
   subst cM;exact⟨bm,ns,nm,qn,bs,hd,sn,sub,ab,col,dd,k0,k1,k2,k3,k5,_,X _ _ ho,.of_isNs (PySem.W.isNs_of_in X Au),PySem.W.nsMap_none_of_in X Au mz,PySem.W.tail_of_in X ht⟩
  ·cases q
 ·cases q
theorem Yw {x:Str}{np ae:Pos}{C:Addr}{B newId gp:String}{bm:List Value}(xo:tR X E)(hc:X.calm=true)(FB:ExcBaseFacts B newId gp bm)(f8:zE X.K mainGlobals x=some (some (.ref C)))(hq:zbn X.K C bm newId=true)(hg:Gl X x)(hm:X.mg x=some (.ref C))
 (ha:DE X (Dt X.K E) c e f) (ba:(x==("__debug__" : Str))=false:=by decide) (he:starEach [e] X.env=[(false,eval e X.env)]:=by rfl) (ar:(backTo ae (starEach [e] X.env)).any (·.1)=false:=by rfl):
 DS X (Dt X.K E) (.Raise (some (.Call (.Name x np) [e] [] ae)) none pos) (λ ρ=>(f ρ).bind λ _=>.ex x):=by
 obtain⟨ta,a1,a2⟩:=ha;refine⟨λ Z σ H=>ta σ H λ y H1=>(([y]:List V).length=1/\E (.ref C) none H1),?_,λ P0 P σ H Z ρ E h=>?_⟩
 ·intro pins s σ H D I h;obtain⟨tl,N,nm,q,bs,hdct,sn,sub,ab,col,dd,k0,k1,k2,k3,k5,mN,hC,hN,mz,T⟩:=eS I.mod.XD hq;refine wpAny_Raise_call_subT (C:=C) (nm:=nm) (q:=q) (N:=N) (bs:=bs) (bm:=tl) (hdct:=hdct) (sn:=sn) (sub:=sub) (ab:=ab) (col:=col) (dd:=dd) (k0:=k0) (k1:=k1) (k2:=k2) (k3:=k3) (k5:=k5)
   FB (mN:=mN) (T.hasType FB.hasBase) (I.ok.hd hc) ar mz (Q3 I hg hm ⟨rfl,?_⟩ ba)
  rw[he];have pa:=(Bt a1 CO he) ae pins s σ H (λ vs H1=>vs.length=1/\E (.ref C) none H1) I ?_
  ·rw[he] at pa;refine Calls.evalArgs_plain (Bc pa λ vs s2 ⟨xs,H2,I2,r2,q2⟩=>⟨rfl,?_,I2.bk _ _ hC,hN.keeps I2.bk,T.keeps I2.bk,λ h' ea hx=>xo.made pins σ H2 s2 h' ea C _ I2 hx q2.2⟩);rw[<-r2.length,q2.1];exact zaz (AB (by decide))
  ·exact h
 ·dsimp only at h;refine a2 P0 P σ H _ ρ E ?_;cases q:f ρ with
  |bad=>rw[q] at h;exact h
  |ex x=>rw[q] at h;exact λ H' s=>h H' P (E.tr s)
  |ok d =>
   rw[q] at h;intro v H1 s1 hv;obtain⟨c',h1,h2⟩:=h H1 P (E.tr s1);rw[f8] at h1;cases h1;exact⟨rfl,h2⟩
end
section
variable {X:Cx}{WX:Str->Hp->Prop}{c:Bool}{a b e:Expr}{f g:Aa->M D}{pos p:Pos}
noncomputable def jR (K:zy):R2:=λ x y H Q=>∃l b xs zs,x=.ref l/\y=.ref b/\DF K H l xs/\DF K H b zs/\xs.length+zs.length<=sizeLine/\∀p,H p=none->Q (.ref p) (upd H p (.lst (xs++zs)))
theorem eT:Gp X (binaryOp .Add) (jR X.K):=by
 intro pins s σ H x y v u Q I rx ry h;obtain⟨l,b,xs,zs,rfl,rfl,h1,h2,hz,q⟩:=h;cases rx;cases ry;obtain⟨aa,r,⟨⟨c1,d1,t1,xM⟩,n,e1,q1,q2,q3⟩,xN⟩:=I.list h1;obtain⟨bc,r2,⟨⟨c2,d2,t2,jo⟩,n2,e2,q4,q5,q6⟩,zl⟩:=I.list h2;dsimp only at q1 q2 q3 q4 q5 q6;subst q1 q2 q3 q4 q5 q6;have l1:=r.length;have l2:=r2.length;refine concat_meets ⟨_,e1,rfl⟩ ⟨_,e2,rfl⟩ noFill_list_add seq_list_add PySem.F.slot_list_add PySem.F.entry_list_add (PySem.F.args_list_add_2 _ _) (list_addW l b aa.toArray bc.toArray n n2 none none xM jo (by rw[zL,zL];omega)) ⟨e1,e2,?_⟩;rw[show aa.toArray++bc.toArray=(aa++bc).toArray by simp];exact⟨.ref _,_,I.qT (t':=s.toks) (r.append r2) (by rw[za7];omega),rfl,q _ I.fresh⟩
noncomputable def wH (x y:D):M D:=match x,y with
 | .int i,.int j=>.ok (.int (i+j))
 | .lst ds,.lst es=>if ds.length+es.length<=1000 then .ok (.lst (ds++es)) else .bad
 |_,_=>.bad
theorem Ag.wI {K:zy}{H:Hp}:∀ {xs ys:List V}{ds es:List D},Ag K H xs ds->Ag K H ys es->Ag K H (xs++ys) (ds++es)
 |_,_,_,_,.nil,h=>h
 |_,_,_,_,.cons a t,h=>.cons a (t.wI h)
noncomputable def tS (neg:Bool)(x y:D):M D:=match x,y with
 | .int i,.lst ds=>(match CG ds with|some ns=>.ok (.bl (if neg then !ns.contains i else ns.contains i))|none=>.bad)
 |_,_=>.bad
theorem Yx (i:Int)(ns:List Int):tM (.int i) (ns.map V.int)=ns.contains i:=by
 unfold tM;induction ns with
 |nil=>rfl
 |cons n r ih =>
  rw[zG,zci,ih,List.contains_cons];congr 1;show (n==i)=(i==n);rw[zby,beq_iff_eq,beq_iff_eq];exact eq_comm
theorem Ww (ns:List Int):(ns.map V.int).all Jr=true:=by
 induction ns with
 |nil=>rfl
 |cons n r ih=>rw[zG,zcj,ih];rfl
theorem GA {neg:Bool}:V2 X.K WX (tN X.K neg) (tS neg):=by
 intro P H x y v w Q ht hx hy h;unfold tS at h;split at h
 ·rename_i i ds;split at h
  ·rename_i ns hn;cases hx;cases hy with
   |lst h1 h2 =>
    have e:=KZ h2 hn;subst e;refine⟨_,_,rfl,.inl h1.Bg,rfl,Ww ns,?_⟩;rw[Yx];exact h _ H (Ac.refl H) (.bl _)
  ·exact h.elim
 ·exact h.elim
end
structure ClsAt (K:zy)(mg:Str->Option Value)(x:Str):Prop where
 ex:∃C,zE K mainGlobals x=some (some (.ref C))/\mg x=some (.ref C)/\zbn K C [.type "ValueError",.type "Exception",.type "BaseException",.type "object"] "ValueError.__new__" = true
noncomputable def one (x:Str)(b:Bool):Str->Option Bool:=λ y=>if y=x then some b else none
section
variable {X:Cx}{E:XK}{WX:Str->Hp->Prop}{c:Bool}{e:Expr}{f:Aa->M D}{pos p:Pos}
theorem L0 {x:Str}{np ae:Pos}(T:ClsAt X.K X.mg x)(xo:tR X E)(hc:X.calm=true)(hg:Gl X x)(ha:DE X (Dt X.K E) c e f)(ba:(x==("__debug__" : Str))=false:=by decide)(he:starEach [e] X.env=[(false,eval e X.env)]:=by rfl)(ar:(backTo ae (starEach [e] X.env)).any (·.1)=false:=by rfl):
 DS X (Dt X.K E) (.Raise (some (.Call (.Name x np) [e] [] ae)) none pos) (λ ρ=>(f ρ).bind λ _=>.ex x):=by
 obtain⟨C,h1,h2,h3⟩:=T.ex;exact Yw xo hc PySem.F.excBase_ValueError h1 h3 hg h2 ha ba he ar
end
def RK (i j:Int):Prop:=(i.natAbs<2^1000/\j.natAbs<2^1000)\/XU i j
instance (i j:Int):Decidable (RK i j):=by unfold RK;infer_instance
theorem Pc {i:Int}(h:i.natAbs<2^1000):zb0 i<=2^20:=by
 unfold zb0;split
 ·exact zak _
 ·rename_i z;have h0:i.natAbs≠0:=λ q=>z (by rw[Int.natAbs_eq_zero.mp q];rfl);have:=(Nat.log2_lt h0).mpr h;have h3:(1000:Nat)<=2^20:=by decide
  exact zat this h3
theorem RK.ok {i j:Int}(h:RK i j):IntMulOk i j:=by
 rcases h with ⟨h1,h2⟩|h
 ·exact IntMulOk.of_bits (Pc h1) (Pc h2)
 ·exact h.ok
theorem JC {gt:D->Aa->M Aa}{ft:Aa->M Bool}{fe:Aa->M D}{ρ:Aa}(p:D->Bool)(f:D->D):∀(ds:List D),(∀d∈ds,∃ρ1,gt d ρ=.ok ρ1/\ft ρ1=.ok (p d)/\(p d=true->fe ρ1=.ok (f d)))->AX gt ft fe ds ρ=.ok ((ds.filter p).map f)
 |[],_=>rfl
 |d::r,h=>by
  obtain⟨ρ1,h1,h2,h3⟩:=h d zD;have ih:=JC p f r λ d hd=>h d (zF _ hd);rw[AX,h1];dsimp only;rw[h2];dsimp only;by_cases hp:p d=true
  ·rw[if_pos hp,h3 hp];dsimp only;rw[ih,List.filter_cons_of_pos hp];rfl
  ·rw[if_neg hp,ih,List.filter_cons_of_neg hp]
theorem Ej (n:Nat):Cz 0 n=(zW n).map λ i:Nat=>D.int (i:Int):=by
 apply List.ext_getElem?;intro i;rw[za2];by_cases h:i<n
 ·have hi:i<(Cz 0 n).length:=by rw[Bk];exact h
  have e:=zJ hi;obtain⟨h1,_⟩:=BB e;rw[e,h1,zc2 h,zcg];rfl
 ·rw[zbq (by rw[Bk];omega),zbq (by simp;omega)];rfl
theorem E8 (ns:List Int):CG (ns.map D.int)=some ns:=by
 induction ns with
 |nil=>rfl
 |cons n r ih=>rw[zG,CG,ih];rfl
theorem Yy (ds:List D)(n:Nat):oZ (some (n:Int)) none (.lst ds)=.ok (.lst (ds.drop n)):=by
 unfold oZ;dsimp only;rw[HT.Y4,HT.Q6];congr 2;by_cases h:n<=ds.length
 ·rw[Nat.min_eq_left h,List.take_of_length_le (by rw[zcp];exact zU _)]
 ·rw[Nat.min_eq_right (by omega),List.drop_of_length_le (zU _),List.drop_of_length_le (by omega),List.take_nil]
def Pl (n:Nat)(d:D):Prop:=IJ d<=n/\AM d=true
theorem Qj {n:Nat}:∀ {ds:List D},(∀d∈ds,IJ d<=n)->LY ds<=n
 |[],_=>by rw[LY];exact zak _
 |d::r,h=>by
  rw[LY];exact Nat.max_le.mpr ⟨h d zD,Qj λ d hd=>h d (zF _ hd)⟩
theorem Qk:∀ {ds:List D},(∀d∈ds,AM d=true)->N8 ds=true
 |[],_=>by rw[N8]
 |d::r,h=>by
  rw[N8,h d zD,Qk λ d hd=>h d (zF _ hd)];rfl
theorem Ek {n:Nat}(i:Int):Pl n (.int i):=⟨by rw[IJ];exact zak _;all_goals simp,by rw[AM];all_goals simp⟩
theorem Yz {n:Nat}:Pl n .AF:=⟨by rw[IJ];exact zak _;all_goals simp,by rw[AM];all_goals simp⟩
theorem rO {n:Nat}(b:Bool):Pl n (.bl b):=⟨by rw[IJ];exact zak _;all_goals simp,by rw[AM];all_goals simp⟩
theorem YA {n:Nat}{ds:List D}(h:∀d∈ds,Pl n d):Pl (n+1) (.tup ds):=
 ⟨by rw[IJ];exact Nat.succ_le_succ (Qj λ d hd=>(h d hd).1),by rw[AM];exact Qk λ d hd=>(h d hd).2⟩
theorem TU {n:Nat}{ds:List D}(h:∀d∈ds,Pl n d):Pl (n+1) (.lst ds):=
 ⟨by rw[IJ];exact Nat.succ_le_succ (Qj λ d hd=>(h d hd).1),by rw[AM];exact Qk λ d hd=>(h d hd).2⟩
theorem Ml {n:Nat}(ns:List Int):Pl (n+1) (.lst (ns.map D.int)):=TU λ d hd=>by
 obtain⟨i,_,rfl⟩:=za0.mp hd;exact Ek i
theorem Pl.le {n m:Nat}{d:D}(h:Pl n d)(k:n<=m):Pl m d:=⟨zat h.1 k,h.2⟩
theorem YB {n:Nat}:∀d∈([]:List D),Pl n d:=λ d h=>by cases h
theorem HE {n:Nat}{d:D}{ds:List D}(h:Pl n d)(t:∀d∈ds,Pl n d):∀e∈d::ds,Pl n e:=λ e he=>by
 rcases zQ.mp he with rfl|he
 ·exact h
 ·exact t e he
theorem TV {n:Nat}{x y:D}(h:Pl n x)(k:Pl n y):cK n x y=.ok (.bl (Ax x y)):=by
 unfold cK;rw[if_pos ⟨h.1,h.2,k.2⟩]
theorem Nf {n:Nat}{x y:D}(h:Pl n x)(k:Pl n y):Wo n x y=.ok (.bl (!Ax x y)):=by
 unfold Wo;rw[if_pos ⟨h.1,h.2,k.2⟩]
theorem YC {n:Nat}{x:D}(h:Pl n x):Wo n x x=.ok (.bl false):=by rw[Nf h h,Jv];rfl
theorem Pd {gt:D->Aa->M Aa}{ft:Aa->M Bool}{fe:Aa->M D}{ρ:Aa}(f:D->D)(ds:List D)(h:∀d∈ds,∃ρ1,gt d ρ=.ok ρ1/\ft ρ1=.ok true/\fe ρ1=.ok (f d)):AX gt ft fe ds ρ=.ok (ds.map f):=by
 rw[JC (λ _=>true) f ds λ d hd=>by
  obtain⟨ρ1,h1,h2,h3⟩:=h d hd;exact⟨ρ1,h1,h2,λ _=>h3⟩]
 rw[List.filter_eq_self.mpr λ _ _=>rfl]
theorem eU (ds:List D)(a b:Nat):oZ (some (a:Int)) (some (b:Int)) (.lst ds)=.ok (.lst ((ds.drop a).take (b-a))):=by
 unfold oZ;dsimp only;rw[HT.Q6,HT.Q6];congr 2;by_cases h:a<=ds.length
 ·rw[Nat.min_eq_left h];by_cases h2:b<=ds.length
  ·rw[Nat.min_eq_left h2]
  ·rw[Nat.min_eq_right (by omega),List.take_of_length_le (by rw[zcp];exact zU _),List.take_of_length_le (by rw[zcp];omega)]
 ·rw[Nat.min_eq_right (show ds.length<=a by omega),List.drop_of_length_le (zU _),List.drop_of_length_le (show ds.length<=a by omega),List.take_nil,List.take_nil]
section
variable {X:Cx}{WX:Str->Hp->Prop}{c:Bool}{P0:Ds}{P:Addr->Prop}{H:Hp}{σ:St}{ρ:Aa}{a b e:Expr}{f g:Aa->M D}{ft gt:Aa->M Bool}{pos:Pos}{st:Stmt}{rest:List Stmt}{g1 g2:Aa->M Out}
theorem RL {K:zy}{H:Hp}{v:V}{d:D}(h:Bu K H v d):∀n:Nat,Ag K H (zR n v) (zR n d)
 |0=>.nil
 |n+1=>by rw[zbb,zbb];exact .cons h (RL h n)
theorem Ng {K:zy}{H:Hp}{v:V}{d:D}(h:Bu K H v d):∀ {vs:List V}{ds:List D}(n:Nat),Ag K H vs ds->Ag K H (vs.set n v) (ds.set n d)
 |_,_,_,.nil=>.nil
 |_,_,0,.cons _ t=>.cons h t
 |_,_,n+1,.cons a t=>.cons a (Ng h n t)
noncomputable def xO (i:Nat)(ρ:Aa)(d k:D):M Out:=match k with
 | .int j=>if 0<=j/\j.toNat<=1000 then .ok (.next (ρ.set i (some (.own (zR j.toNat d))))) else .bad
 |_=>.bad
theorem Pe {α:Type}(v:α):∀n:Nat,(zR n [v]).flatten=zR n v
 |0=>rfl
 |n+1=>by rw[zbb,List.flatten_cons,Pe v n];rfl
noncomputable def mU (i:Nat)(ρ:Aa)(ds:List D)(d k:D):M Out:=match k with
 | .int j=>(match OX ds.length j with|some n=>.ok (.next (ρ.set i (some (.own (ds.set n d)))))|none=>.bad)
 |_=>.bad
noncomputable def eV (i:Nat)(ρ:Aa)(m:M D)(d:D):M Out:=match ρ[i]? with
 |some (some (.own ds))=>m.bind (mU i ρ ds d)
 |_=>.bad
theorem YD (i:Nat){x:Str}{p1 au:Pos}(hv:PE X (.Name x p1) (Oj i))(ha:DE X WX true a f)(hk:DE X WX true b g)
 (hs:swapsWithSole [.Subscript (.Name x p1) b au] a pos.line X.env=pure false:=by rfl) (hw:swappedStores [.Subscript (.Name x p1) b au] a X.env=pure none:=by rfl) (h1:(assignEach [.Subscript (.Name x p1) b au] X.env).map (·.2)=[assign (.Subscript (.Name x p1) b au) X.env]:=by rfl)
 (gq:∀v,assign (.Subscript (.Name x p1) b au) X.env v=(do
  let ov <-holding [v] (eval (.Name x p1) X.env);let iv <-holding [v,ov] (eval b X.env)
  standAt au
  holding [v,ov,iv] (setItem ov iv v)
  release [v,ov,iv] []):=by intro _;rfl):
 DS X WX (.Assign [.Subscript (.Name x p1) b au] a pos) (λ ρ=>(f ρ).bind (eV i ρ (g ρ))):=by
 obtain⟨ta,a1,a2⟩:=ha;obtain⟨tb,b1,b2⟩:=hk;refine⟨_,Tf a1 (XN hv b1 set_list gq) hs hw h1,λ P0 P σ H Z ρ E h=>?_⟩;dsimp only at h;refine a2 P0 P σ H _ ρ E ?_;cases q:f ρ with
 |bad=>rw[q] at h;exact h
 |ex x=>rw[q] at h;exact λ H' s=>h H' P (E.tr s)
 |ok d =>
  rw[q] at h;simp only[M.A7] at h;intro v H1 s1 hv;have E1:=E.same s1;unfold eV at h;split at h
  ·rename_i ds e1;obtain⟨p,xs,h1,h2,h3,h4,h5⟩:=E1.own i ds e1;refine⟨_,h1,b2 P0 P σ H1 _ ρ E1 ?_⟩;cases q2:g ρ with
   |bad=>rw[q2] at h;exact h.elim
   |ex x=>rw[q2] at h;exact λ H' s2=>h H' P ((E.tr s1).trans (E1.tr s2))
   |ok k =>
    rw[q2] at h;simp only[M.A7] at h;unfold mU at h;intro w H2 s2 hw;split at h
    ·rename_i j;cases hw;split at h
     ·rename_i n en;have E2:=E1.same s2;refine⟨p,xs,j,n,rfl,rfl,s2 _ _ h2,by rw[h5.length];exact en,?_⟩;obtain⟨E3,t3⟩:=E2.mut e1 h1 h3 h4 (Ng (hv.mono s2.del) n (h5.mono s2.del));exact h _ _ _ ((E.tr s1).trans ((E1.tr s2).trans t3)) E3
     ·exact h.elim
    ·exact h.elim
  ·exact h.elim
noncomputable def AA (c:Aa->M Bool)(b:Aa->M Out):Nat->Aa->M Out
 |0,_=>.bad
 |n+1,ρ=>match c ρ with
  | .ok true=>(match b ρ with
   | .ok (.next ρ')| .ok (.cont ρ')=>AA c b n ρ'
   | .ok (.brk ρ')=>.ok (.next ρ')
   |r=>r)
  | .ok false=>.ok (.next ρ)
  | .ex x=>.ex x
  | .bad=>.bad
noncomputable def LB (c:Aa->M Bool)(b:Aa->M Out)(ρ:Aa):M Out:=
 @dite _ (∃n,AA c b n ρ≠.bad) (zct _) (λ h=>AA c b (zH h) ρ) (λ _=>.bad)
theorem CH {c:Aa->M Bool}{b:Aa->M Out}:∀ {n:Nat}{ρ:Aa},AA c b n ρ≠.bad->∀m,AA c b (n+m) ρ=AA c b n ρ
 |0,ρ,h,m=>(h rfl).elim
 |n+1,ρ,h,m=>by
  rw[show n+1+m=(n+m)+1 by omega];rw[AA] at h;rw[AA,AA];cases q:c ρ with
  |bad|ex x=>rfl
  |ok k =>
   rw[q] at h;cases k with
   |false=>rfl
   |true =>
    dsimp only at h ⊢;cases q2:b ρ with
    |bad|ex x=>rfl
    |ok o =>
     rw[q2] at h;cases o with
     |next ρ'=>dsimp only at h ⊢;exact CH h m
     |cont ρ'=>dsimp only at h ⊢;exact CH h m
     |brk ρ'=>rfl
     |ret d|CN d|Fg d ρ2=>rfl
theorem YE {c:Aa->M Bool}{b:Aa->M Out}{n:Nat}{ρ:Aa}(h:AA c b n ρ≠.bad):LB c b ρ=AA c b n ρ:=by
 unfold LB;have hx:∃n,AA c b n ρ≠.bad:=⟨n,h⟩;rw[dif_pos hx];have hc:=zB hx;have e1:=CH h (zH hx);have e2:=CH hc n;rw[Nat.add_comm] at e2;rw[<-e1,e2]
theorem Wx {c:Aa->M Bool}{b:Aa->M Out}{ρ:Aa}(h:LB c b ρ≠.bad):∃n,AA c b n ρ≠.bad/\LB c b ρ=AA c b n ρ:=by
 by_cases hx:∃n,AA c b n ρ≠.bad
 ·obtain⟨n,hn⟩:=hx;exact⟨n,hn,YE hn⟩
 ·exact (h (by unfold LB;rw[dif_neg hx])).elim
theorem jS {K:zy}{Z:Ends}{m:M Out}(h:gS K WX P0 P H Z m):m≠.bad:=λ e=>by rw[e] at h;exact h
theorem RM {body:List Stmt}(hp:PassesOwn (model X.prog X.w) X.A X.env X.xe)(hc:DT X WX a ft)(hb:Ta X WX body g1):DS X WX (.While a body [] pos) (LB ft g1):=by
 obtain⟨tc,c1,c2⟩:=hc;obtain⟨tb,b1,b2⟩:=hb;refine⟨_,XQ hp c1 b1,λ P0 P σ H Z ρ E h=>?_⟩;obtain⟨n,hn,en⟩:=Wx (jS h);rw[en] at h;refine⟨λ m σ' H'=>∃ρ' P',Ak X.K P0 P' H' σ' ρ'/\Tr P0 P H P' H'/\gS X.K WX P0 P' H' Z (AA ft g1 m ρ'),⟨n,ρ,P,E,Tr.refl,h⟩,?_⟩;rintro m σ1 H1 ⟨ρ1,P1,E1,t1,h1⟩;cases m with
 |zero=>exact h1.elim
 |succ m =>
  rw[AA] at h1;refine c2 P0 P1 σ1 H1 _ ρ1 E1 ?_;cases q:ft ρ1 with
  |bad=>rw[q] at h1;exact h1
  |ex x=>rw[q] at h1;exact λ H2 s2=>h1 H2 P1 (E1.tr s2)
  |ok k =>
   rw[q] at h1;intro H2 s2;have E2:=E1.same s2;cases k with
   |false =>
    rw[if_neg (by simp)];exact h1 σ1 H2 P1 (E1.tr s2) E2
   |true =>
    rw[if_pos rfl];dsimp only at h1;refine⟨λ σ' H'=>∃ρ' P',Ak X.K P0 P' H' σ' ρ'/\Tr P0 P H P' H'/\gS X.K WX P0 P' H' Z (AA ft g1 m ρ'),λ σ' H' z=>⟨m,Nat.lt_succ_self m,z⟩,?_⟩;refine b2 P0 P1 σ1 H2 _ ρ1 E2 ?_;cases q2:g1 ρ1 with
    |bad=>rw[q2] at h1;exact h1
    |ex x=>rw[q2] at h1;exact λ H3 P3 t3=>h1 H3 P3 ((E1.tr s2).trans t3)
    |ok o =>
     rw[q2] at h1;have t2:=t1.trans (E1.tr s2);cases o with
     |next ρ'=>exact λ σ3 H3 P3 t3 E3=>⟨ρ',P3,E3,t2.trans t3,h1.tr ((E1.tr s2).trans t3)⟩
     |cont ρ'=>exact λ σ3 H3 P3 t3 E3=>⟨ρ',P3,E3,t2.trans t3,h1.tr ((E1.tr s2).trans t3)⟩
     |brk ρ'=>exact λ σ3 H3 P3 t3 E3=>h1 σ3 H3 P3 ((E1.tr s2).trans t3) E3
     |ret d=>exact λ v H3 P3 t3 hv=>h1 v H3 P3 ((E1.tr s2).trans t3) hv
     |CN d=>exact λ v fp H3 P3 t3=>h1 v fp H3 P3 ((E1.tr s2).trans t3)
     |Fg d ρ2=>exact λ v fp σ3 H3 P3 t3=>h1 v fp σ3 H3 P3 ((E1.tr s2).trans t3)
noncomputable def wJ (ds:List D):M D:=match ds with
 |[.int i]=>.ok (.int i)
 |[.bl b]=>.ok (.int (if b then 1 else 0))
 |_=>.bad
noncomputable def GB:List D->Option (List Bool)
 |[]=>some []
 | .bl b::r=>(GB r).map (b::·)
 |_=>none
theorem Nh (bs:List Bool):GB (bs.map D.bl)=some bs:=by
 induction bs with
 |nil=>rfl
 |cons b r ih=>rw[zG,GB,ih];rfl
theorem Ni:∀ {ds:List D}{bs:List Bool},GB ds=some bs->ds=bs.map D.bl
 |[],bs,h=>by cases h;rfl
 | .bl b::r,bs,h=>by
  rw[GB] at h;cases q:GB r with
  |none=>rw[q] at h;cases h
  |some xP=>rw[q] at h;cases h;rw[Ni q];rfl
 | .AF::r,bs,h| .int _::r,bs,h| .str _::r,bs,h| .tup _::r,bs,h| .lst _::r,bs,h| .DH _::r,bs,h| .Bd _ _ _::r,bs,h| .ins _ _ _::r,bs,h=>by cases h
theorem Nj {K:zy}{H:Hp}:∀ {vs:List V}{bs:List Bool},Ag K H vs (bs.map D.bl)->vs=bs.map V.bl
 |_,[],.nil=>rfl
 |_,b::r,.cons h t=>by cases h;rw[Nj t];rfl
theorem Nk:∀ {bs:List Bool}{us:List Value},Vals (bs.map V.bl) us->LSm.BoolsAre us bs
 |[],_,.nil=>.nil
 |b::r,_,.cons h t=>by cases h;exact .cons b (Nk t)
theorem Nl (hc:X.calm=true):G0 X (.builtin "all") (λ xs H Q=>∃p bs,xs=[.ref p]/\DF X.K H p (List.map V.bl bs)/\Q (.bl (bs.all id)) H):=by
 intro pins s σ H xs us Q I r h;obtain⟨p,bs,rfl,hq,q⟩:=h;obtain⟨u,rfl,rx⟩:=vals1 r;cases rx;obtain⟨aa,r',pl,hz⟩:=I.list hq;have hl:=pl.isList;have hb:=Nk r';have aj:p<s.heap.objs.size:=by obtain⟨_,e,_⟩:=hl;exact zT e
 refine call_all_walk (wpAny_pyIter_list hl ?_);refine⟨s.heap.objs.size,[s.heap.objs.size,p],[s.heap.objs.size],aa.toArray.size,_,_,λ i=>(bs[i]?).getD true,rfl,Walks.list (A:=X.A.in1) (I.ok.hd hc) _ p (zX aj) aa.toArray,
  ⟨⟨_,zZ _ rfl,rfl,rfl⟩,hl.push _⟩,λ i v s' Q' E' hP hQ=>?_,λ h' tk hk=>?_⟩
 ·obtain⟨b,e,rfl⟩:=hb.get i v (by simpa using hP);simp only[e,Option.getD_some] at hQ;exact wpAny_truthy_bool hQ
 ·have e:((zW aa.toArray.size).all λ i=>(bs[i]?).getD true)=bs.all id:=by
   rw[zL,hb.length];exact LSm.range_all bs
  rw[e];exact⟨.bl _,H,I.kept (t':=tk) (LSm.kept_iter hk),rfl,q⟩
noncomputable def YF (ds:List D):M D:=match ds with
 |[.lst xs]=>(match GB xs with|some bs=>.ok (.bl (bs.all id))|none=>.bad)
 |_=>.bad
theorem mV:Lz X.K WX (λ xs H Q=>∃p bs,xs=[.ref p]/\DF X.K H p (List.map V.bl bs)/\Q (.bl (bs.all id)) H) YF:=by
 intro P H ds vs Q ht hl h;unfold YF at h;split at h
 ·rename_i xs;obtain⟨v,rfl,hv⟩:=hl.one;split at h
  ·rename_i bs eb;have:=Ni eb;subst this;cases hv with
   |lst hs hh =>
    have:=Nj hh;subst this;exact⟨_,bs,rfl,hs.Bg,h _ H (Ac.refl H) (.bl _)⟩
  ·exact h.elim
 ·exact h.elim
theorem YG {p:Pos}(hc:X.calm=true)(hg:Gl X "all")(hm:X.mg "all" = none)(ha:DE X WX c e f)(hb:bootBuiltins "all" = some (.builtin "all"):=by decide +kernel)(hs:starEach [e] X.env=[(false,eval e X.env)]:=by rfl):DE X WX c (.Call (.Name "all" p) [e] [] pos) (λ ρ=>((f ρ).bind λ d=>(M.ok []).bind λ ds=>.ok (d::ds)).bind YF):=
 Jx (Nl hc) mV hg hm hb (A2 ha A8 hs) (he:=hs)
end
def Sm (n:Int):Prop:=zb0 n<=2^20
theorem YH:∀ {ns:List Int},W.WData.weightAll (ns.map W.WData.int)<=2^20->∀n∈ns,Sm n
 |m::r,h,n,hn=>by
  rw[zG,W.WData.weightAll,W.WData.weight] at h;rcases zQ.mp hn with rfl|hn
  ·unfold Sm zb0;omega
  ·exact YH (by omega) n hn
theorem rQ {ns:List Int}(h:W.WData.layableAll [W.WData.list (ns.map W.WData.int)]=true):∀n∈ns,Sm n:=by
 unfold W.WData.layableAll at h;rw[zcj,zad] at h;have h1:=h.1;unfold W.WData.layable at h1;rw[zad,decide_eq_true_eq,W.WData.weight] at h1;exact YH h1.2
end L2
namespace HT
open PySem PySem.W PyProof.Rows Spec Calls wa
theorem Pf {l:OpenLaw}{n:Nat}{q:Program}{loose:List Str}{XP:(Str->Option Value)->Heap->Prop}{YP:World->Heap->Prop}{d:DefRec}
 (hn:l.most=some n) (gu:d.params.defaults=[])
 (run:∀(w:World) (s₀ s₁:Shared) (mg mb:Str->Option Value) (fa:Addr) (o:Obj) (pm cd doc:Value) (a:Addr) (vs:List Value) (ns:List Int),(∀n∈ns,L2.Sm n)->
  Ground q loose [] XP w s₀ mg mb s₁.heap->YP w s₁.heap->s₁.heap.get? fa=some o->o.data=.func (docDef d.name d.params d.body d.scope pm cd doc)->s₁.heap.CodeRec cd d.name->mg d.name=some (.ref fa)->
  s₁.heap.get? a=some {cls:=.type "list",data:=.seq vs.toArray}->IntsAre vs ns->ns.length<=n->s₁.gens=#[]->
  codeAny (model l.prog w) callerA (.call (.ref fa) ⟨[.ref a],[]⟩) (λ r s'=>r=.ok (.ret (.bool true))/\OldK s₁.heap s'.heap/\s'.os=s₁.os/\AllBare s'.gens) s₁):
 WalkO q loose XP YP l.row.toRowW d [] (λ f vs=>PySem.call f vs):=by
 intro w s₀ s₁ mg mb G Y fa o pm cd doc dV kV ho hd br hD gw hg args vals as de qk i8 o5 zm;obtain rfl:dV=.none:=Dflts.none hD gu;obtain rfl:kV=.none:=Dflts.noKw hD;obtain⟨a,vs,ns,rfl,rfl,c8,bz,hlen⟩:=Wg hn de o5;refine enter_call (codeAny_mono (run w s₀ s₁ mg mb fa o pm cd doc a vs ns (L2.rQ qk) G Y ho (fd_plain hd) br gw c8 bz hlen hg) λ r s' hq=>?_);obtain⟨rfl,h2,h3,h4⟩:=hq;exact⟨.inl ⟨.bool true,.bool true,[],rfl,λ _=>rfl,.bool true,Wh l _,λ _=>⟨List.Pairwise.nil,λ _ hm=>(nomatch hm)⟩⟩,h2,h3,h4⟩
end HT
namespace L2
open PySem PySem.Spec PyProof.Rows
theorem tT {l:PySem.W.OpenLaw}{n k:Nat}{q:Program}{loose:List Str}{XP:(Str->Option Value)->Heap->Prop}{YP:World->Heap->Prop}{d:DefRec}{K:Params->zy}{CX:World->UQ}{sp:World->Sp}{x:Str}
 (hn:l.most=some n) (aD:n<=sizeLine) (gu:d.params.defaults=[]) (hr:BM k callerA) (hY:∀(w:World) (h:Heap),YP w h->(K w.params).In h)
 (F:∀(w:World) (mg:Str->Option Value) (fa:Addr) (h:Heap),(K w.params).In h->h.Ns mainGlobals mg->mg d.name=some (.ref fa)->∃fd:FuncData,(∀(s:Shared) (u:Value),BindsTo s fd ⟨[u],[]⟩ [(x,u)])/\
  ∀base:Heap,(K w.params).In base->base.Ns mainGlobals mg->Dr l.prog w (K w.params) mg base (CX w) k fa fd [x] (sp w))
 (bU:∀(w:World) (H:Hp) (a:Addr) (ns:List Int),(∀n∈ns,Sm n)->ns.length<=n->dW H->DF (K w.params) H a (ns.map V.int)->sp w [.ref a] H (λ v _=>v=.bl true) λ _ _ _=>False)
 (jr:∀(w:World) (H:Hp) (s:Shared) (e:Value) (s':Shared),CX w [] H s (λ _ _ _=>False) e s'->False):PySem.W.WalkO q loose XP YP l.row.toRowW d [] (λ f vs=>PySem.call f vs):=by
 refine HT.Pf hn gu λ w s₀ s₁ mg mb fa o pm cd doc a vs ns bN G Y ho hd br gw c8 bz hlen hg=>?_;have KX:=hY w _ Y;obtain⟨fd,hb,hF⟩:=F w mg fa _ KX G.T.g gw;exact Ru KX G.T.g G.T.b G.T.builtins G.T.nolimit hg c8 bz (zat hlen aD) hr hF hb (λ H hO hS=>bU w H a ns bN hlen hO hS) λ H e s'=>jr w H s₁ e s'
theorem eW {F:List D->M D}(h:∀ns:List Int,ns.length<=63->(∀n∈ns,Sm n)->F [.lst (ns.map D.int)]=.ok (.bl true))(K:zy)(H:Hp)(a:Addr)(ns:List Int)(bN:∀n∈ns,Sm n)(hl:ns.length<=63)(hS:DF K H a (ns.map V.int)):TQ K 1 F [.ref a] H (λ v _=>v=.bl true) λ _ _ _=>False:=by
 refine⟨rfl,λ _=>False,[.lst (ns.map D.int)],λ _ z=>z.elim,.cons (.lst ?_ (Ag.ints ns)) .nil,?_⟩
 ·have e:del H (λ _=>False)=H:=by funext b;exact Az (λ z=>z)
  rw[e];exact hS
 ·rw[h ns hl bN];exact λ v H' s hv=>hv.Nb
def Pg (i j:Int):Prop:=(zb0 i<=2^20+1/\zb0 j<=2^10)\/RK i j
theorem Wy {a b:Int}(h:zb0 a+zb0 b<=2^21):IntMulOk a b:=by
 have e:(2:Nat)^21=2097152:=by decide
 have h2:Builtin.Int.intTooBig (zb0 a+zb0 b)=false:=by
  unfold Builtin.Int.intTooBig bitsLine;exact decide_eq_false (by omega)
 unfold IntMulOk;rw[h2];simp
theorem Pg.ok {i j:Int}(h:Pg i j):IntMulOk i j:=by
 rcases h with ⟨h1,h2⟩|h
 ·exact Wy (by omega)
 ·exact h.ok
theorem eX {X:Cx}:Gp X (binaryOp .Mult) (rI Pg λ i j=>.int (i*j)):=tL λ _ _ _ _ _ _ _ hc q=>mul_int q hc.ok
noncomputable instance (i j:Int):Decidable (Pg i j):=zct _
noncomputable def Nm:=Bo λ i j=>if Pg i j then .ok (.int (i*j)) else .bad
theorem JD {i j:Int}(h:Pg i j):Nm (.int i) (.int j)=.ok (.int (i*j)):=by
 unfold Nm Bo;dsimp only;rw[if_pos h]
theorem Mm {X:Cx}{WX:Str->Hp->Prop}{c:Bool}{a b:Expr}{f g:Aa->M D}{pos:Pos}(ha:DE X WX c a f)(hb:DE X WX c b g):DE X WX c (.BinOp a .Mult b pos) (λ ρ=>(f ρ).bind λ x=>(g ρ).bind λ y=>Nm x y):=P8 eX (Qf λ _ _ _ _=>.int _) ha hb
mutual
noncomputable def L1:D->Bool
 | .tup a=>JE a
 | .lst _| .DH _| .Bd _ _ _| .ins _ _ _=>false
 |_=>true
noncomputable def JE:List D->Bool
 |[]=>true
 |a::r=>L1 a&&JE r
end
theorem V7 {H:Hp}{P0 P:Addr->Prop}{a:Addr}{xs:List V}(ht:∀a,P a->E6 H a)(h:del H P0 a=some (.tup xs)):del H P a=some (.tup xs):=by
 obtain⟨h1,h2⟩:=Am h;rw[Az λ z=>by
  obtain⟨o',q,r⟩:=ht a z;rw[h2] at q;cases q;exact (r xs).1 rfl]
 exact h2
mutual
theorem Bu.L1 {K:zy}{H:Hp}{P0 P:Addr->Prop}(ht:∀a,P a->E6 H a):∀ {v:V}{d:D},L1 d=true->Bu K (del H P0) v d->Bu K (del H P) v d
 |_,_,_,.AF=>.AF
 |_,_,_,.bl b=>.bl b
 |_,_,_,.int i=>.int i
 |_,_,_,.str x=>.str x
 |_,_,n,.tup h r=>.tup (V7 ht h) (Ag.L1 ht (by rw[L2.L1] at n;exact n) r)
 |_,_,n,.lst h r|_,_,n,.DH h r|_,_,n,.Gu h r|_,_,n,.Hz h r|_,_,n,.ins _ h r=>by rw[L2.L1] at n;cases n
theorem Ag.L1 {K:zy}{H:Hp}{P0 P:Addr->Prop}(ht:∀a,P a->E6 H a):∀ {vs:List V}{ds:List D},JE ds=true->Ag K (del H P0) vs ds->Ag K (del H P) vs ds
 |_,_,_,.nil=>.nil
 |_,_,n,.cons h t=>by
  rw[JE,zad] at n;exact .cons (Bu.L1 ht n.1 h) (Ag.L1 ht n.2 t)
end
noncomputable def dp (m:M D):M D:=m.bind λ d=>if L1 d=true then .ok d else .bad
section
variable {α:Type}(lt:α->α->Prop)
def Oh:List α->List α->Prop
 |y::ys,x::xs=>(lt y x/\ys.length=xs.length)\/(y=x/\Oh ys xs)
 |_,_=>False
theorem Oh.len:∀ {ys xs:List α},Oh lt ys xs->ys.length=xs.length
 |y::ys,x::xs,h=>by
  rcases h with ⟨_,h⟩|⟨_,h⟩
  ·rw[zO,zO,h]
  ·rw[zO,zO,Oh.len h]
 |[],[],h|[],_::_,h|_::_,[],h=>h.elim
theorem YI (n:Nat)(ih:∀xs:List α,xs.length=n->Acc (Oh lt) xs){x:α}(hx:Acc lt x):∀ {xs:List α},xs.length=n->Acc (Oh lt) xs->Acc (Oh lt) (x::xs):=by
 induction hx with
 |intro x _ xQ =>
  intro xs hl bZ;induction bZ with
  |intro xs _ ql =>
   refine .intro _ λ zs h=>?_;cases zs with
   |nil=>exact h.elim
   |cons y ys =>
    rcases h with ⟨h1,h2⟩|⟨h1,h2⟩
    ·exact xQ y h1 (h2.trans hl) (ih ys (h2.trans hl))
    ·subst h1;exact ql ys h2 ((Oh.len lt h2).trans hl)
theorem Nn (h:∀x,Acc lt x):∀(n:Nat) (xs:List α),xs.length=n->Acc (Oh lt) xs
 |0,[],_=>.intro _ λ zs h=>by cases zs<;>exact h.elim
 |n+1,x::xs,e=>YI lt n (Nn h n) (h x) (by simpa using e) (Nn h n xs (by simpa using e))
theorem V8:∀ {xs:List α}{i:Nat}{y:α}{x:α},xs[i]?=some x->lt y x->Oh lt (xs.set i y) xs
 |[],_,_,_,h,_=>by cases h
 |z::zs,0,y,x,h,hl=>by
  cases h;exact .inl ⟨hl,rfl⟩
 |z::zs,i+1,y,x,h,hl=>.inr ⟨rfl,V8 (by simpa using h) hl⟩
theorem Oh.trans (ht:∀a b c,lt a b->lt b c->lt a c):∀ {xs ys zs:List α},Oh lt xs ys->Oh lt ys zs->Oh lt xs zs
 |x::xs,y::ys,z::zs,h1,h2=>by
  rcases h1 with ⟨a,b⟩|⟨rfl,b⟩
  ·rcases h2 with ⟨c,d⟩|⟨rfl,d⟩
   ·exact .inl ⟨ht _ _ _ a c,b.trans d⟩
   ·exact .inl ⟨a,b.trans (Oh.len lt d)⟩
  ·rcases h2 with ⟨c,d⟩|⟨rfl,d⟩
   ·exact .inl ⟨c,(Oh.len lt b).trans d⟩
   ·exact .inr ⟨rfl,Oh.trans ht b d⟩
 |[],_,_,h,_|_::_,[],_,h,_|_::_,_::_,[],_,h=>by cases h
end
section
variable {X:Cx}{WX:Str->Hp->Prop}{c:Bool}{P0:Ds}{P:Addr->Prop}{H:Hp}{σ:St}{ρ:Aa}{a b e:Expr}{f g g2:Aa->M D}{pos:Pos}
noncomputable def wK (i k:Nat)(ρ:Aa):M Out:=match ρ[i]?,ρ[k]? with
 |some (some (.ow (.rows BF))),some (some (.own ds))=>if BF.length<1000/\i≠k then .ok (.next ((ρ.set k none).set i (some (.ow (.rows (BF++[ds])))))) else .bad
 |_,_=>.bad
theorem YJ {α:Type}{l:List α}{k:Int}{n:Nat}(h:OX l.length k=some n):Rr l k=l[n]? :=by
 unfold Rr;rw[h];rfl
noncomputable def rowAt (BF:List (List D))(ka:D):M (List D):=match ka with
 | .int j=>(match OX BF.length j with|some n=>(match BF[n]? with|some ds=>.ok ds|none=>.bad)|none=>.bad)
 |_=>.bad
theorem Ph {BF:List (List D)}{ka:D}{m:M (List D)}(h:rowAt BF ka=m)(hb:m≠.bad):∃j n ds,ka=.int j/\OX BF.length j=some n/\BF[n]?=some ds/\m=.ok ds:=by
 subst h;unfold rowAt at hb ⊢;split at hb
 ·rename_i j;split at hb
  ·rename_i n en;split at hb
   ·rename_i ds ed;exact⟨j,n,ds,rfl,en,ed,by simp only[en,ed]⟩
   ·exact (hb rfl).elim
  ·exact (hb rfl).elim
 ·exact (hb rfl).elim
noncomputable def eY (i:Nat)(ρ:Aa)(ma mb:M D):M D:=match ρ[i]? with
 |some (some (.ow (.rows BF)))=>ma.bind λ ka=>(rowAt BF ka).bind λ ds=>mb.bind λ kb=>eM (.lst ds) kb
 |_=>.bad
theorem rR {K:zy}{P:Addr->Prop}{Q:VK}{m:M D}(h:gV K WX P H Q m):m≠.bad:=λ e=>by rw[e] at h;exact h
theorem V9 {α β:Type}{m:M α}{k:α->M β}(h:m.bind k≠.bad):m≠.bad:=λ e=>by rw[e] at h;exact h rfl
theorem Ql (i:Nat){x:Str}{p1 p2:Pos}(hv:PE X (.Name x p1) (Oj i))(ha:DE X WX true a f)(hb:DE X WX true b g)(hs:Hw a:=by exact λ _ _=>rfl)(aZ:Hw b:=by exact λ _ _=>rfl):
 DE X WX true (.Subscript (.Subscript (.Name x p1) a p2) b pos) (λ ρ=>eY i ρ (f ρ) (g ρ)):=by
 obtain⟨ta,a1,a2⟩:=ha;obtain⟨tb,b1,b2⟩:=hb;refine⟨_,UW Mf (UW Mf hv a1 hs) b1 aZ,λ P0 P σ H Q ρ E h=>?_⟩;dsimp only at h;unfold eY at h;split at h
 ·rename_i BF e1;obtain⟨v,fp,h1,⟨p,ps,rfl,rfl,h2,h3⟩,h4,nd⟩:=E.ows i _ e1 rfl;refine⟨_,h1,a2 P0 P σ H _ ρ E ?_⟩;cases q:f ρ with
  |bad|ex x=>rw[q] at h;exact h
  |ok ka =>
   rw[q] at h;simp only[M.A7] at h;intro w H1 s1 hw;obtain⟨j,n,ds,rfl,en,ed,em⟩:=Ph rfl (V9 (rR h));rw[em] at h;simp only[M.A7] at h;cases hw;obtain⟨r,xs,r1,r2,r3⟩:=h3.get ed;have hl:OX (ps.map V.ref).length j=some n:=by rw[zC,h3.length];exact en
   refine⟨p,_,j,.ref r,rfl,rfl,.of (s1 _ _ h2),by rw[YJ hl,za2,r1];rfl,?_⟩;refine b2 P0 P σ H1 _ ρ (E.same s1) ?_;cases q2:g ρ with
   |bad=>rw[q2] at h;exact h.elim
   |ex x=>rw[q2] at h;exact λ H' s'=>h H' (s1.trans s')
   |ok kb =>
    rw[q2] at h;simp only[M.A7] at h;intro u H2 s2 hu;unfold eM at h;split at h
    ·rename_i bv;cases bv
    ·rename_i j0 j' bv;cases bv;split at h
     ·rename_i d e;cases hu;obtain⟨z,k1,k2⟩:=(r3.mono (s1.trans s2).del).Rr e;exact⟨r,xs,j',z,rfl,rfl,.of (s2 _ _ (s1 _ _ r2)),k1,h _ H2 (s1.trans s2) k2⟩
     ·exact h.elim
    ·exact h.elim
 ·exact h.elim
theorem Bv.set {K:zy}{H H':Hp}{P:Addr->Prop}(sm:Ac (del H P) (del H' P)){r:Addr}{xs:List V}{ds:List D}(hr:H' r=some (.lst xs))(hx:Ag K (del H' P) xs ds)(k:∀a,a≠r->H' a=H a):∀ {ps:List Addr}{BF:List (List D)}{n:Nat},ps.Nodup->ps[n]?=some r->Bv K H P ps BF->Bv K H' P ps (BF.set n ds)
 |_,_,_,_,e,.nil=>by simp at e
 |_,_,0,nd,e,.cons h1 h2 t=>by
  simp at e;subst e;rw[zav] at nd;exact .cons hr hx (t.move sm λ a ha=>k a λ z=>nd.1 (by rw[<-z];exact ha))
 |q::ps,d::BF,n+1,nd,e,.cons h1 h2 t=>by
  rw[zav] at nd;have e':ps[n]?=some r:=by simpa using e
  refine .cons ((k q λ z=>nd.1 (by rw[z];exact zM e')).trans h1) (h2.mono sm) (t.set sm hr hx k nd.2 e')
noncomputable def eZ (i:Nat)(ρ:Aa)(BF:List (List D))(d ka:D)(ds:List D)(kb:D):M Out:=match ka,kb with
 | .int j,.int l=>(match OX BF.length j,OX ds.length l with|some n,some m=>.ok (.next (ρ.set i (some (.ow (.rows (BF.set n (ds.set m d)))))))|_,_=>.bad)
 |_,_=>.bad
noncomputable def RN (i:Nat)(ρ:Aa)(ma mb:M D)(d:D):M Out:=match ρ[i]? with
 |some (some (.ow (.rows BF)))=>ma.bind λ ka=>(rowAt BF ka).bind λ ds=>mb.bind λ kb=>eZ i ρ BF d ka ds kb
 |_=>.bad
theorem Qm (i:Nat){x:Str}{p1 p2 au:Pos}(hv:PE X (.Name x p1) (Oj i))(he:DE X WX true e g2)(ha:DE X WX true a f)(hb:DE X WX true b g)(xR:Hw a:=by exact λ _ _=>rfl)
 (hs:swapsWithSole [.Subscript (.Subscript (.Name x p1) a p2) b au] e pos.line X.env=pure false:=by rfl) (hw:swappedStores [.Subscript (.Subscript (.Name x p1) a p2) b au] e X.env=pure none:=by rfl) (h1:(assignEach [.Subscript (.Subscript (.Name x p1) a p2) b au] X.env).map (·.2)=[assign (.Subscript (.Subscript (.Name x p1) a p2) b au) X.env]:=by rfl)
 (gq:∀v,assign (.Subscript (.Subscript (.Name x p1) a p2) b au) X.env v=(do
  let ov <-holding [v] (eval (.Subscript (.Name x p1) a p2) X.env);let iv <-holding [v,ov] (eval b X.env)
  standAt au
  holding [v,ov,iv] (setItem ov iv v)
  release [v,ov,iv] []):=by intro _;rfl):
 DS X WX (.Assign [.Subscript (.Subscript (.Name x p1) a p2) b au] e pos) (λ ρ=>(g2 ρ).bind (RN i ρ (f ρ) (g ρ))):=by
 obtain⟨te,e1,e2⟩:=he;obtain⟨ta,a1,a2⟩:=ha;obtain⟨tb,b1,b2⟩:=hb;refine⟨_,Tf e1 (XN (UW Mf hv a1 xR) b1 set_list gq) hs hw h1,λ P0 P σ H Z ρ E h=>?_⟩;dsimp only at h;refine e2 P0 P σ H _ ρ E ?_;cases q0:g2 ρ with
 |bad=>rw[q0] at h;exact h
 |ex x=>rw[q0] at h;exact λ H' s=>h H' P (E.tr s)
 |ok d =>
  rw[q0] at h;simp only[M.A7] at h;intro v H0 s0 qm;have E0:=E.same s0;unfold RN at h;split at h
  ·rename_i BF wm;obtain⟨v',fp,h1,o1,h4,nd⟩:=E0.ows i _ wm rfl;have oa:=o1;obtain⟨p,ps,rfl,rfl,h2,h3⟩:=o1;refine⟨_,h1,a2 P0 P σ H0 _ ρ E0 ?_⟩;cases q:f ρ with
   |bad=>rw[q] at h;exact h.elim
   |ex x=>rw[q] at h;exact λ H' s=>h H' P ((E.tr s0).trans (E0.tr s))
   |ok ka =>
    rw[q] at h;simp only[M.A7] at h;intro w H1 s1 hw;obtain⟨j,n,ds,rfl,en,ed,em⟩:=Ph rfl (V9 (jS h));rw[em] at h;simp only[M.A7] at h;cases hw;obtain⟨r,xs,r1,r2,r3⟩:=h3.get ed;have hl:OX (ps.map V.ref).length j=some n:=by rw[zC,h3.length];exact en
    refine⟨p,_,j,.ref r,rfl,rfl,.of (s1 _ _ h2),by rw[YJ hl,za2,r1];rfl,?_⟩;have E1:=E0.same s1;refine b2 P0 P σ H1 _ ρ E1 ?_;cases q2:g ρ with
    |bad=>rw[q2] at h;exact h.elim
    |ex x=>rw[q2] at h;exact λ H' s'=>h H' P ((E.tr s0).trans ((E0.tr s1).trans (E1.tr s')))
    |ok kb =>
     rw[q2] at h;simp only[M.A7] at h;intro u H2 s2 hu;unfold eZ at h;split at h
     ·rename_i j' l bv;cases bv;cases hu;split at h
      ·rename_i n' m em xS;rw[en] at em;cases em;have E2:=E1.same s2;have c9:=s1.trans s2;have rm:r∈ps:=zM r1;have rP:=h4 r (zF _ rm);have e7:=zav.mp nd;have rp:r≠p:=λ z=>e7.1 (by rw[<-z];exact rm);have sd:del (upd H2 r (.lst (xs.set m v))) P=del H2 P:=by
        funext b;by_cases hb:P b
        ·rw[Eh hb,Eh hb]
        ·rw[Az hb,Az hb,Ab (λ z=>hb (by rw[z];exact rP.1))]
       have sm:Ac (del H2 P) (del (upd H2 r (.lst (xs.set m v))) P):=by rw[sd];exact Ac.refl _
       have ob:=oa.same c9;refine⟨r,xs,l,m,rfl,rfl,c9 _ _ r2,by rw[r3.length];exact xS,?_⟩;have key:=E2.Yt (P':=P) (H':=upd H2 r (.lst (xs.set m v))) (i:=i) (v:=.ref p) (c:=.ow (.rows (BF.set n (ds.set m d)))) (fp:=p::ps) (λ a h=>h) (λ a h=>?_) sm (λ j2 c' v' ak af g1 g2 g3 a ha=>?_)
        ⟨p,ps,rfl,rfl,by rw[Ab (zao rp)];exact c9 _ _ h2,?_⟩ h4 nd
       ·rw[Nc h1] at key;exact h _ _ _ ((E.tr s0).trans ((E0.tr c9).trans ⟨sm,λ a h=>by rw[Ab (λ z=>rP.2 (by rw[<-z];exact h))]⟩)) key
       ·by_cases ha:a=r
        ·subst ha;exact E6.lst Aj
        ·unfold E6;rw[Ab ha];exact E2.C3 a h
       ·have n1:=E2.apart j2 i _ _ _ _ _ _ g1 wm g2 h1 g3 ob (zao af) a ha;exact⟨Ab λ z=>n1 (by rw[z];exact zF _ rm),n1⟩
       ·have xT:Bv X.K H2 P ps BF:=h3.move c9.del λ a ha=>by obtain⟨ys,z⟩:=h3.at a ha;rw[z];exact c9 _ _ z
        refine xT.set sm Aj ?_ (λ a ha=>Ab ha) e7.2 r1;rw[sd];exact Ng ((qm.mono s1.del).mono s2.del) m (r3.mono c9.del)
      ·exact h.elim
     ·exact h.elim
  ·exact h.elim
end
section
variable {X:Cx}{WX:Str->Hp->Prop}{c:Bool}{P0:Ds}{P:Addr->Prop}{H:Hp}{σ:St}{ρ:Aa}{a b e:Expr}{f g g2:Aa->M D}{pos:Pos}
theorem E9:∀ {ds:List D}{ns:List Int},CG ds=some ns->ds=ns.map D.int
 |[],ns,h=>by cases h;rfl
 | .int b::r,bs,h=>by
  rw[CG] at h;cases q:CG r with
  |none=>rw[q] at h;cases h
  |some xP=>rw[q] at h;cases h;rw[E9 q];rfl
 | .AF::r,bs,h| .bl _::r,bs,h| .str _::r,bs,h| .tup _::r,bs,h| .lst _::r,bs,h| .DH _::r,bs,h| .Bd _ _ _::r,bs,h| .ins _ _ _::r,bs,h=>by cases h
theorem El {K:zy}{H:Hp}:∀ {vs:List V}{bs:List Int},Ag K H vs (bs.map D.int)->vs=bs.map V.int
 |_,[],.nil=>rfl
 |_,b::r,.cons h t=>by cases h;rw[El t];rfl
end
theorem mW {P P2:Addr->Prop}{H H':Hp}(t:Tr P P H P2 H'){a:Addr}(h:P2 a)(hn:¬ P a):H a=none:=by
 cases q:H a with
 |none=>rfl
 |some o =>
  have:=t.1 a o (by rw[Az hn];exact q);exact ((Am this).1 h).elim
section
variable {X:Cx}{WX:Str->Hp->Prop}{c:Bool}{P0:Ds}{P:Addr->Prop}{H:Hp}{σ:St}{ρ:Aa}{a b e:Expr}{f g:Aa->M D}{pos:Pos}
def fA:V->List V->Hp->VK->Prop:=λ x vs H Q=>∃(l:Addr) (xs:List V) (k:Nat) (y:V),x=.ref l/\vs=[.int (k:Int),y]/\H l=some (.lst xs)/\k<=xs.length/\xs.length<sizeLine/\Q .AF (upd H l (.lst (xs.take k++y::xs.drop k)))
theorem RO:∀ {xs:List V}{us:List Value}{y:V}{w:Value},Vals xs us->∀k:Nat,RelV y w->Vals (xs.take k++y::xs.drop k) (us.take k++w::us.drop k)
 |_,_,_,_,r,0,h=>.cons h r
 |_,_,_,_,.nil,k+1,h=>.cons h .nil
 |_,_,_,_,.cons a t,k+1,h=>.cons a (RO t k h)
theorem YK {prog:Program}{wd:World}{A:Around}{E:Value->Shared->Prop}{s:Shared}{Q:Value->Shared->Prop}{l:Addr}{items:Array Value}{n:Nat}(x:Int)(u:Tok)(y:Value)(hc:¬(!Builtin.List.listFitsIndex x)=true)(hs:items.size<=sizeLine)
 (e:s.heap.get? l=some {cls:=.type "list",data:=.seq items n})
 (h:Q .none {s with heap:=s.heap.update l (zbz λ xs=>(xs.extract 0 (if x<0 then (x+(xs.size:Int)).toNat else min x.toNat xs.size)).push y++xs.extract (if x<0 then (x+(xs.size:Int)).toNat else min x.toNat xs.size)),toks:=s.toks}):wpAny (model prog wd) A (call (.builtin "list.insert") [.ref l,.int x u,y]) Q E s:=by
 have hm:=PySem.AutoSeq1.list_insert_list_int_val_1 l items n x u y hc hs;have ha:=PySem.F.args_list_insert_3 (.ref l) (.int x u) y;exact call_meets PySem.F.slot_list_insert ⟨_,e,rfl⟩ PySem.F.entry_list_insert ha hm ⟨e,h⟩
theorem Wz:tO X "list.insert" fA:=by
 intro pins s σ H x vs v us Q I rx rv h;obtain⟨l,xs,k,y,rfl,rfl,hH,hk,hz,q⟩:=h;cases rx;obtain⟨u,w,rfl,ru,bt⟩:=rv.two;obtain⟨tk,rfl⟩:=ru;obtain⟨z,aa,n,r,hl,e⟩:=I.Wd hH;have hlen:=r.length;have zn:=KL;have f7:¬ (!Builtin.List.listFitsIndex (k:Int))=true:=by
  unfold Builtin.List.listFitsIndex;simp;omega
 have hsz:aa.toArray.size<=sizeLine:=by rw[zL,<-hl];exact zaz hz
 refine YK (k:Int) tk w f7 hsz e ?_;refine⟨.AF,_,I.dR (its':=aa.take k++w::aa.drop k) hH e ?_ ?_ ?_,rfl,q⟩
 ·have e1:¬ ((k:Int)<0):=by omega
  have e2:min (k:Int).toNat aa.toArray.size=k:=by rw[zax,zL];omega
  simp only[e1,if_false,e2];apply Array.toList_inj.mp;simp;rw[List.take_of_length_le (by rw[zcp];exact zU _)]
 ·exact RO r k bt
 ·rw[za7,zO,zc5,zcp];omega
noncomputable def WA (i:Nat)(ρ:Aa)(mk md:M D):M Out:=match ρ[i]? with
 |some (some (.own ds))=>mk.bind λ k=>md.bind λ d=>match k with
  | .int j=>if 0<=j/\j.toNat<=ds.length/\ds.length<1000 then .ok (.next (ρ.set i (some (.own (ds.take j.toNat++d::ds.drop j.toNat))))) else .bad
  |_=>.bad
 |_=>.bad
theorem Pj {K:zy}{H:Hp}:∀ {vs:List V}{ds:List D}(n:Nat),Ag K H vs ds->Ag K H (vs.take n) (ds.take n)
 |_,_,0,_=>by rw[List.take_zero,List.take_zero];exact .nil
 |_,_,_+1,.nil=>.nil
 |_,_,n+1,.cons h t=>by rw[List.take_succ_cons,List.take_succ_cons];exact .cons h (Pj n t)
theorem Pk {K:zy}{H:Hp}:∀ {vs:List V}{ds:List D}(n:Nat),Ag K H vs ds->Ag K H (vs.drop n) (ds.drop n)
 |_,_,0,h=>h
 |_,_,_+1,.nil=>.nil
 |_,_,n+1,.cons h t=>by rw[List.drop_succ_cons,List.drop_succ_cons];exact Pk n t
theorem RP {K:zy}{H:Hp}:∀ {vs ws:List V}{ds es:List D},Ag K H vs ds->Ag K H ws es->Ag K H (vs++ws) (ds++es)
 |_,_,_,_,.nil,k=>k
 |_,_,_,_,.cons h t,k=>.cons h (RP t k)
theorem WB (i:Nat){x:Str}{p1 apos ae:Pos}(hv:PE X (.Name x p1) (Oj i))(hk:DE X WX true a f)(hd:DE X WX true b g)(hs:starEach [a,b] X.env=(false,eval a X.env)::starEach [b] X.env:=by rfl)(aZ:starEach [b] X.env=[(false,eval b X.env)]:=by rfl)
 (bW:swapsWith (.Call (.Attribute (.Name x p1) "insert" apos) [a,b] [] ae) none pos.line X.env=pure false:=by rfl)
 (ay:attributeBase (.Name x p1) "insert" X.env (eval (.Name x p1) X.env)=eval (.Name x p1) X.env:=by rfl)
 (bi:((backTo ae (starEach [a,b] X.env)).all (λ x => !x.1)&&(backToKw ae (keywordEach [] X.env)).all (λ x=>x.1.isSome)&&decide (([a,b]:List Expr).length+([]:List Keyword).length+(if ([]:List Keyword).isEmpty then 0 else 1)<30))=true:=by rfl)
 (az:(apos.endLine==ae.line)=true:=by rfl) (ar:(backTo ae (starEach [b] X.env)).any (·.1)=false:=by rfl):
 DS X WX (.Expr (.Call (.Attribute (.Name x p1) "insert" apos) [a,b] [] ae) pos) (λ ρ=>WA i ρ (f ρ) (g ρ)):=by
 obtain⟨ta,a1,a2⟩:=hk;obtain⟨tb,b1,b2⟩:=hd;refine⟨_,Jp (UX PySem.F.plainAttrs_list PySem.F.slot_list_insert PySem.F.type_list_insert Wz hv (Bt a1 (Bt b1 CO aZ) hs) ay bi az hs ar) bW,λ P0 P σ H Z ρ E h=>?_⟩;dsimp only at h;unfold WA at h;split at h
 ·rename_i ds e1;obtain⟨p,xs,h1,h2,h3,h4,h5⟩:=E.own i ds e1;refine⟨_,h1,.inl ⟨rfl,xs,.of h2⟩,a2 P0 P σ H _ ρ E ?_⟩;cases q:f ρ with
  |bad=>rw[q] at h;exact h
  |ex y=>rw[q] at h;exact λ H' s=>h H' P (E.tr s)
  |ok k =>
   rw[q] at h;simp only[M.A7] at h;intro w H1 s1 hw;have E1:=E.same s1;refine b2 P0 P σ H1 _ ρ E1 ?_;cases q2:g ρ with
   |bad=>rw[q2] at h;exact h
   |ex y=>rw[q2] at h;exact λ H' s=>h H' P ((E.tr s1).trans (E1.tr s))
   |ok d =>
    rw[q2] at h;simp only[M.A7] at h;intro v H2 s2 qm;have E2:=E1.same s2;have c9:=s1.trans s2;split at h
    ·rename_i j;cases hw;by_cases hj:0<=j/\j.toNat<=ds.length/\ds.length<1000
     ·rw[if_pos hj] at h;have xU:((j.toNat:Nat):Int)=j:=Int.toNat_of_nonneg hj.1;have wn:=h5.mono c9.del;refine⟨p,xs,j.toNat,v,rfl,by rw[xU],c9 _ _ h2,by rw[h5.length];exact hj.2.1,AB (by rw[h5.length];exact zaz hj.2.2),?_⟩;obtain⟨E3,t3⟩:=E2.mut e1 h1 h3 h4 (RP (Pj j.toNat wn) (.cons qm (Pk j.toNat wn)));exact h _ _ _ ((E.tr c9).trans t3) E3
     ·rw[if_neg hj] at h;exact h.elim
    ·exact h.elim
 ·exact h.elim
noncomputable def rS (ds:List D):M D:=match ds with
 |[.lst xs]=>(match GB xs with|some bs=>.ok (.bl (bs.any id))|none=>.bad)
 |_=>.bad
end
noncomputable def kids:OT->List OT
 | .sh _=>[]
 | .lst ts| .tup ts| .Bd _ _ ts| .ins _ _ ts=>ts
noncomputable def Mn:OT->List OT->OT
 | .sh d,_=>.sh d
 | .lst _,ts=>.lst ts
 | .tup _,ts=>.tup ts
 | .Bd b ks _,ts=>.Bd b ks ts
 | .ins x ns _,ts=>.ins x ns ts
noncomputable def L3:OT->List Nat->Option OT
 |t,[]=>some t
 |t,j::π=>match (kids t)[j]? with|some s=>L3 s π|none=>none
noncomputable def EW:OT->List Nat->OT->OT
 |_,[],u=>u
 |t,j::π,u=>match (kids t)[j]? with|some s=>Mn t ((kids t).set j (EW s π u))|none=>t
@[simp] theorem YL (t:OT):L3 t []=some t:=by unfold L3;rfl
@[simp] theorem Fi (t u:OT):EW t [] u=u:=by unfold EW;rfl
theorem WC {t s:OT}{j:Nat}{π:List Nat}(h:(kids t)[j]?=some s):L3 t (j::π)=L3 s π:=by rw[L3,h]
theorem WD {t s u:OT}{j:Nat}{π:List Nat}(h:(kids t)[j]?=some s):EW t (j::π) u=Mn t ((kids t).set j (EW s π u)):=by rw[EW,h]
section
variable {K:zy}{H H':Hp}{P P':Addr->Prop}
def CI (K:zy)(H:Hp)(P:Addr->Prop)(v:V)(t:OT)(q:List Addr)(xs:List V):Prop:=match t with
 | .sh _=>False
 | .lst ts=>∃p,v=.ref p/\q=[p]/\H p=some (.lst xs)
 | .tup ts=>∃p,v=.ref p/\q=[]/\del H P p=some (.tup xs)
 | .Bd false ks ts=>∃p kvs,v=.ref p/\q=[p]/\H p=some (.dK kvs)/\ks=(kvs.map λ kv=>Cp kv.1)/\xs=kvs.map zb1
 | .Bd true ks ts=>∃p kvs,v=.ref p/\q=[p]/\H p=some (.dT kvs)/\ks=(kvs.map λ kv=>.tup (kv.1.map Cp))/\xs=kvs.map zb1
 | .ins x ns ts=>∃p C dx fs,v=.ref p/\q=[p]/\zE K mainGlobals x=some (some (.ref C))/\H p=some (.ins C dx fs)/\ns=fs.map za1/\xs=fs.map zb1
theorem CI.own {v:V}{t:OT}{q:List Addr}{xs:List V}{fp:List Addr}(h:CI K H P v t q xs)(r:Aw K H P xs (kids t) fp):BQ K H P v t (q++fp):=by
 cases t with
 |sh d=>exact h.elim
 |lst ts=>obtain⟨p,rfl,rfl,h⟩:=h;exact .lst h r
 |tup ts=>obtain⟨p,rfl,rfl,h⟩:=h;exact .tup h r
 |Bd b ks ts =>
  cases b with
  |false=>obtain⟨p,kvs,rfl,rfl,h,rfl,rfl⟩:=h;exact .dK h r
  |true=>obtain⟨p,kvs,rfl,rfl,h,rfl,rfl⟩:=h;exact .dT h r
 |ins x ns ts=>obtain⟨p,C,dx,fs,rfl,rfl,n,h,rfl,rfl⟩:=h;exact .ins n h r
theorem BQ.node {v:V}{t:OT}{fp:List Addr}(h:BQ K H P v t fp)(hk:kids t≠[]\/∀d,t≠.sh d):∃q xs fq,fp=q++fq/\CI K H P v t q xs/\Aw K H P xs (kids t) fq:=by
 cases h with
 |sh h=>rcases hk with hk|hk;exact (hk rfl).elim;exact (hk _ rfl).elim
 |lst h r=>exact⟨[_],_,_,rfl,⟨_,rfl,rfl,h⟩,r⟩
 |tup h r=>exact⟨[],_,_,rfl,⟨_,rfl,rfl,h⟩,r⟩
 |dK h r|dT h r=>exact⟨[_],_,_,rfl,⟨_,_,rfl,rfl,h,rfl,rfl⟩,r⟩
 |ins n h r=>exact⟨[_],_,_,rfl,⟨_,_,_,_,rfl,rfl,n,h,rfl,rfl⟩,r⟩
theorem CI.move (sm:Ac (del H P) (del H' P')){v:V}{t:OT}{q:List Addr}{xs:List V}(k:∀a∈q,H' a=H a)(h:CI K H P v t q xs):CI K H' P' v t q xs:=by
 cases t with
 |sh d=>exact h.elim
 |lst ts=>obtain⟨p,rfl,rfl,h⟩:=h;exact⟨p,rfl,rfl,(k p zD).trans h⟩
 |tup ts=>obtain⟨p,rfl,rfl,h⟩:=h;exact⟨p,rfl,rfl,sm _ _ h⟩
 |Bd b ks ts =>
  cases b with
  |false|true=>obtain⟨p,kvs,rfl,rfl,h,rfl,rfl⟩:=h;exact⟨p,kvs,rfl,rfl,(k p zD).trans h,rfl,rfl⟩
 |ins x ns ts=>obtain⟨p,C,dx,fs,rfl,rfl,n,h,rfl,rfl⟩:=h;exact⟨p,C,dx,fs,rfl,rfl,n,(k p zD).trans h,rfl,rfl⟩
theorem CI.kids {v:V}{t:OT}{q:List Addr}{xs:List V}(h:CI K H P v t q xs)(ts:List OT):CI K H P v (Mn t ts) q xs:=by
 cases t with
 |sh d=>exact h.elim
 |lst us|tup us=>exact h
 |Bd b ks us=>cases b<;>exact h
 |ins x ns us=>exact h
theorem Qn {v:V}{t:OT}{q:List Addr}{xs:List V}(h:CI K H P v t q xs)(ts:List OT):L2.kids (Mn t ts)=ts:=by
 cases t with
 |sh d=>exact h.elim
 |lst us|tup us|Bd b ks us|ins x ns us=>rfl
theorem CI.inj {v:V}{t:OT}{q q':List Addr}{xs dL:List V}(h:CI K H P v t q xs)(h':CI K H P v t q' dL):q=q'/\xs=dL:=by
 cases t with
 |sh d=>exact h.elim
 |lst ts|tup ts=>obtain⟨p,rfl,rfl,h⟩:=h;obtain⟨p',e,rfl,h'⟩:=h';cases e;rw[h] at h';cases h';exact⟨rfl,rfl⟩
 |Bd b ks ts =>
  cases b with
  |false|true=>obtain⟨p,kvs,rfl,rfl,h,_,rfl⟩:=h;obtain⟨p',qo,e,rfl,h',_,rfl⟩:=h';cases e;rw[h] at h';cases h';exact⟨rfl,rfl⟩
 |ins x ns ts=>obtain⟨p,C,dx,fs,rfl,rfl,n,h,_,rfl⟩:=h;obtain⟨p',C',zo,ci,e,rfl,n',h',_,rfl⟩:=h';cases e;rw[h] at h';cases h';exact⟨rfl,rfl⟩
inductive JF (K:zy) (H:Hp) (P:Addr->Prop):V->OT->List Nat->V->OT->Prop
 |nil {v t}:JF K H P v t [] v t
 |cons {v t q xs j x s π v1 t1}:CI K H P v t q xs->xs[j]?=some x->(kids t)[j]?=some s->JF K H P x s π v1 t1->JF K H P v t (j::π) v1 t1
theorem JF.sub {v v1:V}{t t1:OT}{π:List Nat}(h:JF K H P v t π v1 t1):L3 t π=some t1:=by
 induction h with
 |nil=>exact YL _
 |cons _ _ hs _ ih=>rw[WC hs];exact ih
theorem Aw.get:∀ {xs:List V}{ts:List OT}{fp:List Addr}{j:Nat}{x:V}{s:OT},Aw K H P xs ts fp->xs[j]?=some x->ts[j]?=some s->∃pre fs post,fp=pre++fs++post/\BQ K H P x s fs
 |_,_,_,_,_,_,.nil,e,_=>by simp at e
 |_,_,_,0,_,_,.cons h r,e,e'=>by
  simp at e e';subst e;subst e';exact⟨[],_,_,rfl,h⟩
 |_,_,_,j+1,_,_,.cons (fp:=f1) h r,e,e'=>by
  obtain⟨pre,fs,post,z,q⟩:=Aw.get r (by simpa using e) (by simpa using e');exact⟨f1++pre,fs,post,by rw[z];simp,q⟩
theorem Aw.len:∀ {xs:List V}{ts:List OT}{fp:List Addr},Aw K H P xs ts fp->xs.length=ts.length
 |_,_,_,.nil=>rfl
 |_,_,_,.cons _ r=>by rw[zO,zO,r.len]
theorem BQ.part {v v1:V}{t t1:OT}{π:List Nat}{fp:List Addr}(h:BQ K H P v t fp)(s:JF K H P v t π v1 t1):∃a9,BQ K H P v1 t1 a9/\(∀a∈a9,a∈fp)/\(fp.Nodup->a9.Nodup):=by
 induction s generalizing fp with
 |nil=>exact⟨fp,h,λ _ h=>h,λ h=>h⟩
 |cons n hx hs _ ih =>
  obtain⟨q,xs,fq,rfl,n',r⟩:=h.node (.inl λ z=>by rw[z] at hs;cases hs);obtain⟨rfl,rfl⟩:=n.inj n';obtain⟨pre,fs,post,rfl,o⟩:=r.get hx hs;obtain⟨a9,o1,k,kn⟩:=ih o;exact⟨a9,o1,λ a ha=>zN _ (zae _ (zN _ (k a ha))),λ nd=>kn (za9.mp (za9.mp (za9.mp nd).2.1).1).2.1⟩
theorem Aw.put (sm:Ac (del H P) (del H' P')):∀ {xs:List V}{ts:List OT}{fp:List Addr}{j:Nat}{x:V}{s s':OT}{fs ci:List Addr},Aw K H P xs ts fp->xs[j]?=some x->ts[j]?=some s->BQ K H P x s fs->BQ K H' P' x s' ci->(∀a∈fp,a∉fs->H' a=H a)->fp.Nodup->ci.Nodup->(∀a∈ci,a∈fp->a∈fs)->
 ∃ak,Aw K H' P' xs (ts.set j s') ak/\ak.Nodup/\∀a∈ak,a∈ci\/(a∈fp/\a∉fs)
 |_,_,_,_,_,_,_,_,_,.nil,e,_,_,_,_,_,_,_=>by simp at e
 |_,_,_,0,x,s,s',fs,ci,.cons (fp:=f1) (fq:=f2) h r,e,e',o,o',k,nd,e7,dj=>by
  simp at e e';subst e;subst e';have:=h.Cy o;subst this;have b5:=za9.mp nd;have k2:∀a∈f2,a∉f1:=λ a ha hb=>b5.2.2 a hb a ha rfl;refine⟨ci++f2,.cons o' (r.move sm λ a ha=>k a (zN _ ha) (k2 a ha)),za9.mpr ⟨e7,b5.2.1,λ a ha b hb z=>?_⟩,λ a ha=>?_⟩
  ·subst z;exact k2 a hb (dj a ha (zN _ hb))
  ·rcases za5.mp ha with ha|ha
   ·exact .inl ha
   ·exact .inr ⟨zN _ ha,k2 a ha⟩
 |_,_,_,j+1,x,s,s',fs,ci,.cons (vs:=wc) (ts:=xV) (fp:=f1) (fq:=f2) h r,e,e',o,o',k,nd,e7,dj=>by
  have b5:=za9.mp nd;have e2:wc[j]?=some x:=by simpa using e
  have e3:xV[j]?=some s:=by simpa using e'
  obtain⟨pre,fx,post,hf,ox⟩:=r.get e2 e3;have:=ox.Cy o;subst this;have k1:∀a∈f1,a∉fx:=λ a ha hb=>b5.2.2 a ha a (by rw[hf];exact zae _ (zN _ hb)) rfl;obtain⟨ak,q1,q2,q3⟩:=Aw.put sm r e2 e3 o o' (λ a ha hn=>k a (zN _ ha) hn) b5.2.1 e7 (λ a ha hb=>dj a ha (zN _ hb));refine⟨f1++ak,.cons (h.move sm λ a ha=>k a (zae _ ha) (k1 a ha)) q1,za9.mpr ⟨b5.1,q2,λ a ha b hb z=>?_⟩,λ a ha=>?_⟩
  ·subst z;rcases q3 a hb with z|z
   ·exact k1 a ha (dj a z (zae _ ha))
   ·exact b5.2.2 a ha a z.1 rfl
  ·rcases za5.mp ha with ha|ha
   ·exact .inr ⟨zae _ ha,k1 a ha⟩
   ·rcases q3 a ha with z|z
    ·exact .inl z
    ·exact .inr ⟨zN _ z.1,z.2⟩
theorem BQ.put (sm:Ac (del H P) (del H' P')){v v1:V}{t t1 u:OT}{π:List Nat}{fp a9 fu:List Addr}(h:BQ K H P v t fp)(s:JF K H P v t π v1 t1)(o:BQ K H P v1 t1 a9)(o':BQ K H' P' v1 u fu)(k:∀a∈fp,a∉a9->H' a=H a)(nd:fp.Nodup)(e7:fu.Nodup)(dj:∀a∈fu,a∈fp->a∈a9):
 ∃ak,BQ K H' P' v (EW t π u) ak/\ak.Nodup/\∀a∈ak,a∈fu\/(a∈fp/\a∉a9):=by
 induction s generalizing fp with
 |nil =>
  rw[Fi];exact⟨fu,o',e7,λ a ha=>.inl ha⟩
 | @cons v t q xs j x s π v1 t1 n hx hs s1 ih =>
  obtain⟨q',dL,fq,rfl,n',r⟩:=h.node (.inl λ z=>by rw[z] at hs;cases hs);obtain⟨rfl,rfl⟩:=n.inj n';have j6:=za9.mp nd;obtain⟨pre,fs,post,hf,ox⟩:=r.get hx hs;have sub:∀a∈fs,a∈fq:=λ a ha=>by rw[hf];exact zae _ (zN _ ha)
  have xW:fs.Nodup:=by
   have:=j6.2.1;rw[hf] at this;exact (za9.mp (za9.mp this).1).2.1
  obtain⟨fz,oz,kz,_⟩:=ox.part s1;have:=oz.Cy o;subst this;obtain⟨ci,q1,q2,q3⟩:=ih ox o o' (λ a ha hn=>k a (zN _ (sub a ha)) hn) xW (λ a ha hb=>dj a ha (zN _ (sub a hb)));have qf:∀a∈q,a∉fs:=λ a ha hb=>j6.2.2 a ha a (sub a hb) rfl;have kq:∀a∈q,H' a=H a:=λ a ha=>k a (zae _ ha) λ z=>qf a ha (kz a z);obtain⟨ak,p1,p2,p3⟩:=r.put sm hx hs ox q1 (λ a ha hn=>k a (zN _ ha) λ z=>hn (kz a z)) j6.2.1 q2 (λ a ha hb=>by
   rcases q3 a ha with z|z
   ·exact kz a (dj a z (zN _ hb))
   ·exact z.1)
  rw[WD hs];have n2:=(n.move sm kq).kids ((kids t).set j (EW s π u));have o2:=n2.own (fp:=ak) (by rw[Qn n];exact p1);refine⟨q++ak,o2,za9.mpr ⟨j6.1,p2,λ a ha b hb z=>?_⟩,λ a ha=>?_⟩
  ·subst z;rcases p3 a hb with z|z
   ·rcases q3 a z with y|y
    ·exact qf a ha (kz a (dj a y (zae _ ha)))
    ·exact qf a ha y.1
   ·exact j6.2.2 a ha a z.1 rfl
  ·rcases za5.mp ha with ha|ha
   ·exact .inr ⟨zae _ ha,λ z=>qf a ha (kz a z)⟩
   ·rcases p3 a ha with z|z
    ·rcases q3 a z with y|y
     ·exact .inl y
     ·exact .inr ⟨zN _ (sub a y.1),y.2⟩
    ·exact .inr ⟨zN _ z.1,λ y=>z.2 (kz a y)⟩
end
def PU (P:Addr->Prop)(fp:List Addr):Addr->Prop:=λ a=>P a\/a∈fp
theorem IQ {P:Addr->Prop}{fp:List Addr}:∀a,P a->PU P fp a:=λ a h=>.inl h
theorem BG {P:Addr->Prop}{fp:List Addr}{H H':Hp}(s:Ac H H')(hn:∀a∈fp,H a=none):Ac (del H P) (del H' (PU P fp)):=λ b o e=>by
 obtain⟨h1,h2⟩:=Am e;rw[Az λ z=>z.elim h1 λ w=>by rw[hn b w] at h2;cases h2];exact s b o h2
theorem TX {P:Addr->Prop}{H:Hp}:del H (PU P [])=del H P:=by
 funext b;by_cases h:P b
 ·rw[Eh h,Eh (.inl h)]
 ·rw[Az h,Az λ z=>z.elim h λ w=>by cases w]
theorem L4 {P:Addr->Prop}{fp:List Addr}{K:zy}{H':Hp}{Q:Addr->Prop}{v:V}{t:OT}(hP:∀a,P a->E6 H' a)(o:BQ K H' Q v t fp):∀a,PU P fp a->E6 H' a:=λ a h=>h.elim (hP a) (o.C3 a)
theorem Mo {P:Addr->Prop}{fp:List Addr}{K:zy}{H':Hp}{Q:Addr->Prop}{v:List V}{t:List OT}(hP:∀a,P a->E6 H' a)(o:Aw K H' Q v t fp):∀a,PU P fp a->E6 H' a:=λ a h=>h.elim (hP a) (o.C3 a)
theorem Ak.more {K:zy}{P0:Ds}{P P':Addr->Prop}{H H':Hp}{σ:St}{ρ:Aa}(E:Ak K P0 P H σ ρ)(e:Ac H H')(hs:∀a,P a->P' a)(ht:∀a,P' a->E6 H' a)(sm:Ac (del H P) (del H' P')):Ak K P0 P' H' σ ρ:=by
 have keep:∀(c:Cl) (v:V) (fp:List Addr),D1 K H P c v fp->∀a∈fp,H' a=H a:=λ c v fp o a ha=>by
  obtain⟨xs,q⟩:=o.at a ha;rw[q];exact e _ _ q
 exact⟨λ a h=>hs a (E.sub a h),ht,λ i d h=>let ⟨v,h1,h2⟩:=E.val i d h;⟨v,h1,h2.mono sm⟩,
  λ i c h io=>let ⟨v,fp,h1,h2,h3,h4⟩:=E.ows i c h io;⟨v,fp,h1,h2.move sm (keep c v fp h2),λ a ha=>⟨hs a (h3 a ha).1,(h3 a ha).2⟩,h4⟩,
  λ i j c c' v v' fp ak hi hj si sj h h' af=>E.Yj sm (λ v fp _ o a ha=>keep _ _ _ o a ha) (λ v fp _ o a ha=>keep _ _ _ o a ha) hi hj si sj h h' af,E.len,E.pin⟩
def Tb (K:zy)(WX:Str->Hp->Prop)(P:Addr->Prop)(H:Hp)(Q:VK):M OT->Prop
 | .ok t=>∀v fp H',Ac H H'->(∀a∈fp,H a=none)->fp.Nodup->BQ K H' (PU P fp) v t fp->Q v H'
 | .ex x=>∀H',Ac H H'->WX x H'
 | .bad=>False
def xX (K:zy)(WX:Str->Hp->Prop)(P:Addr->Prop)(H:Hp)(Q:List V->Hp->Prop):M (List OT)->Prop
 | .ok t=>∀v fp H',Ac H H'->(∀a∈fp,H a=none)->fp.Nodup->Aw K H' (PU P fp) v t fp->Q v H'
 | .ex x=>∀H',Ac H H'->WX x H'
 | .bad=>False
theorem Cc {H H':Hp}(s:Ac H H'){a:Addr}(h:H' a=none):H a=none:=by
 cases q:H a with
 |none=>rfl
 |some o=>rw[s a o q] at h;cases h
section
variable {K:zy}{WX:Str->Hp->Prop}{P:Addr->Prop}{H H':Hp}
theorem Tb.same {Q:VK}{m:M OT}(h:Tb K WX P H Q m)(e:Ac H H'):Tb K WX P H' Q m:=by
 cases m with
 |ok d=>exact λ v fp H2 q hn nd o=>h v fp H2 (e.trans q) (λ a ha=>Cc e (hn a ha)) nd o
 |ex x=>exact λ H2 q=>h H2 (e.trans q)
 |bad=>exact h
end
def DN (X:Cx)(WX:Str->Hp->Prop)(e:Expr)(f:Aa->M OT):Prop:=
 ∃t,PE X e t/\∀P0 P σ H Q ρ,Ak X.K P0 P H σ ρ->Tb X.K WX P H Q (f ρ)->t σ H Q
def rT (X:Cx)(WX:Str->Hp->Prop)(es:List Expr)(f:Aa->M (List OT)):Prop:=
 ∃t,PA X es t/\(∀P0 P σ H Q ρ,Ak X.K P0 P H σ ρ->xX X.K WX P H Q (f ρ)->t σ H Q)/\∀ρ ts,f ρ=.ok ts->ts.length=es.length
noncomputable def pC (d:D):M OT:=.ok (.sh d)
noncomputable def pE (t:OT):M D:=.ok (er t)
section
variable {X:Cx}{WX:Str->Hp->Prop}{c:Bool}{P0:Ds}{P:Addr->Prop}{H:Hp}{σ:St}{ρ:Aa}{a b e:Expr}{f g:Aa->M D}{fn:Aa->M OT}{pos:Pos}{es:List Expr}
theorem B1 (h:DE X WX true e f):DN X WX e (λ ρ=>(f ρ).bind pC):=by
 obtain⟨t,h1,h2⟩:=h;refine⟨t,h1,λ P0 P σ H Q ρ E g=>h2 P0 P σ H Q ρ E ?_⟩;dsimp only at g;cases q:f ρ with
 |bad|ex x=>rw[q] at g;exact g
 |ok d=>rw[q] at g;exact λ v H' s hv=>g v [] H' s (λ a ha=>by cases ha) zb5 (.sh (by rw[TX];exact hv))
theorem An (h:DN X WX e fn):DE X WX c e (λ ρ=>(fn ρ).bind pE):=by
 suffices z:DE X WX true e (λ ρ=>(fn ρ).bind pE) by
  cases c with
  |true=>exact z
  |false=>exact Na z
 obtain⟨t,h1,h2⟩:=h;refine⟨t,h1,λ P0 P σ H Q ρ E g=>h2 P0 P σ H Q ρ E ?_⟩;dsimp only at g;cases q:fn ρ with
 |bad|ex x=>rw[q] at g;exact g
 |ok d =>
  rw[q] at g;exact λ v fp H' s hn nd o=>g v H' s (o.has IQ λ a ha z=>(E.C3 a z).no (hn a ha))
theorem DQ:rT X WX [] (λ _=>.ok []):=⟨_,CO,λ P0 P σ H Q ρ E h=>h [] [] H (Ac.refl H) (λ a ha=>by cases ha) zb5 .nil,λ ρ ds h=>by cases h;rfl⟩
theorem Fj {es:List Expr}{fs:Aa->M (List OT)}(he:DN X WX e fn)(hr:rT X WX es fs)(hs:starEach (e::es) X.env=(false,eval e X.env)::starEach es X.env:=by rfl):
 rT X WX (e::es) (λ ρ=>(fn ρ).bind λ d=>(fs ρ).bind λ ds=>.ok (d::ds)):=by
 obtain⟨te,e1,e2⟩:=he;obtain⟨tr,r1,r2,r3⟩:=hr;refine⟨_,Bt e1 r1 hs,λ P0 P σ H Q ρ E h=>?_,λ ρ ds h=>?_⟩
 rotate_left
 ·dsimp only at h;cases q:fn ρ with
  |bad|ex x=>rw[q] at h;cases h
  |ok x =>
   rw[q] at h;cases q2:fs ρ with
   |bad|ex x=>rw[q2] at h;cases h
   |ok xs =>
    rw[q2] at h;cases h;rw[zO,zO,r3 ρ xs q2]
 dsimp only at h;refine e2 P0 P σ H _ ρ E ?_;cases q:fn ρ with
 |bad|ex x=>rw[q] at h;exact h
 |ok x =>
  rw[q] at h;intro v fp H1 s1 n1 gx o1;have E1:Ak X.K P0 (PU P fp) H1 σ ρ:=E.more s1 IQ (L4 (E.same s1).C3 o1) (BG s1 n1);refine r2 P0 (PU P fp) σ H1 _ ρ E1 ?_;cases q2:fs ρ with
  |bad=>rw[q2] at h;exact h
  |ex y=>rw[q2] at h;exact λ H' s=>h H' (s1.trans s)
  |ok ds =>
   rw[q2] at h;intro vs fq H2 s2 n2 b5 o2;have dj:∀a∈fp,a∉fq:=λ a ha hb=>(o1.C3 a ha).no (n2 a hb);have eP:PU (PU P fp) fq=PU P (fp++fq):=by
    funext a;simp only[PU,za5,or_assoc]
   have sm:Ac (del H1 (PU P fp)) (del H2 (PU P (fp++fq))):=by rw[<-eP];exact BG s2 n2
   refine h _ (fp++fq) H2 (s1.trans s2) (λ a ha=>?_) (za9.mpr ⟨gx,b5,λ a ha b hb z=>dj a ha (by rw[z];exact hb)⟩) (.cons (o1.move sm λ a ha=>?_) (by rw[<-eP];exact o2))
   ·rcases za5.mp ha with ha|ha
    ·exact n1 a ha
    ·exact Cc s1 (n2 a ha)
   ·obtain⟨o,z,_⟩:=o1.C3 a ha;rw[z];exact s2 _ _ z
theorem YM {P:Addr->Prop}{fp:List Addr}{p:Addr}{H:Hp}{o:HO}(hn:H p=none)(hP:∀a,PU P fp a->E6 H a):Ac (del H (PU P fp)) (del (upd H p o) (PU P (p::fp))):=λ b u e=>by
 obtain⟨h1,h2⟩:=Am e;have hb:b≠p:=AH h2 hn;rw[Az λ z=>z.elim (λ z=>h1 (.inl z)) λ w=>(zQ.mp w).elim hb λ w=>h1 (.inr w),Ab hb];exact h2
theorem L5 {fs:Aa->M (List OT)}(ha:rT X WX es fs)(hz:es.length<=1000:=by decide):DN X WX (.List es pos) (λ ρ=>(fs ρ).bind λ ts=>.ok (.lst ts)):=by
 obtain⟨ta,a1,a2,a3⟩:=ha;refine⟨_,Ts a1,λ P0 P σ H Q ρ E h=>?_⟩;dsimp only at h;refine a2 P0 P σ H _ ρ E ?_;cases q:fs ρ with
 |bad|ex y=>rw[q] at h;exact h
 |ok ts =>
  rw[q] at h;simp only[M.A7] at h;intro vs fp H1 s1 n1 gx o1;have hP:=Mo (E.same s1).C3 o1;refine⟨zaz (AB (by rw[o1.len,a3 ρ ts q];exact hz)),λ p hp=>?_⟩;have af:∀a∈fp,a≠p:=λ a ha z=>(o1.C3 a ha).no (by rw[z];exact hp);exact h _ (p::fp) _ (s1.trans (AK hp _)) (λ a ha=>(zQ.mp ha).elim (λ z=>by rw[z];exact Cc s1 hp) (n1 a)) (zav.mpr ⟨λ z=>af p z rfl,gx⟩) (.lst Aj (o1.move (YM hp hP) λ a ha=>Ab (af a ha)))
theorem fB {P:Addr->Prop}{fp:List Addr}{p:Addr}{H:Hp}{o:HO}(hn:H p=none)(hP:∀a,PU P fp a->E6 H a):Ac (del H (PU P fp)) (del (upd H p o) (PU P fp)):=λ b u e=>by
 obtain⟨h1,h2⟩:=Am e;have hb:b≠p:=AH h2 hn;rw[Az h1,Ab hb];exact h2
theorem TY {fs:Aa->M (List OT)}{x1}(ha:rT X WX es fs)(hz:es.length<=1000:=by decide):DN X WX (.Tuple es x1 pos) (λ ρ=>(fs ρ).bind λ ts=>.ok (.tup ts)):=by
 obtain⟨ta,a1,a2,a3⟩:=ha;refine⟨_,Y0 a1,λ P0 P σ H Q ρ E h=>?_⟩;dsimp only at h;refine a2 P0 P σ H _ ρ E ?_;cases q:fs ρ with
 |bad|ex y=>rw[q] at h;exact h
 |ok ts =>
  rw[q] at h;simp only[M.A7] at h;intro vs fp H1 s1 n1 gx o1;have hP:=Mo (E.same s1).C3 o1;refine⟨zaz (AB (by rw[o1.len,a3 ρ ts q];exact hz)),λ p hp=>?_⟩;have af:∀a∈fp,a≠p:=λ a ha z=>(o1.C3 a ha).no (by rw[z];exact hp);refine h _ fp _ (s1.trans (AK hp _)) n1 gx (.tup ?_ (o1.move (fB hp hP) λ a ha=>Ab (af a ha)));rw[Az λ z=>(hP p z).no hp];exact Aj
theorem Ag.ows {K:zy}{H:Hp}{P:Addr->Prop}:∀ {xs:List V}{ds:List D},Ag K (del H P) xs ds->Aw K H P xs (ds.map .sh) []
 |_,_,.nil=>.nil
 |_,_,.cons h t=>.cons (.sh h) t.ows
theorem Tb.Ik {K:zy}{WX:Str->Hp->Prop}{P:Addr->Prop}{H H1:Hp}{Q:VK}{xs:List V}{ds:List D}(h:Tb K WX P H Q (.ok (.lst (ds.map .sh))))(s1:Ac H H1)(hx:Ag K (del H1 P) xs ds):∀p,H1 p=none->Q (.ref p) (upd H1 p (.lst xs)):=λ p hp=>by
 have hn:∀a∈[p],H1 a=none:=λ a ha=>by rw[zS.mp ha];exact hp
 exact h _ [p] _ (s1.trans (AK hp _)) (λ a ha=>Cc s1 (hn a ha)) (by simp) (.lst Aj (hx.mono (BG (AK hp _) hn)).ows)
theorem Aw.jT {K:zy}{H:Hp}{P:Addr->Prop}:∀ {xs:List V}{ds:List D}{fp:List Addr},Aw K H P xs (ds.map .sh) fp->fp=[]/\Ag K (del H P) xs ds
 |_,[],_,.nil=>⟨rfl,.nil⟩
 |_,d::ds,_,.cons (.sh h) r=>by
  obtain⟨rfl,q⟩:=Aw.jT r;exact⟨rfl,.cons h q⟩
noncomputable def M2:Cl->Cl
 | .val d=>.val d
 | .own ds=>.val (.lst ds)
 | .ow (.rows BF)=>.val (.lst (BF.map D.lst))
 | .ow (.LZ _ ds)=>.val (.lst ds)
 | .ow (.tree _ t)=>.val (er t)
noncomputable def Il (ρ:Aa):Aa:=ρ.map λ o=>o.map M2
@[simp] theorem JG:Il []=[]:=rfl
@[simp] theorem HF (ρ:Aa):Il (none::ρ)=none::Il ρ:=rfl
@[simp] theorem HG (c:Cl) (ρ:Aa):Il (some c::ρ)=some (M2 c)::Il ρ:=rfl
theorem Ak.low {K:zy}{P0:Ds}{P:Addr->Prop}{H:Hp}{σ:St}{ρ:Aa}(E:Ak K P0 P H σ ρ):Ak K P0 P0 H σ (Il ρ):=by
 have key:∀(i:Nat) (c:Cl),(Il ρ)[i]?=some (some c)->∃c',ρ[i]?=some (some c')/\c=M2 c':=λ i c h=>by
  unfold Il at h;rw[za2] at h;cases q:ρ[i]? with
  |none=>rw[q] at h;cases h
  |some o =>
   rw[q] at h;cases o with
   |none=>cases h
   |some c'=>cases h;exact⟨c',rfl,rfl⟩
 have qp:∀c,Ij (M2 c)=false:=λ c=>by
  cases c with
  |val d|own ds=>rfl
  |ow o=>cases o<;>rfl
 have j7:∀c,P7 (M2 c)=none:=λ c=>by
  cases c with
  |val d|own ds=>rfl
  |ow o=>cases o<;>rfl
 have xY:∀c v fp,¬ D1 K H P0 (M2 c) v fp:=λ c v fp h=>by
  cases c with
  |val d|own ds=>exact h
  |ow o=>cases o<;>exact h
 refine⟨λ _ h=>h,λ a h=>E.C3 a (E.sub a h),λ i d h=>?_,λ i c h io=>?_,λ i j c c' v v' fp ak hi hj si sj h h' af=>?_,by unfold Il;rw[zC];exact E.len,λ i c n h hp=>by obtain⟨c',h1,rfl⟩:=key i _ h;rw[j7] at hp;cases hp⟩
 ·obtain⟨c,h1,h2⟩:=key i _ h;cases c with
  |val d' =>
   cases h2;obtain⟨v,q1,q2⟩:=E.val i d h1;exact⟨v,q1,q2.mono (CP E.sub)⟩
  |own ds =>
   cases h2;obtain⟨p,xs,q1,q2,q3,q4,q5⟩:=E.own i ds h1;exact⟨_,q1,.lst (.of (show del H P0 p=_ by rw[Az q4];exact q2)) (q5.mono (CP E.sub))⟩
  |ow o =>
   obtain⟨v,fp,q1,q2,q3,q4⟩:=E.ows i _ h1 rfl;cases o with
   |rows BF =>
    cases h2;obtain⟨p,ps,rfl,rfl,q5,q6⟩:=q2;exact⟨_,q1,.lst (.of (show del H P0 p=_ by rw[Az (q3 p zD).2];exact q5)) (q6.mR E.sub λ a ha=>(q3 a (zF _ ha)).2)⟩
   |LZ p ds =>
    cases h2;obtain⟨p,xs,rfl,rfl,q5,q6⟩:=q2;exact⟨_,q1,.lst (.of (show del H P0 p=_ by rw[Az (q3 p zD).2];exact q5)) (q6.mono (CP E.sub))⟩
   |tree p t =>
    cases h2;exact⟨_,q1,BQ.has E.sub (λ a ha=>(q3 a ha).2) q2⟩
 ·obtain⟨c',h1,rfl⟩:=key i _ h;rw[qp] at io;cases io
 ·obtain⟨c1,h1,rfl⟩:=key i _ hi;exact (xY _ _ _ h).elim
theorem L6 {ft:Aa->M Bool}(h:DT X WX e ft):DT X WX e (λ ρ=>ft (Il ρ)):=by
 obtain⟨t,h1,h2⟩:=h;exact⟨t,h1,λ P0 P σ H Q ρ E g=>h2 P0 P0 σ H Q (Il ρ) E.low g⟩
mutual
noncomputable def Im:OT->Bool
 | .sh d=>L1 d
 | .lst ts| .tup ts| .Bd _ _ ts| .ins _ _ ts=>G2 ts
noncomputable def G2:List OT->Bool
 |[]=>true
 |t::r=>Im t&&G2 r
end
mutual
theorem BQ.clean {K:zy}{H:Hp}{P P':Addr->Prop}(ht:∀a,P' a->E6 H a):∀ {v:V}{t:OT}{fp:List Addr},Im t=true->BQ K H P v t fp->BQ K H P' v t fp
 |_,_,_,n,.sh h=>.sh (h.L1 ht (by rw[Im] at n;exact n))
 |_,_,_,n,.lst h r=>.lst h (Aw.clean ht (by rw[Im] at n;exact n) r)
 |_,_,_,n,.tup h r=>.tup (V7 ht h) (Aw.clean ht (by rw[Im] at n;exact n) r)
 |_,_,_,n,.dK h r=>.dK h (Aw.clean ht (by rw[Im] at n;exact n) r)
 |_,_,_,n,.dT h r=>.dT h (Aw.clean ht (by rw[Im] at n;exact n) r)
 |_,_,_,n,.ins x h r=>.ins x h (Aw.clean ht (by rw[Im] at n;exact n) r)
theorem Aw.clean {K:zy}{H:Hp}{P P':Addr->Prop}(ht:∀a,P' a->E6 H a):∀ {v:List V}{t:List OT}{fp:List Addr},G2 t=true->Aw K H P v t fp->Aw K H P' v t fp
 |_,_,_,_,.nil=>.nil
 |_,_,_,n,.cons h r=>by
  rw[G2,zad] at n;exact .cons (BQ.clean ht n.1 h) (Aw.clean ht n.2 r)
end
noncomputable def WE (m:M OT):M OT:=m.bind λ t=>if Im t=true then .ok t else .bad
theorem FA (h:DN X WX e fn):DN X WX e (λ ρ=>WE (fn (Il ρ))):=by
 obtain⟨t,h1,h2⟩:=h;refine⟨t,h1,λ P0 P σ H Q ρ E g=>h2 P0 P0 σ H Q (Il ρ) E.low ?_⟩;unfold WE at g;dsimp only at g;cases q:fn (Il ρ) with
 |bad|ex x=>rw[q] at g;exact g
 |ok t =>
  rw[q] at g;simp only[M.A7] at g;by_cases hf:Im t=true
  ·rw[if_pos hf] at g;exact λ v fp H' s hn nd o=>g v fp H' s hn nd (o.clean (L4 (E.same s).C3 o) hf)
  ·rw[if_neg hf] at g;exact g.elim
noncomputable def Ik (d:D):M OT:=match d with
 | .lst ds| .tup ds=>.ok (.lst (ds.map .sh))
 |_=>.bad
theorem Mp {p:Pos}(hg:Gl X "list")(hm:X.mg "list" = none)(ha:DE X WX true e f)(hb:bootBuiltins "list" = some (.type "list"):=by decide +kernel)(aR:starEach [e] X.env=[(false,eval e X.env)]:=by rfl):
 DN X WX (.Call (.Name "list" p) [e] [] pos) (λ ρ=>(f ρ).bind Ik):=by
 obtain⟨ta,a1,a2⟩:=ha;refine⟨_,KO Qa hg hm hb (Bt a1 CO aR) (he:=aR),λ P0 P σ H Q ρ E h=>?_⟩;dsimp only at h;refine a2 P0 P σ H _ ρ E ?_;cases q:f ρ with
 |bad|ex x=>rw[q] at h;exact h
 |ok d =>
  rw[q] at h;simp only[M.A7] at h;intro v H1 s1 hv;unfold Ik at h;split at h
  ·cases hv with
   |lst hs hh=>exact⟨_,_,rfl,.inl hs.Bg,h.Ik s1 hh⟩
  ·cases hv with
   |tup hs hh=>exact⟨_,_,rfl,.inr (EL.of (Am hs).2),h.Ik s1 hh⟩
  ·exact h.elim
def wL (K:zy)(WX:Str->Hp->Prop)(r:R2)(bd:D->D->M OT):Prop:=
 ∀(P:Addr->Prop) (H:Hp) (x y:D) (v w:V) (Q:VK),(∀a,P a->E6 H a)->Bu K (del H P) v x->Bu K (del H P) w y->Tb K WX P H Q (bd x y)->r v w H Q
theorem rV {ta tb:TE}{r:R2}{bd:D->D->M OT}(ha:∀P0 P σ H Q ρ,Ak X.K P0 P H σ ρ->gV X.K WX (Lv true P0 P) H Q (f ρ)->ta σ H Q)(hb:∀P0 P σ H Q ρ,Ak X.K P0 P H σ ρ->gV X.K WX (Lv true P0 P) H Q (g ρ)->tb σ H Q)
 (hr:wL X.K WX r bd) {Q:VK} (E:Ak X.K P0 P H σ ρ) (h:Tb X.K WX P H Q ((f ρ).bind λ x=>(g ρ).bind λ y=>bd x y)):oX r ta tb σ H Q:=by
 refine ha P0 P σ H _ ρ E ?_;cases e:f ρ with
 |bad|ex x=>rw[e] at h;exact h
 |ok x =>
  rw[e] at h;intro v H1 s1 hv;refine hb P0 P σ H1 _ ρ (E.same s1) ?_;cases e2:g ρ with
  |bad=>rw[e2] at h;exact h
  |ex y=>rw[e2] at h;exact λ H' s=>h H' (s1.trans s)
  |ok y =>
   rw[e2] at h;intro w H2 s2 hw;exact hr _ H2 x y v w Q ((E.same s1).same s2).C3 (hv.mono s2.del) hw ((h.same s1).same s2)
noncomputable def RQ (x y:D):M OT:=match x,y with
 | .lst a,.lst b=>if a.length+b.length<=1000 then .ok (.lst ((a++b).map .sh)) else .bad
 |_,_=>.bad
end
noncomputable def spT (K:zy)(n:Nat)(F:List D->M OT):Sp:=λ vs H Q E=>vs.length=n/\∃P ds,(∀a,P a->E6 H a)/\Ag K (del H P) vs ds/\Tb K (Dt K E) P H Q (F ds)
noncomputable def rW:Cl->M OT
 | .val d=>.ok (.sh d)
 | .own ds=>.ok (.lst (ds.map .sh))
 | .ow (.rows BF)=>.ok (.lst (BF.map λ ds=>.lst (ds.map .sh)))
 | .ow (.LZ _ _)=>.bad
 | .ow (.tree none t)=>.ok t
 | .ow (.tree (some _) _)=>.bad
noncomputable def WG (m:M Out):M OT:=match m with
 | .ok (.ret d)=>.ok (.sh d)
 | .ok (.CN c)=>rW c
 | .ok (.next _)=>.ok (.sh .AF)
 | .ex x=>.ex x
 |_=>.bad
theorem Bv.ows {K:zy}{H:Hp}{P:Addr->Prop}:∀ {ps:List Addr}{BF:List (List D)},Bv K H P ps BF->Aw K H P (ps.map V.ref) (BF.map λ ds=>.lst (ds.map .sh)) ps
 |_,_,.nil=>.nil
 |_,_,.cons h r t=>.cons (.lst h r.ows) t.ows
theorem D1.tree {K:zy}{H:Hp}{P:Addr->Prop}{c:Cl}{v:V}{fp:List Addr}{t:OT}(h:D1 K H P c v fp)(e:rW c=.ok t):BQ K H P v t fp:=by
 cases c with
 |val d=>exact h.elim
 |own ds =>
  cases e;obtain⟨p,xs,rfl,rfl,h1,h2⟩:=h;exact .lst h1 h2.ows
 |ow o =>
  cases o with
  |rows BF =>
   cases e;obtain⟨p,ps,rfl,rfl,h1,h2⟩:=h;exact .lst h1 h2.ows
  |LZ p ds=>cases e
  |tree p t' =>
   cases p with
   |none=>cases e;exact h
   |some q=>cases e
section
variable {P:Program}{w:World}{K:zy}{mg:Str->Option Value}{base:Heap}
theorem fC {WX:Str->Hp->Prop}{P P2:Addr->Prop}{H H':Hp}{Q:VK}{c:Cl}{v:V}{fp:List Addr}(h:Tb K WX P H Q (rW c))(t:Tr P P H P2 H')(hs:∀a,P a->P2 a)(ho:D1 K H' P2 c v fp)(hp:∀a∈fp,P2 a/\¬ P a)(nd:fp.Nodup):Q v H':=by
 cases q:rW c with
 |bad=>rw[q] at h;exact h.elim
 |ex x=>cases c with
  |val d|own ds=>cases q
  |ow o =>
   cases o with
   |rows BF|LZ p ds=>cases q
   |tree p t'=>cases p<;>cases q
 |ok u =>
  rw[q] at h;have o:=ho.tree q;refine h v fp H' (DM t) (λ a ha=>mW t (hp a ha).1 (hp a ha).2) nd (o.move (CP λ a ha=>ha.elim (hs a) λ z=>(hp a z).1) λ _ _=>rfl)
theorem rX {x qual:Str}{st:Stmt}{f:Addr}{fd:FuncData}{N ps:List Str}{k:Nat}(F:Xu K x qual st f fd)(S:Ai N ps (A3 st))(g:Aa->M Out)
 (hb:∀(B4:Value) (A:Around) (outer:List Env) (s:Shared) (H:Hp) (E:XK),BM k (A.deeper (envOfC qual (A3 st) s.heap.objs.size f B4))->Ta (V6 P w K mg base N qual (A3 st) f B4 A outer s H E) (Dt K E) (AE st) g):
 Dr P w K mg base (TR P w base) (k+1) f fd ps (spT K ps.length λ ds=>WG (g (AG N ds))):=by
 obtain⟨oc,od,kV,doc,pm,an,B4,ct,T9,rfl,lk,br⟩:=F.ex;refine US lk br S (λ vs H Q E h=>h.1) λ A outer s H vs Q E hr h=>?_;obtain⟨hl,P',ds,ht,hv,hq⟩:=h;obtain⟨t,h1,h2⟩:=hb B4 A outer s H E hr;refine⟨t,h1,h2 ⟨P',λ _=>0⟩ P' _ H _ _ (Pb ht hv) ?_⟩;dsimp only at hq;revert hq;cases g (AG N ds) with
 |bad=>exact λ h=>h.elim
 |ex x=>exact λ h H' P2 t=>h H' (DM t)
 |ok o =>
  cases o with
  |ret d=>exact λ h v H' P2 t hv=>h v [] H' (DM t) (λ a ha=>by cases ha) zb5 (.sh (by rw[TX];exact hv))
  |next ρ=>exact λ h σ' H' P2 t E=>h .AF [] H' (DM t) (λ a ha=>by cases ha) zb5 (.sh .AF)
  |brk ρ|cont ρ=>exact λ h=>h.elim
  |CN c=>exact λ h v fp H' P2 t hs ht ho hp nd=>fC h t hs ho hp nd
  |Fg d ρ=>exact λ h=>h.elim
end
structure BV (P:Program)(w:World)(K:zy)(mg:Str->Option Value)(base:Heap)(x:Str)(k n:Nat)(F:List D->M OT):Prop where
 ex:∃fa fd ps,Dr P w K mg base (TR P w base) k fa fd ps (spT K n F)/\mg x=some (.ref fa)/\zah K (.ref fa)=true/\Binds K fd ps []
theorem AI {P:Program}{w:World}{K:zy}{mg:Str->Option Value}{base:Heap}{x:Str}{st:Stmt}{N ps:List Str}{k n:Nat}(T:AO K mg x st ps)(S:Ai N ps (A3 st))(g:Aa->M Out)
 (hb:∀(f:Addr) (B4:Value) (A:Around) (outer:List Env) (s:Shared) (H:Hp) (E:XK),BM k (A.deeper (envOfC x (A3 st) s.heap.objs.size f B4))->Ta (V6 P w K mg base N x (A3 st) f B4 A outer s H E) (Dt K E) (AE st) g) (hn:ps.length=n:=by rfl):
 BV P w K mg base x (k+1) n (λ ds=>WG (g (AG N ds))):=by
 obtain⟨f,fd,F,hm,hB⟩:=T.ex;subst hn;exact⟨⟨f,fd,ps,rX F S g (hb f),hm,F.kp,hB⟩⟩
section
variable {X:Cx}{E:XK}{WX:Str->Hp->Prop}{c:Bool}{e:Expr}{es:List Expr}{fs:Aa->M (List D)}{f:Aa->M D}{fn:Aa->M OT}{ft:Aa->M Bool}{pos:Pos}
theorem Ad {k n:Nat}{F:List D->M OT}{x:Str}{p:Pos}(xo:XCall X E)(G:BV X.prog X.w X.K X.mg X.base x k n F)(hr:BM k X.A)(hg:Gl X x)(ha:DA X (Dt X.K E) true (e::es) fs)(hn:(e::es).length=n)
 (ba:(x==("__debug__" : Str))=false:=by decide) (he:starEach (e::es) X.env=(false,eval e X.env)::starEach es X.env:=by rfl) (hpl:(backTo pos (starEach es X.env)).any (·.1)=false:=by rfl):
 DN X (Dt X.K E) (.Call (.Name x p) (e::es) [] pos) (λ ρ=>(fs ρ).bind F):=by
 obtain⟨fa,fd,ps,hF,hm,hk,hb⟩:=G.ex;obtain⟨ta,a1,a2,a3⟩:=ha;refine⟨_,UR hF hr hg hm hk hb .nil xo.call a1 ba he hpl,λ P0 P σ H Q ρ E h=>?_⟩;dsimp only at h;refine a2 P0 P σ H _ ρ E ?_;cases q:fs ρ with
 |bad|ex x=>rw[q] at h;exact h
 |ok ds =>
  rw[q] at h;simp only[M.A7] at h;intro vs H1 s1 be;rw[zal];exact⟨by rw[be.length,a3 ρ ds q];exact hn,P,ds,(E.same s1).C3,be,h.same s1⟩
theorem Cj (h:DN X WX e fn):DN X (λ _ _=>False) e fn:=by
 obtain⟨t,h1,h2⟩:=h;refine⟨t,h1,λ P0 P σ H Q ρ E g=>h2 P0 P σ H Q ρ E ?_⟩;cases q:fn ρ with
 |bad=>rw[q] at g;exact g
 |ex x=>rw[q] at g;exact (g H (Ac.refl H)).elim
 |ok t=>rw[q] at g;exact g
noncomputable def WH (t:OT):M Out:=match t with
 | .sh d=>.ok (.ret d)
 |t=>.ok (.CN (.ow (.tree none t)))
end
section
variable {X:Cx}{WX:Str->Hp->Prop}{c:Bool}{P0:Ds}{P:Addr->Prop}{H:Hp}{σ:St}{ρ:Aa}{a b e:Expr}{f g:Aa->M D}{fn:Aa->M OT}{pos:Pos}
theorem Ak.tU {K:zy}{H':Hp}{fp:List Addr}(E:Ak K P0 P H σ ρ)(s:Ac H H')(hn:∀a∈fp,H a=none):Tr P0 P H (PU P fp) H':=
 ⟨BG s hn,λ a ha=>by obtain⟨o,q,_⟩:=E.C3 a (E.sub a ha);rw[q];exact s _ _ q⟩
theorem Al (ha:DN X WX e fn):DS X WX (.Return (some e) pos) (λ ρ=>(fn ρ).bind WH):=by
 obtain⟨ta,a1,a2⟩:=ha;refine⟨_,Te a1,λ P0 P σ H Z ρ E h=>?_⟩;dsimp only at h;refine a2 P0 P σ H _ ρ E ?_;cases q:fn ρ with
 |bad=>rw[q] at h;exact h
 |ex x=>rw[q] at h;exact λ H' s=>h H' P (E.tr s)
 |ok t =>
  rw[q] at h;simp only[M.A7] at h;intro v fp H' s hn nd o;have key:gS X.K WX P0 P H Z (.ok (.CN (.ow (.tree none t))))->Z.rt v H':=λ h =>
   h v fp H' (PU P fp) (E.tU s hn) (λ a ha=>.inl (E.sub a ha)) (L4 (E.same s).C3 o) o (λ a ha=>⟨.inr ha,λ z=>(E.C3 a (E.sub a z)).no (hn a ha)⟩) nd
  cases t with
  |sh d =>
   cases o with
   |sh hv=>exact h v H' P (E.tr s) (hv.mono (CP λ a ha=>.inl (E.sub a ha)))
  |lst ts|tup ts|Bd b ks ts|ins x ns ts=>exact key h
noncomputable def Em:List OT->Option (List D)
 |[]=>some []
 | .sh d::r=>(Em r).map (d::·)
 |_::_=>none
theorem CJ:∀ds:List D,Em (ds.map .sh)=some ds
 |[]=>rfl
 |d::r=>by rw[zG,Em,CJ r];rfl
theorem D7:∀ {ts:List OT}{ds:List D},Em ts=some ds->ts=ds.map .sh
 |[],ds,h=>by cases h;rfl
 | .sh d::r,ds,h=>by
  rw[Em] at h;cases q:Em r with
  |none=>rw[q] at h;cases h
  |some es=>rw[q] at h;cases h;rw[zG,<-D7 q]
 | .lst _::r,ds,h| .tup _::r,ds,h| .Bd _ _ _::r,ds,h| .ins _ _ _::r,ds,h=>by cases h
noncomputable def toCl (p:Option Nat)(t:OT):Cl:=match t with
 | .lst ts=>(match Em ts with
  |some ds=>(match p with|none=>.own ds|some q=>.ow (.LZ q ds))
  |none=>.ow (.tree p (.lst ts)))
 |t=>.ow (.tree p t)
@[simp] theorem toCl_list (ds:List D):toCl none (.lst (ds.map .sh))=.own ds:=by unfold toCl;simp only[CJ]
@[simp] theorem toCl_listP (q:Nat) (ds:List D):toCl (some q) (.lst (ds.map .sh))=.ow (.LZ q ds):=by unfold toCl;simp only[CJ]
@[simp] theorem toCl_dct (p:Option Nat) (b:Bool) (ks:List D) (ts:List OT):toCl p (.Bd b ks ts)=.ow (.tree p (.Bd b ks ts)):=rfl
noncomputable def treeOf:Cl->Option (Option Nat×OT)
 | .own ds=>some (none,.lst (ds.map .sh))
 | .ow (.LZ p ds)=>some (some p,.lst (ds.map .sh))
 | .ow (.rows BF)=>some (none,.lst (BF.map λ ds=>.lst (ds.map .sh)))
 | .ow (.tree p t)=>some (p,t)
 | .val _=>none
theorem D1.toT {K:zy}{H:Hp}{P:Addr->Prop}{c:Cl}{v:V}{fp:List Addr}{p:Option Nat}{t:OT}(h:D1 K H P c v fp)(e:treeOf c=some (p,t)):BQ K H P v t fp:=by
 cases c with
 |val d=>exact h.elim
 |own ds =>
  cases e;obtain⟨p,xs,rfl,rfl,h1,h2⟩:=h;exact .lst h1 h2.ows
 |ow o =>
  cases o with
  |rows BF =>
   cases e;obtain⟨p,ps,rfl,rfl,h1,h2⟩:=h;exact .lst h1 h2.ows
  |LZ p ds =>
   cases e;obtain⟨p,xs,rfl,rfl,h1,h2⟩:=h;exact .lst h1 h2.ows
  |tree p t'=>cases e;exact h
theorem D1.toCl {K:zy}{H:Hp}{P:Addr->Prop}{v:V}{fp:List Addr}{p:Option Nat}{t:OT}(h:BQ K H P v t fp):D1 K H P (toCl p t) v fp:=by
 unfold L2.toCl;split
 ·rename_i ts;cases q:Em ts with
  |none=>exact h
  |some ds =>
   have e:=D7 q;subst e;cases h with
   |lst h1 h2 =>
    obtain⟨rfl,h3⟩:=h2.jT;cases p with
    |none|some q=>exact⟨_,_,rfl,rfl,h1,h3⟩
 ·exact h
theorem IR (p:Option Nat)(t:OT):P7 (toCl p t)=p:=by
 unfold toCl;split
 ·rename_i ts;cases q:Em ts with
  |none|some ds=>cases p<;>rfl
 ·cases p<;>rfl
theorem IS {c:Cl}{p:Option Nat}{t:OT}(h:treeOf c=some (p,t)):P7 c=p:=by
 cases c with
 |val d=>cases h
 |own ds=>cases h;rfl
 |ow o =>
  cases o with
  |rows BF|LZ p ds=>cases h;rfl
  |tree p t=>cases h;cases p<;>rfl
noncomputable def TZ (i:Nat)(ρ:Aa)(t:OT):M Out:=match t with
 | .sh d=>.ok (.next (ρ.set i (some (.val d))))
 |t=>.ok (.next (ρ.set i (some (toCl none t))))
theorem rY {K:zy}{i:Nat}{t:OT}{v:V}{fp:List Addr}{H':Hp}{Z:Ends}(E:Ak K P0 P H σ ρ)(s:Ac H H')(hn:∀a∈fp,H a=none)(nd:fp.Nodup)(o:BQ K H' (PU P fp) v t fp)(h:gS K WX P0 P H Z (TZ i ρ t)):Z.nx (σ.set i (some v)) H':=by
 have key:gS K WX P0 P H Z (.ok (.next (ρ.set i (some (toCl none t)))))->Z.nx (σ.set i (some v)) H':=λ h=>by
  refine h _ H' (PU P fp) (E.tU s hn) (E.Yt IQ (L4 (E.same s).C3 o) (BG s hn) (λ j c' v' ak af g1 g2 g3 a ha=>?_) (D1.toCl o) (λ a ha=>⟨.inr ha,λ z=>(E.C3 a (E.sub a z)).no (hn a ha)⟩) nd (λ n z=>by rw[IR] at z;cases z));obtain⟨xs,z⟩:=g3.at a ha;exact⟨by rw[z];exact s _ _ z,λ w=>by rw[hn a w] at z;cases z⟩
 cases t with
 |sh d =>
  cases o with
  |sh hv=>exact h _ H' P (E.tr s) ((E.same s).Wt (by rw[TX] at hv;exact hv))
 |lst ts|tup ts|Bd b ks ts|ins x ns ts=>exact key h
theorem Cw (i:Nat){x:Str}{pos':Pos}(hN:X.N.Nodup)(hi:X.N[i]?=some x)(hx:Loc X.env.scope x)(ha:DN X WX e fn)(hs:swapsWith e (some (.Name x pos')) pos.line X.env=pure false:=by rfl)(hf:X.fn x=true\/X.env.scope.names.lookup x=some .local:=by first | exact .inl rfl | exact .inr rfl | assumption):
 DS X WX (.Assign [.Name x pos'] e pos) (λ ρ=>(fn ρ).bind (TZ i ρ)):=by
 obtain⟨ta,a1,a2⟩:=ha;refine⟨_,XO hN hi hx a1 hs hf,λ P0 P σ H Z ρ E h=>?_⟩;dsimp only at h;refine a2 P0 P σ H _ ρ E ?_;cases q:fn ρ with
 |bad=>rw[q] at h;exact h
 |ex x=>rw[q] at h;exact λ H' s=>h H' P (E.tr s)
 |ok t =>
  rw[q] at h;exact λ v fp H' s hn nd o=>rY E s hn nd o h
noncomputable def U0 (i:Nat)(ρ:Aa):M Out:=match ρ[i]? with
 |some (some (.val d))=>.ok (.ret d)
 |some (some c)=>.ok (.CN c)
 |_=>.bad
theorem DR (i:Nat){x:Str}{p1:Pos}(hv:PE X (.Name x p1) (Oj i)):DS X WX (.Return (some (.Name x p1)) pos) (U0 i):=by
 refine⟨_,Te hv,λ P0 P σ H Z ρ E h=>?_⟩;unfold U0 at h;split at h
 ·rename_i d e1;obtain⟨v,h1,h2⟩:=E.val i d e1;exact⟨v,h1,h v H P Tr.refl (h2.mono (CP E.sub))⟩
 ·rename_i c hc e1;have io:Ij c=true:=by
   cases c with
   |val d=>exact (hc d rfl).elim
   |own ds|ow o=>rfl
  obtain⟨v,fp,h1,h2,h3,h4⟩:=E.ows i _ e1 io;exact⟨v,h1,h v fp H P Tr.refl E.sub E.C3 h2 h3 h4⟩
 ·exact h.elim
theorem Qo:∀ds:List D,RD (ds.map .sh)=ds
 |[]=>rfl
 |d::r=>by rw[zG,RD,er,Qo r]
noncomputable def YN (i:Nat)(ρ:Aa):Aa:=match ρ[i]? with
 |some (some c)=>ρ.set i (some (M2 c))
 |_=>ρ
end
section
variable {K:zy}{H H':Hp}{P P':Addr->Prop}
theorem CI.same {v:V}{t:OT}{q:List Addr}{xs:List V}(e:Ac H H')(h:CI K H P v t q xs):CI K H' P v t q xs:=by
 cases t with
 |sh d=>exact h.elim
 |lst ts=>obtain⟨p,rfl,rfl,h⟩:=h;exact⟨p,rfl,rfl,e _ _ h⟩
 |tup ts=>obtain⟨p,rfl,rfl,h⟩:=h;exact⟨p,rfl,rfl,e.del _ _ h⟩
 |Bd b ks ts =>
  cases b with
  |false|true=>obtain⟨p,kvs,rfl,rfl,h,rfl,rfl⟩:=h;exact⟨p,kvs,rfl,rfl,e _ _ h,rfl,rfl⟩
 |ins x ns ts=>obtain⟨p,C,dx,fs,rfl,rfl,n,h,rfl,rfl⟩:=h;exact⟨p,C,dx,fs,rfl,rfl,n,e _ _ h,rfl,rfl⟩
theorem JF.same {v v1:V}{t t1:OT}{π:List Nat}(e:Ac H H')(h:JF K H P v t π v1 t1):JF K H' P v t π v1 t1:=by
 induction h with
 |nil=>exact .nil
 |cons n hx hs _ ih=>exact .cons (n.same e) hx hs ih
theorem CI.more {v:V}{t:OT}{q:List Addr}{xs:List V}(sm:Ac (del H P) (del H' P'))(e:Ac H H')(h:CI K H P v t q xs):CI K H' P' v t q xs:=by
 cases t with
 |sh d=>exact h.elim
 |lst ts=>obtain⟨p,rfl,rfl,h⟩:=h;exact⟨p,rfl,rfl,e _ _ h⟩
 |tup ts=>obtain⟨p,rfl,rfl,h⟩:=h;exact⟨p,rfl,rfl,sm _ _ h⟩
 |Bd b ks ts =>
  cases b with
  |false|true=>obtain⟨p,kvs,rfl,rfl,h,rfl,rfl⟩:=h;exact⟨p,kvs,rfl,rfl,e _ _ h,rfl,rfl⟩
 |ins x ns ts=>obtain⟨p,C,dx,fs,rfl,rfl,n,h,rfl,rfl⟩:=h;exact⟨p,C,dx,fs,rfl,rfl,n,e _ _ h,rfl,rfl⟩
theorem JF.more {v v1:V}{t t1:OT}{π:List Nat}(sm:Ac (del H P) (del H' P'))(e:Ac H H')(h:JF K H P v t π v1 t1):JF K H' P' v t π v1 t1:=by
 induction h with
 |nil=>exact .nil
 |cons n hx hs _ ih=>exact .cons (n.more sm e) hx hs ih
end
noncomputable def Va (i:Nat)(ρ:Aa)(π:List Nat):Option OT:=match ρ[i]? with
 |some (some c)=>(match treeOf c with|some (_,t)=>L3 t π|none=>none)
 |_=>none
structure Bp (K:zy)(P:Addr->Prop)(H:Hp)(σ:St)(ρ:Aa)(i:Nat)(π:List Nat)(v:V)(t1:OT):Prop where
 ex:∃v0 c p t,ρ[i]?=some (some c)/\treeOf c=some (p,t)/\σ[i]?=some (some v0)/\JF K H P v0 t π v t1
theorem Bp.at {K:zy}{P:Addr->Prop}{H:Hp}{σ:St}{ρ:Aa}{i:Nat}{π:List Nat}{v:V}{t1:OT}(h:Bp K P H σ ρ i π v t1):Va i ρ π=some t1:=by
 obtain⟨v0,c,p,t,h1,h2,h3,h4⟩:=h.ex;unfold Va;simp only[h1,h2];exact h4.sub
theorem Bp.same {K:zy}{P:Addr->Prop}{H H':Hp}{σ:St}{ρ:Aa}{i:Nat}{π:List Nat}{v:V}{t1:OT}(e:Ac H H')(h:Bp K P H σ ρ i π v t1):Bp K P H' σ ρ i π v t1:=by
 obtain⟨v0,c,p,t,h1,h2,h3,h4⟩:=h.ex;exact⟨v0,c,p,t,h1,h2,h3,h4.same e⟩
theorem Bp.more {K:zy}{P P':Addr->Prop}{H H':Hp}{σ:St}{ρ:Aa}{i:Nat}{π:List Nat}{v:V}{t1:OT}(sm:Ac (del H P) (del H' P'))(e:Ac H H')(h:Bp K P H σ ρ i π v t1):Bp K P' H' σ ρ i π v t1:=by
 obtain⟨v0,c,p,t,h1,h2,h3,h4⟩:=h.ex;exact⟨v0,c,p,t,h1,h2,h3,h4.more sm e⟩
theorem Bp.own {K:zy}{P0:Ds}{P:Addr->Prop}{H:Hp}{σ:St}{ρ:Aa}{i:Nat}{π:List Nat}{v:V}{t1:OT}(h:Bp K P H σ ρ i π v t1)(E:Ak K P0 P H σ ρ):∃a9,BQ K H P v t1 a9/\(∀a∈a9,P a/\¬ P0 a)/\a9.Nodup:=by
 obtain⟨v0,c,p,t,h1,h2,h3,h4⟩:=h.ex;have io:Ij c=true:=by cases c<;>first|rfl|cases h2
 obtain⟨w,fp,k1,k2,k3,k4⟩:=E.ows i c h1 io;rw[h3] at k1;cases k1;obtain⟨a9,o1,hk,kn⟩:=(k2.toT h2).part h4;exact⟨a9,o1,λ a ha=>k3 a (hk a ha),kn k4⟩
def gP (K:zy)(WX:Str->Hp->Prop)(P:Addr->Prop)(H:Hp)(σ:St)(ρ:Aa)(i:Nat)(Q:VK):M (List Nat)->Prop
 | .ok π=>∀v t1 H',Ac H H'->Bp K P H' σ ρ i π v t1->Q v H'
 | .ex x=>∀H',Ac H H'->WX x H'
 | .bad=>False
def DP (X:Cx)(WX:Str->Hp->Prop)(e:Expr)(i:Nat)(f:Aa->M (List Nat)):Prop:=
 ∃t,PE X e t/\∀P0 P σ H Q ρ,Ak X.K P0 P H σ ρ->gP X.K WX P H σ ρ i Q (f ρ)->t σ H Q
section
variable {X:Cx}{WX:Str->Hp->Prop}{c:Bool}{P0:Ds}{P:Addr->Prop}{H:Hp}{σ:St}{ρ:Aa}{a b e:Expr}{f g:Aa->M D}{fn:Aa->M OT}{fp:Aa->M (List Nat)}{pos:Pos}{i:Nat}
noncomputable def RS (i:Nat)(ρ:Aa):M (List Nat):=match Va i ρ [] with | some _=>.ok [] | none=>.bad
theorem C1 (i:Nat){x:Str}{p1:Pos}(hv:PE X (.Name x p1) (Oj i)):DP X WX (.Name x p1) i (RS i):=by
 refine⟨_,hv,λ P0 P σ H Q ρ E h=>?_⟩;unfold RS at h;split at h
 ·rename_i t e;unfold Va at e;split at e
  ·rename_i cl e1;split at e
   ·rename_i p t0 e2;have io:Ij cl=true:=by cases cl<;>first|rfl|cases e2
    obtain⟨v,fp,h1,h2,h3,h4⟩:=E.ows i cl e1 io;exact⟨v,h1,h v t0 H (Ac.refl H) ⟨v,cl,p,t0,e1,e2,h1,.nil⟩⟩
   ·cases e
  ·cases e
 ·exact h.elim
noncomputable def vK (i:Nat)(ρ:Aa)(π:List Nat):M D:=match Va i ρ π with
 |some (.sh d)=>.ok d
 |_=>.bad
theorem Ak.rZ {K:zy}{P':Addr->Prop}{H':Hp}{π:List Nat}{v1:V}{t1 u:OT}{a9 fu:List Addr}(E:Ak K P0 P H σ ρ)(pl:Bp K P H σ ρ i π v1 t1)(o:BQ K H P v1 t1 a9)(hs:∀a,P a->P' a)(ht:∀a,P' a->E6 H' a)(sm:Ac (del H P) (del H' P'))(keep:∀a,P a->a∉a9->H' a=H a)
 (o':BQ K H' P' v1 u fu) (nd:fu.Nodup) (hf:∀a∈fu,a∈a9\/(P' a/\¬ P0 a/\∀(j:Nat) c v fp,ρ[j]?=some (some c)->σ[j]?=some (some v)->D1 K H P c v fp->a∉fp)):
 ∃c p t,ρ[i]?=some (some c)/\treeOf c=some (p,t)/\Ak K P0 P' H' σ (ρ.set i (some (toCl p (EW t π u))))/\Tr P0 P H P' H':=by
 obtain⟨v0,c,p,t,h1,h2,h3,h4⟩:=pl.ex;have io:Ij c=true:=by cases c<;>first|rfl|cases h2
 obtain⟨w,fp,k1,k2,k3,k4⟩:=E.ows i c h1 io;rw[h3] at k1;cases k1;have ot:=k2.toT h2;obtain⟨fz,oz,kz,_⟩:=ot.part h4;have:=oz.Cy o;subst this;obtain⟨ak,q1,q2,q3⟩:=ot.put sm h4 o o' (λ a ha hn=>keep a (k3 a ha).1 hn) k4 nd (λ a ha hb=>(hf a ha).elim id λ z=>(z.2.2 i c v0 fp h1 h3 k2 hb).elim);refine⟨c,p,t,h1,h2,?_,sm,λ a ha=>keep a (E.sub a ha) λ z=>(k3 a (kz a z)).2 ha⟩;have key:=E.Yt (P':=P') (H':=H') (i:=i) (v:=v0) (c:=toCl p (EW t π u)) (fp:=ak) hs ht sm (λ j c' v' fq af g1 g2 g3 a ha=>?_) (D1.toCl q1) (λ a ha=>?_) q2 (λ n z=>by rw[IR] at z;subst z;have:=E.pin i c n h1 (IS h2);rw[h3] at this;cases this;rfl)
 ·rw[Nc h3] at key;exact key
 ·have qq:a∉fp:=E.apart j i c' c v' v0 fq fp g1 h1 g2 h3 g3 k2 (zao af) a ha;have j8:Ij c'=true:=by cases c'<;>first|rfl|exact g3.elim
  obtain⟨w',fr,m1,m2,m3,m4⟩:=E.ows j c' g1 j8;rw[g2] at m1;cases m1;have:=m2.Cy g3;subst this;refine⟨keep a (m3 a ha).1 λ z=>qq (kz a z),λ z=>?_⟩;rcases q3 a z with y|y
  ·rcases hf a y with x|x
   ·exact qq (kz a x)
   ·exact x.2.2 j c' v' fr g1 g2 g3 ha
  ·exact qq y.1
 ·rcases q3 a ha with y|y
  ·rcases hf a y with x|x
   ·exact⟨hs a (k3 a (kz a x)).1,(k3 a (kz a x)).2⟩
   ·exact⟨x.1,x.2.1⟩
  ·exact⟨hs a (k3 a y.1).1,(k3 a y.1).2⟩
theorem Ak.vL {K:zy}{π:List Nat}{l:Addr}{xs ys:List V}{ts us:List OT}{fq fu:List Addr}(E:Ak K P0 P H σ ρ)(pl:Bp K P H σ ρ i π (.ref l) (.lst ts))(hH:H l=some (.lst xs))(o:Aw K H P xs ts fq)(o':Aw K H P ys us fu)(nd:fu.Nodup)(hl:l∉fu)
 (hf:∀a∈fu,a∈fq\/(P a/\¬ P0 a/\∀(j:Nat) c v fp,ρ[j]?=some (some c)->σ[j]?=some (some v)->D1 K H P c v fp->a∉fp)):
 ∃c p t,ρ[i]?=some (some c)/\treeOf c=some (p,t)/\Ak K P0 P (upd H l (.lst ys)) σ (ρ.set i (some (toCl p (EW t π (.lst us)))))/\Tr P0 P H P (upd H l (.lst ys)):=by
 have ot:BQ K H P (.ref l) (.lst ts) (l::fq):=.lst hH o;obtain⟨a9,o1,hp,_⟩:=pl.own E;have:=o1.Cy ot;subst this;have pP:P l:=(hp l zD).1;have sd:del (upd H l (.lst ys)) P=del H P:=by
  funext b;by_cases hb:P b
  ·rw[Eh hb,Eh hb]
  ·rw[Az hb,Az hb,Ab (λ z=>hb (by rw[z];exact pP))]
 have sm:Ac (del H P) (del (upd H l (.lst ys)) P):=by rw[sd];exact Ac.refl _
 refine E.rZ pl ot (λ _ h=>h) (λ a h=>?_) sm (λ a ha hn=>Ab λ z=>hn (by rw[z];exact zD)) (.lst Aj (o'.move sm λ a ha=>Ab λ z=>hl (by rw[<-z];exact ha))) (zav.mpr ⟨hl,nd⟩) (λ a ha=>?_)
 ·by_cases ha:a=l
  ·subst ha;exact E6.lst Aj
  ·unfold E6;rw[Ab ha];exact E.C3 a h
 ·rcases zQ.mp ha with z|z
  ·exact .inl (by rw[z];exact zD)
  ·rcases hf a z with y|y
   ·exact .inl (zF _ y)
   ·exact .inr y
end
noncomputable def kd:D->Option Key
 | .int i=>some (.inl i)
 | .str x=>some (.inr x)
 |_=>none
noncomputable def pF:List D->Option (List Key)
 |[]=>some []
 |d::r=>match kd d,pF r with|some k,some ks=>some (k::ks)|_,_=>none
theorem jU {d:D}{k:Key}(h:kd d=some k):d=Cp k:=by
 cases d<;>simp[kd] at h<;>subst h<;>rfl
theorem YO:∀ {ds:List D}{ks:List Key},pF ds=some ks->ds=ks.map Cp
 |[],ks,h=>by cases h;rfl
 |d::r,ks,h=>by
  rw[pF] at h;cases q:kd d with
  |none=>rw[q] at h;cases h
  |some k =>
   cases q2:pF r with
   |none=>rw[q,q2] at h;cases h
   |some xZ =>
    rw[q,q2] at h;cases h;rw[zG,<-jU q,<-YO q2]
inductive fD:Bool->D->Prop
 |k (κ:Key):fD false (Cp κ)
 |t (κ:List Key):fD true (.tup (κ.map Cp))
noncomputable def keyOk (b:Bool)(d:D):Bool:=match b,d with
 |false,d=>(kd d).isSome
 |true,.tup ds=>(pF ds).isSome
 |_,_=>false
theorem En {b:Bool}{d:D}(h:keyOk b d=true):fD b d:=by
 cases b with
 |false =>
  obtain⟨k,hk⟩:=zbu.mp (show (kd d).isSome=true from h);rw[jU hk];exact .k k
 |true =>
  cases d with
  |tup ds =>
   obtain⟨k,hk⟩:=zbu.mp (show (pF ds).isSome=true from h);rw[YO hk];exact .t k
  |_=>cases h
theorem GC (a b:Key):Ax (Cp a) (Cp b)=decide (a=b):=by
 cases a with
 |inl i =>
  cases b with
  |inl j=>simp only[Cp,Ax];rw[zby];simp
  |inr y=>simp[Cp,Ax]
 |inr x =>
  cases b with
  |inl j=>simp[Cp,Ax]
  |inr y=>simp only[Cp,Ax];rw[zby];simp
theorem Mq:∀a b:List Key,Cr (a.map Cp) (b.map Cp)=decide (a=b)
 |[],[]|[],_::_|_::_,[]=>by simp[Cr]
 |a::r,b::t=>by
  rw[zG,zG,Cr,GC,Mq r t,zby];simp
noncomputable def Gj {α:Type}:List D->List α->D->Option α
 |k::ks,v::vs,y=>if Ax k y=true then some v else Gj ks vs y
 |_,_,_=>none
noncomputable def IT {α:Type}:List D->List α->D->α->List α
 |k::ks,v::vs,y,z=>(if Ax k y=true then z else v)::IT ks vs y z
 |_,vs,_,_=>vs
noncomputable def M3 (ks:List D)(y:D):Bool:=ks.any λ k=>Ax k y
section
variable {κ:Type} [DecidableEq κ] {fk:κ->D}(hf:∀a b,Ax (fk a) (fk b)=decide (a=b))
include hf
theorem Np {α:Type}:∀(kvs:List (κ×α)) (k:κ),Gj (kvs.map λ kv=>fk kv.1) (kvs.map zb1) (fk k)=(kvs.find? λ kv=>decide (kv.1=k)).map (·.2)
 |[],k=>rfl
 |p::r,k=>by
  rw[zG,zG,Gj,hf,zcd];by_cases e:p.1=k
  ·rw[decide_eq_true e];rfl
  ·rw[decide_eq_false e];simp only[za8,if_false];exact Np r k
theorem JH {α:Type}(kvs:List (κ×α))(k:κ):M3 (kvs.map λ kv=>fk kv.1) (fk k)=kvs.any λ kv=>decide (kv.1=k):=by
 unfold M3;rw[List.any_map];congr 1;funext kv;exact hf _ _
theorem GD (k:κ)(v:V):∀(kvs:List (κ×V)),IT (kvs.map λ kv=>fk kv.1) (kvs.map zb1) (fk k) v=(kvs.map λ kv=>if kv.1=k then (kv.1,v) else kv).map zb1
 |[]=>rfl
 |p::r=>by
  rw[zG,zG,IT,hf,zG,zG,GD k v r];by_cases e:p.1=k
  ·rw[decide_eq_true e,if_pos e];rfl
  ·rw[decide_eq_false e,if_neg e];rfl
theorem GF (k:κ)(v:V):∀(kvs:List (κ×V)),(kvs.map λ kv=>if kv.1=k then (kv.1,v) else kv).map (λ kv=>fk kv.1)=kvs.map λ kv=>fk kv.1
 |[]=>rfl
 |p::r=>by
  rw[zG,zG,zG,GF k v r];by_cases e:p.1=k
  ·rw[if_pos e]
  ·rw[if_neg e]
end
theorem Nq {K:zy}{H:Hp}:∀ {ks:List D}{xs:List V}{ds:List D}{y d:D},Ag K H xs ds->Gj ks ds y=some d->∃x,Gj ks xs y=some x/\Bu K H x d
 |[],_,_,_,_,_,e|_::_,_,_,_,_,.nil,e=>by simp[Gj] at e
 |k::ks,_,_,y,d,.cons h t,e=>by
  rw[Gj] at e ⊢;by_cases q:Ax k y=true
  ·rw[if_pos q] at e ⊢;cases e;exact⟨_,rfl,h⟩
  ·rw[if_neg q] at e ⊢;exact Nq t e
theorem HH {α:Type}:∀ {ks:List D}{xs:List α}{y:D},xs.length=ks.length->M3 ks y=(Gj ks xs y).isSome
 |[],[],y,_=>rfl
 |k::ks,x::xs,y,h=>by
  unfold M3;rw[zci,Gj];cases q:Ax k y with
  |true=>rfl
  |false =>
   simp only[Bool.false_or,za8,if_false];exact HH (by simpa using h)
 |[],_::_,_,h|_::_,[],_,h=>by cases h
theorem GG {K:zy}{H:Hp}{P:Addr->Prop}{y d:D}{v:V}(hv:Bu K (del H P) v d):∀ {ks:List D}{xs:List V}{ds:List D},Ag K (del H P) xs ds->Ag K (del H P) (IT ks xs y v) (IT ks ds y d)
 |[],_,_,h=>by simp only[IT];exact h
 |_::_,_,_,.nil=>by simp only[IT];exact .nil
 |k::ks,_,_,.cons h t=>by
  rw[IT,IT];refine .cons ?_ (GG hv t);by_cases q:Ax k y=true
  ·rw[if_pos q,if_pos q];exact hv
  ·rw[if_neg q,if_neg q];exact h
section
variable {K:zy}{H:Hp}{P:Addr->Prop}
theorem Ag.keys:∀ {xs:List V}(κ:List Key),Ag K H xs (κ.map Cp)->xs=κ.map kV
 |_,[],.nil=>rfl
 |_,k::r,.cons h t=>by
  rw[zG,<-Ag.keys r t];congr 1;cases k with
  |inl i=>exact h.int_inv
  |inr x=>cases h;rfl
theorem Bu.fE {y:V}{κ:Key}(h:Bu K H y (Cp κ)):y=kV κ:=by
 cases κ with
 |inl i=>exact h.int_inv
 |inr x=>cases h;rfl
theorem Qp {v y:V}{b:Bool}{ks vs:List D}{k:D}(hv:Bu K (del H P) v (.Bd b ks vs))(hy:Bu K (del H P) y k)(hk:fD b k):∃a xs,v=.ref a/\Qb H a y (Gj ks xs k)/\Ag K (del H P) xs vs/\xs.length=ks.length:=by
 cases hv with
 |Gu hh hl =>
  cases hk with
  |k κ =>
   refine⟨_,_,rfl,?_,hl,by simp⟩;rw[hy.fE,Np GC];exact .inl ⟨_,κ,hh.Bg,rfl,rfl⟩
 |Hz hh hl =>
  cases hk with
  |t κ =>
   cases hy with
   |tup ht aE =>
    have e:=Ag.keys κ aE;subst e;refine⟨_,_,rfl,?_,hl,by simp⟩;rw[Np (fk:=λ κ:List Key=>D.tup (κ.map Cp)) (λ a b=>by simp only[Ax];exact Mq a b)];exact .inr ⟨_,κ,_,hh.Bg,rfl,(Am ht).2,rfl⟩
end
section
variable {X:Cx}{WX:Str->Hp->Prop}{c:Bool}{P0:Ds}{P:Addr->Prop}{H:Hp}{σ:St}{ρ:Aa}{a b e:Expr}{f g:Aa->M D}{fn:Aa->M OT}{fp:Aa->M (List Nat)}{pos:Pos}{i:Nat}
noncomputable def sA:R2:=λ x y H Q=>∃a v,x=.ref a/\Qb H a y (some v)/\Q v H
theorem fF (hu:X.A.units+1<cLine):dP X sA:=by
 intro value slice pins s σ H x y v u Q I rx ry h hs;obtain⟨a,z,rfl,g,q⟩:=h;cases rx;have hT:=Rw I g;have h₂:wpAny (model X.prog X.w) X.A (getItem (.ref a) u) (EP X pins σ Q) X.xe s:=Wi hu I g ry λ w' s3 I3 bt=>⟨z,H,I3,bt,q⟩;unfold subscriptTail;refine wpAny_bind ?_;rw[getitemInPython_of_ne hT.not_modules];refine wpAny_bind (wpAny_specialOf hT PySem.F.slot_dict_getitem.lookup ?_);have fin:wpAny (model X.prog X.w) X.A (subscripted slice false (.ref a) u) (λ r s₃=>wpAny (model X.prog X.w) X.A (letTemporaryGo value (.ref a) r >>= λ _=>pure r) (EP X pins σ Q) X.xe s₃) X.xe s:=by
  rw[hs];exact wpAny_operating (wpAny_mono h₂ (λ r s₃ h₃=>wpAny_bind (wpAny_letTemporaryGo (wpAny_pure h₃))) λ _ _ x=>x)
 first
  |exact wpAny_pure (wpAny_bind fin)
  |exact wpAny_bind (wpAny_pure (wpAny_bind fin))
  |exact wpAny_bind fin
noncomputable def Bf (x y:D):M D:=match x with
 | .Bd b ks vs=>if keyOk b y=true then (match Gj ks vs y with|some d=>.ok d|none=>.bad) else .bad
 |x=>eM x y
theorem fG:V2 X.K WX (λ x y H Q=>(lW X.K x y H Q\/lX X.K x y H Q)\/sA x y H Q) Bf:=by
 intro P H x y v w Q ht hx hy h;cases x with
 |Bd b ks vs =>
  simp only[Bf] at h;by_cases hk:keyOk b y=true
  ·rw[if_pos hk] at h;obtain⟨a,xs,rfl,g,hl,_⟩:=Qp hx hy (En hk);split at h
   ·rename_i d e;obtain⟨u,e1,e2⟩:=Nq hl e;rw[e1] at g;exact .inr ⟨a,u,rfl,g,h _ H (Ac.refl H) e2⟩
   ·exact h.elim
  ·rw[if_neg hk] at h;exact h.elim
 |AF|bl b|int b|str b|tup b|lst b|DH b|ins b _ _=>exact .inl (Gw P H _ y v w Q ht hx hy h)
theorem Ae {n:Nat}(hu:X.A.units+n<cLine)(ha:DE X WX c a f)(hb:DE X WX c b g)(hs:Hw b:=by exact λ _ _=>rfl)(hn:1<=n:=by decide):DE X WX c (.Subscript a b pos) (λ ρ=>(f ρ).bind λ x=>(g ρ).bind λ y=>Bf x y):=rF ((Mf.or lY).or (fF (by omega))) fG ha hb hs
noncomputable def mX (neg:Bool):R2:=λ y x H Q=>∃a o,x=.ref a/\Qb H a y o/\Q (.bl (if neg=true then !o.isSome else o.isSome)) H
theorem U1 (hu:X.A.units+1<cLine):Gp X (compareOp .In) (mX false):=by
 intro pins s σ H x y v u Q I rx ry h;obtain⟨a,o,rfl,g,q⟩:=h;cases ry;exact vA hu I g rx λ s3 I3=>⟨.bl o.isSome,H,I3,rfl,q⟩
theorem Oy (hu:X.A.units+1<cLine):Gp X (compareOp .NotIn) (mX true):=by
 intro pins s σ H x y v u Q I rx ry h;obtain⟨a,o,rfl,g,q⟩:=h;cases ry;exact dY hu I g rx λ s3 I3=>⟨.bl (!o.isSome),H,I3,rfl,q⟩
noncomputable def JI (neg:Bool)(y x:D):M D:=match x with
 | .Bd b ks vs=>if keyOk b y=true then .ok (.bl (if neg=true then !M3 ks y else M3 ks y)) else .bad
 |x=>tS neg y x
theorem Vb {neg:Bool}:V2 X.K WX (λ x y H Q=>tN X.K neg x y H Q\/mX neg x y H Q) (JI neg):=by
 intro P H x y v w Q ht hx hy h;cases y with
 |Bd b ks vs =>
  simp only[JI] at h;by_cases hk:keyOk b x=true
  ·rw[if_pos hk] at h;obtain⟨a,xs,rfl,g,hl,hn⟩:=Qp hy hx (En hk);rw[HH (xs:=xs) hn] at h;exact .inr ⟨a,_,rfl,g,h _ H (Ac.refl H) (.bl _)⟩
  ·rw[if_neg hk] at h;exact h.elim
 |AF|bl b|int b|str b|tup b|lst b|DH b|ins b _ _=>exact .inl (GA P H x _ v w Q ht hx hy h)
theorem L7 {n:Nat}(hu:X.A.units+n<cLine)(ha:DE X WX c a f)(hb:DE X WX c b g)(hm:behindInMarks .In b=false:=by rfl)(hn:1<=n:=by decide):DT X WX (.Compare a [.In] [b] pos) (λ ρ=>((f ρ).bind λ x=>(g ρ).bind λ y=>JI false x y).bind P9):=Fv (Wc.or (U1 (by omega))) Vb ha hb hm
theorem Mr {n:Nat}(hu:X.A.units+n<cLine)(ha:DE X WX c a f)(hb:DE X WX c b g)(hm:behindInMarks .NotIn b=false:=by rfl)(hn:1<=n:=by decide):DT X WX (.Compare a [.NotIn] [b] pos) (λ ρ=>((f ρ).bind λ x=>(g ρ).bind λ y=>JI true x y).bind P9):=Fv (Q8.or (Oy (by omega))) Vb ha hb hm
noncomputable def EX:D->M Bool
 | .AF=>.ok false
 | .bl b=>.ok b
 | .int i=>.ok (i != 0)
 | .tup ds| .lst ds=>.ok (!ds.isEmpty)
 |_=>.bad
theorem JJ {K:zy}{H:Hp}{xs:List V}{ds:List D}(h:Ag K H xs ds):(!ds.isEmpty) = !xs.isEmpty:=by cases h<;>rfl
theorem BO (h:DE X WX c e f)(he:∀whole,isTrue e X.env whole=(do let v <-whole;standAt e.pos;holding [v] (truthy v)):=by intro _;rfl):DT X WX e (λ ρ=>(f ρ).bind EX):=by
 obtain⟨t,h1,h2⟩:=h;refine⟨_,XX h1 he,λ P0 P σ H Q ρ E h=>h2 P0 P σ H _ ρ E ?_⟩;dsimp only at h;cases q:f ρ with
 |bad|ex x=>rw[q] at h;exact h
 |ok d =>
  rw[q] at h;simp only[M.A7] at h;intro v H' s hv;cases hv with
  |AF=>exact⟨false,rfl,h H' s⟩
  |bl b=>exact⟨b,rfl,h H' s⟩
  |int i=>exact⟨_,rfl,h H' s⟩
  |tup hs hl=>exact⟨_,.inr (.inl ⟨_,EL.of (Am hs).2,rfl⟩),by rw[<-JJ hl];exact h H' s⟩
  |lst hs hl=>exact⟨_,.inl ⟨_,hs.Bg,rfl⟩,by rw[<-JJ hl];exact h H' s⟩
  |_=>exact h.elim
end
noncomputable def Iv (m:M (List D)):M OT:=match m with | .ok ys=>.ok (.lst (ys.map .sh)) | _=>.bad
section
variable {X:Cx}{WX:Str->Hp->Prop}{c:Bool}{P0:Ds}{P:Addr->Prop}{H:Hp}{σ:St}{ρ:Aa}{a b e tg iter:Expr}{f g:Aa->M D}{ft:Aa->M Bool}{pos:Pos}{gt:D->Aa->M Aa}{fi:Aa->M (List D)}{es:List Expr}{fs:Aa->M (List D)}
theorem mY {μ:List (Option Nat)}{wi:TI}{gg:TG}{tc:Shared->Hp->Addr->List Addr->TT}{te:Shared->Hp->Addr->List Addr->TE}{fe:Aa->M D}
 (i2:∀P0 P σ H R ρ,Ak X.K P0 P H σ ρ->(match fi ρ with | .ok ds=>∀J H',Ac H H'->RI X.K J P H' ds->R J H' | .ex x=>∀H',Ac H H'->WX x H' | .bad=>False)->wi σ H R)
 (g2:∀P0 P σ H Q ρ v d,Ak X.K P0 P H σ ρ->Bu X.K (del H P) v d->gG X.K P0 P H Q (gt d ρ)->gg v σ H Q)
 (t2:∀s H' C ex P0 P σ H Q ρ,Ak X.K P0 P H σ ρ->gT (λ _ _=>False) H Q (ft ρ)->tc s H' C ex σ H Q)
 (e2:∀s H' C ex P0 P σ H Q ρ,Ak X.K P0 P H σ ρ->gV X.K (λ _ _=>False) (Lv true P0 P) H Q (fe ρ)->te s H' C ex σ H Q) {Q:VK}
 (E:Ak X.K P0 P H σ ρ) (h:Tb X.K WX P H Q ((fi ρ).bind λ ds=>if ds.length<=1000 then Iv (AX gt ft fe ds (AS μ ρ)) else .bad)):P5 wi μ gg tc te σ H Q:=by
 refine i2 P0 P σ H _ ρ E ?_;cases q:fi ρ with
 |bad|ex x=>rw[q] at h;exact h
 |ok ds =>
  rw[q] at h;simp only[M.A7] at h;by_cases hd:¬ ds.length<=1000
  ·rw[if_neg hd] at h;exact h.elim
  have hd:ds.length<=1000:=by omega
  rw[if_pos hd] at h;intro J H1 s1 ok s C ex;cases qc:AX gt ft fe ds (AS μ ρ) with
  |bad|ex x=>rw[qc] at h;exact h.elim
  |ok total =>
   rw[qc] at h;unfold Iv at h;dsimp only at h;have E1:=E.same s1;refine⟨λ i m ys H2=>m=ds.length-i/\i<=ds.length/\ys.length<=i/\Ac H1 H2/\∃es rest,Ag X.K (del H2 P) ys es/\AX gt ft fe (ds.drop i) (AS μ ρ)=.ok rest/\es++rest=total,
    ⟨ds.length,by simp,zak _,zU _,Ac.refl _,[],total,.nil,by rw[List.drop_zero];exact qc,rfl⟩,?_⟩
   rintro i m ys H2 ⟨rfl,hi,hy,s2,es,rest,bw,ad,a4⟩;by_cases aj:i<ds.length
   ·refine .inr ⟨ok.go i P H2 s2.del aj,zc9 hy (AB (by omega)),λ aU H'=>i+1<=ds.length/\aU.length<=i+1/\Ac H1 H'/\∃es rest,Ag X.K (del H' P) aU es/\AX gt ft fe (ds.drop (i+1)) (AS μ ρ)=.ok rest/\es++rest=total,λ aU H' hq=>⟨ds.length-(i+1),by omega,rfl,hq.1,hq.2.1,hq.2.2.1,hq.2.2.2⟩,λ v H3 y=>?_⟩;have E2:=E1.same s2;obtain⟨s3,hv⟩:=ok.cH i P H2 v H3 ds[i] s2.del E2.C3 (zJ aj) y;rw[Fh aj,AX] at ad;have E3:=(E2.same s3).block μ;refine g2 P0 P _ H3 _ (AS μ ρ) v ds[i] E3 hv ?_;cases q1:gt ds[i] (AS μ ρ) with
    |bad|ex x=>rw[q1] at ad;cases ad
    |ok ρ1 =>
     rw[q1] at ad;dsimp only at ad;intro σ4 E4;refine t2 s H1 C ex P0 P σ4 H3 _ ρ1 E4 ?_;cases q2:ft ρ1 with
     |bad|ex x=>rw[q2] at ad;cases ad
     |ok k =>
      rw[q2] at ad;dsimp only at ad;intro H5 s5;cases k with
      |false =>
       simp only[za8,if_false] at ad ⊢;exact⟨aj,by omega,(s2.trans s3).trans s5,es,rest,(bw.mono s3.del).mono s5.del,ad,a4⟩
      |true =>
       simp only[if_true] at ad ⊢;refine e2 s H1 C ex P0 P σ4 H5 _ ρ1 (E4.same s5) ?_;cases q3:fe ρ1 with
       |bad|ex x=>rw[q3] at ad;cases ad
       |ok y' =>
        rw[q3] at ad;dsimp only at ad;cases q4:AX gt ft fe (ds.drop (i+1)) (AS μ ρ) with
        |bad|ex x=>rw[q4] at ad;cases ad
        |ok gm =>
         rw[q4] at ad;cases ad;intro w H6 s6 hw;refine⟨aj,by rw[za7,zb2];omega,((s2.trans s3).trans s5).trans s6,es++[y'],gm,(((bw.mono s3.del).mono s5.del).mono s6.del).snoc hw,rfl,?_⟩;rw[zaw];exact a4
   ·have e:i=ds.length:=by omega
    subst e;rw[zc6,AX] at ad;cases ad;rw[zal] at a4;subst a4;exact .inl ⟨ok.stop _ P H2 s2.del (zU _),λ D0 hn=>h.Ik (s1.trans s2) bw D0 hn⟩
theorem DU {scope:Scope}{NB:List Str}{ifs:List Expr}{elt:Expr}{fe:Aa->M D}(μ:List (Option Nat))(hc:X.calm=true)(hi:DI X WX tg iter fi)(aF:IH scope X.env.scope=true)(bu:Ou X.N NB scope μ=true)(hg:pA X scope NB μ tg gt)
 (ht:∀s H C ex,pB (blockOf X s H scope C NB ex) ifs ft) (he:∀s H C ex,DE (blockOf X s H scope C NB ex) (λ _ _=>False) true elt fe) (hs:∀x,foldedSetIterable iter X.env x=pure x:=by intro _;rfl):
 DN X WX (.ListComp elt [⟨tg,iter,ifs,0⟩] scope pos) (λ ρ=>(fi ρ).bind λ ds=>if ds.length<=1000 then Iv (AX gt ft fe ds (AS μ ρ)) else .bad):=by
 obtain⟨wi,i1,i2⟩:=hi;obtain⟨gg,g1,gk,g2⟩:=hg;refine⟨_,UY hc i1 aF bu gk (λ s H C ex=>⟨g1 s H C ex,(zB (ht s H C ex)).1,(zB (he s H C ex)).1⟩) hs,λ P0 P σ H Q ρ E h=>?_⟩;exact mY i2 g2 (λ s H' C ex P0 P σ H Q ρ E h=>(zB (ht s H' C ex)).2 P0 P σ H Q ρ E h) (λ s H' C ex P0 P σ H Q ρ E h=>(zB (he s H' C ex)).2 P0 P σ H Q ρ E h) E h
end
def vM (K:zy)(WX:Str->Hp->Prop)(P:Addr->Prop)(p:Addr)(fp:List Addr)(H:Hp)(Q:VK):M (OT×OT)->Prop
 | .ok (t,r)=>∀v H' P' ak fr,(∀a,P a->a∉fp->P' a/\H' a=H a)->(∀a,P' a->E6 H' a)->Ac (del H P) (del H' P')->BQ K H' P' (.ref p) t ak->ak.Nodup->BQ K H' P' v r fr->fr.Nodup->(∀a∈fr,a∉ak)->
  (∀a∈ak,P' a/\(P a->a∈fp))->(∀a∈fr,P' a/\(P a->a∈fp))->Q v H'
 | .ex _| .bad=>False
noncomputable def Pm (K:zy)(n:Nat)(F:OT->List D->M (OT×OT)):Sp:=λ vs H Q E=>vs.length=n/\∃P p t fp rest a5,vs=.ref p::rest/\(∀a,P a->E6 H a)/\(∀a∈fp,P a)/\fp.Nodup/\BQ K H P (.ref p) t fp/\Ag K (del H P) rest a5/\vM K (Dt K E) P p fp H Q (F t a5)
noncomputable def D3 (N:List Str)(t:OT)(a5:List D):Aa:=some (toCl (some 0) t)::(a5.map (λ d=>some (.val d))++zR (N.length-(a5.length+1)) none)
noncomputable def GH (ρ:Aa):Option OT:=match ρ[0]? with
 |some (some c)=>(match treeOf c with|some (some 0,t)=>some t|_=>none)
 |_=>none
noncomputable def Eo (m:M Out):M (OT×OT):=match m with
 | .ok (.next ρ)=>(match GH ρ with|some t=>.ok (t,.sh .AF)|none=>.bad)
 | .ok (.Fg r ρ)=>(match GH ρ with|some t=>.ok (t,r)|none=>.bad)
 |_=>.bad
theorem WI (p:Option Nat)(t:OT):Ij (toCl p t)=true:=by
 unfold toCl;split
 ·rename_i ts;cases q:Em ts with
  |none=>rfl
  |some ds=>cases p<;>rfl
 ·rfl
theorem JK {K:zy}{P:Addr->Prop}{H:Hp}{N:List Str}{p:Addr}{t:OT}{fp:List Addr}{rest:List V}{a5:List D}(ht:∀a,P a->E6 H a)(hp:∀a∈fp,P a)(nd:fp.Nodup)(o:BQ K H P (.ref p) t fp)(h:Ag K (del H P) rest a5):
 Ak K ⟨λ a=>P a/\a∉fp,λ _=>p⟩ P H (start N (.ref p::rest)) (D3 N t a5):=by
 have hl:=h.length;have key:∀(i:Nat) (c:Cl),(a5.map (λ d=>some (Cl.val d))++zR (N.length-(a5.length+1)) none)[i]?=some (some c)->∃d,a5[i]?=some d/\c=.val d:=λ i c e=>by
  by_cases hi:i<a5.length
  ·rw[zbf (by simpa using hi),za2] at e;cases q:a5[i]? with
   |none=>rw[q] at e;cases e
   |some d=>rw[q] at e;cases e;exact⟨d,rfl,rfl⟩
  ·rw[zck (by simpa using hi),zc1] at e;split at e<;>cases e
 have wo:(start N (.ref p::rest))[0]?=some (some (.ref p)):=by unfold start;rfl
 refine⟨λ a h=>h.1,ht,λ i d e=>?_,λ i c e io=>?_,λ i j c c' v v' fp ak e1 e2 _ _ o1 o2 af=>?_,?_,λ i c n e ya=>?_⟩
 rotate_left 4
 ·cases i with
  |zero=>exact wo
  |succ i =>
   obtain⟨d',q,z⟩:=key i _ (by unfold D3 at e;simpa using e);cases z;cases ya
 ·cases i with
  |zero =>
   have e':some (toCl (some 0) t)=some (.val d):=by simpa [D3] using e
   have:=WI (some 0) t;rw[za6 e'] at this;cases this
  |succ i =>
   obtain⟨d',q,z⟩:=key i _ (by unfold D3 at e;simpa using e);cases z;obtain⟨v,hv,hd⟩:=h.get q;refine⟨v,?_,hd⟩;unfold start;rw[zG,zcq,zaa,zbf (by rw[zC];exact (zY.mp hv).1),za2,hv];rfl
 ·cases i with
  |zero =>
   have e':toCl (some 0) t=c:=by simpa [D3] using e
   subst e';exact⟨_,fp,wo,D1.toCl o,λ a ha=>⟨hp a ha,λ z=>z.2 ha⟩,nd⟩
  |succ i =>
   obtain⟨d',q,z⟩:=key i _ (by unfold D3 at e;simpa using e);cases z;cases io
 ·cases i with
  |zero =>
   cases j with
   |zero=>exact (af rfl).elim
   |succ j =>
    obtain⟨d',q,z⟩:=key j _ (by unfold D3 at e2;simpa using e2);cases z;exact o2.elim
  |succ i =>
   obtain⟨d',q,z⟩:=key i _ (by unfold D3 at e1;simpa using e1);cases z;exact o1.elim
 ·unfold start D3;simp[hl]
section
variable {P:Program}{w:World}{K:zy}{mg:Str->Option Value}{base:Heap}
theorem Ms {P0:Ds}{P':Addr->Prop}{H':Hp}{σ':St}{ρ:Aa}{t:OT}(E:Ak K P0 P' H' σ' ρ)(h:GH ρ=some t):∃c ak,ρ[0]?=some (some c)/\σ'[0]?=some (some (.ref (P0.g 0)))/\D1 K H' P' c (.ref (P0.g 0)) ak/\BQ K H' P' (.ref (P0.g 0)) t ak/\ak.Nodup/\∀a∈ak,P' a/\¬ P0 a:=by
 unfold GH at h;split at h
 ·rename_i c e;split at h
  ·rename_i t' e2;cases h;have io:Ij c=true:=by cases c<;>first|rfl|cases e2
   obtain⟨v,fp,k1,k2,k3,k4⟩:=E.ows 0 c e io;have:=E.pin 0 c 0 e (IS e2);rw[k1] at this;cases this;exact⟨c,fp,e,k1,k2,k2.toT e2,k4,k3⟩
  ·cases h
 ·cases h
theorem mZ {x qual:Str}{st:Stmt}{f:Addr}{fd:FuncData}{N ps:List Str}{k:Nat}(F:Xu K x qual st f fd)(S:Ai N ps (A3 st))(g:Aa->M Out)
 (hb:∀(B4:Value) (A:Around) (outer:List Env) (s:Shared) (H:Hp) (E:XK),BM k (A.deeper (envOfC qual (A3 st) s.heap.objs.size f B4))->Ta (V6 P w K mg base N qual (A3 st) f B4 A outer s H E) (Dt K E) (AE st) g):
 Dr P w K mg base (TR P w base) (k+1) f fd ps (Pm K ps.length λ t a5=>Eo (g (D3 N t a5))):=by
 obtain⟨oc,od,kV,doc,pm,an,B4,ct,T9,rfl,lk,br⟩:=F.ex;refine US lk br S (λ vs H Q E h=>h.1) λ A outer s H vs Q E hr h=>?_;obtain⟨hl,P',p,t,fp,rest,a5,rfl,ht,hp,nd,ho,hv,hq⟩:=h;obtain⟨tt,h1,h2⟩:=hb B4 A outer s H E hr;refine⟨tt,h1,h2 ⟨λ a=>P' a/\a∉fp,λ _=>p⟩ P' _ H _ _ (JK ht hp nd ho hv) ?_⟩;dsimp only at hq;revert hq;cases g (D3 N t a5) with
 |bad|ex x=>exact λ h=>h.elim
 |ok o =>
  have sub:∀ {P2:Addr->Prop} {H2:Hp} {σ2:St} {ρ:Aa},Ak K ⟨λ a=>P' a/\a∉fp,λ _=>p⟩ P2 H2 σ2 ρ->∀a,P2 a/\¬ (P' a/\a∉fp)->P2 a/\(P' a->a∈fp):=λ E a ha=>⟨ha.1,λ z=>Classical.byContradiction λ w=>ha.2 ⟨z,w⟩⟩;cases o with
  |ret d|CN d=>exact λ h=>h.elim
  |next ρ =>
   intro hq σ' H' P2 t2 E2;unfold Eo at hq;dsimp only at hq;split at hq
   ·rename_i t' e;obtain⟨c,ak,k1,k2,k3,k4,k5,k6⟩:=Ms E2 e;exact hq .AF H' P2 ak [] (λ a ha hn=>⟨E2.sub a ⟨ha,hn⟩,t2.2 a ⟨ha,hn⟩⟩) E2.C3 t2.1 k4 k5 (.sh .AF) zb5 (λ a ha=>by cases ha) (λ a ha=>sub E2 a (k6 a ha)) (λ a ha=>by cases ha)
   ·exact hq.elim
  |Fg r ρ =>
   intro hq v fr σ' H' P2 t2 E2 o2 b5 hf;unfold Eo at hq;dsimp only at hq;split at hq
   ·rename_i t' e;obtain⟨c,ak,k1,k2,k3,k4,k5,k6⟩:=Ms E2 e;exact hq v H' P2 ak fr (λ a ha hn=>⟨E2.sub a ⟨ha,hn⟩,t2.2 a ⟨ha,hn⟩⟩) E2.C3 t2.1 k4 k5 o2 b5 (λ a ha=>(hf a ha).2.2 0 c _ ak k1 k2 k3) (λ a ha=>sub E2 a (k6 a ha)) (λ a ha=>sub E2 a ⟨(hf a ha).1,(hf a ha).2.1⟩)
   ·exact hq.elim
  |brk ρ|cont ρ=>exact λ h=>h.elim
end
structure Pn (P:Program)(w:World)(K:zy)(mg:Str->Option Value)(base:Heap)(x:Str)(k n:Nat)(F:OT->List D->M (OT×OT)):Prop where
 ex:∃fa fd ps,Dr P w K mg base (TR P w base) k fa fd ps (Pm K n F)/\mg x=some (.ref fa)/\zah K (.ref fa)=true/\Binds K fd ps []
theorem RT {P:Program}{w:World}{K:zy}{mg:Str->Option Value}{base:Heap}{x:Str}{st:Stmt}{N ps:List Str}{k n:Nat}(T:AO K mg x st ps)(S:Ai N ps (A3 st))(g:Aa->M Out)
 (hb:∀(f:Addr) (B4:Value) (A:Around) (outer:List Env) (s:Shared) (H:Hp) (E:XK),BM k (A.deeper (envOfC x (A3 st) s.heap.objs.size f B4))->Ta (V6 P w K mg base N x (A3 st) f B4 A outer s H E) (Dt K E) (AE st) g) (hn:ps.length=n:=by rfl):
 Pn P w K mg base x (k+1) n (λ t a5=>Eo (g (D3 N t a5))):=by
 obtain⟨f,fd,F,hm,hB⟩:=T.ex;subst hn;exact⟨⟨f,fd,ps,mZ F S g (hb f),hm,F.kp,hB⟩⟩
section
variable {X:Cx}{WX:Str->Hp->Prop}{c:Bool}{P0:Ds}{P:Addr->Prop}{H:Hp}{σ:St}{ρ:Aa}{a b e:Expr}{f g:Aa->M D}{fn:Aa->M OT}{fp:Aa->M (List Nat)}{pos:Pos}{i:Nat}{es:List Expr}{fs:Aa->M (List D)}
theorem Ak.sC {K:zy}{P':Addr->Prop}{H':Hp}{π:List Nat}{v1 v2:V}{t1 u r:OT}{a9 fu fr:List Addr}(E:Ak K P0 P H σ ρ)(pl:Bp K P H σ ρ i π v1 t1)(o:BQ K H P v1 t1 a9)(hs:∀a,P a->a∉a9->P' a/\H' a=H a)(ht:∀a,P' a->E6 H' a)(sm:Ac (del H P) (del H' P'))
 (o':BQ K H' P' v1 u fu) (nd:fu.Nodup) (hf:∀a∈fu,P' a/\(P a->a∈a9)) (or:BQ K H' P' v2 r fr) (zp:fr.Nodup) (hr:∀a∈fr,P' a/\(P a->a∈a9)) (dj:∀a∈fr,a∉fu):
 ∃c p t,ρ[i]?=some (some c)/\treeOf c=some (p,t)/\Ak K P0 P' H' σ (ρ.set i (some (toCl p (EW t π u))))/\Tr P0 P H P' H'/\
  ∀a∈fr,P' a/\¬ P0 a/\∀(j:Nat) c' v fq,(ρ.set i (some (toCl p (EW t π u))))[j]?=some (some c')->σ[j]?=some (some v)->D1 K H' P' c' v fq->a∉fq:=by
 obtain⟨v0,c,p,t,h1,h2,h3,h4⟩:=pl.ex;have io:Ij c=true:=by cases c<;>first|rfl|cases h2
 obtain⟨w,fp,k1,k2,k3,k4⟩:=E.ows i c h1 io;rw[h3] at k1;cases k1;have ot:=k2.toT h2;obtain⟨fz,oz,kz,_⟩:=ot.part h4;have:=oz.Cy o;subst this;obtain⟨ak,q1,q2,q3⟩:=ot.put sm h4 o o' (λ a ha hn=>(hs a (k3 a ha).1 hn).2) k4 nd (λ a ha hb=>(hf a ha).2 (k3 a hb).1);have wp:∀(j:Nat) c' v' fq,i≠j->ρ[j]?=some (some c')->σ[j]?=some (some v')->D1 K H P c' v' fq->∀a∈fq,P a/\a∉fp:=λ j c' v' fq af g1 g2 g3 a ha=>by
  have j8:Ij c'=true:=by cases c'<;>first|rfl|exact g3.elim
  obtain⟨w',qr,m1,m2,m3,m4⟩:=E.ows j c' g1 j8;rw[g2] at m1;cases m1;have:=m2.Cy g3;subst this;exact⟨(m3 a ha).1,E.apart j i c' c v' v0 qr fp g1 h1 g2 h3 g3 k2 (zao af) a ha⟩
 have key:=E.rM (P':=P') (H':=H') (i:=i) (v:=v0) (c:=toCl p (EW t π u)) (fp:=ak) (λ a ha=>(hs a (E.sub a ha) λ z=>(k3 a (kz a z)).2 ha).1) ht sm (λ j c' v' fq af g1 g2 g3 a ha=>?_) (D1.toCl q1) (λ a ha=>?_) q2 (λ n z=>by rw[IR] at z;subst z;have:=E.pin i c n h1 (IS h2);rw[h3] at this;cases this;rfl)
 ·rw[Nc h3] at key;refine⟨c,p,t,h1,h2,key,⟨sm,λ a ha=>(hs a (E.sub a ha) λ z=>(k3 a (kz a z)).2 ha).2⟩,λ a ha=>⟨(hr a ha).1,λ z=>(k3 a (kz a ((hr a ha).2 (E.sub a z)))).2 z,λ j c' v fq g1 g2 g3 hb=>?_⟩⟩;rcases get_set g1 with ⟨rfl,hl,z⟩|⟨af,g1⟩
  ·cases z;rw[h3] at g2;cases g2;rw[g3.Cy (D1.toCl q1)] at hb;rcases q3 a hb with y|y
   ·exact dj a ha y
   ·exact y.2 ((hr a ha).2 (k3 a y.1).1)
  ·have j8:Ij c'=true:=by cases c'<;>first|rfl|exact g3.elim
   obtain⟨w',qr,m1,m2,m3,m4⟩:=E.ows j c' g1 j8;rw[g2] at m1;cases m1;have o2:=wp j c' v qr af g1 g2 m2;have mv:=m2.move sm λ b aG=>(hs b (o2 b aG).1 λ z=>(o2 b aG).2 (kz b z)).2;rw[g3.Cy mv] at hb;exact (o2 a hb).2 (kz a ((hr a ha).2 (o2 a hb).1))
 ·have o2:=wp j c' v' fq af g1 g2 g3 a ha;have hk:=hs a o2.1 λ z=>o2.2 (kz a z);refine⟨hk.2,λ z=>?_,hk.1⟩;rcases q3 a z with y|y
  ·exact o2.2 (kz a ((hf a y).2 o2.1))
  ·exact o2.2 y.1
 ·rcases q3 a ha with y|y
  ·exact⟨(hf a y).1,λ z=>(k3 a (kz a ((hf a y).2 (E.sub a z)))).2 z⟩
  ·exact⟨(hs a (k3 a y.1).1 y.2).1,(k3 a y.1).2⟩
end
noncomputable def IU (i:Nat)(ρ:Aa)(π:List Nat)(u:OT):M Out:=match ρ[i]? with
 |some (some c)=>(match treeOf c with|some (p,t)=>.ok (.next (ρ.set i (some (toCl p (EW t π u)))))|none=>.bad)
 |_=>.bad
noncomputable def LC (i:Nat)(ρ:Aa)(π:List Nat):M (List OT):=match Va i ρ π with | some (.lst ts)=>.ok ts | _=>.bad
theorem JL {i:Nat}{ρ:Aa}{π:List Nat}{u:OT}{c:Cl}{p:Option Nat}{t:OT}(h:ρ[i]?=some (some c))(ht:treeOf c=some (p,t)):IU i ρ π u=.ok (.next (ρ.set i (some (toCl p (EW t π u))))):=by
 unfold IU;simp only[h,ht]
section
variable {X:Cx}{WX:Str->Hp->Prop}{c:Bool}{P0:Ds}{P:Addr->Prop}{H:Hp}{σ:St}{ρ:Aa}{a b e:Expr}{f g:Aa->M D}{fn:Aa->M OT}{fp:Aa->M (List Nat)}{pos:Pos}{i:Nat}{es:List Expr}{fs:Aa->M (List D)}
noncomputable def fH {α:Type}(o:Option α):M α:=match o with | some x=>.ok x | none=>.bad
noncomputable def Tc (i:Nat)(ρ:Aa)(π:List Nat):M (List D):=match Va i ρ π with | some (.lst ts)=>(match Em ts with | some ds=>.ok ds | none=>.bad) | _=>.bad
theorem Bp.shl {K:zy}{π:List Nat}{v:V}{t1:OT}{ds:List D}(pl:Bp K P H σ ρ i π v t1)(E:Ak K P0 P H σ ρ)(h:Tc i ρ π=.ok ds):t1=.lst (ds.map .sh)/\∃l xs,v=.ref l/\H l=some (.lst xs)/\Ag K (del H P) xs ds:=by
 unfold Tc at h;rw[pl.at] at h;split at h
 ·rename_i wq e;split at h
  ·rename_i j0 e';cases e;cases h;have z:=D7 e';subst z;obtain⟨a9,o1,hp,nd⟩:=pl.own E;cases o1 with
   |lst hh hr=>exact⟨rfl,_,_,rfl,hh,hr.jT.2⟩
  ·cases h
 ·cases h
theorem YQ {π:List Nat}{x:Str}(h:Tc i ρ π=.ex x):False:=by
 unfold Tc at h;split at h
 ·split at h<;>cases h
 ·cases h
theorem Ak.sD {K:zy}{π:List Nat}{l:Addr}{xs ys:List V}{ds es:List D}(E:Ak K P0 P H σ ρ)(pl:Bp K P H σ ρ i π (.ref l) (.lst (ds.map .sh)))(hH:H l=some (.lst xs))(o:Ag K (del H P) xs ds)(o':Ag K (del H P) ys es):
 ∃c p t,ρ[i]?=some (some c)/\treeOf c=some (p,t)/\Ak K P0 P (upd H l (.lst ys)) σ (ρ.set i (some (toCl p (EW t π (.lst (es.map .sh))))))/\Tr P0 P H P (upd H l (.lst ys)):=
 E.vL pl hH o.ows o'.ows zb5 (λ z=>by cases z) (λ a ha=>by cases ha)
noncomputable def fI (t:OT):M (List D):=match t with | .lst us=>fH (Em us) | _=>.bad
theorem YR (ha:DP X WX a i fp)(he:DN X WX e fn){apos ae:Pos}(hs:starEach [e] X.env=[(false,eval e X.env)]:=by rfl)
 (bW:swapsWith (.Call (.Attribute a "extend" apos) [e] [] ae) none pos.line X.env=pure false:=by rfl)
 (ay:attributeBase a "extend" X.env (eval a X.env)=eval a X.env:=by rfl)
 (bi:((backTo ae (starEach [e] X.env)).all (λ x => !x.1)&&(backToKw ae (keywordEach [] X.env)).all (λ x=>x.1.isSome)&&decide (([e]:List Expr).length+([]:List Keyword).length+(if ([]:List Keyword).isEmpty then 0 else 1)<30))=true:=by rfl)
 (az:(apos.endLine==ae.line)=true:=by rfl) (ar:(backTo ae (starEach [] X.env)).any (·.1)=false:=by rfl):
 DS X WX (.Expr (.Call (.Attribute a "extend" apos) [e] [] ae) pos) (λ ρ=>(fp ρ).bind λ π=>(Tc i ρ π).bind λ ds=>((fn ρ).bind fI).bind λ es=>if ds.length+es.length<=1000 then IU i ρ π (.lst ((ds++es).map .sh)) else .bad):=by
 obtain⟨ta,a1,a2⟩:=ha;obtain⟨te,e1,e2⟩:=he;refine⟨_,Jp (UX PySem.F.plainAttrs_list PySem.F.slot_list_extend PySem.F.type_list_extend Wf a1 (Bt e1 CO hs) ay bi az hs ar) bW,λ P0 P σ H Z ρ E h=>?_⟩;dsimp only at h;refine a2 P0 P σ H _ ρ E ?_;cases q:fp ρ with
 |bad=>rw[q] at h;exact h
 |ex x=>rw[q] at h;exact λ H' s=>h H' P (E.tr s)
 |ok π =>
  rw[q] at h;simp only[M.A7] at h;intro v t1 H1 s1 pl;have E1:=E.same s1;cases q1:Tc i ρ π with
  |bad=>rw[q1] at h;exact h.elim
  |ex x=>exact (YQ q1).elim
  |ok ds =>
   rw[q1] at h;simp only[M.A7] at h;obtain⟨rfl,l,xs,rfl,hl,ol⟩:=pl.shl E1 q1;refine⟨.inl ⟨rfl,xs,.of hl⟩,e2 P0 P σ H1 _ ρ E1 ?_⟩;cases q2:fn ρ with
   |bad=>rw[q2] at h;exact h
   |ex y=>rw[q2] at h;exact λ H' s=>h H' P ((E.tr s1).trans (E1.tr s))
   |ok t =>
    rw[q2] at h;simp only[M.A7] at h;intro w fw H2 s2 n2 b5 o2;have sm:=BG (P:=P) s2 n2;have E2:Ak X.K P0 (PU P fw) H2 σ ρ:=E1.more s2 IQ (L4 (E1.same s2).C3 o2) sm;cases t with
    |lst us =>
     simp only[fI] at h;cases q3:Em us with
     |none=>rw[q3] at h;exact h.elim
     |some es =>
      rw[q3] at h;simp only[fH,M.A7] at h;have z:=D7 q3;subst z;cases o2 with
      |lst hb hr =>
       by_cases hz:ds.length+es.length<=1000
       ·rw[if_pos hz] at h;have he:=hr.jT.2;have j9:=ol.mono sm;have aE:=s2 _ _ hl;obtain⟨c,p,t0,g1,g2,E3,t3⟩:=E2.sD (pl.more sm s2) aE j9 (j9.append he);rw[JL g1 g2] at h;exact⟨l,_,xs,_,rfl,rfl,aE,hb,zaz (AB (by rw[ol.length,he.length];exact hz)),h _ _ _ (((E.tr s1).trans (E1.tU s2 n2)).trans t3) E3⟩
       ·rw[if_neg hz] at h;exact h.elim
    |_=>exact h.elim
end
def gX (K:zy)(WX:Str->Hp->Prop)(P0:Ds)(P:Addr->Prop)(H:Hp)(σ:St)(Q:VK):M (Aa×OT)->Prop
 | .ok (ρ,t)=>∀v fp H' P',Tr P0 P H P' H'->Ak K P0 P' H' σ ρ->BQ K H' P' v t fp->fp.Nodup->(∀a∈fp,P' a/\¬ P0 a/\∀(j:Nat) c v' fq,ρ[j]?=some (some c)->σ[j]?=some (some v')->D1 K H' P' c v' fq->a∉fq)->Q v H'
 | .ex x=>∀H' P',Tr P0 P H P' H'->WX x H'
 | .bad=>False
def DX (X:Cx)(WX:Str->Hp->Prop)(e:Expr)(f:Aa->M (Aa×OT)):Prop:=
 ∃t,PE X e t/\∀P0 P σ H Q ρ,Ak X.K P0 P H σ ρ->gX X.K WX P0 P H σ Q (f ρ)->t σ H Q
noncomputable def YS:OT->Bool
 | .sh _=>false
 |_=>true
noncomputable def RU (i:Nat)(F:OT->List D->M (OT×OT))(ρ:Aa)(π:List Nat)(a5:List D):M (Aa×OT):=match ρ[i]? with
 |some (some c)=>(match treeOf c with
  |some (p,t)=>(match L3 t π with
   |some t1=>if YS t1=true then (match F t1 a5 with | .ok (t2,r)=>.ok (ρ.set i (some (toCl p (EW t π t2))),r)|_=>.bad) else .bad
   |none=>.bad)
  |none=>.bad)
 |_=>.bad
section
variable {X:Cx}{E:XK}{WX:Str->Hp->Prop}{c:Bool}{P0:Ds}{P:Addr->Prop}{H:Hp}{σ:St}{ρ:Aa}{a b e:Expr}{f g:Aa->M D}{fn:Aa->M OT}{fx:Aa->M (Aa×OT)}{fp:Aa->M (List Nat)}{pos:Pos}{i:Nat}{es:List Expr}{fs:Aa->M (List D)}
theorem YT {F:OT->List D->M (OT×OT)}{π:List Nat}{a5:List D}{c:Cl}{p:Option Nat}{t t1 t2 r:OT}(h:ρ[i]?=some (some c))(ht:treeOf c=some (p,t))(hs:L3 t π=some t1)(hN:YS t1=true)(hF:F t1 a5=.ok (t2,r)):RU i F ρ π a5=.ok (ρ.set i (some (toCl p (EW t π t2))),r):=by
 unfold RU;simp only[h,ht,hs,hN,if_true,hF]
theorem YU {k n:Nat}{F:OT->List D->M (OT×OT)}{x:Str}{p:Pos}(xo:XCall X E)(G:Pn X.prog X.w X.K X.mg X.base x k n F)(hr:BM k X.A)(hg:Gl X x)(hp:DP X (Dt X.K E) a i fp)(ha:DA X (Dt X.K E) true es fs)(hn:es.length+1=n)
 (ba:(x==("__debug__" : Str))=false:=by decide) (he:starEach (a::es) X.env=(false,eval a X.env)::starEach es X.env:=by rfl) (hpl:(backTo pos (starEach es X.env)).any (·.1)=false:=by rfl):
 DX X (Dt X.K E) (.Call (.Name x p) (a::es) [] pos) (λ ρ=>(fp ρ).bind λ π=>(fs ρ).bind λ a5=>RU i F ρ π a5):=by
 obtain⟨fa,fd,ps,hF,hm,hk,hb⟩:=G.ex;obtain⟨tp,p1,p2⟩:=hp;obtain⟨ta,a1,a2,a3⟩:=ha;refine⟨_,UR hF hr hg hm hk hb .nil xo.call (Bt p1 a1 he) ba he hpl,λ P0 P σ H Q ρ Ev h=>?_⟩;dsimp only at h;refine p2 P0 P σ H _ ρ Ev ?_;cases q:fp ρ with
 |bad=>rw[q] at h;exact h
 |ex x=>rw[q] at h;exact λ H' s=>h H' P (Ev.tr s)
 |ok π =>
  rw[q] at h;simp only[M.A7] at h;intro v t1 H1 s1 pl;have E1:=Ev.same s1;refine a2 P0 P σ H1 _ ρ E1 ?_;cases q2:fs ρ with
  |bad=>rw[q2] at h;exact h
  |ex y=>rw[q2] at h;exact λ H' s=>h H' P ((Ev.tr s1).trans (E1.tr s))
  |ok a5 =>
   rw[q2] at h;simp only[M.A7] at h;intro vs H2 s2 be;have E2:=E1.same s2;have dl:=pl.same s2;show Pm X.K n F ((v::vs)++[]) H2 Q E;rw[zal];obtain⟨v0,c,pp,t,g1,g2,g3,g4⟩:=dl.ex;unfold RU at h;simp only[g1,g2,g4.sub] at h;by_cases hx:YS t1=true
   ·rw[if_pos hx] at h;obtain⟨a9,o1,yb,gx⟩:=dl.own E2;have cf:∃l,v=.ref l:=by
     cases o1 with
     |sh hv=>exact absurd hx (by simp[YS])
     |lst _ _|tup _ _|dK _ _|dT _ _|ins _ _ _=>exact⟨_,rfl⟩
    obtain⟨l,rfl⟩:=cf;refine⟨by rw[zO,be.length,a3 ρ a5 q2];exact hn,P,l,t1,a9,vs,a5,rfl,E2.C3,λ b hb=>(yb b hb).1,gx,o1,be,?_⟩;cases qF:F t1 a5 with
    |bad|ex x=>rw[qF] at h;exact h.elim
    |ok z =>
    obtain⟨t2,r⟩:=z;rw[qF] at h;intro w H' P' fu fr k1 k2 k3 k4 k5 k6 k7 k8 k9 wr;obtain⟨c',p',t',m1,m2,m3,m4,m5⟩:=E2.sC dl o1 k1 k2 k3 k4 k5 k9 k6 k7 wr k8;rw[g1] at m1;cases m1;rw[g2] at m2;cases m2;exact h w fr H' P' (((Ev.tr s1).trans (E1.tr s2)).trans m4) m3 k6 k7 m5
   ·rw[if_neg hx] at h;exact h.elim
theorem Nr (he:DX X WX e fx)(hs:swapsWith e none pos.line X.env=pure false:=by rfl):DS X WX (.Expr e pos) (λ ρ=>(fx ρ).bind λ z=>.ok (.next z.1)):=by
 obtain⟨te,e1,e2⟩:=he;refine⟨_,Jp e1 hs,λ P0 P σ H Z ρ E h=>?_⟩;dsimp only at h;refine e2 P0 P σ H _ ρ E ?_;cases q:fx ρ with
 |bad|ex x=>rw[q] at h;exact h
 |ok z=>rw[q] at h;exact λ v fp H' P' t E' o nd hf=>h σ H' P' t E'
end
noncomputable def G3 (i:Nat)(ρ:Aa)(π:List Nat):M (Bool×List D×List D):=match Va i ρ π with
 |some (.Bd b ks ts)=>(match Em ts with|some vs=>.ok (b,ks,vs)|none=>.bad)
 |_=>.bad
noncomputable def putD (ks vs:List D)(k v:D):List D×List D:=if M3 ks k=true then (ks,IT ks vs k v) else (ks++[k],vs++[v])
section
variable {X:Cx}{E:XK}{WX:Str->Hp->Prop}{c:Bool}{P0:Ds}{P:Addr->Prop}{H:Hp}{σ:St}{ρ:Aa}{a b e:Expr}{f g:Aa->M D}{fn:Aa->M OT}{fx:Aa->M (Aa×OT)}{fp:Aa->M (List Nat)}{pos:Pos}{i:Nat}{es:List Expr}{fs:Aa->M (List D)}
theorem Bp.Bd {K:zy}{π:List Nat}{v:V}{t1:OT}{bl:Bool}{ks vs:List D}(pl:Bp K P H σ ρ i π v t1)(E:Ak K P0 P H σ ρ)(h:G3 i ρ π=.ok (bl,ks,vs)):t1=.Bd bl ks (vs.map .sh)/\∃l xs,v=.ref l/\P l/\Ag K (del H P) xs vs/\BQ K H P (.ref l) (.Bd bl ks (vs.map .sh)) [l]/\
 ((bl=false/\∃kvs,H l=some (.dK kvs)/\ks=(kvs.map λ kv=>Cp kv.1)/\xs=kvs.map zb1)\/(bl=true/\∃kvs,H l=some (.dT kvs)/\ks=(kvs.map λ kv=>.tup (kv.1.map Cp))/\xs=kvs.map zb1)):=by
 unfold G3 at h;rw[pl.at] at h;split at h
 ·rename_i b' xZ wq e;split at h
  ·rename_i aJ e';cases e;cases h;have z:=D7 e';subst z;obtain⟨a9,o1,hp,nd⟩:=pl.own E;generalize ht:OT.Bd bl ks (vs.map .sh)=t at o1;cases o1 with
   |dK hh hr =>
    injection ht with h1 h2 h3
    subst h1 h2 h3;obtain⟨rfl,hs⟩:=hr.jT;exact⟨rfl,_,_,rfl,(hp _ zD).1,hs,.dK hh hr,.inl ⟨rfl,_,hh,rfl,rfl⟩⟩
   |dT hh hr =>
    injection ht with h1 h2 h3
    subst h1 h2 h3;obtain⟨rfl,hs⟩:=hr.jT;exact⟨rfl,_,_,rfl,(hp _ zD).1,hs,.dT hh hr,.inr ⟨rfl,_,hh,rfl,rfl⟩⟩
   |_=>cases ht
  ·cases h
 ·cases h
theorem YV {π:List Nat}{x:Str}(h:G3 i ρ π=.ex x):False:=by
 unfold G3 at h;split at h
 ·split at h<;>cases h
 ·cases h
theorem Ak.nA {K:zy}{π:List Nat}{l:Addr}{t1 u:OT}{o':HO}(E:Ak K P0 P H σ ρ)(pl:Bp K P H σ ρ i π (.ref l) t1)(ot:BQ K H P (.ref l) t1 [l])(hn:∀xs,o'≠.tup xs/\∀z,o'≠.Fp z (.tup xs))(new:Ac (del H P) (del (upd H l o') P)->BQ K (upd H l o') P (.ref l) u [l]):
 ∃c p t,ρ[i]?=some (some c)/\treeOf c=some (p,t)/\Ak K P0 P (upd H l o') σ (ρ.set i (some (toCl p (EW t π u))))/\Tr P0 P H P (upd H l o'):=by
 obtain⟨a9,o1,hp,_⟩:=pl.own E;have:=o1.Cy ot;subst this;have pP:P l:=(hp l zD).1;have sd:del (upd H l o') P=del H P:=by
  funext b;by_cases hb:P b
  ·rw[Eh hb,Eh hb]
  ·rw[Az hb,Az hb,Ab (λ z=>hb (by rw[z];exact pP))]
 have sm:Ac (del H P) (del (upd H l o') P):=by rw[sd];exact Ac.refl _
 refine E.rZ pl ot (λ _ h=>h) (λ a h=>?_) sm (λ a ha hn=>Ab λ z=>hn (by rw[z];exact zD)) (new sm) (by simp) (λ a ha=>.inl ha);by_cases ha:a=l
 ·subst ha;exact⟨_,Aj,hn⟩
 ·unfold E6;rw[Ab ha];exact E.C3 a h
theorem Mt {n:Nat}(hu:X.A.units+n<cLine)(ha:DP X WX a i fp)(hk:DE X WX true b g)(hv:DE X WX true e f){pos':Pos}(hs:swapsWith e (some (.Subscript a b pos')) pos.line X.env=pure false:=by rfl)(hn:1<=n:=by decide):
 DS X WX (.Assign [.Subscript a b pos'] e pos) (λ ρ=>(f ρ).bind λ v=>(fp ρ).bind λ π=>(g ρ).bind λ k=>(G3 i ρ π).bind λ z=>if keyOk z.1 k=true/\z.2.1.length<1000 then IU i ρ π (.Bd z.1 (putD z.2.1 z.2.2 k v).1 ((putD z.2.1 z.2.2 k v).2.map .sh)) else .bad):=by
 obtain⟨ta,a1,a2⟩:=ha;obtain⟨tk,k1,k2⟩:=hk;obtain⟨tv,v1,v2⟩:=hv;refine⟨_,dZ (by omega) a1 k1 v1 hs,λ P0 P σ H Z ρ E h=>?_⟩;dsimp only at h;refine v2 P0 P σ H _ ρ E ?_;cases q0:f ρ with
 |bad=>rw[q0] at h;exact h
 |ex x=>rw[q0] at h;exact λ H' s=>h H' P (E.tr s)
 |ok d =>
  rw[q0] at h;simp only[M.A7] at h;intro w H0 s0 hw;have E0:=E.same s0;refine a2 P0 P σ H0 _ ρ E0 ?_;cases q:fp ρ with
  |bad=>rw[q] at h;exact h
  |ex x=>rw[q] at h;exact λ H' s=>h H' P ((E.tr s0).trans (E0.tr s))
  |ok π =>
   rw[q] at h;simp only[M.A7] at h;intro v t1 H1 s1 pl;have E1:=E0.same s1;refine k2 P0 P σ H1 _ ρ E1 ?_;cases q2:g ρ with
   |bad=>rw[q2] at h;exact h
   |ex y=>rw[q2] at h;exact λ H' s=>h H' P (((E.tr s0).trans (E0.tr s1)).trans (E1.tr s))
   |ok k =>
    rw[q2] at h;simp only[M.A7] at h;intro y H2 s2 hy;have E2:=E1.same s2;have dl:=pl.same s2;have m6:=(hw.mono s1.del).mono s2.del;have wt:=((E.tr s0).trans (E0.tr s1)).trans (E1.tr s2);cases q3:G3 i ρ π with
    |bad=>rw[q3] at h;exact h.elim
    |ex x=>exact (YV q3).elim
    |ok z =>
     obtain⟨bb,ks,vs⟩:=z;rw[q3] at h;simp only[M.A7] at h;by_cases hc:keyOk bb k=true/\ks.length<1000
     ·rw[if_pos hc] at h;obtain⟨rfl,l,xs,rfl,hP,bZ,ot,kc⟩:=dl.Bd E2 q3;have hK:=En hc.1;rcases kc with ⟨rfl,kvs,hH,rfl,rfl⟩|⟨rfl,kvs,hH,rfl,rfl⟩
      ·cases hK with
       |k κ =>
        have ey:=hy.fE;refine⟨l,_,rfl,.inl ⟨kvs,κ,hH,ey,AB (by have:=hc.2;rw[zC] at this;omega),rfl⟩,?_⟩;have aS:∃aJ,(putD (kvs.map λ kv=>Cp kv.1) vs (Cp κ) d)=((putK kvs κ w).map (λ kv=>Cp kv.1),aJ)/\Ag X.K (del H2 P) ((putK kvs κ w).map zb1) aJ:=by
         unfold putD putK;rw[JH GC];by_cases hh:(kvs.any λ kv=>decide (kv.1=κ))=true
         ·rw[if_pos hh,if_pos hh];refine⟨_,by rw[GF (fk:=Cp) GC],?_⟩;rw[<-GD (fk:=Cp) GC];exact GG m6 bZ
         ·rw[if_neg hh,if_neg hh];refine⟨_,by rw[zag];rfl,?_⟩;rw[zag];exact bZ.snoc m6
        obtain⟨aJ,e1,e2⟩:=aS;obtain⟨c,p,t0,g1,g2,E3,t3⟩:=E2.nA (o':=.dK (putK kvs κ w)) (u:=.Bd false ((putK kvs κ w).map λ kv=>Cp kv.1) (aJ.map .sh)) dl ot (λ _=>⟨λ z=>(by cases z),λ _ z=>by cases z⟩) (λ mv=>.dK Aj (e2.mono mv).ows);rw[e1,JL g1 g2] at h;exact h _ _ _ (wt.trans t3) E3
      ·cases hK with
       |t κ =>
        cases hy with
        |tup ht aE =>
         have ey:=Ag.keys κ aE;subst ey;refine⟨l,_,rfl,.inr ⟨kvs,κ,_,hH,rfl,(Am ht).2,AB (by have:=hc.2;rw[zC] at this;omega),rfl⟩,?_⟩;have hf:∀a b:List Key,Ax (.tup (a.map Cp)) (.tup (b.map Cp))=decide (a=b):=λ a b=>by simp only[Ax];exact Mq a b
         have aS:∃aJ,(putD (kvs.map λ kv=>.tup (kv.1.map Cp)) vs (.tup (κ.map Cp)) d)=((putK kvs κ w).map (λ kv=>.tup (kv.1.map Cp)),aJ)/\Ag X.K (del H2 P) ((putK kvs κ w).map zb1) aJ:=by
          unfold putD putK;rw[JH (fk:=λ κ:List Key=>D.tup (κ.map Cp)) hf];by_cases hh:(kvs.any λ kv=>decide (kv.1=κ))=true
          ·rw[if_pos hh,if_pos hh];refine⟨_,by rw[GF (fk:=λ κ:List Key=>D.tup (κ.map Cp)) hf],?_⟩;rw[<-GD (fk:=λ κ:List Key=>D.tup (κ.map Cp)) hf];exact GG m6 bZ
          ·rw[if_neg hh,if_neg hh];refine⟨_,by rw[zag];rfl,?_⟩;rw[zag];exact bZ.snoc m6
         obtain⟨aJ,e1,e2⟩:=aS;obtain⟨c,p,t0,g1,g2,E3,t3⟩:=E2.nA (o':=.dT (putK kvs κ w)) (u:=.Bd true ((putK kvs κ w).map λ kv=>.tup (kv.1.map Cp)) (aJ.map .sh)) dl ot (λ _=>⟨λ z=>(by cases z),λ _ z=>by cases z⟩) (λ mv=>.dT Aj (e2.mono mv).ows);rw[e1,JL g1 g2] at h;exact h _ _ _ (wt.trans t3) E3
     ·rw[if_neg hc] at h;exact h.elim
theorem RV (tk:Bool):DN X WX (.Dict [] [] pos) (λ _=>.ok (.Bd tk [] [])):=by
 cases tk with
 |false =>
  refine⟨_,Yc,λ P0 P σ H Q ρ E h p hp=>?_⟩;exact h _ [p] _ (AK hp _) (λ a ha=>by rw[zS.mp ha];exact hp) (by simp) (.dK (kvs:=[]) Aj .nil)
 |true =>
  refine⟨_,Yd,λ P0 P σ H Q ρ E h p hp=>?_⟩;exact h _ [p] _ (AK hp _) (λ a ha=>by rw[zS.mp ha];exact hp) (by simp) (.dT (kvs:=[]) Aj .nil)
end
theorem IV {α:Type}(o:Option (α×List Int))(b:α×List Int):BK o b≠none:=by
 unfold BK;split
 ·intro z;cases z
 ·split<;>(intro z;cases z)
theorem Nt {α:Type}:∀ {bs:List (α×List Int)},bs≠[]->B0 bs≠none:=by
 intro bs h;unfold B0
 suffices z:∀(bs:List (α×List Int)) (o:Option (α×List Int)),o≠none->bs.foldl BK o≠none by
  cases bs with
  |nil=>exact (h rfl).elim
  |cons b r=>rw[zac];exact z r _ (IV _ _)
 intro bs;induction bs with
 |nil=>intro o h;exact h
 |cons b r ih=>intro o h;rw[zac];exact ih _ (IV _ _)
section
variable {prog:Program}{w:World}{A:Around}{R:Result->Shared->Prop}
theorem WJ (bs:List (Addr×List Int))(qt:bs≠[])(tv:Addr->Array Value)(l I S:Addr)(hh:A.handled=none)(hu:A.in1.units<cLine)(dh:S≠I)(di:l≠I)(jy:l≠S)(ge:∀b∈bs,b.1≠I/\b.1≠S)
 (hk:∀b∈bs,IntsAre (tv b.1).toList b.2):∀(k j:Nat) (s:Shared) (c:Nat),bs.length-j=k->j<=bs.length->s.heap.IsListIter I l j->s.heap.IsList l (bs.map λ b=>zaq b.1).toArray->(∀b∈bs,IsTup s.heap b.1 (tv b.1))->
  s.heap.get? S=some {cls:=.type "list",dict:=none,data:=.seq (Dp (bs.take j)) c,slots:=#[]} ->
  (∀h' tk,(∀b o,b≠I->b≠S->s.heap.get? b=some o->h'.get? b=some o)->R (.ok (.ret (match B0 bs with|none=>.none|some b=>.ref b.1))) {s with heap:=h',toks:=tk})->
  codeAny (model prog w) A (.builtin "min.loop" ⟨[.ref I,.none,.ref S],[]⟩) R s:=by
 have aA:(toString "min" ++ toString ".loop" : String) = "min.loop" := by decide
 intro k;induction k with
 |zero =>
  intro j s c hr hj hit hl ht hS hR;have bX:j=bs.length:=by omega
  subst bX;rw[zb6] at hS;refine codeAny_builtin PySem.F.entry_min_loop ?_;rw[zb8 zaj _];show wpAny _ A.in1 (seqItems? (.ref S) >>= _) _ _ s;refine wpAny_bind (wpAny_seqItems hS rfl ?_);show wpAny _ A.in1 (tryCatch (pyNext (.ref I)) _ >>= _) _ _ s;refine wpAny_bind (wpAny_tryCatch (wpAny_pyNext_list_end (A:=A.in1) hh hit hl (by simp) λ h' eb=>?_));have aH:h'.get? S=_:=eb S _ dh hS;unfold Dp at aH;cases hb:B0 bs with
  |none=>exact (Nt qt hb).elim
  |some b =>
   rw[hb] at aH;unfold Dp;rw[hb];show wpAny _ A.in1 (updateSeq S (λ _=>#[]) >>= _) _ _ _;refine wpAny_bind ?_;refine wpAny_updateSeq aH rfl (wpAny_bind (wpAny_letGo (wpAny_pure ?_)));have q:=hR (h'.update S (zbz λ _=>#[])) s.toks λ b o h1 h2 e=>(zc8 _ _ (zao h2)).trans (eb b o h1 e);rw[hb] at q;exact q
 |succ k ih =>
  intro j s c hr hj hit hl ht hS hR;have aj:j<bs.length:=by omega
  have ej:bs.take (j+1)=bs.take j++[bs[j]]:=by rw[zb7,zJ aj];rfl
  have mj:bs[j]∈bs:=List.getElem_mem aj;refine codeAny_builtin PySem.F.entry_min_loop ?_;rw[zb8 zaj _];show wpAny _ A.in1 (seqItems? (.ref S) >>= _) _ _ s;refine wpAny_bind (wpAny_seqItems hS rfl ?_);show wpAny _ A.in1 (tryCatch (pyNext (.ref I)) _ >>= _) _ _ s;refine wpAny_bind (wpAny_tryCatch (wpAny_pyNext_list_item (A:=A.in1) hit hl (x:=.ref bs[j].1) (by simp[aj]) λ h' aX sb=>?_));have bF:zcf I s.heap h':=sb;have aH:h'.get? S=_:=(bF.2 S dh).trans hS;have bS:h'.IsList l (bs.map λ b=>zaq b.1).toArray:=hl.at λ o e=>(bF.2 l di).trans e;have cq:∀b∈bs,IsTup h' b.1 (tv b.1):=λ b hb=>by
   obtain⟨o,ho,r⟩:=ht b hb;exact⟨o,(bF.2 b.1 (ge b hb).1).trans ho,r⟩
  cases hb:B0 (bs.take j) with
  |none =>
   unfold Dp at aH ⊢;rw[hb] at aH ⊢;show wpAny _ A.in1 (updateSeq S (λ _=>#[.ref bs[j].1,.ref bs[j].1]) >>= _) _ _ _;refine wpAny_bind ?_;refine wpAny_updateSeq aH rfl ?_;rw[aA];have s1:=Heap.SameBut.update h' S (zbz λ _=>(#[.ref bs[j].1,.ref bs[j].1]:Array Value));refine wpAny_pure ⟨plainId_quiet zaj _,ih (j+1) _ (c+1) (by omega) aj (aX.at λ o e=>(s1.2 I (zao dh)).trans e) (bS.at λ o e=>(s1.2 l jy).trans e) (λ b hb=>?_) ?_ λ cr tk aY=>?_⟩
   ·obtain⟨o,ho,r⟩:=cq b hb;exact⟨o,(s1.2 b.1 (ge b hb).2).trans ho,r⟩
   ·refine (zce _ aH rfl).trans ?_;unfold Dp;rw[ej,D6,hb];rfl
   ·exact hR cr tk λ b o h1 h2 e=>aY b o h1 h2 ((s1.2 b h2).trans ((bF.2 b h1).trans e))
  |some m =>
   have mm:m∈bs:=zb9 (KR _ _ hb);unfold Dp at aH ⊢;rw[hb] at aH ⊢;show wpAny _ A.in1 (tryCatch (holding [.ref bs[j].1,.ref bs[j].1] (richCompare .Lt (.ref bs[j].1) (.ref m.1) >>= _)) _ >>= _) _ _ _;refine wpAny_bind (wpAny_tryCatch (wpAny_holding (wpAny_bind (HT.IF (cq _ mj) (cq _ mm) (hk _ mj) (hk _ mm) hu ?_))));refine wpAny_bind (wpAny_holding (wpAny_truthy_bool ?_));refine wpAny_bind (wpAny_letGo (wpAny_pure ?_));cases hc:HT.lexLt bs[j].2 m.2 with
   |true =>
    simp only[if_true];have s1:=Heap.SameBut.update h' S (zbz λ _=>(#[.ref bs[j].1,.ref bs[j].1]:Array Value));refine wpAny_bind ?_;refine wpAny_updateSeq aH rfl (wpAny_bind (wpAny_letGo ?_));rw[aA];refine wpAny_pure ⟨plainId_quiet zaj _,ih (j+1) _ c (by omega) aj (aX.at λ o e=>(s1.2 I (zao dh)).trans e) (bS.at λ o e=>(s1.2 l jy).trans e) (λ b hb=>?_) ?_ λ cr tk aY=>?_⟩
    ·obtain⟨o,ho,r⟩:=cq b hb;exact⟨o,(s1.2 b.1 (ge b hb).2).trans ho,r⟩
    ·refine (zce _ aH rfl).trans ?_;unfold Dp;rw[ej,D6,hb];simp only[hc,if_true];rfl
    ·exact hR cr tk λ b o h1 h2 e=>aY b o h1 h2 ((s1.2 b h2).trans ((bF.2 b h1).trans e))
   |false =>
    simp only[za8,if_false];refine wpAny_bind (wpAny_letGo ?_);rw[aA];refine wpAny_pure ⟨plainId_quiet zaj _,ih (j+1) _ c (by omega) aj aX bS cq ?_ λ cr tk aY=>?_⟩
    ·refine aH.trans ?_;unfold Dp;rw[ej,D6,hb];simp only[hc,za8,if_false]
    ·exact hR cr tk λ b o h1 h2 e=>aY b o h1 h2 ((bF.2 b h1).trans e)
theorem Qq {E:Value->Shared->Prop}{s:Shared}{Q:Value->Shared->Prop}(bs:List (Addr×List Int))(qt:bs≠[])(tv:Addr->Array Value)(l:Addr)(hh:A.handled=none)(hu:A.in1.units<cLine)
 (hl:s.heap.IsList l (bs.map λ b=>zaq b.1).toArray) (ht:∀b∈bs,IsTup s.heap b.1 (tv b.1)) (hk:∀b∈bs,IntsAre (tv b.1).toList b.2)
 (hQ:∀h' tk,(∀b o,s.heap.get? b=some o->h'.get? b=some o)->Q (match B0 bs with|none=>.none|some b=>.ref b.1) {s with heap:=h',toks:=tk}):
 wpAny (model prog w) A (call (.builtin "min") [.ref l]) Q E s:=by
 have aA:(toString "min" ++ toString ".loop" : String) = "min.loop" := by decide
 obtain⟨ol,gf,_⟩:=id hl;have xy:l<s.heap.objs.size:=zT gf;refine kmk_tree PySem.F.kind_min PySem.F.plain_min PySem.F.entry_min (by unfold argsOk;kernel_rfl) ?_;show wpAny _ A.in1 (zbx "min" ["key","default"] 0 ⟨[],[]⟩ >>= _) _ _ s;refine wpAny_bind (wpAny_of_eq (show zbx "min" ["key","default"] 0 ⟨[],[]⟩=pure [none,none] from rfl) ?_);refine wpAny_bind (wpAny_pure ?_);refine wpAny_bind (wpAny_pyIter_list hl ?_);refine wpAny_bind (wpAny_newList ?_ (zak _));rw[aA];have hS:(s.heap.push {cls:=.type "list_iterator",data:=.fields #[.ref l,.int 0 0]}).objs.size=s.heap.objs.size+1:=Heap.size_push ..;have old:∀b o,s.heap.get? b=some o->b≠s.heap.objs.size/\b≠(s.heap.push {cls:=.type "list_iterator",data:=.fields #[.ref l,.int 0 0]}).objs.size:=λ b o e=>⟨zX (zT e),by rw[hS];exact zX (Nat.lt_succ_of_lt (zT e))⟩;have grow:∀b o,s.heap.get? b=some o->((s.heap.push {cls:=.type "list_iterator",data:=.fields #[.ref l,.int 0 0]}).push {cls:=.type "list",data:=.seq #[]}).get? b=some o:=λ b o e=>zI _ (zI _ e);refine wpAny_pure ⟨plainId_quiet zaj _,?_⟩;refine WJ bs qt tv l s.heap.objs.size (s.heap.push {cls:=.type "list_iterator",data:=.fields #[.ref l,.int 0 0]}).objs.size hh hu (by rw[hS];exact Nat.succ_ne_self _) (old l ol gf).1 (old l ol gf).2 (λ b hb=>?_) hk _ 0 _ 0 rfl (zak _) ?_ ?_ (λ b hb=>?_) ?_ ?_
 ·obtain⟨o,ho,_⟩:=ht b hb;exact old b.1 o ho
 ·exact⟨_,zI _ (zZ _ rfl),rfl,rfl⟩
 ·exact hl.at λ o e=>grow l o e
 ·obtain⟨o,ho,r⟩:=ht b hb;exact⟨o,grow b.1 o ho,r⟩
 ·exact zZ _ rfl
 ·intro h' tk gh;exact hQ h' tk λ b o e=>gh b o (old b o e).1 (old b o e).2 (grow b o e)
end
section
variable {X:Cx}{WX:Str->Hp->Prop}{c:Bool}{e:Expr}{f:Aa->M D}{pos:Pos}
def jV (K:zy):List V->Hp->VK->Prop:=λ xs H Q=>∃(a:Addr) (bs:List (Addr×List Int)) (b:Addr×List Int),xs=[.ref a]/\DF K H a (bs.map λ b=>V.ref b.1)/\(∀b∈bs,EL K H b.1 (b.2.map V.int))/\B0 bs=some b/\Q (.ref b.1) H
theorem WK (hc:X.calm=true)(hu:X.A.units+1<cLine):G0 X (.builtin "min") (jV X.K):=by
 intro pins s σ H xs us Q I r h;obtain⟨a,bs,b0,rfl,hl,hb,he,q⟩:=h;obtain⟨ua,rfl,ra⟩:=r.one;cases ra;obtain⟨aa,rv,pl,hz⟩:=I.list hl;have ei:=KS rv;subst ei;have tv:∀a:Addr,∃t:Array Value,∀b∈bs,b.1=a->IsTup s.heap a t/\IntsAre t.toList b.2:=λ a=>by
  by_cases cu:∃b∈bs,b.1=a
  ·obtain⟨b,cu,rfl⟩:=cu;obtain⟨ts,rt,pt,_⟩:=I.tuple (hb b cu);refine⟨ts.toArray,λ b' aG e=>⟨pt,?_⟩⟩;have q2:=hb b' aG;rw[e] at q2;have e2:=I.Fe q2 (hb b cu);rw[<-e2] at rt;simpa using intsAre_of rt
  ·exact⟨#[],λ b aG e=>absurd ⟨b,aG,e⟩ cu⟩
 have af:bs≠[]:=λ z=>by subst z;cases he
 refine Qq bs af (λ b=>zH (tv b)) a (I.ok.hd hc) hu pl.isList (λ b aG=>(zB (tv b.1) b aG rfl).1) (λ b aG=>(zB (tv b.1) b aG rfl).2) λ h' tk hk=>?_;rw[he];exact⟨.ref b0.1,H,I.kept (t':=tk) hk,rfl,q⟩
noncomputable def Vc (ds:List D):M D:=match ds with
 |[.lst xs]=>(match Gz xs with|some ks=>(match B0 ks with|some k=>.ok k.1|none=>.bad)|none=>.bad)
 |_=>.bad
theorem fJ:Lz X.K WX (jV X.K) Vc:=by
 intro P H ds vs Q ht hl h;unfold Vc at h;split at h
 ·rename_i xs;obtain⟨v,rfl,hv⟩:=hl.one;split at h
  ·rename_i ks e1;cases hv with
   |lst hs hh =>
    obtain⟨bs,rfl,h2,h3⟩:=IP hh e1;split at h
    ·rename_i k e2;rcases Nd h3 with ⟨q1,q2⟩|⟨b,k',q1,q2,_,q3⟩
     ·rw[q2] at e2;cases e2
     ·rw[q2] at e2;cases e2;exact⟨_,bs,b,rfl,hs.Bg,λ b hb=>(h2 b hb).Bg,q1,h _ H (Ac.refl H) q3⟩
    ·exact h.elim
  ·exact h.elim
 ·exact h.elim
theorem fK {p:Pos}{n:Nat}(hc:X.calm=true)(hu:X.A.units+n<cLine)(hg:Gl X "min")(hm:X.mg "min" = none)(ha:DE X WX c e f)(hb:bootBuiltins "min" = some (.builtin "min"):=by decide +kernel)(hs:starEach [e] X.env=[(false,eval e X.env)]:=by rfl)(hn:1<=n:=by decide):DE X WX c (.Call (.Name "min" p) [e] [] pos) (λ ρ=>((f ρ).bind λ d=>(M.ok []).bind λ ds=>.ok (d::ds)).bind Vc):=
 Jx (WK hc (by omega)) fJ hg hm hb (A2 ha A8 hs) (he:=hs)
end
section
variable {X:Cx}{E:XK}{WX:Str->Hp->Prop}{c:Bool}{P0:Ds}{P:Addr->Prop}{H:Hp}{σ:St}{ρ:Aa}{a b e:Expr}{f g:Aa->M D}{fn:Aa->M OT}{fp:Aa->M (List Nat)}{pos:Pos}{i:Nat}
def fL:V->List V->Hp->VK->Prop:=λ x vs H Q=>∃(l:Addr) (ns:List Int) (k:Int),x=.ref l/\vs=[.int k]/\H l=some (.lst (ns.map V.int))/\k∈ns/\Q .AF (upd H l (.lst ((ns.erase k).map V.int)))
theorem Po {α β:Type}(f:α->β):∀(l:List α) (k:Nat),(l.eraseIdx k).map f=(l.map f).eraseIdx k
 |[],_|_::_,0=>rfl
 |x::r,k+1=>by rw[List.eraseIdx_cons_succ,zG,zG,List.eraseIdx_cons_succ,Po f r k]
noncomputable def U2 (k:Int):Value->Bool
 | .int i _=>i==k
 |_=>false
theorem WL:tO X "list.remove" fL:=by
 intro pins s σ H x vs v us Q I rx rv h;obtain⟨l,ns,k,rfl,rfl,hH,hk,q⟩:=h;cases rx;obtain⟨u,rfl,ru⟩:=rv.one;obtain⟨tk,rfl⟩:=ru;obtain⟨z,aa,n,r,hl,e⟩:=I.Wd hH;have hlen:=r.length;have gy:ns.idxOf k<ns.length:=List.idxOf_lt_length_iff.mpr hk;have gz:∀m (hm:m<aa.toArray.size) (wu:m<ns.length),∃t,aa.toArray[m]=Value.int ns[m] t:=λ m hm wu=>by
  have hx:(ns.map V.int)[m]?=some (V.int ns[m]):=by rw[za2,zJ wu];rfl
  obtain⟨w,hw,bt⟩:=r.get hx;obtain⟨t,rfl⟩:=bt;refine⟨t,?_⟩;have:aa[m]?=some aa[m]:=zJ (by simpa using hm);rw[hw] at this;simpa using (za6 this).symm
 have hsz:aa.toArray.size=ns.length:=by rw[zL,<-hlen,zC]
 have hm:=MeetsSeq.list_remove l aa.toArray n (.int k tk) (U2 k) (λ y hy=>by
  obtain⟨m,hm,rfl⟩:=Array.mem_iff_getElem.mp hy;obtain⟨t,ht⟩:=gz m hm (by rw[<-hsz];exact hm);rw[ht];exact MeetsSeq.EqGives.int _ _ _ _) (ns.idxOf k) (by rw[hsz];exact gy) (by
  obtain⟨t,ht⟩:=gz (ns.idxOf k) (by rw[hsz];exact gy) gy;rw[ht];simp[U2]) (λ m hm aj=>by
  obtain⟨t,ht⟩:=gz m hm (by omega);rw[ht];have:=List.not_of_lt_findIdx (p:=(· == k)) (xs:=ns) (i:=m) aj;simpa [U2] using this) (by rw[zL];omega)
 refine call_meets F.slot_list_remove ⟨_,e,rfl⟩ F.entry_list_remove (F.args_list_remove_2 _ _) hm ⟨e,?_⟩;refine⟨.AF,_,I.dR (its':=aa.eraseIdx (ns.idxOf k)) hH e ?_ ?_ ?_,rfl,q⟩
 ·show aa.toArray.eraseIdxIfInBounds _=_;rw[List.eraseIdxIfInBounds_toArray]
 ·rw[show ns.erase k=ns.eraseIdx (ns.idxOf k) from List.erase_eq_eraseIdx_of_idxOf rfl,Po];exact r.eraseIdx _
 ·rw[zC];have:=List.length_erase_le (a:=k) (l:=ns);rw[zC] at z;omega
theorem WM (ha:DP X WX a i fp)(he:DE X WX true e f){apos ae:Pos}(hs:starEach [e] X.env=[(false,eval e X.env)]:=by rfl)
 (bW:swapsWith (.Call (.Attribute a "remove" apos) [e] [] ae) none pos.line X.env=pure false:=by rfl)
 (ay:attributeBase a "remove" X.env (eval a X.env)=eval a X.env:=by rfl)
 (bi:((backTo ae (starEach [e] X.env)).all (λ x => !x.1)&&(backToKw ae (keywordEach [] X.env)).all (λ x=>x.1.isSome)&&decide (([e]:List Expr).length+([]:List Keyword).length+(if ([]:List Keyword).isEmpty then 0 else 1)<30))=true:=by rfl)
 (az:(apos.endLine==ae.line)=true:=by rfl) (ar:(backTo ae (starEach [] X.env)).any (·.1)=false:=by rfl):
 DS X WX (.Expr (.Call (.Attribute a "remove" apos) [e] [] ae) pos) (λ ρ=>(fp ρ).bind λ π=>(Tc i ρ π).bind λ ds=>(f ρ).bind λ d=>match d,CG ds with
  | .int k,some ns=>if k∈ns then IU i ρ π (.lst (((ns.erase k).map D.int).map .sh)) else .bad
  |_,_=>.bad):=by
 obtain⟨ta,a1,a2⟩:=ha;obtain⟨te,e1,e2⟩:=he;refine⟨_,Jp (UX PySem.F.plainAttrs_list PySem.F.slot_list_remove PySem.F.type_list_remove WL a1 (Bt e1 CO hs) ay bi az hs ar) bW,λ P0 P σ H Z ρ E h=>?_⟩;dsimp only at h;refine a2 P0 P σ H _ ρ E ?_;cases q:fp ρ with
 |bad=>rw[q] at h;exact h
 |ex x=>rw[q] at h;exact λ H' s=>h H' P (E.tr s)
 |ok π =>
  rw[q] at h;simp only[M.A7] at h;intro v t1 H1 s1 pl;have E1:=E.same s1;cases q1:Tc i ρ π with
  |bad=>rw[q1] at h;exact h.elim
  |ex x=>exact (YQ q1).elim
  |ok ds =>
   rw[q1] at h;simp only[M.A7] at h;obtain⟨rfl,l,xs,rfl,hl,ol⟩:=pl.shl E1 q1;refine⟨.inl ⟨rfl,xs,.of hl⟩,e2 P0 P σ H1 _ ρ E1 ?_⟩;cases q2:f ρ with
   |bad=>rw[q2] at h;exact h
   |ex y=>rw[q2] at h;exact λ H' s=>h H' P ((E.tr s1).trans (E1.tr s))
   |ok d =>
    rw[q2] at h;simp only[M.A7] at h;intro w H2 s2 hw;have E2:=E1.same s2;have dl:=pl.same s2;cases d with
    |int k =>
     cases q3:CG ds with
     |none=>rw[q3] at h;exact h.elim
     |some ns =>
      rw[q3] at h;dsimp only at h;by_cases hk:k∈ns
      ·rw[if_pos hk] at h;have:=E9 q3;subst this;have j9:=ol.mono s2.del;have ex:=El j9;subst ex;have aE:=s2 _ _ hl;obtain⟨c,p,t0,g1,g2,E3,t3⟩:=E2.sD (ys:=(ns.erase k).map V.int) (es:=(ns.erase k).map D.int) dl aE j9 (Ag.ints _);rw[JL g1 g2] at h;exact⟨l,ns,k,rfl,by rw[hw.int_inv],aE,hk,h _ _ _ (((E.tr s1).trans (E1.tr s2)).trans t3) E3⟩
      ·rw[if_neg hk] at h;exact h.elim
    |_=>exact h.elim
end
section
variable {X:Cx}{WX:Str->Hp->Prop}{c:Bool}{P0:Ds}{P:Addr->Prop}{H:Hp}{σ:St}{ρ:Aa}{a b e:Expr}{f g:Aa->M D}{fn:Aa->M OT}{pos:Pos}{te:TE}
noncomputable def sE (ds:List D):M D:=match ds with
 |[.lst xs]=>(match CG xs with|some ns=>.ok (.int ns.sum)|none=>.bad)
 |_=>.bad
noncomputable def vN (te:TE):TE:=λ σ H Q=>te σ H λ x H1=>∃n:Nat,x=.int (n:Int)/\n<=1000/\∀r,H1 r=none->Q (.ref r) (upd H1 r (.lst ((zW n).map λ i:Nat=>V.int (i:Int))))
theorem WN {acc:Array Value}{n:Nat}(h:ItemsOf (λ i v=>∃t,v=Value.int (0+(i:Int)*1) t) acc n):Vals ((zW n).map λ i:Nat=>V.int (i:Int)) acc.toList:=by
 obtain⟨h1,h2⟩:=h;have key:∀(l:List Value) (k:Nat),(∀i v,l[i]?=some v->∃t,v=Value.int ((k+i:Nat):Int) t)->Vals ((List.range' k l.length).map λ i:Nat=>V.int (i:Int)) l:=by
  intro l;induction l with
  |nil=>intro k _;exact .nil
  |cons v r ih =>
   intro k hk;rw[zO,List.range'_succ,zG];refine .cons (by obtain⟨t,e⟩:=hk 0 v rfl;exact⟨t,by simpa using e⟩) (ih (k+1) λ i w hw=>?_);obtain⟨t,e⟩:=hk (i+1) w (by simpa using hw);exact⟨t,by rw[e];congr 1;omega⟩
 have:=key acc.toList 0 (λ i v hv=>by
  obtain⟨t,e⟩:=h2 i v (by rw[<-Array.getElem?_toList];exact hv);exact⟨t,by rw[e];congr 1;omega⟩)
 rw[zcu,h1] at this;rw[List.range_eq_range'];exact this
theorem Qr {p p2 bH:Pos}(hc:X.calm=true)(hg:Gl X "list")(hm:X.mg "list" = none)(jz:Gl X "range")(cL:X.mg "range" = none)(he:PE X e te)
 (hv:bootBuiltins "list" = some (.type "list"):=by decide +kernel)
 (hs:starEach [.Call (.Name "range" p2) [e] [] bH] X.env=[(false,eval (.Call (.Name "range" p2) [e] [] bH) X.env)]:=by rfl) (aZ:starEach [e] X.env=[(false,eval e X.env)]:=by rfl):
 PE X (.Call (.Name "list" p) [.Call (.Name "range" p2) [e] [] bH] [] pos) (vN te):=by
 intro pins s σ H Q I h;refine wpAny_Call_Name_kw (Ed I hg hm hv ?_);refine zay ?_ hs;rw[hs];refine zbo ?_;refine wpAny_Call_Name_kw (Ed I jz cL boot_range ?_);refine zay ?_ aZ;rw[aZ];refine zbo (Bc (he pins s σ H _ I h) λ u s1 ⟨x,H1,I1,r1,q1⟩=>?_);obtain⟨n,rfl,hn,q⟩:=q1;obtain⟨t,rfl⟩:=r1;refine zbw ?_;refine call_range_1 ?_;refine zbw ?_;have h4:((n:Nat):Int)<2^62:=by omega
 refine call_list_range (n:=n) (I1.ok.hd hc) (IsRange.new ..) (small_one (by omega) (by omega) (by omega) h4) (by rw[rangeSize_one];split<;>omega) (by omega) λ h' tk qu c' hk aH dm=>?_;have kp:∀b o,s1.heap.get? b=some o->h'.get? b=some o:=λ b o e=>hk b o (zI _ e);have rv:=WN dm;have b9:∀o:Obj,s1.heap.objs.size<=(s1.heap.push o).objs.size:=λ o=>by simp[Heap.push]
 refine⟨.ref _,_,I1.laid (t':=tk) (o:=.lst ((zW n).map λ i:Nat=>V.int (i:Int))) kp (b9 _) ⟨?_,qu.toList,c',rv,by simpa using aH⟩,rfl,q _ (I1.Au.fresh (b9 _))⟩;rw[zC,zbm];exact zaz (AB hn)
noncomputable def tV (d:D):M OT:=match d with
 | .int j=>@ite _ (0<=j/\j<=1000) (zct _) (.ok (.lst ((Cz 0 j.toNat).map .sh))) .bad
 |_=>.bad
theorem Qs {n:Nat}(h:n<=1000):tV (.int (n:Int))=.ok (.lst (((zW n).map λ i:Nat=>D.int (i:Int)).map .sh)):=by
 unfold tV;dsimp only;rw[if_pos ⟨by omega,by omega⟩,zax,Ej]
theorem JM {p p2 bH:Pos}(hc:X.calm=true)(hg:Gl X "list")(hm:X.mg "list" = none)(jz:Gl X "range")(cL:X.mg "range" = none)(he:DE X WX true e f)
 (hv:bootBuiltins "list" = some (.type "list"):=by decide +kernel)
 (hs:starEach [.Call (.Name "range" p2) [e] [] bH] X.env=[(false,eval (.Call (.Name "range" p2) [e] [] bH) X.env)]:=by rfl) (aZ:starEach [e] X.env=[(false,eval e X.env)]:=by rfl):
 DN X WX (.Call (.Name "list" p) [.Call (.Name "range" p2) [e] [] bH] [] pos) (λ ρ=>(f ρ).bind tV):=by
 obtain⟨te,e1,e2⟩:=he;refine⟨_,Qr hc hg hm jz cL e1 hv hs aZ,λ P0 P σ H Q ρ E h=>?_⟩;refine e2 P0 P σ H _ ρ E ?_;dsimp only at h;cases q:f ρ with
 |bad|ex x=>rw[q] at h;exact h
 |ok d =>
  rw[q] at h;simp only[M.A7] at h;intro v H1 s1 hv;cases d with
  |int j =>
   by_cases hj:0<=j/\j<=1000
   ·obtain⟨n,rfl⟩:∃n:Nat,j=n:=⟨j.toNat,by omega⟩;rw[Qs (by omega)] at h;refine⟨n,hv.int_inv,by omega,λ r hr=>h.Ik s1 (xs:=(zW n).map λ i:Nat=>V.int (i:Int)) ?_ r hr⟩;have:∀l:List Nat,Ag X.K (del H1 P) (l.map λ i:Nat=>V.int (i:Int)) (l.map λ i:Nat=>D.int (i:Int)):=λ l=>by
     induction l with
     |nil=>exact .nil
     |cons x r ih=>exact .cons (.int _) ih
    exact this _
   ·have e:tV (.int j)=.bad:=if_neg hj;rw[e] at h;exact h.elim
  |_=>exact h.elim
noncomputable def fM (lo hi:Option Int)(d:D):M OT:=match d with
 | .lst ds=>.ok (.lst (((ds.drop (HT.N0 ds.length 0 lo)).take (HT.N0 ds.length ds.length hi-HT.N0 ds.length 0 lo)).map .sh))
 |_=>.bad
theorem Nu {lo hi:Option Expr}{qv fh:Aa->M (Option Int)}{p2:Pos}(ha:DE X WX true e f)(hl:DO X WX true lo qv)(hh:DO X WX true hi fh):DN X WX (.Subscript e (.Slice lo hi none p2) pos) (λ ρ=>(f ρ).bind λ d=>(qv ρ).bind λ l=>(fh ρ).bind λ u=>fM l u d):=by
 obtain⟨ta,a1,a2⟩:=ha;obtain⟨tl,l1,l2⟩:=hl;obtain⟨th,h1,h2⟩:=hh;refine⟨_,Y5 dQ a1 l1 h1,λ P0 P σ H Q ρ E h=>?_⟩;dsimp only at h;refine a2 P0 P σ H _ ρ E ?_;cases q:f ρ with
 |bad|ex x=>rw[q] at h;exact h
 |ok d =>
  rw[q] at h;intro v H1 s1 hv;refine l2 P0 P σ H1 _ ρ (E.same s1) ?_;cases q2:qv ρ with
  |bad=>rw[q2] at h;exact h
  |ex y=>rw[q2] at h;exact λ H' s=>h H' (s1.trans s)
  |ok l =>
   rw[q2] at h;intro H2 s2;refine h2 P0 P σ H2 _ ρ ((E.same s1).same s2) ?_;cases q3:fh ρ with
   |bad=>rw[q3] at h;exact h
   |ex y=>rw[q3] at h;exact λ H' s=>h H' ((s1.trans s2).trans s)
   |ok u =>
    rw[q3] at h;simp only[M.A7] at h;intro H3 s3;unfold fM at h;split at h
    ·cases hv with
     |lst hs hl =>
      refine⟨_,_,rfl,(s3.seq (s2.seq hs.Bg)),λ p hp=>h.Ik ((s1.trans s2).trans s3) ?_ p hp⟩;unfold Y6;rw[hl.length];exact ((((hl.drop _).take _).mono s2.del).mono s3.del)
    ·exact h.elim
theorem YW:wL X.K WX (jR X.K) RQ:=by
 intro P H x y v w Q ht hx hy h;unfold RQ at h;split at h
 ·rename_i ds es;by_cases hl:ds.length+es.length<=1000
  ·rw[if_pos hl] at h;cases hx with
   |lst h1 h2 =>
    cases hy with
    |lst h3 h4=>exact⟨_,_,_,_,rfl,rfl,h1.Bg,h3.Bg,zaz (AB (by rw[h2.length,h4.length];exact hl)),h.Ik (Ac.refl _) (h2.wI h4)⟩
  ·rw[if_neg hl] at h;exact h.elim
 ·exact h.elim
theorem fN (ha:DE X WX true a f)(hb:DE X WX true b g):DN X WX (.BinOp a .Add b pos) (λ ρ=>(f ρ).bind λ x=>(g ρ).bind λ y=>RQ x y):=by
 obtain⟨ta,a1,a2⟩:=ha;obtain⟨tb,b1,b2⟩:=hb;exact⟨_,XS eT a1 b1,λ P0 P σ H Q ρ E h=>rV a2 b2 YW E h⟩
def GK (μ:List (Option Nat))(g:TG):Prop:=∀σ0 σ x H Q,(∀(j:Nat) v,(ET μ σ0)[j]?=some (some v)->σ[j]?=some (some v))->g x σ H Q->g x σ H λ σ' H'=>Q σ' H'/\∀(j:Nat) v,(ET μ σ0)[j]?=some (some v)->σ'[j]?=some (some v)
def sF (μ:List (Option Nat))(g:Xs):Prop:=∀σ0 σ x H Q,(∀(j:Nat) v,(ET μ σ0)[j]?=some (some v)->σ[j]?=some (some v))->g x σ H Q->g x σ H λ σ' H'=>Q σ' H'/\∀(j:Nat) v,(ET μ σ0)[j]?=some (some v)->σ'[j]?=some (some v)
theorem GK.keeps {μ:List (Option Nat)}{g:TG}(h:GK μ g):KQ μ g:=λ σ x H Q q=>h σ (ET μ σ) x H Q (λ _ _ z=>z) q
theorem fO {μ:List (Option Nat)}{i:Nat}(h:μ[i]?=some none):GK μ (OQ i):=λ σ0 σ x H Q hk q=>by
 refine⟨q,λ j v hj=>?_⟩;have af:i≠j:=λ z=>by
  subst z;unfold ET at hj;rw[za2,h] at hj;cases hj
 rw[zap af];exact hk j v hj
theorem fP {μ:List (Option Nat)}:sF μ lD:=λ σ0 σ x H Q hk q=>⟨q.1,q.2,hk⟩
theorem YX {μ:List (Option Nat)}{t:TG}{u:Xs}(mono:∀v σ H Q Q',(∀σ' H',Q σ' H'->Q' σ' H')->t v σ H Q->t v σ H Q')(ht:GK μ t)(hu:sF μ u):sF μ (XJ t u):=λ σ0 σ x H Q hk q=>by
 obtain⟨v,r,rfl,q⟩:=q;exact⟨v,r,rfl,mono _ _ _ _ _ (λ σ' H' z=>hu σ0 σ' r H' Q z.2 z.1) (ht σ0 σ v H _ hk q)⟩
theorem nB {K:zy}{μ:List (Option Nat)}{n:Nat}{t:Xs}(h:sF μ t):GK μ (lE K n t):=λ σ0 σ x H Q hk q=>by
 obtain⟨a,xs,rfl,h1,h2,q⟩:=q;exact⟨a,xs,rfl,h1,h2,h σ0 σ xs H Q hk q⟩
variable {dk:List D->Aa->M Aa}{gt:D->Aa->M Aa}{es:List Expr}
def fQ (X:Cx)(scope:Scope)(NB:List Str)(μ:List (Option Nat))(es:List Expr)(gt:List D->Aa->M Aa):Prop:=
 ∃g:Xs,(∀s H C ex,oW (blockOf X s H scope C NB ex) es g)/\sF μ g/\∀P0 P σ H Q ρ vs ds,Ak X.K P0 P H σ ρ->Ag X.K (del H P) vs ds->gG X.K P0 P H Q (gt ds ρ)->g vs σ H Q
theorem Nv {scope:Scope}{NB:List Str}{μ:List (Option Nat)}:fQ X scope NB μ [] (λ ds ρ=>match ds with | []=>.ok ρ | _=>.bad):=
 ⟨lD,λ s H C ex=>UO,fP,λ P0 P σ H Q ρ vs ds E hv h=>by
  cases hv with
  |nil=>exact⟨rfl,h σ E⟩
  |cons _ _=>exact h.elim⟩
theorem Ea {scope:Scope}{NB:List Str}{μ:List (Option Nat)}(i:Nat){x:Str}{px:Pos}(hN:NB.Nodup)(hi:NB[i]?=some x)(hx:(relabel scope X.env).names.lookup x=some .local)(hm:μ[i]?=some none)(hr:fQ X scope NB μ es dk)
 (hs:∀s H C ex,(assignEach (.Name x px::es) (blockOf X s H scope C NB ex).env).map (·.2)=assign (.Name x px) (blockOf X s H scope C NB ex).env::(assignEach es (blockOf X s H scope C NB ex).env).map (·.2):=by intro _ _ _ _;rfl):
 fQ X scope NB μ (.Name x px::es) (λ ds ρ=>match ds with|d::r=>dk r (ρ.set i (some (.val d)))|[]=>.bad):=by
 obtain⟨gr,r1,r2,r3⟩:=hr;refine⟨XJ (OQ i) gr,λ s H C ex=>Rm (Q4 (X:=blockOf X s H scope C NB ex) hN hi (.inl hx) (.inr hx)) (r1 s H C ex) (hs s H C ex),YX (λ v σ H Q Q' hq h=>hq _ _ h) (fO hm) r2,λ P0 P σ H Q ρ vs ds E hv h=>?_⟩;cases hv with
 |nil=>exact h.elim
 |cons h1 h2=>exact⟨_,_,rfl,r3 P0 P _ H Q _ _ _ (E.Wt h1) h2 h⟩
theorem Qt {scope:Scope}{NB:List Str}{μ:List (Option Nat)}{k n:Nat}{pt:Pos}(hc:X.calm=true)(h:fQ X scope NB μ es dk)
 (hn:∀s H C ex,(assignEach es (blockOf X s H scope C NB ex).env).length=n:=by intro _ _ _ _;rfl) (aR:∀s H C ex,(assignEach es (blockOf X s H scope C NB ex).env).findIdx? (·.1)=none:=by intro _ _ _ _;rfl):
 pA X scope NB μ (.Tuple es k pt) (λ d ρ=>match d with | .tup ds=>if ds.length=n then dk ds ρ else .bad|_=>.bad):=by
 obtain⟨t,a1,a2,a3⟩:=h;refine⟨lE X.K n t,λ s H C ex=>XM (X:=blockOf X s H scope C NB ex) hc (a1 s H C ex) (hn s H C ex) (aR s H C ex),(nB a2).keeps,λ P0 P σ H Q ρ v d E hv h=>?_⟩;cases hv with
 | @tup a xs ds hs hl =>
  dsimp only at h;by_cases hd:ds.length=n
  ·rw[if_pos hd] at h;exact⟨a,xs,rfl,EL.of (Am hs).2,by rw[hl.length];exact hd,a3 P0 P σ H Q ρ xs ds E hl h⟩
  ·rw[if_neg hd] at h;exact h.elim
 |_=>exact h.elim
end
section
variable {X:Cx}{E:XK}{WX:Str->Hp->Prop}{c:Bool}{P0:Ds}{P:Addr->Prop}{H:Hp}{σ:St}{ρ:Aa}{a b e:Expr}{f g:Aa->M D}{fn:Aa->M OT}{fx:Aa->M (Aa×OT)}{fp:Aa->M (List Nat)}{pos:Pos}{i:Nat}{te:TE}
theorem fR:Lz X.K WX (λ xs H Q=>∃i j,xs=[.int i,.int j]/\Q (.int (if j<i then j else i)) H) (λ ds=>match ds with | [.int i,.int j]=>.ok (.int (if j<i then j else i)) | _=>.bad):=by
 intro P H ds vs Q ht hl h;dsimp only at h;split at h
 ·obtain⟨v,w,rfl,h1,h2⟩:=hl.two;exact⟨_,_,by rw[h1.int_inv,h2.int_inv],h _ H (Ac.refl H) (.int _)⟩
 ·exact h.elim
theorem fS {p:Pos}(hc:X.calm=true)(hg:Gl X "min")(hm:X.mg "min" = none)(ha:DE X WX c a f)(i7:DE X WX c b g)(hb:bootBuiltins "min" = some (.builtin "min"):=by decide +kernel)(hs:starEach [a,b] X.env=(false,eval a X.env)::starEach [b] X.env:=by rfl)(aZ:starEach [b] X.env=[(false,eval b X.env)]:=by rfl)
 (hpl:(backTo pos (starEach [b] X.env)).any (·.1)=false:=by rfl):
 DE X WX c (.Call (.Name "min" p) [a,b] [] pos) (λ ρ=>((f ρ).bind λ d=>((g ρ).bind λ d2=>(M.ok []).bind λ ds=>.ok (d2::ds)).bind λ ds=>.ok (d::ds)).bind (λ ds=>match ds with|[.int i,.int j]=>.ok (.int (if j<i then j else i))|_=>.bad)):=
 Jx (W7 hc) fR hg hm hb (A2 ha (A2 i7 A8 aZ) hs) (he:=hs) (hpl:=hpl)
end
def WP (m:M Out)(nx:Aa->Prop)(rt:Out->Prop)(ex:Str->Prop):Prop:=match m with
 | .ok (.next ρ)=>nx ρ
 | .ok o=>rt o
 | .ex x=>ex x
 | .bad=>False
section
variable {nx:Aa->Prop}{rt:Out->Prop}{ex:Str->Prop}{m:M Out}{k:Aa->M Out}{ρ ρ':Aa}
theorem Bm (h:m=.ok (.next ρ'))(hn:nx ρ'):WP m nx rt ex:=by rw[h];exact hn
theorem WP.mono {wv:Aa->Prop}{ww:Out->Prop}{nl:Str->Prop}(h:WP m nx rt ex)(h1:∀ρ,nx ρ->wv ρ)(h2:∀o,rt o->ww o)(h3:∀x,ex x->nl x):WP m wv ww nl:=by
 cases m with
 |bad=>exact h
 |ex x=>exact h3 x h
 |ok o =>
  cases o with
  |next ρ=>exact h1 ρ h
  |ret d|brk d|cont d|CN d|Fg d ρ=>exact h2 _ h
theorem wp_seq (h:WP m (λ ρ=>WP (k ρ) nx rt ex) rt ex):WP (Ys m k) nx rt ex:=by
 cases m with
 |bad|ex x=>exact h
 |ok o =>
  cases o with
  |next ρ|ret d|brk d|cont d|CN d|Fg d ρ=>exact h
theorem wp_step (h:m=.ok (.next ρ'))(hk:WP (k ρ') nx rt ex):WP (Ys m k) nx rt ex:=by rw[h];exact hk
theorem C4 {I:Aa->Prop}(h:WP m I rt ex)(hk:∀ρ,I ρ->WP (k ρ) nx rt ex):WP (Ys m k) nx rt ex:=wp_seq (h.mono hk (λ _ h=>h) λ _ h=>h)
def inLoop (I:Aa->Prop)(nx:Aa->Prop)(rt:Out->Prop)(o:Out):Prop:=match o with
 | .cont ρ=>I ρ
 | .brk ρ=>nx ρ
 |o=>rt o
theorem BD {gt:D->Aa->M Aa}{gb:Aa->M Out}{ds:List D}(I:Nat->Aa->Prop)(h0:I 0 ρ)
 (step:∀i d ρ,ds[i]?=some d->I i ρ->∃ρ1,gt d ρ=.ok ρ1/\WP (gb ρ1) (I (i+1)) (inLoop (I (i+1)) nx rt) ex) (done:∀ρ,I ds.length ρ->nx ρ):WP (forM gt gb ds ρ) nx rt ex:=by
 have key:∀(n i:Nat) (ρ:Aa),i+n=ds.length->I i ρ->WP (forM gt gb (ds.drop i) ρ) nx rt ex:=by
  intro n;induction n with
  |zero =>
   intro i ρ hi h;have e:i=ds.length:=by omega
   subst e;rw[zc6,forM];exact done ρ h
  |succ n ih =>
   intro i ρ hi h;have aj:i<ds.length:=by omega
   obtain⟨ρ1,h1,h2⟩:=step i ds[i] ρ (zJ aj) h;rw[Fh aj,forM,h1];dsimp only;cases q:gb ρ1 with
   |bad|ex x=>rw[q] at h2;exact h2
   |ok o =>
    rw[q] at h2;cases o with
    |next ρ2=>exact ih (i+1) ρ2 (by omega) h2
    |ret d|CN d|Fg d ρ2=>exact h2
    |cont ρ2=>exact ih (i+1) ρ2 (by omega) h2
    |brk ρ2=>exact h2
 have:=key ds.length 0 ρ (by omega) h0;rw[List.drop_zero] at this;exact this
theorem RW {α:Type}{c:Aa->M Bool}{b:Aa->M Out}{lt:α->α->Prop}(J:α->Aa->Prop){x:α}(hx:Acc lt x)(h0:J x ρ)
 (step:∀x ρ,J x ρ->(c ρ=.ok false/\nx ρ)\/(c ρ=.ok true/\WP (b ρ) (λ ρ2=>∃y,lt y x/\J y ρ2) (inLoop (λ ρ2=>∃y,lt y x/\J y ρ2) nx rt) ex)):WP (LB c b ρ) nx rt ex:=by
 have key:∀x,Acc lt x->∀ρ,J x ρ->∃n,AA c b n ρ≠.bad/\WP (AA c b n ρ) nx rt ex:=by
  intro x hx;induction hx with
  |intro x _ ih =>
   intro ρ h;rcases step x ρ h with ⟨h1,h2⟩|⟨h1,h2⟩
   ·refine⟨1,?_,?_⟩
    ·rw[AA,h1];intro z;cases z
    ·rw[AA,h1];exact h2
   ·cases q:b ρ with
    |bad=>rw[q] at h2;exact h2.elim
    |ex y =>
     rw[q] at h2;refine⟨1,?_,?_⟩
     ·rw[AA,h1];dsimp only;rw[q];intro z;cases z
     ·rw[AA,h1];dsimp only;rw[q];exact h2
    |ok o =>
     rw[q] at h2;have go:∀ρ2,(∃y,lt y x/\J y ρ2)->(∀n,AA c b (n+1) ρ=AA c b n ρ2)->∃n,AA c b n ρ≠.bad/\WP (AA c b n ρ) nx rt ex:=by
      rintro ρ2 ⟨y,hy,hJ⟩ e;obtain⟨n,h3,h4⟩:=ih y hy ρ2 hJ;exact⟨n+1,by rw[e];exact h3,by rw[e];exact h4⟩
     cases o with
     |next ρ2|cont ρ2=>exact go ρ2 h2 λ n=>by rw[AA,h1];dsimp only;rw[q]
     |brk ρ2 =>
      refine⟨1,?_,?_⟩
      ·rw[AA,h1];dsimp only;rw[q];intro z;cases z
      ·rw[AA,h1];dsimp only;rw[q];exact h2
     |ret d =>
      refine⟨1,?_,?_⟩
      ·rw[AA,h1];dsimp only;rw[q];intro z;cases z
      ·rw[AA,h1];dsimp only;rw[q];exact h2
     |CN d =>
      refine⟨1,?_,?_⟩
      ·rw[AA,h1];dsimp only;rw[q];intro z;cases z
      ·rw[AA,h1];dsimp only;rw[q];exact h2
     |Fg d ρ2 =>
      refine⟨1,?_,?_⟩
      ·rw[AA,h1];dsimp only;rw[q];intro z;cases z
      ·rw[AA,h1];dsimp only;rw[q];exact h2
 obtain⟨n,h1,h2⟩:=key x hx ρ h0;unfold LB;have hx:∃n,AA c b n ρ≠.bad:=⟨n,h1⟩;rw[dif_pos hx];have e:AA c b (zH hx) ρ=AA c b n ρ:=by
  have a:=CH (zB hx) n;have b':=CH h1 (zH hx);rw[Nat.add_comm] at b';rw[<-a,<-b']
 rw[e];exact h2
def wM (Q:OT->Prop)(o:Out):Prop:=match o with
 | .ret d=>Q (.sh d)
 | .CN c=>∃t,rW c=.ok t/\Q t
 |_=>False
theorem Nw {Q:OT->Prop}(h:WP m (λ _=>Q (.sh .AF)) (wM Q) (λ _=>False)):∃t,WG m=.ok t/\Q t:=by
 cases m with
 |bad|ex x=>exact h.elim
 |ok o =>
  cases o with
  |next ρ|ret d=>exact⟨_,rfl,h⟩
  |CN c=>exact h
  |Fg c ρ|brk ρ|cont ρ=>exact h.elim
theorem Bl {t:OT}(h:WP m (λ _=>OT.sh .AF=t) (wM (·=t)) (λ _=>False)):WG m=.ok t:=by
 obtain⟨u,h1,h2⟩:=Nw (Q:=(·=t)) h;rw[h1,h2]
def wN (Q:D->Prop)(o:Out):Prop:=match o with
 | .ret d=>Q d
 | .CN c=>∃t,vJ c=.ok t/\Q t
 |_=>False
theorem sG {Q:D->Prop}(h:WP m (λ _=>Q .AF) (wN Q) (λ _=>False)):∃t,fin m=.ok t/\Q t:=by
 cases m with
 |bad|ex x=>exact h.elim
 |ok o =>
  cases o with
  |next ρ|ret d=>exact⟨_,rfl,h⟩
  |CN c=>exact h
  |Fg c ρ|brk ρ|cont ρ=>exact h.elim
theorem sH {d:D}(h:WP m (λ _=>D.AF=d) (wN (·=d)) (λ _=>False)):fin m=.ok d:=by
 obtain⟨u,h1,h2⟩:=sG (Q:=(·=d)) h;rw[h1,h2]
end
section
variable {d:D}{ds es:List D}{ρ ρ':Aa}{o:Option Cl}{i n:Nat}{p:Option Nat}{t u:OT}{π:List Nat}{b:Bool}{ks vs:List D}{ts:List OT}{m:M D}
theorem sI:rv 0 (some (.val d)::ρ)=.ok d:=rfl
theorem sJ:rv (i+1) (o::ρ)=rv i ρ:=rfl
noncomputable def RX (f:Aa->Aa)(m:M Out):M Out:=match m with
 | .ok (.next ρ)=>.ok (.next (f ρ))
 |m=>m
theorem JN {f:Aa->Aa}:RX f (.ok (.next ρ))=.ok (.next (f ρ)):=rfl
theorem JO:RS 0 (some (.own ds)::ρ)=.ok []:=rfl
theorem JP:RS 0 (some (.ow (.LZ n ds))::ρ)=.ok []:=rfl
theorem HI:RS 0 (some (.ow (.tree p t))::ρ)=.ok []:=by unfold RS Va;simp[treeOf]
theorem Vd:RS (i+1) (o::ρ)=RS i ρ:=rfl
theorem Ve:Va 0 (some (.own ds)::ρ) π=L3 (.lst (ds.map .sh)) π:=rfl
theorem Vf:Va 0 (some (.ow (.LZ n ds))::ρ) π=L3 (.lst (ds.map .sh)) π:=rfl
theorem Nx:Va 0 (some (.ow (.tree p t))::ρ) π=L3 t π:=rfl
theorem Mu:Tc 0 (some (.own ds)::ρ) []=.ok ds:=by unfold Tc;simp[Ve,CJ]
theorem Mv:Tc 0 (some (.ow (.LZ n ds))::ρ) []=.ok ds:=by unfold Tc;simp[Vf,CJ]
theorem JQ:Tc 0 (some (.ow (.tree p (.lst (ds.map .sh))))::ρ) []=.ok ds:=by unfold Tc;simp[Nx,CJ]
theorem fT:Tc (i+1) (o::ρ) π=Tc i ρ π:=rfl
theorem HJ:LC 0 (some (.own ds)::ρ) []=.ok (ds.map .sh):=by unfold LC;simp[Ve]
theorem HK:LC 0 (some (.ow (.LZ n ds))::ρ) []=.ok (ds.map .sh):=by unfold LC;simp[Vf]
theorem FC:LC 0 (some (.ow (.tree p (.lst ts)))::ρ) []=.ok ts:=by unfold LC;simp[Nx]
theorem Qu:LC (i+1) (o::ρ) π=LC i ρ π:=rfl
theorem D8:G3 0 (some (.ow (.tree p (.Bd b ks (vs.map .sh))))::ρ) []=.ok (b,ks,vs):=by unfold G3;simp[Nx,CJ]
theorem Qv:G3 (i+1) (o::ρ) π=G3 i ρ π:=rfl
theorem JR:IU 0 (some (.own ds)::ρ) [] u=.ok (.next (some (toCl none u)::ρ)):=by unfold IU;simp[treeOf]
theorem JS:IU 0 (some (.ow (.LZ n ds))::ρ) [] u=.ok (.next (some (toCl (some n) u)::ρ)):=by unfold IU;simp[treeOf]
theorem HL:IU 0 (some (.ow (.tree p t))::ρ) π u=.ok (.next (some (toCl p (EW t π u))::ρ)):=by unfold IU;simp[treeOf]
theorem Vg:IU (i+1) (o::ρ) π u=RX (o::·) (IU i ρ π u):=by
 unfold IU RX;simp only[zaa,zP];split
 ·rename_i c e;split<;>simp_all
 ·simp_all
theorem JT:Wu 0 (some (.own ds)::ρ) (.ok d)=if ds.length<1000 then .ok (.next (some (.own (ds++[d]))::ρ)) else .bad:=rfl
theorem Vh:Wu (i+1) (o::ρ) m=RX (o::·) (Wu i ρ m):=by
 unfold Wu;rw[zaa];cases q:ρ[i]? with
 |none=>rfl
 |some oo =>
  cases oo with
  |none=>rfl
  |some c =>
   cases c with
   |own ds =>
    cases m with
    |ok d =>
     simp only[M.A7,zP];by_cases h:ds.length<1000
     ·rw[if_pos h,if_pos h];rfl
     ·rw[if_neg h,if_neg h];rfl
    |ex x|bad=>rfl
   |val d|ow w=>rfl
theorem JU {j:Int}:WA 0 (some (.own ds)::ρ) (.ok (.int j)) (.ok d)=if 0<=j/\j.toNat<=ds.length/\ds.length<1000 then .ok (.next (some (.own (ds.take j.toNat++d::ds.drop j.toNat))::ρ)) else .bad:=rfl
theorem Vi {m2:M D}:WA (i+1) (o::ρ) m m2=RX (o::·) (WA i ρ m m2):=by
 unfold WA;rw[zaa];cases q:ρ[i]? with
 |none=>rfl
 |some oo =>
  cases oo with
  |none=>rfl
  |some c =>
   cases c with
   |own ds =>
    cases m with
    |ok d =>
     cases m2 with
     |ok d2 =>
      simp only[M.A7,zP];cases d with
      |int j =>
       dsimp only;by_cases h:0<=j/\j.toNat<=ds.length/\ds.length<1000
       ·rw[if_pos h,if_pos h];rfl
       ·rw[if_neg h,if_neg h];rfl
      |_=>rfl
     |ex x|bad=>rfl
    |ex x|bad=>rfl
   |val d|ow w=>rfl
theorem JV:U0 0 (some (.val d)::ρ)=.ok (.ret d):=rfl
theorem JW:U0 0 (some (.own ds)::ρ)=.ok (.CN (.own ds)):=rfl
theorem Mw {w:Ow}:U0 0 (some (.ow w)::ρ)=.ok (.CN (.ow w)):=rfl
theorem Vj:U0 (i+1) (o::ρ)=U0 i ρ:=rfl
theorem wO:vK i ρ π=match Va i ρ π with | some (.sh d)=>.ok d | _=>.bad:=rfl
theorem fU:YN (i+1) (o::ρ)=o::YN i ρ:=by
 unfold YN;simp only[zaa,zP];split<;>simp_all
theorem fV {c:Cl}:YN 0 (some c::ρ)=some (M2 c)::ρ:=rfl
theorem JX:M2 (.val d)=.val d:=rfl
theorem JY:M2 (.own ds)=.val (.lst ds):=rfl
theorem JZ:M2 (.ow (.LZ n ds))=.val (.lst ds):=rfl
theorem Mx:M2 (.ow (.tree p t))=.val (er t):=rfl
theorem IW:er (.Bd b ks (vs.map .sh))=.Bd b ks vs:=by rw[er,Qo]
theorem IX:er (.lst (ds.map .sh))=.lst ds:=by rw[er,Qo]
theorem Pp:er (.sh d)=d:=rfl
theorem tW {l:List (Option Nat)}:AS (none::l) ρ=none::AS l ρ:=rfl
theorem tX:AS [] ρ=[]:=rfl
theorem fW {l:List (Option Nat)}:AS (some i::l) ρ=(match ρ[i]? with | some (some (.val d))=>some (.val d) | _=>none)::AS l ρ:=rfl
theorem fX {α:Type}{x y:α}:(if ([]:List D).length<=1000 then x else y)=x:=if_pos (by show 0<=1000;decide)
theorem fY {α:Type}{x y:α}{a:D}:(if [a].length<=1000 then x else y)=x:=if_pos (by show 1<=1000;decide)
theorem fZ {α:Type}{x y:α}{a b:D}:(if [a,b].length<=1000 then x else y)=x:=if_pos (by show 2<=1000;decide)
theorem gB {α:Type}{x y:α}{a b c:D}:(if [a,b,c].length<=1000 then x else y)=x:=if_pos (by show 3<=1000;decide)
theorem gC {α:Type}{x y:α}{a b c d:D}:(if [a,b,c,d].length<=1000 then x else y)=x:=if_pos (by show 4<=1000;decide)
theorem toCl_nil:toCl none (.lst [])=.own []:=rfl
theorem C5 {α:Type}{gt:D->Aa->M Aa}{ft:Aa->M Bool}{fe:Aa->M D}{g:α->D}(p:α->Bool)(f:α->D):∀ {l:List α},(∀x∈l,∃ρ1,gt (g x) ρ=.ok ρ1/\ft ρ1=.ok (p x)/\(p x=true->fe ρ1=.ok (f x)))->AX gt ft fe (l.map g) ρ=.ok ((l.filter p).map f)
 |[],_=>rfl
 |x::r,h=>by
  obtain⟨ρ1,h1,h2,h3⟩:=h x zD;have ih:=C5 (gt:=gt) (ft:=ft) (fe:=fe) (g:=g) p f (l:=r) λ y hy=>h y (zF _ hy);rw[zG,AX,h1];dsimp only;rw[h2];dsimp only;rw[List.filter_cons];cases hp:p x with
  |true =>
   rw[if_pos rfl,h3 hp];dsimp only;rw[ih];simp
  |false=>simp[ih]
theorem CB {α:Type}{gt:D->Aa->M Aa}{ft:Aa->M Bool}{fe:Aa->M D}{g:α->D}(f:α->D){l:List α}(h:∀x∈l,∃ρ1,gt (g x) ρ=.ok ρ1/\ft ρ1=.ok true/\fe ρ1=.ok (f x)):AX gt ft fe (l.map g) ρ=.ok (l.map f):=by
 have:=C5 (gt:=gt) (ft:=ft) (fe:=fe) (ρ:=ρ) (g:=g) (λ _=>true) f (l:=l) λ x hx=>by
  obtain⟨ρ1,h1,h2,h3⟩:=h x hx;exact⟨ρ1,h1,h2,λ _=>h3⟩
 rw[this,List.filter_eq_self.mpr (λ _ _=>rfl)]
theorem C6 {α:Type}{g:α->D}{l:List α}{i:Nat}{d:D}(h:(l.map g)[i]?=some d):∃x,l[i]?=some x/\d=g x:=by
 rw[za2] at h;cases q:l[i]? with
 |none=>rw[q] at h;cases h
 |some x=>rw[q] at h;cases h;exact⟨x,rfl,rfl⟩
theorem Qw:fI (.lst (ds.map .sh))=.ok ds:=by unfold fI;simp[CJ,fH]
theorem HM {α:Type}{x:α}:fH (some x)=.ok x:=rfl
theorem My:TZ i ρ (.sh d)=.ok (.next (ρ.set i (some (.val d)))):=rfl
theorem K0:TZ i ρ (.lst ts)=.ok (.next (ρ.set i (some (toCl none (.lst ts))))):=rfl
theorem K1:TZ i ρ (.tup ts)=.ok (.next (ρ.set i (some (.ow (.tree none (.tup ts)))))):=rfl
theorem K2:TZ i ρ (.Bd b ks ts)=.ok (.next (ρ.set i (some (.ow (.tree none (.Bd b ks ts)))))):=rfl
theorem K3 {x:Str}{ns:List Str}:TZ i ρ (.ins x ns ts)=.ok (.next (ρ.set i (some (.ow (.tree none (.ins x ns ts)))))):=rfl
theorem Mz:WH (.sh d)=.ok (.ret d):=rfl
theorem K4:WH (.lst ts)=.ok (.CN (.ow (.tree none (.lst ts)))):=rfl
theorem K5:WH (.tup ts)=.ok (.CN (.ow (.tree none (.tup ts)))):=rfl
theorem K6:WH (.Bd b ks ts)=.ok (.CN (.ow (.tree none (.Bd b ks ts)))):=rfl
theorem RY {α:Type}{f:α->D}(h:∀x,L1 (f x)=true):∀l:List α,JE (l.map f)=true
 |[]=>by simp[JE]
 |x::r=>by rw[zG,JE,h x,RY h r];rfl
theorem RZ:∀ds:List D,G2 (ds.map .sh)=JE ds
 |[]=>by simp[JE,G2]
 |d::r=>by rw[zG,G2,Im,RZ r,JE]
theorem nE (h:L1 d=true):WE (.ok (.sh d))=.ok (.sh d):=by unfold WE;simp[Im,h]
theorem gD (h:JE ds=true):WE (.ok (.lst (ds.map .sh)))=.ok (.lst (ds.map .sh)):=by unfold WE;simp[Im,RZ,h]
theorem gE {i:Int}:L1 (.int i)=true:=by simp[L1]
theorem YY:EX (.lst ds)=.ok (!ds.isEmpty):=rfl
theorem nF {a s m:Int}(h0:0<=a)(h1:a<m)(s0:1<=s)(s1:s<m):(a+s)%m≠a:=by
 by_cases h:a+s<m
 ·rw[Int.emod_eq_of_lt (by omega) h];omega
 ·have e:(a+s)%m=(a+s-m)%m:=by rw[Int.sub_emod_right]
  rw[e,Int.emod_eq_of_lt (by omega) (by omega)];omega
theorem MA {k:Nat}(i j:Int):cK k (.int i) (.int j)=.ok (.bl (decide (i=j))):=by
 rw[TV (Ek _) (Ek _)];simp only[Ax,Bool.beq_eq_decide_eq]
theorem MB {k:Nat}(i j:Int):Wo k (.int i) (.int j)=.ok (.bl (!decide (i=j))):=by
 rw[Nf (Ek _) (Ek _)];simp only[Ax,Bool.beq_eq_decide_eq]
theorem K7 {i j:Int}:mK (.int i) (.int j)=.ok (.int (i+j)):=rfl
theorem K8 {i j:Int}:rG (.int i) (.int j)=.ok (.int (i-j)):=rfl
theorem MC {i j:Int}:wD (.int i) (.int j)=.ok (.bl (decide (i<j))):=rfl
theorem MD {i j:Int}:xI (.int i) (.int j)=.ok (.bl (decide (i<=j))):=rfl
theorem ME {i j:Int}:wF (.int i) (.int j)=.ok (.bl (decide (j<i))):=rfl
theorem MF {i j:Int}:xJ (.int i) (.int j)=.ok (.bl (decide (j<=i))):=rfl
theorem MG {i:Int}:wG (.int i)=.ok (some i):=rfl
theorem K9:Ws [.lst ds]=.ok (.int ds.length):=rfl
theorem Ka:Ws [.tup ds]=.ok (.int ds.length):=rfl
theorem ite_tt {α:Type}{x y:α}:(if true=true then x else y)=x:=rfl
theorem ite_ff {α:Type}{x y:α}:(if false=true then x else y)=y:=rfl
theorem YZ {lo hi:Option Int}{x:D}(h:oZ lo hi x=.ok (.lst ds)):fM lo hi x=.ok (.lst (ds.map .sh)):=by
 unfold oZ at h;unfold fM;cases x with
 |lst xs=>dsimp only at h ⊢;injection h with h;injection h with h;rw[h]
 |_=>cases h
theorem S0 (xs:List D)(k:Nat):fM (some (k:Int)) none (.lst xs)=.ok (.lst ((xs.drop k).map .sh)):=YZ (Yy xs k)
theorem gF (xs:List D)(a b:Nat):fM (some (a:Int)) (some (b:Int)) (.lst xs)=.ok (.lst (((xs.drop a).take (b-a)).map .sh)):=YZ (eU xs a b)
theorem Kb:Ik (.lst ds)=.ok (.lst (ds.map .sh)):=rfl
theorem Kc:Ik (.tup ds)=.ok (.lst (ds.map .sh)):=rfl
theorem HN {ns:List Int}:sE [.lst (ns.map D.int)]=.ok (.int ns.sum):=by unfold sE;dsimp only;rw[E8]
theorem HP {T:String}:Jy T (.lst ds)=.ok (.bl (EJ T (.lst ds))):=rfl
theorem HQ {T:String}:Jy T (.tup ds)=.ok (.bl (EJ T (.tup ds))):=rfl
theorem HR {T:String}{k:Int}:Jy T (.int k)=.ok (.bl (EJ T (.int k))):=rfl
theorem HS {T:String}:Jy T .AF=.ok (.bl (EJ T .AF)):=rfl
theorem Kd {T:String}{k:Bool}:Jy T (.bl k)=.ok (.bl (EJ T (.bl k))):=rfl
theorem HU {T:String}{k:Str}:Jy T (.str k)=.ok (.bl (EJ T (.str k))):=rfl
theorem HV {T:String}:Jy T (.Bd b ks vs)=.ok (.bl (EJ T (.Bd b ks vs))):=rfl
theorem Vk:EJ "list" (.lst ds)=true:=rfl
theorem Vl:EJ "tuple" (.tup ds)=true:=rfl
theorem Vm {k:Int}:EJ "int" (.int k)=true:=rfl
theorem Vn {k:Int}:EJ "bool" (.int k)=false:=rfl
theorem Vo:EJ "dict" (.Bd b ks vs)=true:=rfl
theorem HW {neg:Bool}{k:Int}{ns:List Int}:JI neg (.int k) (.lst (ns.map D.int))=.ok (.bl (if neg then !ns.contains k else ns.contains k)):=by
 unfold JI tS;dsimp only;rw[E8]
noncomputable def vO (s:Option D):Option Cl:=s.map .val
theorem MH {s:Option D}:Il (vO s::ρ)=vO s::Il ρ:=by cases s<;>rfl
end
noncomputable def U3 (x:Int):List Int->List Int
 |[]=>[x]
 |y::r=>if x<=y then x::y::r else y::U3 x r
noncomputable def Ep:List Int->List Int
 |[]=>[]
 |x::r=>U3 x (Ep r)
theorem L8 (x:Int):∀l:List Int,(U3 x l).Perm (x::l)
 |[]=>.refl _
 |y::r=>by
  unfold U3;split
  ·exact .refl _
  ·exact ((L8 x r).cons y).trans (.swap x y r)
theorem D9:∀l:List Int,(Ep l).Perm l
 |[]=>.refl _
 |x::r=>(L8 x (Ep r)).trans ((D9 r).cons x)
theorem LD (x:Int):∀l:List Int,l.Pairwise (·<=·)->(U3 x l).Pairwise (·<=·)
 |[],_=>by simp[U3]
 |y::r,h=>by
  unfold U3;have hy:=List.pairwise_cons.mp h;split
  ·rename_i cN;exact List.pairwise_cons.mpr ⟨λ z hz=>by
    rcases zQ.mp hz with rfl|hz
    ·exact cN
    ·exact Int.le_trans cN (hy.1 z hz),h⟩
  ·rename_i cN;exact List.pairwise_cons.mpr ⟨λ z hz=>by
    rcases zQ.mp ((L8 x r).mem_iff.mp hz) with rfl|hz
    ·omega
    ·exact hy.1 z hz,LD x r hy.2⟩
theorem DV:∀l:List Int,(Ep l).Pairwise (·<=·)
 |[]=>.nil
 |x::r=>LD x _ (DV r)
theorem EM:∀ {a b:List Int},a.Perm b->a.Pairwise (·<=·)->b.Pairwise (·<=·)->a=b
 |[],b,hp,_,_=>(List.nil_perm.mp hp).symm
 |x::r,[],hp,_,_=>by have:=hp.length_eq;simp at this
 |x::r,y::t,hp,ha,hb=>by
  have ca:=List.pairwise_cons.mp ha;have aG:=List.pairwise_cons.mp hb;have e:x=y:=by
   have h1:x∈y::t:=hp.mem_iff.mp (zD ..);have h2:y∈x::r:=hp.mem_iff.mpr (zD ..);rcases zQ.mp h1 with e|h1
   ·exact e
   rcases zQ.mp h2 with e|h2
   ·exact e.symm
   have:=ca.1 _ h2;have:=aG.1 _ h1;omega
  subst e;rw[EM (List.Perm.cons_inv hp) ca.2 aG.2]
theorem Ke:∀ {us:List Value}{ns:List Int},IntsAre us ns->Vals (ns.map V.int) us
 |_,_,.nil=>.nil
 |_,_,.cons n t h=>.cons ⟨t,rfl⟩ (Ke h)
theorem Ny {K:zy}{H:Hp}:∀l:List Int,Ag K H (l.map V.int) (l.map D.int)
 |[]=>.nil
 |x::r=>.cons (.int _) (Ny r)
section
variable {X:Cx}{WX:Str->Hp->Prop}{c:Bool}{P0:Ds}{P:Addr->Prop}{H:Hp}{σ:St}{ρ:Aa}{a b e:Expr}{f g:Aa->M D}{fn:Aa->M OT}{pos:Pos}{te:TE}
noncomputable def vP (X:Cx)(te:TE):TE:=λ σ H Q=>te σ H λ x H1=>∃p ns,x=.ref p/\DF X.K H1 p (List.map V.int ns)/\ns.length<64/\∀r,H1 r=none->Q (.ref r) (upd H1 r (.lst ((Ep ns).map V.int)))
theorem WO {p:Pos}(hc:X.calm=true)(hg:Gl X "sorted")(hm:X.mg "sorted" = none)(he:PE X e te)
 (hv:bootBuiltins "sorted" = some (.builtin "sorted"):=by decide +kernel)
 (hs:starEach [e] X.env=[(false,eval e X.env)]:=by rfl):
 PE X (.Call (.Name "sorted" p) [e] [] pos) (vP X te):=by
 intro pins s σ H Q I h;refine wpAny_Call_Name_kw (Ed I hg hm hv ?_);refine PyProof.Rows.callWith_builtin1 ?_ hs;rw[hs];refine zbo (Bc (he pins s σ H _ I h) λ u s1 ⟨x,H1,I1,r1,q1⟩=>?_);obtain⟨q,ns,rfl,hq,yc,h⟩:=q1;cases r1;refine zbw ?_;obtain⟨aa,r',pl,hz⟩:=I1.list hq;have hi:=intsAre_of r';have ke:=r'.length;rw[zC] at ke;refine sorted_ints pl.isList hi (by omega) λ out db b1 b2 b3=>?_;obtain⟨c',aH⟩:=sortedAll_at s1.heap aa out;have e:db=Ep ns:=EM (b2.trans (D9 ns).symm) b3 (DV ns);subst e;refine⟨.ref _,_,I1.laid (t':=s1.toks) (o:=.lst ((Ep ns).map V.int)) (λ b o e=>sortedAll_old e) (Nat.le_succ _) ⟨?_,out.toList,c',Ke b1,by simpa using aH⟩,rfl,h _ (I1.Au.fresh (Nat.le_succ _))⟩;rw[zC,(D9 ns).length_eq];exact zaz (AB (by omega))
noncomputable def gH (d:D):M OT:=match d with
 | .lst xs=>(match CG xs with|some ns=>if ns.length<64 then .ok (.lst (((Ep ns).map .int).map .sh)) else .bad|none=>.bad)
 |_=>.bad
theorem Pq {ns:List Int}(h:ns.length<64):gH (.lst (ns.map .int))=.ok (.lst (((Ep ns).map .int).map .sh)):=by
 unfold gH;dsimp only;rw[E8];dsimp only;rw[if_pos h]
theorem Pr {p:Pos}(hc:X.calm=true)(hg:Gl X "sorted")(hm:X.mg "sorted" = none)(he:DE X WX true e f)
 (hv:bootBuiltins "sorted" = some (.builtin "sorted"):=by decide +kernel)
 (hs:starEach [e] X.env=[(false,eval e X.env)]:=by rfl):
 DN X WX (.Call (.Name "sorted" p) [e] [] pos) (λ ρ=>(f ρ).bind gH):=by
 obtain⟨te,e1,e2⟩:=he;refine⟨_,WO hc hg hm e1 hv hs,λ P0 P σ H Q ρ E h=>?_⟩;refine e2 P0 P σ H _ ρ E ?_;dsimp only at h;cases q:f ρ with
 |bad|ex x=>rw[q] at h;exact h
 |ok d =>
  rw[q] at h;simp only[M.A7] at h;intro v H1 s1 hv;unfold gH at h;split at h
  ·rename_i xs;split at h
   ·rename_i ns eb;have:=E9 eb;subst this;split at h
    ·rename_i hl;cases hv with
     |lst hs hh =>
      have:=El hh;subst this;exact⟨_,ns,rfl,hs.Bg,hl,h.Ik s1 (Ny _)⟩
    ·exact h.elim
   ·exact h.elim
  ·exact h.elim
noncomputable def gI (d k:D):M OT:=match k with
 | .int j=>if 0<=j/\j.toNat<=1000 then .ok (.lst ((zR j.toNat d).map .sh)) else .bad
 |_=>.bad
theorem S1 {d:D}{n:Nat}(h:n<=1000):gI d (.int (n:Int))=.ok (.lst ((zR n d).map .sh)):=by
 unfold gI;dsimp only;rw[if_pos ⟨by omega,by omega⟩,zax]
theorem Z0 {qw:Pos}(ha:DE X WX true a f)(hb:DE X WX true b g)(aR:starEach [a] X.env=[(false,eval a X.env)]:=by rfl):
 DN X WX (.BinOp (.List [a] qw) .Mult b pos) (λ ρ=>(f ρ).bind λ d=>(g ρ).bind λ k=>gI d k):=by
 obtain⟨ta,a1,a2⟩:=ha;obtain⟨tb,b1,b2⟩:=hb;refine⟨_,XS mD (Ts (Bt a1 CO aR)) b1,λ P0 P σ H Q ρ E h=>?_⟩;dsimp only at h;refine a2 P0 P σ H _ ρ E ?_;cases q:f ρ with
 |bad|ex x=>rw[q] at h;exact h
 |ok d =>
  rw[q] at h;simp only[M.A7] at h;intro v H1 s1 hv;have E1:=E.same s1;refine⟨zaz (AB (by simp)),λ p hp=>?_⟩;have s2:Ac H1 (upd H1 p (.lst [v])):=AK hp _;have E2:=E1.same s2;refine b2 P0 P σ _ _ ρ E2 ?_;cases q2:g ρ with
  |bad=>rw[q2] at h;exact h
  |ex x=>rw[q2] at h;exact λ H' s3=>h H' ((s1.trans s2).trans s3)
  |ok k =>
   rw[q2] at h;simp only[M.A7] at h;unfold gI at h;intro w H3 s3 hw;cases k with
   |int j =>
    dsimp only at h;by_cases hj:0<=j/\j.toNat<=1000
    ·rw[if_pos hj] at h;cases hw;refine⟨p,j,[v],rfl,rfl,s3 _ _ Aj,by omega,by omega,zaz (AB (by simp;omega)),?_⟩;rw[Pe];exact h.Ik ((s1.trans s2).trans s3) (RL ((hv.mono s2.del).mono s3.del) j.toNat)
    ·rw[if_neg hj] at h;exact h.elim
   |_=>exact h.elim
end
noncomputable def gJ (f:Str):List Str->List D->Option D
 |n::ns,d::ds=>if f==n then some d else gJ f ns ds
 |_,_=>none
theorem S2 {K:zy}{H:Hp}{f:Str}:∀ {fs:List (Str×V)}{ds:List D}{d:D},Ag K H (fs.map zb1) ds->gJ f (fs.map za1) ds=some d->∃v,fs.lookup f=some v/\Bu K H v d
 |[],ds,d,_,h=>by simp[gJ] at h
 |(n,v)::fs,_,d,.cons hv ht,h=>by
  rw[zG,gJ] at h;rw[zc4];cases q:f==n with
  |true=>rw[q,if_pos rfl] at h;cases h;exact⟨v,rfl,hv⟩
  |false=>rw[q,if_neg (by simp)] at h;exact S2 ht h
theorem Nz {K:zy}{H:Hp}{f:Str}:∀ {fs:List (Str×V)}{ds:List D},Ag K H (fs.map zb1) ds->gJ f (fs.map za1) ds=none->fs.lookup f=none
 |[],ds,_,h=>rfl
 |(n,v)::fs,_,.cons hv ht,h=>by
  rw[zG,gJ] at h;rw[zc4];cases q:f==n with
  |true=>rw[q,if_pos rfl] at h;cases h
  |false=>rw[q,if_neg (by simp)] at h;exact Nz ht h
structure Iw (K:zy)(x f:Str):Prop where
 ex:∃C,zE K mainGlobals x=some (some (.ref C))/\Wa K C/\IE K C f
noncomputable def Oz (cs:List Str)(f:Str)(d:D):M D:=match d with
 | .ins x ns ds=>if x∈cs then (match gJ f ns ds with|some e=>.ok e|none=>.bad) else .bad
 |_=>.bad
section
variable {X:Cx}{E:XK}{WX:Str->Hp->Prop}{c:Bool}{P0:Ds}{P:Addr->Prop}{H:Hp}{σ:St}{ρ:Aa}{a b e:Expr}{es:List Expr}{f g:Aa->M D}{fs:Aa->M (List D)}{fn:Aa->M OT}{pos:Pos}{te:TE}
theorem EY (cs:List Str){fl:Str}(i9:∀x∈cs,Iw X.K x fl)(ha:DE X WX c a f)(hb:attributeBase a fl X.env (eval a X.env)=eval a X.env:=by rfl):DE X WX c (.Attribute a fl pos) (λ ρ=>(f ρ).bind (Oz cs fl)):=by
 obtain⟨ta,a1,a2⟩:=ha;refine⟨_,lR a1 hb,λ P0 P σ H Q ρ E h=>?_⟩;dsimp only at h;refine a2 P0 P σ H _ ρ E ?_;cases e:f ρ with
 |bad|ex x=>rw[e] at h;exact h
 |ok d =>
  rw[e] at h;simp only[M.A7] at h;intro v H1 s1 hv;unfold Oz at h;split at h
  ·rename_i x ns ds;split at h
   ·rename_i hx;split at h
    ·rename_i d' el;cases hv with
     |ins hn ha hl =>
      obtain⟨C,b8,hc,kg⟩:=(i9 x hx).ex;rw[hn] at b8;cases b8;obtain⟨v',l1,l2⟩:=S2 hl el;exact⟨_,_,_,_,v',rfl,(Am ha).2,hc,kg,l1,h v' H1 s1 l2⟩
    ·exact h.elim
   ·exact h.elim
  ·exact h.elim
structure Pt (K:zy)(x m qual:Str)(st:Stmt)(ps:List Str):Prop where
 ex:∃C f fd,zE K mainGlobals x=some (some (.ref C))/\Wa K C/\Meth K C m f/\Xu K m qual st f fd/\Binds K fd ps []
structure IY (P:Program)(w:World)(K:zy)(mg:Str->Option Value)(base:Heap)(x m:Str)(k n:Nat)(F:List D->M OT):Prop where
 ex:∃C fa fd ps,zE K mainGlobals x=some (some (.ref C))/\Wa K C/\Meth K C m fa/\Dr P w K mg base (TR P w base) k fa fd ps (spT K n F)/\Binds K fd ps []
theorem MI {P:Program}{w:World}{K:zy}{mg:Str->Option Value}{base:Heap}{x m qual:Str}{st:Stmt}{N ps:List Str}{k n:Nat}(T:Pt K x m qual st ps)(S:Ai N ps (A3 st))(g:Aa->M Out)
 (hb:∀(f:Addr) (B4:Value) (A:Around) (outer:List Env) (s:Shared) (H:Hp) (E:XK),BM k (A.deeper (envOfC qual (A3 st) s.heap.objs.size f B4))->Ta (V6 P w K mg base N qual (A3 st) f B4 A outer s H E) (Dt K E) (AE st) g) (hn:ps.length=n:=by rfl):
 IY P w K mg base x m (k+1) n (λ ds=>WG (g (AG N ds))):=by
 obtain⟨C,f,fd,h1,h2,h3,F,hB⟩:=T.ex;subst hn;exact⟨⟨C,f,fd,ps,h1,h2,h3,rX F S g (hb f),hB⟩⟩
noncomputable def tY (x:Str):List (Str×(List D->M OT))->Option (List D->M OT)
 |[]=>none
 |(y,F)::r=>if x=y then some F else tY x r
theorem Vp {x:Str}{F:List D->M OT}:∀ {ms:List (Str×(List D->M OT))},tY x ms=some F->(x,F)∈ms
 |[],h=>by cases h
 |(y,G)::r,h=>by
  unfold tY at h;split at h
  ·rename_i e;cases h;subst e;exact zD
  ·exact zF _ (Vp h)
noncomputable def IZ (ms:List (Str×(List D->M OT)))(m:Str)(d:D):M (List D->M OT):=match d with
 | .ins x ns es=>(match tY x ms with
  |some F=>(match gJ m ns es with|none=>.ok F|some _=>.bad)
  |none=>.bad)
 |_=>.bad
theorem S3 {ms:List (Str×(List D->M OT))}{m:Str}{d:D}{F:List D->M OT}(h:IZ ms m d=.ok F):∃x ns es,d=.ins x ns es/\(x,F)∈ms/\gJ m ns es=none:=by
 unfold IZ at h;split at h
 ·rename_i x ns es;split at h
  ·rename_i G e;split at h
   ·rename_i e2;cases h;exact⟨x,ns,es,rfl,Vp e,e2⟩
   ·cases h
  ·cases h
 ·cases h
theorem Pu {ms:List (Str×(List D->M OT))}{m:Str}{d:D}{x:Str}:IZ ms m d≠.ex x:=λ h=>by
 unfold IZ at h;split at h
 ·split at h
  ·split at h<;>cases h
  ·cases h
 ·cases h
noncomputable def Z1 (X:Cx)(m:Str)(k:Nat)(E:XK)(ta:TE)(t:TA):TE:=λ σ H Q=>ta σ H λ x H1=>∃a C dx fs f fd ps n F,x=.ref a/\H1 a=some (.ins C dx fs)/\fs.lookup m=none/\Wa X.K C/\Meth X.K C m f/\Dr X.prog X.w X.K X.mg X.base (TR X.prog X.w X.base) k f fd ps (spT X.K n F)/\Binds X.K fd ps []/\
 t σ H1 λ vs H2=>spT X.K n F (x::vs) H2 Q E
theorem Z2 {pl:Sem Bool}{o:Expr}{m:Str}{k:Nat}{ta:TE}{t:TA}{apos:Pos}(he:PE X o ta)(hr:BM k X.A)(hx:Gq (TR X.prog X.w X.base) X E)(ha:PA X (e::es) t)
 (aR:starEach (e::es) X.env=(false,eval e X.env)::starEach es X.env:=by rfl) (hpl:(backTo pos (starEach es X.env)).any (·.1)=false:=by rfl)
 (ht:eval (.Call (.Attribute o m apos) (e::es) [] pos) X.env=(do
  let ov <-eval o X.env
  standAt apos.atName
  let (f,first) <-holding [ov] (getMethod ov m pl)
  callWith pos f first (backTo pos (starEach (e::es) X.env)) (backToKw pos (keywordEach [] X.env))):=by rfl):
 PE X (.Call (.Attribute o m apos) (e::es) [] pos) (Z1 X m k E ta t):=by
 intro pins s σ H Q I h;refine PySem.W.methodCall_KW (pl:=pl) (Bc (he pins s σ H _ I h) λ u s1 ⟨x,H1,I1,rx,a,C,dx,fs,f,fd,ps,n,F,ex,ea,l,c,hm,hF,hb,q⟩=>?_) ht;subst ex;obtain rfl:u=zaq a:=rx;refine MX I1 ea c hm l ?_;refine PySem.W.callWith_K (first:=[.ref a]) (h₀:=X.base) I.ok.mod.XD hm.kp (Bc (ha pos pins s1 σ H1 _ I1 q) λ us s2 ⟨vs,H2,I2,r,q2⟩=>⟨I2.Og,?_⟩) aR hpl;exact Tu (us:=.ref a::us) (vs:=.ref a::vs) hF hr hb .nil hx I2 (.cons rfl r) (by rw[zal];exact q2)
theorem WQ {pl:Sem Bool}{o:Expr}{m:Str}{k:Nat}{ta:TE}{apos:Pos}(he:PE X o ta)(hr:BM k X.A)(hx:Gq (TR X.prog X.w X.base) X E)
 (ht:eval (.Call (.Attribute o m apos) [] [] pos) X.env=(do
  let ov <-eval o X.env
  standAt apos.atName
  let (f,first) <-holding [ov] (getMethod ov m pl)
  callWith pos f first (backTo pos (starEach [] X.env)) (backToKw pos (keywordEach [] X.env))):=by rfl):
 PE X (.Call (.Attribute o m apos) [] [] pos) (Z1 X m k E ta lT):=by
 intro pins s σ H Q I h;refine PySem.W.methodCall_KW (pl:=pl) (Bc (he pins s σ H _ I h) λ u s1 ⟨x,H1,I1,rx,a,C,dx,fs,f,fd,ps,n,F,ex,ea,l,c,hm,hF,hb,q⟩=>?_) ht;subst ex;obtain rfl:u=zaq a:=rx;refine MX I1 ea c hm l ?_;exact PySem.W.callWith_K0 (first:=[.ref a]) I1.Og hm.kp (Tu (us:=[.ref a]) (vs:=[.ref a]) hF hr hb .nil hx I1 (.cons rfl .nil) q)
theorem Vq {P:Program}{w:World}{K:zy}{mg:Str->Option Value}{base:Heap}{CX:UQ}{k k':Nat}{f:Addr}{fd:FuncData}{ps:List Str}{sp:Sp}(h:k<=k')(F:Dr P w K mg base CX k f fd ps sp):Dr P w K mg base CX k' f fd ps sp:=
 ⟨F.len,λ A stack s H args us vs Q E hr=>F.run A stack s H args us vs Q E (hr.mono h)⟩
theorem Qx {o:Expr}{fo:Aa->M D}{m:Str}{k n:Nat}{apos:Pos}{pl:Sem Bool}(ms:List (Str×(List D->M OT)))(xo:XCall X E)(qx:∀p∈ms,∃k',k'<=k/\IY X.prog X.w X.K X.mg X.base p.1 m k' n p.2)(hr:BM k X.A)(ho:DE X (Dt X.K E) true o fo)(ha:DA X (Dt X.K E) true (e::es) fs)(cb:(e::es).length+1=n)
 (aR:starEach (e::es) X.env=(false,eval e X.env)::starEach es X.env:=by rfl) (hpl:(backTo pos (starEach es X.env)).any (·.1)=false:=by rfl)
 (ht:eval (.Call (.Attribute o m apos) (e::es) [] pos) X.env=(do
  let ov <-eval o X.env
  standAt apos.atName
  let (f,first) <-holding [ov] (getMethod ov m pl)
  callWith pos f first (backTo pos (starEach (e::es) X.env)) (backToKw pos (keywordEach [] X.env))):=by rfl):
 DN X (Dt X.K E) (.Call (.Attribute o m apos) (e::es) [] pos) (λ ρ=>(fo ρ).bind λ d=>(IZ ms m d).bind λ F=>(fs ρ).bind λ ds=>F (d::ds)):=by
 obtain⟨ta,a1,a2⟩:=ho;obtain⟨tb,b1,b2,b3⟩:=ha;refine⟨_,Z2 (pl:=pl) a1 hr xo.call b1 aR hpl ht,λ P0 P σ H Q ρ Ev h=>?_⟩;dsimp only at h;refine a2 P0 P σ H _ ρ Ev ?_;cases q:fo ρ with
 |bad|ex x=>rw[q] at h;exact h
 |ok d =>
  rw[q] at h;simp only[M.A7] at h;intro v H1 s1 hv;cases q2:IZ ms m d with
  |bad=>rw[q2] at h;exact h.elim
  |ex y=>exact (Pu q2).elim
  |ok F =>
   rw[q2] at h;simp only[M.A7] at h;obtain⟨x,ns,yd,rfl,bf,qy⟩:=S3 q2;obtain⟨k',gh,M0⟩:=qx _ bf;obtain⟨C,fa,fd,ps,h1,h2,h3,h4,h5⟩:=M0.ex;cases hv with
   |ins hn hH hl =>
    rw[hn] at h1;cases h1;refine⟨_,_,_,_,fa,fd,ps,n,F,rfl,(Am hH).2,Nz hl qy,h2,h3,Vq gh h4,h5,?_⟩;refine b2 P0 P σ H1 _ ρ (Ev.same s1) ?_;cases q3:fs ρ with
    |bad=>rw[q3] at h;exact h
    |ex y=>rw[q3] at h;exact λ H' s=>h H' (s1.trans s)
    |ok ds =>
     rw[q3] at h;simp only[M.A7] at h;intro vs H2 s2 be;have kh:=(Bu.ins hn hH hl).mono s2.del;exact⟨by rw[zO,be.length,b3 ρ ds q3];exact cb,P,_,((Ev.same s1).same s2).C3,.cons kh be,h.same (s1.trans s2)⟩
theorem Kf {o:Expr}{fo:Aa->M D}{m:Str}{k:Nat}{apos:Pos}{pl:Sem Bool}(ms:List (Str×(List D->M OT)))(xo:XCall X E)(qx:∀p∈ms,∃k',k'<=k/\IY X.prog X.w X.K X.mg X.base p.1 m k' 1 p.2)(hr:BM k X.A)(ho:DE X (Dt X.K E) true o fo)
 (ht:eval (.Call (.Attribute o m apos) [] [] pos) X.env=(do
  let ov <-eval o X.env
  standAt apos.atName
  let (f,first) <-holding [ov] (getMethod ov m pl)
  callWith pos f first (backTo pos (starEach [] X.env)) (backToKw pos (keywordEach [] X.env))):=by rfl):
 DN X (Dt X.K E) (.Call (.Attribute o m apos) [] [] pos) (λ ρ=>(fo ρ).bind λ d=>(IZ ms m d).bind λ F=>F [d]):=by
 obtain⟨ta,a1,a2⟩:=ho;refine⟨_,WQ (pl:=pl) a1 hr xo.call ht,λ P0 P σ H Q ρ Ev h=>?_⟩;dsimp only at h;refine a2 P0 P σ H _ ρ Ev ?_;cases q:fo ρ with
 |bad|ex x=>rw[q] at h;exact h
 |ok d =>
  rw[q] at h;simp only[M.A7] at h;intro v H1 s1 hv;cases q2:IZ ms m d with
  |bad=>rw[q2] at h;exact h.elim
  |ex y=>exact (Pu q2).elim
  |ok F =>
   rw[q2] at h;simp only[M.A7] at h;obtain⟨x,ns,yd,rfl,bf,qy⟩:=S3 q2;obtain⟨k',gh,M0⟩:=qx _ bf;obtain⟨C,fa,fd,ps,h1,h2,h3,h4,h5⟩:=M0.ex;cases hv with
   |ins hn hH hl =>
    rw[hn] at h1;cases h1;refine⟨_,_,_,_,fa,fd,ps,1,F,rfl,(Am hH).2,Nz hl qy,h2,h3,Vq gh h4,h5,?_⟩;exact⟨rfl,P,_,(Ev.same s1).C3,.cons (Bu.ins hn hH hl) .nil,h.same s1⟩
end
section
variable {X:Cx}{E:XK}{WX:Str->Hp->Prop}{c:Bool}{P0:Ds}{P:Addr->Prop}{H:Hp}{σ:St}{ρ:Aa}{a b e:Expr}{es:List Expr}{f g:Aa->M D}{fs:Aa->M (List D)}{fn:Aa->M OT}{pos:Pos}{te:TE}
structure nG (K:zy)(mg:Str->Option Value)(x:Str)(C:Addr):Prop where
 ns:zE K mainGlobals x=some (some (.ref C))
 yA:mg x=some (.ref C)
theorem WR {p dx C:Addr}(hp:H p=none)(hd:H dx=none):Ac H (upd (upd H dx (.own p)) p (.ins C dx [])):=λ b u q=>by
 rw[Ab (AH q hp),Ab (AH q hd)];exact q
structure sL (P:Program)(w:World)(K:zy)(mg:Str->Option Value)(base:Heap)(x:Str)(k n:Nat)(F:OT->List D->M (OT×OT)):Prop where
 ex:∃C fa fd ps,nG K mg x C/\Mk K C fa/\Dr P w K mg base (TR P w base) k fa fd ps (Pm K n F)/\Binds K fd ps []
noncomputable def Z3 (m:M (OT×OT)):M OT:=match m with
 | .ok (t,.sh .AF)=>.ok t
 |_=>.bad
theorem gK {x:Str}{k n:Nat}{F:OT->List D->M (OT×OT)}{p:Pos}(xo:XCall X E)(G:sL X.prog X.w X.K X.mg X.base x k n F)(hr:BM (k+1) X.A)(hg:Gl X x)(ha:DA X (Dt X.K E) true (e::es) fs)(cb:(e::es).length+1=n)
 (ba:(x==("__debug__" : Str))=false:=by decide) (he:starEach (e::es) X.env=(false,eval e X.env)::starEach es X.env:=by rfl) (hpl:(backTo pos (starEach es X.env)).any (·.1)=false:=by rfl):
 DN X (Dt X.K E) (.Call (.Name x p) (e::es) [] pos) (λ ρ=>(fs ρ).bind λ ds=>Z3 (F (.ins x [] []) ds)):=by
 obtain⟨C,fa,fd,ps,hT,hM,hF,hb⟩:=G.ex;obtain⟨ta,a1,a2,a3⟩:=ha;refine⟨_,dI hM hF hr hg hT.yA hb .nil xo.call a1 ba he hpl,λ P0 P σ H Q ρ Ev h=>?_⟩;dsimp only at h;refine a2 P0 P σ H _ ρ Ev ?_;cases q:fs ρ with
 |bad|ex x=>rw[q] at h;exact h
 |ok ds =>
  rw[q] at h;simp only[M.A7] at h;intro vs H1 s1 be y dx hy hd af;rw[zal];have E1:=Ev.same s1;have sm:=WR (C:=C) hy hd;have c5:∀a∈[y],H1 a=none:=λ a ha=>by rw[zS.mp ha];exact hy
  refine⟨by rw[zO,be.length,a3 ρ ds q];exact cb,PU P [y],y,.ins x [] [],[y],vs,ds,rfl,λ a ha=>?_,λ a ha=>.inr ha,by simp,BQ.ins (fs:=[]) hT.ns Aj .nil,be.mono (BG sm c5),?_⟩
  ·rcases ha with ha|ha
   ·exact (E1.C3 a ha).same sm
   ·rw[zS.mp ha];exact⟨_,Aj,λ xs=>⟨(λ z=>by cases z),(λ z w=>by cases w)⟩⟩
  ·cases q2:F (.ins x [] []) ds with
   |bad|ex z=>rw[q2] at h;exact h
   |ok tr =>
    obtain⟨t,r⟩:=tr;rw[q2] at h;simp only[Z3] at h;intro v H' P' ak fr k1 k2 k3 k4 k5 k6 k7 k8 k9 wr;cases r with
    |sh d =>
     cases d with
     |AF =>
      cases k6 with
      |sh hv =>
       cases hv;refine⟨rfl,h _ ak H' ?_ ?_ k5 ?_⟩
       ·intro b u eb;have e1:=s1 b u eb;have ja:b≠y:=λ z=>by rw[z,hy] at e1;cases e1
        have e2:=sm b u e1;by_cases hP:P b
        ·exact (k1 b (.inl hP) (by simp[ja])).2.trans e2
        ·exact (Am (k3 b u (by rw[Az λ z=>z.elim hP λ w=>ja (zS.mp w)];exact e2))).2
       ·intro b wx;cases eb:H b with
        |none=>rfl
        |some u =>
         exfalso;have e1:=s1 b u eb;have ja:b≠y:=λ z=>by rw[z,hy] at e1;cases e1
         have e2:=sm b u e1;have hn:=λ z=>ja (zS.mp ((k9 b wx).2 z));exact (Am (k3 b u (by rw[Az hn];exact e2))).1 (k9 b wx).1
       ·refine k4.move (λ b u eb=>?_) λ _ _=>rfl;obtain⟨g1,g2⟩:=Am eb;rw[Az]
        ·exact g2
        ·rintro (z|z)
         ·have ja:b≠y:=λ w=>by
           obtain⟨o,e1,_⟩:=E1.C3 b z;rw[w,hy] at e1;cases e1
          exact g1 (k1 b (.inl z) (by simp[ja])).1
         ·exact g1 (k9 b z).1
     |_=>exact h.elim
    |_=>exact h.elim
end
noncomputable def Pw (i:Nat)(ρ:Aa)(π:List Nat):M (Str×List Str×List D):=match Va i ρ π with
 |some (.ins x ns ts)=>(match Em ts with|some vs=>.ok (x,ns,vs)|none=>.bad)
 |_=>.bad
theorem Z4 {i:Nat}{ρ:Aa}{π:List Nat}{x:Str}(h:Pw i ρ π=.ex x):False:=by
 unfold Pw at h;split at h
 ·split at h<;>cases h
 ·cases h
noncomputable def Z5 (f:Str):List Str->List Str
 |[]=>[f]
 |g::r=>if g=f then g::r else g::Z5 f r
noncomputable def Z6 (f:Str)(d:D):List Str->List D->List D
 |[],_=>[d]
 |g::r,e::t=>if g=f then d::t else e::Z6 f d r t
 |_::_,[]=>[]
theorem S4 (f:Str)(v:V):∀fs:List (Str×V),(Ee f v fs).map za1=Z5 f (fs.map za1)
 |[]=>rfl
 |(g,x)::r=>by
  rw[zG,Z5,Ee];split
  ·rfl
  ·rw[zG,S4 f v r]
theorem S5 {K:zy}{H:Hp}{f:Str}{v:V}{d:D}(hv:Bu K H v d):∀ {fs:List (Str×V)}{ds:List D},Ag K H (fs.map zb1) ds->Ag K H ((Ee f v fs).map zb1) (Z6 f d (fs.map za1) ds)
 |[],_,.nil=>.cons hv .nil
 |(g,x)::r,_,.cons hx ht=>by
  rw[zG,Z6,Ee];split
  ·exact .cons hv ht
  ·exact .cons hx (S5 hv ht)
section
variable {X:Cx}{E:XK}{WX:Str->Hp->Prop}{c:Bool}{P0:Ds}{P:Addr->Prop}{H:Hp}{σ:St}{ρ:Aa}{a b e:Expr}{f g:Aa->M D}{fn:Aa->M OT}{fp:Aa->M (List Nat)}{pos:Pos}{i:Nat}{es:List Expr}{fs:Aa->M (List D)}
theorem Bp.ins {K:zy}{π:List Nat}{v:V}{t1:OT}{x:Str}{ns:List Str}{vs:List D}(pl:Bp K P H σ ρ i π v t1)(E:Ak K P0 P H σ ρ)(h:Pw i ρ π=.ok (x,ns,vs)):
 t1=.ins x ns (vs.map .sh)/\∃l C dx fs,v=.ref l/\Ag K (del H P) (fs.map zb1) vs/\BQ K H P (.ref l) (.ins x ns (vs.map .sh)) [l]/\zE K mainGlobals x=some (some (.ref C))/\H l=some (.ins C dx fs)/\ns=fs.map za1:=by
 unfold Pw at h;rw[pl.at] at h;split at h
 ·rename_i x' db wq e;split at h
  ·rename_i aJ e';cases e;cases h;have z:=D7 e';subst z;obtain⟨a9,o1,hp,nd⟩:=pl.own E;generalize ht:OT.ins x ns (vs.map .sh)=t at o1;cases o1 with
   |ins hn hh hr =>
    injection ht with h1 h2 h3
    subst h1 h2 h3;obtain⟨rfl,hs⟩:=hr.jT;exact⟨rfl,_,_,_,_,rfl,hs,.ins hn hh hr,hn,hh,rfl⟩
   |_=>cases ht
  ·cases h
 ·cases h
theorem MJ (cs:List Str){fl:Str}(i9:∀x∈cs,Iw X.K x fl)(ha:DP X WX a i fp)(hv:DE X WX true e f){pos':Pos}(hs:swapsWith e (some (.Attribute a fl pos')) pos.line X.env=pure false:=by rfl):
 DS X WX (.Assign [.Attribute a fl pos'] e pos) (λ ρ=>(f ρ).bind λ v=>(fp ρ).bind λ π=>(Pw i ρ π).bind λ z=>if z.1∈cs/\z.2.1.length<1000 then IU i ρ π (.ins z.1 (Z5 fl z.2.1) ((Z6 fl v z.2.1 z.2.2).map .sh)) else .bad):=by
 obtain⟨ta,a1,a2⟩:=ha;obtain⟨tv,v1,v2⟩:=hv;refine⟨_,lS a1 v1 hs,λ P0 P σ H Z ρ E h=>?_⟩;dsimp only at h;refine v2 P0 P σ H _ ρ E ?_;cases q0:f ρ with
 |bad=>rw[q0] at h;exact h
 |ex x=>rw[q0] at h;exact λ H' s=>h H' P (E.tr s)
 |ok d =>
  rw[q0] at h;simp only[M.A7] at h;intro w H0 s0 hw;have E0:=E.same s0;refine a2 P0 P σ H0 _ ρ E0 ?_;cases q:fp ρ with
  |bad=>rw[q] at h;exact h
  |ex x=>rw[q] at h;exact λ H' s=>h H' P ((E.tr s0).trans (E0.tr s))
  |ok π =>
   rw[q] at h;simp only[M.A7] at h;intro v t1 H1 s1 pl;have E1:=E0.same s1;have ye:=(E.tr s0).trans (E0.tr s1);cases q3:Pw i ρ π with
   |bad=>rw[q3] at h;exact h.elim
   |ex x=>exact (Z4 q3).elim
   |ok z =>
    obtain⟨x,ns,vs⟩:=z;rw[q3] at h;simp only[M.A7] at h;by_cases hc:x∈cs/\ns.length<1000
    ·rw[if_pos hc] at h;obtain⟨rfl,l,C,dx,fs,rfl,bZ,ot,hn,hH,rfl⟩:=pl.ins E1 q3;obtain⟨C',b8,cA,kg⟩:=(i9 x hc.1).ex;rw[hn] at b8;cases b8;have yf:=hw.mono s1.del;obtain⟨c,p,t0,g1,g2,E3,t3⟩:=E1.nA (o':=.ins C dx (Ee fl w fs)) (u:=.ins x (Z5 fl (fs.map za1)) ((Z6 fl d (fs.map za1) vs).map .sh)) pl ot (λ _=>⟨λ z=>(by cases z),λ _ z=>by cases z⟩) (λ mv=>by
      have:=BQ.ins (K:=X.K) (H:=upd H1 l (.ins C dx (Ee fl w fs))) (P:=P) (p:=l) (fs:=Ee fl w fs) (x:=x) hn Aj (((S5 yf bZ).mono mv).ows);rw[S4] at this;exact this)
     rw[JL g1 g2] at h;exact⟨l,C,dx,fs,rfl,hH,cA,kg,by have:=hc.2;rw[zC] at this;exact this,h _ _ _ (ye.trans t3) E3⟩
    ·rw[if_neg hc] at h;exact h.elim
end
theorem C2 {K:zy}{f:Str}:∀y∈([]:List Str),Iw K y f:=λ y h=>by cases h
theorem Bx {K:zy}{f x:Str}{xs:List Str}(h:Iw K x f)(t:∀y∈xs,Iw K y f):∀y∈x::xs,Iw K y f:=λ y hy=>by
 rcases zQ.mp hy with rfl|hy
 ·exact h
 ·exact t y hy
theorem FD {P:Program}{w:World}{K:zy}{mg:Str->Option Value}{base:Heap}{m:Str}{k n:Nat}:∀p∈([]:List (Str×(List D->M OT))),∃k',k'<=k/\IY P w K mg base p.1 m k' n p.2:=λ p h=>by cases h
theorem Er {P:Program}{w:World}{K:zy}{mg:Str->Option Value}{base:Heap}{m x:Str}{k k' n:Nat}{F:List D->M OT}{ms:List (Str×(List D->M OT))}(hk:k'<=k)(h:IY P w K mg base x m k' n F)(t:∀p∈ms,∃k',k'<=k/\IY P w K mg base p.1 m k' n p.2):
 ∀p∈(x,F)::ms,∃k',k'<=k/\IY P w K mg base p.1 m k' n p.2:=λ p hp=>by
 rcases zQ.mp hp with rfl|hp
 ·exact⟨k',hk,h⟩
 ·exact t p hp
end L2
set_option maxRecDepth 1000000
set_option maxHeartbeats 0
namespace L2
open PySem
theorem HX:entryFor table "dict.update.loop" = some Builtin.«dict.update.loop»:=by unfold entryFor;rfl
open PySem PySem.Spec PySem.Calls PyProof.Rows PySem.W PySem.Builtin PySem.Builtin.ObjectAttr
section
variable {prog:Program}{w:World}{A:Around}{E:Value->Shared->Prop}{s:Shared}
theorem call_meets {T id:String}{nm:Str}{B:Builtin}{self:Value}{rest:List Value}{Sp:PySem.Spec}{Q:Value->Shared->Prop}(SL:Slot T nm id)(hB:entryFor table id=some B)(ht:s.TypeIs self T)(ha:argsOk id ⟨self::rest,[]⟩)(m:Meets (B ⟨self::rest,[]⟩) Sp)
 (h:Sp A (λ r s'=>match r with | .ok (.ret v)=>Q v s' | .ok _=>False | .error e=>E e s') s):wpAny (model prog w) A (call (.builtin id) (self::rest)) Q E s:=
 wpAny_call (codeAny_call_builtin SL.plain hB (SL.check _ _ _ _ _ _ _ _ ht ha (m prog w A _ s h)))
theorem LF {l:Addr}{xs:Array Value}{k:Nat}{sl:Array (Option Value)}{Q:Option Value->Shared->Prop}(hh:A.handled=none)(hl:s.heap.get? l=some {cls:=.type "list",data:=.seq xs k,slots:=sl})
 (h:∀h' tk,(∀b o,s.heap.get? b=some o->h'.get? b=some o)->Q none {s with heap:=h',toks:=tk}):wpAny (model prog w) A (getAttr? (.ref l) "keys") Q E s:=by
 have miss:typeLookup (.type "list") "keys" = pure none:=am_miss_of_fast (by decide +kernel);have T0:∀hp:Heap,hp.get? l=some {cls:=.type "list",data:=.seq xs k,slots:=sl}->Looks (model prog w) hp (typeOf (.ref l)) (.type "list"):=λ hp e=>(Looks.ld e).andThen .now;have SL:=PySem.F.slot_list_getattribute;have ax:(onTheHeap (Value.type "list")&&Value.builtin "list.__getattribute__" == Value.builtin "object.__getattribute__")=false:=rfl;have qz:(false&&onTheHeap (Value.builtin "list.__getattribute__"))=false:=rfl;unfold getAttr? getAttrBy?;refine wpAny_bind (wpAny_mkText (wpAny_bind (wpAny_attempt ?_)));unfold getAttrBy;refine wpAny_holding (wpAny_bind ((T0 _ hl).at (wpAny_bind ?_)));rw[SL.lookup];refine wpAny_pure ?_;dsimp only;rw[ax,if_neg zaf];unfold getAttrByItsOwn hookBefore;rw[if_neg (show ¬ onTheHeap (Value.type "list")=true from zaf)];refine wpAny_bind (wpAny_pure (wpAny_bind (wpAny_attempt (wpAny_holding ?_))));unfold callGetattribute;rw[qz,if_neg zaf];unfold boundAndCalled;rw[SL.bind];refine wpAny_bind (wpAny_pure ?_);dsimp only;refine call_meets SL am_entry_list_getattribute ⟨_,hl,rfl⟩ (PySem.F.args_list_getattribute_2 _ _) (meets_getattribute_miss_list l xs k sl "keys" s.toks miss rfl (by decide)) ⟨hl,hh,λ h' tk e ne=>?_⟩;dsimp only;obtain⟨kp,nw,t,u,he⟩:=ne;have T1:Looks (model prog w) h' (typeOf (.ref e)) (.type "AttributeError"):=(Looks.ld he).andThen .now;unfold getattributeRaised isInstance;refine wpAny_bind (wpAny_bind (T1.at ?_));rw[sub_AttributeError];refine wpAny_pure ?_;rw[if_pos rfl];unfold hookBehind;rw[if_neg (show ¬ onTheHeap (Value.type "list")=true from zaf),am_list_getattr_none];refine wpAny_bind (wpAny_pure ?_);unfold hookOrError attributeErrorLeaves;dsimp only;rw[if_pos (show (!false)=true from rfl)];refine wpAny_bind (wpAny_throw ?_);refine wpAny_bind (wpAny_bind (T1.at ?_));rw[sub_AttributeError];refine wpAny_pure ?_;rw[if_pos rfl];exact wpAny_pure (h h' tk kp)
theorem Px {t:Addr}{aa:Array Value}{Q:List Value->Shared->Prop}(ht:IsTup s.heap t aa)(h:Q aa.toList s):wpAny (model prog w) A (Dict.pairItems (.ref t)) Q E s:=by
 obtain⟨o,h1,h2,n,h3⟩:=ht;have T0:Looks (model prog w) s.heap (typeOf (.ref t)) (.type "tuple"):=h2▸(Looks.ld h1).andThen .now;unfold Dict.pairItems;refine wpAny_bind (T0.at ?_);have hx:(Value.type "tuple" == Value.type "list" || Value.type "tuple" == Value.type "tuple")=true:=by decide
 rw[if_pos hx];exact wpAny_bind (wpAny_seqItems h1 h3 (wpAny_pure h))
theorem CK:plainId "dict.update.loop" = true:=by decide +kernel
theorem NA {K:Type}[DecidableEq K]{knd:KeyKind prog w K}{h h':Heap}{d I l:Addr}{i:Nat}{xs:List (List K×Addr×Value)}(hd:h.DictOfH (tupleKind knd) d xs)(hit:h.IsListIter I l i)(sb:∀b o,b≠I->h.get? b=some o->h'.get? b=some o):
 h'.DictOfH (tupleKind knd) d xs:=by
 obtain⟨o,es,ep,h1,h2,h3,h4,h5,h6⟩:=hd;obtain⟨oi,i1,i2,i3⟩:=hit;refine⟨o,es,ep,sb d o (λ z=>?_) h1,h2,h3,h4,λ x hx=>?_,h6⟩
 ·subst z;rw[i1] at h1;cases h1;rw[i3] at h3;cases h3
 ·obtain⟨ok,aa,n,k1,k2,k3,k4⟩:=h5 x hx;refine⟨ok,aa,n,sb _ _ (λ z=>?_) k1,k2,k3,k4⟩;rw[z,i1] at k1;cases k1;rw[i3] at k3;cases k3
theorem U4 {K:Type}[DecidableEq K]{knd:KeyKind prog w K}{R:Result->Shared->Prop}{d I l:Addr}{items:Array Value}{h0:Heap}(ps:List (List K×Addr×Value))(hh:A.handled=none)(bO:A.in1.units<cLine)(di:l≠I)(rb:d≠I)(ko:l≠d)
 (kr:ps.length=items.size) (hsz:items.size+1<=sizeLine) (hl:h0.IsList l items)
 (hp:∀(j:Nat) p,ps[j]?=some p->(p.2.1≠d/\p.2.1≠I/\(tupleKind knd).is h0 p.1 p.2.1)/\∃t,items[j]?=some (.ref t)/\t≠d/\t≠I/\IsTup h0 t #[.ref p.2.1,p.2.2]):
 ∀(m i:Nat) (xs:List (List K×Addr×Value)) (s:Shared),items.size-i=m->i<=items.size->xs.length<=i->s.heap.IsListIter I l i->s.heap.DictOfH (tupleKind knd) d xs->(∀b o,b≠d->b≠I->h0.get? b=some o->s.heap.get? b=some o)->
  (∀h' tk,h'.DictOfH (tupleKind knd) d ((ps.drop i).foldl (λ acc p=>storedH acc p.1 p.2.1 p.2.2) xs)->(∀b o,b≠d->b≠I->h0.get? b=some o->h'.get? b=some o)->R (.ok (.ret .none)) {s with heap:=h',toks:=tk})->
  codeAny (model prog w) A (.builtin "dict.update.loop" ⟨[.ref d,.ref I,rawInt i,.none],[]⟩) R s:=by
 intro m;induction m with
 |zero =>
  intro i xs s hm hi rc hit hd hf h;have bX:i=items.size:=by omega
  refine codeAny_builtin HX ?_;rw[zb8 CK _];show wpAny _ A.in1 (pyNext (.ref I) >>= _) _ _ s;refine wpAny_bind (wpAny_pyNext_list_end (A:=A.in1) hh hit (hl.at λ o e=>hf l o ko di e) (by simp[bX]) λ h' eb=>?_);have hd2:=NA hd hit λ b o hb e=>eb b o hb e;show wpAny _ A.in1 (Dict.addKeywords d [] >>= _) _ _ _;unfold Dict.addKeywords;refine wpAny_bind (wpAny_bind ?_);refine wpAny_pure (wpAny_pure (wpAny_pure ?_));have ed:ps.drop i=[]:=by rw[List.drop_eq_nil_iff];omega
  rw[ed] at h;exact h h' s.toks hd2 λ b o h1 h2 e=>eb b o h2 (hf b o h1 h2 e)
 |succ m ih =>
  intro i xs s hm hi rc hit hd hf h;have aj:i<items.size:=by omega
  obtain⟨p,g7⟩:∃p,ps[i]?=some p:=⟨ps[i]'(by omega),zJ _⟩;obtain⟨⟨p1,p2,p3⟩,t,ht,t1,t2,t3⟩:=hp i p g7;refine codeAny_builtin HX ?_;rw[zb8 CK _];show wpAny _ A.in1 (pyNext (.ref I) >>= _) _ _ s;refine wpAny_bind (wpAny_pyNext_list_item (A:=A.in1) hit (hl.at λ o e=>hf l o ko di e) ht λ h' aX sb=>?_);have hd2:h'.DictOfH (tupleKind knd) d xs:=NA hd hit λ b o hb e=>(sb.2 b hb).trans e;have jb:∀b o,b≠d->b≠I->h0.get? b=some o->h'.get? b=some o:=λ b o h1 h2 e=>(sb.2 b h2).trans (hf b o h1 h2 e);have t4:IsTup h' t #[.ref p.2.1,p.2.2]:=by
   obtain⟨o,e1,e2⟩:=t3;exact⟨o,jb t o t1 t2 e1,e2⟩
  have p4:(tupleKind knd).is h' p.1 p.2.1:=by
   obtain⟨o,aa,n,e1,e2⟩:=p3;exact⟨o,aa,n,jb _ o p1 p2 e1,e2⟩
  dsimp only;refine wpAny_bind (wpAny_holding (wpAny_bind (wpAny_tryCatch (Px t4 ?_))));show wpAny _ A.in1 (holding [.ref p.2.1,p.2.2] (dictSet d (.ref p.2.1) p.2.2)) _ _ _;refine wpAny_holding (wpAny_dictSet_heap (knd:=tupleKind knd) (hsz:=by omega) bO p4 hd2 λ h3 g8 kt=>?_);refine wpAny_pure ⟨plainId_quiet CK _,?_⟩;have g9:h3.IsListIter I l (i+1):=by
   obtain⟨o,e1,e2⟩:=aX;exact⟨o,(kt.2 I (zao rb)).trans e1,e2⟩
  have ed:ps.drop i=p::ps.drop (i+1):=by
   rw[zbr (by omega:i<ps.length)];rw[zJ (by omega:i<ps.length)] at g7;rw[za6 g7]
  rw[ed,zac] at h;have ke:(storedH xs p.1 p.2.1 p.2.2).length<=i+1:=by
   unfold storedH;split
   ·rw[zC];omega
   ·rw[za7,zb2];omega
  have q:=ih (i+1) (storedH xs p.1 p.2.1 p.2.2) {s with heap:=h3,toks:=s.toks+(tupleKind knd).draws p.1} (by omega) (by omega) ke g9 g8 (λ b o h1 h2 e=>(kt.2 b h1).trans (jb b o h1 h2 e)) h;exact q
theorem M4 {K:Type}[DecidableEq K]{knd:KeyKind prog w K}{Q:Value->Shared->Prop}{l:Addr}{items:Array Value}{n:Nat}{sl:Array (Option Value)}(ps:List (List K×Addr×Value))(hh:A.handled=none)(bO:A.units+2<cLine)
 (kr:ps.length=items.size) (hsz:items.size+1<=sizeLine) (hl:s.heap.get? l=some {cls:=.type "list",data:=.seq items n,slots:=sl})
 (hp:∀(j:Nat) p,ps[j]?=some p->(tupleKind knd).is s.heap p.1 p.2.1/\∃t,items[j]?=some (.ref t)/\IsTup s.heap t #[.ref p.2.1,p.2.2])
 (h:∀h' tk,h'.DictOfH (tupleKind knd) s.heap.objs.size (ps.foldl (λ acc p=>storedH acc p.1 p.2.1 p.2.2) [])->(∀b o,s.heap.get? b=some o->h'.get? b=some o)->Q (.ref s.heap.objs.size) {s with heap:=h',toks:=tk}):
 wpAny (model prog w) A (call (.type "dict") [.ref l]) Q E s:=by
 refine callType_codes (Q₁:=λ obj s₁=>obj=.ref s.heap.objs.size/\s₁={s with heap:=s.heap.push {cls:=.type "dict",data:=.dict #[]} }) PySem.F.kt_called_dict (PySem.F.kt_typeCall_dict_1 _) PySem.F.entry_dict_init
  (kt_code_dict_new _ ⟨rfl,rfl⟩) λ obj s₁ h₁=>?_
 obtain⟨rfl,rfl⟩:=h₁;have hS:(s.heap.push {cls:=.type "dict",data:=.dict #[]}).get? s.heap.objs.size=some {cls:=.type "dict",data:=.dict #[]}:=zZ _ rfl;have ll:l<s.heap.objs.size:=zT hl;have h7:(s.heap.push {cls:=.type "dict",data:=.dict #[]}).get? l=some {cls:=.type "list",data:=.seq items n,slots:=sl}:=zI _ hl;refine⟨⟨_,hS,rfl⟩,PySem.F.args_dict_init_2 _ _,?_⟩;have TD:Looks (model prog w) (s.heap.push {cls:=.type "dict",data:=.dict #[]}) (typeOf (.ref s.heap.objs.size)) (.type "dict"):=(Looks.ld hS).andThen .now;have TL:Looks (model prog w) (s.heap.push {cls:=.type "dict",data:=.dict #[]}) (typeOf (.ref l)) (.type "list"):=(Looks.ld h7).andThen .now;unfold Builtin.«dict.__init__» Dict.selfAndRest Dict.notOrdered;dsimp only;rw[if_pos (by decide)];refine wpAny_bind (wpAny_bind (wpAny_bind (TD.at ?_)));rw[if_neg (by decide)];refine wpAny_pure ?_;unfold Dict.addrOf;refine wpAny_bind (wpAny_pure (wpAny_pure ?_));unfold Dict.updateCommon Dict.updateFrom;dsimp only;refine wpAny_bind (TL.at ?_);rw[if_pos (by decide)];refine wpAny_bind (LF (A:=A.in1.in1) hh h7 λ h2 yg h8=>?_);rw[if_pos (show (none:Option Value).isNone=true from rfl)];refine wpAny_bind (wpAny_rule ?_);have aE:h2.IsList l items:=⟨_,h8 _ _ h7,rfl,n,rfl⟩;have ku:=h8 _ _ hS;refine wpAny_bind (wpAny_pyIter_list aE ?_);refine wpAny_pure ⟨plainId_quiet CK _,?_⟩;have lz:s.heap.objs.size<h2.objs.size:=zT ku;have re:∀b o,s.heap.get? b=some o->(h2.push {cls:=.type "list_iterator",data:=.fields #[.ref l,.int 0 0]}).get? b=some o:=λ b o e=>zI _ (h8 _ _ (zI _ e));have g8:(h2.push {cls:=.type "list_iterator",data:=.fields #[.ref l,.int 0 0]}).DictOfH (tupleKind knd) s.heap.objs.size []:=
  ⟨_,#[],0,zI _ ku,⟨rfl,rfl,rfl⟩,rfl,rfl,λ x hx=>absurd hx List.not_mem_nil,zb5⟩
 have aj:∀b o,s.heap.get? b=some o->b≠s.heap.objs.size/\b≠h2.objs.size:=λ b o e=>by
  have:=zT e;exact⟨zX this,zX (Nat.lt_trans this lz)⟩
 refine U4 (A:=A.in1) (knd:=knd) (l:=l) (h0:=s.heap) ps hh bO (zX (Nat.lt_trans ll lz)) (zX lz) (zX ll) kr hsz ⟨_,hl,rfl,n,rfl⟩ (λ j p hj=>?_) items.size 0 [] _ (by omega) (by omega) (by simp) ⟨_,zZ _ rfl,rfl,rfl⟩ g8 (λ b o h1 gj e=>re b o e) λ h' tk b7 rf=>?_
 ·obtain⟨q1,t,q2,q3⟩:=hp j p hj;obtain⟨o1,_,_,e1,_⟩:=id q1;obtain⟨o2,e2,_⟩:=id q3;exact⟨⟨(aj _ _ e1).1,(aj _ _ e1).2,q1⟩,t,q2,(aj _ _ e2).1,(aj _ _ e2).2,q3⟩
 ·exact⟨rfl,h h' tk b7 λ b o e=>rf b o (aj _ _ e).1 (aj _ _ e).2 e⟩
end
structure WS where
 (t:Addr) (κ:List Key) (b:Addr) (v:V)
def gL (H:Hp)(p:WS):Prop:=H p.t=some (.tup [.ref p.b,p.v])/\H p.b=some (.tup (p.κ.map kV))
noncomputable def tZ (ps:List WS):List (List Key×V):=ps.foldl (λ acc p=>putK acc p.κ p.v) []
noncomputable def yB (X:Cx)(te:TE):TE:=λ σ H Q=>te σ H λ x H1=>∃(l:Addr) (ps:List WS),x=.ref l/\DF X.K H1 l (ps.map λ p=>V.ref p.t)/\(∀p∈ps,gL H1 p)/\ps.length<=1000/\∀r,H1 r=none->Q (.ref r) (upd H1 r (.dT (tZ ps)))
theorem S6:∀ {ps:List WS}{us:List Value},Vals (ps.map λ p=>V.ref p.t) us->us=ps.map λ p=>zaq p.t
 |[],_,.nil=>rfl
 |p::ps,_,.cons h t=>by
  cases h;rw[zG,<-S6 t]
theorem jW {H:Hp}:∀ {ps:List WS}{qs:List (List Key×Addr×Value)}{kvs:List (List Key×V)}{xs:List (List Key×Addr×Value)},(∀p∈ps,gL H p)->Paired (λ(p:WS) (q:List Key×Addr×Value)=>p.κ=q.1/\p.b=q.2.1/\RelV p.v q.2.2) ps qs->KT H kvs xs->KT H (ps.foldl (λ acc p=>putK acc p.κ p.v) kvs) (qs.foldl (λ acc p=>storedH acc p.1 p.2.1 p.2.2) xs)
 |[],_,_,_,_,.nil,h=>h
 |p::ps,_,_,_,ho,.cons (b:=q) hq t,h=>by
  obtain⟨q1,q2,q3⟩:=q;obtain⟨e1,e2,e3⟩:=hq;dsimp only at e1 e2 e3;subst e1 e2;have r:=jW (ps:=ps) (λ p' hp=>ho p' (zF _ hp)) t (h.put p.κ (ho p zD).2 e3);exact r
theorem Z7:∀(ps:List WS) (kvs:List (List Key×V)),(ps.foldl (λ acc p=>putK acc p.κ p.v) kvs).length<=kvs.length+ps.length
 |[],kvs=>zU _
 |p::ps,kvs=>by
  have h1:=Z7 ps (putK kvs p.κ p.v);have h2:=Dn kvs p.κ p.v;rw[zac,zO];omega
theorem Vr {h:Heap}{H:Hp}{P:Program}{w:World}(ok:Fc P w H h):∀ {ps:List WS},(∀p∈ps,gL H p)->∃qs:List (List Key×Addr×Value),Paired (λ(p:WS) (q:List Key×Addr×Value)=>p.κ=q.1/\p.b=q.2.1/\RelV p.v q.2.2) ps qs/\
 ∀(j:Nat) q,qs[j]?=some q->(tupleKind (AL P w)).is h q.1 q.2.1/\∃t,(ps.map λ p=>zaq p.t)[j]?=some (.ref t)/\IsTup h t #[.ref q.2.1,q.2.2]
 |[],_=>⟨[],.nil,λ j q e=>by simp at e⟩
 |p::ps,ho=>by
  obtain⟨qs,h1,h2⟩:=Vr ok λ p hp=>ho p (zF _ hp);obtain⟨o1,o2⟩:=ho p zD;obtain⟨_,aa,r,it⟩:=(show B6 P w H h p.t (.tup [.ref p.b,p.v]) from ok p.t _ o1);obtain⟨u,v,rfl,ru,rv⟩:=r.two;cases ru;refine⟨(p.κ,p.b,v)::qs,.cons ⟨rfl,rfl,rv⟩ h1,λ j q e=>?_⟩;cases j with
  |zero =>
   rw[zb4] at e;cases e;exact⟨IG ok o2,p.t,by simp,it⟩
  |succ j =>
   rw[zaa] at e;obtain⟨a1,t,a2,a3⟩:=h2 j q e;exact⟨a1,t,by simpa using a2,a3⟩
section
variable {X:Cx}{WX:Str->Hp->Prop}{c:Bool}{P0:Ds}{P:Addr->Prop}{H:Hp}{σ:St}{ρ:Aa}{a b e:Expr}{f g:Aa->M D}{fn:Aa->M OT}{pos:Pos}{te:TE}
theorem Z8 {p:Pos}{n:Nat}(hc:X.calm=true)(hu:X.A.units+n<cLine)(hg:Gl X "dict")(hm:X.mg "dict" = none)(he:PE X e te)
 (hv:bootBuiltins "dict" = some (.type "dict"):=by decide +kernel)
 (hs:starEach [e] X.env=[(false,eval e X.env)]:=by rfl) (hn:2<=n:=by decide):
 PE X (.Call (.Name "dict" p) [e] [] pos) (yB X te):=by
 intro pins s σ H Q I h;refine wpAny_Call_Name_kw (Ed I hg hm hv ?_);refine zay ?_ hs;rw[hs];refine zbo (Bc (he pins s σ H _ I h) λ u s1 ⟨x,H1,I1,r1,q1⟩=>?_);obtain⟨l,ps,rfl,hq,ho,hlen,q⟩:=q1;cases r1;refine zbw ?_;obtain⟨aa,r',pl,hz⟩:=I1.list hq;have hits:=S6 r';subst hits;obtain⟨⟨rh,lb,lc,h9⟩,n0,o1,o2,o3,o4⟩:=pl;dsimp only at o2 o3 o4;subst o2 o3 o4;obtain⟨qs,h1,h2⟩:=Vr I1.Au ho;refine M4 (knd:=AL X.prog X.w) qs (I1.ok.hd hc) (by omega) (by rw[zL,zC,<-h1.length]) (AB (by rw[zL,zC];omega)) o1 (λ j p hj=>?_) λ h' tk hd kp=>?_
 ·obtain⟨a1,t,a2,a3⟩:=h2 j p hj;exact⟨a1,t,by rw[List.getElem?_toArray];exact a2,a3⟩
 ·have rj:=jW ho h1 (show KT H1 [] [] from .nil);have b9:s1.heap.objs.size<=s1.heap.objs.size:=zU _;have bP:=I1.Au.fresh b9;have rn:=Z7 ps [];obtain⟨o,es,ep,g1,g2,g3,g4,g5,g6⟩:=hd;refine⟨.ref _,_,I1.laid (t':=tk) (o:=.dT (tZ ps)) kp b9 ⟨zaz (AB (by unfold tZ;simp at rn;omega)),beq_eq_false_iff_ne.mpr (zao (zX I1.big)),_,rj.keeps (λ b ys eb=>by rw[Ab (λ z=>by rw[z,bP] at eb;cases eb)];exact eb),o,es,ep,g1,g2,g3,g4,g6⟩,rfl,q _ bP⟩
noncomputable def Qy:List D->Option (List (D×D))
 |[]=>some []
 | .tup [k,v]::r=>(Qy r).map ((k,v)::·)
 |_=>none
noncomputable def jX (l:List (D×D)):List D×List D:=l.foldl (λ z kv=>putD z.1 z.2 kv.1 kv.2) ([],[])
noncomputable def gM (d:D):M OT:=match d with
 | .lst xs=>(match Qy xs with|some l=>if l.length<=1000/\(l.all λ kv=>keyOk true kv.1)=true then .ok (.Bd true (jX l).1 ((jX l).2.map .sh)) else .bad|none=>.bad)
 |_=>.bad
theorem Vs {K:zy}{H:Hp}{P:Addr->Prop}:∀ {xs:List V}{ds:List D}{l:List (D×D)},Ag K (del H P) xs ds->Qy ds=some l->(l.all λ kv=>keyOk true kv.1)=true->
 ∃ps:List WS,xs=ps.map (λ p=>V.ref p.t)/\(∀p∈ps,gL H p)/\Paired (λ(p:WS) (kv:D×D)=>kv.1=.tup (p.κ.map Cp)/\Bu K (del H P) p.v kv.2) ps l
 |_,[],l,.nil,e,_=>by cases e;exact⟨[],rfl,λ p hp=>(by cases hp),.nil⟩
 |_,d::ds,l,.cons hd ht,e,hk=>by
  unfold Qy at e;split at e
  ·rename_i bv;cases bv
  ·rename_i k v r bv;cases bv;obtain⟨l',e1,e2⟩:=zc3.mp e;subst e2;rw[zcj,zad] at hk;obtain⟨ps,q1,q2,q3⟩:=Vs ht e1 hk.2;have hK:=En hk.1;cases hK with
   |t κ =>
    cases hd with
    |tup h1 h2 =>
     obtain⟨x,y,rfl,hx,hy⟩:=h2.two;cases hx with
     |tup g1 g2 =>
      rename_i tt bb dL;have ey:=Ag.keys κ g2;subst ey;refine⟨⟨tt,κ,bb,y⟩::ps,by rw[zG,q1],λ p hp=>?_,.cons ⟨rfl,hy⟩ q3⟩;rcases zQ.mp hp with rfl|hp
      ·exact⟨(Am h1).2,(Am g1).2⟩
      ·exact q2 p hp
  ·cases e
theorem Z9 {K:zy}{H:Hp}{P:Addr->Prop}:∀ {ps:List WS}{l:List (D×D)}{kvs:List (List Key×V)}{vs:List D},Paired (λ(p:WS) (kv:D×D)=>kv.1=.tup (p.κ.map Cp)/\Bu K (del H P) p.v kv.2) ps l->Ag K (del H P) (kvs.map zb1) vs->
 ∃aJ,l.foldl (λ z kv=>putD z.1 z.2 kv.1 kv.2) (kvs.map (λ kv=>D.tup (kv.1.map Cp)),vs)=((ps.foldl (λ acc p=>putK acc p.κ p.v) kvs).map (λ kv=>D.tup (kv.1.map Cp)),aJ)/\Ag K (del H P) ((ps.foldl (λ acc p=>putK acc p.κ p.v) kvs).map zb1) aJ
 |[],_,kvs,vs,.nil,h=>⟨vs,rfl,h⟩
 |p::ps,_,kvs,vs,.cons (b:=kv) hq t,h=>by
  obtain⟨k,d⟩:=kv;obtain⟨e1,e2⟩:=hq;dsimp only at e1 e2;subst e1;have hf:∀a b:List Key,Ax (.tup (a.map Cp)) (.tup (b.map Cp))=decide (a=b):=λ a b=>by simp only[Ax];exact Mq a b
  have aS:∃aJ,(putD (kvs.map λ kv=>.tup (kv.1.map Cp)) vs (.tup (p.κ.map Cp)) d)=((putK kvs p.κ p.v).map (λ kv=>.tup (kv.1.map Cp)),aJ)/\Ag K (del H P) ((putK kvs p.κ p.v).map zb1) aJ:=by
   unfold putD putK;rw[JH (fk:=λ κ:List Key=>D.tup (κ.map Cp)) hf];by_cases hh:(kvs.any λ kv=>decide (kv.1=p.κ))=true
   ·rw[if_pos hh,if_pos hh];refine⟨_,by rw[GF (fk:=λ κ:List Key=>D.tup (κ.map Cp)) hf],?_⟩;rw[<-GD (fk:=λ κ:List Key=>D.tup (κ.map Cp)) hf];exact GG e2 h
   ·rw[if_neg hh,if_neg hh];refine⟨_,by rw[zag];rfl,?_⟩;rw[zag];exact h.snoc e2
  obtain⟨yh,g1,g2⟩:=aS;obtain⟨rq,g3,g4⟩:=Z9 t g2;refine⟨rq,?_,g4⟩;rw[zac];dsimp only;rw[g1];exact g3
theorem S7 {p:Pos}{n:Nat}(hc:X.calm=true)(hu:X.A.units+n<cLine)(hg:Gl X "dict")(hm:X.mg "dict" = none)(he:DE X WX true e f)
 (hv:bootBuiltins "dict" = some (.type "dict"):=by decide +kernel)
 (hs:starEach [e] X.env=[(false,eval e X.env)]:=by rfl) (hn:2<=n:=by decide):
 DN X WX (.Call (.Name "dict" p) [e] [] pos) (λ ρ=>(f ρ).bind gM):=by
 obtain⟨te,e1,e2⟩:=he;refine⟨_,Z8 hc hu hg hm e1 hv hs hn,λ P0 P σ H Q ρ E h=>?_⟩;refine e2 P0 P σ H _ ρ E ?_;dsimp only at h;cases q:f ρ with
 |bad|ex x=>rw[q] at h;exact h
 |ok d =>
  rw[q] at h;simp only[M.A7] at h;intro v H1 s1 hv;unfold gM at h;split at h
  ·rename_i xs;split at h
   ·rename_i l eb;split at h
    ·rename_i hl;cases hv with
     |lst hs hh =>
      obtain⟨ps,q1,q2,q3⟩:=Vs hh eb hl.2;subst q1;obtain⟨aJ,g1,g2⟩:=Z9 (kvs:=[]) q3 .nil;refine⟨_,ps,rfl,hs.Bg,q2,by rw[q3.length];exact hl.1,λ r hr=>?_⟩;have e3:jX l=((tZ ps).map (λ kv=>D.tup (kv.1.map Cp)),aJ):=g1;rw[e3] at h;have b8:∀a∈[r],H1 a=none:=λ a ha=>by rw[zS.mp ha];exact hr
      exact h _ [r] _ (s1.trans (AK hr _)) (λ a ha=>Cc s1 (b8 a ha)) (by simp) (.dT Aj (g2.mono (BG (AK hr _) b8)).ows)
    ·exact h.elim
   ·exact h.elim
  ·exact h.elim
end
open PySem PySem.Spec PyProof.Rows
section
variable {X:Cx}{WX:Str->Hp->Prop}{c:Bool}{P0:Ds}{P:Addr->Prop}{H:Hp}{σ:St}{ρ:Aa}{a b e:Expr}{f g:Aa->M D}{fn:Aa->M OT}{pos:Pos}{te:TE}
noncomputable def Za (x y:D):M D:=match x,y with
 | .tup xs,.tup ys=>(match CG xs,CG ys with|some ns,some ms=>.ok (.bl (HT.lexLt ns ms))|_,_=>.bad)
 |_,_=>.bad
theorem Vt:V2 X.K WX (qR X.K) Za:=by
 intro P H x y v w Q ht hx hy h;unfold Za at h;split at h
 ·rename_i xs ys;split at h
  ·rename_i ns ms e1 e2;have:=E9 e1;subst this;have:=E9 e2;subst this;cases hx with
   |tup h1 h2 =>
    cases hy with
    |tup h3 h4 =>
     have:=El h2;subst this;have:=El h4;subst this;exact⟨_,_,ns,ms,rfl,rfl,EL.of (Am h1).2,EL.of (Am h3).2,h _ H (Ac.refl H) (.bl _)⟩
  ·exact h.elim
 ·exact h.elim
theorem vQ {n:Nat}(hu:X.A.units+n<cLine)(ha:DE X WX c a f)(hb:DE X WX c b g):DE X WX c (.Compare a [.Lt] [b] pos) (λ ρ=>(f ρ).bind λ x=>(g ρ).bind λ y=>Za x y):=Yk (Y7 (by omega)) Vt ha hb (ID _)
theorem Zb {n:Nat}(hu:X.A.units+n<cLine)(ha:DE X WX c a f)(hb:DE X WX c b g):DT X WX (.Compare a [.Lt] [b] pos) (λ ρ=>((f ρ).bind λ x=>(g ρ).bind λ y=>Za x y).bind P9):=Fv (Y7 (by omega)) Vt ha hb (ID _)
theorem Zc (hk:DE X WX true a f)(hv:DE X WX true b g):DN X WX (.Dict [some a] [b] pos) (λ ρ=>(f ρ).bind λ k=>(g ρ).bind λ v=>if keyOk false k=true then .ok (.Bd false [k] [.sh v]) else .bad):=by
 obtain⟨tk,k1,k2⟩:=hk;obtain⟨tv,v1,v2⟩:=hv;refine⟨_,eB (Ye k1 v1 eA) rfl rfl (by simp) (by simp),λ P0 P σ H Q ρ E h p hp=>?_⟩;dsimp only at h;have hn:∀a∈[p],H a=none:=λ a ha=>by rw[zS.mp ha];exact hp
 have s0:Ac H (upd H p (.dK [])):=AK hp _;have E1:Ak X.K P0 (PU P [p]) (upd H p (.dK [])) σ ρ:=E.more s0 IQ (λ a ha=>ha.elim (λ z=>(E.C3 a z).same s0) λ z=>by
  rw[zS.mp z];exact⟨_,Aj,λ _=>⟨λ z=>(by cases z),λ _ z=>by cases z⟩⟩) (BG s0 hn)
 refine k2 P0 (PU P [p]) σ _ _ ρ E1 ?_;cases q:f ρ with
 |bad=>rw[q] at h;exact h
 |ex x=>rw[q] at h;exact λ H' s=>h H' (s0.trans s)
 |ok k =>
  rw[q] at h;simp only[M.A7] at h;intro y H2 s2 hy;have E2:=E1.same s2;refine v2 P0 (PU P [p]) σ H2 _ ρ E2 ?_;cases q2:g ρ with
  |bad=>rw[q2] at h;exact h
  |ex x=>rw[q2] at h;exact λ H' s=>h H' ((s0.trans s2).trans s)
  |ok d =>
   rw[q2] at h;simp only[M.A7] at h;intro w H3 s3 hw;by_cases hc:keyOk false k=true
   ·rw[if_pos hc] at h;have hK:=En hc;cases hK with
    |k κ =>
     have ey:=hy.fE;subst ey;refine⟨s3 _ _ (s2 _ _ Aj),[(κ,w)],rfl,by simp,?_⟩;have s4:Ac H (upd H3 p (.dK (Gs [] [(κ,w)]))):=λ a o ha=>by
      rw[Ab (λ z=>by rw[z,hp] at ha;cases ha)];exact s3 _ _ (s2 _ _ (s0 _ _ ha))
     have s5:Ac (del H3 (PU P [p])) (del (upd H3 p (.dK (Gs [] [(κ,w)]))) (PU P [p])):=λ a o ha=>by
      obtain⟨n1,n2⟩:=Am ha;rw[Az n1,Ab (λ z=>n1 (.inr (by rw[z];exact zS.mpr rfl)))];exact n2
     refine h _ [p] _ s4 hn (by simp) ?_;have e1:Gs [] [(κ,w)]=[(κ,w)]:=rfl;rw[e1] at s5 ⊢;exact .dK (kvs:=[(κ,w)]) Aj (.cons (.sh (hw.mono s5)) .nil)
   ·rw[if_neg hc] at h;exact h.elim
noncomputable def Vu (x:D)(m:M D):M D:=match x with
 | .Bd b ks vs=>m.bind λ y=>if keyOk b y=true then .ok ((Gj ks vs y).getD .AF) else .bad
 |_=>.bad
theorem gN {K:zy}{v:V}{bb:Bool}{ks vs:List D}{P:Addr->Prop}(h:Bu K (del H P) v (.Bd bb ks vs)):∃a,v=.ref a/\vB H a:=by
 cases h with
 |Gu h1 h2=>exact⟨_,rfl,.inl ⟨_,h1.Bg⟩⟩
 |Hz h1 h2=>exact⟨_,rfl,.inr ⟨_,h1.Bg⟩⟩
theorem NC {n:Nat}{o k:Expr}{apos ae:Pos}(hu:X.A.units+n<cLine)(ha:DE X WX c o f)(hb:DE X WX c k g)(m:M1 X o "get" apos k ae:=by exact⟨rfl,rfl,rfl,rfl⟩)(hn:1<=n:=by decide):
 DE X WX c (.Call (.Attribute o "get" apos) [k] [] ae) (λ ρ=>(f ρ).bind λ x=>Vu x (g ρ)):=by
 obtain⟨ta,a1,a2⟩:=ha;obtain⟨tb,b1,b2⟩:=hb;refine⟨_,Yg (by omega) a1 b1 m,λ P0 P σ H Q ρ E h=>?_⟩;dsimp only at h;refine a2 P0 P σ H _ ρ E ?_;cases q:f ρ with
 |bad|ex x=>rw[q] at h;exact h
 |ok x =>
  rw[q] at h;simp only[M.A7] at h;intro v H1 s1 hv;unfold Vu at h;split at h
  ·rename_i bb ks vs;obtain⟨a,rfl,hD⟩:=gN hv;refine⟨a,rfl,hD,b2 P0 P σ H1 _ ρ (E.same s1) ?_⟩;cases e2:g ρ with
   |bad=>rw[e2] at h;exact h
   |ex y=>rw[e2] at h;exact gV.same (m:=.ex y) h s1
   |ok y =>
    rw[e2] at h;simp only[M.A7] at h;intro w H2 s2 hw;by_cases hk:keyOk bb y=true
    ·rw[if_pos hk] at h;obtain⟨a',xs,ea,g',hl,b8⟩:=Qp (hv.mono s2.del) hw (En hk);cases ea;refine⟨_,g',?_⟩;refine gV.same (gV.same h s1) s2 _ H2 (Ac.refl _) ?_;cases eg:Gj ks vs y with
     |none =>
      have:Gj ks xs y=none:=by
       cases yi:Gj ks xs y with
       |none=>rfl
       |some z =>
        have h1:=HH (xs:=xs) (y:=y) b8;have h2:=HH (ks:=ks) (xs:=vs) (y:=y) (by rw[<-hl.length,b8]);rw[h1,yi,eg] at h2;cases h2
      rw[this];exact .AF
     |some d =>
      obtain⟨x,e3,e4⟩:=Nq hl eg;rw[e3];exact e4
    ·rw[if_neg hk] at h;exact h.elim
  ·exact h.elim
end
structure nI (K:zy)(x qual:Str)(st:Stmt)(f:Addr)(fd:FuncData):Prop where
 ex:∃(oc:Value) (od:Option Addr) (dV kV doc pm:Value) (an:Option Addr) (B4 ct:Value) (T9:Array (Option Value)),
  fd=zai x qual (AW st) (AE st) (A3 st) dV kV doc pm an B4 ct/\K.lookup f=some ⟨oc,od,.func fd,T9⟩/\zau K B4 qual=true
 kp:zah K (.ref f)=true
section
variable {P:Program}{w:World}{K:zy}{mg:Str->Option Value}{base:Heap}
theorem gO {x qual:Str}{st:Stmt}{f:Addr}{fd:FuncData}{N ps:List Str}{k:Nat}(F:nI K x qual st f fd)(S:Ai N ps (A3 st))(g:Aa->M Out)
 (hb:∀(B4:Value) (A:Around) (outer:List Env) (s:Shared) (H:Hp) (E:XK),BM k (A.deeper (envOfC qual (A3 st) s.heap.objs.size f B4))->Ta (V6 P w K mg base N qual (A3 st) f B4 A outer s H E) (Dt K E) (AE st) g):
 Dr P w K mg base (TR P w base) (k+1) f fd ps (Pm K ps.length λ t a5=>Eo (g (D3 N t a5))):=by
 obtain⟨oc,od,dV,kV,doc,pm,an,B4,ct,T9,rfl,lk,br⟩:=F.ex;refine US lk br S (λ vs H Q E h=>h.1) λ A outer s H vs Q E hr h=>?_;obtain⟨hl,P',p,t,fp,rest,a5,rfl,ht,hp,nd,ho,hv,hq⟩:=h;obtain⟨tt,h1,h2⟩:=hb B4 A outer s H E hr;refine⟨tt,h1,h2 ⟨λ a=>P' a/\a∉fp,λ _=>p⟩ P' _ H _ _ (JK ht hp nd ho hv) ?_⟩;dsimp only at hq;revert hq;cases g (D3 N t a5) with
 |bad|ex x=>exact λ h=>h.elim
 |ok o =>
  have sub:∀ {P2:Addr->Prop} {H2:Hp} {σ2:St} {ρ:Aa},Ak K ⟨λ a=>P' a/\a∉fp,λ _=>p⟩ P2 H2 σ2 ρ->∀a,P2 a/\¬ (P' a/\a∉fp)->P2 a/\(P' a->a∈fp):=λ E a ha=>⟨ha.1,λ z=>Classical.byContradiction λ w=>ha.2 ⟨z,w⟩⟩;cases o with
  |ret d|CN d=>exact λ h=>h.elim
  |next ρ =>
   intro hq σ' H' P2 t2 E2;unfold Eo at hq;dsimp only at hq;split at hq
   ·rename_i t' e;obtain⟨c,ak,k1,k2,k3,k4,k5,k6⟩:=Ms E2 e;exact hq .AF H' P2 ak [] (λ a ha hn=>⟨E2.sub a ⟨ha,hn⟩,t2.2 a ⟨ha,hn⟩⟩) E2.C3 t2.1 k4 k5 (.sh .AF) zb5 (λ a ha=>by cases ha) (λ a ha=>sub E2 a (k6 a ha)) (λ a ha=>by cases ha)
   ·exact hq.elim
  |Fg r ρ =>
   intro hq v fr σ' H' P2 t2 E2 o2 b5 hf;unfold Eo at hq;dsimp only at hq;split at hq
   ·rename_i t' e;obtain⟨c,ak,k1,k2,k3,k4,k5,k6⟩:=Ms E2 e;exact hq v H' P2 ak fr (λ a ha hn=>⟨E2.sub a ⟨ha,hn⟩,t2.2 a ⟨ha,hn⟩⟩) E2.C3 t2.1 k4 k5 o2 b5 (λ a ha=>(hf a ha).2.2 0 c _ ak k1 k2 k3) (λ a ha=>sub E2 a (k6 a ha)) (λ a ha=>sub E2 a ⟨(hf a ha).1,(hf a ha).2.1⟩)
   ·exact hq.elim
  |brk ρ|cont ρ=>exact λ h=>h.elim
end
theorem gQ {K:zy}{x qual:Str}{st:Stmt}{f:Addr}{oc:Value}{od an:Option Addr}{T9:Array (Option Value)}{dV kV doc pm B4 ct:Value}(l:K.lookup f=some ⟨oc,od,.func (zai x qual (AW st) (AE st) (A3 st) dV kV doc pm an B4 ct),T9⟩)
 (c:zau K B4 qual=true) (k:zah K (.ref f)=true):nI K x qual st f (zai x qual (AW st) (AE st) (A3 st) dV kV doc pm an B4 ct):=⟨⟨oc,od,dV,kV,doc,pm,an,B4,ct,T9,rfl,l,c⟩,k⟩
structure S8 (P:Program)(w:World)(K:zy)(mg:Str->Option Value)(base:Heap)(x:Str)(k n:Nat)(F:OT->List D->M (OT×OT)):Prop where
 ex:∃C fa fd ps,nG K mg x C/\Mk K C fa/\Dr P w K mg base (TR P w base) k fa fd ps (Pm K n F)/\Binds K fd ps []/\Binds K fd ps [.none]
theorem S8.yC {P:Program}{w:World}{K:zy}{mg:Str->Option Value}{base:Heap}{x:Str}{k n:Nat}{F:OT->List D->M (OT×OT)}(G:S8 P w K mg base x k n F):sL P w K mg base x k n F:=by
 obtain⟨C,fa,fd,ps,h1,h2,h3,h4,_⟩:=G.ex;exact⟨⟨C,fa,fd,ps,h1,h2,h3,h4⟩⟩
structure U5 (K:zy)(mg:Str->Option Value)(x qual:Str)(st:Stmt)(ps:List Str):Prop where
 ex:∃C f fd,nG K mg x C/\Mk K C f/\nI K "__init__" qual st f fd/\Binds K fd ps []/\Binds K fd ps [.none]
theorem Zd {P:Program}{w:World}{K:zy}{mg:Str->Option Value}{base:Heap}{x qual:Str}{st:Stmt}{N ps:List Str}{k n:Nat}(T:U5 K mg x qual st ps)(S:Ai N ps (A3 st))(g:Aa->M Out)
 (hb:∀(f:Addr) (B4:Value) (A:Around) (outer:List Env) (s:Shared) (H:Hp) (E:XK),BM k (A.deeper (envOfC qual (A3 st) s.heap.objs.size f B4))->Ta (V6 P w K mg base N qual (A3 st) f B4 A outer s H E) (Dt K E) (AE st) g) (hn:ps.length=n:=by rfl):
 S8 P w K mg base x (k+1) n (λ t a5=>Eo (g (D3 N t a5))):=by
 obtain⟨C,f,fd,h1,h2,F,hB⟩:=T.ex;subst hn;exact⟨⟨C,f,fd,ps,h1,h2,gO F S g (hb f),hB⟩⟩
theorem AY {K:zy}{mg:Str->Option Value}{h:Heap}{x:Str}{st:Stmt}{ps:List Str}(X:K.In h)(G:h.Ns mainGlobals mg)(p:FP K x st)(hb:∀(kV dc pm:Value) (an:Option Addr) (cd ct:Value) (us:List Value),us.length=ps.length->bindArgs (zai x x (AW st) (AE st) (A3 st) .none kV dc pm an cd ct) ⟨us,[]⟩=pure (ps.zip us):=by first | exact (λ _ _ _ _ _ _ us hl=>match us,hl with | [_],_=>rfl) | exact (λ _ _ _ _ _ _ us hl=>match us,hl with | [_,_],_=>rfl) | exact (λ _ _ _ _ _ _ us hl=>match us,hl with | [_,_,_],_=>rfl) | exact (λ _ _ _ _ _ _ us hl=>match us,hl with | [_,_,_,_],_=>rfl)):AO K mg x st ps:=by
 obtain⟨f,oc,od,an,sl,kV,dc,pm,cd,ct,a,l,c,k⟩:=p.ex;have F:=Tx (st:=st) l c k;exact⟨⟨_,_,F,PySem.W.mg_of X G a,F.binds hb⟩⟩
theorem Vv {K:zy}{C:Addr}{x m qual:Str}{st:Stmt}{ps:List Str}(aC:zE K mainGlobals x=some (some (.ref C)))(cl:Wa K C)(p:MP K C m qual st)(hb:∀(kV dc pm:Value) (an:Option Addr) (cd ct:Value) (us:List Value),us.length=ps.length->bindArgs (zai m qual (AW st) (AE st) (A3 st) .none kV dc pm an cd ct) ⟨us,[]⟩=pure (ps.zip us):=by first | exact (λ _ _ _ _ _ _ us hl=>match us,hl with | [_],_=>rfl) | exact (λ _ _ _ _ _ _ us hl=>match us,hl with | [_,_],_=>rfl) | exact (λ _ _ _ _ _ _ us hl=>match us,hl with | [_,_,_],_=>rfl) | exact (λ _ _ _ _ _ _ us hl=>match us,hl with | [_,_,_,_],_=>rfl)):Pt K x m qual st ps:=by
 obtain⟨f,oc,od,an,sl,kV,dc,pm,cd,ct,a,i,l,c,k⟩:=p.ex;have F:=Tx (st:=st) l c k;exact⟨⟨_,_,_,aC,cl,⟨a,i,k⟩,F,F.binds hb⟩⟩
open PySem PySem.W PySem.Calls PyProof.Rows
noncomputable def R0:Rn:=⟨topRun,Heap.nsMap,importEnds,fenceModules?,PySem.start,treeTable⟩
theorem nJ:R0=R1:=by
 unfold R0 R1;rw[PySem.W.Fast.te14082659384304107361,PySem.W.Fast.te8920871248978507458,PySem.W.Fast.te10274390034422433532,PySem.W.Fast.te14289696077712309145,PySem.W.Fast.te1435165496053646825,PySem.W.Fast.te14364793385576792824]
theorem Vw (p:Program)(w:World)(N:Nat):openEnds treeTable p w N=MR R0 p w N:=by
 unfold openEnds fencedOpening MR;rfl
theorem ND {h:Heap}{a:Addr}{o:Obj}:∀ {as:List Addr},(tH h as).lookup a=some o->h.get? a=some o
 |[],e=>by cases e
 |b::r,e=>by
  unfold tH at e;rw[zbc] at e;cases q:h.get? b with
  |none=>rw[q] at e;exact ND (as:=r) e
  |some u =>
   rw[q] at e;dsimp only [zbd] at e;rw[zc4] at e;cases c:a==b with
   |true=>rw[c] at e;cases e;rw[eq_of_beq c];exact q
   |false=>rw[c] at e;exact ND (as:=r) e
def sM (h h':Heap):Prop:=∀(b:Addr) (o:Obj),h.get? b=some o->h'.get? b=some o
theorem nK {h h':Heap}{as:List Addr}(s:sM h h'):(tH h as).In h':=λ a o e=>s a o (ND e)
theorem gR {p q:Program}{Xt:Shared->Bool}{N:Nat}(h:∀w:World,(openEnds treeTable p w N).map (λ s=>openSeen q [] (importedModules p.main.body) Xt true s)=some (openGood q [])):LeftO p q [] Xt (λ s=>s.heap) (λ w=>Xz R0 p w N) N:=λ w=>by
 have e:=h w;unfold Xz;dsimp only;rw[<-Vw];cases q':openEnds treeTable p w N with
 |none=>rw[q'] at e;cases e
 |some s =>
  rw[q'] at e;rw[zbd] at e ⊢;dsimp only;rw[za6 e]
theorem Qz {α β γ:Type}{o:Option γ}{f:γ->α×β}{a:α×β}(h:o.map (λ s=>(f s).1)=some a.1)(k:o.map (λ s=>(f s).2)=some a.2):o.map f=some a:=by
 cases o with
 |none=>cases h
 |some s =>
  rw[zbd] at h k ⊢;exact congrArg some (Prod.ext (za6 h) (za6 k))
theorem sN {l:PySem.W.OpenLaw}{n k:Nat}{q:Program}{loose:List Str}{XP:(Str->Option Value)->Heap->Prop}{YP:World->Heap->Prop}{d:DefRec}{K:World->zy}{CX:World->UQ}{sp:World->Sp}{x:Str}
 (hn:l.most=some n) (aD:n<=sizeLine) (gu:d.params.defaults=[]) (hr:BM k callerA) (hY:∀(w:World) (h:Heap),YP w h->(K w).In h)
 (F:∀(w:World) (mg:Str->Option Value) (fa:Addr) (h:Heap),(K w).In h->h.Ns mainGlobals mg->mg d.name=some (.ref fa)->∃fd:FuncData,(∀(s:Shared) (u:Value),BindsTo s fd ⟨[u],[]⟩ [(x,u)])/\
  ∀base:Heap,(K w).In base->base.Ns mainGlobals mg->Dr l.prog w (K w) mg base (CX w) k fa fd [x] (sp w))
 (bU:∀(w:World) (H:Hp) (a:Addr) (ns:List Int),(∀n∈ns,Sm n)->ns.length<=n->dW H->DF (K w) H a (ns.map V.int)->sp w [.ref a] H (λ v _=>v=.bl true) λ _ _ _=>False)
 (jr:∀(w:World) (H:Hp) (s:Shared) (e:Value) (s':Shared),CX w [] H s (λ _ _ _=>False) e s'->False):PySem.W.WalkO q loose XP YP l.row.toRowW d [] (λ f vs=>PySem.call f vs):=by
 refine HT.Pf hn gu λ w s₀ s₁ mg mb fa o pm cd doc a vs ns bN G Y ho hd br gw c8 bz hlen hg=>?_;have KX:=hY w _ Y;obtain⟨fd,hb,hF⟩:=F w mg fa _ KX G.T.g gw;exact Ru KX G.T.g G.T.b G.T.builtins G.T.nolimit hg c8 bz (zat hlen aD) hr hF hb (λ H hO hS=>bU w H a ns bN hlen hO hS) λ H e s'=>jr w H s₁ e s'
noncomputable def cst:Option (Int×Int)->D
 |none=>.AF
 |some p=>.tup [.int p.1,.int p.2]
noncomputable def Ap:Option (Int×Int)->Option (Int×Int)->Option (Int×Int)
 |some p,some q=>some (p.1+q.1,p.2+q.2)
 |_,_=>none
noncomputable def cO (p q:Int×Int):Int×Int:=if p.1<q.1\/(p.1=q.1/\p.2<=q.2) then p else q
noncomputable def Dq:Option (Int×Int)->Option (Int×Int)->Option (Int×Int)
 |none,b=>b
 |some p,none=>some p
 |some p,some q=>some (cO p q)
noncomputable def Ct (cs:List (Option (Int×Int))):Option (Int×Int):=cs.foldl Dq none
theorem LG (cs:List (Option (Int×Int))):AX (λ d ρ=>.ok (ρ.set 0 (some (.val d)))) (λ ρ=>(rv 0 ρ).bind λ x=>.ok (!Bj x)) (rv 0) (cs.map cst) [none]=.ok ((cs.filterMap id).map λ p=>cst (some p)):=by
 induction cs with
 |nil=>rfl
 |cons c r ih =>
  rw[zG,AX];cases c with
  |none =>
   show AX _ _ _ (r.map cst) [none]=_;rw[ih];rfl
  |some p =>
   show (match AX _ _ _ (r.map cst) [none] with | .ok ys=>M.ok (cst (some p)::ys)|_=>.bad)=_;rw[ih];rfl
theorem WT (ps:List (Int×Int)):Gz (ps.map λ p=>cst (some p))=some (ps.map λ p=>(cst (some p),[p.1,p.2])):=by
 induction ps with
 |nil=>rfl
 |cons p r ih=>rw[zG,Gz,ih];rfl
theorem Ze (cs:List (Option (Int×Int))):B0 ((cs.filterMap id).map λ p=>(cst (some p),[p.1,p.2]))=(Ct cs).map λ p=>(cst (some p),[p.1,p.2]):=by
 have key:∀(cs:List (Option (Int×Int))) (z:Option (Int×Int)),((cs.filterMap id).map λ p=>(cst (some p),[p.1,p.2])).foldl BK (z.map λ p=>(cst (some p),[p.1,p.2]))=(cs.foldl Dq z).map λ p=>(cst (some p),[p.1,p.2]):=by
  intro cs;induction cs with
  |nil=>intro z;rfl
  |cons c r ih =>
   intro z;cases c with
   |none =>
    rw[show List.filterMap id (none::r)=List.filterMap id r from rfl,zac,ih z];cases z<;>rfl
   |some q =>
    rw[show List.filterMap id (some q::r)=q::List.filterMap id r from rfl,zG,zac,zac,<-ih (Dq z (some q))];congr 1;cases z with
    |none=>rfl
    |some p =>
     simp only[zbd,BK,HT.Fs,HT.ES,Dq,cO];by_cases h1:q.1=p.1
     ·by_cases h2:q.2=p.2
      ·rw[if_pos (show p.1<q.1\/(p.1=q.1/\p.2<=q.2) by omega)];simp[h1,h2]
      ·by_cases h3:q.2<p.2
       ·rw[if_neg (show ¬ (p.1<q.1\/(p.1=q.1/\p.2<=q.2)) by omega)];simp[h1,h2,h3]
       ·rw[if_pos (show p.1<q.1\/(p.1=q.1/\p.2<=q.2) by omega)];simp[h1,h2,h3]
     ·by_cases h3:q.1<p.1
      ·rw[if_neg (show ¬ (p.1<q.1\/(p.1=q.1/\p.2<=q.2)) by omega)];simp[h1,h3]
      ·rw[if_pos (show p.1<q.1\/(p.1=q.1/\p.2<=q.2) by omega)];simp[h1,h3]
 exact key cs none
theorem gU (cs:List (Option (Int×Int))):V5 (.lst ((cs.filterMap id).map λ p=>cst (some p))) .AF=.ok (cst (Ct cs)):=by
 simp only[V5,WT,Ze];cases Ct cs<;>rfl
theorem Zf (cs:List (Option (Int×Int))):JA (AX (λ d ρ=>.ok (ρ.set 0 (some (.val d)))) (λ ρ=>(rv 0 ρ).bind λ x=>.ok (!Bj x)) (rv 0) (cs.map cst) [none])=.ok (.lst ((cs.filterMap id).map λ p=>cst (some p))):=by
 rw[LG];rfl
noncomputable abbrev Co:=Option (Int×Int)
def BY:Co->Co->Prop
 |_,none=>True
 |none,some _=>False
 |some p,some q=>p.1<q.1\/(p.1=q.1/\p.2<=q.2)
theorem C7:∀a:Co,BY a a
 |none=>trivial
 |some p=>.inr ⟨rfl,Int.le_refl _⟩
theorem As:∀ {a b c:Co},BY a b->BY b c->BY a c
 |_,_,none,_,_=>trivial
 |none,none,some _,_,h|some _,none,some _,_,h|none,some _,some _,h,_=>h.elim
 |some p,some q,some r,h1,h2=>by simp only[BY] at *;omega
theorem NE:∀ {a b:Co},BY a b->BY b a->a=b
 |none,none,_,_=>rfl
 |none,some _,h,_|some _,none,_,h=>h.elim
 |some p,some q,h1,h2=>by
  obtain⟨p1,p2⟩:=p;obtain⟨q1,q2⟩:=q;simp only[BY] at h1 h2;have e1:p1=q1:=by omega
  have e2:p2=q2:=by omega
  rw[e1,e2]
theorem Bq:∀a b:Co,(Dq a b=a/\BY a b)\/(Dq a b=b/\BY b a/\a≠b)
 |none,none=>.inl ⟨rfl,trivial⟩
 |none,some q=>.inr ⟨rfl,trivial,λ h=>by cases h⟩
 |some p,none=>.inl ⟨rfl,trivial⟩
 |some p,some q=>by
  unfold Dq cO;by_cases h:p.1<q.1\/(p.1=q.1/\p.2<=q.2)
  ·dsimp only;rw[if_pos h];exact .inl ⟨rfl,h⟩
  ·dsimp only;rw[if_neg h];refine .inr ⟨rfl,?_,λ e=>?_⟩
   ·simp only[BY];omega
   ·cases e;exact h (.inr ⟨rfl,Int.le_refl _⟩)
theorem EN (a b:Co):BY (Dq a b) a:=by
 rcases Bq a b with ⟨e,h⟩|⟨e,h,_⟩
 ·rw[e];exact C7 a
 ·rw[e];exact h
theorem EO (a b:Co):BY (Dq a b) b:=by
 rcases Bq a b with ⟨e,h⟩|⟨e,h,_⟩
 ·rw[e];exact h
 ·rw[e];exact C7 b
theorem S9 (cs:List Co):∀z:Co,BY (cs.foldl Dq z) z/\(∀x∈cs,BY (cs.foldl Dq z) x)/\(cs.foldl Dq z=z\/cs.foldl Dq z∈cs):=by
 induction cs with
 |nil=>intro z;exact⟨C7 z,(λ x h=>by cases h),.inl rfl⟩
 |cons c r ih =>
  intro z;obtain⟨h1,h2,h3⟩:=ih (Dq z c);rw[zac];refine⟨As h1 (EN z c),λ x hx=>?_,?_⟩
  ·rcases zQ.mp hx with rfl|hx
   ·exact As h1 (EO z x)
   ·exact h2 x hx
  ·rcases h3 with h3|h3
   ·rw[h3];rcases Bq z c with ⟨e,_⟩|⟨e,_⟩
    ·exact .inl e
    ·rw[e];exact .inr zD
   ·exact .inr (zF _ h3)
theorem Vx {cs:List Co}{x:Co}(h:x∈cs):BY (Ct cs) x:=(S9 cs none).2.1 x h
theorem Kg (cs:List Co):Ct cs=none\/Ct cs∈cs:=(S9 cs none).2.2
theorem Vy {cs:List Co}{v:Co}(h1:∀x∈cs,BY v x)(h2:v≠none->∃x∈cs,BY x v):Ct cs=v:=by
 refine NE ?_ ?_
 ·cases v with
  |none=>cases Ct cs<;>exact trivial
  |some p =>
   obtain⟨x,hx,hl⟩:=h2 (by intro z;cases z);exact As (Vx hx) hl
 ·rcases Kg cs with h|h
  ·rw[h];cases v<;>exact trivial
  ·exact h1 _ h
theorem Cd:∀a b:Co,Ap a b=Ap b a
 |none,none=>rfl
 |none,some _|some _,none=>rfl
 |some p,some q=>by simp only[Ap];rw[Int.add_comm,Int.add_comm p.2]
theorem CL:∀ {a b:Co}(c:Co),BY a b->BY (Ap a c) (Ap b c)
 |_,none,c,_=>by cases c<;>exact trivial
 |none,some _,c,h=>h.elim
 |some p,some q,none,h=>trivial
 |some p,some q,some r,h=>by simp only[Ap,BY] at *;omega
def NN:Co->Prop
 |none=>True
 |some p=>0<=p.1/\0<=p.2
theorem NF:∀ {a b:Co},NN a->NN b->NN (Ap a b)
 |none,none,_,_=>trivial
 |none,some _,_,_|some _,none,_,_=>trivial
 |some p,some q,h1,h2=>by simp only[Ap,NN] at *;omega
theorem Zg {a b:Co}(h1:NN a)(h2:NN b):NN (Dq a b):=by
 rcases Bq a b with ⟨e,_⟩|⟨e,_⟩
 ·rw[e];exact h1
 ·rw[e];exact h2
def ltN (a b:Co):Prop:=NN a/\BY a b/\a≠b
theorem WU (a b c:Co)(h1:ltN a b)(h2:ltN b c):ltN a c:=
 ⟨h1.1,As h1.2.1 h2.2.1,λ e=>by subst e;exact h1.2.2 (NE h1.2.1 h2.2.1)⟩
noncomputable def rank:Co->Nat×Nat×Nat
 |none=>(1,0,0)
 |some p=>(0,p.1.toNat,p.2.toNat)
theorem nL:∀a:Co,NN a->Acc ltN a:=by
 have wf:WellFounded (InvImage (Prod.Lex (· < ·) (Prod.Lex (· < ·) (· < ·))) rank):=InvImage.wf rank (Prod.lex Nat.lt_wfRel (Prod.lex Nat.lt_wfRel Nat.lt_wfRel)).wf;intro a;induction a using wf.induction with
 |h a ih =>
  intro ha;refine .intro _ λ b ⟨hb,hl,af⟩=>ih b ?_ hb;cases b with
  |none=>cases a with
   |none=>exact (af rfl).elim
   |some p=>exact hl.elim
  |some q=>cases a with
   |none=>exact Prod.Lex.left _ _ (by decide)
   |some p =>
    obtain⟨p1,p2⟩:=p;obtain⟨q1,q2⟩:=q;simp only[BY,NN] at hl ha hb;show Prod.Lex _ _ (0,q1.toNat,q2.toNat) (0,p1.toNat,p2.toNat);refine Prod.Lex.right _ ?_;by_cases h:q1<p1
    ·exact Prod.Lex.left _ _ (by omega)
    ·have e:q1=p1:=by omega
     subst e;have h2:q2≠p2:=λ e=>af (by rw[e]);exact Prod.Lex.right _ (by omega)
theorem gW (a:Co):Acc ltN a:=.intro _ λ b h=>nL b h.1
theorem WV (cs:List Co):Acc (Oh ltN) cs:=Nn ltN gW cs.length cs rfl
structure Road where
 a:Int
 b:Int
 l:Option Int
 w:Int
noncomputable def EK:Option Int->D
 |none=>.AF
 |some i=>.int i
noncomputable def Ca (r:Road):D:=.tup [.int r.a,.int r.b,EK r.l,.int r.w]
noncomputable def Ah (m:Int)(rs:List Road):D:=.tup [.int m,.lst (rs.map Ca)]
noncomputable def Cq (r:Road):Co:=match r.l with | none=>none | some l=>some (l,1)
structure HY (m:Nat)(r:Road):Prop where
 a0:0<=r.a
 a1:r.a<m
 b0:0<=r.b
 b1:r.b<m
 l0:∀l,r.l=some l->0<=l
noncomputable def Kh (r:Road):Road:=⟨r.b,r.a,r.l,r.w⟩
theorem Vz {m:Nat}{r:Road}(h:HY m r):NN (Cq r):=by
 unfold Cq;split
 ·trivial
 ·rename_i l e;exact⟨h.l0 l e,by show (0:Int)<=1;decide⟩
noncomputable def atC (cs:List Co)(i:Int):Co:=cs.getD i.toNat none
theorem Dl {cs:List Co}{i:Int}(h0:0<=i)(h1:i<cs.length):cs[i.toNat]?=some (atC cs i):=by
 unfold atC;rw[za4,zJ (show i.toNat<cs.length by omega)];rfl
theorem set_same {α:Type}:∀ {l:List α}{i:Nat}{x:α},l[i]?=some x->l.set i x=l
 |[],_,_,h=>by cases h
 |y::r,0,x,h=>by cases h;rfl
 |y::r,i+1,x,h=>by rw[zP,set_same (by simpa using h)]
noncomputable def Dc (r:Road)(cs:List Co):List Co:=cs.set r.b.toNat (Dq (atC cs r.b) (Ap (atC cs r.a) (Cq r)))
theorem Ki {cs:List Co}{i j:Int}{v:Co}(hi:0<=i)(hj:0<=j)(h1:i<cs.length):atC (cs.set i.toNat v) j=if j=i then v else atC cs j:=by
 unfold atC;rw[za4,za4];by_cases h:j=i
 ·subst h;rw[if_pos rfl,zab (by omega)];rfl
 ·rw[if_neg h,zap (by omega)]
structure Good (m s:Nat)(rs:List Road)(cs:List Co):Prop where
 len:cs.length=m
 st:atC cs s=some (0,0)
 nn:∀c∈cs,NN c
 sup:∀p:Int,0<=p->p<m->p≠s->atC cs p≠none->∃r∈rs,r.b=p/\BY (Ap (atC cs r.a) (Cq r)) (atC cs p)
theorem Good.jY {m s:Nat}{rs:List Road}{cs:List Co}(g:Good m s rs cs){i:Int}(h0:0<=i)(h1:i<m):NN (atC cs i):=
 g.nn _ (zM (Dl h0 (by rw[g.len];exact h1)))
theorem WW {m s:Nat}{rs:List Road}{cs:List Co}{r:Road}(g:Good m s rs cs)(hr:r∈rs)(Au:∀r∈rs,HY m r):
 Good m s rs (Dc r cs)/\(∀i:Int,0<=i->BY (atC (Dc r cs) i) (atC cs i))/\(Dq (atC cs r.b) (Ap (atC cs r.a) (Cq r))=atC cs r.b->Dc r cs=cs)/\
 (Dq (atC cs r.b) (Ap (atC cs r.a) (Cq r))≠atC cs r.b->Oh ltN (Dc r cs) cs):=by
 have ok:=Au r hr;have dn:r.b<cs.length:=by rw[g.len];exact ok.b1
 have hx:NN (Ap (atC cs r.a) (Cq r)):=NF (g.jY ok.a0 ok.a1) (Vz ok);have hv:NN (Dq (atC cs r.b) (Ap (atC cs r.a) (Cq r))):=Zg (g.jY ok.b0 ok.b1) hx;have cP:∀i:Int,0<=i->atC (Dc r cs) i=if i=r.b then Dq (atC cs r.b) (Ap (atC cs r.a) (Cq r)) else atC cs i:=λ i hi=>Ki ok.b0 hi dn
 have le:∀i:Int,0<=i->BY (atC (Dc r cs) i) (atC cs i):=λ i hi=>by
  rw[cP i hi];by_cases h:i=r.b
  ·rw[if_pos h,h];exact EN _ _
  ·rw[if_neg h];exact C7 _
 refine⟨⟨by unfold Dc;rw[zb3];exact g.len,?_,λ c hc=>?_,λ p h0 h1 hp hn=>?_⟩,le,λ h=>?_,λ h=>?_⟩
 ·rw[cP s (by omega)];by_cases h:(s:Int)=r.b
  ·rw[if_pos h,<-h,g.st];cases q:Ap (atC cs r.a) (Cq r) with
   |none=>rfl
   |some x =>
    rw[q] at hx;unfold Dq cO;dsimp only;rw[if_pos (by simp only[NN] at hx;omega)]
  ·rw[if_neg h];exact g.st
 ·unfold Dc at hc;rcases zcn hc with h|h
  ·exact g.nn c h
  ·rw[h];exact hv
 ·rw[cP p h0] at hn ⊢;by_cases h:p=r.b
  ·rw[if_pos h] at hn ⊢;rcases Bq (atC cs r.b) (Ap (atC cs r.a) (Cq r)) with ⟨e,_⟩|⟨e,_⟩
   ·rw[e] at hn ⊢;subst h;obtain⟨r',h2,h3,h4⟩:=g.sup r.b h0 h1 hp hn;exact⟨r',h2,h3,As (CL _ (le r'.a (Au r' h2).a0)) h4⟩
   ·rw[e];exact⟨r,hr,h.symm,CL _ (le r.a ok.a0)⟩
  ·rw[if_neg h] at hn ⊢;obtain⟨r',h2,h3,h4⟩:=g.sup p h0 h1 hp hn;exact⟨r',h2,h3,As (CL _ (le r'.a (Au r' h2).a0)) h4⟩
 ·unfold Dc;rw[h];exact set_same (Dl ok.b0 dn)
 ·unfold Dc;exact V8 ltN (Dl ok.b0 dn) ⟨hv,EN _ _,h⟩
def Right (m s:Nat)(rs:List Road)(cs:List Co):Prop:=
 cs.length=m/\atC cs s=some (0,0)/\(∀c∈cs,NN c)/\∀p:Int,0<=p->p<m->p≠s->atC cs p=Ct ((rs.filter λ r=>decide (r.b=p)).map λ r=>Ap (Cq r) (atC cs r.a))
theorem right_of {m s:Nat}{rs:List Road}{cs:List Co}(g:Good m s rs cs)(h:∀r∈rs,Dq (atC cs r.b) (Ap (atC cs r.a) (Cq r))=atC cs r.b):Right m s rs cs:=by
 refine⟨g.len,g.st,g.nn,λ p h0 h1 hp=>?_⟩;symm;refine Vy (λ x hx=>?_) λ hn=>?_
 ·obtain⟨r,hr,rfl⟩:=za0.mp hx;obtain⟨h2,h3⟩:=zas.mp hr;have e:r.b=p:=by simpa using h3
  have:=EO (atC cs r.b) (Ap (atC cs r.a) (Cq r));rw[h r h2,e] at this;rw[Cd];exact this
 ·obtain⟨r,h2,h3,h4⟩:=g.sup p h0 h1 hp hn;refine⟨_,za0.mpr ⟨r,zas.mpr ⟨h2,by simpa using h3⟩,rfl⟩,?_⟩;rw[Cd];exact h4
theorem NG {m s:Nat}(rs:List Road)(h:s<m):Good m s rs ((zR m none).set s (some (0,0))):=by
 have hl:(zR m (none:Co)).length=m:=zcc;have cP:∀i:Int,0<=i->atC ((zR m none).set s (some (0,0))) i=if i=s then some (0,0) else none:=λ i hi=>by
  have:=Ki (cs:=zR m none) (i:=(s:Int)) (j:=i) (v:=some (0,0)) (by omega) hi (by rw[hl];omega);rw[zax] at this;rw[this];by_cases h:i=s
  ·rw[if_pos h,if_pos h]
  ·rw[if_neg h,if_neg h];unfold atC;rw[za4,zc1];split<;>rfl
 refine⟨by rw[zb3,hl],?_,λ c hc=>?_,λ p h0 h1 hp hn=>?_⟩
 ·rw[cP s (by omega),if_pos rfl]
 ·rcases zcn hc with h|h
  ·rw[List.eq_of_mem_replicate h];trivial
  ·rw[h];exact⟨Int.le_refl _,Int.le_refl _⟩
 ·rw[cP p h0,if_neg hp] at hn;exact (hn rfl).elim
theorem nM {α:Type}{l:List α}{n:Int}(h:0<=n/\n<l.length):Rr l n=l[n.toNat]? :=by
 unfold Rr OX;obtain⟨h1,h2⟩:=h;simp[h1,h2]
theorem MK {n:Nat}{j:Int}(h:0<=j/\j<n):OX n j=some j.toNat:=by
 unfold OX;obtain⟨h1,h2⟩:=h;simp[h1,h2]
theorem HZ {α:Type}{f:α->D}{l:List α}{n:Int}{x:α}(h0:0<=n)(h:l[n.toNat]?=some x):eM (.lst (l.map f)) (.int n)=.ok (f x):=by
 have h1:=(zY.mp h).1;unfold eM;dsimp only;rw[nM (by rw[zC];omega),za2,h];rfl
theorem GI {cs:List Co}{i:Int}(h0:0<=i)(h1:i<cs.length):eM (.lst (cs.map cst)) (.int i)=.ok (cst (atC cs i)):=HZ h0 (Dl h0 h1)
theorem QA {n:Nat}(c:Co):Pl (n+1) (cst c):=by
 cases c with
 |none=>exact Yz
 |some p=>exact YA (HE (Ek _) (HE (Ek _) YB))
theorem VA (a b:Co):Ax (cst a) (cst b)=decide (a=b):=by
 rcases a with _|⟨a1,a2⟩<;>rcases b with _|⟨b1,b2⟩
 ·simp[cst,Ax]
 ·simp[cst,Ax]
 ·simp[cst,Ax]
 ·rw[zby];simp[cst,Ax,Cr]
theorem gY (a b:Co):Wo 16 (cst a) (cst b)=.ok (.bl (!decide (a=b))):=by rw[Nf (QA (n:=15) a) (QA (n:=15) b),VA]
theorem ML (a b:Co):cK 16 (cst a) (cst b)=.ok (.bl (decide (a=b))):=by rw[TV (QA (n:=15) a) (QA (n:=15) b),VA]
theorem gZ (c:Co):L1 (cst c)=true:=by
 cases c<;>simp[cst,L1,JE]
theorem QB (c:Co):dp (.ok (cst c))=.ok (cst c):=by
 unfold dp;rw[M.A7,if_pos (gZ c)]
theorem nN {n:Nat}(l:Option Int):Pl n (EK l):=by
 cases l with
 |none=>exact Yz
 |some i=>exact Ek i
theorem sO (r:Road):Pl 1 (Ca r):=YA (HE (Ek _) (HE (Ek _) (HE (nN r.l) (HE (Ek _) YB))))
theorem By {a b:Int}(h:0<b):Gi (.int a) (.int b)=.ok (.int (a%b)):=by
 unfold Gi Bo;dsimp only;rw[if_pos h]
theorem Ce {a b:Int}(h:XT a b):G1 (.int a) (.int b)=.ok (.int (a / b)):=by
 unfold G1 Bo;dsimp only;rw[if_pos h]
inductive Wk (rs:List Road):Int->Int->Int×Int->Prop
 |nil (u:Int):Wk rs u u (0,0)
 |cons {r:Road} {l:Int} {w:Int} {c:Int×Int}:r∈rs->r.l=some l->Wk rs r.b w c->Wk rs r.a w (l+c.1,1+c.2)
theorem Wk.trans {rs:List Road}{u v w:Int}{c d:Int×Int}(h:Wk rs u v c)(k:Wk rs v w d):Wk rs u w (c.1+d.1,c.2+d.2):=by
 induction h with
 |nil u=>simpa using k
 |cons hr hl _ ih =>
  have:=Wk.cons hr hl (ih k);simpa [Int.add_assoc] using this
theorem Wk.one {rs:List Road}{r:Road}{l:Int}(hr:r∈rs)(hl:r.l=some l):Wk rs r.a r.b (l,1):=by
 have:=Wk.cons hr hl (Wk.nil (rs:=rs) r.b);simpa using this
def DK (rs:List Road)(u w:Int)(x:Co):Prop:=(∀c,Wk rs u w c->BY x (some c))/\∀p,x=some p->Wk rs u w p
theorem DK.Cy {rs:List Road}{u w:Int}{x y:Co}(h:DK rs u w x)(k:DK rs u w y):x=y:=by
 refine NE ?_ ?_
 ·cases y with
  |none=>cases x<;>exact trivial
  |some q=>exact h.1 q (k.2 q rfl)
 ·cases x with
  |none=>cases y<;>exact trivial
  |some q=>exact k.1 q (h.2 q rfl)
theorem Kj {r:Road}{c:Int×Int}(h:Cq r=some c):∃l,r.l=some l/\c=(l,1):=by
 unfold Cq at h;split at h
 ·cases h
 ·rename_i l e;cases h;exact⟨l,e,rfl⟩
theorem I9 {a b:Co}{c:Int×Int}(h:Ap a b=some c):∃p q,a=some p/\b=some q/\c=(p.1+q.1,p.2+q.2):=by
 cases a with
 |none=>cases h
 |some p=>cases b with
  |none=>cases h
  |some q=>cases h;exact⟨p,q,rfl,rfl,rfl⟩
theorem Right.min_le {m s:Nat}{rs:List Road}{cs:List Co}(h:Right m s rs cs){r:Road}(hr:r∈rs)(Au:HY m r):BY (atC cs r.b) (Ap (Cq r) (atC cs r.a)):=by
 obtain⟨h1,h2,h3,h4⟩:=h;by_cases hs:r.b=s
 ·rw[hs,h2];have hn:NN (Ap (Cq r) (atC cs r.a)):=NF (Vz Au) (h3 _ (zM (Dl Au.a0 (by rw[h1];exact Au.a1))));cases q:Ap (Cq r) (atC cs r.a) with
  |none=>exact trivial
  |some p=>rw[q] at hn;simp only[NN] at hn;simp only[BY];omega
 ·rw[h4 r.b Au.b0 Au.b1 hs];exact Vx (za0.mpr ⟨r,zas.mpr ⟨hr,by simp⟩,rfl⟩)
theorem WY {m s:Nat}{rs:List Road}{cs:List Co}(h:Right m s rs cs)(Au:∀r∈rs,HY m r){u w:Int}{c:Int×Int}(k:Wk rs u w c):BY (atC cs w) (Ap (atC cs u) (some c)):=by
 induction k with
 |nil u =>
  cases atC cs u with
  |none=>exact trivial
  |some p=>simp only[Ap,BY];omega
 | @cons r l w c hr hl _ ih =>
  refine As ih ?_;have h1:=h.min_le hr (Au r hr);have e:Cq r=some (l,1):=by unfold Cq;rw[hl]
  rw[e] at h1;cases q:atC cs r.a with
  |none=>exact trivial
  |some p =>
   rw[q] at h1;cases q2:atC cs r.b with
   |none=>rw[q2] at h1;exact h1.elim
   |some p2=>rw[q2] at h1;simp only[Ap,BY] at *;omega
theorem WZ {m s:Nat}{rs:List Road}{cs:List Co}(h:Right m s rs cs)(Au:∀r∈rs,HY m r):∀(n:Nat) (w:Int) (p:Int×Int),0<=w->w<m->atC cs w=some p->p.2.toNat=n->Wk rs s w p:=by
 obtain⟨h1,h2,h3,h4⟩:=h;intro n;induction n with
 |zero =>
  intro w p h0 hw hp hn;by_cases hs:w=s
  ·rw[hs,h2] at hp;cases hp;rw[hs];exact .nil _
  ·exfalso;have e:=h4 w h0 hw hs;rw[hp] at e;rcases Kg ((rs.filter λ r=>decide (r.b=w)).map λ r=>Ap (Cq r) (atC cs r.a)) with z|z
   ·rw[z] at e;cases e
   ·rw[<-e] at z;obtain⟨r,hr,e2⟩:=za0.mp z;have bO:=(zas.mp hr).1;obtain⟨p1,p2,e3,e4,e5⟩:=I9 e2;obtain⟨l,hl,rfl⟩:=Kj e3;have ok:=Au r bO;have nn:=h3 _ (zM (Dl ok.a0 (by rw[h1];exact ok.a1)));rw[e4] at nn;simp only[NN] at nn;rw[e5] at hn;simp only at hn;omega
 |succ n ih =>
  intro w p h0 hw hp hn;by_cases hs:w=s
  ·rw[hs,h2] at hp;cases hp;rw[hs];exact .nil _
  ·have e:=h4 w h0 hw hs;rw[hp] at e;rcases Kg ((rs.filter λ r=>decide (r.b=w)).map λ r=>Ap (Cq r) (atC cs r.a)) with z|z
   ·rw[z] at e;cases e
   ·rw[<-e] at z;obtain⟨r,hr,e2⟩:=za0.mp z;obtain⟨bO,r6⟩:=zas.mp hr;have r6:r.b=w:=by simpa using r6
    obtain⟨p1,p2,e3,e4,e5⟩:=I9 e2;obtain⟨l,hl,rfl⟩:=Kj e3;have ok:=Au r bO;have nn:=h3 _ (zM (Dl ok.a0 (by rw[h1];exact ok.a1)));rw[e4] at nn;simp only[NN] at nn;subst e5;simp only at hn;have w1:=ih r.a p2 ok.a0 ok.a1 e4 (by omega);have w2:=w1.trans (Wk.one bO hl);rw[r6] at w2;have e6:((l+p2.1,1+p2.2):Int×Int)=(p2.1+l,p2.2+1):=by rw[Int.add_comm l,Int.add_comm 1]
    show Wk rs s w (l+p2.1,1+p2.2);rw[e6];exact w2
theorem Right.sP {m s:Nat}{rs:List Road}{cs:List Co}(h:Right m s rs cs)(Au:∀r∈rs,HY m r){w:Int}(h0:0<=w)(hw:w<m):DK rs s w (atC cs w):=by
 refine⟨λ c k=>?_,λ p hp=>WZ h Au _ w p h0 hw hp rfl⟩;have:=WY h Au k;rw[h.2.1] at this;have e:Ap (some (0,0)) (some c)=some c:=by simp[Ap]
 rw[e] at this;exact this
theorem U6 {a b c d:Co}(h:BY a b)(k:BY c d):BY (Ap a c) (Ap b d):=by
 refine As (CL c h) ?_;rw[Cd b c,Cd b d];exact CL b k
theorem Es:∀a b c:Co,Ap (Ap a b) c=Ap a (Ap b c)
 |none,b,c=>by cases b<;>cases c<;>rfl
 |some p,none,c=>by cases c<;>rfl
 |some p,some q,none=>rfl
 |some p,some q,some r=>by simp only[Ap];rw[Int.add_assoc,Int.add_assoc]
theorem Py:∀a:Co,Ap a (some (0,0))=a
 |none=>rfl
 |some p=>by simp[Ap]
theorem X0 (a:Co):Ap (some (0,0)) a=a:=by rw[Cd];exact Py a
theorem Sa (a:Co):Dq a a=a:=by rcases Bq a a with ⟨e,_⟩ | ⟨e,_⟩<;>exact e
theorem Zh {a b:Co}(h:NN b):BY a (Ap a b):=by
 cases a with
 |none=>exact trivial
 |some p=>cases b with
  |none=>exact trivial
  |some q=>simp only[NN] at h;simp only[Ap,BY];omega
structure FW (m k:Nat)(rs:List Road)(A:Int->Int->Co):Prop where
 dg:∀x:Int,0<=x->x<m->A x x=some (0,0)
 nn:∀x y:Int,0<=x->x<m->0<=y->y<m->NN (A x y)
 sd:∀x y:Int,0<=x->x<m->0<=y->y<m->∀p,A x y=some p->Wk rs x y p
 ed:∀r∈rs,BY (A r.a r.b) (Cq r)
 tr:∀v x y:Int,0<=v->v<k->0<=x->x<m->0<=y->y<m->BY (A x y) (Ap (A x v) (A v y))
noncomputable def over (k:Int)(A:Int->Int->Co):Int->Int->Co:=λ x y=>Dq (A x y) (Ap (A x k) (A k y))
theorem Sb {m k:Nat}{rs:List Road}{A:Int->Int->Co}(F:FW m k rs A)(hk:k<m)(x:Int):over k A x k=A x k:=by
 unfold over;rw[F.dg k (by omega) (by omega),Py,Sa]
theorem Sd {m k:Nat}{rs:List Road}{A:Int->Int->Co}(F:FW m k rs A)(hk:k<m)(y:Int):over k A k y=A k y:=by
 unfold over;rw[F.dg k (by omega) (by omega),X0,Sa]
theorem Zi {m k:Nat}{rs:List Road}{A:Int->Int->Co}(F:FW m k rs A)(hk:k<m):FW m (k+1) rs (over k A):=by
 have k0:(0:Int)<=k:=by omega
 have k1:(k:Int)<m:=by omega
 refine⟨λ x h0 h1=>?_,λ x y h0 h1 h2 h3=>Zg (F.nn x y h0 h1 h2 h3) (NF (F.nn x k h0 h1 k0 k1) (F.nn k y k0 k1 h2 h3)),λ x y h0 h1 h2 h3 p hp=>?_,λ r hr=>As (EN _ _) (F.ed r hr),λ v x y v0 v1 h0 h1 h2 h3=>?_⟩
 ·unfold over;rw[F.dg x h0 h1];have hn:NN (Ap (A x k) (A k x)):=NF (F.nn x k h0 h1 k0 k1) (F.nn k x k0 k1 h0 h1);cases q:Ap (A x k) (A k x) with
  |none=>rfl
  |some z =>
   rw[q] at hn;simp only[NN] at hn;unfold Dq cO;dsimp only;rw[if_pos (by omega)]
 ·unfold over at hp;rcases Bq (A x y) (Ap (A x k) (A k y)) with ⟨e,_⟩|⟨e,_⟩
  ·rw[e] at hp;exact F.sd x y h0 h1 h2 h3 p hp
  ·rw[e] at hp;obtain⟨p1,p2,e1,e2,rfl⟩:=I9 hp;exact (F.sd x k h0 h1 k0 k1 p1 e1).trans (F.sd k y k0 k1 h2 h3 p2 e2)
 ·by_cases hv:v=k
  ·subst hv;rw[Sb F hk,Sd F hk];exact EO _ _
  ·have vk:v<k:=by omega
   have vm:v<m:=by omega
   have yj:=F.tr v x y v0 vk h0 h1 h2 h3;have yk:=F.tr v k y v0 vk k0 k1 h2 h3;have yl:=F.tr v x k v0 vk h0 h1 k0 k1;have g1:BY (over k A x y) (A x y):=EN _ _;have g2:BY (over k A x y) (Ap (A x k) (A k y)):=EO _ _;have ym:=F.nn k v k0 k1 v0 vm;have yn:=F.nn v k v0 vm k0 k1;have e1:over k A x v=Dq (A x v) (Ap (A x k) (A k v)):=rfl;have e2:over k A v y=Dq (A v y) (Ap (A v k) (A k y)):=rfl;rw[e1,e2];rcases Bq (A x v) (Ap (A x k) (A k v)) with ⟨e,_⟩|⟨e,_⟩<;>rcases Bq (A v y) (Ap (A v k) (A k y)) with ⟨e',_⟩|⟨e',_⟩<;>rw[e,e']
   ·exact As g1 yj
   ·refine As g2 ?_;rw[<-Es];exact CL _ yl
   ·refine As g2 ?_;rw[Es,Cd (A x k),Cd (A x k)];exact CL _ yk
   ·refine As g2 ?_;have e3:Ap (Ap (A x k) (A k v)) (Ap (A v k) (A k y))=Ap (Ap (A x k) (A k y)) (Ap (A k v) (A v k)):=by
     rw[Es,Es,<-Es (A k v),Cd (Ap (A k v) (A v k))]
    rw[e3];exact Zh (NF ym yn)
theorem nO {m:Nat}{rs:List Road}{A:Int->Int->Co}(F:FW m m rs A)(Au:∀r∈rs,HY m r){x y:Int}(h0:0<=x)(h1:x<m)(h2:0<=y)(h3:y<m):DK rs x y (A x y):=by
 refine⟨λ c k=>?_,F.sd x y h0 h1 h2 h3⟩;induction k with
 |nil u=>rw[F.dg u h0 h1];exact C7 _
 | @cons r l w c hr hl k' ih =>
  have ok:=Au r hr;have i1:=ih ok.b0 ok.b1 h2 h3;have t:=F.tr r.b r.a w ok.b0 (by have:=ok.b1;omega) h0 h1 h2 h3;have e:=F.ed r hr;have e':Cq r=some (l,1):=by unfold Cq;rw[hl]
  rw[e'] at e;refine As t (As (U6 e i1) ?_);exact C7 _
structure OA (m:Nat)(rs:List Road)(u:Int)(n:Nat)(R:List Co):Prop where
 len:R.length=m
 st:atC R u=some (0,0)
 nn:∀c∈R,NN c
 sd:∀y:Int,0<=y->y<m->∀p,atC R y=some p->Wk rs u y p
 ed:∀r∈rs.take n,r.a=u->BY (atC R r.b) (Cq r)
theorem X1 {m u:Nat}(rs:List Road)(h:u<m):OA m rs u 0 ((zR m none).set u (some (0,0))):=by
 have g:=NG (m:=m) (s:=u) rs h;refine⟨g.len,g.st,g.nn,λ y h0 h1 p hp=>?_,λ r hr=>by rw[List.take_zero] at hr;cases hr⟩;by_cases hy:y=u
 ·rw[hy,g.st] at hp;cases hp;rw[hy];exact .nil _
 ·have:=Ki (cs:=zR m none) (i:=(u:Int)) (j:=y) (v:=some (0,0)) (by omega) h0 (by rw[zcc];omega);rw[zax,if_neg hy] at this;rw[this] at hp;unfold atC at hp;rw[za4,zc1] at hp;split at hp<;>cases hp
theorem Se {m:Nat}{rs:List Road}{u:Int}{n:Nat}{R:List Co}{r:Road}(g:OA m rs u n R)(hr:rs[n]?=some r)(hu:r.a≠u):OA m rs u (n+1) R:=
 ⟨g.len,g.st,g.nn,g.sd,λ r' bn al=>by
  rw[zb7,hr] at bn;rcases za5.mp bn with h|h
  ·exact g.ed r' h al
  ·have:r'=r:=by simpa using h
   rw[this] at al;exact (hu al).elim⟩
theorem Sf {m:Nat}{rs:List Road}{u:Int}{n:Nat}{R:List Co}{r:Road}(g:OA m rs u n R)(hr:rs[n]?=some r)(hu:r.a=u)(Au:∀r∈rs,HY m r):OA m rs u (n+1) (R.set r.b.toNat (Dq (atC R r.b) (Cq r))):=by
 have hm:=zM hr;have ok:=Au r hm;have dn:r.b<R.length:=by rw[g.len];exact ok.b1
 have cP:∀i:Int,0<=i->atC (R.set r.b.toNat (Dq (atC R r.b) (Cq r))) i=if i=r.b then Dq (atC R r.b) (Cq r) else atC R i:=λ i hi=>Ki ok.b0 hi dn
 have nb:NN (atC R r.b):=g.nn _ (zM (Dl ok.b0 dn));refine⟨by rw[zb3];exact g.len,?_,λ c hc=>?_,λ y h0 h1 p hp=>?_,λ r' bn al=>?_⟩
 ·rw[cP u (by rw[<-hu];exact ok.a0)];by_cases h:u=r.b
  ·rw[if_pos h,<-h,g.st];have hx:=Vz ok;cases q:Cq r with
   |none=>rfl
   |some z =>
    rw[q] at hx;simp only[NN] at hx;unfold Dq cO;dsimp only;rw[if_pos (by omega)]
  ·rw[if_neg h];exact g.st
 ·rcases zcn hc with h|h
  ·exact g.nn c h
  ·rw[h];exact Zg nb (Vz ok)
 ·rw[cP y h0] at hp;by_cases h:y=r.b
  ·rw[if_pos h] at hp;rcases Bq (atC R r.b) (Cq r) with ⟨e,_⟩|⟨e,_⟩
   ·rw[e] at hp;rw[h];exact g.sd r.b ok.b0 ok.b1 p hp
   ·rw[e] at hp;obtain⟨l,hl,rfl⟩:=Kj hp;rw[h,<-hu];exact Wk.one hm hl
  ·rw[if_neg h] at hp;exact g.sd y h0 h1 p hp
 ·have r9:r'∈rs:=zb9 bn;rw[cP r'.b (Au r' r9).b0];rw[zb7,hr] at bn;rcases za5.mp bn with h|h
  ·by_cases hb:r'.b=r.b
   ·rw[if_pos hb];have:=g.ed r' h al;rw[hb] at this;exact As (EN _ _) this
   ·rw[if_neg hb];exact g.ed r' h al
  ·have e:r'=r:=by simpa using h
   rw[e,if_pos rfl];exact EO _ _
noncomputable def at2 (ac:List (List Co))(x y:Int):Co:=atC (ac.getD x.toNat []) y
noncomputable def AD (ac:List (List Co)):List (List D):=ac.map λ R=>R.map cst
structure MM (m:Nat)(ac:List (List Co)):Prop where
 len:ac.length=m
 row:∀R∈ac,R.length=m
theorem MM.get {m:Nat}{ac:List (List Co)}(h:MM m ac){x:Int}(h0:0<=x)(h1:x<m):ac[x.toNat]?=some (ac.getD x.toNat [])/\(ac.getD x.toNat []).length=m:=by
 have hl:x.toNat<ac.length:=by rw[h.len];omega
 have e:ac[x.toNat]?=some (ac.getD x.toNat []):=by rw[za4,zJ hl];rfl
 exact⟨e,h.row _ (zM e)⟩
noncomputable def put2 (ac:List (List Co))(x y:Int)(v:Co):List (List Co):=ac.set x.toNat ((ac.getD x.toNat []).set y.toNat v)
theorem MM.put {m:Nat}{ac:List (List Co)}(h:MM m ac){x y:Int}(h0:0<=x)(h1:x<m)(h2:0<=y)(h3:y<m)(v:Co):MM m (put2 ac x y v)/\∀x' y':Int,0<=x'->0<=y'->at2 (put2 ac x y v) x' y'=if x'=x/\y'=y then v else at2 ac x' y':=by
 obtain⟨e,hl⟩:=h.get h0 h1;refine⟨⟨by unfold put2;rw[zb3];exact h.len,λ R hR=>?_⟩,λ x' y' hx hy=>?_⟩
 ·unfold put2 at hR;rcases zcn hR with z|z
  ·exact h.row R z
  ·rw[z,zb3];exact hl
 ·unfold at2 put2;by_cases wy:x'=x
  ·subst wy;have e2:(ac.set x'.toNat ((ac.getD x'.toNat []).set y.toNat v)).getD x'.toNat []=(ac.getD x'.toNat []).set y.toNat v:=by
    rw[za4 (l:=ac.set _ _),zab (by rw[h.len];omega)];rfl
   rw[e2,Ki h2 hy (by rw[hl];exact h3)];by_cases m7:y'=y
   ·rw[if_pos m7,if_pos ⟨rfl,m7⟩]
   ·rw[if_neg m7,if_neg (λ z=>m7 z.2)]
  ·have e2:(ac.set x.toNat ((ac.getD x.toNat []).set y.toNat v)).getD x'.toNat []=ac.getD x'.toNat []:=by
    rw[za4,zap (by omega),za4]
   rw[e2,if_neg (λ z=>wy z.1)]
theorem Sg {m:Nat}{ac:List (List Co)}(h:MM m ac){x:Int}(h0:0<=x)(h1:x<m):rowAt (AD ac) (.int x)=.ok ((ac.getD x.toNat []).map cst):=by
 obtain⟨e,hl⟩:=h.get h0 h1;have e1:OX (AD ac).length x=some x.toNat:=MK ⟨h0,by unfold AD;rw[zC,h.len];exact h1⟩;have e2:(AD ac)[x.toNat]?=some ((ac.getD x.toNat []).map cst):=by unfold AD;rw[za2,e];rfl
 unfold rowAt;simp only[e1,e2]
theorem hU {m:Nat}{ac:List (List Co)}(h:MM m ac){x y:Int}(h0:0<=x)(h1:x<m)(h2:0<=y)(h3:y<m):eM (.lst ((ac.getD x.toNat []).map cst)) (.int y)=.ok (cst (at2 ac x y)):=
 GI h2 (by rw[(h.get h0 h1).2];exact h3)
theorem hV {m:Nat}{ac:List (List Co)}(h:MM m ac){x y:Int}(h0:0<=x)(h1:x<m)(h2:0<=y)(h3:y<m)(i:Nat)(ρ:Aa)(v:Co):eZ i ρ (AD ac) (cst v) (.int x) ((ac.getD x.toNat []).map cst) (.int y)=.ok (.next (ρ.set i (some (.ow (.rows (AD (put2 ac x y v))))))):=by
 have e1:OX (AD ac).length x=some x.toNat:=MK ⟨h0,by unfold AD;rw[zC,h.len];exact h1⟩;have e2:OX ((ac.getD x.toNat []).map cst).length y=some y.toNat:=MK ⟨h2,by rw[zC,(h.get h0 h1).2];exact h3⟩;unfold eZ;simp only[e1,e2];unfold AD put2;rw[List.map_set,List.map_set]
theorem FW.congr {m k:Nat}{rs:List Road}{A B:Int->Int->Co}(F:FW m k rs A)(hk:k<=m)(Au:∀r∈rs,HY m r)(h:∀x y:Int,0<=x->x<m->0<=y->y<m->B x y=A x y):FW m k rs B:=by
 refine⟨λ x h0 h1=>?_,λ x y h0 h1 h2 h3=>?_,λ x y h0 h1 h2 h3 p hp=>?_,λ r hr=>?_,λ v x y v0 v1 h0 h1 h2 h3=>?_⟩
 ·rw[h x x h0 h1 h0 h1];exact F.dg x h0 h1
 ·rw[h x y h0 h1 h2 h3];exact F.nn x y h0 h1 h2 h3
 ·rw[h x y h0 h1 h2 h3] at hp;exact F.sd x y h0 h1 h2 h3 p hp
 ·have ok:=Au r hr;rw[h r.a r.b ok.a0 ok.a1 ok.b0 ok.b1];exact F.ed r hr
 ·rw[h x y h0 h1 h2 h3,h x v h0 h1 v0 (by omega),h v y v0 (by omega) h2 h3];exact F.tr v x y v0 v1 h0 h1 h2 h3
theorem Zj {m:Nat}{rs:List Road}{ac:List (List Co)}(hM:MM m ac)(Au:∀r∈rs,HY m r)(h:∀u:Nat,u<m->OA m rs u rs.length (ac.getD u [])):FW m 0 rs (at2 ac):=by
 have key:∀x:Int,0<=x->x<m->OA m rs x rs.length (ac.getD x.toNat []):=λ x h0 h1=>by
  have:=h x.toNat (by omega);rw[Int.toNat_of_nonneg h0] at this;exact this
 refine⟨λ x h0 h1=>(key x h0 h1).st,λ x y h0 h1 h2 h3=>(key x h0 h1).nn _ (zM (Dl h2 (by rw[(key x h0 h1).len];exact h3))),λ x y h0 h1 h2 h3 p hp=>(key x h0 h1).sd y h2 h3 p hp,λ r hr=>?_,λ v x y v0 v1=>by omega⟩;have ok:=Au r hr;exact (key r.a ok.a0 ok.a1).ed r (by rw[zb6];exact hr) rfl
noncomputable def hit (rs:List Road)(cs:List Co)(p:Nat)(k:Nat):Bool:=match rs[k]? with
 |some r=>decide (r.b=(p:Int))&&decide (Ap (atC cs r.a) (Cq r)≠none)&&decide (Ap (atC cs r.a) (Cq r)=atC cs (p:Int))
 |none=>false
theorem Wk.nn {m:Nat}{rs:List Road}(Au:∀r∈rs,HY m r){u w:Int}{c:Int×Int}(h:Wk rs u w c):0<=c.1/\0<=c.2:=by
 induction h with
 |nil=>exact⟨Int.le_refl _,Int.le_refl _⟩
 |cons hr hl _ ih =>
  have:=(Au _ hr).l0 _ hl;simp only;omega
noncomputable def pD (p:Int×Int):D:=.tup [.int p.1,.int p.2]
theorem J0 (p q:Int×Int):Ax (pD p) (pD q)=decide (p=q):=by
 obtain⟨a,b⟩:=p;obtain⟨c,d⟩:=q;unfold pD;simp only[Ax,Cr,Bool.and_true];rw[zby];simp
theorem Kk (p:Int×Int):keyOk true (pD p)=true:=rfl
theorem VB (B:List (Int×Int))(p:Int×Int):M3 (B.map pD) (pD p)=decide (p∈B):=by
 unfold M3;rw[List.any_map,zby];simp only[List.any_eq_true,Function.comp,J0,decide_eq_true_eq];constructor
 ·rintro ⟨x,hx,rfl⟩;exact hx
 ·intro h;exact⟨p,h,rfl⟩
theorem QC (B:List (Int×Int))(vs:List D)(neg:Bool)(a b:Int):JI neg (.tup [.int a,.int b]) (.Bd true (B.map pD) vs)=.ok (.bl (if neg=true then !decide ((a,b)∈B) else decide ((a,b)∈B))):=by
 unfold JI;dsimp only;have h1:keyOk true (D.tup [D.int a,D.int b])=true:=rfl;have h2:M3 (B.map pD) (D.tup [D.int a,D.int b])=decide ((a,b)∈B):=VB B (a,b);rw[if_pos h1,h2]
noncomputable def L9 (B:List (Int×Int))(p:Int×Int):List (Int×Int):=if p∈B then B else B++[p]
noncomputable def D4 {α:Type}(B:List α):List D:=B.map λ _=>.bl true
theorem Pz {α:Type}(f:α->D)(y:D):∀B:List α,IT (B.map f) (D4 B) y (.bl true)=D4 B
 |[]=>rfl
 |b::r=>by
  show IT (f b::r.map f) (.bl true::D4 r) y (.bl true)=.bl true::D4 r;rw[IT,Pz f y r];split<;>rfl
theorem VC (B:List (Int×Int))(p:Int×Int):putD (B.map pD) (D4 B) (pD p) (.bl true)=((L9 B p).map pD,D4 (L9 B p)):=by
 unfold putD L9;rw[VB];by_cases h:p∈B
 ·rw[decide_eq_true h,if_pos rfl,if_pos h,Pz]
 ·rw[decide_eq_false h,if_neg (by simp),if_neg h];unfold D4;simp
theorem Sh {B:List (Int×Int)}{p q:Int×Int}:q∈L9 B p↔q∈B\/q=p:=by
 unfold L9;split
 ·constructor
  ·exact .inl
  ·rintro (h|rfl)
   ·exact h
   ·assumption
 ·simp
theorem U7 {B:List (Int×Int)}{p:Int×Int}(h:B.Nodup):(L9 B p).Nodup:=by
 unfold L9;split
 ·exact h
 ·rename_i hn;exact za9.mpr ⟨h,by simp,λ a ha b hb z=>by simp at hb;subst hb;subst z;exact hn ha⟩
theorem Ia {α:Type}[DecidableEq α]:∀ {l u:List α},l.Nodup->(∀x∈l,x∈u)->l.length<=u.length
 |[],_,_,_=>zak _
 |x::r,u,nd,h=>by
  have b5:=zav.mp nd;have hx:=h x zD;have ih:=Ia (l:=r) (u:=u.erase x) b5.2 λ y hy=>(List.mem_erase_of_ne (λ z=>b5.1 (by rw[<-z];exact hy))).mpr (h y (zF _ hy));have e:=List.length_erase_of_mem hx;have:0<u.length:=List.length_pos_of_mem hx;rw[zO];omega
theorem Zk (p:Int×Int):L1 (pD p)=true:=by simp[pD,L1,JE]
noncomputable def B2 (m:Nat):List Int:=(zW m).map λ i:Nat=>(i:Int)
theorem NH (m:Nat):((zW m).map λ i:Nat=>D.int (i:Int))=(B2 m).map D.int:=by unfold B2;rw[zam];rfl
theorem GJ (m:Nat):(B2 m).length=m:=by unfold B2;simp
theorem Kl {m:Nat}{p:Int}:p∈B2 m↔0<=p/\p<m:=by
 unfold B2;constructor
 ·intro h;obtain⟨i,hi,rfl⟩:=za0.mp h;have:=zbe.mp hi;omega
 ·rintro ⟨h0,h1⟩;exact za0.mpr ⟨p.toNat,zbe.mpr (by omega),by omega⟩
noncomputable def B3 (B:List (Int×Int))(L:List Int)(v:Int):List (Int×Int):=(L.filter λ u=>decide ((u,v)∈B)).flatMap λ u=>((L.filter λ w=>decide ((v,w)∈B)).filter λ w=>decide (u≠w) && !decide ((u,w)∈B)).map λ w=>(u,w)
def nQ (B:List (Int×Int)):Prop:=∀x,(x,x)∉B
theorem X2 (B:List (Int×Int))(L:List Int)(v:Int):(B3 B L v).length<=L.length*L.length:=by
 unfold B3;rw[List.length_flatMap];have key:∀l:List Int,(l.map λ u=>(((L.filter λ w=>decide ((v,w)∈B)).filter λ w=>decide (u≠w) && !decide ((u,w)∈B)).map λ w=>(u,w)).length).sum<=l.length*L.length:=by
  intro l;induction l with
  |nil=>simp
  |cons u r ih =>
   rw[zG,List.sum_cons,zO,Nat.succ_mul];have:(((L.filter λ w=>decide ((v,w)∈B)).filter λ w=>decide (u≠w) && !decide ((u,w)∈B)).map λ w=>(u,w)).length<=L.length:=by
    rw[zC];exact zat (zbp _ _) (zbp _ _)
   omega
 exact zat (key _) (Nat.mul_le_mul_right _ (zbp _ _))
theorem PB {α:Type}(f:α->List Int):∀l:List α,Gz (l.map λ x=>D.tup ((f x).map D.int))=some (l.map λ x=>(D.tup ((f x).map D.int),f x))
 |[]=>rfl
 |x::r=>by
  rw[zG,Gz,PB f r];simp[Yu,E8]
theorem PD {B:List (Int×Int)}{L:List Int}{v:Int}{p:Int×Int}(h:p∈B3 B L v):p.1∈L/\p.2∈L/\p.1≠p.2:=by
 unfold B3 at h;obtain⟨u,hu,h⟩:=List.mem_flatMap.mp h;obtain⟨w,hw,rfl⟩:=za0.mp h;have h1:=zas.mp hw;have h2:=zas.mp h1.1;have h3:=zas.mp hu;simp at h1;exact⟨h3.1,h2.1,h1.2.1⟩
noncomputable def Ck (B ps:List (Int×Int)):List (Int×Int):=ps.foldl L9 B
structure Cm (m:Nat)(B:List (Int×Int)):Prop where
 nd:B.Nodup
 no:nQ B
 wQ:∀p∈B,(0<=p.1/\p.1<m)/\(0<=p.2/\p.2<m)
theorem Cm.add {m:Nat}{B:List (Int×Int)}(h:Cm m B){p:Int×Int}(hp:p.1≠p.2)(h1:0<=p.1/\p.1<m)(h2:0<=p.2/\p.2<m):Cm m (L9 B p):=by
 refine⟨U7 h.nd,λ x hx=>?_,λ q hq=>?_⟩
 ·rcases Sh.mp hx with z|z
  ·exact h.no x z
  ·subst z;exact hp rfl
 ·rcases Sh.mp hq with z|z
  ·exact h.wQ q z
  ·subst z;exact⟨h1,h2⟩
theorem Cm.Ck {m:Nat}{B:List (Int×Int)}(h:Cm m B):∀ {ps:List (Int×Int)},(∀p∈ps,p.1≠p.2/\(0<=p.1/\p.1<m)/\(0<=p.2/\p.2<m))->Cm m (L2.Ck B ps):=by
 intro ps;induction ps generalizing B with
 |nil=>intro _;exact h
 |cons p r ih =>
  intro hp;have:=hp p zD;exact ih (h.add this.1 this.2.1 this.2.2) λ q hq=>hp q (zF _ hq)
theorem Cm.len {m:Nat}{B:List (Int×Int)}(h:Cm m B)(hm:m<=20):B.length<1000:=by
 have key:=Ia (l:=B) (u:=(zW m).flatMap λ i:Nat=>(zW m).map λ j:Nat=>((i:Int),(j:Int))) h.nd λ p hp=>by
  obtain⟨h1,h2⟩:=h.wQ p hp;refine List.mem_flatMap.mpr ⟨p.1.toNat,zbe.mpr (by omega),za0.mpr ⟨p.2.toNat,zbe.mpr (by omega),?_⟩⟩;rw[Int.toNat_of_nonneg h1.1,Int.toNat_of_nonneg h2.1]
 have e:((zW m).flatMap λ i:Nat=>(zW m).map λ j:Nat=>((i:Int),(j:Int))).length=m*m:=by
  rw[List.length_flatMap];simp[List.map_const',List.sum_replicate_nat]
 rw[e] at key;have:m*m<=20*20:=Nat.mul_le_mul hm hm;omega
theorem EZ (a b c d:Int):HT.lexLt [a,b] [c,d]=decide (a<c\/(a=c/\b<d)):=by
 rw[HT.Fs,HT.Fs,HT.ES,zby];by_cases h1:a=c
 ·subst h1;by_cases h2:b=d
  ·subst h2;simp
  ·simp[h2]
 ·simp[h1]
theorem X3 {α β:Type}(f:α->β):∀bs:List (α×List Int),B0 (bs.map λ b=>(f b.1,b.2))=(B0 bs).map λ b=>(f b.1,b.2):=by
 intro bs;unfold B0
 suffices z:∀o:Option (α×List Int),(bs.map λ b=>(f b.1,b.2)).foldl BK (o.map λ b=>(f b.1,b.2))=(bs.foldl BK o).map λ b=>(f b.1,b.2) from z none
 induction bs with
 |nil=>intro o;rfl
 |cons b r ih =>
  intro o;rw[zG,zac,zac,<-ih];congr 1;cases o with
  |none=>rfl
  |some c =>
   unfold BK;dsimp only [zbd];split<;>rfl
theorem Zl {α:Type}:∀(bs:List (α×List Int)) (o:Option (α×List Int)) (b:α×List Int),bs.foldl BK o=some b->b∈bs\/o=some b:=by
 intro bs;induction bs with
 |nil=>intro o b h;exact .inr h
 |cons x r ih =>
  intro o b h;rw[zac] at h;rcases ih _ _ h with q|q
  ·exact .inl (zF _ q)
  ·cases o with
   |none=>cases q;exact .inl zD
   |some c =>
    unfold BK at q;dsimp only at q;split at q
    ·cases q;exact .inl zD
    ·exact .inr q
theorem X4 {α:Type}{bs:List (α×List Int)}(h2:∀b∈bs,∃x y:Int,b.2=[x,y]){b:α×List Int}(hb:B0 bs=some b):∀c∈bs,HT.lexLt c.2 b.2=false:=by
 unfold B0 at hb
 suffices z:∀(bs:List (α×List Int)) (o:Option (α×List Int)),(∀b∈bs,∃x y:Int,b.2=[x,y])->(∀b,o=some b->∃x y:Int,b.2=[x,y])->∀b,bs.foldl BK o=some b->(∀c∈bs,HT.lexLt c.2 b.2=false)/\(∀c,o=some c->HT.lexLt c.2 b.2=false) from (z bs none h2 (λ b h=>by cases h) b hb).1
 intro bs;induction bs with
 |nil =>
  intro o _ ho b h;refine⟨λ c hc=>(by cases hc),λ c hc=>?_⟩;have e:o=some b:=h;rw[hc] at e;cases e;obtain⟨x,y,e⟩:=ho _ hc;rw[e,EZ];simp
 |cons d r ih =>
  intro o h2 ho b h;rw[zac] at h;have hd:=h2 d zD;have aR:∀b,BK o d=some b->∃x y:Int,b.2=[x,y]:=λ b hb=>by
   unfold BK at hb;cases o with
   |none=>cases hb;exact hd
   |some c =>
    dsimp only at hb;split at hb
    ·cases hb;exact hd
    ·cases hb;exact ho _ rfl
  obtain⟨i1,i2⟩:=ih (BK o d) (λ c hc=>h2 c (zF _ hc)) aR b h;have yo:=IV o d;obtain⟨k,hk⟩:∃k,BK o d=some k:=by
   cases q:BK o d with
   |none=>exact (yo q).elim
   |some k=>exact⟨k,rfl⟩
  have yp:=i2 k hk;obtain⟨kx,ky,ek⟩:=aR k hk;have fb:∃x y:Int,b.2=[x,y]:=by
   have:=Zl r (BK o d) b h;rcases this with z|z
   ·exact h2 b (zF _ z)
   ·exact aR b z
  obtain⟨bx,zq,eb⟩:=fb;obtain⟨dx,dy,ed⟩:=hd;rw[ek,eb,EZ,decide_eq_false_iff_not] at yp;have cB:HT.lexLt d.2 b.2=false/\∀c,o=some c->HT.lexLt c.2 b.2=false:=by
   unfold BK at hk;cases o with
   |none =>
    cases hk;rw[ed] at ek;injection ek with e1 e2
    injection e2 with e2 _
    refine⟨?_,λ c hc=>by cases hc⟩;rw[ed,eb,EZ,decide_eq_false_iff_not];omega
   |some c =>
    obtain⟨cx,cy,ec⟩:=ho c rfl;dsimp only at hk;rw[ed,ec,EZ] at hk;by_cases hl:dx<cx\/(dx=cx/\dy<cy)
    ·rw[if_pos (decide_eq_true hl)] at hk;cases hk;rw[ed] at ek;injection ek with e1 e2
     injection e2 with e2 _
     refine⟨?_,λ c' bK=>?_⟩
     ·rw[ed,eb,EZ,decide_eq_false_iff_not];omega
     ·cases bK;rw[ec,eb,EZ,decide_eq_false_iff_not];omega
    ·rw[if_neg (by simpa using hl)] at hk;cases hk;rw[ec] at ek;injection ek with e1 e2
     injection e2 with e2 _
     refine⟨?_,λ c' bK=>?_⟩
     ·rw[ed,eb,EZ,decide_eq_false_iff_not];omega
     ·cases bK;rw[ec,eb,EZ,decide_eq_false_iff_not];omega
  refine⟨λ c hc=>?_,cB.2⟩;rcases zQ.mp hc with z|z
  ·rw[z];exact cB.1
  ·exact i1 c z
noncomputable def Bn (B:List (Int×Int))(L:List Int):Int:=match B0 (L.map λ p=>(p,[((B3 B L p).length:Int),p])) with
 |some k=>k.1
 |none=>0
theorem X5 {B:List (Int×Int)}{L:List Int}(h:L≠[]):Bn B L∈L/\∀p∈L,¬ (((B3 B L p).length:Int)<(B3 B L (Bn B L)).length\/(((B3 B L p).length:Int)=(B3 B L (Bn B L)).length/\p<Bn B L)):=by
 unfold Bn;cases q:B0 (L.map λ p=>(p,[((B3 B L p).length:Int),p])) with
 |none=>exact (Nt (λ z=>h (List.map_eq_nil_iff.mp z)) q).elim
 |some k =>
  obtain⟨p,hp,rfl⟩:=za0.mp (KR _ _ q);refine⟨hp,λ p' jw=>?_⟩;have:=X4 (λ b hb=>by obtain⟨x,_,rfl⟩:=za0.mp hb;exact⟨_,_,rfl⟩) q _ (za0.mpr ⟨p',jw,rfl⟩);rw[EZ,decide_eq_false_iff_not] at this;exact this
noncomputable def Xw:Nat->List (Int×Int)->List Int->List Int
 |0,_,_=>[]
 |n+1,B,L=>if L=[] then [] else Bn B L::Xw n (Ck B (B3 B L (Bn B L))) (L.erase (Bn B L))
noncomputable def BL (rs:List Road):List (Int×Int):=rs.foldl (λ B r=>match r.l with | none=>B | some _=>L9 B (r.a,r.b)) []
theorem Si {m:Nat}:∀ {rs:List Road},(∀r∈rs,HY m r/\r.a≠r.b)->Cm m (BL rs):=by
 intro rs
 suffices z:∀(rs:List Road) (B:List (Int×Int)),Cm m B->(∀r∈rs,HY m r/\r.a≠r.b)->Cm m (rs.foldl (λ B r=>match r.l with|none=>B|some _=>L9 B (r.a,r.b)) B) from λ h=>z rs [] ⟨zb5,λ x h=>(by cases h),λ p h=>(by cases h)⟩ h
 intro rs;induction rs with
 |nil=>intro B h _;exact h
 |cons r t ih =>
  intro B h hr;rw[zac];refine ih _ ?_ λ r' h'=>hr r' (zF _ h');have:=hr r zD;cases r.l with
  |none=>exact h
  |some l=>exact h.add this.2 ⟨this.1.a0,this.1.a1⟩ ⟨this.1.b0,this.1.b1⟩
theorem Fl {f:Int->Int->M D}{a b:Int}:Bo f (.int a) (.int b)=f a b:=rfl
theorem Km {bs:List Bool}:YF [.lst (bs.map D.bl)]=.ok (.bl (bs.all id)):=by unfold YF;dsimp only;rw[Nh]
theorem Kn {bs:List Bool}:rS [.lst (bs.map D.bl)]=.ok (.bl (bs.any id)):=by unfold rS;dsimp only;rw[Nh]
theorem hX {a b:List D}(h:a.length+b.length<=1000):RQ (.lst a) (.lst b)=.ok (.lst ((a++b).map .sh)):=if_pos h
noncomputable def KI (d:D)(n:Int):Bool:=match d with
 | .int j=>decide (0<=j)&&decide (j<n)
 |_=>false
noncomputable def EQ (m:Nat):D->Bool
 | .lst xs=>(match CG xs with|some ns=>decide (Ep ns=B2 m)|none=>false)
 |_=>false
def sQ (d:D):Prop:=V3 d=false/\∀xs,d=.lst xs->xs.length<=1000/\∀e∈xs,V3 e=false
theorem Sj (m:Nat):(B2 m).Pairwise (·<=·):=by
 unfold B2;rw[List.pairwise_map];exact (List.pairwise_lt_range (n:=m)).imp λ h=>by omega
theorem NI (m:Nat):(B2 m).Nodup:=by
 unfold B2 List.Nodup;rw[List.pairwise_map];exact (List.pairwise_lt_range (n:=m)).imp λ h=>by omega
theorem PF {m:Nat}{L:List Int}:Ep L=B2 m↔L.Perm (B2 m):=
 ⟨λ h=>by rw[<-h];exact (D9 L).symm,λ h=>EM ((D9 L).trans h) (DV L) (Sj m)⟩
theorem NJ {m:Nat}{L:List Int}:EQ m (.lst (L.map D.int))=decide (Ep L=B2 m):=by unfold EQ;dsimp only;rw[E8]
theorem U8 {m:Nat}{L:List Int}(h:L.Perm (B2 m)):EQ m (.lst (L.map D.int))=true:=by rw[NJ];exact decide_eq_true (PF.mpr h)
theorem X6 {m:Nat}{xs:List D}(h:EQ m (.lst xs)=true):∃L:List Int,xs=L.map D.int/\L.Perm (B2 m):=by
 unfold EQ at h;dsimp only at h;split at h
 ·rename_i ns e;exact⟨ns,E9 e,PF.mp (of_decide_eq_true h)⟩
 ·cases h
theorem GL {m:Nat}{L:List Int}(h:L.Perm (B2 m)):L.length=m:=by rw[h.length_eq,GJ]
theorem BR {m:Nat}{L:List Int}(h:L.Perm (B2 m)){p:Int}:p∈L↔0<=p/\p<m:=by rw[h.mem_iff,Kl]
theorem NK {m:Nat}{L:List Int}(h:L.Perm (B2 m)):L.Nodup:=h.nodup_iff.mpr (NI m)
theorem Sk {m:Nat}{xs:List D}(h:EQ m (.lst xs)=true):xs.length=m/\(xs.map λ e=>KI e m).all id=true:=by
 obtain⟨L,rfl,hp⟩:=X6 h;refine⟨by rw[zC,GL hp],?_⟩;rw[zcr];intro b hb;rw[zam] at hb;obtain⟨j,hj,rfl⟩:=za0.mp hb;have:=(BR hp).mp hj;show (decide (0<=j)&&decide (j<m))=true;simp only[zad,decide_eq_true_eq];exact this
theorem VD {m:Nat}:∀ {xs:List D},(xs.map λ e=>KI e m).all id=true->∃L:List Int,xs=L.map D.int
 |[],_=>⟨[],rfl⟩
 |d::r,h=>by
  rw[zG,zcj,zad] at h;obtain⟨L,rfl⟩:=VD h.2;cases d with
  |int j=>exact⟨j::L,rfl⟩
  |_=>exact absurd h.1 (by simp[KI])
theorem PH:∀ {a b:List Int},Cr (a.map D.int) (b.map D.int)=decide (a=b)
 |[],[]=>by simp[Cr]
 |[],y::t=>by simp[Cr]
 |x::r,[]=>by simp[Cr]
 |x::r,y::t=>by
  rw[zG,zG,Cr,PH,Ax];by_cases h:x=y<;>by_cases k:r=t<;>simp[h,k]
theorem Sl {a b:List Int}:Ax (.lst (a.map D.int)) (.lst (b.map D.int))=decide (a=b):=by rw[Ax];exact PH
theorem Sn {a b:List Int}:cK 16 (.lst (a.map D.int)) (.lst (b.map D.int))=.ok (.bl (decide (a=b))):=by rw[TV (Ml (n:=15) a) (Ml (n:=15) b),Sl]
theorem Zm {a b:List Int}:Wo 16 (.lst (a.map D.int)) (.lst (b.map D.int))=.ok (.bl (!decide (a=b))):=by rw[Nf (Ml (n:=15) a) (Ml (n:=15) b),Sl]
theorem X7 {i:Nat}{L:List Int}(h:L.Perm (B2 i))(n:Nat):(L.take n++(i:Int)::L.drop n).Perm (B2 (i+1)):=by
 have e:B2 (i+1)=B2 i++[(i:Int)]:=by unfold B2;rw[List.range_succ,zag];rfl
 rw[e];refine List.perm_middle.trans ?_;rw[zbg];exact ((h.cons _).trans (List.perm_append_singleton _ _).symm)
theorem hZ {m:Nat}{xs:List D}(h:xs.length≠m):EQ m (.lst xs)=false:=by
 cases q:EQ m (.lst xs) with
 |false=>rfl
 |true=>exact (h (Sk q).1).elim
theorem VE {i:Nat}{ρ:Aa}{ds:List D}{d:D}{p:Int}(hi:ρ[i]?=some (some (.own ds)))(h0:0<=p)(h1:p<ds.length):eV i ρ (.ok (.int p)) d=.ok (.next (ρ.set i (some (.own (ds.set p.toNat d))))):=by
 unfold eV;rw[hi];dsimp only;rw[M.A7];unfold mU;dsimp only;rw[MK ⟨h0,h1⟩]
theorem iA {ρ:Aa}:YN 0 (none::ρ)=none::ρ:=rfl
theorem Zn:∃T Q:Int,Wn (.int 10) (.int 60)=.ok (.int T)/\Wn (.int 982451653) (.int 7)=.ok (.int Q)/\1000000<T/\T.natAbs<2^200/\0<Q/\Q.natAbs<2^250:=⟨10^60,982451653^7,rfl,rfl,by decide,by decide,by decide,by decide⟩
noncomputable def M5:Int:=zH Zn
theorem jZ:∃Q:Int,Wn (.int 10) (.int 60)=.ok (.int M5)/\Wn (.int 982451653) (.int 7)=.ok (.int Q)/\1000000<M5/\M5.natAbs<2^200/\0<Q/\Q.natAbs<2^250:=zB Zn
theorem kA:Wn (.int 10) (.int 60)=.ok (.int M5):=(zB jZ).1
theorem U9:1000000<M5:=(zB jZ).2.2.1
theorem iB {i:Int}:Gi (.int i) (.int M5)=.ok (.int (i%M5)):=By (by have:=U9;omega)
def cl:Nat->D->Prop
 |0,d=>V3 d=false
 |n+1,d=>V3 d=false/\∀ds,(d=.tup ds\/d=.lst ds)->∀e∈ds,cl n e
theorem cl.x {n:Nat}{d:D}(h:cl n d):V3 d=false:=by cases n with | zero=>exact h | succ n=>exact h.1
theorem Zo {n:Nat}{ds:List D}(h:∀e∈ds,cl n e):cl (n+1) (.tup ds):=⟨rfl,λ es e x hx=>by rcases e with e | e<;>cases e;exact h x hx⟩
theorem nR {n:Nat}{ds:List D}(h:∀e∈ds,cl n e):cl (n+1) (.lst ds):=⟨rfl,λ es e x hx=>by rcases e with e | e<;>cases e;exact h x hx⟩
theorem VF {n:Nat}{d:D}(h:V3 d=false)(h2:∀ds,d≠.tup ds)(h3:∀ds,d≠.lst ds):cl n d:=by
 cases n with
 |zero=>exact h
 |succ n=>exact⟨h,λ ds e=>by rcases e with e|e;exact (h2 ds e).elim;exact (h3 ds e).elim⟩
theorem NL {n:Nat}{i:Int}:cl n (.int i):=VF rfl (λ _ h=>by cases h) (λ _ h=>by cases h)
theorem nS {n:Nat}:cl n .AF:=VF rfl (λ _ h=>by cases h) (λ _ h=>by cases h)
theorem nT {n:Nat}{l:Option Int}:cl n (EK l):=by cases l;exact nS;exact NL
theorem Zp {n:Nat}:∀e∈([]:List D),cl n e:=λ e h=>by cases h
theorem Ib {n:Nat}{d:D}{ds:List D}(h:cl n d)(t:∀e∈ds,cl n e):∀e∈d::ds,cl n e:=λ e he=>by
 rcases zQ.mp he with rfl|he
 ·exact h
 ·exact t e he
theorem sR {n:Nat}{r:Road}:cl (n+1) (Ca r):=Zo (Ib NL (Ib NL (Ib nT (Ib NL Zp))))
theorem nU {n:Nat}{rs:List Road}:∀e∈rs.map Ca,cl (n+1) e:=λ e he=>by
 obtain⟨r,_,rfl⟩:=za0.mp he;exact sR
noncomputable def F0 (m:Int):D->Bool
 | .tup [a,b,l,w]=>KI a m&&(KI b m&&(!Ax a b&&((Bj l||KI l M5)&&KI w M5)))
 |_=>false
noncomputable def DL:D->Bool
 | .tup [.int m,.lst rs]=>(KI (.int m) 17 && !decide (m=0))&&(decide (rs.length<=60)&&(rs.map (F0 m)).all id)
 |_=>false
theorem X8 {n:D}:DL (.tup [n])=false:=by cases n<;>rfl
theorem Ua {n r z:D}{t:List D}:DL (.tup (n::r::z::t))=false:=by cases n<;>cases r<;>rfl
structure J2 (m:Nat)(r:Road):Prop where
 a0:0<=r.a
 a1:r.a<m
 b0:0<=r.b
 b1:r.b<m
 ab:r.a≠r.b
 l0:∀l,r.l=some l->0<=l/\l<M5
 w0:0<=r.w
 w1:r.w<M5
theorem Ko {i n:Int}(h0:0<=i)(h1:i<n):KI (.int i) n=true:=by unfold KI;simp[h0,h1]
theorem X9 {m:Nat}{r:Road}(h:J2 m r):F0 m (Ca r)=true:=by
 unfold Ca F0;dsimp only;rw[Ko h.a0 h.a1,Ko h.b0 h.b1,Ko h.w0 h.w1];have:Ax (.int r.a) (.int r.b)=false:=by rw[Ax];simp[h.ab]
 rw[this];cases hl:r.l with
 |none=>rfl
 |some l=>have:=h.l0 l hl;rw[show EK (some l)=.int l from rfl,Ko this.1 this.2];rfl
theorem Zq {m:Nat}{rs:List Road}(h1:1<=m)(h2:m<=16)(hl:rs.length<=60)(h:∀r∈rs,J2 m r):DL (Ah m rs)=true:=by
 unfold Ah DL;dsimp only;rw[Ko (by omega) (by omega),zC,decide_eq_true hl,decide_eq_false (by omega)];have:(((rs.map Ca).map (F0 m)).all id)=true:=by
  rw[zcr];intro b hb;rw[zam] at hb;obtain⟨r,hr,rfl⟩:=za0.mp hb;exact X9 (h r hr)
 rw[this];rfl
theorem Zr {S:List D}{q:Int}(h:0<S.length)(h0:0<=q):Gi (.int q) (.int (S.length:Int))=.ok (.int (q%S.length))/\∃y,y∈S/\Bf (.lst S) (.int (q%(S.length:Int)))=.ok y:=by
 have bU:(0:Int)<(S.length:Int):=by omega
 have b0:0<=q%(S.length:Int):=zbh _ (by omega);have b1:q%(S.length:Int)<S.length:=zbi _ bU;refine⟨By bU,S[(q%(S.length:Int)).toNat]'(by omega),List.getElem_mem _,?_⟩;have:=HZ (f:=λ d:D=>d) (l:=S) b0 (zJ (by omega));rw[List.map_id'] at this;exact this
theorem iC {a b:OT}:er (.tup [a,b])=.tup [er a,er b]:=by simp[er,RD]
section
variable {α β:Type}{a b c d e f g:α}{x y:β}
theorem iD:(if [a,b,c,d,e].length<=1000 then x else y)=x:=rfl
theorem iE:(if [a,b,c,d,e,f].length<=1000 then x else y)=x:=rfl
theorem iF:(if [a,b,c,d,e,f,g].length<=1000 then x else y)=x:=rfl
theorem MN {t:Bool}:er (.Bd t [] [])=.Bd t [] []:=by simp[er,RD]
end
structure Xx (m:Nat)(rs:List Road)(rk:Int->Nat)(Af:Int->Int->Co):Prop where
 snd:∀x y c,Af x y=some c->Wk rs x y c/\x≠y/\(0<=x/\x<m)/\0<=y/\y<m
 road:∀r∈rs,BY (Af r.a r.b) (Cq r)
 wR:∀p x y,x≠y->rk p<rk x->rk p<rk y->BY (Af x y) (Ap (Af x p) (Af p y))
 inj:∀x y:Int,0<=x->x<m->0<=y->y<m->rk x=rk y->x=y
 nn:∀x y c,Wk rs x y c->0<=c.1/\0<=c.2
inductive M6 (Af:Int->Int->Co) (rk:Int->Nat) (s:Int):Int->Int×Int->Prop
 |nil:M6 Af rk s s (0,0)
 |snoc {x y:Int} {c d:Int×Int}:M6 Af rk s x c->rk x<rk y->Af x y=some d->M6 Af rk s y (c.1+d.1,c.2+d.2)
inductive Xy (Af:Int->Int->Co) (rk:Int->Nat) (t:Int):Nat->Int->Int×Int->Prop
 |nil:Xy Af rk t 0 t (0,0)
 |snoc {n:Nat} {x y:Int} {c d:Int×Int}:Xy Af rk t n x c->rk y<rk x->Af x y=some d->Xy Af rk t (n+1) y (c.1+d.1,c.2+d.2)
def Oi (p q:Int×Int):Prop:=p.1<q.1\/(p.1=q.1/\p.2<=q.2)
theorem Ub {a:Co}{q:Int×Int}(h:BY a (some q)):∃p,a=some p/\Oi p q:=by
 cases a with
 |none=>exact h.elim
 |some p=>exact⟨p,rfl,h⟩
def UD (Af:Int->Int->Co)(rk:Int->Nat)(s w:Int)(c:Int×Int):Prop:=∃t n c1 c2,M6 Af rk s t c1/\Xy Af rk t n w c2/\Oi (c1.1+c2.1,c1.2+c2.2) c
section
variable {m:Nat}{rs:List Road}{rk:Int->Nat}{Af Cf:Int->Int->Co}{s w:Int}
theorem M6.walk (L:Xx m rs rk Af){t:Int}{c:Int×Int}(h:M6 Af rk s t c):Wk rs s t c:=by
 induction h with
 |nil=>exact .nil s
 |snoc _ _ ha ih=>exact ih.trans (L.snd _ _ _ ha).1
theorem Xy.walk (L:Xx m rs rk Af){t x:Int}{n:Nat}{c:Int×Int}(h:Xy Af rk t n x c):Wk rs t x c:=by
 induction h with
 |nil=>exact .nil t
 |snoc _ _ ha ih=>exact ih.trans (L.snd _ _ _ ha).1
theorem nV (L:Xx m rs rk Af):∀(n:Nat){t x y:Int}{c1 c2 d:Int×Int},M6 Af rk s t c1->Xy Af rk t n x c2->Af x y=some d->UD Af rk s y (c1.1+c2.1+d.1,c1.2+c2.2+d.2):=by
 intro n;induction n with
 |zero =>
  intro t x y c1 c2 d hu hd ha;obtain⟨_,af,hx,hy⟩:=L.snd _ _ _ ha;cases hd with
  |nil =>
   by_cases h:rk y<rk t
   ·exact⟨t,1,c1,_,hu,.snoc .nil h ha,by simp only[Oi];omega⟩
   ·have h2:rk t<rk y:=by
     have hq:rk t≠rk y:=λ e=>af (L.inj t y hx.1 hx.2 hy.1 hy.2 e);omega
    exact⟨y,0,_,_,.snoc hu h2 ha,.nil,by simp only[Oi];omega⟩
 |succ n ih =>
  intro t x y c1 c2 d hu hd ha;obtain⟨hw,af,hx,hy⟩:=L.snd _ _ _ ha;by_cases h:rk y<rk x
  ·exact⟨t,n+2,c1,_,hu,.snoc hd h ha,by simp only[Oi];omega⟩
  ·have h2:rk x<rk y:=by
    have hq:rk x≠rk y:=λ e=>af (L.inj x y hx.1 hx.2 hy.1 hy.2 e);omega
   cases hd with
   | @snoc _ z _ c e b7 hr ca =>
    have n1:=L.nn _ _ _ hw;have n2:=L.nn _ _ _ (L.snd _ _ _ ca).1;by_cases hz:z=y
    ·subst hz;exact⟨t,n,c1,c,hu,b7,by simp only[Oi];omega⟩
    ·have q:=L.wR x z y hz hr h2;rw[ca,ha] at q;obtain⟨f,hf,hle⟩:=Ub q;obtain⟨t',n',se,sf,g1,g2,g3⟩:=ih hu b7 hf;refine⟨t',n',se,sf,g1,g2,?_⟩;simp only[Oi] at *;omega
theorem iG (L:Xx m rs rk Af){u:Int}{c:Int×Int}(h:Wk rs u w c):∀ {c0:Int×Int},UD Af rk s u c0->UD Af rk s w (c0.1+c.1,c0.2+c.2):=by
 induction h with
 |nil u =>
  intro c0 h;simpa using h
 | @cons r l w c hr hl _ ih =>
  intro c0 h0;obtain⟨t,n,c1,c2,g1,g2,g3⟩:=h0;have q:=L.road r hr;unfold Cq at q;rw[hl] at q;obtain⟨d,hd,hle⟩:=Ub q;obtain⟨t',n',se,sf,k1,k2,k3⟩:=nV L n g1 g2 hd;have r1:=@ih (c0.1+l,c0.2+1) ⟨t',n',se,sf,k1,k2,by simp only[Oi] at *;omega⟩;simpa [Int.add_assoc] using r1
def Kept (rs:List Road)(Af Cf:Int->Int->Co):Prop:=∀x y c,Cf x y=some c↔(Af x y=some c/\DK rs x y (some c))
theorem iH (L:Xx m rs rk Af)(K:Kept rs Af Cf){t:Int}{c1:Int×Int}(h:M6 Af rk s t c1):∀ {c2:Int×Int},Wk rs t w c2->(∀c,Wk rs s w c->Oi (c1.1+c2.1,c1.2+c2.2) c)->M6 Cf rk s t c1:=by
 induction h with
 |nil=>exact λ _ _=>.nil
 | @snoc x y c d hu hr ha ih =>
  intro c2 hw hm;have ca:=(L.snd _ _ _ ha).1;refine .snoc (ih (c2:=(d.1+c2.1,d.2+c2.2)) (ca.trans hw) λ c' bK=>?_) hr ((K x y d).mpr ⟨ha,λ e he=>?_,λ p hp=>by cases hp;exact ca⟩)
  ·have:=hm c' bK;simp only[Oi] at *;omega
  ·have:=hm _ (((hu.walk L).trans he).trans hw);simp only[Oi,BY] at *;omega
theorem iI (L:Xx m rs rk Af)(K:Kept rs Af Cf){t x:Int}{n:Nat}{c2:Int×Int}{c1:Int×Int}(hs:Wk rs s t c1)(h:Xy Af rk t n x c2):(∀c,Wk rs s x c->Oi (c1.1+c2.1,c1.2+c2.2) c)->Xy Cf rk t n x c2:=by
 induction h with
 |nil=>exact λ _=>.nil
 | @snoc n x y c d hd hr ha ih =>
  intro hm;have ca:=(L.snd _ _ _ ha).1;refine .snoc (ih λ c' bK=>?_) hr ((K x y d).mpr ⟨ha,λ e he=>?_,λ p hp=>by cases hp;exact ca⟩)
  ·have:=hm _ (bK.trans ca);simp only[Oi] at *;omega
  ·have:=hm _ ((hs.trans (hd.walk L)).trans he);simp only[Oi,BY] at *;omega
theorem Zs (L:Xx m rs rk Af)(K:Kept rs Af Cf){c:Int×Int}(h:DK rs s w (some c)):∃t n c1 c2,M6 Cf rk s t c1/\Xy Cf rk t n w c2/\c=(c1.1+c2.1,c1.2+c2.2):=by
 obtain⟨t,n,c1,c2,g1,g2,g3⟩:=iG L (h.2 c rfl) (c0:=(0,0)) ⟨s,0,_,_,.nil,.nil,by simp[Oi]⟩;have hw:=(g1.walk L).trans (g2.walk L);have q:=h.1 _ hw;have e:c=(c1.1+c2.1,c1.2+c2.2):=by
  obtain⟨a,b⟩:=c;simp only[Oi,BY] at *;refine Prod.ext ?_ ?_<;>dsimp only<;>omega
 refine⟨t,n,c1,c2,iH L K g1 (g2.walk L) λ c' bK=>?_,iI L K (g1.walk L) g2 λ c' bK=>?_,e⟩
 ·have:=h.1 _ bK;rw[e] at this;exact this
 ·have:=h.1 _ bK;rw[e] at this;exact this
structure vR (rk:Int->Nat)(Cf:Int->Int->Co)(s:Int)(R:Int->Co):Prop where
 st:BY (R s) (some (0,0))
 cl:∀x y,rk x<rk y->BY (R y) (Ap (R x) (Cf x y))
 sd:∀x c,R x=some c->M6 Cf rk s x c
theorem vR.le {R:Int->Co}(h:vR rk Cf s R){t:Int}{c:Int×Int}(u:M6 Cf rk s t c):BY (R t) (some c):=by
 induction u with
 |nil=>exact h.st
 | @snoc x y c d hu hr ha ih =>
  refine As (h.cl x y hr) ?_;rw[ha];exact CL (some d) ih
theorem Kept.sS (K:Kept rs Af Cf){x y:Int}{c:Int×Int}(h:Cf x y=some c):Af x y=some c:=((K x y c).mp h).1
theorem M6.of_kept (K:Kept rs Af Cf){t:Int}{c:Int×Int}(h:M6 Cf rk s t c):M6 Af rk s t c:=by
 induction h with
 |nil=>exact .nil
 |snoc _ hr ha ih=>exact .snoc ih hr (K.sS ha)
end
theorem Wk.turn {rs:List Road}{u w:Int}{c:Int×Int}(h:Wk rs u w c):Wk (rs.map Kh) w u c:=by
 induction h with
 |nil u=>exact .nil u
 | @cons r l w c hr hl _ ih =>
  have h1:Wk (rs.map Kh) (Kh r).a (Kh r).b (l,1):=Wk.one (za0.mpr ⟨r,hr,rfl⟩) hl;have:=ih.trans h1;have e:(c.1+l,c.2+1)=(l+c.1,1+c.2):=by rw[Int.add_comm,Int.add_comm c.2]
  rw[<-e];exact this
theorem Ic (rs:List Road):(rs.map Kh).map Kh=rs:=by
 rw[zam];exact (zc0 λ r _=>rfl).trans (List.map_id rs)
theorem DK.turn {rs:List Road}{u w:Int}{x:Co}(h:DK rs u w x):DK (rs.map Kh) w u x:=by
 refine⟨λ c hc=>h.1 c ?_,λ p hp=>(h.2 p hp).turn⟩;have:=hc.turn;rw[Ic] at this;exact this
theorem Xx.turn {m:Nat}{rs:List Road}{rk:Int->Nat}{Af:Int->Int->Co}(L:Xx m rs rk Af):Xx m (rs.map Kh) rk (λ x y=>Af y x):=by
 refine⟨λ x y c h=>?_,λ r hr=>?_,λ p x y af h1 h2=>?_,L.inj,λ x y c h=>?_⟩
 ·obtain⟨a,b,c,d⟩:=L.snd _ _ _ h;exact⟨a.turn,zao b,d,c⟩
 ·obtain⟨r',bn,rfl⟩:=za0.mp hr;exact L.road r' bn
 ·rw[Cd];exact L.wR p y x (zao af) h2 h1
 ·have:=h.turn;rw[Ic] at this;exact L.nn _ _ _ this
theorem Kept.turn {rs:List Road}{Af Cf:Int->Int->Co}(K:Kept rs Af Cf):Kept (rs.map Kh) (λ x y=>Af y x) (λ x y=>Cf y x):=λ x y c=>by
 refine (K y x c).trans ⟨λ h=>⟨h.1,h.2.turn⟩,λ h=>⟨h.1,?_⟩⟩;have:=h.2.turn;rw[Ic] at this;exact this
section
variable {κ β:Type} [DecidableEq κ]
noncomputable def Av:List (κ×β)->κ->Option β
 |[],_=>none
 |(k,v)::r,x=>if k=x then some v else Av r x
noncomputable def Dd (A:List (κ×β))(k:κ)(v:β):List (κ×β):=if (Av A k).isSome=true then A.map λ kv=>if kv.1=k then (kv.1,v) else kv else A++[(k,v)]
theorem QD (k j:κ)(v:β):∀A:List (κ×β),Av (A.map λ kv=>if kv.1=k then (kv.1,v) else kv) j=if j=k then (Av A j).map λ _=>v else Av A j
 |[]=>by simp[Av]
 |(k',v')::r=>by
  rw[zG];by_cases h1:k'=k
  ·rw[if_pos h1];subst h1;simp only[Av];by_cases h2:k'=j
   ·subst h2;simp
   ·rw[if_neg h2,if_neg h2,QD k' j v r]
  ·rw[if_neg h1];simp only[Av];by_cases h2:k'=j
   ·subst h2;rw[if_pos rfl,if_pos rfl,if_neg h1]
   ·rw[if_neg h2,if_neg h2,QD k j v r]
theorem So (k j:κ)(v:β):∀A:List (κ×β),Av A k=none->Av (A++[(k,v)]) j=if j=k then some v else Av A j
 |[],_=>by
  simp only[List.nil_append,Av];by_cases h:k=j
  ·subst h;simp
  ·rw[if_neg h,if_neg (zao h)]
 |(k',v')::r,h=>by
  simp only[Av] at h;by_cases h1:k'=k
  ·rw[if_pos h1] at h;cases h
  ·rw[if_neg h1] at h;rw[zcq];simp only[Av];rw[So k j v r h];by_cases h2:k'=j
   ·subst h2;rw[if_pos rfl,if_pos rfl,if_neg h1]
   ·rw[if_neg h2,if_neg h2]
theorem Ie (A:List (κ×β))(k j:κ)(v:β):Av (Dd A k v) j=if j=k then some v else Av A j:=by
 unfold Dd;by_cases h:(Av A k).isSome=true
 ·rw[if_pos h,QD];by_cases hj:j=k
  ·subst hj;rw[if_pos rfl,if_pos rfl];obtain⟨x,hx⟩:=zbu.mp h;rw[hx];rfl
  ·rw[if_neg hj,if_neg hj]
 ·rw[if_neg h];exact So k j v A (by cases e:Av A k with|none=>rfl|some x=>rw[e] at h;exact (h rfl).elim)
theorem FE:∀ {A:List (κ×β)}{k:κ},(Av A k).isSome=true↔k∈A.map za1
 |[],k=>by simp[Av]
 |(k',v')::r,k=>by
  simp only[Av,zG,zQ];by_cases h:k'=k
  ·rw[if_pos h];simp[h]
  ·rw[if_neg h,FE];simp[zao h]
theorem Sq {A:List (κ×β)}{k:κ}:Av A k=none↔k∉A.map za1:=by
 rw[<-FE];cases Av A k<;>simp
theorem Sr (A:List (κ×β))(k:κ)(v:β):(Dd A k v).map za1=if (Av A k).isSome=true then A.map za1 else A.map za1++[k]:=by
 unfold Dd;split
 ·rw[zam];refine zc0 λ kv _=>?_;dsimp only [Function.comp];split<;>rfl
 ·rw[zag];rfl
theorem La {A:List (κ×β)}{k:κ}{v:β}(h:(A.map za1).Nodup):((Dd A k v).map za1).Nodup:=by
 rw[Sr];split
 ·exact h
 ·rename_i hn;rw[FE] at hn;rw[za9];exact⟨h,by simp,λ x hx y hy=>by rw[zS.mp hy];exact λ e=>hn (e▸hx)⟩
theorem NM {A:List (κ×β)}{k x:κ}{v:β}(h:x∈(Dd A k v).map za1):x∈A.map za1\/x=k:=by
 rw[Sr] at h;split at h
 ·exact .inl h
 ·rcases za5.mp h with h|h
  ·exact .inl h
  ·exact .inr (zS.mp h)
theorem NO:∀ {A:List (κ×β)}{k:κ}{v:β},Av A k=some v->(k,v)∈A
 |(k',v')::r,k,v,h=>by
  simp only[Av] at h;split at h
  ·rename_i e;cases h;subst e;exact zD
  ·exact zF _ (NO h)
theorem J3:∀ {A:List (κ×β)}{k:κ}{v:β},(A.map za1).Nodup->(k,v)∈A->Av A k=some v
 |(k',v')::r,k,v,hn,h=>by
  rw[zG,zav] at hn;simp only[Av];rcases zQ.mp h with e|h
  ·cases e;rw[if_pos rfl]
  ·have:k'≠k:=λ e=>hn.1 (e▸za0.mpr ⟨_,h,rfl⟩);rw[if_neg this];exact J3 hn.2 h
variable {kf:κ->D}{vf:β->D}(he:∀a b,Ax (kf a) (kf b)=decide (a=b))
include he
theorem Kq (A:List (κ×β))(k:κ):M3 (A.map λ kv=>kf kv.1) (kf k)=(Av A k).isSome:=by
 induction A with
 |nil=>rfl
 |cons kv r ih =>
  obtain⟨k',v'⟩:=kv;unfold M3 at ih ⊢;rw[zG,zci,ih,he];simp only[Av];by_cases h:k'=k
  ·rw[if_pos h,decide_eq_true h];rfl
  ·rw[if_neg h,decide_eq_false h];rfl
theorem Kr (A:List (κ×β))(k:κ):Gj (A.map λ kv=>kf kv.1) (A.map λ kv=>vf kv.2) (kf k)=(Av A k).map vf:=by
 induction A with
 |nil=>rfl
 |cons kv r ih =>
  obtain⟨k',v'⟩:=kv;rw[zG,zG,Gj,he,ih];simp only[Av];by_cases h:k'=k
  ·rw[decide_eq_true h,if_pos rfl,if_pos h];rfl
  ·rw[decide_eq_false h,if_neg zaf,if_neg h]
theorem Zt (k:κ)(v:β)(A:List (κ×β)):IT (A.map λ kv=>kf kv.1) (A.map λ kv=>vf kv.2) (kf k) (vf v)=(A.map λ kv=>if kv.1=k then (kv.1,v) else kv).map λ kv=>vf kv.2:=by
 induction A with
 |nil=>rfl
 |cons kv r ih =>
  obtain⟨k',v'⟩:=kv;rw[zG,zG,IT,he,ih,zG,zG];by_cases h:k'=k
  ·rw[decide_eq_true h,if_pos rfl,if_pos h]
  ·rw[decide_eq_false h,if_neg zaf,if_neg h]
theorem Ks (A:List (κ×β))(k:κ)(v:β):putD (A.map λ kv=>kf kv.1) (A.map λ kv=>vf kv.2) (kf k) (vf v)=((Dd A k v).map (λ kv=>kf kv.1),(Dd A k v).map λ kv=>vf kv.2):=by
 unfold putD Dd;rw[Kq he];by_cases h:(Av A k).isSome=true
 ·rw[if_pos h,if_pos h,Zt he];refine Prod.ext ?_ rfl;dsimp only;rw[zam];refine zc0 λ kv _=>?_;dsimp only [Function.comp];split<;>rfl
 ·rw[if_neg h,if_neg h,zag,zag];rfl
end
theorem GN (a b:Int):Ax (.int a) (.int b)=decide (a=b):=by
 simp only[Ax];by_cases h:a=b
 ·subst h;simp
 ·simp[h]
noncomputable abbrev LA:=List ((Int×Int)×((Int×Int)×Option Int))
noncomputable def Xa (v:(Int×Int)×Option Int):D:=.tup [cst (some v.1),EK v.2]
noncomputable def LH (A:LA):D:=.Bd true (A.map λ kv=>pD kv.1) (A.map λ kv=>Xa kv.2)
noncomputable def Jl (A:LA):OT:=.Bd true (A.map λ kv=>pD kv.1) ((A.map λ kv=>Xa kv.2).map .sh)
noncomputable def Ao (A:LA)(p:Int×Int):Co:=(Av A p).map za1
noncomputable def layA (A:LA)(p:Int×Int)(c:Co)(mid:Option Int):LA:=match c with
 |none=>A
 |some c=>(match Av A p with
  |none=>Dd A p (c,mid)
  |some z=>if c.1<z.1.1\/(c.1=z.1.1/\c.2<z.1.2) then Dd A p (c,mid) else A)
theorem GO (A:LA)(p q:Int×Int)(c:Co)(mid:Option Int):Ao (layA A p c mid) q=if q=p then Dq (Ao A p) c else Ao A q:=by
 unfold layA Ao;cases c with
 |none =>
  by_cases h:q=p
  ·subst h;rw[if_pos rfl];cases Av A q<;>rfl
  ·rw[if_neg h]
 |some c =>
  cases e:Av A p with
  |none =>
   dsimp only;rw[Ie];by_cases h:q=p
   ·rw[if_pos h,if_pos h];rfl
   ·rw[if_neg h,if_neg h]
  |some z =>
   dsimp only;by_cases hc:c.1<z.1.1\/(c.1=z.1.1/\c.2<z.1.2)
   ·rw[if_pos hc,Ie];by_cases h:q=p
    ·rw[if_pos h,if_pos h];simp only[zbd,Dq,cO];rw[if_neg (by omega)]
    ·rw[if_neg h,if_neg h]
   ·rw[if_neg hc];by_cases h:q=p
    ·subst h;rw[if_pos rfl,e];simp only[zbd,Dq,cO];rw[if_pos (by omega)]
    ·rw[if_neg h]
theorem Uc (A:LA)(p q:Int×Int)(c:Co)(mid:Option Int):BY (Ao (layA A p c mid) q) (Ao A q):=by
 rw[GO];split
 ·rename_i h;subst h;exact EN _ _
 ·exact C7 _
theorem Zu {A:LA}{p x:Int×Int}{c:Co}{mid:Option Int}(h:x∈(layA A p c mid).map za1):x∈A.map za1\/x=p:=by
 unfold layA at h;split at h
 ·exact .inl h
 ·split at h
  ·exact NM h
  ·split at h
   ·exact NM h
   ·exact .inl h
theorem Xb {A:LA}{p:Int×Int}{c:Co}{mid:Option Int}(h:(A.map za1).Nodup):((layA A p c mid).map za1).Nodup:=by
 unfold layA;split
 ·exact h
 ·split
  ·exact La h
  ·split
   ·exact La h
   ·exact h
noncomputable def QE (p u:Int)(A:LA)(w:Int):LA:=if u=w then A else layA A (u,w) (Ap (Ao A (u,p)) (Ao A (p,w))) (some p)
noncomputable def iJ (p:Int)(H:List Int)(A:LA)(u:Int):LA:=H.foldl (QE p u) A
noncomputable def nW (A:LA)(p:Int)(H:List Int):LA:=H.foldl (iJ p H) A
noncomputable def Ud:LA->List Int->LA
 |A,[]=>A
 |A,p::r=>Ud (nW A p r) r
noncomputable def lay0 (rs:List Road):LA:=rs.foldl (λ A r=>layA A (r.a,r.b) (Cq r) none) []
noncomputable def BS (rs:List Road)(L:List Int):LA:=Ud (lay0 rs) L
structure Fo (m:Nat)(A:LA):Prop where
 nd:(A.map za1).Nodup
 rg:∀p∈A.map za1,p.1≠p.2/\(0<=p.1/\p.1<m)/\0<=p.2/\p.2<m
theorem Fo.lay {m:Nat}{A:LA}(h:Fo m A){p:Int×Int}{c:Co}{mid:Option Int}(hp:p.1≠p.2/\(0<=p.1/\p.1<m)/\0<=p.2/\p.2<m):Fo m (layA A p c mid):=
 ⟨Xb h.nd,λ q hq=>(Zu hq).elim (h.rg q) λ e=>e▸hp⟩
theorem Fo.len {m:Nat}{A:LA}(h:Fo m A)(hm:m<=20):A.length<1000:=by
 have:=Cm.len (B:=A.map za1) (m:=m) ⟨h.nd,λ x hx=>(h.rg _ hx).1 rfl,λ q hq=>⟨(h.rg q hq).2.1,(h.rg q hq).2.2⟩⟩ hm;rwa[zC] at this
theorem Kt {α β:Type}{f:β->α->β}(P:List α->β->Prop):∀ {L pre:List α}{b:β},P pre b->(∀a∈L,∀pre b,P pre b->P (pre++[a]) (f b a))->P (pre++L) (L.foldl f b)
 |[],pre,b,h,_=>by rw[zal];exact h
 |a::L,pre,b,h,hs=>by
  have:=Kt P (L:=L) (hs a zD pre b h) λ x hx=>hs x (zF _ hx);rw[zaw] at this;exact this
def iK (rs:List Road)(A:LA):Prop:=∀x y c,Ao A (x,y)=some c->Wk rs x y c
theorem iK.lay {rs:List Road}{A:LA}(h:iK rs A){x y:Int}{c:Co}{mid:Option Int}(hc:∀p,c=some p->Wk rs x y p):iK rs (layA A (x,y) c mid):=λ u w d hd=>by
 rw[GO] at hd;split at hd
 ·rename_i e;cases e;rcases Bq (Ao A (x,y)) c with ⟨e,_⟩|⟨e,_⟩
  ·rw[e] at hd;exact h _ _ _ hd
  ·rw[e] at hd;exact hc d hd
 ·exact h _ _ _ hd
structure Over (m:Nat)(rs:List Road)(p:Int)(H:List Int)(A0 A:LA):Prop where
 ok:Fo m A
 sd:iK rs A
 le:∀q,BY (Ao A q) (Ao A0 q)
 sm:∀x y,(x∉H\/y∉H)->Ao A (x,y)=Ao A0 (x,y)
theorem Xc {m:Nat}{rs:List Road}{p:Int}{H:List Int}{A0 A:LA}(hp:p∉H)(hH:∀x∈H,0<=x/\x<m)(h:Over m rs p H A0 A){u w:Int}(hu:u∈H)(hw:w∈H):Over m rs p H A0 (QE p u A w)/\(u≠w->BY (Ao (QE p u A w) (u,w)) (Ap (Ao A0 (u,p)) (Ao A0 (p,w)))):=by
 unfold QE;by_cases e:u=w
 ·rw[if_pos e];exact⟨h,λ z=>(z e).elim⟩
 ·rw[if_neg e];have e1:=h.sm u p (.inr hp);have e2:=h.sm p w (.inl hp);refine⟨⟨h.ok.lay ⟨e,hH u hu,hH w hw⟩,h.sd.lay λ c hc=>?_,λ q=>As (Uc _ _ _ _ _) (h.le q),λ x y cN=>?_⟩,λ _=>?_⟩
  ·obtain⟨a,b,ha,hb,rfl⟩:=I9 hc;exact (h.sd _ _ _ ha).trans (h.sd _ _ _ hb)
  ·rw[GO,if_neg (λ z=>by cases z;exact cN.elim (λ q=>q hu) λ q=>q hw)];exact h.sm x y cN
  ·rw[GO,if_pos rfl,e1,e2];exact EO _ _
theorem kB {p u:Int}{A:LA}{w:Int}(q:Int×Int):BY (Ao (QE p u A w) q) (Ao A q):=by
 unfold QE;split
 ·exact C7 _
 ·exact Uc _ _ _ _ _
theorem kC {p u:Int}(q:Int×Int):∀(H:List Int) (A:LA),BY (Ao (H.foldl (QE p u) A) q) (Ao A q)
 |[],A=>C7 _
 |w::H,A=>As (kC q H (QE p u A w)) (kB q)
theorem nX {m:Nat}{rs:List Road}{p:Int}{H:List Int}{A0 A:LA}(hp:p∉H)(hH:∀x∈H,0<=x/\x<m)(h:Over m rs p H A0 A){u:Int}(hu:u∈H):Over m rs p H A0 (iJ p H A u)/\∀w∈H,u≠w->BY (Ao (iJ p H A u) (u,w)) (Ap (Ao A0 (u,p)) (Ao A0 (p,w))):=by
 unfold iJ;have:=Kt (L:=H) (pre:=[]) (f:=QE p u) (b:=A) (λ W A=>Over m rs p H A0 A/\∀w∈W,u≠w->BY (Ao A (u,w)) (Ap (Ao A0 (u,p)) (Ao A0 (p,w)))) ⟨h,λ w hw=>by cases hw⟩ λ w hw W B hB=>by
  obtain⟨b1,b2⟩:=hB;obtain⟨c1,c2⟩:=Xc hp hH b1 hu hw;refine⟨c1,λ x hx af=>?_⟩;rcases za5.mp hx with hx|hx
  ·exact As (kB _) (b2 x hx af)
  ·rw[zS.mp hx] at af ⊢;exact c2 af
 exact this
theorem Zv {m:Nat}{rs:List Road}{p:Int}{H:List Int}{A:LA}(hp:p∉H)(hH:∀x∈H,0<=x/\x<m)(h1:Fo m A)(h2:iK rs A):Over m rs p H A (nW A p H)/\∀u∈H,∀w∈H,u≠w->BY (Ao (nW A p H) (u,w)) (Ap (Ao A (u,p)) (Ao A (p,w))):=by
 unfold nW;have:=Kt (L:=H) (pre:=[]) (f:=iJ p H) (b:=A) (λ U B=>Over m rs p H A B/\∀u∈U,∀w∈H,u≠w->BY (Ao B (u,w)) (Ap (Ao A (u,p)) (Ao A (p,w)))) ⟨⟨h1,h2,λ q=>C7 _,λ x y _=>rfl⟩,λ u hu=>by cases hu⟩ λ u hu U B hB=>by
  obtain⟨b1,b2⟩:=hB;obtain⟨c1,c2⟩:=nX hp hH b1 hu;refine⟨c1,λ x hx w hw af=>?_⟩;rcases za5.mp hx with hx|hx
  ·exact As (kC _ H B) (b2 x hx w hw af)
  ·rw[zS.mp hx] at af ⊢;exact c2 w hw af
 exact this
theorem QF {m:Nat}{rs:List Road}(Au:∀r∈rs,HY m r/\r.a≠r.b):Fo m (lay0 rs)/\iK rs (lay0 rs)/\∀r∈rs,BY (Ao (lay0 rs) (r.a,r.b)) (Cq r):=by
 unfold lay0;have:=Kt (L:=rs) (pre:=[]) (f:=λ A r=>layA A (r.a,r.b) (Cq r) none) (b:=[]) (λ W A=>Fo m A/\iK rs A/\∀r∈W,BY (Ao A (r.a,r.b)) (Cq r)) ⟨⟨by simp,λ p hp=>by cases hp⟩,⟨(λ _ _ _ h=>by cases h),λ r hr=>by cases hr⟩⟩ λ r hr W B hB=>by
  obtain⟨b1,b2,b3⟩:=hB;obtain⟨o1,o2⟩:=Au r hr;refine⟨b1.lay ⟨o2,⟨o1.a0,o1.a1⟩,o1.b0,o1.b1⟩,b2.lay λ c hc=>?_,λ x hx=>?_⟩
  ·obtain⟨l,hl,rfl⟩:=Kj hc;exact Wk.one hr hl
  ·rcases za5.mp hx with hx|hx
   ·exact As (Uc _ _ _ _ _) (b3 x hx)
   ·rw[zS.mp hx,GO,if_pos rfl];exact EO _ _
 exact this
noncomputable def G4:List Int->Int->Nat
 |[],_=>0
 |a::l,x=>if a=x then 0 else G4 l x+1
theorem VG:∀ {pre post:List Int}{p:Int},p∉pre->G4 (pre++p::post) p=pre.length
 |[],post,p,_=>by simp[G4]
 |a::pre,post,p,h=>by
  rw[zQ,not_or] at h;rw[zcq,G4,if_neg (zao h.1),VG h.2];rfl
theorem Ue:∀ {pre post:List Int}{x:Int},x∈pre->G4 (pre++post) x<pre.length
 |a::pre,post,x,h=>by
  rw[zcq,G4];by_cases e:a=x
  ·rw[if_pos e];simp
  ·rw[if_neg e,zO];have:=Ue (post:=post) ((zQ.mp h).resolve_left (zao e));omega
theorem QG:∀ {pre post:List Int}{x:Int},x∉pre->pre.length<=G4 (pre++post) x
 |[],post,x,_=>zak _
 |a::pre,post,x,h=>by
  rw[zQ,not_or] at h;rw[zcq,G4,if_neg (zao h.1),zO];have:=QG (post:=post) h.2;omega
theorem QH:∀ {L:List Int}{x y:Int},x∈L->y∈L->G4 L x=G4 L y->x=y
 |a::l,x,y,hx,hy,e=>by
  rw[G4,G4] at e;by_cases h1:a=x
  ·by_cases h2:a=y
   ·rw[<-h1,<-h2]
   ·rw[if_pos h1,if_neg h2] at e;omega
  ·by_cases h2:a=y
   ·rw[if_neg h1,if_pos h2] at e;omega
   ·rw[if_neg h1,if_neg h2] at e;exact QH ((zQ.mp hx).resolve_left (zao h1)) ((zQ.mp hy).resolve_left (zao h2)) (by omega)
theorem Ug {L:List Int}{x:Int}(h:G4 L x<L.length):x∈L:=by
 refine Classical.byContradiction λ hn=>?_;have:=QG (pre:=L) (post:=[]) hn;rw[zal] at this;omega
theorem Zw:∀(L:List Int) (x:Int),G4 L x<=L.length
 |[],_=>zU _
 |a::l,x=>by
  rw[G4,zO];split
  ·omega
  ·have:=Zw l x;omega
theorem LI:∀ {L:List Int}{p:Int},p∈L->∃pre post,L=pre++p::post/\p∉pre
 |a::l,p,h=>by
  by_cases ha:a=p
  ·subst ha;exact⟨[],l,rfl,by simp⟩
  ·obtain⟨pre,post,e2,hn⟩:=LI ((zQ.mp h).resolve_left (zao ha));exact⟨a::pre,post,by rw[zcq,<-e2],by simp[zao ha,hn]⟩
theorem Zx {L:List Int}{p:Int}(h:G4 L p<L.length):∃pre post,L=pre++p::post/\p∉pre/\∀x,G4 L p<G4 L x->x∈L->x∈post:=by
 obtain⟨pre,post,e,hn⟩:=LI (Ug h);refine⟨pre,post,e,hn,λ x hr hx=>?_⟩;subst e;rw[VG hn] at hr;rcases za5.mp hx with hx|hx
 ·have:=Ue (post:=p::post) hx;omega
 ·rcases zQ.mp hx with rfl|hx
  ·rw[VG hn] at hr;omega
  ·exact hx
theorem nY {m:Nat}{rs:List Road}{L:List Int}(hL:L.Nodup)(hr:∀x∈L,0<=x/\x<m):∀(post pre:List Int) (A:LA),L=pre++post->Fo m A->iK rs A->(∀r∈rs,BY (Ao A (r.a,r.b)) (Cq r))->
 (∀pa p pb,L=pa++p::pb->pa.length<pre.length->∀x∈pb,∀y∈pb,x≠y->BY (Ao A (x,y)) (Ap (Ao A (x,p)) (Ao A (p,y))))->
 Fo m (Ud A post)/\iK rs (Ud A post)/\(∀r∈rs,BY (Ao (Ud A post) (r.a,r.b)) (Cq r))/\∀pa p pb,L=pa++p::pb->∀x∈pb,∀y∈pb,x≠y->BY (Ao (Ud A post) (x,y)) (Ap (Ao (Ud A post) (x,p)) (Ao (Ud A post) (p,y))):=by
 intro post;induction post with
 |nil =>
  intro pre A e h1 h2 h3 h4;rw[zal] at e;refine⟨h1,h2,h3,λ pa p pb e2=>h4 pa p pb e2 ?_⟩;rw[<-e,e2,za7,zO];omega
 |cons p post ih =>
  intro pre A e h1 h2 h3 h4;rw[Ud];have hn:(pre++p::post).Nodup:=e▸hL;rw[za9,zav] at hn;have bX:∀x∈post,0<=x/\x<m:=λ x hx=>hr x (by rw[e];simp[hx]);obtain⟨o,ov⟩:=Zv (p:=p) hn.2.1.1 bX h1 h2;refine ih (pre++[p]) (nW A p post) (by rw[e];simp) o.ok o.sd (λ r bn=>As (o.le _) (h3 r bn)) λ pa q pb e2 aj x hx y hy af=>?_;rw[za7,zb2] at aj;by_cases hq:pa.length<pre.length
  ·-- an m8 one
   have wz:q∉post:=λ f6=>by
    have e3:pre++p::post=pa++q::pb:=by rw[<-e,e2]
    have q1:q∈pre:=by
     have:=congrArg (λ l=>l[pa.length]?) e3;rw[zbf hq,zck (zU _),Nat.sub_self] at this;exact zM this
    exact hn.2.2 q q1 q (zF _ f6) rfl
   rw[o.sm x q (.inr wz),o.sm q y (.inl wz)];exact As (o.le _) (h4 pa q pb e2 hq x hx y hy af)
  ·have hpl:pa.length=pre.length:=by omega
   have e3:pa++q::pb=pre++p::post:=by rw[<-e2,e]
   obtain⟨rfl,e4⟩:=List.append_inj e3 hpl;cases e4;rw[o.sm x p (.inr hn.2.1.1),o.sm p y (.inl hn.2.1.1)];exact ov x hx y hy af
theorem NP {m:Nat}{rs:List Road}{L:List Int}(hL:L.Perm (B2 m))(Au:∀r∈rs,HY m r/\r.a≠r.b):Fo m (BS rs L)/\Xx m rs (G4 L) (λ x y=>Ao (BS rs L) (x,y)):=by
 have cf:L.Nodup:=NK hL;obtain⟨a1,a2,a3⟩:=QF Au;obtain⟨b1,b2,b3,b4⟩:=nY cf (λ x hx=>(BR hL).mp hx) L [] (lay0 rs) rfl a1 a2 a3 (λ pa p pb _ h=>by simp at h);refine⟨b1,λ x y c h=>?_,b3,λ p x y af h1 h2=>?_,λ x y x0 x1 y0 y1 e=>QH ((BR hL).mpr ⟨x0,x1⟩) ((BR hL).mpr ⟨y0,y1⟩) e,λ x y c h=>Wk.nn (λ r hr=>(Au r hr).1) h⟩
 ·have hm:(x,y)∈(Ud (lay0 rs) L).map za1:=by
   rw[<-FE];unfold Ao at h;cases q:Av (BS rs L) (x,y) with
   |none=>rw[q] at h;cases h
   |some z=>unfold BS at q;rw[q];rfl
  have:=b1.rg _ hm;exact⟨b2 _ _ _ h,this.1,this.2.1,this.2.2⟩
 ·have bf:∀ {x y:Int} {c:Int×Int},Ao (BS rs L) (x,y)=some c->x∈L/\y∈L:=fun {x y c} h=>by
   have hm:(x,y)∈(Ud (lay0 rs) L).map za1:=by
    rw[<-FE];unfold Ao at h;cases q:Av (BS rs L) (x,y) with
    |none=>rw[q] at h;cases h
    |some z=>unfold BS at q;rw[q];rfl
   have:=b1.rg _ hm;exact⟨(BR hL).mpr this.2.1,(BR hL).mpr this.2.2⟩
  have hpl:G4 L p<L.length:=za3 h1 (Zw L x);obtain⟨pre,post,e,hn,e8⟩:=Zx hpl;cases q1:Ao (BS rs L) (x,p) with
  |none=>cases Ao (BS rs L) (x,y)<;>exact trivial
  |some c1 =>
   cases q2:Ao (BS rs L) (p,y) with
   |none=>cases Ao (BS rs L) (x,y)<;>exact trivial
   |some c2 =>
    have r:=b4 pre p post e x (e8 x h1 (bf q1).1) y (e8 y h2 (bf q2).2) af;rw[<-q1,<-q2];exact r
noncomputable abbrev CA:=List ((Int×Int)×(Int×Int))
noncomputable def VH (C:CA):D:=.Bd true (C.map λ kv=>pD kv.1) (C.map λ kv=>cst (some kv.2))
noncomputable def pG (C:CA):OT:=.Bd true (C.map λ kv=>pD kv.1) ((C.map λ kv=>cst (some kv.2)).map .sh)
noncomputable abbrev RA:=List (Int×(Int×Int))
noncomputable def G5 (R:RA):D:=.Bd false (R.map λ kv=>D.int kv.1) (R.map λ kv=>cst (some kv.2))
noncomputable def Lb (R:RA):OT:=.Bd false (R.map λ kv=>D.int kv.1) ((R.map λ kv=>cst (some kv.2)).map .sh)
theorem QI (A:LA):er (Jl A)=LH A:=IW
theorem QJ (C:CA):er (pG C)=VH C:=IW
theorem QK (R:RA):er (Lb R)=G5 R:=IW
theorem Lc (i:Int):keyOk false (.int i)=true:=rfl
theorem QL (A:LA)(p:Int×Int)(neg:Bool):JI neg (pD p) (LH A)=.ok (.bl (if neg=true then !(Av A p).isSome else (Av A p).isSome)):=by
 unfold LH JI;dsimp only;rw[if_pos (Kk p),Kq J0]
theorem QM {A:LA}{p:Int×Int}{v:(Int×Int)×Option Int}(h:Av A p=some v):Bf (LH A) (pD p)=.ok (Xa v):=by
 unfold LH Bf;dsimp only;rw[if_pos (Kk p),Kr J0,h];rfl
theorem nZ (C:CA)(p:Int×Int)(neg:Bool):JI neg (pD p) (VH C)=.ok (.bl (if neg=true then !(Av C p).isSome else (Av C p).isSome)):=by
 unfold VH JI;dsimp only;rw[if_pos (Kk p),Kq J0]
theorem oA {C:CA}{p:Int×Int}{c:Int×Int}(h:Av C p=some c):Bf (VH C) (pD p)=.ok (cst (some c)):=by
 unfold VH Bf;dsimp only;rw[if_pos (Kk p),Kr (vf:=λ c=>cst (some c)) J0,h];rfl
theorem Zy (R:RA)(p:Int)(neg:Bool):JI neg (.int p) (G5 R)=.ok (.bl (if neg=true then !(Av R p).isSome else (Av R p).isSome)):=by
 unfold G5 JI;dsimp only;rw[if_pos (Lc p),Kq (kf:=D.int) GN]
theorem QN {R:RA}{p:Int}{c:Int×Int}(h:Av R p=some c):Bf (G5 R) (.int p)=.ok (cst (some c)):=by
 unfold G5 Bf;dsimp only;rw[if_pos (Lc p),Kr (kf:=D.int) (vf:=λ c=>cst (some c)) GN,h];rfl
theorem Uh (R:RA)(p:Int):Vu (G5 R) (.ok (.int p))=.ok (cst (Av R p)):=by
 unfold G5 Vu;simp only[M.A7];rw[if_pos (Lc p),Kr (kf:=D.int) (vf:=λ c=>cst (some c)) GN];cases Av R p<;>rfl
theorem Zz (A:LA)(p:Int×Int)(v:(Int×Int)×Option Int):putD (A.map λ kv=>pD kv.1) (A.map λ kv=>Xa kv.2) (pD p) (Xa v)=((Dd A p v).map (λ kv=>pD kv.1),(Dd A p v).map λ kv=>Xa kv.2):=Ks J0 A p v
theorem oB (R:RA)(p:Int)(c:Int×Int):putD (R.map λ kv=>D.int kv.1) (R.map λ kv=>cst (some kv.2)) (.int p) (cst (some c))=((Dd R p c).map (λ kv=>D.int kv.1),(Dd R p c).map λ kv=>cst (some kv.2)):=Ks (kf:=D.int) (vf:=λ c=>cst (some c)) GN R p c
theorem QO {α:Type}(k v:α->D):∀l:List α,Qy (l.map λ x=>.tup [k x,v x])=some (l.map λ x=>(k x,v x))
 |[]=>rfl
 |x::l=>by rw[zG,Qy,QO k v l];rfl
theorem kD:∀(C C0:CA),((C0++C).map za1).Nodup->(C.map λ kv=>(pD kv.1,cst (some kv.2))).foldl (λ z kv=>putD z.1 z.2 kv.1 kv.2) (C0.map (λ kv=>pD kv.1),C0.map λ kv=>cst (some kv.2))=((C0++C).map (λ kv=>pD kv.1),(C0++C).map λ kv=>cst (some kv.2))
 |[],C0,_=>by simp
 |kv::C,C0,hn=>by
  obtain⟨p,c⟩:=kv;rw[zG,zac];dsimp only;have h0:Av C0 p=none:=by
   rw[Sq];intro hm;rw[zag,za9] at hn;exact hn.2.2 p hm p (by simp) rfl
  have e:Dd C0 p c=C0++[(p,c)]:=by unfold Dd;rw[h0];rfl
  rw[Ks (vf:=λ c=>cst (some c)) J0,e,kD C (C0++[(p,c)]) (by rw[zaw];exact hn),zaw];rfl
theorem ZA {C:CA}(hn:(C.map za1).Nodup)(hl:C.length<=1000):gM (.lst (C.map λ kv=>.tup [pD kv.1,cst (some kv.2)]))=.ok (pG C):=by
 unfold gM;dsimp only;rw[QO (λ kv:(Int×Int)×(Int×Int)=>pD kv.1) (λ kv=>cst (some kv.2))];dsimp only;have e:=kD C [] hn;rw[if_pos ⟨by rw[zC];exact hl,by rw[List.all_map];exact zcr.mpr λ x _=>rfl⟩];have e2:jX (C.map λ kv=>(pD kv.1,cst (some kv.2)))=(C.map (λ kv=>pD kv.1),C.map λ kv=>cst (some kv.2)):=e;rw[e2];rfl
noncomputable def AJ (m:Nat)(rs:List Road)(L:List Int)(A:LA)(K:List (Int×Int)):D:=.ins "Ladder" ["own_map","own_order","laid","kept_ones"] [Ah m rs,.lst (L.map D.int),LH A,.lst (K.map pD)]
structure BI (m:Nat)(rs:List Road)(L:List Int)(A:LA)(K:List (Int×Int)):Prop where
 m1:1<=m
 m2:m<=16
 rl:rs.length<=60
 ok:∀r∈rs,HY m r/\r.a≠r.b
 pm:L.Perm (B2 m)
 la:A=BS rs L
 kn:K.Nodup
 km:∀p,p∈K↔∃c,Ao A p=some c/\DK rs p.1 p.2 (some c)
theorem BI.vS {m:Nat}{rs:List Road}{L:List Int}{A:LA}{K:List (Int×Int)}(h:BI m rs L A K):Fo m A:=by
 rw[h.la];exact (NP h.pm h.ok).1
theorem BI.sS {m:Nat}{rs:List Road}{L:List Int}{A:LA}{K:List (Int×Int)}(h:BI m rs L A K):Xx m rs (G4 L) (λ x y=>Ao A (x,y)):=by
 rw[h.la];exact (NP h.pm h.ok).2
theorem Fm {A:LA}{p:Int×Int}{c:Int×Int}(h:Ao A p=some c):p∈A.map za1:=by
 rw[<-FE];unfold Ao at h;cases q:Av A p with
 |none=>rw[q] at h;cases h
 |some z=>rfl
theorem BI.XD {m:Nat}{rs:List Road}{L:List Int}{A:LA}{K:List (Int×Int)}(h:BI m rs L A K){p:Int×Int}(hp:p∈K):p.1≠p.2/\(0<=p.1/\p.1<m)/\0<=p.2/\p.2<m:=by
 obtain⟨c,hc,_⟩:=(h.km p).mp hp;exact h.vS.rg p (Fm hc)
theorem BI.kl {m:Nat}{rs:List Road}{L:List Int}{A:LA}{K:List (Int×Int)}(h:BI m rs L A K):K.length<1000:=
 Cm.len (m:=m) ⟨h.kn,λ x hx=>(h.XD hx).1 rfl,λ q hq=>⟨(h.XD hq).2.1,(h.XD hq).2.2⟩⟩ (by have:=h.m2;omega)
noncomputable def GP (A:LA)(K:List (Int×Int)):CA:=K.map λ p=>(p,(Ao A p).getD (0,0))
theorem NQ (A:LA)(K:List (Int×Int)):(GP A K).map za1=K:=by
 unfold GP;rw[zam];exact (zc0 λ p _=>rfl).trans (List.map_id K)
theorem BI.kept {m:Nat}{rs:List Road}{L:List Int}{A:LA}{K:List (Int×Int)}(h:BI m rs L A K):Kept rs (λ x y=>Ao A (x,y)) (λ x y=>Av (GP A K) (x,y)):=λ x y c=>by
 have hn:((GP A K).map za1).Nodup:=by rw[NQ];exact h.kn
 constructor
 ·intro hf;have hm:=NO hf;unfold GP at hm;obtain⟨p,hp,e⟩:=za0.mp hm;obtain⟨c',hc,cC⟩:=(h.km p).mp hp;rw[hc] at e;cases e;exact⟨hc,cC⟩
 ·rintro ⟨h1,h2⟩;refine J3 hn ?_;unfold GP;exact za0.mpr ⟨(x,y),(h.km (x,y)).mpr ⟨c,h1,h2⟩,by rw[show Ao A (x,y)=some c from h1];rfl⟩
noncomputable def PJ (C:CA):CA:=C.map λ kv=>((kv.1.2,kv.1.1),kv.2)
theorem Xd {C:CA}(h:(C.map za1).Nodup):((PJ C).map za1).Nodup:=by
 have e:(PJ C).map za1=(C.map za1).map λ p=>(p.2,p.1):=by
  unfold PJ;rw[zam,zam];rfl
 rw[e];exact (List.pairwise_map.mpr (h.imp fun {a b} lf e=>lf (by cases a;cases b;cases e;rfl)))
theorem QP (x y:Int):∀C:CA,Av (PJ C) (x,y)=Av C (y,x)
 |[]=>rfl
 |((a,b),c)::C=>by
  unfold PJ;rw[zG,Av,Av];have:=QP x y C;unfold PJ at this;rw[this];by_cases h:a=y/\b=x
  ·rw[if_pos (by rw[h.1,h.2]),if_pos (by rw[h.1,h.2])]
  ·rw[if_neg (λ e=>h (by cases e;exact⟨rfl,rfl⟩)),if_neg (λ e=>h (by cases e;exact⟨rfl,rfl⟩))]
theorem sT (p q:Int×Int):Za (cst (some p)) (cst (some q))=.ok (.bl (decide (p.1<q.1\/(p.1=q.1/\p.2<q.2)))):=by
 rw[<-EZ];rfl
theorem Ui {m:M Out}{t r:OT}(h:WP m (λ ρ=>GH ρ=some t/\OT.sh .AF=r) (λ o=>match o with | .Fg r' ρ=>GH ρ=some t/\r'=r | _=>False) (λ _=>False)):Eo m=.ok (t,r):=by
 cases m with
 |bad|ex x=>exact h.elim
 |ok o =>
  cases o with
  |next ρ=>obtain⟨h1,h2⟩:=(show GH ρ=some t/\OT.sh .AF=r from h);unfold Eo;dsimp only;rw[h1,<-h2]
  |Fg r' ρ=>obtain⟨h1,h2⟩:=(show GH ρ=some t/\r'=r from h);unfold Eo;dsimp only;rw[h1,<-h2]
  |ret d|CN d|brk d|cont d=>exact h.elim
theorem Ld {F:OT->List D->M (OT×OT)}{ρ:Aa}{p:Option Nat}{t t2 r:OT}{a5:List D}{i:Nat}(h:ρ[i]?=some (some (.ow (.tree p t))))(hN:YS t=true)(hF:F t a5=.ok (t2,r)):RU i F ρ [] a5=.ok (ρ.set i (some (toCl p t2)),r):=by
 rw[YT h rfl rfl hN hF,Fi]
theorem Eb {A:LA}{p:Option Nat}{ρ:Aa}:G3 0 (some (.ow (.tree p (Jl A)))::ρ) []=.ok (true,A.map (λ kv=>pD kv.1),A.map λ kv=>Xa kv.2):=D8
theorem Ig {R:RA}{p:Option Nat}{ρ:Aa}:G3 0 (some (.ow (.tree p (Lb R)))::ρ) []=.ok (false,R.map (λ kv=>D.int kv.1),R.map λ kv=>cst (some kv.2)):=D8
theorem Fo.ov {m:Nat}{A:LA}(h:Fo m A){p u w:Int}(hu:0<=u/\u<m)(hw:0<=w/\w<m):Fo m (QE p u A w):=by
 unfold QE;split
 ·exact h
 ·rename_i e;exact h.lay ⟨e,hu,hw⟩
theorem Fo.ou {m:Nat}{p u:Int}(hu:0<=u/\u<m):∀ {H:List Int}{A:LA},Fo m A->(∀x∈H,0<=x/\x<m)->Fo m (H.foldl (QE p u) A)
 |[],A,h,_=>h
 |w::H,A,h,hH=>by
  have r:=Fo.ou (A:=QE p u A w) (H:=H) (p:=p) hu (h.ov hu (hH w zD)) λ x hx=>hH x (zF _ hx);exact r
theorem Et {α β:Type}{f:β->α->β}{l:List α}{i:Nat}{x:α}{b:β}(h:l[i]?=some x):(l.take (i+1)).foldl f b=f ((l.take i).foldl f b) x:=by
 rw[zb7,h,Option.toList_some,List.foldl_append];rfl
theorem Fo.lo {m:Nat}{p:Int}{H0:List Int}(h0:∀x∈H0,0<=x/\x<m):∀ {H:List Int}{A:LA},Fo m A->(∀x∈H,0<=x/\x<m)->Fo m (H.foldl (iJ p H0) A)
 |[],A,h,_=>h
 |w::H,A,h,hH=>by
  have r:=Fo.lo (p:=p) (A:=iJ p H0 A w) (H:=H) h0 (Fo.ou (hH w zD) h h0) λ x hx=>hH x (zF _ hx);exact r
theorem MO (c:Co):WE (.ok (.sh (cst c)))=.ok (.sh (cst c)):=by
 cases c<;>rfl
def vT (a b:List Co×Bool):Prop:=b.2=true/\(a.2=false\/(a.2=true/\Oh ltN a.1 b.1))
theorem oC (x:List Co):Acc vT (x,false):=.intro _ λ y h=>by cases h.1
theorem oE (x:List Co):Acc vT (x,true):=by
 have:=WV x;induction this with
 |intro x _ ih =>
  refine .intro _ λ y h=>?_;obtain⟨y,b⟩:=y;rcases h.2 with e|⟨e,h2⟩
  ·dsimp only at e;subst e;exact oC y
  ·dsimp only at e;subst e;exact ih y h2
theorem Uj (n:Nat):Cz 0 n=(B2 n).map D.int:=by rw[Ej,NH]
theorem J2.wU {m:Nat}{r:Road}(h:J2 m r):HY m r/\r.a≠r.b:=⟨⟨h.a0,h.a1,h.b0,h.b1,λ l hl=>(h.l0 l hl).1⟩,h.ab⟩
def KP (rs:List Road)(A:LA)(p:Int×Int):Prop:=∃c,Ao A p=some c/\DK rs p.1 p.2 (some c)
noncomputable def sU (A:LA)(cs:List Co)(u w:Int):Bool:=match Ao A (u,w) with
 |none=>false
 |some c=>decide (some c=atC cs w)
theorem ZC {m s:Nat}{rs:List Road}{cs:List Co}{A:LA}(hR:Right m s rs cs)(Au:∀r∈rs,HY m r){w:Int}(h0:0<=w)(h1:w<m):sU A cs s w=true↔KP rs A (s,w):=by
 have hm:=hR.sP Au h0 h1;unfold sU KP;cases q:Ao A ((s:Int),w) with
 |none=>simp
 |some c =>
  dsimp only;constructor
  ·intro h;have e:=of_decide_eq_true h;exact⟨c,rfl,e▸hm⟩
  ·rintro ⟨c',e,h⟩;cases e;exact decide_eq_true (h.Cy hm)
theorem oF {m:Nat}{rs:List Road}{A:LA}{K:List (Int×Int)}(hA:Fo m A)(hm:m<=20)(hn:K.Nodup)(hK:∀p∈K,KP rs A p):K.length<1000:=by
 have hr:∀p∈K,p.1≠p.2/\(0<=p.1/\p.1<m)/\0<=p.2/\p.2<m:=λ p hp=>by
  obtain⟨c,hc,_⟩:=hK p hp;exact hA.rg p (Fm hc)
 exact Cm.len (m:=m) ⟨hn,λ x hx=>(hr _ hx).1 rfl,λ q hq=>⟨(hr q hq).2.1,(hr q hq).2.2⟩⟩ hm
theorem Le:∀ds:List D,(∀d∈ds,L1 d=true)->G2 (ds.map .sh)=true
 |[],_=>rfl
 |d::ds,h=>by
  rw[zG,G2,Im,h d zD,Le ds λ x hx=>h x (zF _ hx)];rfl
theorem Ss {ds:List D}(h:∀d∈ds,L1 d=true):WE (.ok (.lst (ds.map .sh)))=.ok (.lst (ds.map .sh)):=by
 unfold WE;simp only[M.A7];rw[Im,Le ds h];rfl
theorem ZD (L:List Int):WE (.ok (.lst ((L.map D.int).map .sh)))=.ok (.lst ((L.map D.int).map .sh)):=Ss λ d hd=>by
 obtain⟨x,_,rfl⟩:=za0.mp hd;rfl
theorem iL (K:List (Int×Int)):WE (.ok (.lst ((K.map pD).map .sh)))=.ok (.lst ((K.map pD).map .sh)):=Ss λ d hd=>by
 obtain⟨x,_,rfl⟩:=za0.mp hd;exact Zk x
theorem oG (v:(Int×Int)×Option Int):L1 (Xa v)=true:=by
 obtain⟨c,l⟩:=v;cases l<;>rfl
theorem iM (A:LA):WE (.ok (Jl A))=.ok (Jl A):=by
 unfold WE Jl;simp only[M.A7];rw[Im,Le _ λ d hd=>by
  obtain⟨x,_,rfl⟩:=za0.mp hd;exact oG x.2]
 rfl
theorem Uk {L:List Int}(hn:L.Nodup){i:Nat}{x:Int}(h:L[i]?=some x):G4 L x=i:=by
 have aj:=(zY.mp h).1;have e:L=L.take i++x::L.drop (i+1):=by
  have h2:L.drop i=x::L.drop (i+1):=by
   rw[zbr aj];rw[zJ aj] at h;rw[za6 h]
  rw[<-h2,zbg]
 have hx:x∉L.take i:=λ hm=>by
  rw[e,za9] at hn;exact hn.2.2 x hm x zD rfl
 rw[e,VG hx,zc5];omega
theorem iN {L:List Int}(hn:L.Nodup){i:Nat}{y:Int}(h:y∈L.drop i):i<=G4 L y:=by
 have hy:y∉L.take i:=λ hm=>by
  rw[<-zbg i L,za9] at hn;exact hn.2.2 y hm y h rfl
 have h1:=QG (pre:=L.take i) (post:=L.drop i) hy;rw[zbg,zc5] at h1;have h2:L.drop i≠[]:=λ e=>by rw[e] at h;cases h
 have h3:i<L.length:=by
  rw[Ne,List.drop_eq_nil_iff] at h2;omega
 omega
theorem iO {L:List Int}{i:Nat}{y:Int}(h:y∈L)(hr:i<=G4 L y):y∈L.drop i:=by
 rw[<-zbg i L] at h;rcases za5.mp h with h|h
 ·have h1:=Ue (post:=L.drop i) h;rw[zbg,zc5] at h1;omega
 ·exact h
structure LJ (L:List Int)(C:CA)(s:Int)(i:Nat)(R:RA):Prop where
 nd:(R.map za1).Nodup
 rg:∀k∈R.map za1,k∈L
 st:BY (Av R s) (some (0,0))
 sd:∀y c,Av R y=some c->M6 (λ x y=>Av C (x,y)) (G4 L) s y c
 cl:∀x y,G4 L x<i->G4 L x<G4 L y->BY (Av R y) (Ap (Av R x) (Av C (x,y)))
theorem LJ.len {L:List Int}{C:CA}{s:Int}{i:Nat}{R:RA}(h:LJ L C s i R):R.length<=L.length:=by
 have:=Ia h.nd h.rg;rwa[zC] at this
structure kE (L:List Int)(C:CA)(s:Int)(i:Nat)(x:Int)(c0:Int×Int)(W:List Int)(R0 R:RA):Prop where
 nd:(R.map za1).Nodup
 rg:∀k∈R.map za1,k∈L
 sd:∀y c,Av R y=some c->M6 (λ x y=>Av C (x,y)) (G4 L) s y c
 le:∀y,BY (Av R y) (Av R0 y)
 sm:∀y,G4 L y<=i->Av R y=Av R0 y
 cw:∀y∈W,BY (Av R y) (Ap (some c0) (Av C (x,y)))
theorem kE.put {L:List Int}{C:CA}{s:Int}{i:Nat}{x:Int}{c0:Int×Int}{W:List Int}{R0 R:RA}(h:kE L C s i x c0 W R0 R){y:Int}{d v:Int×Int}(hy:y∈L)(hr:i<G4 L y)(hx:G4 L x=i)(qz:Av R0 x=some c0)(hd:Av C (x,y)=some d)(hv:Dq (Av R y) (some (c0.1+d.1,c0.2+d.2))=some v):kE L C s i x c0 (W++[y]) R0 (Dd R y v):=by
 have hle:BY (some v) (Av R y):=hv▸EN _ _;refine⟨La h.nd,λ k hk=>(NM hk).elim (h.rg k) λ e=>e▸hy,λ z c hz=>?_,λ z=>?_,λ z hz=>?_,λ z hz=>?_⟩
 ·rw[Ie] at hz;split at hz
  ·rename_i e;subst e;cases hz;rcases Bq (Av R z) (some (c0.1+d.1,c0.2+d.2)) with ⟨e,_⟩|⟨e,_⟩
   ·rw[hv] at e;exact h.sd z _ e.symm
   ·rw[hv] at e;cases e;have ax:=h.sd x c0 (by rw[h.sm x (by omega)];exact qz);exact .snoc ax (by omega) hd
  ·exact h.sd z c hz
 ·rw[Ie];split
  ·rename_i e;subst e;exact As hle (h.le z)
  ·exact h.le z
 ·rw[Ie,if_neg (λ e=>by subst e;omega)];exact h.sm z hz
 ·rw[Ie];split
  ·rename_i e;subst e;rw[hd];exact hv▸EO _ _
  ·rename_i e;rcases za5.mp hz with hz|hz
   ·exact h.cw z hz
   ·exact (e (zS.mp hz)).elim
theorem kE.skip {L:List Int}{C:CA}{s:Int}{i:Nat}{x:Int}{c0:Int×Int}{W:List Int}{R0 R:RA}(h:kE L C s i x c0 W R0 R){y:Int}(hd:Av C (x,y)=none):kE L C s i x c0 (W++[y]) R0 R:=
 ⟨h.nd,h.rg,h.sd,h.le,h.sm,λ z hz=>by
  rcases za5.mp hz with hz|hz
  ·exact h.cw z hz
  ·rw[zS.mp hz,hd];cases Av R y<;>exact trivial⟩
theorem LJ.go {L:List Int}{C:CA}{s:Int}{i:Nat}{x:Int}{c0:Int×Int}{R0 R:RA}(hC:∀p c,Av C p=some c->p.2∈L)(h0:LJ L C s i R0)(hx:L[i]?=some x)(hn:L.Nodup)(hc:Av R0 x=some c0)(h:kE L C s i x c0 (L.drop (i+1)) R0 R):LJ L C s (i+1) R:=by
 have jc:=Uk hn hx;refine⟨h.nd,h.rg,As (h.le s) h0.st,h.sd,λ u y hu hy=>?_⟩;by_cases e:G4 L u<i
 ·rw[h.sm u (by omega)];exact As (h.le y) (h0.cl u y e hy)
 ·have e2:G4 L u=i:=by omega
  have hi:=(zY.mp hx).1;have sg:u∈L:=Ug (by omega);have eu:u=x:=QH sg (zM hx) (by omega);subst eu;rw[h.sm u (by omega),hc];cases q:Av C (u,y) with
  |none=>cases Av R y<;>exact trivial
  |some d =>
   have:=h.cw y (iO (hC _ _ q) (by omega));rw[q] at this;exact this
theorem LJ.skip {L:List Int}{C:CA}{s:Int}{i:Nat}{x:Int}{R:RA}(h0:LJ L C s i R)(hx:L[i]?=some x)(hn:L.Nodup)(hc:Av R x=none):LJ L C s (i+1) R:=by
 have jc:=Uk hn hx;refine⟨h0.nd,h0.rg,h0.st,h0.sd,λ u y hu hy=>?_⟩;by_cases e:G4 L u<i
 ·exact h0.cl u y e hy
 ·have hi:=(zY.mp hx).1;have eu:u=x:=QH (Ug (by omega)) (zM hx) (by omega);subst eu;rw[hc];cases Av C (u,y)<;>cases Av R y<;>exact trivial
theorem LJ.start {L:List Int}{C:CA}{s:Int}(hs:s∈L):LJ L C s 0 [(s,(0,0))]:=by
 refine⟨by simp,λ k hk=>by simp at hk;rw[hk];exact hs,by simp[Av,BY],λ y c h=>?_,λ x y h=>by omega⟩;simp only[Av] at h;split at h
 ·rename_i e;subst e;cases h;exact .nil
 ·cases h
theorem LJ.wV {m:Nat}{L:List Int}{C:CA}{s:Int}{R:RA}(h:LJ L C s L.length R)(hC:∀p c,Av C p=some c->p.1∈L/\p.2∈L):vR (G4 L) (λ x y=>Av C (x,y)) s (Av R):=by
 refine⟨h.st,λ x y hr=>?_,h.sd⟩;cases q:Av C (x,y) with
 |none=>cases Av R x<;>cases Av R y<;>exact trivial
 |some d =>
  have hx:G4 L x<L.length:=za3 hr (Zw L y);have:=h.cl x y hx hr;rw[q] at this;exact this
theorem oH {a b i:Int}(ha:0<=a/\a<M5)(hb:0<=b/\b<M5)(h0:0<=i)(h1:i<2):∃w:Int,Bf (.lst [.int a,.int b]) (.int i)=.ok (.int w)/\0<=w/\w<M5:=by
 have hi:i=0\/i=1:=by omega
 rcases hi with rfl|rfl
 ·exact⟨a,rfl,ha⟩
 ·exact⟨b,rfl,hb⟩
theorem iP {α:Type}{a b c d e f g h:D}{x y:α}:(if [a,b,c,d,e,f,g,h].length<=1000 then x else y)=x:=if_pos (by simp)
theorem VI (r:Road):dp (.ok (Ca r))=.ok (Ca r):=by
 obtain⟨a,b,l,w⟩:=r;cases l<;>rfl
theorem QQ (i:Int):dp (.ok (.int i))=.ok (.int i):=rfl
theorem QR {ρ:Aa}{i m:Nat}{ac:List (List Co)}{x y:Int}(h:ρ[i]?=some (some (.ow (.rows (AD ac)))))(hM:MM m ac)(h0:0<=x)(h1:x<m)(h2:0<=y)(h3:y<m):eY i ρ (.ok (.int x)) (.ok (.int y))=.ok (cst (at2 ac x y)):=by
 unfold eY;rw[h];simp only[M.A7];rw[Sg hM h0 h1];exact hU hM h0 h1 h2 h3
theorem QS {ρ:Aa}{i m:Nat}{ac:List (List Co)}{x y:Int}{v:Co}(h:ρ[i]?=some (some (.ow (.rows (AD ac)))))(hM:MM m ac)(h0:0<=x)(h1:x<m)(h2:0<=y)(h3:y<m):RN i ρ (.ok (.int x)) (.ok (.int y)) (cst v)=.ok (.next (ρ.set i (some (.ow (.rows (AD (put2 ac x y v))))))):=by
 unfold RN;rw[h];simp only[M.A7];rw[Sg hM h0 h1];exact hV hM h0 h1 h2 h3 i ρ v
noncomputable def QT (a b:Int->Co)(c:Co)(m:Nat):List Int:=((zW m).filter λ i:Nat=>decide (c≠none)&&decide (Ap (a i) (b i)=c)).map λ i:Nat=>(i:Int)
theorem ZE (a b:Int->Co)(m:Nat):QT a b none m=[]:=by
 unfold QT;rw[List.filter_eq_nil_iff.mpr (λ x _=>by simp)];rfl
theorem ZF (a b:Int->Co)(c:Co)(m:Nat):QT a b c (m+1)=QT a b c m++(if Ap (a m) (b m)≠none/\Ap (a m) (b m)=c then [(m:Int)] else []):=by
 unfold QT;rw[List.range_succ,List.filter_append,zag];congr 1;by_cases h:Ap (a m) (b m)=c
 ·by_cases h2:c=none
  ·subst h2;rw[List.filter_cons_of_neg (by simp),if_neg (by rw[h];simp)];rfl
  ·rw[List.filter_cons_of_pos (by simp[h,h2]),if_pos ⟨by rw[h];exact h2,h⟩];rfl
 ·rw[List.filter_cons_of_neg (by simp[h]),if_neg (by simp[h])];rfl
theorem VJ (a b:Int->Co)(c:Co)(m:Nat):(QT a b c m).length<=m:=by
 unfold QT;rw[zC];exact zat (zbp _ _) (Nat.le_of_eq zbm)
noncomputable def De (gt:D->Aa->M Aa)(ft:Aa->M Bool)(fn:Aa->M OT):List D->Aa->M (List OT)
 |[],_=>.ok []
 |d::r,ρ=>match gt d ρ with
  | .ok ρ1=>(match ft ρ1 with
   | .ok true=>(match fn ρ1 with
    | .ok t=>(match De gt ft fn r ρ with
     | .ok ts=>.ok (t::ts)
     |_=>.bad)
    |_=>.bad)
   | .ok false=>De gt ft fn r ρ
   |_=>.bad)
  |_=>.bad
noncomputable def NR (m:M (List OT)):M OT:=match m with | .ok ts=>.ok (.lst ts) | _=>.bad
theorem Aw.snoc {K:zy}{H:Hp}{P:Addr->Prop}:∀ {xs:List V}{ts:List OT}{fp fq:List Addr}{v:V}{t:OT},Aw K H P xs ts fp->BQ K H P v t fq->Aw K H P (xs++[v]) (ts++[t]) (fp++fq)
 |_,_,_,fq,v,t,.nil,o=>by
  have z:Aw K H P [v] [t] (fq++[]):=.cons o .nil;rw[zal] at z;exact z
 |_,_,_,fq,v,t,.cons a r,o=>by
  rw[zaw];exact .cons a (Aw.snoc r o)
theorem Tb.vU {K:zy}{WX:Str->Hp->Prop}{P:Addr->Prop}{H H1:Hp}{Q:VK}{xs:List V}{ts:List OT}{fp:List Addr}(h:Tb K WX P H Q (.ok (.lst ts)))(s1:Ac H H1)(n1:∀a∈fp,H a=none)(nd:fp.Nodup)(hP:∀a,P a->E6 H1 a)(o1:Aw K H1 (PU P fp) xs ts fp):∀p,H1 p=none->Q (.ref p) (upd H1 p (.lst xs)):=λ p hp=>by
 have af:∀a∈fp,a≠p:=λ a ha z=>(o1.C3 a ha).no (by rw[z];exact hp);exact h _ (p::fp) _ (s1.trans (AK hp _)) (λ a ha=>(zQ.mp ha).elim (λ z=>by rw[z];exact Cc s1 hp) (n1 a)) (zav.mpr ⟨λ z=>af p z rfl,nd⟩) (.lst Aj (o1.move (YM hp (Mo hP o1)) λ a ha=>Ab (af a ha)))
theorem LK {α:Type}{ρ:Aa}{gt:D->Aa->M Aa}{ft:Aa->M Bool}{fn:Aa->M OT}{g:α->D}(f:α->OT):∀ {l:List α},(∀x∈l,∃ρ1,gt (g x) ρ=.ok ρ1/\ft ρ1=.ok true/\fn ρ1=.ok (f x))->De gt ft fn (l.map g) ρ=.ok (l.map f)
 |[],_=>rfl
 |x::r,h=>by
  obtain⟨ρ1,h1,h2,h3⟩:=h x (.head _);rw[zG,De,h1];dsimp only;rw[h2];dsimp only;rw[h3];dsimp only;rw[LK f λ y hy=>h y (.tail _ hy)];rfl
section
variable {X:Cx}{WX:Str->Hp->Prop}{c:Bool}{P0:Ds}{P:Addr->Prop}{H:Hp}{σ:St}{ρ:Aa}{a b e tg iter:Expr}{f g:Aa->M D}{ft:Aa->M Bool}{pos:Pos}{gt:D->Aa->M Aa}{fi:Aa->M (List D)}
theorem iQ {μ:List (Option Nat)}{wi:TI}{gg:TG}{tc:Shared->Hp->Addr->List Addr->TT}{te:Shared->Hp->Addr->List Addr->TE}{fn:Aa->M OT}
 (i2:∀P0 P σ H R ρ,Ak X.K P0 P H σ ρ->(match fi ρ with | .ok ds=>∀J H',Ac H H'->RI X.K J P H' ds->R J H' | .ex x=>∀H',Ac H H'->WX x H' | .bad=>False)->wi σ H R)
 (g2:∀P0 P σ H Q ρ v d,Ak X.K P0 P H σ ρ->Bu X.K (del H P) v d->gG X.K P0 P H Q (gt d ρ)->gg v σ H Q)
 (t2:∀s H' C ex P0 P σ H Q ρ,Ak X.K P0 P H σ ρ->gT (λ _ _=>False) H Q (ft ρ)->tc s H' C ex σ H Q)
 (e2:∀s H' C ex P0 P σ H Q ρ,Ak X.K P0 P H σ ρ->Tb X.K (λ _ _=>False) P H Q (fn ρ)->te s H' C ex σ H Q) {Q:VK}
 (E:Ak X.K P0 P H σ ρ) (h:Tb X.K WX P H Q ((fi ρ).bind λ ds=>if ds.length<=1000 then NR (De gt ft fn ds (AS μ ρ)) else .bad)):P5 wi μ gg tc te σ H Q:=by
 refine i2 P0 P σ H _ ρ E ?_;cases q:fi ρ with
 |bad|ex x=>rw[q] at h;exact h
 |ok ds =>
  rw[q] at h;simp only[M.A7] at h;by_cases hd:¬ ds.length<=1000
  ·rw[if_neg hd] at h;exact h.elim
  have hd:ds.length<=1000:=by omega
  rw[if_pos hd] at h;intro J H1 s1 ok s C ex;cases qc:De gt ft fn ds (AS μ ρ) with
  |bad|ex x=>rw[qc] at h;exact h.elim
  |ok total =>
   rw[qc] at h;unfold NR at h;dsimp only at h;have E1:=E.same s1;refine⟨λ i m ys H2=>m=ds.length-i/\i<=ds.length/\ys.length<=i/\Ac H1 H2/\∃ts fp rest,Aw X.K H2 (PU P fp) ys ts fp/\(∀a∈fp,H1 a=none)/\fp.Nodup/\De gt ft fn (ds.drop i) (AS μ ρ)=.ok rest/\ts++rest=total,
    ⟨ds.length,by simp,zak _,zU _,Ac.refl _,[],[],total,.nil,(λ a ha=>by cases ha),zb5,by rw[List.drop_zero];exact qc,rfl⟩,?_⟩
   rintro i m ys H2 ⟨rfl,hi,hy,s2,ts,fp,rest,bw,b9,cf,ad,a4⟩;have w4:Ak X.K P0 (PU P fp) H2 σ ρ:=E1.more s2 IQ (Mo (E1.same s2).C3 bw) (BG s2 b9);by_cases aj:i<ds.length
   ·refine .inr ⟨ok.go i (PU P fp) H2 (BG s2 b9) aj,zc9 hy (AB (by omega)),λ aU H'=>i+1<=ds.length/\aU.length<=i+1/\Ac H1 H'/\∃ts fp rest,Aw X.K H' (PU P fp) aU ts fp/\(∀a∈fp,H1 a=none)/\fp.Nodup/\De gt ft fn (ds.drop (i+1)) (AS μ ρ)=.ok rest/\ts++rest=total,λ aU H' hq=>⟨ds.length-(i+1),by omega,rfl,hq.1,hq.2.1,hq.2.2.1,hq.2.2.2⟩,λ v H3 y=>?_⟩;obtain⟨s3,hv⟩:=ok.cH i (PU P fp) H2 v H3 ds[i] (BG s2 b9) w4.C3 (zJ aj) y;rw[Fh aj,De] at ad;have E3:=(w4.same s3).block μ;have mv:∀ {Ha Hb:Hp},Ac Ha Hb->Aw X.K Ha (PU P fp) ys ts fp->Aw X.K Hb (PU P fp) ys ts fp:=fun {Ha Hb} w5 o=>o.move w5.del λ a ha=>by
     obtain⟨o',z,_⟩:=o.C3 a ha;rw[z];exact w5 _ _ z
    refine g2 P0 (PU P fp) _ H3 _ (AS μ ρ) v ds[i] E3 hv ?_;cases q1:gt ds[i] (AS μ ρ) with
    |bad|ex x=>rw[q1] at ad;cases ad
    |ok ρ1 =>
     rw[q1] at ad;dsimp only at ad;intro σ4 E4;refine t2 s H1 C ex P0 (PU P fp) σ4 H3 _ ρ1 E4 ?_;cases q2:ft ρ1 with
     |bad|ex x=>rw[q2] at ad;cases ad
     |ok k =>
      rw[q2] at ad;intro H5 s5;cases k with
      |false =>
       dsimp only at ad;simp only[za8,if_false];exact⟨aj,by omega,(s2.trans s3).trans s5,ts,fp,rest,mv s5 (mv s3 bw),b9,cf,ad,a4⟩
      |true =>
       dsimp only at ad;simp only[if_true];refine e2 s H1 C ex P0 (PU P fp) σ4 H5 _ ρ1 (E4.same s5) ?_;cases q3:fn ρ1 with
       |bad|ex x=>rw[q3] at ad;cases ad
       |ok y' =>
        rw[q3] at ad;dsimp only at ad;cases q4:De gt ft fn (ds.drop (i+1)) (AS μ ρ) with
        |bad|ex x=>rw[q4] at ad;cases ad
        |ok gm =>
         rw[q4] at ad;cases ad;intro w fq H6 s6 n6 yq o6;have hs:=mv s5 (mv s3 bw);have dj:∀a∈fp,a∉fq:=λ a ha hb=>(hs.C3 a ha).no (n6 a hb);have eP:PU (PU P fp) fq=PU P (fp++fq):=by
          funext a;simp only[PU,za5,or_assoc]
         have sm:Ac (del H5 (PU P fp)) (del H6 (PU P (fp++fq))):=by rw[<-eP];exact BG s6 n6
         refine⟨aj,by rw[za7,zb2];omega,((s2.trans s3).trans s5).trans s6,ts++[y'],fp++fq,gm,(hs.move sm λ a ha=>?_).snoc (by rw[<-eP];exact o6),λ a ha=>?_,za9.mpr ⟨cf,yq,λ a ha b hb z=>dj a ha (by rw[z];exact hb)⟩,rfl,?_⟩
         ·obtain⟨o',z,_⟩:=hs.C3 a ha;rw[z];exact s6 _ _ z
         ·rcases za5.mp ha with ha|ha
          ·exact b9 a ha
          ·exact Cc ((s2.trans s3).trans s5) (n6 a ha)
         ·rw[zaw];exact a4
   ·have e:i=ds.length:=by omega
    subst e;rw[zc6,De] at ad;cases ad;rw[zal] at a4;subst a4;exact .inl ⟨ok.stop _ (PU P fp) H2 (BG s2 b9) (zU _),λ D0 hn=>h.vU (s1.trans s2) (λ a ha=>Cc s1 (b9 a ha)) cf (E1.same s2).C3 bw D0 hn⟩
end
theorem Inv.freeze {X:Cx}{pins:List (Addr×Obj)}{σ:St}{H:Hp}{s:Shared}{a:Addr}{kvs:List (Key×V)}(I:Inv X pins σ H s)(e:H a=some (.dK kvs)):
 ∃o,s.heap.get? a=some o/\Inv X pins σ (upd H a (.Fp o (.dK kvs))) s:=by
 obtain⟨z,y,vs,r,o,es,ep,ho,c⟩:=(show B6 X.prog X.w H s.heap a (.dK kvs) from I.Au a _ e);have ne:∀b u,H b=some u->u≠.dK kvs->b≠a:=λ b u q n hb=>n (by rw[hb,e] at q;exact (za6 q).symm);have Au:Fc X.prog X.w (upd H a (.Fp o (.dK kvs))) s.heap:=λ b u q=>by
  by_cases hb:b=a
  ·subst hb;rw[Aj] at q;cases q;exact⟨ho,⟨z,y,vs,r,o,es,ep,ho,c⟩⟩
  ·rw[Ab hb] at q;exact (I.Au b u q).MT (λ _ _ _ w=>w) (λ d w=>by rw[Ab (ne d _ w (λ z=>by cases z))];exact w) λ d xs w=>by rw[Ab (ne d _ w (λ z=>by cases z))];exact w
 refine⟨o,ho,?_⟩;have:=I.step (g':=s.gens) (d':=s.drawn) (t':=s.toks) (ch:=[]) (h':=s.heap) (H':=upd H a (.Fp o (.dK kvs))) (λ b hb=>by cases hb) (λ _ _ _ _ _ q _=>q) (λ b o _ _ _ q _=>⟨o.slots,q⟩) (λ b o _ _ n=>by rw[Ab (λ z=>by rw[z,e] at n;cases n)];exact n)
  (λ b o _ q=>⟨o,q⟩) (λ b xs q=>by rw[Ab (ne b _ q (λ z=>by cases z))];exact q) (λ b o u q=>by rw[Ab (ne b _ q (λ z=>by cases z))];exact q) (λ b ps q=>⟨#[],by rw[Ab (ne b _ q (λ z=>by cases z)),q];simp⟩) (λ _ q=>q) Au I.bare
 exact this
theorem Inv.sV {X:Cx}{pins:List (Addr×Obj)}{σ:St}{H:Hp}{s:Shared}{a:Addr}{kvs:List (Key×V)}(I:Inv X pins σ H s)(e:H a=some (.dK kvs)):∀o u,X.H₀ a≠some (.Fp o u):=λ o u q=>by
 rw[I.base.KJ a o u q] at e;cases e
theorem Inv.ZG {X:Cx}{pins:List (Addr×Obj)}{σ:St}{H:Hp}{s:Shared}{a:Addr}{o:Obj}{kvs:List (Key×V)}(I:Inv X pins σ H s)(e:H a=some (.Fp o (.dK kvs)))(n0:∀o u,X.H₀ a≠some (.Fp o u)):Inv X pins σ (upd H a (.dK kvs)) s:=by
 have ne:∀b u,H b=some u->u≠.Fp o (.dK kvs)->b≠a:=λ b u q n hb=>n (by rw[hb,e] at q;exact (za6 q).symm);have nn:∀b,H b=none->b≠a:=λ b q hb=>by rw[hb,e] at q;cases q
 refine⟨I.ok,I.os,I.bare,⟨I.base.keep,I.base.slot,λ b ob q n hx=>?_,I.base.there,λ b xs q=>?_,λ b ob u q=>?_,λ b ps q=>?_⟩,I.loc,I.cell,?_,λ x c h=>?_,λ p hp=>?_,λ b u q=>?_,I.len⟩
 ·have:=I.base.free b ob q n hx;rw[Ab (nn b this)];exact this
 ·have:=I.base.MU b xs q;rw[Ab (ne b _ this (λ z=>by cases z))];exact this
 ·by_cases hb:b=a
  ·subst hb;exact absurd q (n0 ob u)
  ·rw[Ab hb];exact I.base.KJ b ob u q
 ·obtain⟨m,h⟩:=I.base.MV b ps q;exact⟨m,by rw[Ab (ne b _ h (λ z=>by cases z))];exact h⟩
 ·rw[Ab (nn _ I.free)];exact I.free
 ·rw[Ab (nn _ (I.Fd x c h))];exact I.Fd x c h
 ·obtain⟨h1,h2,h3⟩:=I.pin p hp;exact⟨h1,by rw[Ab (nn _ h2)];exact h2,h3⟩
 ·by_cases hb:b=a
  ·subst hb;rw[Aj] at q;cases q;obtain⟨h1,z,y,vs,r,ob,es,ep,ho,c⟩:=(show B6 X.prog X.w H s.heap b (.Fp o (.dK kvs)) from I.Au b _ e);exact⟨z,y,vs,r,ob,es,ep,ho,c⟩
  ·rw[Ab hb] at q;exact (I.Au b u q).MT (λ _ _ _ w=>w) (λ d w=>by rw[Ab (ne d _ w (λ z=>by cases z))];exact w) λ d xs w=>by rw[Ab (ne d _ w (λ z=>by cases z))];exact w
theorem Xe:∀ {k:Key}{u:Value},MS k u=true->RelV (kV k) u
 | .inl i,u,h=>by
  obtain⟨t,e⟩:=Value.isInt_shape (k:=i) (v:=u) h;exact⟨t,e⟩
 | .inr x,u,h=>by
  obtain⟨t,e⟩:=Value.isStrOf_shape (x:=x) (v:=u) h;exact⟨t,e⟩
theorem KV.get {kvs:List (Key×V)}{vs:List (Key×Value)}(r:KV kvs vs){i:Nat}{k:Key}{x:Value}(h:vs[i]?=some (k,x)):∃v,kvs[i]?=some (k,v):=by
 induction r generalizing i with
 |nil=>cases h
 | @cons p q ps qs hd tl ih =>
  cases i with
  |zero =>
   rw[zb4] at h;cases h;have ep:p=(k,p.2):=Prod.ext hd.1 rfl;exact⟨p.2,by rw[zb4,<-ep]⟩
  |succ i=>rw[zaa] at h ⊢;exact ih h
noncomputable def sW (a:Addr)(o:Obj)(kvs:List (Key×V)):It:=
 ⟨λ i H=>H a=some (.Fp o (.dK kvs))/\i<kvs.length,λ i H v H'=>H'=H/\∃kv,kvs[i]?=some kv/\v=kV kv.1,λ i H=>H a=some (.Fp o (.dK kvs))/\kvs.length<=i⟩
theorem Xf {P:Program}{w:World}{K:zy}{tg:Expr}(a it:Addr)(o:Obj)(kvs:List (Key×V))(vs:List (Key×Value))(ep:Nat)(hD:∀h:Heap,h.get? a=some o->h.DictAt (AL P w) a vs ep)(ia:KV kvs vs)(af:a≠it):
 Turn P w K tg (sW a o kvs) [it] it (λ i h=>i<=kvs.length/\h.IsKeyIter it a i kvs.length ep) where
 mem:=by simp
 obj:=λ i h st b hb=>by
  have e:b=it:=by simpa using hb
  subst e;obtain⟨_,o,e,c,d⟩:=st;exact⟨o,e,λ v z=>by rw[d] at z;cases z⟩
 keep:=λ i h h' st k=>⟨st.1,st.2.at λ o e=>k it (by simp) o e⟩
 item:=by
  intro X hP hw hK hc i pins s σ H E I hf st hg;subst hP hw hK;obtain⟨he,hi⟩:=hg;have hlen:kvs.length=vs.length:=zcb ia;have ib:s.heap.get? a=some o:=(show B6 X.prog X.w H s.heap a (.Fp o (.dK kvs)) from I.Au a _ he).1;obtain⟨f0,f1,f2,f3,f4,f5⟩:=hf it (by simp);have W:=Walks.dictKeys (prog:=X.prog) (w:=X.w) (knd:=AL X.prog X.w) (A:=X.A) (I.ok.hd hc) it a af vs ep;refine W.item i s _ _ (by omega) ⟨by rw[<-hlen];exact st.2,hD _ ib⟩ λ v h' tk hv bT kp=>?_;obtain⟨k,x,hk,yr⟩:=hv;obtain⟨v',og⟩:=ia.get hk;have I1:Inv X pins σ H {s with heap:=h',toks:=tk}:=I.turned (t':=tk) (λ b o hb e=>kp b o (by simpa using hb) e) f0 f1 f3 f4 f5;obtain⟨ob,e,c,d⟩:=id bT.1;exact⟨v,rfl,UP (s:={s with heap:=h',toks:=tk}) e c d (by decide) ⟨kV k,H,I1,Xe yr,⟨rfl,_,og,rfl⟩,⟨hi,by rw[hlen];exact bT.1⟩,λ b hb=>(hf b hb).1⟩⟩
 done:=by
  intro X hP hw hK hc i pins s σ H E I hf st hg;subst hP hw hK;obtain⟨he,hi⟩:=hg;have hlen:kvs.length=vs.length:=zcb ia;have ib:s.heap.get? a=some o:=(show B6 X.prog X.w H s.heap a (.Fp o (.dK kvs)) from I.Au a _ he).1;obtain⟨f0,f1,f2,f3,f4,f5⟩:=hf it (by simp);have W:=Walks.dictKeys (prog:=X.prog) (w:=X.w) (knd:=AL X.prog X.w) (A:=X.A) (I.ok.hd hc) it a af vs ep;have yt:i=vs.length:=by have:=st.1;omega
  subst yt;exact W.done s _ _ ⟨by rw[<-hlen];rw[<-hlen] at st;exact st.2,hD _ ib⟩ λ h' tk kp=>⟨rfl,I.turned (t':=tk) (λ b o hb e=>kp b o (by simpa using hb) e) f0 f1 f3 f4 f5⟩
 self:=λ _ _ _ _ _ st h=>wpAny_pyIter_keyiter st.2 h
section
variable {X:Cx}{WX:Str->Hp->Prop}{tg e:Expr}{f g:Aa->M D}{pos p:Pos}{te:TE}
noncomputable def sX (H0:Hp)(te:TE):TI:=λ σ H R=>te σ H λ v H1=>∃a kvs,v=.ref a/\((H1 a=some (.dK kvs)/\∀o,(∀o u,H0 a≠some (.Fp o u))->R (sW a o kvs) (upd H1 a (.Fp o (.dK kvs))))\/∃o,H1 a=some (.Fp o (.dK kvs))/\R (sW a o kvs) H1)
theorem iR (ha:PE X e te):PI X tg e (sX X.H₀ te):=by
 intro pins s σ H R I h;refine Bc (ha pins s σ H _ I h) λ v s1 ⟨x,H1,I1,r1,q1⟩=>?_;obtain⟨a,kvs,rfl,q⟩:=q1;cases r1;have fin:∀(H2:Hp) (o:Obj),Inv X pins σ H2 s1->H2 a=some (.Fp o (.dK kvs))->R (sW a o kvs) H2->wpAny (model X.prog X.w) X.A (pyIter (.ref a)) (uO X pins σ tg R) X.xe s1:=λ H2 o I2 e2 q2=>by
  obtain⟨ib,z,y,vs,r,ob,es,ep,ho,c⟩:=(show B6 X.prog X.w H2 s1.heap a (.Fp o (.dK kvs)) from I2.Au a _ e2);have eo:o=ob:=za6 (ib.symm.trans ho);subst eo;have hD:∀h:Heap,h.get? a=some o->h.DictAt (AL X.prog X.w) a vs ep:=λ h q=>⟨o,es,q,c⟩;have hlen:kvs.length=vs.length:=zcb r;refine wpAny_pyIter_dict y (hD _ ib) ?_;refine⟨s1.heap.objs.size,[s1.heap.objs.size],_,_,H2,rfl,I2.kept (t':=s1.toks) λ b o e=>zI _ e,Xf a _ o kvs vs ep hD r (zX (zT ib)),⟨zak _,_,zZ _ rfl,rfl,by rw[hlen];rfl⟩,λ b hb=>?_,q2⟩;have e:b=s1.heap.objs.size:=by simpa using hb
  subst e;exact I2.W4 (zU _) (I2.Au.fresh (zU _))
 rcases q with ⟨e1,q⟩|⟨o,e1,q⟩
 ·obtain⟨o,ho,I2⟩:=I1.freeze e1;exact fin _ o I2 Aj (q o (I1.sV e1))
 ·exact fin H1 o I1 e1 q
end
def Rz (H H':Hp):Prop:=∀b u,H b=some u->H' b=some u\/(∃o kvs,u=.Fp o (.dK kvs)/\H' b=some (.dK kvs))\/∃o kvs,u=.dK kvs/\H' b=some (.Fp o (.dK kvs))
theorem Rz.tup {H H':Hp}(e:Rz H H'){a:Addr}{xs:List V}(h:H a=some (.tup xs)):H' a=some (.tup xs):=by
 rcases e _ _ h with q|⟨o,k,q,_⟩|⟨o,k,q,_⟩
 ·exact q
 ·cases q
 ·cases q
theorem Rz.dT {H H':Hp}(e:Rz H H'){a:Addr}{kvs:List (List Key×V)}(h:Rd H a (.dT kvs)):Rd H' a (.dT kvs):=by
 rcases h with h|⟨o,h⟩
 ·rcases e _ _ h with q|⟨o,k,q,_⟩|⟨o,k,q,_⟩
  ·exact .inl q
  ·cases q
  ·cases q
 ·rcases e _ _ h with q|⟨o,k,q,_⟩|⟨o,k,q,_⟩
  ·exact .inr ⟨_,q⟩
  ·cases q
  ·cases q
theorem Rz.dK {H H':Hp}(e:Rz H H'){a:Addr}{kvs:List (Key×V)}(h:Rd H a (.dK kvs)):Rd H' a (.dK kvs):=by
 rcases h with h|⟨o,h⟩
 ·rcases e _ _ h with q|⟨o,k,q,_⟩|⟨o,k,q,r⟩
  ·exact .inl q
  ·cases q
  ·cases q;exact .inr ⟨_,r⟩
 ·rcases e _ _ h with q|⟨o,k,q,r⟩|⟨o,k,q,_⟩
  ·exact .inr ⟨_,q⟩
  ·cases q;exact .inl r
  ·cases q
theorem Rz.ins {H H':Hp}(e:Rz H H'){a C dx:Addr}{fs:List (Str×V)}(h:H a=some (.ins C dx fs)):H' a=some (.ins C dx fs):=by
 rcases e _ _ h with q|⟨o,k,q,_⟩|⟨o,k,q,_⟩
 ·exact q
 ·cases q
 ·cases q
theorem Rz.ext {H H':Hp}(e:Rz H H'){a:Addr}{φ:Heap->Prop}(h:H a=some (.ext φ)):H' a=some (.ext φ):=by
 rcases e _ _ h with q|⟨o,k,q,_⟩|⟨o,k,q,_⟩
 ·exact q
 ·cases q
 ·cases q
theorem Rz.seq {K:zy}{H H':Hp}(e:Rz H H'){a:Addr}{xs:List V}(h:DF K H a xs):DF K H' a xs:=by
 rcases h with (h|⟨o,h⟩)|h
 ·rcases e _ _ h with q|⟨o,k,q,_⟩|⟨o,k,q,_⟩
  ·exact .inl (.inl q)
  ·cases q
  ·cases q
 ·rcases e _ _ h with q|⟨o,k,q,_⟩|⟨o,k,q,_⟩
  ·exact .inl (.inr ⟨_,q⟩)
  ·cases q
  ·cases q
 ·exact .inr h
mutual
theorem Bu.rz {K:zy}{H H':Hp}(e:Rz H H'):∀ {v:V}{d:D},Bu K H v d->Bu K H' v d
 |_,_,.AF=>.AF
 |_,_,.bl b=>.bl b
 |_,_,.int i=>.int i
 |_,_,.str x=>.str x
 |_,_,.tup h r=>.tup (e.tup h) (Ag.rz e r)
 |_,_,.lst h r=>.lst (e.seq h) (Ag.rz e r)
 |_,_,.Gu h r=>.Gu (e.dK h) (Ag.rz e r)
 |_,_,.Hz h r=>.Hz (e.dT h) (Ag.rz e r)
 |_,_,.ins n h r=>.ins n (e.ins h) (Ag.rz e r)
 |_,_,.DH h r=>.DH h (e.ext r)
theorem Ag.rz {K:zy}{H H':Hp}(e:Rz H H'):∀ {vs:List V}{ds:List D},Ag K H vs ds->Ag K H' vs ds
 |_,_,.nil=>.nil
 |_,_,.cons h t=>.cons (Bu.rz e h) (Ag.rz e t)
end
mutual
theorem BQ.rz {K:zy}{H H':Hp}{P P':Addr->Prop}(sm:Rz (del H P) (del H' P')):∀ {v:V}{t:OT}{fp:List Addr},(∀a∈fp,H' a=H a)->BQ K H P v t fp->BQ K H' P' v t fp
 |_,_,_,_,.sh h=>.sh (h.rz sm)
 |_,_,_,k,.lst h r=>.lst ((k _ zD).trans h) (Aw.rz sm (λ a ha=>k a (zF _ ha)) r)
 |_,_,_,k,.tup h r=>.tup (sm.tup h) (Aw.rz sm k r)
 |_,_,_,k,.dK h r=>.dK ((k _ zD).trans h) (Aw.rz sm (λ a ha=>k a (zF _ ha)) r)
 |_,_,_,k,.dT h r=>.dT ((k _ zD).trans h) (Aw.rz sm (λ a ha=>k a (zF _ ha)) r)
 |_,_,_,k,.ins n h r=>.ins n ((k _ zD).trans h) (Aw.rz sm (λ a ha=>k a (zF _ ha)) r)
theorem Aw.rz {K:zy}{H H':Hp}{P P':Addr->Prop}(sm:Rz (del H P) (del H' P')):∀ {v:List V}{t:List OT}{fp:List Addr},(∀a∈fp,H' a=H a)->Aw K H P v t fp->Aw K H' P' v t fp
 |_,_,_,_,.nil=>.nil
 |_,_,_,k,.cons h r=>.cons (BQ.rz sm (λ a ha=>k a (zae _ ha)) h) (Aw.rz sm (λ a ha=>k a (zN _ ha)) r)
end
theorem Bv.rz {K:zy}{H H':Hp}{P P':Addr->Prop}(sm:Rz (del H P) (del H' P')):∀ {ps:List Addr}{BF:List (List D)},(∀a∈ps,H' a=H a)->Bv K H P ps BF->Bv K H' P' ps BF
 |_,_,_,.nil=>.nil
 |_,_,k,.cons h r t=>.cons ((k _ zD).trans h) (r.rz sm) (Bv.rz sm (λ a ha=>k a (zF _ ha)) t)
theorem D1.rz {K:zy}{H H':Hp}{P P':Addr->Prop}(sm:Rz (del H P) (del H' P')){c:Cl}{v:V}{fp:List Addr}(k:∀a∈fp,H' a=H a)(h:D1 K H P c v fp):D1 K H' P' c v fp:=by
 cases c with
 |val d=>exact h
 |own ds =>
  obtain⟨p,xs,rfl,rfl,h1,h2⟩:=h;exact⟨p,xs,rfl,rfl,(k p zD).trans h1,h2.rz sm⟩
 |ow o =>
  cases o with
  |rows BF =>
   obtain⟨p,ps,rfl,rfl,h1,h2⟩:=h;exact⟨p,ps,rfl,rfl,(k p zD).trans h1,h2.rz sm λ a ha=>k a (zF _ ha)⟩
  |LZ p ds =>
   obtain⟨p,xs,rfl,rfl,h1,h2⟩:=h;exact⟨p,xs,rfl,rfl,(k p zD).trans h1,h2.rz sm⟩
  |tree p t=>exact BQ.rz sm k h
theorem Ak.rz {K:zy}{P0:Ds}{P:Addr->Prop}{H H':Hp}{σ:St}{ρ:Aa}(E:Ak K P0 P H σ ρ)(k:∀a,P a->H' a=H a)(sm:Rz (del H P) (del H' P)):Ak K P0 P H' σ ρ:=by
 have key:∀(j:Nat) (d:Cl) (w:V) (fq:List Addr),ρ[j]?=some (some d)->σ[j]?=some (some w)->D1 K H' P d w fq->D1 K H P d w fq:=λ j d w fq hk sk ho=>by
  have io:Ij d=true:=by cases d<;>first|rfl|exact ho.elim
  obtain⟨w',bY,s2,o2,h3,_⟩:=E.ows j d hk io;rw[sk] at s2;cases s2;have o3:=o2.rz sm λ a ha=>k a (h3 a ha).1;rw[ho.Cy o3];exact o2
 exact⟨E.sub,λ a h=>by obtain⟨o,z,y⟩:=E.C3 a h;exact⟨o,(k a h).trans z,y⟩,λ i d h=>let ⟨v,h1,h2⟩:=E.val i d h;⟨v,h1,h2.rz sm⟩,
  λ i c h io=>let ⟨v,fp,h1,h2,h3,h4⟩:=E.ows i c h io;⟨v,fp,h1,h2.rz sm λ a ha=>k a (h3 a ha).1,h3,h4⟩,
  λ i j c c' v v' fp ak hi hj si sj h h' af=>E.apart i j c c' v v' fp ak hi hj si sj (key i c v fp hi si h) (key j c' v' ak hj sj h') af,E.len,E.pin⟩
def Fz (H0:Hp)(H H':Hp):Prop:=H'=H\/∃a o kvs,H a=some (.dK kvs)/\H'=upd H a (.Fp o (.dK kvs))/\∀o u,H0 a≠some (.Fp o u)
def Uz (H0:Hp)(H H':Hp):Prop:=H'=H\/∃a o kvs,H a=some (.Fp o (.dK kvs))/\H'=upd H a (.dK kvs)/\∀o u,H0 a≠some (.Fp o u)
theorem Inv.uz {X:Cx}{pins:List (Addr×Obj)}{σ:St}{H H':Hp}{s:Shared}(I:Inv X pins σ H s)(u:Uz X.H₀ H H'):Inv X pins σ H' s:=by
 rcases u with rfl|⟨a,o,kvs,e,rfl,n0⟩
 ·exact I
 ·exact I.ZG e n0
noncomputable def vV (H0:Hp)(t:TE):TE:=λ σ H Q=>t σ H λ v H2=>∃H3,Uz H0 H2 H3/\Q v H3
theorem sY {X:Cx}{e:Expr}{t:TE}(h:PE X e t):PE X e (vV X.H₀ t):=by
 intro pins s σ H Q I q;refine Bc (h pins s σ H _ I q) λ v s1 ⟨x,H1,I1,r1,q1⟩=>?_;obtain⟨H3,u,q⟩:=q1;exact⟨x,H3,I1.uz u,r1,q⟩
def wW (X:Cx)(WX:Str->Hp->Prop)(tg iter:Expr)(f:Aa->M (List D)):Prop:=
 ∃wi,PI X tg iter wi/\∀P0 P σ H R ρ,Ak X.K P0 P H σ ρ->(match f ρ with | .ok ds=>∀J H1 H',Ac H H1->Fz X.H₀ H1 H'->(∀b,P b->H' b=H1 b)->Rz (del H1 P) (del H' P)->RI X.K J P H' ds->R J H' | .ex x=>∀H',Ac H H'->WX x H' | .bad=>False)->wi σ H R
noncomputable def oI (d:D):M (List D):=match d with | .Bd false ks _=>.ok ks | _=>.bad
theorem iS {K:zy}{H:Hp}:∀k:Key,Bu K H (kV k) (Cp k)
 | .inl i=>.int i
 | .inr x=>.str x
theorem ZH {K:zy}{P:Addr->Prop}{H:Hp}{a:Addr}{o:Obj}{kvs:List (Key×V)}(nP:¬ P a)(e:H a=some (.Fp o (.dK kvs))):RI K (sW a o kvs) P H (kvs.map λ kv=>Cp kv.1):=by
 have at':∀ {P':Addr->Prop} {H':Hp},Ac (del H P) (del H' P')->H' a=some (.Fp o (.dK kvs)):=λ s=>(Am (s a _ (by rw[Az nP];exact e))).2;refine⟨λ i P' H' s hi=>⟨at' s,by rw[zC] at hi;exact hi⟩,λ i P' H' s hi=>⟨at' s,by rw[zC] at hi;exact hi⟩,λ i P' H' v eh d s ht hd y=>?_⟩;obtain⟨rfl,kv,hk,rfl⟩:=y;rw[za2,hk] at hd;cases hd;exact⟨Ac.refl _,iS _⟩
section
variable {X:Cx}{WX:Str->Hp->Prop}{c:Bool}{P0:Ds}{P:Addr->Prop}{H:Hp}{σ:St}{ρ:Aa}{a b e tg iter:Expr}{f g:Aa->M D}{ft:Aa->M Bool}{pos:Pos}{gt:D->Aa->M Aa}{fi:Aa->M (List D)}{es:List Expr}{fs:Aa->M (List D)}
theorem VL (ha:DE X WX true e f):wW X WX tg e (λ ρ=>(f ρ).bind oI):=by
 obtain⟨ta,a1,a2⟩:=ha;refine⟨_,iR a1,λ P0 P σ H R ρ E h=>?_⟩;dsimp only at h;refine a2 P0 P σ H _ ρ E ?_;cases q:f ρ with
 |bad|ex x=>rw[q] at h;exact h
 |ok d =>
  rw[q] at h;simp only[M.A7] at h;unfold oI at h;cases d with
  |Bd t ks vs =>
   intro v H1 s1 hv;cases hv with
   | @Gu a kvs _ hh hl =>
    rcases hh with hh|⟨o,hh⟩
    ·obtain⟨nP,ea⟩:=Am hh;refine⟨a,kvs,rfl,.inl ⟨ea,λ o n0=>h _ H1 _ s1 (.inr ⟨a,o,kvs,ea,rfl,n0⟩) (λ b hb=>Ab λ z=>nP (by rw[<-z];exact hb)) (λ b u q=>?_) (ZH nP Aj)⟩⟩;obtain⟨n,q'⟩:=Am q;by_cases hb:b=a
     ·subst hb;rw[ea] at q';cases q';exact .inr (.inr ⟨o,kvs,rfl,by rw[Az n];exact Aj⟩)
     ·exact .inl (by rw[Az n,Ab hb];exact q')
    ·obtain⟨nP,ea⟩:=Am hh;exact⟨a,kvs,rfl,.inr ⟨o,ea,h _ H1 H1 s1 (.inl rfl) (λ _ _=>rfl) (λ _ _ q=>.inl q) (ZH nP ea)⟩⟩
   |Hz _ _=>exact h.elim
  |_=>exact h.elim
theorem iT {μ:List (Option Nat)}{wi:TI}{gg:TG}{tc:Shared->Hp->Addr->List Addr->TT}{te:Shared->Hp->Addr->List Addr->TE}{fe:Aa->M D}
 (i2:∀P0 P σ H R ρ,Ak X.K P0 P H σ ρ->(match fi ρ with | .ok ds=>∀J H1 H',Ac H H1->Fz X.H₀ H1 H'->(∀b,P b->H' b=H1 b)->Rz (del H1 P) (del H' P)->RI X.K J P H' ds->R J H' | .ex x=>∀H',Ac H H'->WX x H' | .bad=>False)->wi σ H R)
 (g2:∀P0 P σ H Q ρ v d,Ak X.K P0 P H σ ρ->Bu X.K (del H P) v d->gG X.K P0 P H Q (gt d ρ)->gg v σ H Q)
 (t2:∀s H' C ex P0 P σ H Q ρ,Ak X.K P0 P H σ ρ->gT (λ _ _=>False) H Q (ft ρ)->tc s H' C ex σ H Q)
 (e2:∀s H' C ex P0 P σ H Q ρ,Ak X.K P0 P H σ ρ->gV X.K (λ _ _=>False) (Lv true P0 P) H Q (fe ρ)->te s H' C ex σ H Q) {Q:VK}
 (E:Ak X.K P0 P H σ ρ) (h:Tb X.K WX P H Q ((fi ρ).bind λ ds=>if ds.length<=1000 then Iv (AX gt ft fe ds (AS μ ρ)) else .bad)):vV X.H₀ (P5 wi μ gg tc te) σ H Q:=by
 unfold vV;refine i2 P0 P σ H _ ρ E ?_;cases q:fi ρ with
 |bad|ex x=>rw[q] at h;exact h
 |ok ds =>
  rw[q] at h;simp only[M.A7] at h;by_cases hd:¬ ds.length<=1000
  ·rw[if_neg hd] at h;exact h.elim
  have hd:ds.length<=1000:=by omega
  rw[if_pos hd] at h;intro J H0 H1 s0 fz kP rz ok s C ex;cases qc:AX gt ft fe ds (AS μ ρ) with
  |bad|ex x=>rw[qc] at h;exact h.elim
  |ok total =>
   rw[qc] at h;unfold Iv at h;dsimp only at h;have E1:Ak X.K P0 P H1 σ ρ:=(E.same s0).rz kP rz;refine⟨λ i m ys H2=>m=ds.length-i/\i<=ds.length/\ys.length<=i/\Ac H1 H2/\∃es rest,Ag X.K (del H2 P) ys es/\AX gt ft fe (ds.drop i) (AS μ ρ)=.ok rest/\es++rest=total,
    ⟨ds.length,by simp,zak _,zU _,Ac.refl _,[],total,.nil,by rw[List.drop_zero];exact qc,rfl⟩,?_⟩
   rintro i m ys H2 ⟨rfl,hi,hy,s2,es,rest,bw,ad,a4⟩;by_cases aj:i<ds.length
   ·refine .inr ⟨ok.go i P H2 s2.del aj,zc9 hy (AB (by omega)),λ aU H'=>i+1<=ds.length/\aU.length<=i+1/\Ac H1 H'/\∃es rest,Ag X.K (del H' P) aU es/\AX gt ft fe (ds.drop (i+1)) (AS μ ρ)=.ok rest/\es++rest=total,λ aU H' hq=>⟨ds.length-(i+1),by omega,rfl,hq.1,hq.2.1,hq.2.2.1,hq.2.2.2⟩,λ v H3 y=>?_⟩;have E2:=E1.same s2;obtain⟨s3,hv⟩:=ok.cH i P H2 v H3 ds[i] s2.del E2.C3 (zJ aj) y;rw[Fh aj,AX] at ad;have E3:=(E2.same s3).block μ;refine g2 P0 P _ H3 _ (AS μ ρ) v ds[i] E3 hv ?_;cases q1:gt ds[i] (AS μ ρ) with
    |bad|ex x=>rw[q1] at ad;cases ad
    |ok ρ1 =>
     rw[q1] at ad;dsimp only at ad;intro σ4 E4;refine t2 s H1 C ex P0 P σ4 H3 _ ρ1 E4 ?_;cases q2:ft ρ1 with
     |bad|ex x=>rw[q2] at ad;cases ad
     |ok k =>
      rw[q2] at ad;dsimp only at ad;intro H5 s5;cases k with
      |false =>
       simp only[za8,if_false] at ad ⊢;exact⟨aj,by omega,(s2.trans s3).trans s5,es,rest,(bw.mono s3.del).mono s5.del,ad,a4⟩
      |true =>
       simp only[if_true] at ad ⊢;refine e2 s H1 C ex P0 P σ4 H5 _ ρ1 (E4.same s5) ?_;cases q3:fe ρ1 with
       |bad|ex x=>rw[q3] at ad;cases ad
       |ok y' =>
        rw[q3] at ad;dsimp only at ad;cases q4:AX gt ft fe (ds.drop (i+1)) (AS μ ρ) with
        |bad|ex x=>rw[q4] at ad;cases ad
        |ok gm =>
         rw[q4] at ad;cases ad;intro w H6 s6 hw;refine⟨aj,by rw[za7,zb2];omega,((s2.trans s3).trans s5).trans s6,es++[y'],gm,(((bw.mono s3.del).mono s5.del).mono s6.del).snoc hw,rfl,?_⟩;rw[zaw];exact a4
   ·have e:i=ds.length:=by omega
    subst e;rw[zc6,AX] at ad;cases ad;rw[zal] at a4;subst a4;refine .inl ⟨ok.stop _ P H2 s2.del (zU _),λ D0 hn=>?_⟩;rcases fz with rfl|⟨a,o,kvs,ea,rfl,n0⟩
    ·exact⟨_,.inl rfl,h.Ik (s0.trans s2) bw D0 hn⟩
    ·have e2:H2 a=some (.Fp o (.dK kvs)):=s2 a _ Aj;have nP:¬ P a:=λ z=>by
      have:=kP a z;rw[Aj,ea] at this;cases this
     have af:a≠D0:=λ z=>by rw[<-z,e2] at hn;cases hn
     have ec:upd (upd H2 D0 (.lst ys)) a (.dK kvs)=upd (upd H2 a (.dK kvs)) D0 (.lst ys):=by
      funext b;by_cases hb:b=a
      ·subst hb;rw[Aj,Ab af,Aj]
      ·rw[Ab hb];by_cases hd:b=D0
       ·subst hd;rw[Aj,Aj]
       ·rw[Ab hd,Ab hd,Ab hb]
     refine⟨upd (upd H2 D0 (.lst ys)) a (.dK kvs),.inr ⟨a,o,kvs,by rw[Ab af];exact e2,rfl,n0⟩,?_⟩;rw[ec];have su:Ac H (upd H2 a (.dK kvs)):=s0.trans λ b u q=>by
      by_cases hb:b=a
      ·subst hb;rw[ea] at q;cases q;exact Aj
      ·rw[Ab hb];exact s2 b u (by rw[Ab hb];exact q)
     refine h.Ik su (bw.rz λ b u q=>?_) D0 (by rw[Ab (zao af)];exact hn);by_cases hb:b=a
     ·subst hb;rw[Az nP,e2] at q;cases q;exact .inr (.inl ⟨o,kvs,rfl,by rw[Az nP];exact Aj⟩)
     ·refine .inl ?_;obtain⟨n,q'⟩:=Am q;rw[Az n,Ab hb];exact q'
theorem Su {scope:Scope}{NB:List Str}{ifs:List Expr}{elt:Expr}{fe:Aa->M D}(μ:List (Option Nat))(hc:X.calm=true)(hi:wW X WX tg iter fi)(aF:IH scope X.env.scope=true)(bu:Ou X.N NB scope μ=true)(hg:pA X scope NB μ tg gt)
 (ht:∀s H C ex,pB (blockOf X s H scope C NB ex) ifs ft) (he:∀s H C ex,DE (blockOf X s H scope C NB ex) (λ _ _=>False) true elt fe) (hs:∀x,foldedSetIterable iter X.env x=pure x:=by intro _;rfl):
 DN X WX (.ListComp elt [⟨tg,iter,ifs,0⟩] scope pos) (λ ρ=>(fi ρ).bind λ ds=>if ds.length<=1000 then Iv (AX gt ft fe ds (AS μ ρ)) else .bad):=by
 obtain⟨wi,i1,i2⟩:=hi;obtain⟨gg,g1,gk,g2⟩:=hg;refine⟨_,sY (UY hc i1 aF bu gk (λ s H C ex=>⟨g1 s H C ex,(zB (ht s H C ex)).1,(zB (he s H C ex)).1⟩) hs),λ P0 P σ H Q ρ E h=>?_⟩;exact iT i2 g2 (λ s H' C ex P0 P σ H Q ρ E h=>(zB (ht s H' C ex)).2 P0 P σ H Q ρ E h) (λ s H' C ex P0 P σ H Q ρ E h=>(zB (he s H' C ex)).2 P0 P σ H Q ρ E h) E h
end
theorem VM:∀ {kvs:List (Key×V)}{vs:List (Key×Value)},KV kvs vs->∀us:List Value,us.length=vs.length->(∀(j:Nat) (v:Value),us[j]?=some v->∃k,vs[j]?=some (k,v))->Vals (kvs.map zb1) us
 |_,_,.nil,[],_,_=>.nil
 |_,_,.nil,_::_,h,_|_,_,.cons _ _,[],h,_=>by cases h
 |_,_,.cons hd tl,u::us,h,g=>by
  obtain⟨k,e⟩:=g 0 u rfl;rw[zb4] at e;cases e;exact .cons hd.2 (VM tl us (by simpa using h) λ j v e=>by
   obtain⟨k,q⟩:=g (j+1) v (by rw[zaa];exact e);rw[zaa] at q;exact⟨k,q⟩)
section
variable {X:Cx}{WX:Str->Hp->Prop}{c:Bool}{o:Expr}{f:Aa->M D}{pos p apos ae:Pos}{to:TE}
noncomputable def sZ (to:TE):TE:=λ σ H Q=>to σ H λ x H1=>∃a kvs,x=.ref a/\Rd H1 a (.dK kvs)/\∀p,H1 p=none->Q (.ref p) (upd H1 p (.ext λ h=>h.IsValuesView p a))
theorem Xg (ho:PE X o to)(ay:attributeBase o "values" X.env (eval o X.env)=eval o X.env:=by rfl)(az:(apos.endLine==ae.line)=true:=by rfl):PE X (.Call (.Attribute o "values" apos) [] [] ae) (sZ to):=by
 intro pins s0 σ H Q I0 h;refine wpAny_Call_method0_late ay az (Bc (ho pins s0 σ H _ I0 h) λ v s ⟨x,H1,I,r,q⟩=>?_);obtain⟨a,kvs,rfl,ha,q⟩:=q;cases r;obtain⟨z,hd,vs,rel,dd⟩:=Jt I.Au ha;obtain⟨ob,es,ep,bq,hx,d9⟩:=id dd;refine⟨"dict","dict.values",PySem.F.plainAttrs_dict,PySem.F.slot_dict_values,PySem.F.type_dict_values,dd.typeIs,λ b e=>?_,Calls.callWith_builtin rfl (PySem.evalArgs_none ?_)⟩
 ·cases e;exact⟨ob,bq,hx.2.1⟩
 refine call_meetsIn PySem.F.slot_dict_values dd.typeIs PySem.F.entry_dict_values (PySem.F.args_dict_values_1 _) (meets_dict_values (AL X.prog X.w) a hd) ⟨⟨vs,dd⟩,?_⟩;refine⟨.ref s.heap.objs.size,_,I.laid (a:=s.heap.objs.size) (o:=.ext λ h=>h.IsValuesView s.heap.objs.size a) (t':=s.toks) (λ b ob e=>zI _ e) (zU _) ⟨⟨_,zZ _ rfl,rfl,rfl⟩,⟨_,zZ _ rfl⟩,λ h1 h2 ⟨ob,e,cc⟩ k=>⟨ob,k ob e,cc⟩⟩,rfl,q _ (I.Au.fresh (zU _))⟩
theorem Ul:G0 X (.type "list") (λ xs H Q=>∃p a kvs,xs=[.ref p]/\H p=some (.ext λ h=>h.IsValuesView p a)/\Rd H a (.dK kvs)/\X.calm=true/\∀l,H l=none->Q (.ref l) (upd H l (.lst (kvs.map zb1)))):=by
 intro pins s σ H xs us Q I r h;obtain⟨p,a,kvs,rfl,hp,ha,hc,q⟩:=h;obtain⟨u,rfl,rx⟩:=vals1 r;cases rx;obtain⟨z,hd,vs,rel,dd⟩:=Jt I.Au ha;obtain⟨ep,dat⟩:=dd.dictAt;have hv:s.heap.IsValuesView p a:=(show B6 X.prog X.w H s.heap p (.ext λ h=>h.IsValuesView p a) from I.Au p _ hp).1;have hlen:kvs.length=vs.length:=zcb rel;refine PySem.W.kdl_call (PySem.W.kdl_values (knd:=AL X.prog X.w) (kvs:=vs) (ep:=ep)) (I.ok.hd hc) ⟨hv,dat⟩ (by rw[<-hlen];exact z) λ h' tk acc c' hk hS dm=>?_;have lg:Vals (kvs.map zb1) acc.toList:=VM rel acc.toList (by rw[zcu];exact dm.1) λ j v e=>dm.2 j v (by rw[<-Array.getElem?_toList];exact e);exact⟨.ref s.heap.objs.size,_,I.laid (t':=tk) hk (zU _) (show B6 X.prog X.w _ h' _ (.lst (kvs.map zb1)) from ⟨by rw[zC];exact z,acc.toList,c',lg,by rw[Array.toArray_toList];exact hS⟩),rfl,q _ (I.Au.fresh (zU _))⟩
noncomputable def ZI (d:D):M OT:=match d with | .Bd false _ vs=>.ok (.lst (vs.map .sh)) | _=>.bad
theorem LL (hc:X.calm=true)(hg:Gl X "list")(hm:X.mg "list" = none)(ha:DE X WX true o f)(hb:bootBuiltins "list" = some (.type "list"):=by decide +kernel)
 (ay:attributeBase o "values" X.env (eval o X.env)=eval o X.env:=by rfl) (az:(apos.endLine==ae.line)=true:=by rfl)
 (aR:starEach [.Call (.Attribute o "values" apos) [] [] ae] X.env=[(false,eval (.Call (.Attribute o "values" apos) [] [] ae) X.env)]:=by rfl):
 DN X WX (.Call (.Name "list" p) [.Call (.Attribute o "values" apos) [] [] ae] [] pos) (λ ρ=>(f ρ).bind ZI):=by
 obtain⟨ta,a1,a2⟩:=ha;refine⟨_,KO Ul hg hm hb (Bt (Xg a1 ay az) CO aR) (he:=aR),λ P0 P σ H Q ρ E h=>?_⟩;dsimp only at h;refine a2 P0 P σ H _ ρ E ?_;cases q:f ρ with
 |bad|ex x=>rw[q] at h;exact h
 |ok d =>
  rw[q] at h;simp only[M.A7] at h;intro v H1 s1 hv;unfold ZI at h;split at h
  ·cases hv with
   | @Gu a kvs _ hh hl =>
    have hr:=hh.Bg;refine⟨a,kvs,rfl,hr,λ p hp=>?_⟩;have sp:Ac H1 (upd H1 p (.ext λ h=>h.IsValuesView p a)):=AK hp _;exact⟨p,a,kvs,rfl,Aj,hr.same sp,hc,h.Ik (s1.trans sp) (hl.mono sp.del)⟩
  ·exact h.elim
end
noncomputable def Xh:List OT->Option (List D)
 |[]=>some []
 | .sh d::r=>(Xh r).map (d::·)
 |_::_=>none
theorem VN:∀ {ts:List OT}{ds:List D},Xh ts=some ds->ts=ds.map .sh
 |[],ds,h=>by cases h;rfl
 | .sh d::r,ds,h=>by
  unfold Xh at h;obtain⟨es,h1,rfl⟩:=zc3.mp h;rw[VN h1];rfl
 | .lst _::_,ds,h| .tup _::_,ds,h| .Bd _ _ _::_,ds,h| .ins _ _ _::_,ds,h=>by cases h
theorem Sv:∀ds:List D,Xh (ds.map .sh)=some ds
 |[]=>rfl
 |d::r=>by rw[zG,Xh,Sv r];rfl
noncomputable def PL:List OT->Option (List (List D))
 |[]=>some []
 | .lst ts::r=>(Xh ts).bind λ ds=>(PL r).map (ds::·)
 |_::_=>none
theorem PM:∀BF:List (List D),PL (BF.map λ ds=>.lst (ds.map .sh))=some BF
 |[]=>rfl
 |ds::r=>by rw[zG,PL,Sv,Option.bind_some,PM r];rfl
noncomputable def ZJ:OT->Option (List (List D))
 | .lst ts=>PL ts
 |_=>none
theorem VO {K:zy}{H:Hp}{P:Addr->Prop}:∀ {ts:List OT}{BF:List (List D)}{xs:List V}{fp:List Addr},PL ts=some BF->Aw K H P xs ts fp->xs=fp.map V.ref/\Bv K H P fp BF
 |[],BF,_,_,h,.nil=>by cases h;exact⟨rfl,.nil⟩
 | .lst rs::r,BF,_,_,h,.cons (.lst (fp:=a9) ha hr) t=>by
  unfold PL at h;obtain⟨ds,h1,h2⟩:=Option.bind_eq_some_iff.mp h;obtain⟨es,h3,rfl⟩:=zc3.mp h2;rw[VN h1] at hr;obtain⟨rfl,hl⟩:=Aw.jT hr;obtain⟨rfl,ht⟩:=VO h3 t;exact⟨rfl,.cons ha hl ht⟩
 | .sh _::_,BF,_,_,h,_| .tup _::_,BF,_,_,h,_| .Bd _ _ _::_,BF,_,_,h,_| .ins _ _ _::_,BF,_,_,h,_=>by cases h
noncomputable def iU (i:Nat)(ρ:Aa)(t:OT):M Out:=match ZJ t with
 |some BF=>.ok (.next (ρ.set i (some (.ow (.rows BF)))))
 |none=>.bad
section
variable {X:Cx}{WX:Str->Hp->Prop}{c:Bool}{P0:Ds}{P:Addr->Prop}{H:Hp}{σ:St}{ρ:Aa}{a b e tg iter:Expr}{f g:Aa->M D}{ft:Aa->M Bool}{pos:Pos}{gt:D->Aa->M Aa}{fi:Aa->M (List D)}
theorem tD {K:zy}{i:Nat}{t:OT}{v:V}{fp:List Addr}{H':Hp}{Z:Ends}(E:Ak K P0 P H σ ρ)(s:Ac H H')(hn:∀a∈fp,H a=none)(nd:fp.Nodup)(o:BQ K H' (PU P fp) v t fp)(h:gS K WX P0 P H Z (iU i ρ t)):Z.nx (σ.set i (some v)) H':=by
 unfold iU at h;cases q:ZJ t with
 |none=>rw[q] at h;exact h.elim
 |some BF =>
  rw[q] at h;have C3:=L4 (E.same s).C3 o;cases t with
  |lst ts =>
   cases o with
   | @lst a xs _ fq ha hr =>
    obtain⟨rfl,a6⟩:=VO q hr;refine h _ H' (PU P (a::fq)) (E.tU s hn) (E.Yt IQ C3 (BG s hn) (λ j c' v' ak af g1 g2 g3 b hb=>?_) ⟨a,fq,rfl,rfl,ha,a6⟩ (λ b hb=>⟨.inr hb,λ z=>(E.C3 b (E.sub b z)).no (hn b hb)⟩) nd (λ n z=>by cases z));obtain⟨ys,z⟩:=g3.at b hb;exact⟨by rw[z];exact s _ _ z,λ w=>by rw[hn b w] at z;cases z⟩
  |_=>cases q
theorem ZK {scope:Scope}{NB:List Str}{ifs:List Expr}{elt:Expr}{fn:Aa->M OT}(i:Nat){x:Str}{px au:Pos}(μ:List (Option Nat))(hN:X.N.Nodup)(jx:X.N[i]?=some x)(hx:Loc X.env.scope x)(hc:X.calm=true)(hi:DI X WX tg iter fi)(aF:IH scope X.env.scope=true)(bu:Ou X.N NB scope μ=true)(hg:pA X scope NB μ tg gt)
 (ht:∀s H C ex,pB (blockOf X s H scope C NB ex) ifs ft) (he:∀s H C ex,DN (blockOf X s H scope C NB ex) (λ _ _=>False) elt fn)
 (bW:swapsWith (.ListComp elt [⟨tg,iter,ifs,0⟩] scope pos) (some (.Name x px)) au.line X.env=pure true:=by rfl) (hs:∀x,foldedSetIterable iter X.env x=pure x:=by intro _;rfl) (hf:X.fn x=true\/X.env.scope.names.lookup x=some .local:=by first|exact .inl rfl|exact .inr rfl|assumption):
 DS X WX (.Assign [.Name x px] (.ListComp elt [⟨tg,iter,ifs,0⟩] scope pos) au) (λ ρ=>((fi ρ).bind λ ds=>if ds.length<=1000 then NR (De gt ft fn ds (AS μ ρ)) else .bad).bind (iU i ρ)):=by
 obtain⟨wi,i1,i2⟩:=hi;obtain⟨gg,g1,gk,g2⟩:=hg;refine⟨_,UZ hN jx hx hc i1 aF bu gk (λ s H C ex=>⟨g1 s H C ex,(zB (ht s H C ex)).1,(zB (he s H C ex)).1⟩) bW hs hf,λ P0 P σ H Z ρ E h=>?_⟩;refine iQ i2 g2 (λ s H' C ex P0 P σ H Q ρ E h=>(zB (ht s H' C ex)).2 P0 P σ H Q ρ E h) (λ s H' C ex P0 P σ H Q ρ E h=>(zB (he s H' C ex)).2 P0 P σ H Q ρ E h) E ?_;dsimp only at h;revert h;cases ((fi ρ).bind λ ds=>if ds.length<=1000 then NR (De gt ft fn ds (AS μ ρ)) else .bad) with
 |bad=>exact λ h=>h
 |ex y=>exact λ h H' s=>h H' P (E.tr s)
 |ok t=>exact λ h v fp H' s hn nd o=>tD E s hn nd o h
theorem oJ (ha:DE X WX true e f):DI X WX tg e (λ ρ=>(f ρ).bind λ d=>match d with | .tup ds=>.ok ds | _=>.bad):=by
 obtain⟨ta,a1,a2⟩:=ha;refine⟨_,lG a1,λ P0 P σ H R ρ E h=>?_⟩;dsimp only at h;refine a2 P0 P σ H _ ρ E ?_;cases q:f ρ with
 |bad|ex x=>rw[q] at h;exact h
 |ok d =>
  rw[q] at h;cases d with
  |tup ds =>
   intro v H1 s1 hv;cases hv with
   | @tup a xs _ hh hl =>
    have at':∀ {P':Addr->Prop} {H':Hp},Ac (del H1 P) (del H' P')->EL X.K H' a xs:=λ s=>.inl (.inl (Am (s a _ hh)).2);refine⟨a,rfl,⟨xs,.inl (.inl (Am hh).2)⟩,h _ H1 s1 ⟨λ i P' H' s hi=>?_,λ i P' H' s hi=>?_,λ i P' H' v eh d s ht hd y=>?_⟩⟩
    ·obtain⟨x,hx,_⟩:=hl.get (zJ hi);exact⟨xs,x,at' s,hx⟩
    ·exact⟨xs,at' s,by rw[hl.length];exact hi⟩
    ·obtain⟨rfl,y⟩:=y;obtain⟨x,hx,b7⟩:=hl.get hd;have e:=y xs (at' s);rw[hx] at e;cases e;exact⟨Ac.refl _,b7.mono s⟩
  |_=>exact h.elim
end
section
variable {prog:Program}{w:World}{A:Around}{E:Value->Shared->Prop}{s:Shared}
theorem PN {K:Type}[DecidableEq K]{knd:KeyKind prog w K}{h h':Heap}{d I l:Addr}{i:Nat}{xs:List (K×Value)}(hd:h.DictOf knd d xs)(hit:h.IsListIter I l i)(sb:∀b o,b≠I->h.get? b=some o->h'.get? b=some o):h'.DictOf knd d xs:=by
 obtain⟨o,es,ep,h1,h2,h3,h4⟩:=hd;obtain⟨oi,i1,i2,i3⟩:=hit;refine⟨o,es,ep,sb d o (λ z=>?_) h1,h2,h3,h4⟩;subst z;rw[i1] at h1;cases h1;rw[i3] at h3;cases h3
theorem Um {K:Type}[DecidableEq K]{knd:KeyKind prog w K}{R:Result->Shared->Prop}{d I l:Addr}{items:Array Value}{h0:Heap}(ps:List (K×Value×Value))(hh:A.handled=none)(di:l≠I)(rb:d≠I)(ko:l≠d)
 (kr:ps.length=items.size) (hsz:items.size+1<=sizeLine) (hl:h0.IsList l items)
 (hp:∀(j:Nat) p,ps[j]?=some p->knd.is p.1 p.2.1=true/\∃t,items[j]?=some (.ref t)/\t≠d/\t≠I/\IsTup h0 t #[p.2.1,p.2.2]):
 ∀(m i:Nat) (xs:List (K×Value)) (s:Shared),items.size-i=m->i<=items.size->xs.length<=i->s.heap.IsListIter I l i->s.heap.DictOf knd d xs->(∀b o,b≠d->b≠I->h0.get? b=some o->s.heap.get? b=some o)->
  (∀h' tk,h'.DictOf knd d ((ps.drop i).foldl (λ acc p=>stored acc p.1 p.2.2) xs)->(∀b o,b≠d->b≠I->h0.get? b=some o->h'.get? b=some o)->R (.ok (.ret .none)) {s with heap:=h',toks:=tk})->
  codeAny (model prog w) A (.builtin "dict.update.loop" ⟨[.ref d,.ref I,rawInt i,.none],[]⟩) R s:=by
 intro m;induction m with
 |zero =>
  intro i xs s hm hi rc hit hd hf h;have bX:i=items.size:=by omega
  refine codeAny_builtin HX ?_;rw[zb8 CK _];show wpAny _ A.in1 (pyNext (.ref I) >>= _) _ _ s;refine wpAny_bind (wpAny_pyNext_list_end (A:=A.in1) hh hit (hl.at λ o e=>hf l o ko di e) (by simp[bX]) λ h' eb=>?_);have hd2:=PN hd hit λ b o hb e=>eb b o hb e;show wpAny _ A.in1 (Dict.addKeywords d [] >>= _) _ _ _;unfold Dict.addKeywords;refine wpAny_bind (wpAny_bind ?_);refine wpAny_pure (wpAny_pure (wpAny_pure ?_));have ed:ps.drop i=[]:=by rw[List.drop_eq_nil_iff];omega
  rw[ed] at h;exact h h' s.toks hd2 λ b o h1 h2 e=>eb b o h2 (hf b o h1 h2 e)
 |succ m ih =>
  intro i xs s hm hi rc hit hd hf h;have aj:i<items.size:=by omega
  obtain⟨p,g7⟩:∃p,ps[i]?=some p:=⟨ps[i]'(by omega),zJ _⟩;obtain⟨p3,t,ht,t1,t2,t3⟩:=hp i p g7;refine codeAny_builtin HX ?_;rw[zb8 CK _];show wpAny _ A.in1 (pyNext (.ref I) >>= _) _ _ s;refine wpAny_bind (wpAny_pyNext_list_item (A:=A.in1) hit (hl.at λ o e=>hf l o ko di e) ht λ h' aX sb=>?_);have hd2:h'.DictOf knd d xs:=PN hd hit λ b o hb e=>(sb.2 b hb).trans e;have jb:∀b o,b≠d->b≠I->h0.get? b=some o->h'.get? b=some o:=λ b o h1 h2 e=>(sb.2 b h2).trans (hf b o h1 h2 e);have t4:IsTup h' t #[p.2.1,p.2.2]:=by
   obtain⟨o,e1,e2⟩:=t3;exact⟨o,jb t o t1 t2 e1,e2⟩
  dsimp only;refine wpAny_bind (wpAny_holding (wpAny_bind (wpAny_tryCatch (Px t4 ?_))));show wpAny _ A.in1 (holding [p.2.1,p.2.2] (dictSet d p.2.1 p.2.2)) _ _ _;refine wpAny_holding (wpAny_dictSet_pairs (knd:=knd) (hsz:=by omega) p3 hd2 λ h3 g8 kt=>?_);refine wpAny_pure ⟨plainId_quiet CK _,?_⟩;have g9:h3.IsListIter I l (i+1):=by
   obtain⟨o,e1,e2⟩:=aX;exact⟨o,(kt.2 I (zao rb)).trans e1,e2⟩
  have ed:ps.drop i=p::ps.drop (i+1):=by
   rw[zbr (by omega:i<ps.length)];rw[zJ (by omega:i<ps.length)] at g7;rw[za6 g7]
  rw[ed,zac] at h;have ke:(stored xs p.1 p.2.2).length<=i+1:=by
   unfold stored;split
   ·rw[zC];omega
   ·rw[za7,zb2];omega
  exact ih (i+1) (stored xs p.1 p.2.2) {s with heap:=h3,toks:=s.toks+1} (by omega) (by omega) ke g9 g8 (λ b o h1 h2 e=>(kt.2 b h1).trans (jb b o h1 h2 e)) h
theorem OB {K:Type}[DecidableEq K]{knd:KeyKind prog w K}{Q:Value->Shared->Prop}{l:Addr}{items:Array Value}{n:Nat}{sl:Array (Option Value)}(ps:List (K×Value×Value))(hh:A.handled=none)
 (kr:ps.length=items.size) (hsz:items.size+1<=sizeLine) (hl:s.heap.get? l=some {cls:=.type "list",data:=.seq items n,slots:=sl})
 (hp:∀(j:Nat) p,ps[j]?=some p->knd.is p.1 p.2.1=true/\∃t,items[j]?=some (.ref t)/\IsTup s.heap t #[p.2.1,p.2.2])
 (h:∀h' tk,h'.DictOf knd s.heap.objs.size (ps.foldl (λ acc p=>stored acc p.1 p.2.2) [])->(∀b o,s.heap.get? b=some o->h'.get? b=some o)->Q (.ref s.heap.objs.size) {s with heap:=h',toks:=tk}):
 wpAny (model prog w) A (call (.type "dict") [.ref l]) Q E s:=by
 refine callType_codes (Q₁:=λ obj s₁=>obj=.ref s.heap.objs.size/\s₁={s with heap:=s.heap.push {cls:=.type "dict",data:=.dict #[]} }) PySem.F.kt_called_dict (PySem.F.kt_typeCall_dict_1 _) PySem.F.entry_dict_init
  (kt_code_dict_new _ ⟨rfl,rfl⟩) λ obj s₁ h₁=>?_
 obtain⟨rfl,rfl⟩:=h₁;have hS:(s.heap.push {cls:=.type "dict",data:=.dict #[]}).get? s.heap.objs.size=some {cls:=.type "dict",data:=.dict #[]}:=zZ _ rfl;have ll:l<s.heap.objs.size:=zT hl;have h7:(s.heap.push {cls:=.type "dict",data:=.dict #[]}).get? l=some {cls:=.type "list",data:=.seq items n,slots:=sl}:=zI _ hl;refine⟨⟨_,hS,rfl⟩,PySem.F.args_dict_init_2 _ _,?_⟩;have TD:Looks (model prog w) (s.heap.push {cls:=.type "dict",data:=.dict #[]}) (typeOf (.ref s.heap.objs.size)) (.type "dict"):=(Looks.ld hS).andThen .now;have TL:Looks (model prog w) (s.heap.push {cls:=.type "dict",data:=.dict #[]}) (typeOf (.ref l)) (.type "list"):=(Looks.ld h7).andThen .now;unfold Builtin.«dict.__init__» Dict.selfAndRest Dict.notOrdered;dsimp only;rw[if_pos (by decide)];refine wpAny_bind (wpAny_bind (wpAny_bind (TD.at ?_)));rw[if_neg (by decide)];refine wpAny_pure ?_;unfold Dict.addrOf;refine wpAny_bind (wpAny_pure (wpAny_pure ?_));unfold Dict.updateCommon Dict.updateFrom;dsimp only;refine wpAny_bind (TL.at ?_);rw[if_pos (by decide)];refine wpAny_bind (LF (A:=A.in1.in1) hh h7 λ h2 yg h8=>?_);rw[if_pos (show (none:Option Value).isNone=true from rfl)];refine wpAny_bind (wpAny_rule ?_);have aE:h2.IsList l items:=⟨_,h8 _ _ h7,rfl,n,rfl⟩;have ku:=h8 _ _ hS;refine wpAny_bind (wpAny_pyIter_list aE ?_);refine wpAny_pure ⟨plainId_quiet CK _,?_⟩;have lz:s.heap.objs.size<h2.objs.size:=zT ku;have re:∀b o,s.heap.get? b=some o->(h2.push {cls:=.type "list_iterator",data:=.fields #[.ref l,.int 0 0]}).get? b=some o:=λ b o e=>zI _ (h8 _ _ (zI _ e));have g8:(h2.push {cls:=.type "list_iterator",data:=.fields #[.ref l,.int 0 0]}).DictOf knd s.heap.objs.size []:=
  ⟨_,#[],0,zI _ ku,⟨rfl,rfl,rfl⟩,rfl,(by intro e he;simp at he),.nil,zb5⟩
 have aj:∀b o,s.heap.get? b=some o->b≠s.heap.objs.size/\b≠h2.objs.size:=λ b o e=>by
  have:=zT e;exact⟨zX this,zX (Nat.lt_trans this lz)⟩
 refine Um (A:=A.in1) (knd:=knd) (l:=l) (h0:=s.heap) ps hh (zX (Nat.lt_trans ll lz)) (zX lz) (zX ll) kr hsz ⟨_,hl,rfl,n,rfl⟩ (λ j p hj=>?_) items.size 0 [] _ (by omega) (by omega) (by simp) ⟨_,zZ _ rfl,rfl,rfl⟩ g8 (λ b o h1 gj e=>re b o e) λ h' tk b7 rf=>?_
 ·obtain⟨q1,t,q2,q3⟩:=hp j p hj;obtain⟨o2,e2,_⟩:=id q3;exact⟨q1,t,q2,(aj _ _ e2).1,(aj _ _ e2).2,q3⟩
 ·exact⟨rfl,h h' tk b7 λ b o e=>rf b o (aj _ _ e).1 (aj _ _ e).2 e⟩
end
structure Xi where
 (t:Addr) (κ:Key) (v:V)
def oK (H:Hp)(p:Xi):Prop:=H p.t=some (.tup [kV p.κ,p.v])
noncomputable def iV (ps:List Xi):List (Key×V):=ps.foldl (λ acc p=>putK acc p.κ p.v) []
noncomputable def yD (X:Cx)(te:TE):TE:=λ σ H Q=>te σ H λ x H1=>∃(l:Addr) (ps:List Xi),x=.ref l/\DF X.K H1 l (ps.map λ p=>V.ref p.t)/\(∀p∈ps,oK H1 p)/\ps.length<=1000/\∀r,H1 r=none->Q (.ref r) (upd H1 r (.dK (iV ps)))
theorem Sw:∀ {ps:List Xi}{us:List Value},Vals (ps.map λ p=>V.ref p.t) us->us=ps.map λ p=>zaq p.t
 |[],_,.nil=>rfl
 |p::ps,_,.cons h t=>by
  cases h;rw[zG,<-Sw t]
theorem kF:∀ {ps:List Xi}{qs:List (Key×Value×Value)}{kvs:List (Key×V)}{xs:List (Key×Value)},Paired (λ(p:Xi) (q:Key×Value×Value)=>p.κ=q.1/\RelV p.v q.2.2) ps qs->KV kvs xs->KV (ps.foldl (λ acc p=>putK acc p.κ p.v) kvs) (qs.foldl (λ acc p=>stored acc p.1 p.2.2) xs)
 |[],_,_,_,.nil,h=>h
 |p::ps,_,_,_,.cons (b:=q) hq t,h=>by
  obtain⟨q1,q2,q3⟩:=q;obtain⟨e1,e3⟩:=hq;dsimp only at e1 e3;subst e1;have r:=kF (ps:=ps) t (h.put p.κ e3);exact r
theorem VP:∀(ps:List Xi) (kvs:List (Key×V)),(ps.foldl (λ acc p=>putK acc p.κ p.v) kvs).length<=kvs.length+ps.length
 |[],kvs=>zU _
 |p::ps,kvs=>by
  have h1:=VP ps (putK kvs p.κ p.v);have h2:=Dn kvs p.κ p.v;rw[zac,zO];omega
theorem VQ {h:Heap}{H:Hp}{P:Program}{w:World}(ok:Fc P w H h):∀ {ps:List Xi},(∀p∈ps,oK H p)->∃qs:List (Key×Value×Value),Paired (λ(p:Xi) (q:Key×Value×Value)=>p.κ=q.1/\RelV p.v q.2.2) ps qs/\
 ∀(j:Nat) q,qs[j]?=some q->(AL P w).is q.1 q.2.1=true/\∃t,(ps.map λ p=>zaq p.t)[j]?=some (.ref t)/\IsTup h t #[q.2.1,q.2.2]
 |[],_=>⟨[],.nil,λ j q e=>by simp at e⟩
 |p::ps,ho=>by
  obtain⟨qs,h1,h2⟩:=VQ ok λ p hp=>ho p (zF _ hp);have o1:=ho p zD;obtain⟨_,aa,r,it⟩:=(show B6 P w H h p.t (.tup [kV p.κ,p.v]) from ok p.t _ o1);obtain⟨u,v,rfl,ru,rv⟩:=r.two;refine⟨(p.κ,u,v)::qs,.cons ⟨rfl,rv⟩ h1,λ j q e=>?_⟩;cases j with
  |zero =>
   rw[zb4] at e;cases e;exact⟨Lx ru,p.t,by simp,it⟩
  |succ j =>
   rw[zaa] at e;obtain⟨a1,t,a2,a3⟩:=h2 j q e;exact⟨a1,t,by simpa using a2,a3⟩
section
variable {X:Cx}{WX:Str->Hp->Prop}{c:Bool}{P0:Ds}{P:Addr->Prop}{H:Hp}{σ:St}{ρ:Aa}{a b e:Expr}{f g:Aa->M D}{fn:Aa->M OT}{pos:Pos}{te:TE}
theorem ZL {p:Pos}(hc:X.calm=true)(hg:Gl X "dict")(hm:X.mg "dict" = none)(he:PE X e te)(hv:bootBuiltins "dict" = some (.type "dict"):=by decide +kernel)(hs:starEach [e] X.env=[(false,eval e X.env)]:=by rfl):
 PE X (.Call (.Name "dict" p) [e] [] pos) (yD X te):=by
 intro pins s σ H Q I h;refine wpAny_Call_Name_kw (Ed I hg hm hv ?_);refine zay ?_ hs;rw[hs];refine zbo (Bc (he pins s σ H _ I h) λ u s1 ⟨x,H1,I1,r1,q1⟩=>?_);obtain⟨l,ps,rfl,hq,ho,hlen,q⟩:=q1;cases r1;refine zbw ?_;obtain⟨aa,r',pl,hz⟩:=I1.list hq;have hits:=Sw r';subst hits;obtain⟨⟨rh,lb,lc,h9⟩,n0,o1,o2,o3,o4⟩:=pl;dsimp only at o2 o3 o4;subst o2 o3 o4;obtain⟨qs,h1,h2⟩:=VQ I1.Au ho;refine OB (knd:=AL X.prog X.w) qs (I1.ok.hd hc) (by rw[zL,zC,<-h1.length]) (AB (by rw[zL,zC];omega)) o1 (λ j p hj=>?_) λ h' tk hd kp=>?_
 ·obtain⟨a1,t,a2,a3⟩:=h2 j p hj;exact⟨a1,t,by rw[List.getElem?_toArray];exact a2,a3⟩
 ·have rj:=kF h1 (show KV [] [] from .nil);have b9:s1.heap.objs.size<=s1.heap.objs.size:=zU _;have bP:=I1.Au.fresh b9;have rn:=VP ps [];exact⟨.ref _,_,I1.laid (t':=tk) (o:=.dK (iV ps)) kp b9 ⟨zaz (AB (by unfold iV;simp at rn;omega)),beq_eq_false_iff_ne.mpr (zao (zX I1.big)),_,rj,hd⟩,rfl,q _ bP⟩
noncomputable def iW (d:D):M OT:=match d with
 | .lst xs=>(match Qy xs with|some l=>if l.length<=1000/\(l.all λ kv=>keyOk false kv.1)=true then .ok (.Bd false (jX l).1 ((jX l).2.map .sh)) else .bad|none=>.bad)
 |_=>.bad
theorem VR {K:zy}{H:Hp}{P:Addr->Prop}:∀ {xs:List V}{ds:List D}{l:List (D×D)},Ag K (del H P) xs ds->Qy ds=some l->(l.all λ kv=>keyOk false kv.1)=true->
 ∃ps:List Xi,xs=ps.map (λ p=>V.ref p.t)/\(∀p∈ps,oK H p)/\Paired (λ(p:Xi) (kv:D×D)=>kv.1=Cp p.κ/\Bu K (del H P) p.v kv.2) ps l
 |_,[],l,.nil,e,_=>by cases e;exact⟨[],rfl,λ p hp=>(by cases hp),.nil⟩
 |_,d::ds,l,.cons hd ht,e,hk=>by
  unfold Qy at e;split at e
  ·rename_i bv;cases bv
  ·rename_i k v r bv;cases bv;obtain⟨l',e1,e2⟩:=zc3.mp e;subst e2;rw[zcj,zad] at hk;obtain⟨ps,q1,q2,q3⟩:=VR ht e1 hk.2;have hK:=En hk.1;cases hK with
   |k κ =>
    cases hd with
    | @tup tt _ _ h1 h2 =>
     obtain⟨x,y,rfl,hx,hy⟩:=h2.two;have ex:=hx.fE;subst ex;refine⟨⟨tt,κ,y⟩::ps,by rw[zG,q1],λ p hp=>?_,.cons ⟨rfl,hy⟩ q3⟩;rcases zQ.mp hp with rfl|hp
     ·exact (Am h1).2
     ·exact q2 p hp
  ·cases e
theorem VS {K:zy}{H:Hp}{P:Addr->Prop}:∀ {ps:List Xi}{l:List (D×D)}{kvs:List (Key×V)}{vs:List D},Paired (λ(p:Xi) (kv:D×D)=>kv.1=Cp p.κ/\Bu K (del H P) p.v kv.2) ps l->Ag K (del H P) (kvs.map zb1) vs->
 ∃aJ,l.foldl (λ z kv=>putD z.1 z.2 kv.1 kv.2) (kvs.map (λ kv=>Cp kv.1),vs)=((ps.foldl (λ acc p=>putK acc p.κ p.v) kvs).map (λ kv=>Cp kv.1),aJ)/\Ag K (del H P) ((ps.foldl (λ acc p=>putK acc p.κ p.v) kvs).map zb1) aJ
 |[],_,kvs,vs,.nil,h=>⟨vs,rfl,h⟩
 |p::ps,_,kvs,vs,.cons (b:=kv) hq t,h=>by
  obtain⟨k,d⟩:=kv;obtain⟨e1,e2⟩:=hq;dsimp only at e1 e2;subst e1;have aS:∃aJ,(putD (kvs.map λ kv=>Cp kv.1) vs (Cp p.κ) d)=((putK kvs p.κ p.v).map (λ kv=>Cp kv.1),aJ)/\Ag K (del H P) ((putK kvs p.κ p.v).map zb1) aJ:=by
   unfold putD putK;rw[JH (fk:=Cp) GC];by_cases hh:(kvs.any λ kv=>decide (kv.1=p.κ))=true
   ·rw[if_pos hh,if_pos hh];refine⟨_,by rw[GF (fk:=Cp) GC],?_⟩;rw[<-GD (fk:=Cp) GC];exact GG e2 h
   ·rw[if_neg hh,if_neg hh];refine⟨_,by rw[zag];rfl,?_⟩;rw[zag];exact h.snoc e2
  obtain⟨yh,g1,g2⟩:=aS;obtain⟨rq,g3,g4⟩:=VS t g2;refine⟨rq,?_,g4⟩;rw[zac];dsimp only;rw[g1];exact g3
theorem ZM {p:Pos}(hc:X.calm=true)(hg:Gl X "dict")(hm:X.mg "dict" = none)(he:DE X WX true e f)(hv:bootBuiltins "dict" = some (.type "dict"):=by decide +kernel)(hs:starEach [e] X.env=[(false,eval e X.env)]:=by rfl):
 DN X WX (.Call (.Name "dict" p) [e] [] pos) (λ ρ=>(f ρ).bind iW):=by
 obtain⟨te,e1,e2⟩:=he;refine⟨_,ZL hc hg hm e1 hv hs,λ P0 P σ H Q ρ E h=>?_⟩;refine e2 P0 P σ H _ ρ E ?_;dsimp only at h;cases q:f ρ with
 |bad|ex x=>rw[q] at h;exact h
 |ok d =>
  rw[q] at h;simp only[M.A7] at h;intro v H1 s1 hv;unfold iW at h;split at h
  ·rename_i xs;split at h
   ·rename_i l eb;split at h
    ·rename_i hl;cases hv with
     |lst hs hh =>
      obtain⟨ps,q1,q2,q3⟩:=VR hh eb hl.2;subst q1;obtain⟨aJ,g1,g2⟩:=VS (kvs:=[]) q3 .nil;refine⟨_,ps,rfl,hs.Bg,q2,by rw[q3.length];exact hl.1,λ r hr=>?_⟩;have e3:jX l=((iV ps).map (λ kv=>Cp kv.1),aJ):=g1;rw[e3] at h;have b8:∀a∈[r],H1 a=none:=λ a ha=>by rw[zS.mp ha];exact hr
      exact h _ [r] _ (s1.trans (AK hr _)) (λ a ha=>Cc s1 (b8 a ha)) (by simp) (.dK Aj (g2.mono (BG (AK hr _) b8)).ows)
    ·exact h.elim
   ·exact h.elim
  ·exact h.elim
end
theorem BI.oM {m:Nat}{rs:List Road}{L:List Int}{A:LA}{K:List (Int×Int)}(ok:BI m rs L A K):∀p c,Av (GP A K) p=some c->p.1∈L/\p.2∈L:=λ p c h=>by
 have hm:=NO h;unfold GP at hm;obtain⟨q,hq,e⟩:=za0.mp hm;cases e;have:=ok.XD hq;exact⟨(BR ok.pm).mpr this.2.1,(BR ok.pm).mpr this.2.2⟩
theorem BI.tE {m:Nat}{rs:List Road}{L:List Int}{A:LA}{K:List (Int×Int)}(ok:BI m rs L A K):∀p c,Av (PJ (GP A K)) p=some c->p.1∈L/\p.2∈L:=λ p c h=>by
 rw[show p=(p.1,p.2) from rfl,QP] at h;have:=ok.oM _ _ h;exact⟨this.2,this.1⟩
theorem VT (R:RA):oI (G5 R)=.ok (R.map λ kv=>D.int kv.1):=rfl
theorem VU (R:RA):ZI (G5 R)=.ok (.lst ((R.map λ kv=>cst (some kv.2)).map .sh)):=rfl
theorem oN {a b g i:Int}(ha:0<=a/\a<M5)(hb:0<=b/\b<M5)(hg:0<=g/\g<M5)(h0:0<=i)(h1:i<8):∃l:Option Int,Bf (.lst [.AF,.int 0,.int 0,.int 1,.int a,.int a,.int b,.int g]) (.int i)=.ok (EK l)/\∀z,l=some z->0<=z/\z<M5:=by
 have ht:=U9;have hi:i=0\/i=1\/i=2\/i=3\/i=4\/i=5\/i=6\/i=7:=by omega
 rcases hi with rfl|rfl|rfl|rfl|rfl|rfl|rfl|rfl
 ·exact⟨none,rfl,λ z e=>by cases e⟩
 ·exact⟨some 0,rfl,λ z e=>by cases e;omega⟩
 ·exact⟨some 0,rfl,λ z e=>by cases e;omega⟩
 ·exact⟨some 1,rfl,λ z e=>by cases e;omega⟩
 ·exact⟨some a,rfl,λ z e=>by cases e;exact ha⟩
 ·exact⟨some a,rfl,λ z e=>by cases e;exact ha⟩
 ·exact⟨some b,rfl,λ z e=>by cases e;exact hb⟩
 ·exact⟨some g,rfl,λ z e=>by cases e;exact hg⟩
theorem Uo (cs:List Int):Ir 0 (cs.map D.int)=(zW cs.length).map λ i:Nat=>D.tup [.int (i:Int),.int (cs.getD i 0)]:=by
 apply List.ext_getElem?;intro i;rw[za2];by_cases hi:i<cs.length
 ·obtain⟨e,he⟩:∃e,(Ir 0 (cs.map D.int))[i]?=some e:=⟨_,zJ (by rw[E7,zC];exact hi)⟩;obtain⟨d,hd,rfl⟩:=HB he;rw[he,zc2 hi];rw[za2,zJ hi] at hd;cases hd;rw[zbd,za4,Nat.zero_add,zJ hi];rfl
 ·rw[zbq (by rw[E7,zC];omega),zbq (by rw[zbm];omega)];rfl
theorem Sx (rs:List Road):Wo 16 (.lst (rs.map Ca)) (.lst [])=.ok (.bl (decide (rs≠[]))):=by
 have h1:Pl 16 (.lst (rs.map Ca)):=(TU (n:=1) λ d hd=>by
  obtain⟨r,_,rfl⟩:=za0.mp hd;exact sO r).le (by decide)
 have h2:Pl 16 (.lst ([]:List D)):=(TU (n:=1) λ d hd=>by cases hd).le (by decide);rw[Nf h1 h2];cases rs with
 |nil=>rfl
 |cons r q=>simp[Ax,Cr]
theorem Sy {m:Nat}{ac:List (List Co)}(h:MM m ac){x y:Int}(h0:0<=x)(h1:x<m)(v:Co)(u:Nat):(put2 ac x y v).getD u []=if (u:Int)=x then (ac.getD x.toNat []).set y.toNat v else ac.getD u []:=by
 unfold put2;have hl:x.toNat<ac.length:=by rw[h.len];omega
 by_cases hu:(u:Int)=x
 ·have e:u=x.toNat:=by omega
  rw[if_pos hu,e,za4,zab hl];rfl
 ·rw[if_neg hu,za4,zap (by omega),za4]
theorem iX {R:List Co}{y:Int}(h0:0<=y):R.set y.toNat (atC R y)=R:=by
 apply List.ext_getElem?;intro i;by_cases hi:i=y.toNat
 ·subst hi;by_cases hl:y.toNat<R.length
  ·rw[zab hl,Dl h0 (by omega)]
  ·rw[zbq (by rw[zb3];omega),zbq (by omega)]
 ·rw[zap (zao hi)]
theorem ZN (a:Co):Dq a none=a:=by cases a<;>rfl
theorem ZO (m:Nat):ZJ (.lst ((zW m).map λ _=>OT.lst ((zR m D.AF).map .sh)))=some (AD ((zW m).map λ _=>zR m none)):=by
 have e:((zW m).map λ _=>OT.lst ((zR m D.AF).map .sh))=((zW m).map λ _=>zR m D.AF).map λ ds=>OT.lst (ds.map .sh):=by rw[zam];rfl
 have e2:AD ((zW m).map λ _=>zR m none)=(zW m).map λ _=>zR m D.AF:=by
  unfold AD;rw[zam];refine zc0 λ _ _=>?_;dsimp only [Function.comp];rw[List.map_replicate];rfl
 rw[e,e2];exact PM _
theorem iY (m:Nat):MM m ((zW m).map λ _=>zR m (none:Co)):=⟨by rw[zC,zbm],λ R hR=>by
 obtain⟨_,_,rfl⟩:=za0.mp hR;rw[zcc]⟩
theorem iZ {m u:Nat}(h:u<m):((zW m).map λ _=>zR m (none:Co)).getD u []=zR m none:=by
 rw[za4,za2,zc2 h];rfl
noncomputable def B8 (R1 R2:RA):RA:=R1.filterMap λ kv=>(Av R2 kv.1).map λ c=>(kv.1,(kv.2.1+c.1,kv.2.2+c.2))
theorem Br (R2:RA):∀R1:RA,((B8 R1 R2).map za1).Sublist (R1.map za1)
 |[]=>.slnil
 |kv::r=>by
  unfold B8;rw[zbc];cases Av R2 kv.1 with
  |none=>exact (Br R2 r).cons _
  |some c=>exact (Br R2 r).cons₂ _
theorem Fn {R2:RA}{p:Int}:∀ {R1:RA},(R1.map za1).Nodup->Av (B8 R1 R2) p=Ap (Av R1 p) (Av R2 p)
 |[],_=>by simp only[B8,List.filterMap_nil,Av];rfl
 |(k,v)::r,hn=>by
  rw[zG,zav] at hn;have ih:=Fn (R2:=R2) (p:=p) hn.2;by_cases hk:k=p
  ·subst hk;have n1:Av (B8 r R2) k=none:=by
    cases q:Av (B8 r R2) k with
    |none=>rfl
    |some c=>exact absurd ((Br R2 r).subset (FE.mp (by rw[q];rfl))) hn.1
   have e2:Av ((k,v)::r) k=some v:=by simp[Av]
   rw[e2];unfold B8;rw[zbc];cases q:Av R2 k with
   |none=>exact n1
   |some c=>simp[Av,Ap]
  ·have e2:Av ((k,v)::r) p=Av r p:=by simp[Av,hk]
   rw[e2,<-ih];unfold B8;rw[zbc];cases q:Av R2 k with
   |none=>rfl
   |some c=>simp[Av,hk]
theorem PP (R2:RA):∀R1:RA,((R1.filter λ kv=>(Av R2 kv.1).isSome).map λ kv=>D.tup [.int kv.1,cst (Ap (some kv.2) (Av R2 kv.1))])=(B8 R1 R2).map λ kv=>D.tup [.int kv.1,cst (some kv.2)]
 |[]=>rfl
 |kv::r=>by
  have ih:=PP R2 r;unfold B8 at ih ⊢;rw[zbc];cases q:Av R2 kv.1 with
  |none=>rw[List.filter_cons_of_neg (by rw[q];simp)];exact ih
  |some c=>rw[List.filter_cons_of_pos (by rw[q];rfl),zG,ih,q];rfl
theorem kG:∀(C C0:RA),((C0++C).map za1).Nodup->(C.map λ kv=>(D.int kv.1,cst (some kv.2))).foldl (λ z kv=>putD z.1 z.2 kv.1 kv.2) (C0.map (λ kv=>D.int kv.1),C0.map λ kv=>cst (some kv.2))=((C0++C).map (λ kv=>D.int kv.1),(C0++C).map λ kv=>cst (some kv.2))
 |[],C0,_=>by simp
 |kv::C,C0,hn=>by
  obtain⟨p,c⟩:=kv;rw[zG,zac];dsimp only;have h0:Av C0 p=none:=by
   rw[Sq];intro hm;rw[zag,za9] at hn;exact hn.2.2 p hm p (by simp) rfl
  have e:Dd C0 p c=C0++[(p,c)]:=by unfold Dd;rw[h0];rfl
  rw[Ks (vf:=λ c=>cst (some c)) GN,e,kG C (C0++[(p,c)]) (by rw[zaw];exact hn),zaw];rfl
theorem oO {C:RA}(hn:(C.map za1).Nodup)(hl:C.length<=1000):iW (.lst (C.map λ kv=>.tup [.int kv.1,cst (some kv.2)]))=.ok (Lb C):=by
 unfold iW;dsimp only;rw[QO (λ kv:Int×(Int×Int)=>D.int kv.1) (λ kv=>cst (some kv.2))];dsimp only;have e:=kG C [] hn;rw[if_pos ⟨by rw[zC];exact hl,by rw[List.all_map];exact zcr.mpr λ x _=>rfl⟩];have e2:jX (C.map λ kv=>(D.int kv.1,cst (some kv.2)))=(C.map (λ kv=>D.int kv.1),C.map λ kv=>cst (some kv.2)):=e;rw[e2];rfl
section
variable {Cf:Int->Int->Co}{rk:Int->Nat}
theorem M6.front {s y t:Int}{c d:Int×Int}(hr:rk s<rk y)(ha:Cf s y=some d)(u:M6 Cf rk y t c):M6 Cf rk s t (d.1+c.1,d.2+c.2):=by
 induction u with
 |nil =>
  have:=M6.snoc (M6.nil (Af:=Cf) (rk:=rk) (s:=s)) hr ha;simpa using this
 | @snoc x z c e hu bn ca ih =>
  have:=M6.snoc ih bn ca;rwa[Int.add_assoc,Int.add_assoc] at this
theorem Xy.up {t x:Int}{n:Nat}{c:Int×Int}(h:Xy Cf rk t n x c):M6 (λ a b=>Cf b a) rk x t c:=by
 induction h with
 |nil=>exact .nil
 | @snoc n x y c d hd hr ha ih =>
  have:=M6.front (Cf:=λ a b=>Cf b a) hr ha ih;rwa[Int.add_comm d.1,Int.add_comm d.2] at this
end
theorem jA {a b c d:Int×Int}(h:Oi a c)(k:Oi b d):Oi (a.1+b.1,a.2+b.2) (c.1+d.1,c.2+d.2):=by
 unfold Oi at *;simp only;omega
theorem NS {a:Co}{q:Int×Int}:BY a (some q)↔∃p,a=some p/\Oi p q:=by
 constructor
 ·exact Ub
 ·rintro ⟨p,rfl,h⟩;unfold Oi at h;unfold BY;simp only;omega
theorem ZP {m:Nat}{rs:List Road}{L:List Int}{A:LA}{K:List (Int×Int)}{s g:Int}{R1 R2:RA}(ok:BI m rs L A K)(hs:0<=s/\s<m)(hg:0<=g/\g<m)(h1:LJ L (GP A K) s L.length R1)(h2:LJ L (PJ (GP A K)) g L.length R2){x:Co}(hx:DK rs s g x):
 Ct ((B8 R1 R2).map λ kv=>some kv.2)=x:=by
 have u1:=h1.wV (m:=m) ok.oM;have u2:=h2.wV (m:=m) ok.tE;have ef:(λ x y=>Av (PJ (GP A K)) (x,y))=λ x y=>Av (GP A K) (y,x):=by funext x y;exact QP x y _
 rw[ef] at u2;have mem:∀p c,Av (B8 R1 R2) p=some c->some c∈(B8 R1 R2).map λ kv=>some kv.2:=λ p c h=>za0.mpr ⟨_,NO h,rfl⟩;have walk:∀p c,Av (B8 R1 R2) p=some c->Wk rs s g c:=λ p c h=>by
  rw[Fn h1.nd] at h;cases q1:Av R1 p with
  |none=>rw[q1] at h;cases h
  |some a =>
   cases q2:Av R2 p with
   |none=>rw[q1,q2] at h;cases h
   |some b =>
    rw[q1,q2] at h;cases h;have w1:=((u1.sd p a q1).of_kept ok.kept).walk ok.sS;have w2:=(((u2.sd p b q2).of_kept ok.kept.turn).walk ok.sS.turn).turn;rw[Ic] at w2;exact w1.trans w2
 have cf:((B8 R1 R2).map za1).Nodup:=(Br R2 R1).nodup h1.nd;have walk2:∀v∈(B8 R1 R2).map (λ kv=>some kv.2),BY x v:=λ v hv=>by
  obtain⟨kv,hk,rfl⟩:=za0.mp hv;exact hx.1 _ (walk kv.1 kv.2 (J3 cf hk))
 refine Vy walk2 λ af=>?_;cases x with
 |none=>exact absurd rfl af
 |some c =>
  obtain⟨t,n,c1,c2,g1,g2,e⟩:=Zs ok.sS ok.kept hx;obtain⟨p1,q1,l1⟩:=NS.mp (u1.le g1);obtain⟨p2,q2,l2⟩:=NS.mp (u2.le g2.up);have hf:Av (B8 R1 R2) t=some (p1.1+p2.1,p1.2+p2.2):=by rw[Fn h1.nd,q1,q2];rfl
  exact⟨_,mem t _ hf,NS.mpr ⟨_,rfl,by rw[e];exact jA l1 l2⟩⟩
theorem jB (m:Nat)(rs:List Road):er (.tup [.sh (.int m),.lst ((rs.map Ca).map .sh)])=Ah m rs:=by
 rw[er,RD,Pp,RD,IX,RD];rfl
theorem VW {a b:Int->Co}{c:Co}{m:Nat}{p:Int}:p∈QT a b c m↔(0<=p/\p<m)/\c≠none/\Ap (a p) (b p)=c:=by
 unfold QT;rw[za0];constructor
 ·rintro ⟨i,hi,rfl⟩;rw[zas,zbe] at hi;have:=hi.2;simp only[zad,decide_eq_true_eq] at this;exact⟨⟨by omega,by omega⟩,this⟩
 ·rintro ⟨h1,h2,h3⟩;refine⟨p.toNat,?_,by omega⟩;rw[zas,zbe];refine⟨by omega,?_⟩;simp only[zad,decide_eq_true_eq];rw[show ((p.toNat:Nat):Int)=p by omega];exact⟨h2,h3⟩
theorem NT (a b:Int->Co)(c:Co)(m:Nat):(QT a b c m).Pairwise (· < ·):=by
 unfold QT;rw[List.pairwise_map];refine List.Pairwise.imp (λ h=>?_) ((List.pairwise_lt_range).filter _);omega
theorem tops_btw {R1 R2:RA}{m:Nat}(hn:(R1.map za1).Nodup)(hr:∀k∈R1.map za1,0<=k/\k<(m:Int)):
 Ep (((B8 R1 R2).filter λ kv=>decide (some kv.2=Ct ((B8 R1 R2).map λ kv=>some kv.2))).map za1)=QT (Av R1) (Av R2) (Ct ((B8 R1 R2).map λ kv=>some kv.2)) m:=by
 have cf:=(Br R2 R1).nodup hn;have so:(((B8 R1 R2).filter λ kv=>decide (some kv.2=Ct ((B8 R1 R2).map λ kv=>some kv.2))).map za1).Nodup:=(List.filter_sublist.map _).nodup cf;have mem:∀p:Int,p∈((B8 R1 R2).filter λ kv=>decide (some kv.2=Ct ((B8 R1 R2).map λ kv=>some kv.2))).map za1↔p∈QT (Av R1) (Av R2) (Ct ((B8 R1 R2).map λ kv=>some kv.2)) m:=λ p=>by
  rw[VW,za0];constructor
  ·rintro ⟨kv,hk,rfl⟩;rw[zas,decide_eq_true_eq] at hk;refine⟨hr _ ((Br R2 R1).subset (za0.mpr ⟨kv,hk.1,rfl⟩)),by rw[<-hk.2];simp,?_⟩;rw[<-Fn hn,<-hk.2];exact J3 cf hk.1
  ·rintro ⟨_,h2,h3⟩;rw[<-Fn hn] at h3;cases q:Ct ((B8 R1 R2).map λ kv=>some kv.2) with
   |none=>exact absurd q h2
   |some c =>
    rw[q] at h3;refine⟨(p,c),?_,rfl⟩;rw[zas,decide_eq_true_eq];exact⟨NO h3,rfl⟩
 refine EM ((D9 _).trans ((List.perm_ext_iff_of_nodup so ((NT _ _ _ _).imp λ h e=>by omega)).mpr mem)) (DV _) ((NT _ _ _ _).imp λ h=>by omega)
theorem jC {R1 R2:RA}{m:Nat}(hn:(R1.map za1).Nodup)(hr:∀k∈R1.map za1,0<=k/\k<(m:Int)):
 QT (Av R1) (Av R2) (Ct ((B8 R1 R2).map λ kv=>some kv.2)) m=[]↔Ct ((B8 R1 R2).map λ kv=>some kv.2)=none:=by
 constructor
 ·intro h;rcases Kg ((B8 R1 R2).map λ kv=>some kv.2) with q|q
  ·exact q
  ·obtain⟨kv,hk,e⟩:=za0.mp q;have:kv.1∈QT (Av R1) (Av R2) (Ct ((B8 R1 R2).map λ kv=>some kv.2)) m:=by
    rw[VW];refine⟨hr _ ((Br R2 R1).subset (za0.mpr ⟨kv,hk,rfl⟩)),by rw[<-e];simp,?_⟩;rw[<-Fn hn,<-e];exact J3 ((Br R2 R1).nodup hn) hk
   rw[h] at this;cases this
 ·intro h;rw[h];exact ZE _ _ _
end L2
set_option maxHeartbeats 4000000
namespace cQ
open PySem L2
noncomputable def top (i:Nat):Stmt:=PySem.Challenge.pw_nodeladder_k42_least_sums.main.body.getD i (.Pass ⟨0,0,0,0⟩)
noncomputable abbrev Df:Stmt:=top 7
theorem Ku:Ai ["thing","bound"] ["thing","bound"] (A3 Df):=⟨rfl,rfl,rfl,by decide +kernel,rfl,by decide +kernel,by decide +kernel⟩
noncomputable abbrev FF:Stmt:=top 8
theorem OC:Ai ["thing"] ["thing"] (A3 FF):=⟨rfl,rfl,rfl,by decide +kernel,rfl,by decide +kernel,by decide +kernel⟩
noncomputable abbrev Lf:Stmt:=top 9
theorem Up:Ai ["thing","many"] ["thing","many"] (A3 Lf):=⟨rfl,rfl,rfl,by decide +kernel,rfl,by decide +kernel,by decide +kernel⟩
noncomputable abbrev NU:Stmt:=top 10
theorem Lg:Ai ["thing","many","roads"] ["thing"] (A3 NU):=⟨rfl,rfl,rfl,by decide +kernel,rfl,by decide +kernel,by decide +kernel⟩
noncomputable abbrev Lh:Stmt:=top 11
theorem Uq:Ai ["thing"] ["thing"] (A3 Lh):=⟨rfl,rfl,rfl,by decide +kernel,rfl,by decide +kernel,by decide +kernel⟩
noncomputable abbrev QU:Stmt:=top 12
theorem ZQ:Ai ["one","other"] ["one","other"] (A3 QU):=⟨rfl,rfl,rfl,by decide +kernel,rfl,by decide +kernel,by decide +kernel⟩
noncomputable abbrev QV:Stmt:=top 13
theorem ZR:Ai ["some"] ["some"] (A3 QV):=⟨rfl,rfl,rfl,by decide +kernel,rfl,by decide +kernel,by decide +kernel⟩
noncomputable abbrev GQ:Stmt:=top 14
theorem QW:Ai ["road"] ["road"] (A3 GQ):=⟨rfl,rfl,rfl,by decide +kernel,rfl,by decide +kernel,by decide +kernel⟩
noncomputable abbrev FG:Stmt:=top 16
theorem OD:Ai ["ladder"] ["ladder"] (A3 FG):=⟨rfl,rfl,rfl,by decide +kernel,rfl,by decide +kernel,by decide +kernel⟩
noncomputable abbrev Cn:Stmt:=top 17
theorem GR:Ai ["ladder"] ["ladder"] (A3 Cn):=⟨rfl,rfl,rfl,by decide +kernel,rfl,by decide +kernel,by decide +kernel⟩
noncomputable abbrev Li:Stmt:=top 18
theorem Dg:Ai ["order","costs","place","reached","rank","lower","higher","cost"] ["order","costs","place"] (A3 Li):=⟨rfl,rfl,rfl,by decide +kernel,rfl,by decide +kernel,by decide +kernel⟩
noncomputable abbrev Eu:Stmt:=top 19
theorem M7:Ai ["ladder","start"] ["ladder","start"] (A3 Eu):=⟨rfl,rfl,rfl,by decide +kernel,rfl,by decide +kernel,by decide +kernel⟩
noncomputable abbrev F1:Stmt:=top 20
theorem NV:Ai ["ladder","goal"] ["ladder","goal"] (A3 F1):=⟨rfl,rfl,rfl,by decide +kernel,rfl,by decide +kernel,by decide +kernel⟩
noncomputable abbrev Ew:Stmt:=top 21
theorem Du:Ai ["ladder","start","goal","ahead","behind"] ["ladder","start","goal"] (A3 Ew):=⟨rfl,rfl,rfl,by decide +kernel,rfl,by decide +kernel,by decide +kernel⟩
noncomputable abbrev Ur:Stmt:=top 22
theorem QX:Ai ["ladder","start","goal","sums","cost"] ["ladder","start","goal"] (A3 Ur):=⟨rfl,rfl,rfl,by decide +kernel,rfl,by decide +kernel,by decide +kernel⟩
noncomputable abbrev Ex:Stmt:=top 24
theorem M8:Ai ["ladder","start","goal"] ["ladder","start","goal"] (A3 Ex):=⟨rfl,rfl,rfl,by decide +kernel,rfl,by decide +kernel,by decide +kernel⟩
noncomputable abbrev F2:Stmt:=top 26
theorem NW:Ai ["laid","pair"] ["laid","pair"] (A3 F2):=⟨rfl,rfl,rfl,by decide +kernel,rfl,by decide +kernel,by decide +kernel⟩
noncomputable abbrev ZS:Stmt:=top 27
theorem oP:Ai ["laid","pair","cost","middle"] ["laid","pair","cost","middle"] (A3 ZS):=⟨rfl,rfl,rfl,by decide +kernel,rfl,by decide +kernel,by decide +kernel⟩
noncomputable abbrev J4:Stmt:=top 28
theorem ER:Ai ["laid","place","higher","u","w","cost"] ["laid","place","higher"] (A3 J4):=⟨rfl,rfl,rfl,by decide +kernel,rfl,by decide +kernel,by decide +kernel⟩
noncomputable abbrev GS:Stmt:=top 29
theorem CU:Ai ["net","order","laid","road","rank","place"] ["net","order"] (A3 GS):=⟨rfl,rfl,rfl,by decide +kernel,rfl,by decide +kernel,by decide +kernel⟩
noncomputable abbrev J5:Stmt:=top 31
theorem Sz:Ai ["net","thing"] ["net","thing"] (A3 J5):=⟨rfl,rfl,rfl,by decide +kernel,rfl,by decide +kernel,by decide +kernel⟩
noncomputable abbrev Dv:Stmt:=top 32
theorem Lj:Ai ["net","thing"] ["net","thing"] (A3 Dv):=⟨rfl,rfl,rfl,by decide +kernel,rfl,by decide +kernel,by decide +kernel⟩
noncomputable abbrev FH:Stmt:=top 33
theorem F3:Ai ["net","bows","road"] ["net"] (A3 FH):=⟨rfl,rfl,rfl,by decide +kernel,rfl,by decide +kernel,by decide +kernel⟩
noncomputable abbrev Ey:Stmt:=top 34
theorem BU:Ai ["bows","left","place","ahead","behind","missing","u"] ["bows","left","place"] (A3 Ey):=⟨rfl,rfl,rfl,by decide +kernel,rfl,by decide +kernel,by decide +kernel⟩
noncomputable abbrev J6:Stmt:=top 35
theorem SA:Ai ["bows","left"] ["bows","left"] (A3 J6):=⟨rfl,rfl,rfl,by decide +kernel,rfl,by decide +kernel,by decide +kernel⟩
noncomputable abbrev NX:Stmt:=top 36
theorem Ec:Ai ["net","bows","left","order","place","bow"] ["net"] (A3 NX):=⟨rfl,rfl,rfl,by decide +kernel,rfl,by decide +kernel,by decide +kernel⟩
noncomputable abbrev FI:Stmt:=top 38
theorem BE:Ai ["net","start","costs","changed","road","cost"] ["net","start"] (A3 FI):=⟨rfl,rfl,rfl,by decide +kernel,rfl,by decide +kernel,by decide +kernel⟩
noncomputable abbrev CV:Stmt:=top 40
theorem J7:Ai ["net","order"] ["net","order"] (A3 CV):=⟨rfl,rfl,rfl,by decide +kernel,rfl,by decide +kernel,by decide +kernel⟩
noncomputable abbrev GU:Stmt:=top 41
theorem DY:Ai ["net","laid","kept","u","costs"] ["net","laid"] (A3 GU):=⟨rfl,rfl,rfl,by decide +kernel,rfl,by decide +kernel,by decide +kernel⟩
noncomputable abbrev Aq:Stmt:=inClass (top 42) 0
theorem J8:Ai ["self","net","order"] ["self","net","order"] (A3 Aq):=⟨rfl,rfl,rfl,by decide +kernel,rfl,by decide +kernel,by decide +kernel⟩
noncomputable abbrev Ez:Stmt:=inClass (top 42) 2
theorem M9:Ai ["self"] ["self"] (A3 Ez):=⟨rfl,rfl,rfl,by decide +kernel,rfl,by decide +kernel,by decide +kernel⟩
noncomputable abbrev C8:Stmt:=inClass (top 42) 4
theorem D5:Ai ["self","u","w","many"] ["self","u","w"] (A3 C8):=⟨rfl,rfl,rfl,by decide +kernel,rfl,by decide +kernel,by decide +kernel⟩
noncomputable abbrev F4:Stmt:=inClass (top 42) 5
theorem NY:Ai ["self","u","w"] ["self","u","w"] (A3 F4):=⟨rfl,rfl,rfl,by decide +kernel,rfl,by decide +kernel,by decide +kernel⟩
noncomputable abbrev F5:Stmt:=inClass (top 42) 8
theorem NZ:Ai ["self"] ["self"] (A3 F5):=⟨rfl,rfl,rfl,by decide +kernel,rfl,by decide +kernel,by decide +kernel⟩
noncomputable abbrev F6:Stmt:=top 44
theorem O0:Ai ["_law_script","_law_k"] ["_law_script","_law_k"] (A3 F6):=⟨rfl,rfl,rfl,by decide +kernel,rfl,by decide +kernel,by decide +kernel⟩
noncomputable abbrev GV:Stmt:=top 45
theorem FJ:Ai ["_law_cell","_law_k","_law_number"] ["_law_cell","_law_k"] (A3 GV):=⟨rfl,rfl,rfl,by decide +kernel,rfl,by decide +kernel,by decide +kernel⟩
noncomputable abbrev J9:Stmt:=top 46
theorem CM:Ai ["_law_cell","_law_many","_law_k","_law_x","_law_one","_law_other","_law_length"] ["_law_cell","_law_many","_law_k"] (A3 J9):=⟨rfl,rfl,rfl,by decide +kernel,rfl,by decide +kernel,by decide +kernel⟩
noncomputable abbrev Lk:Stmt:=top 47
theorem Dh:Ai ["_law_script","_law_places","_law_most","_law_cells","_law_x","_law_many","_law_roads"] ["_law_script","_law_places","_law_most"] (A3 Lk):=⟨rfl,rfl,rfl,by decide +kernel,rfl,by decide +kernel,by decide +kernel⟩
noncomputable abbrev GW:Stmt:=top 48
theorem FK:Ai ["_law_cell","_law_many","_law_k","_law_order_here","_law_place"] ["_law_cell","_law_many","_law_k"] (A3 GW):=⟨rfl,rfl,rfl,by decide +kernel,rfl,by decide +kernel,by decide +kernel⟩
noncomputable abbrev Ja:Stmt:=top 49
theorem SD:Ai ["_law_one","_law_other"] ["_law_one","_law_other"] (A3 Ja):=⟨rfl,rfl,rfl,by decide +kernel,rfl,by decide +kernel,by decide +kernel⟩
noncomputable abbrev GX:Stmt:=top 50
theorem QY:Ai ["_law_one","_law_other"] ["_law_one","_law_other"] (A3 GX):=⟨rfl,rfl,rfl,by decide +kernel,rfl,by decide +kernel,by decide +kernel⟩
noncomputable abbrev Ll:Stmt:=top 51
theorem B9:Ai ["_law_net","_law_many","_law_roads","_law_found","_law_k","_law_u","_law_w","_law_length","_law_width","_law_v"] ["_law_net"] (A3 Ll):=⟨rfl,rfl,rfl,by decide +kernel,rfl,by decide +kernel,by decide +kernel⟩
noncomputable abbrev Jb:Stmt:=top 52
theorem LM:Ai ["_law_found","_law_due","_law_part"] ["_law_found","_law_due"] (A3 Jb):=⟨rfl,rfl,rfl,by decide +kernel,rfl,by decide +kernel,by decide +kernel⟩
noncomputable abbrev Jc:Stmt:=top 53
theorem SE:Ai ["_law_net"] ["_law_net"] (A3 Jc):=⟨rfl,rfl,rfl,by decide +kernel,rfl,by decide +kernel,by decide +kernel⟩
noncomputable abbrev G6:Stmt:=top 54
theorem Dw:Ai ["_law_script","_law_net","_law_ladder","_law_costs","_law_ups","_law_downs","_law_start","_law_goal","_law_due","_law_place","_law_found","_law_both"] ["_law_script"] (A3 G6):=⟨rfl,rfl,rfl,by decide +kernel,rfl,by decide +kernel,by decide +kernel⟩
structure Txt (K:zy)(mg:Str->Option Value):Prop where
 Lm:AO K mg "is_whole_below" Df ["thing","bound"]
 QZ:AO K mg "is_measure" FF ["thing"]
 Xj:AO K mg "is_road" Lf ["thing","many"]
 ZT:AO K mg "is_map" NU ["thing"]
 Xk:AO K mg "checked" Lh ["thing"]
 jD:AO K mg "added" QU ["one","other"]
 jE:AO K mg "least" QV ["some"]
 SF:AO K mg "road_cost" GQ ["road"]
 R3:AO K mg "kept_costs" FG ["ladder"]
 Io:AO K mg "kept_costs_turned" Cn ["ladder"]
 Xl:AO K mg "climbed" Li ["order","costs","place"]
 O1:AO K mg "climbed_from" Eu ["ladder","start"]
 OE:AO K mg "climbing_to" F1 ["ladder","goal"]
 O2:AO K mg "sums_at_tops" Ew ["ladder","start","goal"]
 oQ:AO K mg "tops" Ur ["ladder","start","goal"]
 O3:AO K mg "cost_between" Ex ["ladder","start","goal"]
 OF:AO K mg "cost_so_far" F2 ["laid","pair"]
 tF:AO K mg "lay" ZS ["laid","pair","cost","middle"]
 Us:AO K mg "lay_over" J4 ["laid","place","higher"]
 SG:AO K mg "laid_arcs" GS ["net","order"]
 Ut:AO K mg "is_order" J5 ["net","thing"]
 Ma:AO K mg "checked_order" Dv ["net","thing"]
 R4:AO K mg "first_bows" FH ["net"]
 O4:AO K mg "missing_bows" Ey ["bows","left","place"]
 Uu:AO K mg "lightest" J6 ["bows","left"]
 ZU:AO K mg "ranked" NX ["net"]
 R5:AO K mg "costs_from" FI ["net","start"]
 Kv:AO K mg "order_or_ranked" CV ["net","order"]
 SH:AO K mg "kept_arcs" GU ["net","laid"]
 Kw:U5 K mg "Ladder" "Ladder.__init__" Aq ["self","net","order"]
 O5:Pt K "Ladder" "order" "Ladder.order" Ez ["self"]
 GY:Pt K "Ladder" "checked_arc" "Ladder.checked_arc" C8 ["self","u","w"]
 OG:Pt K "Ladder" "cost" "Ladder.cost" F4 ["self","u","w"]
 OH:Pt K "Ladder" "kept" "Ladder.kept" F5 ["self"]
 OI:AO K mg "_law_cell_at" F6 ["_law_script","_law_k"]
 SI:AO K mg "_law_mixed" GV ["_law_cell","_law_k"]
 Uv:AO K mg "_law_road" J9 ["_law_cell","_law_many","_law_k"]
 Xm:AO K mg "_law_map" Lk ["_law_script","_law_places","_law_most"]
 SJ:AO K mg "_law_order" GW ["_law_cell","_law_many","_law_k"]
 Uw:AO K mg "_law_plus" Ja ["_law_one","_law_other"]
 SK:AO K mg "_law_least" GX ["_law_one","_law_other"]
 Xn:AO K mg "_law_all" Ll ["_law_net"]
 Ux:AO K mg "_law_cost" Jb ["_law_found","_law_due"]
 Uy:AO K mg "_law_copy" Jc ["_law_net"]
 wX:AO K mg "law" G6 ["_law_script"]
 kH:mg "all" = none
 ZV:mg "bool" = none
 UA:mg "dict" = none
 GZ:mg "enumerate" = none
 kI:mg "int" = none
 B5:mg "isinstance" = none
 Kx:mg "len" = none
 EA:mg "list" = none
 ZW:mg "min" = none
 BP:mg "range" = none
 SM:mg "sorted" = none
 MQ:mg "tuple" = none
 jF:ClsAt K mg "NoArc"
 jG:ClsAt K mg "NoMap"
 Xo:ClsAt K mg "NoOrder"
 EB:Iw K "Ladder" "kept_ones"
 Dm:Iw K "Ladder" "laid"
 BJ:Iw K "Ladder" "own_map"
 CC:Iw K "Ladder" "own_order"
local macro_rules | `(tactic| simp_arith [$xs,*])=>`(tactic| simp only [sI,sJ,MH,List.set_cons_zero,List.set_cons_succ,M.A7,HG,HF,JG,JX,JY,JZ,Mx,IW,IX,Pp,JO,JP,HI,Vd,Mu,Mv,JQ,fT,HJ,HK,FC,Qu,D8,Qv,JR,JS,HL,Vg,JN,Fi,toCl_list,toCl_listP,toCl_dct,My,K0,K1,K2,K3,Mz,K4,K5,K6,pE,pC,JT,Vh,JU,Vi,JV,JW,Mw,Vj,tW,tX,fW,fX,fY,fZ,gB,gC,toCl_nil,JA,Iv,P9,Qw,HM,MA,MB,K7,K8,MC,MD,ME,MF,MG,K9,Ka,Kb,Kc,HN,HP,HQ,HR,HS,Kd,HU,HV,Vk,Vl,Vm,Vn,Vo,HW,ite_tt,ite_ff,Bool.not_true,Bool.not_false,List.getElem?_cons_zero,List.getElem?_cons_succ,Fl,Km,Kn,fV,iA,fU,iD,iE,iF,MN,QI,QJ,QK,Eb,Ig,MO,QB,iP,VI,QQ,$xs,*])
variable {P:Program}{w:World}{K:zy}{mg:Str->Option Value}{base:Heap}
theorem CW:∃F:List D->M OT,(∀ {P w K mg base},Txt K mg->BV P w K mg base "is_whole_below" 1 2 F)/\(∀(d:D) (n:Int),V3 d=false->F [d,.int n]=.ok (.sh (.bl (KI d n)))):=by
 refine⟨_,λ T=>AI (k:=0) T.Lm Ku _ (λ f B4 A outer s H E hr=>(A5 (Al (B1 (TK (EV (RH _) rfl T.B5 rfl T.kI (by decide +kernel) (A1 0 (pv 0))) (TK (mO (EV (Pa _) rfl T.B5 rfl T.ZV (by decide +kernel) (A1 0 (pv 0)))) (TJ (Wq qI jK A6 (A1 0 (pv 0)) (A1 1 (pv 1)))))))))),?_⟩;intro d n hx;have e0:AG ["thing","bound"] [d,.int n]=[some (.val d),some (.val (.int n))]:=rfl;rw[e0];refine Bl ?_;simp_arith[RG hx];cases d with
 |int j =>
  simp_arith[];unfold KI;by_cases h1:0<=j<;>by_cases h2:j<n<;>simp[h1,h2,EX,Fl]<;>rfl
 |DH x|ins x n d=>cases hx
 |_=>rfl
noncomputable def G7:List D->M OT:=zH CW
theorem AZ:Txt K mg->BV P w K mg base "is_whole_below" 1 2 G7:=(zB CW).1
theorem AQ:∀(d:D) (n:Int),V3 d=false->G7 [d,.int n]=.ok (.sh (.bl (KI d n))):=(zB CW).2
theorem F7:∃F:List D->M OT,(∀ {P w K mg base},Txt K mg->BV P w K mg base "is_measure" 2 1 F)/\(∀d:D,V3 d=false->F [d]=.ok (.sh (.bl (KI d M5)))):=by
 refine⟨_,λ T=>AI (k:=1) T.QZ OC _ (λ f B4 A outer s H E hr=>(A5 (Al (Ad A9.toXCall (AZ T) (hr.mono (by decide)) rfl (A2 (A1 0 (pv 0)) (A2 (Yl A6 A6) A8)) rfl)))),?_⟩;intro d hx;have e0:AG ["thing"] [d]=[some (.val d)]:=rfl;rw[e0];have h1:=AQ d M5 hx;refine Bl ?_;simp_arith[kA,h1];rfl
noncomputable def LN:List D->M OT:=zH F7
theorem Iy:Txt K mg->BV P w K mg base "is_measure" 2 1 LN:=(zB F7).1
theorem Iz:∀d:D,V3 d=false->LN [d]=.ok (.sh (.bl (KI d M5))):=(zB F7).2
theorem Jd:∃F:List D->M OT,(∀ {P w K mg base},Txt K mg->BV P w K mg base "is_road" 3 2 F)/\(∀(d:D) (m:Int),cl 1 d->F [d,.int m]=.ok (.sh (.bl (F0 m d)))):=by
 refine⟨_,λ T=>AI (k:=2) T.Xj Up _ (λ f B4 A outer s H E hr=>(A4 (B7 (DW.dt (DJ (Ci (BO (c:=true) (EV (IM _) rfl T.B5 rfl T.MQ (by decide +kernel) (A1 0 (pv 0))))) (CT (Gx (c:=true) (AU hr 16 (by decide)) (Fx rfl T.Kx (A1 0 (pv 0))) A6)))) (A5 (Al (B1 CQ))) Ay) (A4 (B7 (DW.dt (DJ (Ci (BO (c:=true) (An (Ad A9.toXCall (AZ T) (hr.mono (by decide)) rfl (A2 (Ae (AU hr 16 (by decide)) (A1 0 (pv 0)) A6) (A2 (A1 1 (pv 1)) A8)) rfl)))) (CT (Ci (BO (c:=true) (An (Ad A9.toXCall (AZ T) (hr.mono (by decide)) rfl (A2 (Ae (AU hr 16 (by decide)) (A1 0 (pv 0)) A6) (A2 (A1 1 (pv 1)) A8)) rfl))))))) (A5 (Al (B1 CQ))) Ay) (A4 (B7 (Ly (c:=true) (AU hr 16 (by decide)) (Ae (AU hr 16 (by decide)) (A1 0 (pv 0)) A6) (Ae (AU hr 16 (by decide)) (A1 0 (pv 0)) A6)) (A5 (Al (B1 CQ))) Ay) (A5 (Al (B1 (TK (rL (TH (Ae (AU hr 16 (by decide)) (A1 0 (pv 0)) A6)) (TJ (An (Ad A9.toXCall (Iy T) (hr.mono (by decide)) rfl (A2 (Ae (AU hr 16 (by decide)) (A1 0 (pv 0)) A6) A8) rfl)))) (TJ (An (Ad A9.toXCall (Iy T) (hr.mono (by decide)) rfl (A2 (Ae (AU hr 16 (by decide)) (A1 0 (pv 0)) A6) A8) rfl))))))))))),?_⟩;intro d m hc;have e0:AG ["thing","many"] [d,.int m]=[some (.val d),some (.val (.int m))]:=rfl;rw[e0];have hx:=hc.x;refine Bl ?_;cases d with
 |tup ds =>
  have cA:∀e∈ds,V3 e=false:=λ e he=>(hc.2 ds (.inl rfl) e he).x;rcases ds with _|⟨a,_|⟨b,_|⟨l,_|⟨w,_|⟨z,r⟩⟩⟩⟩⟩
  ·rfl
  ·rfl
  ·rfl
  ·rfl
  ·have i0:Bf (.tup [a,b,l,w]) (.int 0)=.ok a:=rfl;have i1:Bf (.tup [a,b,l,w]) (.int 1)=.ok b:=rfl;have i2:Bf (.tup [a,b,l,w]) (.int 2)=.ok l:=rfl;have i3:Bf (.tup [a,b,l,w]) (.int 3)=.ok w:=rfl;have ha:=AQ a m (cA a (by simp));have hb:=AQ b m (cA b (by simp));have hl:=Iz l (cA l (by simp));have hw:=Iz w (cA w (by simp));apply wp_step
   ·rfl
   unfold F0;dsimp only;cases qa:KI a m with
   |false=>simp_arith[i0,ha,qa,EX];rfl
   |true =>
    cases qb:KI b m with
    |false=>simp_arith[i0,i1,ha,hb,qa,qb,EX];rfl
    |true =>
     apply wp_step
     ·simp_arith[i0,i1,ha,hb,qa,qb,EX];rfl
     cases a with
     |int x =>
      cases b with
      |int y =>
       have he:Ax (.int x) (.int y)=decide (x=y):=by rw[Ax];by_cases h:x=y<;>simp[h]
       rw[he];by_cases cN:x=y
       ·simp_arith[i0,i1,decide_eq_true cN];rfl
       ·apply wp_step
        ·simp_arith[i0,i1,decide_eq_false cN];rfl
        rw[decide_eq_false cN];simp_arith[i2,i3,hl,hw];cases Bj l<;>cases KI l M5<;>cases KI w M5<;>rfl
      |_=>cases qb
     |_=>cases qa
  ·have af:¬ (((a::b::l::w::z::r).length:Nat):Int)=4:=by simp only[zO];omega
   simp_arith[decide_eq_false af];rfl
 |DH x|ins x n d=>cases hx
 |_=>rfl
noncomputable def SN:List D->M OT:=zH Jd
theorem UB:Txt K mg->BV P w K mg base "is_road" 3 2 SN:=(zB Jd).1
theorem UC:∀(d:D) (m:Int),cl 1 d->SN [d,.int m]=.ok (.sh (.bl (F0 m d))):=(zB Jd).2
theorem Ln:∃F:List D->M OT,(∀ {P w K mg base},Txt K mg->BV P w K mg base "is_map" 4 1 F)/\(∀d:D,cl 3 d->F [d]=.ok (.sh (.bl (DL d)))):=by
 refine⟨_,λ T=>AI (k:=3) T.ZT Lg _ (λ f B4 A outer s H E hr=>(A4 (B7 (DW.dt (DJ (Ci (BO (c:=true) (EV (IM _) rfl T.B5 rfl T.MQ (by decide +kernel) (A1 0 (pv 0))))) (CT (Gx (c:=true) (AU hr 16 (by decide)) (Fx rfl T.Kx (A1 0 (pv 0))) A6)))) (A5 (Al (B1 CQ))) Ay) (A4 (AV 1 Lg.nd rfl (Or.inr rfl) (Ae (AU hr 16 (by decide)) (A1 0 (pv 0)) A6)) (A4 (AV 2 Lg.nd rfl (zan rfl) (Ae (AU hr 16 (by decide)) (A1 0 (pv 0)) A6)) (A4 (B7 (DW.dt (DJ (Ci (BO (c:=true) (An (Ad A9.toXCall (AZ T) (hr.mono (by decide)) rfl (A2 (A1 1 (pv 1)) (A2 A6 A8)) rfl)))) (CT (Ly (c:=true) (AU hr 16 (by decide)) (A1 1 (pv 1)) A6)))) (A5 (Al (B1 CQ))) Ay) (A4 (B7 (DW.dt (DJ (Ci (BO (c:=true) (EV (KW _) rfl T.B5 rfl T.EA (by decide +kernel) (A1 2 (pv 2))))) (CT (rK (c:=true) (Fx rfl T.Kx (A1 2 (pv 2))) A6)))) (A5 (Al (B1 CQ))) Ay) (A5 (Al (B1 (YG rfl rfl T.kH (An (DU (NB:=["road","many"]) [none,some 1] rfl (Be (A1 2 (pv 2))) rfl rfl (Bw 0 (by decide) rfl rfl rfl) (λ _ _ _ _=>Dk) (λ _ _ _ _=>(An (Cj (Ad (BH rfl).toXCall (UB T) (hr.mono (by decide)) rfl (A2 (A1 0 (pv 0)) (A2 (A1 1 (pv 1)) A8)) rfl)))))))))))))))),?_⟩;intro d hc;have e0:AG ["thing","many","roads"] [d]=[some (.val d),none,none]:=rfl;rw[e0];have hx:=hc.x;refine Bl ?_;cases d with
 |tup ds =>
  have cA:∀e∈ds,cl 2 e:=λ e he=>hc.2 ds (.inl rfl) e he;rcases ds with _|⟨n,_|⟨r,_|⟨z,t⟩⟩⟩
  ·rfl
  ·rw[X8];rfl
  ·have i0:Bf (.tup [n,r]) (.int 0)=.ok n:=rfl;have i1:Bf (.tup [n,r]) (.int 1)=.ok r:=rfl;have hn:=AQ n 17 (cA n (by simp)).x;have hr:=cA r (by simp);have jc:=hr.x;apply wp_step
   ·rfl
   apply wp_step
   ·simp_arith[i0];rfl
   apply wp_step
   ·simp_arith[i1];rfl
   cases qn:KI n 17 with
   |false =>
    have e1:DL (.tup [n,r])=false:=by
     cases n with
     |int m=>cases r with
      |lst rs=>unfold DL;dsimp only;rw[qn];rfl
      |_=>rfl
     |_=>rfl
    rw[e1];simp_arith[hn,qn,EX];rfl
   |true =>
    cases n with
    |int m =>
     by_cases hm:m=0
     ·have e1:DL (.tup [.int m,r])=false:=by
       cases r with
       |lst rs=>unfold DL;dsimp only;rw[decide_eq_true hm];simp
       |_=>rfl
      rw[e1];simp_arith[hn,qn,EX,decide_eq_true hm];rfl
     ·apply wp_step
      ·simp_arith[hn,qn,EX,decide_eq_false hm];rfl
      cases r with
      |lst rs =>
       by_cases hl:rs.length<=60
       ·have bS:¬ (60:Int)<(rs.length:Int):=by omega
        have aE:rs.length<=1000:=by omega
        apply wp_step
        ·simp_arith[decide_eq_false bS];rfl
        simp_arith[if_pos aE];rw[Pd (λ d=>.bl (F0 m d)) rs]
        ·have e2:(rs.map λ d=>D.bl (F0 m d))=(rs.map (F0 m)).map D.bl:=by rw[zam];rfl
         rw[e2];unfold DL;dsimp only;rw[qn,decide_eq_true hl,decide_eq_false hm];simp_arith[Bool.true_and];rfl
        ·intro d hd;have:=UC d m (hr.2 rs (.inr rfl) d hd);exact⟨_,rfl,rfl,by simp_arith[this]⟩
       ·have bS:(60:Int)<(rs.length:Int):=by omega
        unfold DL;dsimp only;rw[decide_eq_false hl];simp_arith[decide_eq_true bS,Bool.false_and,Bool.and_false];rfl
      |DH x|ins x n d=>cases jc
      |_=>rfl
    |_=>cases qn
  ·have af:¬ (((n::r::z::t).length:Nat):Int)=2:=by simp only[zO];omega
   rw[Ua];simp_arith[decide_eq_false af];rfl
 |DH x|ins x n d=>cases hx
 |_=>rfl
noncomputable def VX:List D->M OT:=zH Ln
theorem Xp:Txt K mg->BV P w K mg base "is_map" 4 1 VX:=(zB Ln).1
theorem PQ:∀d:D,cl 3 d->VX [d]=.ok (.sh (.bl (DL d))):=(zB Ln).2
theorem Je:∃F:List D->M OT,(∀ {P w K mg base},Txt K mg->BV P w K mg base "checked" 5 1 F)/\((∀(m:Nat) (rs:List Road),DL (Ah m rs)=true->rs.length<=60->F [Ah m rs]=.ok (.tup [.sh (.int m),.lst ((rs.map Ca).map .sh)]))/\(∀d:D,cl 3 d->DL d=false->F [d]=.ex "NoMap")):=by
 refine⟨_,λ T=>AI (k:=4) T.Xk Uq _ (λ f B4 A outer s H E hr=>(A4 (B7 (Ci (BO (c:=true) (An (Ad A9.toXCall (Xp T) (hr.mono (by decide)) rfl (A2 (A1 0 (pv 0)) A8) rfl)))) (A5 (L0 (c:=true) T.jG A9 rfl rfl TF)) Ay) (A5 (Al (TY (Fj (B1 (Ae (AU hr 16 (by decide)) (A1 0 (pv 0)) A6)) (Fj (DU (NB:=["road"]) [none] rfl (Be (Ae (AU hr 16 (by decide)) (A1 0 (pv 0)) A6)) rfl rfl (Bw 0 (by decide) rfl rfl rfl) (λ _ _ _ _=>Dk) (λ _ _ _ _=>(Yq rfl T.MQ (A1 0 (pv 0))))) DQ))))))),?_⟩;refine⟨λ m rs hm hl=>?_,λ d hc ho=>?_⟩
 ·have e0:AG ["thing"] [Ah m rs]=[some (.val (Ah m rs))]:=rfl;rw[e0];have h1:=PQ (Ah m rs) (Zo (Ib NL (Ib (nR nU) Zp)));rw[hm] at h1;have n0:Bf (Ah m rs) (.int 0)=.ok (.int m):=rfl;have n1:Bf (Ah m rs) (.int 1)=.ok (.lst (rs.map Ca)):=rfl;have aE:(rs.map Ca).length<=1000:=by rw[zC];omega
  refine Bl ?_;apply wp_step
  ·simp_arith[h1,EX];rfl
  simp_arith[n0,n1,if_pos aE];rw[CB Ca (λ r hr=>⟨_,rfl,rfl,rfl⟩)];simp_arith[];exact⟨_,rfl,rfl⟩
 ·have e0:AG ["thing"] [d]=[some (.val d)]:=rfl;rw[e0];have h1:=PQ d hc;rw[ho] at h1;simp_arith[h1,EX];rfl
noncomputable def O6:List D->M OT:=zH Je
theorem UE:Txt K mg->BV P w K mg base "checked" 5 1 O6:=(zB Je).1
theorem UG:(∀(m:Nat) (rs:List Road),DL (Ah m rs)=true->rs.length<=60->O6 [Ah m rs]=.ok (.tup [.sh (.int m),.lst ((rs.map Ca).map .sh)]))/\(∀d:D,cl 3 d->DL d=false->O6 [d]=.ex "NoMap"):=(zB Je).2
theorem O7:∃F:List D->M OT,(∀ {P w K mg base},Txt K mg->BV P w K mg base "added" 1 2 F)/\(∀a b:Co,F [cst a,cst b]=.ok (.sh (cst (Ap a b)))):=by
 refine⟨_,λ T=>AI (k:=0) T.jD ZQ _ (λ f B4 A outer s H E hr=>(A4 (B7 (DW.dt (DJ (Gy (c:=true) (A1 0 (pv 0))) (CT (Gy (c:=true) (A1 1 (pv 1)))))) (A5 (Al (B1 Fu))) Ay) (A5 (Al (B1 (AR (A2 (BX (Ae (AU hr 16 (by decide)) (A1 0 (pv 0)) A6) (Ae (AU hr 16 (by decide)) (A1 1 (pv 1)) A6)) (A2 (BX (Ae (AU hr 16 (by decide)) (A1 0 (pv 0)) A6) (Ae (AU hr 16 (by decide)) (A1 1 (pv 1)) A6)) A8)))))))),?_⟩;intro a b;rcases a with _|⟨a1,a2⟩<;>rcases b with _|⟨b1,b2⟩<;>rfl
noncomputable def ZX:List D->M OT:=zH O7
theorem Ky:Txt K mg->BV P w K mg base "added" 1 2 ZX:=(zB O7).1
theorem Kz:∀a b:Co,ZX [cst a,cst b]=.ok (.sh (cst (Ap a b))):=(zB O7).2
theorem O8:∃F:List D->M OT,(∀ {P w K mg base},Txt K mg->BV P w K mg base "least" 1 1 F)/\(∀cs:List Co,cs.length<=1000->F [.lst (cs.map cst)]=.ok (.sh (cst (Ct cs)))):=by
 refine⟨_,λ T=>AI (k:=0) T.jE ZR _ (λ f B4 A outer s H E hr=>(A5 (Al (B1 (eO rfl (AU hr 1 (by decide)) rfl T.ZW (An (DU (NB:=["cost"]) [none] rfl (Be (A1 0 (pv 0))) rfl rfl (Bw 0 (by decide) rfl rfl rfl) (λ _ _ _ _=>Fy (HA (c:=true) (A1 0 (pv 0)))) (λ _ _ _ _=>(A1 0 (pv 0))))) Fu))))),?_⟩;intro cs hc;have e0:∀x:D,AG ["some"] [x]=[some (.val x)]:=λ x=>rfl;rw[e0];refine Bl ?_;have hl:(cs.map cst).length<=1000:=by rw[zC];exact hc
 have w6:=Zf cs;have yu:=gU cs;simp_arith[if_pos hl];rw[LG];simp_arith[yu];rfl
noncomputable def Lo:List D->M OT:=zH O8
theorem KA:Txt K mg->BV P w K mg base "least" 1 1 Lo:=(zB O8).1
theorem KC:∀cs:List Co,cs.length<=1000->Lo [.lst (cs.map cst)]=.ok (.sh (cst (Ct cs))):=(zB O8).2
theorem FL:∃F:List D->M OT,(∀ {P w K mg base},Txt K mg->BV P w K mg base "road_cost" 1 1 F)/\(∀r:Road,F [Ca r]=.ok (.sh (cst (Cq r)))):=by
 refine⟨_,λ T=>AI (k:=0) T.SF QW _ (λ f B4 A outer s H E hr=>(A4 (B7 (Gy (c:=true) (Ae (AU hr 16 (by decide)) (A1 0 (pv 0)) A6)) (A5 (Al (B1 Fu))) Ay) (A5 (Al (B1 (AR (A2 (Ae (AU hr 16 (by decide)) (A1 0 (pv 0)) A6) (A2 A6 A8)))))))),?_⟩;intro r;obtain⟨a,b,l,w⟩:=r;cases l<;>rfl
noncomputable def O9:List D->M OT:=zH FL
theorem FN:Txt K mg->BV P w K mg base "road_cost" 1 1 O9:=(zB FL).1
theorem FO:∀r:Road,O9 [Ca r]=.ok (.sh (cst (Cq r))):=(zB FL).2
theorem BZ:∃F:List D->M OT,(∀ {P w K mg base},Txt K mg->IY P w K mg base "Ladder" "checked_arc" 2 3 F)/\(∀(m:Nat) (rs:List Road) (L:List Int) (A:LA) (K:List (Int×Int)) (u w:Int),0<=u->u<m->0<=w->w<m->(Av A (u,w)).isSome=true->F [AJ m rs L A K,.int u,.int w]=.ok (.sh (pD (u,w)))):=by
 refine⟨_,λ T=>MI (k:=1) T.GY D5 _ (λ f B4 A outer s H E hr=>(A4 (AV 3 D5.nd rfl (zan rfl) (Ae (AU hr 16 (by decide)) (EY ["Ladder"] (Bx T.BJ C2) (A1 0 (pv 0))) A6)) (A4 (B7 (DW.dt (DJ (Ci (BO (c:=true) (An (Ad A9.toXCall (AZ T) (hr.mono (by decide)) rfl (A2 (A1 1 (pv 1)) (A2 (A1 3 (pv 3)) A8)) rfl)))) (DJ (Ci (BO (c:=true) (An (Ad A9.toXCall (AZ T) (hr.mono (by decide)) rfl (A2 (A1 2 (pv 2)) (A2 (A1 3 (pv 3)) A8)) rfl)))) (CT (Mr (c:=true) (AU hr 16 (by decide)) (AR (A2 (A1 1 (pv 1)) (A2 (A1 2 (pv 2)) A8))) (EY ["Ladder"] (Bx T.Dm C2) (A1 0 (pv 0)))))))) (A5 (L0 (c:=true) T.jF A9 rfl rfl TF)) Ay) (A5 (Al (B1 (AR (A2 (A1 1 (pv 1)) (A2 (A1 2 (pv 2)) A8))))))))),?_⟩;intro m rs L A K u w u0 u1 w0 w1 hf;have e0:AG ["self","u","w","many"] [AJ m rs L A K,.int u,.int w]=[some (.val (AJ m rs L A K)),some (.val (.int u)),some (.val (.int w)),none]:=rfl;rw[e0];refine Bl ?_;have f1:Oz ["Ladder"] "own_map" (AJ m rs L A K)=.ok (Ah m rs):=rfl;have f2:Oz ["Ladder"] "laid" (AJ m rs L A K)=.ok (LH A):=rfl;have n0:Bf (Ah m rs) (.int 0)=.ok (.int m):=rfl;have h1:=AQ (.int u) m rfl;have h2:=AQ (.int w) m rfl;have g1:KI (.int u) m=true:=by simp[KI,u0,u1]
 have g2:KI (.int w) m=true:=by simp[KI,w0,w1]
 rw[g1] at h1;rw[g2] at h2;have hp:D.tup [.int u,.int w]=pD (u,w):=rfl;have hm:=QL A (u,w) true;rw[hf] at hm;apply wp_step
 ·simp_arith[f1,n0];rfl
 apply wp_step
 ·simp_arith[h1,h2,f2,hp,hm,EX];rfl
 rfl
noncomputable def Bb:List D->M OT:=zH BZ
theorem Gk:Txt K mg->IY P w K mg base "Ladder" "checked_arc" 2 3 Bb:=(zB BZ).1
theorem Gm:∀(m:Nat) (rs:List Road) (L:List Int) (A:LA) (K:List (Int×Int)) (u w:Int),0<=u->u<m->0<=w->w<m->(Av A (u,w)).isSome=true->Bb [AJ m rs L A K,.int u,.int w]=.ok (.sh (pD (u,w))):=(zB BZ).2
theorem EC:∃F:List D->M OT,(∀ {P w K mg base},Txt K mg->IY P w K mg base "Ladder" "cost" 3 3 F)/\(∀(m:Nat) (rs:List Road) (L:List Int) (A:LA) (K:List (Int×Int)) (u w:Int) (c:Int×Int),Fo m A->Ao A (u,w)=some c->F [AJ m rs L A K,.int u,.int w]=.ok (.sh (cst (some c)))):=by
 refine⟨_,λ T=>MI (k:=2) T.OG NY _ (λ f B4 A outer s H E hr=>(A5 (Al (B1 (Ae (AU hr 16 (by decide)) (Ae (AU hr 16 (by decide)) (EY ["Ladder"] (Bx T.Dm C2) (A1 0 (pv 0))) (An (Qx (k:=2) [("Ladder",Bb)] A9.toXCall (Er (by decide) (Gk T) FD) (hr.mono (by decide)) (A1 0 (pv 0)) (A2 (A1 1 (pv 1)) (A2 (A1 2 (pv 2)) A8)) rfl))) A6))))),?_⟩;intro m rs L A K u w c hA hc;have e0:AG ["self","u","w"] [AJ m rs L A K,.int u,.int w]=[some (.val (AJ m rs L A K)),some (.val (.int u)),some (.val (.int w))]:=rfl;rw[e0];refine Bl ?_;have f2:Oz ["Ladder"] "laid" (AJ m rs L A K)=.ok (LH A):=rfl;have hk:=hA.rg _ (Fm hc);obtain⟨v,hv⟩:∃v,Av A (u,w)=some (c,v):=by
  unfold Ao at hc;cases q:Av A (u,w) with
  |none=>rw[q] at hc;cases hc
  |some z=>rw[q] at hc;obtain⟨z1,z2⟩:=z;cases hc;exact⟨z2,rfl⟩
 have h1:=Gm m rs L A K u w hk.2.1.1 hk.2.1.2 hk.2.2.1 hk.2.2.2 (by rw[hv];rfl);have hi:=QM hv;have h0:Bf (Xa (c,v)) (.int 0)=.ok (cst (some c)):=rfl;have hs:IZ [("Ladder",Bb)] "checked_arc" (AJ m rs L A K)=.ok Bb:=rfl;simp_arith[f2,hs,h1,hi,h0];rfl
noncomputable def Bz:List D->M OT:=zH EC
theorem H9:Txt K mg->IY P w K mg base "Ladder" "cost" 3 3 Bz:=(zB EC).1
theorem Hc:∀(m:Nat) (rs:List Road) (L:List Int) (A:LA) (K:List (Int×Int)) (u w:Int) (c:Int×Int),Fo m A->Ao A (u,w)=some c->Bz [AJ m rs L A K,.int u,.int w]=.ok (.sh (cst (some c))):=(zB EC).2
theorem ED:∃F:List D->M OT,(∀ {P w K mg base},Txt K mg->IY P w K mg base "Ladder" "kept" 1 1 F)/\(∀(m:Nat) (rs:List Road) (L:List Int) (A:LA) (K:List (Int×Int)),F [AJ m rs L A K]=.ok (.lst ((K.map pD).map .sh))):=by
 refine⟨_,λ T=>MI (k:=0) T.OH NZ _ (λ f B4 A outer s H E hr=>(A5 (Al (Mp rfl T.EA (EY ["Ladder"] (Bx T.EB C2) (A1 0 (pv 0))))))),?_⟩;intro m rs L A K;rfl
noncomputable def BA:List D->M OT:=zH ED
theorem Hd:Txt K mg->IY P w K mg base "Ladder" "kept" 1 1 BA:=(zB ED).1
theorem He:∀(m:Nat) (rs:List Road) (L:List Int) (A:LA) (K:List (Int×Int)),BA [AJ m rs L A K]=.ok (.lst ((K.map pD).map .sh)):=(zB ED).2
theorem F8:∃F:List D->M OT,(∀ {P w K mg base},Txt K mg->BV P w K mg base "kept_costs" 4 1 F)/\(∀(m:Nat) (rs:List Road) (L:List Int) (A:LA) (K:List (Int×Int)),BI m rs L A K->F [AJ m rs L A K]=.ok (pG (GP A K))):=by
 refine⟨_,λ T=>AI (k:=3) T.R3 OD _ (λ f B4 A outer s H E hr=>(A5 (Al (S7 rfl (AU hr 16 (by decide)) rfl T.UA (An (DU (NB:=["u","w","ladder"]) [none,none,some 0] rfl (Be (An (Kf (k:=1) [("Ladder",BA)] A9.toXCall (Er (by decide) (Hd T) FD) (hr.mono (by decide)) (A1 0 (pv 0))))) rfl rfl (Qt (n:=2) rfl (Ea 0 (by decide) rfl rfl rfl (Ea 1 (by decide) rfl rfl rfl Nv))) (λ _ _ _ _=>Dk) (λ _ _ _ _=>(AR (A2 (AR (A2 (A1 0 (pv 0)) (A2 (A1 1 (pv 1)) A8))) (A2 (An (Cj (Qx (k:=3) [("Ladder",Bz)] (BH rfl).toXCall (Er (by decide) (H9 T) FD) (hr.mono (by decide)) (A1 2 (pv 2)) (A2 (A1 0 (pv 0)) (A2 (A1 1 (pv 1)) A8)) rfl))) A8)))))))))),?_⟩;intro m rs L A K ok;have e0:AG ["ladder"] [AJ m rs L A K]=[some (.val (AJ m rs L A K))]:=rfl;rw[e0];refine Bl ?_;have hs:IZ [("Ladder",BA)] "kept" (AJ m rs L A K)=.ok BA:=rfl;have aZ:IZ [("Ladder",Bz)] "cost" (AJ m rs L A K)=.ok Bz:=rfl;have hk:=He m rs L A K;have hl:(K.map pD).length<=1000:=by rw[zC];have:=ok.kl;omega
 have hn:((GP A K).map za1).Nodup:=by rw[NQ];exact ok.kn
 have hd:=ZA (C:=GP A K) hn (by simp only[GP,zC];have:=ok.kl;omega);simp_arith[hs,hk,if_pos hl];rw[CB (λ p=>D.tup [pD p,cst (some ((Ao A p).getD (0,0)))]) (λ p hp=>⟨_,rfl,rfl,by
  obtain⟨c,hc,_⟩:=(ok.km p).mp hp;have h1:=Hc m rs L A K p.1 p.2 c ok.vS hc;simp_arith[aZ,h1];rw[hc];rfl⟩)]
 have e1:(K.map λ p=>D.tup [pD p,cst (some ((Ao A p).getD (0,0)))])=(GP A K).map λ kv=>D.tup [pD kv.1,cst (some kv.2)]:=by
  simp only[PJ,GP,zam];rfl
 rw[e1];simp_arith[hd];exact⟨_,rfl,rfl⟩
noncomputable def LO:List D->M OT:=zH F8
theorem OJ:Txt K mg->BV P w K mg base "kept_costs" 4 1 LO:=(zB F8).1
theorem OK:∀(m:Nat) (rs:List Road) (L:List Int) (A:LA) (K:List (Int×Int)),BI m rs L A K->LO [AJ m rs L A K]=.ok (pG (GP A K)):=(zB F8).2
theorem C9:∃F:List D->M OT,(∀ {P w K mg base},Txt K mg->BV P w K mg base "kept_costs_turned" 4 1 F)/\(∀(m:Nat) (rs:List Road) (L:List Int) (A:LA) (K:List (Int×Int)),BI m rs L A K->F [AJ m rs L A K]=.ok (pG (PJ (GP A K)))):=by
 refine⟨_,λ T=>AI (k:=3) T.Io GR _ (λ f B4 A outer s H E hr=>(A5 (Al (S7 rfl (AU hr 16 (by decide)) rfl T.UA (An (DU (NB:=["u","w","ladder"]) [none,none,some 0] rfl (Be (An (Kf (k:=1) [("Ladder",BA)] A9.toXCall (Er (by decide) (Hd T) FD) (hr.mono (by decide)) (A1 0 (pv 0))))) rfl rfl (Qt (n:=2) rfl (Ea 0 (by decide) rfl rfl rfl (Ea 1 (by decide) rfl rfl rfl Nv))) (λ _ _ _ _=>Dk) (λ _ _ _ _=>(AR (A2 (AR (A2 (A1 1 (pv 1)) (A2 (A1 0 (pv 0)) A8))) (A2 (An (Cj (Qx (k:=3) [("Ladder",Bz)] (BH rfl).toXCall (Er (by decide) (H9 T) FD) (hr.mono (by decide)) (A1 2 (pv 2)) (A2 (A1 0 (pv 0)) (A2 (A1 1 (pv 1)) A8)) rfl))) A8)))))))))),?_⟩;intro m rs L A K ok;have e0:AG ["ladder"] [AJ m rs L A K]=[some (.val (AJ m rs L A K))]:=rfl;rw[e0];refine Bl ?_;have hs:IZ [("Ladder",BA)] "kept" (AJ m rs L A K)=.ok BA:=rfl;have aZ:IZ [("Ladder",Bz)] "cost" (AJ m rs L A K)=.ok Bz:=rfl;have hk:=He m rs L A K;have hl:(K.map pD).length<=1000:=by rw[zC];have:=ok.kl;omega
 have hn:((GP A K).map za1).Nodup:=by rw[NQ];exact ok.kn
 have hd:=ZA (C:=PJ (GP A K)) (Xd hn) (by unfold PJ;simp only[GP,zC];have:=ok.kl;omega);simp_arith[hs,hk,if_pos hl];rw[CB (λ p=>D.tup [pD (p.2,p.1),cst (some ((Ao A p).getD (0,0)))]) (λ p hp=>⟨_,rfl,rfl,by
  obtain⟨c,hc,_⟩:=(ok.km p).mp hp;have h1:=Hc m rs L A K p.1 p.2 c ok.vS hc;simp_arith[aZ,h1];rw[hc];rfl⟩)]
 have e1:(K.map λ p=>D.tup [pD (p.2,p.1),cst (some ((Ao A p).getD (0,0)))])=(PJ (GP A K)).map λ kv=>D.tup [pD kv.1,cst (some kv.2)]:=by
  simp only[PJ,GP,zam];rfl
 rw[e1];simp_arith[hd];exact⟨_,rfl,rfl⟩
noncomputable def EE:List D->M OT:=zH C9
theorem Hf:Txt K mg->BV P w K mg base "kept_costs_turned" 4 1 EE:=(zB C9).1
theorem Hg:∀(m:Nat) (rs:List Road) (L:List Int) (A:LA) (K:List (Int×Int)),BI m rs L A K->EE [AJ m rs L A K]=.ok (pG (PJ (GP A K))):=(zB C9).2
theorem Jf:∃F:List D->M OT,(∀ {P w K mg base},Txt K mg->BV P w K mg base "climbed" 2 3 F)/\(∀(m:Nat) (L:List Int) (C:CA) (s:Int),m<=20->L.Perm (B2 m)->s∈L->(∀p c,Av C p=some c->p.1∈L/\p.2∈L)->∃R:RA,F [.lst (L.map D.int),VH C,.int s]=.ok (Lb R)/\LJ L C s L.length R):=by
 refine⟨_,λ T=>AI (k:=1) T.Xl Dg _ (λ f B4 A outer s H E hr=>(A4 (Cw 3 Dg.nd rfl (zan rfl) (Zc (A1 2 (pv 2)) (AR (A2 A6 (A2 A6 A8))))) (A4 (BC A9.toXCall.own rfl (Qi rfl T.GZ (A1 0 (pv 0))) (Qh (n:=2) rfl (Cs (AN 4 Dg.nd rfl (zan rfl)) (Cs (AN 5 Dg.nd rfl (zan rfl)) Mj))) (A5 (B7 (L6 (L7 (c:=true) (AU hr 16 (by decide)) (A1 5 (pv 5)) (A1 3 (pv 3)))) (A5 (BC A9.toXCall.own rfl (Be (An (Nu (A1 0 (pv 0)) (Mi (BX (A1 4 (pv 4)) A6)) V4))) (AN 6 Dg.nd rfl (zan rfl)) (A5 (B7 (L7 (c:=true) (AU hr 16 (by decide)) (AR (A2 (A1 5 (pv 5)) (A2 (A1 6 (pv 6)) A8))) (A1 1 (pv 1))) (A4 (AV 7 Dg.nd rfl (zan rfl) (An (FA (Ad A9.toXCall (Ky T) (hr.mono (by decide)) rfl (A2 (Ae (AU hr 16 (by decide)) (A1 3 (pv 3)) (A1 5 (pv 5))) (A2 (Ae (AU hr 16 (by decide)) (A1 1 (pv 1)) (AR (A2 (A1 5 (pv 5)) (A2 (A1 6 (pv 6)) A8)))) A8)) rfl)))) (A5 (Mt (AU hr 16 (by decide)) (C1 3 (pv 3)) (A1 6 (pv 6)) (An (FA (Ad A9.toXCall (KA T) (hr.mono (by decide)) rfl (A2 (IK (A2 (NC (AU hr 16 (by decide)) (A1 3 (pv 3)) (A1 6 (pv 6))) (A2 (A1 7 (pv 7)) A8))) A8) rfl)))))) Ay)))) Ay))) (A5 (DR 3 (pv 3)))))),?_⟩;intro m L C s hm hL hs hC;have hn:=NK hL;have hlen:=GL hL;have e0:AG ["order","costs","place","reached","rank","lower","higher","cost"] [.lst (L.map D.int),VH C,.int s]=[some (.val (.lst (L.map D.int))),some (.val (VH C)),some (.val (.int s)),none,none,none,none,none]:=rfl;rw[e0];refine (λ h:∃t,_/\∃R:RA,t=Lb R/\LJ L C s L.length R=>by
  obtain⟨t,h1,R,rfl,h2⟩:=h;exact⟨R,h1,h2⟩) (Nw ?_)
 refine wp_step (ρ':=[some (.val (.lst (L.map D.int))),some (.val (VH C)),some (.val (.int s)),some (.ow (.tree none (Lb [(s,(0,0))]))),none,none,none,none]) (by rfl) ?_;refine C4 (I:=λ ρ=>∃(R:RA) (s4 s5 s6 s7:Option Cl),ρ=[some (.val (.lst (L.map D.int))),some (.val (VH C)),some (.val (.int s)),some (.ow (.tree none (Lb R))),s4,s5,s6,s7]/\LJ L C s L.length R) ?_ ?_
 ·simp_arith[];refine BD (λ i ρ=>i<=L.length/\∃(R:RA) (s4 s5 s6 s7:Option Cl),ρ=[some (.val (.lst (L.map D.int))),some (.val (VH C)),some (.val (.int s)),some (.ow (.tree none (Lb R))),s4,s5,s6,s7]/\LJ L C s i R) ⟨zak _,_,none,none,none,none,rfl,LJ.start hs⟩ ?_ ?_
  ·rintro i d ρ hd ⟨hi,R,s4,s5,s6,s7,rfl,hR⟩;obtain⟨d',aI,rfl⟩:=HB hd;obtain⟨x,hx,rfl⟩:=C6 aI;have aj:=(zY.mp hx).1;rw[Nat.zero_add];refine⟨_,rfl,?_⟩;have dq:=Zy R x false;have jc:=Uk hn hx;cases q:Av R x with
   |none =>
    rw[q] at dq;refine Bm (ρ':=_) (by simp_arith[dq];rfl) ⟨aj,R,_,_,_,_,rfl,hR.skip hx hn q⟩
   |some c0 =>
    rw[q] at dq;have sl:fM (some ((i:Int)+1)) none (.lst (L.map D.int))=.ok (.lst (((L.drop (i+1)).map D.int).map .sh)):=by rw[List.map_drop];exact S0 _ (i+1)
    simp_arith[dq,sl,if_true,Option.isSome_some,za8,if_false];refine BD (λ j ρ=>j<=(L.drop (i+1)).length/\∃(R':RA) (s6 s7:Option Cl),ρ=[some (.val (.lst (L.map D.int))),some (.val (VH C)),some (.val (.int s)),some (.ow (.tree none (Lb R'))),some (.val (.int i)),some (.val (.int x)),s6,s7]/\kE L C s i x c0 ((L.drop (i+1)).take j) R R') ⟨zak _,R,s6,s7,rfl,hR.nd,hR.rg,hR.sd,λ y=>C7 _,λ y _=>rfl,λ y hy=>by rw[List.take_zero] at hy;cases hy⟩ ?_ ?_
    ·rintro j d ρ hd ⟨hj,R',s6,s7,rfl,hI⟩;obtain⟨y,hy,rfl⟩:=C6 hd;have lh:=(zY.mp hy).1;have w9:=zM hy;have yv:y∈L:=List.mem_of_mem_drop w9;have yw:i<G4 L y:=iN hn w9;have et:(L.drop (i+1)).take (j+1)=(L.drop (i+1)).take j++[y]:=by rw[zb7,hy];rfl
     refine⟨_,rfl,?_⟩;rw[et];have t1:∀a b:Int,D.tup [.int a,.int b]=pD (a,b):=λ a b=>rfl;have m9:=nZ C (x,y) false;cases q2:Av C (x,y) with
     |none =>
      rw[q2] at m9;refine Bm (ρ':=_) (by simp_arith[t1,m9];rfl) ⟨lh,R',_,_,rfl,hI.skip q2⟩
     |some dd =>
      rw[q2] at m9;have ax:Av R' x=some c0:=by rw[hI.sm x (by omega)];exact q
      have i1:=QN ax;have i2:=oA q2;have h1:=Kz (some c0) (some dd);have g1:=Uh R' y;obtain⟨v,hv⟩:∃v,Dq (Av R' y) (some (c0.1+dd.1,c0.2+dd.2))=some v:=by
       cases Av R' y with
       |none|some z=>exact⟨_,rfl⟩
      have h2:Lo [.lst [cst (Av R' y),cst (some (c0.1+dd.1,c0.2+dd.2))]]=.ok (.sh (cst (Dq (Av R' y) (some (c0.1+dd.1,c0.2+dd.2))))):=KC [Av R' y,some (c0.1+dd.1,c0.2+dd.2)] (by simp);rw[hv] at h2;have bI:=hI.put yv yw jc q q2 hv;have hl:(R'.map λ kv=>D.int kv.1).length<1000:=by
       have:=Ia hI.nd hI.rg;rw[zC] at this ⊢;omega
      have jd:∀z:Int,keyOk false (.int z)=true:=λ z=>rfl;have ha:Ap (some c0) (some dd)=some (c0.1+dd.1,c0.2+dd.2):=rfl;rw[ha] at h1;simp_arith[t1,m9,if_true,Option.isSome_some,za8,if_false];apply wp_step
      ·simp_arith[t1,i1,i2,h1];rfl
      refine Bm (ρ':=[some (.val (.lst (L.map D.int))),some (.val (VH C)),some (.val (.int s)),some (.ow (.tree none (Lb (Dd R' y v)))),some (.val (.int i)),some (.val (.int x)),some (.val (.int y)),some (.val (cst (some (c0.1+dd.1,c0.2+dd.2))))]) (by
       simp_arith[g1,h2,jd,hl,and_self,if_true,oB];rfl) ⟨lh,_,_,_,rfl,bI⟩
    ·rintro ρ ⟨_,R',s6,s7,rfl,hI⟩;rw[zC,zb6] at hI;exact⟨aj,R',_,_,s6,s7,rfl,hR.go (λ p c h=>(hC p c h).2) hx hn q hI⟩
  ·rintro ρ ⟨_,R,s4,s5,s6,s7,rfl,hR⟩;rw[E7,zC] at hR;exact⟨R,s4,s5,s6,s7,rfl,hR⟩
 ·rintro ρ ⟨R,s4,s5,s6,s7,rfl,hR⟩;exact⟨_,rfl,R,rfl,hR⟩
noncomputable def SO:List D->M OT:=zH Jf
theorem Oa:Txt K mg->BV P w K mg base "climbed" 2 3 SO:=(zB Jf).1
theorem Ob:∀(m:Nat) (L:List Int) (C:CA) (s:Int),m<=20->L.Perm (B2 m)->s∈L->(∀p c,Av C p=some c->p.1∈L/\p.2∈L)->∃R:RA,SO [.lst (L.map D.int),VH C,.int s]=.ok (Lb R)/\LJ L C s L.length R:=(zB Jf).2
theorem Dx:∃F:List D->M OT,(∀ {P w K mg base},Txt K mg->IY P w K mg base "Ladder" "order" 1 1 F)/\(∀(m:Nat) (rs:List Road) (L:List Int) (A:LA) (K:List (Int×Int)),F [AJ m rs L A K]=.ok (.lst ((L.map D.int).map .sh))):=by
 refine⟨_,λ T=>MI (k:=0) T.O5 M9 _ (λ f B4 A outer s H E hr=>(A5 (Al (Mp rfl T.EA (EY ["Ladder"] (Bx T.CC C2) (A1 0 (pv 0))))))),?_⟩;intro m rs L A K;rfl
noncomputable def Bh:List D->M OT:=zH Dx
theorem G8:Txt K mg->IY P w K mg base "Ladder" "order" 1 1 Bh:=(zB Dx).1
theorem G9:∀(m:Nat) (rs:List Road) (L:List Int) (A:LA) (K:List (Int×Int)),Bh [AJ m rs L A K]=.ok (.lst ((L.map D.int).map .sh)):=(zB Dx).2
theorem Dy:∃F:List D->M OT,(∀ {P w K mg base},Txt K mg->BV P w K mg base "climbed_from" 5 2 F)/\(∀(m:Nat) (rs:List Road) (L:List Int) (A:LA) (K:List (Int×Int)) (s:Nat),BI m rs L A K->s<m->∃R:RA,F [AJ m rs L A K,.int s]=.ok (Lb R)/\LJ L (GP A K) s L.length R):=by
 refine⟨_,λ T=>AI (k:=4) T.O1 M7 _ (λ f B4 A outer s H E hr=>(A5 (Al (Ad A9.toXCall (Oa T) (hr.mono (by decide)) rfl (A2 (An (Kf (k:=1) [("Ladder",Bh)] A9.toXCall (Er (by decide) (G8 T) FD) (hr.mono (by decide)) (A1 0 (pv 0)))) (A2 (An (Ad A9.toXCall (OJ T) (hr.mono (by decide)) rfl (A2 (A1 0 (pv 0)) A8) rfl)) (A2 (A1 1 (pv 1)) A8))) rfl)))),?_⟩;intro m rs L A K s ok hs;have hm:=ok.m2;have e0:AG ["ladder","start"] [AJ m rs L A K,.int s]=[some (.val (AJ m rs L A K)),some (.val (.int s))]:=rfl;rw[e0];have h1:=OK m rs L A K ok;have h2:=G9 m rs L A K;have ic:IZ [("Ladder",Bh)] "order" (AJ m rs L A K)=.ok Bh:=rfl;have sq:(s:Int)∈L:=(BR ok.pm).mpr ⟨by omega,by omega⟩;obtain⟨R,hF,hR⟩:=Ob m L (GP A K) s (by omega) ok.pm sq ok.oM;refine⟨R,Bl ?_,hR⟩;simp_arith[ic,h2,h1,hF];exact⟨_,rfl,rfl⟩
noncomputable def Cu:List D->M OT:=zH Dy
theorem Ga:Txt K mg->BV P w K mg base "climbed_from" 5 2 Cu:=(zB Dy).1
theorem Gb:∀(m:Nat) (rs:List Road) (L:List Int) (A:LA) (K:List (Int×Int)) (s:Nat),BI m rs L A K->s<m->∃R:RA,Cu [AJ m rs L A K,.int s]=.ok (Lb R)/\LJ L (GP A K) s L.length R:=(zB Dy).2
theorem EF:∃F:List D->M OT,(∀ {P w K mg base},Txt K mg->BV P w K mg base "climbing_to" 5 2 F)/\(∀(m:Nat) (rs:List Road) (L:List Int) (A:LA) (K:List (Int×Int)) (s:Nat),BI m rs L A K->s<m->∃R:RA,F [AJ m rs L A K,.int s]=.ok (Lb R)/\LJ L (PJ (GP A K)) s L.length R):=by
 refine⟨_,λ T=>AI (k:=4) T.OE NV _ (λ f B4 A outer s H E hr=>(A5 (Al (Ad A9.toXCall (Oa T) (hr.mono (by decide)) rfl (A2 (An (Kf (k:=1) [("Ladder",Bh)] A9.toXCall (Er (by decide) (G8 T) FD) (hr.mono (by decide)) (A1 0 (pv 0)))) (A2 (An (Ad A9.toXCall (Hf T) (hr.mono (by decide)) rfl (A2 (A1 0 (pv 0)) A8) rfl)) (A2 (A1 1 (pv 1)) A8))) rfl)))),?_⟩;intro m rs L A K s ok hs;have hm:=ok.m2;have e0:AG ["ladder","goal"] [AJ m rs L A K,.int s]=[some (.val (AJ m rs L A K)),some (.val (.int s))]:=rfl;rw[e0];have h1:=Hg m rs L A K ok;have h2:=G9 m rs L A K;have ic:IZ [("Ladder",Bh)] "order" (AJ m rs L A K)=.ok Bh:=rfl;have sq:(s:Int)∈L:=(BR ok.pm).mpr ⟨by omega,by omega⟩;obtain⟨R,hF,hR⟩:=Ob m L (PJ (GP A K)) s (by omega) ok.pm sq ok.tE;refine⟨R,Bl ?_,hR⟩;simp_arith[ic,h2,h1,hF];exact⟨_,rfl,rfl⟩
noncomputable def CY:List D->M OT:=zH EF
theorem Hh:Txt K mg->BV P w K mg base "climbing_to" 5 2 CY:=(zB EF).1
theorem Hi:∀(m:Nat) (rs:List Road) (L:List Int) (A:LA) (K:List (Int×Int)) (s:Nat),BI m rs L A K->s<m->∃R:RA,CY [AJ m rs L A K,.int s]=.ok (Lb R)/\LJ L (PJ (GP A K)) s L.length R:=(zB EF).2
theorem Dz:∃F:List D->M OT,(∀ {P w K mg base},Txt K mg->BV P w K mg base "sums_at_tops" 6 3 F)/\(∀(m:Nat) (rs:List Road) (L:List Int) (A:LA) (K:List (Int×Int)) (s g:Nat) (R1 R2:RA),BI m rs L A K->(Cu) [AJ m rs L A K,.int s]=.ok (Lb R1)->(CY) [AJ m rs L A K,.int g]=.ok (Lb R2)->(R1.map za1).Nodup->R1.length<=900->F [AJ m rs L A K,.int s,.int g]=.ok (Lb (B8 R1 R2))):=by
 refine⟨_,λ T=>AI (k:=5) T.O2 Du _ (λ f B4 A outer s H E hr=>(A4 (AV 3 Du.nd rfl (Or.inr rfl) (An (Ad A9.toXCall (Ga T) (hr.mono (by decide)) rfl (A2 (A1 0 (pv 0)) (A2 (A1 1 (pv 1)) A8)) rfl))) (A4 (AV 4 Du.nd rfl (Or.inr rfl) (An (Ad A9.toXCall (Hh T) (hr.mono (by decide)) rfl (A2 (A1 0 (pv 0)) (A2 (A1 2 (pv 2)) A8)) rfl))) (A5 (Al (ZM rfl rfl T.UA (An (Su (NB:=["place","ahead","behind"]) [none,some 3,some 4] rfl (VL (A1 3 (pv 3))) rfl rfl (Bw 0 (by decide) rfl rfl rfl) (λ _ _ _ _=>Fy (L7 (c:=true) (AU hr 16 (by decide)) (A1 0 (pv 0)) (A1 2 (pv 2)))) (λ _ _ _ _=>(AR (A2 (A1 0 (pv 0)) (A2 (An (Cj (Ad (BH rfl).toXCall (Ky T) (hr.mono (by decide)) rfl (A2 (Ae (AU hr 16 (by decide)) (A1 1 (pv 1)) (A1 0 (pv 0))) (A2 (Ae (AU hr 16 (by decide)) (A1 2 (pv 2)) (A1 0 (pv 0))) A8)) rfl))) A8)))))))))))),?_⟩;intro m rs L A K s g R1 R2 ok e9 yx hn hl;have e0:AG ["ladder","start","goal","ahead","behind"] [AJ m rs L A K,.int s,.int g]=[some (.val (AJ m rs L A K)),some (.val (.int s)),some (.val (.int g)),none,none]:=rfl;rw[e0];refine Bl ?_;apply wp_step
 ·simp_arith[e9];rfl
 try simp only[zV,zP]
 apply wp_step
 ·simp_arith[yx];rfl
 try simp only[zV,zP]
 have aE:(R1.map λ kv=>D.int kv.1).length<=1000:=by rw[zC];omega
 simp_arith[VT,if_pos aE];rw[C5 (λ kv:Int×(Int×Int)=>(Av R2 kv.1).isSome) (λ kv=>D.tup [.int kv.1,cst (Ap (some kv.2) (Av R2 kv.1))]) (λ kv ia=>⟨_,rfl,by
  have h1:=Zy R2 kv.1 false;simp_arith[h1];try rfl,λ hp=>by
  have f1:Av R1 kv.1=some kv.2:=J3 hn ia;obtain⟨c,hc⟩:=zbu.mp hp;have i1:=QN f1;have i2:=QN hc;have ie:=Kz (some kv.2) (some c);rw[hc];simp_arith[i1,i2,ie];try rfl⟩)]
 rw[PP];have hd:=oO (C:=B8 R1 R2) ((Br R2 R1).nodup hn) (by
  have:=(Br R2 R1).length_le;rw[zC,zC] at this;omega)
 simp_arith[hd];exact⟨_,rfl,rfl⟩
noncomputable def BW:List D->M OT:=zH Dz
theorem Gd:Txt K mg->BV P w K mg base "sums_at_tops" 6 3 BW:=(zB Dz).1
theorem Mb:∀(m:Nat) (rs:List Road) (L:List Int) (A:LA) (K:List (Int×Int)) (s g:Nat) (R1 R2:RA),BI m rs L A K->(Cu) [AJ m rs L A K,.int s]=.ok (Lb R1)->(CY) [AJ m rs L A K,.int g]=.ok (Lb R2)->(R1.map za1).Nodup->R1.length<=900->BW [AJ m rs L A K,.int s,.int g]=.ok (Lb (B8 R1 R2)):=(zB Dz).2
theorem R6:∃F:List D->M OT,(∀ {P w K mg base},Txt K mg->BV P w K mg base "tops" 7 3 F)/\(∀(m:Nat) (rs:List Road) (L:List Int) (A:LA) (K:List (Int×Int)) (s g:Nat) (S:RA),(BW) [AJ m rs L A K,.int s,.int g]=.ok (Lb S)->(S.map za1).Nodup->S.length<64->F [AJ m rs L A K,.int s,.int g]=.ok (.lst (((Ep ((S.filter λ kv=>decide (some kv.2=Ct (S.map λ kv=>some kv.2))).map za1)).map D.int).map .sh))):=by
 refine⟨_,λ T=>AI (k:=6) T.oQ QX _ (λ f B4 A outer s H E hr=>(A4 (AV 3 QX.nd rfl (Or.inr rfl) (An (Ad A9.toXCall (Gd T) (hr.mono (by decide)) rfl (A2 (A1 0 (pv 0)) (A2 (A1 1 (pv 1)) (A2 (A1 2 (pv 2)) A8))) rfl))) (A4 (AV 4 QX.nd rfl (Or.inr rfl) (An (Ad A9.toXCall (KA T) (hr.mono (by decide)) rfl (A2 (An (LL rfl rfl T.EA (A1 3 (pv 3)))) A8) rfl))) (A5 (Al (Pr rfl rfl T.SM (An (Su (NB:=["place","cost","sums"]) [none,some 4,some 3] rfl (VL (A1 3 (pv 3))) rfl rfl (Bw 0 (by decide) rfl rfl rfl) (λ _ _ _ _=>Fy (Ly (c:=true) (AU hr 16 (by decide)) (Ae (AU hr 16 (by decide)) (A1 2 (pv 2)) (A1 0 (pv 0))) (A1 1 (pv 1)))) (λ _ _ _ _=>(A1 0 (pv 0))))))))))),?_⟩;intro m rs L A K s g S hS hn hl;have e0:AG ["ladder","start","goal","sums","cost"] [AJ m rs L A K,.int s,.int g]=[some (.val (AJ m rs L A K)),some (.val (.int s)),some (.val (.int g)),none,none]:=rfl;rw[e0];refine Bl ?_;apply wp_step
 ·simp_arith[hS];rfl
 try simp only[zV,zP]
 have hle:=KC (S.map λ kv=>some kv.2) (by rw[zC];omega);rw[zam] at hle;have cD:Lo [.lst (S.map λ kv=>cst (some kv.2))]=.ok (.sh (cst (Ct (S.map λ kv=>some kv.2)))):=hle;apply wp_step
 ·simp_arith[VU,cD];rfl
 try simp only[zV,zP]
 have aE:(S.map λ kv=>D.int kv.1).length<=1000:=by rw[zC];omega
 simp_arith[VT,if_pos aE];rw[C5 (λ kv:Int×(Int×Int)=>decide (some kv.2=Ct (S.map λ kv=>some kv.2))) (λ kv=>D.int kv.1) (λ kv ia=>⟨_,rfl,by
  have f1:Av S kv.1=some kv.2:=J3 hn ia;have i1:=QN f1;have je:=ML (some kv.2) (Ct (S.map λ kv=>some kv.2));simp_arith[i1,je];try rfl,λ _=>rfl⟩)]
 have em:((S.filter λ kv=>decide (some kv.2=Ct (S.map λ kv=>some kv.2))).map λ kv=>D.int kv.1)=((S.filter λ kv=>decide (some kv.2=Ct (S.map λ kv=>some kv.2))).map za1).map D.int:=by rw[zam];rfl
 rw[em];have yy:=Pq (ns:=(S.filter λ kv=>decide (some kv.2=Ct (S.map λ kv=>some kv.2))).map za1) (by
  rw[zC];exact zc9 (zbp _ _) hl)
 simp_arith[yy];exact⟨_,rfl,rfl⟩
noncomputable def topsF:List D->M OT:=zH R6
theorem tops_at:Txt K mg->BV P w K mg base "tops" 7 3 topsF:=(zB R6).1
theorem tops_eq:∀(m:Nat) (rs:List Road) (L:List Int) (A:LA) (K:List (Int×Int)) (s g:Nat) (S:RA),(BW) [AJ m rs L A K,.int s,.int g]=.ok (Lb S)->(S.map za1).Nodup->S.length<64->topsF [AJ m rs L A K,.int s,.int g]=.ok (.lst (((Ep ((S.filter λ kv=>decide (some kv.2=Ct (S.map λ kv=>some kv.2))).map za1)).map D.int).map .sh)):=(zB R6).2
theorem DB:∃F:List D->M OT,(∀ {P w K mg base},Txt K mg->BV P w K mg base "cost_between" 7 3 F)/\(∀(m:Nat) (rs:List Road) (L:List Int) (A:LA) (K:List (Int×Int)) (s g:Nat) (S:RA),(BW) [AJ m rs L A K,.int s,.int g]=.ok (Lb S)->S.length<=900->F [AJ m rs L A K,.int s,.int g]=.ok (.sh (cst (Ct (S.map λ kv=>some kv.2))))):=by
 refine⟨_,λ T=>AI (k:=6) T.O3 M8 _ (λ f B4 A outer s H E hr=>(A5 (Al (Ad A9.toXCall (KA T) (hr.mono (by decide)) rfl (A2 (An (LL rfl rfl T.EA (An (Ad A9.toXCall (Gd T) (hr.mono (by decide)) rfl (A2 (A1 0 (pv 0)) (A2 (A1 1 (pv 1)) (A2 (A1 2 (pv 2)) A8))) rfl)))) A8) rfl)))),?_⟩;intro m rs L A K s g S hS hl;have e0:AG ["ladder","start","goal"] [AJ m rs L A K,.int s,.int g]=[some (.val (AJ m rs L A K)),some (.val (.int s)),some (.val (.int g))]:=rfl;rw[e0];refine Bl ?_;have hle:=KC (S.map λ kv=>some kv.2) (by rw[zC];omega);rw[zam] at hle;have cD:Lo [.lst (S.map λ kv=>cst (some kv.2))]=.ok (.sh (cst (Ct (S.map λ kv=>some kv.2)))):=hle;simp_arith[hS,VU,cD];rfl
noncomputable def IA:List D->M OT:=zH DB
theorem Mc:Txt K mg->BV P w K mg base "cost_between" 7 3 IA:=(zB DB).1
theorem Md:∀(m:Nat) (rs:List Road) (L:List Int) (A:LA) (K:List (Int×Int)) (s g:Nat) (S:RA),(BW) [AJ m rs L A K,.int s,.int g]=.ok (Lb S)->S.length<=900->IA [AJ m rs L A K,.int s,.int g]=.ok (.sh (cst (Ct (S.map λ kv=>some kv.2)))):=(zB DB).2
theorem EG:∃F:List D->M OT,(∀ {P w K mg base},Txt K mg->BV P w K mg base "cost_so_far" 1 2 F)/\(∀(A:LA) (p:Int×Int),F [LH A,pD p]=.ok (.sh (cst (Ao A p)))):=by
 refine⟨_,λ T=>AI (k:=0) T.OF NW _ (λ f B4 A outer s H E hr=>(A4 (B7 (Mr (c:=true) (AU hr 16 (by decide)) (A1 1 (pv 1)) (A1 0 (pv 0))) (A5 (Al (B1 Fu))) Ay) (A5 (Al (B1 (Ae (AU hr 16 (by decide)) (Ae (AU hr 16 (by decide)) (A1 0 (pv 0)) (A1 1 (pv 1))) A6)))))),?_⟩;intro A p;have e0:AG ["laid","pair"] [LH A,pD p]=[some (.val (LH A)),some (.val (pD p))]:=rfl;rw[e0];refine Bl ?_;have hm:=QL A p true;unfold Ao;cases q:Av A p with
 |none =>
  rw[q] at hm;simp_arith[hm,EX];rfl
 |some v =>
  rw[q] at hm;have hi:=QM q;have h0:Bf (Xa v) (.int 0)=.ok (cst (some v.1)):=rfl;apply wp_step
  ·simp_arith[hm,EX];rfl
  simp_arith[hi,h0];rfl
noncomputable def KD:List D->M OT:=zH EG
theorem Hj:Txt K mg->BV P w K mg base "cost_so_far" 1 2 KD:=(zB EG).1
theorem Hk:∀(A:LA) (p:Int×Int),KD [LH A,pD p]=.ok (.sh (cst (Ao A p))):=(zB EG).2
theorem UH:∃F:OT->List D->M (OT×OT),(∀ {P w K mg base},Txt K mg->Pn P w K mg base "lay" 1 4 F)/\(∀(A:LA) (p:Int×Int) (c:Co) (mid:Option Int),A.length<1000->F (Jl A) [pD p,cst c,EK mid]=.ok (Jl (layA A p c mid),.sh .AF)):=by
 refine⟨_,λ T=>RT (k:=0) T.tF oP _ (λ f B4 A outer s H E hr=>(A5 (B7 (L6 (DW.dt (IL (HA (c:=true) (A1 2 (pv 2))) (Fw (DW.dt (DJ (Mr (c:=true) (AU hr 16 (by decide)) (A1 1 (pv 1)) (A1 0 (pv 0))) (CT (Zb (c:=true) (AU hr 16 (by decide)) (A1 2 (pv 2)) (Ae (AU hr 16 (by decide)) (Ae (AU hr 16 (by decide)) (A1 0 (pv 0)) (A1 1 (pv 1))) A6))))))))) (A5 (Mt (AU hr 16 (by decide)) (C1 0 (pv 0)) (A1 1 (pv 1)) (AR (A2 (A1 2 (pv 2)) (A2 (A1 3 (pv 3)) A8))))) Ay))),?_⟩;intro A p c mid hA;have e0:D3 ["laid","pair","cost","middle"] (Jl A) [pD p,cst c,EK mid]=[some (.ow (.tree (some 0) (Jl A))),some (.val (pD p)),some (.val (cst c)),some (.val (EK mid))]:=rfl;rw[e0];refine Ui ?_;have hm:=QL A p true;have wE:∀c:Int×Int,D.tup [cst (some c),EK mid]=Xa (c,mid):=λ c=>rfl;have hl:(A.map λ kv=>pD kv.1).length<1000:=by rw[zC];exact hA
 have jd:keyOk true (pD p)=true:=rfl;have aj:∀v,(List.map (λ kv=>pD kv.1) (Dd A p v))=(List.map (λ kv=>pD kv.1) (Dd A p v)):=λ _=>rfl;cases c with
 |none =>
  refine Bm (ρ':=_) (by simp_arith[cst,Bj];rfl) ⟨rfl,rfl⟩
 |some c =>
  have cb:Bj (cst (some c))=false:=rfl;cases q:Av A p with
  |none =>
   rw[q] at hm;have el:layA A p (some c) mid=Dd A p (c,mid):=by unfold layA;dsimp only;rw[q]
   rw[el];refine Bm (ρ':=[some (.ow (.tree (some 0) (Jl (Dd A p (c,mid))))),some (.val (pD p)),some (.val (cst (some c))),some (.val (EK mid))]) (by
    simp_arith[cb,hm,EX,Eb,wE,if_pos (And.intro jd hl),Zz,jd,hl,and_self,if_true];rfl) ⟨rfl,rfl⟩
  |some z =>
   rw[q] at hm;have hi:=QM q;have h0:Bf (Xa z) (.int 0)=.ok (cst (some z.1)):=rfl;have hx:=sT c z.1;by_cases hc:c.1<z.1.1\/(c.1=z.1.1/\c.2<z.1.2)
   ·have el:layA A p (some c) mid=Dd A p (c,mid):=by unfold layA;dsimp only;rw[q];dsimp only;rw[if_pos hc]
    rw[decide_eq_true hc] at hx;rw[el];refine Bm (ρ':=[some (.ow (.tree (some 0) (Jl (Dd A p (c,mid))))),some (.val (pD p)),some (.val (cst (some c))),some (.val (EK mid))]) (by
     simp_arith[cb,hm,hi,h0,hx,EX,Eb,wE,if_pos (And.intro jd hl),Zz,jd,hl,and_self,if_true];rfl) ⟨rfl,rfl⟩
   ·have el:layA A p (some c) mid=A:=by unfold layA;dsimp only;rw[q];dsimp only;rw[if_neg hc]
    rw[decide_eq_false hc] at hx;rw[el];refine Bm (ρ':=_) (by simp_arith[cb,hm,hi,h0,hx,EX];rfl) ⟨rfl,rfl⟩
noncomputable def tG:OT->List D->M (OT×OT):=zH UH
theorem ZY:Txt K mg->Pn P w K mg base "lay" 1 4 tG:=(zB UH).1
theorem ZZ:∀(A:LA) (p:Int×Int) (c:Co) (mid:Option Int),A.length<1000->tG (Jl A) [pD p,cst c,EK mid]=.ok (Jl (layA A p c mid),.sh .AF):=(zB UH).2
theorem Hl:∃F:OT->List D->M (OT×OT),(∀ {P w K mg base},Txt K mg->Pn P w K mg base "lay_over" 2 3 F)/\(∀(m:Nat) (A:LA) (p:Int) (H:List Int),m<=20->Fo m A->(∀x∈H,0<=x/\x<m)->F (Jl A) [.int p,.lst (H.map D.int)]=.ok (Jl (nW A p H),.sh .AF)):=by
 refine⟨_,λ T=>RT (k:=1) T.Us ER _ (λ f B4 A outer s H E hr=>(A5 (BC A9.toXCall.own rfl (Be (A1 2 (pv 2))) (AN 3 ER.nd rfl (zan rfl)) (A5 (BC A9.toXCall.own rfl (Be (A1 2 (pv 2))) (AN 4 ER.nd rfl (zan rfl)) (A5 (B7 (Gx (c:=true) (AU hr 16 (by decide)) (A1 3 (pv 3)) (A1 4 (pv 4))) (A4 (AV 5 ER.nd rfl (zan rfl) (An (FA (Ad A9.toXCall (Ky T) (hr.mono (by decide)) rfl (A2 (An (Ad A9.toXCall (Hj T) (hr.mono (by decide)) rfl (A2 (A1 0 (pv 0)) (A2 (AR (A2 (A1 3 (pv 3)) (A2 (A1 1 (pv 1)) A8))) A8)) rfl)) (A2 (An (Ad A9.toXCall (Hj T) (hr.mono (by decide)) rfl (A2 (A1 0 (pv 0)) (A2 (AR (A2 (A1 1 (pv 1)) (A2 (A1 4 (pv 4)) A8))) A8)) rfl)) A8)) rfl)))) (A5 (Nr (YU A9.toXCall (ZY T) (hr.mono (by decide)) rfl (C1 0 (pv 0)) (A2 (AR (A2 (A1 3 (pv 3)) (A2 (A1 4 (pv 4)) A8))) (A2 (A1 5 (pv 5)) (A2 (A1 1 (pv 1)) A8))) rfl)))) Ay))))))),?_⟩;intro m A p H hm hA hH;have e0:D3 ["laid","place","higher","u","w","cost"] (Jl A) [.int p,.lst (H.map D.int)]=[some (.ow (.tree (some 0) (Jl A))),some (.val (.int p)),some (.val (.lst (H.map D.int))),none,none,none]:=rfl;rw[e0];refine Ui ?_;simp_arith[];refine BD (λ i ρ=>∃s3 s4 s5:Option Cl,ρ=[some (.ow (.tree (some 0) (Jl ((H.take i).foldl (iJ p H) A)))),some (.val (.int p)),some (.val (.lst (H.map D.int))),s3,s4,s5]) ⟨none,none,none,rfl⟩ ?_ ?_
 ·rintro i d ρ hd ⟨s3,s4,s5,rfl⟩;obtain⟨u,hu,rfl⟩:=C6 hd;have sg:=hH u (zM hu);refine⟨_,rfl,?_⟩;obtain⟨B,hB⟩:∃B,B=(H.take i).foldl (iJ p H) A:=⟨_,rfl⟩;have ig:Fo m B:=by rw[hB];exact Fo.lo hH hA λ x hx=>hH x (zb9 hx)
  rw[<-hB,Et hu,<-hB];simp_arith[];refine BD (λ j ρ=>∃s4 s5:Option Cl,ρ=[some (.ow (.tree (some 0) (Jl ((H.take j).foldl (QE p u) B)))),some (.val (.int p)),some (.val (.lst (H.map D.int))),some (.val (.int u)),s4,s5]) ⟨s4,s5,rfl⟩ ?_ ?_
  ·rintro j d ρ hd ⟨s4,s5,rfl⟩;obtain⟨w,hw,rfl⟩:=C6 hd;have zr:=hH w (zM hw);refine⟨_,rfl,?_⟩;obtain⟨C,hC⟩:∃C,C=(H.take j).foldl (QE p u) B:=⟨_,rfl⟩;have sr:Fo m C:=by rw[hC];exact Fo.ou sg ig λ x hx=>hH x (zb9 hx)
   rw[Et hw,<-hC];by_cases e:u=w
   ·have ev:QE p u C w=C:=by unfold QE;rw[if_pos e]
    rw[ev];refine Bm (ρ':=_) (by simp_arith[decide_eq_true e];rfl) ⟨_,_,rfl⟩
   ·have ev:QE p u C w=layA C (u,w) (Ap (Ao C (u,p)) (Ao C (p,w))) (some p):=by unfold QE;rw[if_neg e]
    rw[ev];have h1:=Hk C (u,p);have h2:=Hk C (p,w);have h3:=Kz (Ao C (u,p)) (Ao C (p,w));have h4:=ZZ C (u,w) (Ap (Ao C (u,p)) (Ao C (p,w))) (some p) (sr.len hm);have t1:∀a b:Int,D.tup [.int a,.int b]=pD (a,b):=λ a b=>rfl;have t2:EK (some p)=.int p:=rfl;rw[t2] at h4;have h5:=Ld (ρ:=[some (.ow (.tree (some 0) (Jl C))),some (.val (.int p)),some (.val (.lst (H.map D.int))),some (.val (.int u)),some (.val (.int w)),some (.val (cst (Ap (Ao C (u,p)) (Ao C (p,w)))))]) (i:=0) rfl rfl h4;simp_arith[decide_eq_false e,if_true];apply wp_step
    ·simp_arith[t1,h1,h2,h3];rfl
    refine Bm (ρ':=_) (by simp_arith[t1,h5];rfl) ⟨_,_,rfl⟩
  ·rintro ρ ⟨s4,s5,rfl⟩;rw[zC,zb6];exact⟨_,s4,s5,rfl⟩
 ·rintro ρ ⟨s3,s4,s5,rfl⟩;rw[zC,zb6];exact⟨rfl,trivial⟩
noncomputable def PR:OT->List D->M (OT×OT):=zH Hl
theorem SQ:Txt K mg->Pn P w K mg base "lay_over" 2 3 PR:=(zB Hl).1
theorem SR:∀(m:Nat) (A:LA) (p:Int) (H:List Int),m<=20->Fo m A->(∀x∈H,0<=x/\x<m)->PR (Jl A) [.int p,.lst (H.map D.int)]=.ok (Jl (nW A p H),.sh .AF):=(zB Hl).2
theorem FQ:∃F:List D->M OT,(∀ {P w K mg base},Txt K mg->BV P w K mg base "laid_arcs" 3 2 F)/\(∀(m:Nat) (rs:List Road) (L:List Int),m<=20->L.Perm (B2 m)->(∀r∈rs,HY m r/\r.a≠r.b)->F [Ah m rs,.lst (L.map D.int)]=.ok (Jl (BS rs L))):=by
 refine⟨_,λ T=>AI (k:=2) T.SG CU _ (λ f B4 A outer s H E hr=>(A4 (Cw 2 CU.nd rfl (zan rfl) (RV true)) (A4 (BC A9.toXCall.own rfl (Be (Ae (AU hr 16 (by decide)) (A1 0 (pv 0)) A6)) (AN 3 CU.nd rfl (zan rfl)) (A5 (Nr (YU A9.toXCall (ZY T) (hr.mono (by decide)) rfl (C1 2 (pv 2)) (A2 (AR (A2 (Ae (AU hr 16 (by decide)) (A1 3 (pv 3)) A6) (A2 (Ae (AU hr 16 (by decide)) (A1 3 (pv 3)) A6) A8))) (A2 (An (Ad A9.toXCall (FN T) (hr.mono (by decide)) rfl (A2 (A1 3 (pv 3)) A8) rfl)) (A2 Fu A8))) rfl)))) (A4 (BC A9.toXCall.own rfl (Qi rfl T.GZ (A1 1 (pv 1))) (Qh (n:=2) rfl (Cs (AN 4 CU.nd rfl (zan rfl)) (Cs (AN 5 CU.nd rfl (zan rfl)) Mj))) (A5 (Nr (YU A9.toXCall (SQ T) (hr.mono (by decide)) rfl (C1 2 (pv 2)) (A2 (A1 5 (pv 5)) (A2 (An (Nu (A1 1 (pv 1)) (Mi (BX (A1 4 (pv 4)) A6)) V4)) A8)) rfl)))) (A5 (DR 2 (pv 2))))))),?_⟩;intro m rs L hm hL Au;have e0:AG ["net","order","laid","road","rank","place"] [Ah m rs,.lst (L.map D.int)]=[some (.val (Ah m rs)),some (.val (.lst (L.map D.int))),none,none,none,none]:=rfl;rw[e0];refine Bl ?_;have n1:Bf (Ah m rs) (.int 1)=.ok (.lst (rs.map Ca)):=rfl;apply wp_step
 ·rfl
 try simp only[zV,zP]
 have ii:∀i,i<=rs.length->Fo m ((rs.take i).foldl (λ A r=>layA A (r.a,r.b) (Cq r) none) []):=λ i hi=>by
  have:=(QF (m:=m) (rs:=rs.take i) λ r hr=>Au r (zb9 hr)).1;exact this
 refine C4 (I:=λ ρ=>∃s3 s4 s5:Option Cl,ρ=[some (.val (Ah m rs)),some (.val (.lst (L.map D.int))),some (.ow (.tree none (Jl (lay0 rs)))),s3,s4,s5]) ?_ ?_
 ·simp_arith[n1];refine BD (λ i ρ=>i<=rs.length/\∃s3 s4 s5:Option Cl,ρ=[some (.val (Ah m rs)),some (.val (.lst (L.map D.int))),some (.ow (.tree none (Jl ((rs.take i).foldl (λ A r=>layA A (r.a,r.b) (Cq r) none) [])))),s3,s4,s5]) ⟨zak _,none,none,none,rfl⟩ ?_ ?_
  ·rintro i d ρ hd ⟨hi,s3,s4,s5,rfl⟩;obtain⟨r,hr,rfl⟩:=C6 hd;have aj:=(zY.mp hr).1;refine⟨_,rfl,?_⟩;rw[Et hr];obtain⟨B,hB⟩:∃B,B=(rs.take i).foldl (λ A r=>layA A (r.a,r.b) (Cq r) none) []:=⟨_,rfl⟩;have ig:Fo m B:=by rw[hB];exact ii i hi
   rw[<-hB];have i0:Bf (Ca r) (.int 0)=.ok (.int r.a):=rfl;have i1:Bf (Ca r) (.int 1)=.ok (.int r.b):=rfl;have h1:=FO r;have h2:=ZZ B (r.a,r.b) (Cq r) none (ig.len hm);have t1:∀a b:Int,D.tup [.int a,.int b]=pD (a,b):=λ a b=>rfl;have t2:EK none=.AF:=rfl;rw[t2] at h2;have h5:=Ld (ρ:=[some (.val (Ah m rs)),some (.val (.lst (L.map D.int))),some (.ow (.tree none (Jl B))),some (.val (Ca r)),s4,s5]) (i:=2) rfl rfl h2;refine Bm (ρ':=_) (by simp_arith[i0,i1,h1,t1,h5];rfl) ⟨aj,_,_,_,rfl⟩
  ·rintro ρ ⟨_,s3,s4,s5,rfl⟩;rw[zC,zb6];exact⟨s3,s4,s5,rfl⟩
 ·rintro ρ ⟨s3,s4,s5,rfl⟩;have wP:=QF Au;refine C4 (I:=λ ρ=>∃s3 s4 s5:Option Cl,ρ=[some (.val (Ah m rs)),some (.val (.lst (L.map D.int))),some (.ow (.tree none (Jl (BS rs L)))),s3,s4,s5]) ?_ ?_
  ·simp_arith[];refine BD (λ i ρ=>i<=L.length/\∃(G:LA) (s3 s4 s5:Option Cl),ρ=[some (.val (Ah m rs)),some (.val (.lst (L.map D.int))),some (.ow (.tree none (Jl G))),s3,s4,s5]/\Fo m G/\Ud G (L.drop i)=Ud (lay0 rs) L) ⟨zak _,lay0 rs,s3,s4,s5,rfl,wP.1,rfl⟩ ?_ ?_
   ·rintro i d ρ hd ⟨hi,G,s3,s4,s5,rfl,hG,li⟩;obtain⟨d',aI,rfl⟩:=HB hd;obtain⟨p,hp,rfl⟩:=C6 aI;have aj:=(zY.mp hp).1;rw[Nat.zero_add];refine⟨_,rfl,?_⟩;have bX:∀x∈L.drop (i+1),0<=x/\x<m:=λ x hx=>(BR hL).mp (List.mem_of_mem_drop hx);have ed:L.drop i=p::L.drop (i+1):=by
     rw[zbr aj];rw[zJ aj] at hp;rw[za6 hp]
    rw[ed,Ud] at li;have h2:=SR m G p (L.drop (i+1)) hm hG bX;have sl:fM (some ((i:Int)+1)) none (.lst (L.map D.int))=.ok (.lst (((L.drop (i+1)).map D.int).map .sh)):=by rw[List.map_drop];exact S0 _ (i+1)
    have h5:=Ld (ρ:=[some (.val (Ah m rs)),some (.val (.lst (L.map D.int))),some (.ow (.tree none (Jl G))),s3,some (.val (.int i)),some (.val (.int p))]) (i:=2) rfl rfl h2;refine Bm (ρ':=_) (by simp_arith[sl,h5];rfl) ⟨aj,_,_,_,_,rfl,Fo.lo bX hG bX,li⟩
   ·rintro ρ ⟨_,G,s3,s4,s5,rfl,hG,li⟩;rw[E7,zC,zc6,Ud] at li;exact⟨s3,s4,s5,by rw[li];rfl⟩
  ·rintro ρ ⟨s3,s4,s5,rfl⟩;exact⟨_,rfl,rfl⟩
noncomputable def Oc:List D->M OT:=zH FQ
theorem R7:Txt K mg->BV P w K mg base "laid_arcs" 3 2 Oc:=(zB FQ).1
theorem R8:∀(m:Nat) (rs:List Road) (L:List Int),m<=20->L.Perm (B2 m)->(∀r∈rs,HY m r/\r.a≠r.b)->Oc [Ah m rs,.lst (L.map D.int)]=.ok (Jl (BS rs L)):=(zB FQ).2
theorem Hm:∃F:List D->M OT,(∀ {P w K mg base},Txt K mg->BV P w K mg base "is_order" 2 2 F)/\(∀(m:Nat) (x d:D),m<=60->sQ d->F [.tup [.int m,x],d]=.ok (.sh (.bl (EQ m d)))):=by
 refine⟨_,λ T=>AI (k:=1) T.Ut Sz _ (λ f B4 A outer s H E hr=>(A4 (B7 (DW.dt (DJ (Ci (BO (c:=true) (EV (KW _) rfl T.B5 rfl T.EA (by decide +kernel) (A1 1 (pv 1))))) (CT (Gx (c:=true) (AU hr 16 (by decide)) (Fx rfl T.Kx (A1 1 (pv 1))) (Ae (AU hr 16 (by decide)) (A1 0 (pv 0)) A6))))) (A5 (Al (B1 CQ))) Ay) (A4 (B7 (Ci (BO (c:=true) (YG rfl rfl T.kH (An (DU (NB:=["place","net"]) [none,some 0] rfl (Be (A1 1 (pv 1))) rfl rfl (Bw 0 (by decide) rfl rfl rfl) (λ _ _ _ _=>Dk) (λ _ _ _ _=>(An (Cj (Ad (BH rfl).toXCall (AZ T) (hr.mono (by decide)) rfl (A2 (A1 0 (pv 0)) (A2 (Ae (AU hr 16 (by decide)) (A1 1 (pv 1)) A6) A8)) rfl))))))))) (A5 (Al (B1 CQ))) Ay) (A5 (Al (B1 (Yn (AU hr 16 (by decide)) (An (Pr rfl rfl T.SM (A1 1 (pv 1)))) (An (JM rfl rfl T.EA rfl T.BP (Ae (AU hr 16 (by decide)) (A1 0 (pv 0)) A6)))))))))),?_⟩;intro m x d hm ⟨hx,Au⟩;have e0:AG ["net","thing"] [.tup [.int m,x],d]=[some (.val (.tup [.int m,x])),some (.val d)]:=rfl;rw[e0];have n0:Bf (.tup [.int m,x]) (.int 0)=.ok (.int m):=rfl;refine Bl ?_;cases d with
 |lst xs =>
  obtain⟨hl,bZ⟩:=Au xs rfl;by_cases h1:xs.length=m
  ·have ee:(xs.length:Int)=(m:Int):=by omega
   apply wp_step
   ·simp_arith[n0,decide_eq_true ee];rfl
   have ad:∀ {gt:D->Aa->M Aa} {ft:Aa->M Bool} {fe:Aa->M D} {ρ:Aa},(∀d∈xs,∃ρ1,gt d ρ=.ok ρ1/\ft ρ1=.ok true/\fe ρ1=.ok (.bl (KI d m)))->AX gt ft fe xs ρ=.ok ((xs.map λ e=>KI e m).map D.bl):=λ h=>by
    rw[Pd (λ d=>.bl (KI d m)) xs h,zam];rfl
   cases h2:(xs.map λ e=>KI e m).all id with
   |false =>
    have hf:EQ m (.lst xs)=false:=by
     cases q:EQ m (.lst xs) with
     |false=>rfl
     |true=>have:=(Sk q).2;rw[h2] at this;cases this
    rw[hf];simp_arith[if_pos hl];rw[ad]
    ·simp_arith[h2];rfl
    ·intro d hd;have:=AQ d m (bZ d hd);exact⟨_,rfl,rfl,by simp_arith[n0,this]⟩
   |true =>
    obtain⟨L,rfl⟩:=VD h2;rw[zC] at h1;have hs:=Pq (ns:=L) (by omega);have h3:=Qs (n:=m) (by omega);rw[NH] at h3;apply wp_step
    ·simp_arith[if_pos hl];rw[ad]
     ·simp_arith[h2];rfl
     ·intro d hd;have:=AQ d m (bZ d hd);exact⟨_,rfl,rfl,by simp_arith[n0,this]⟩
    simp_arith[n0,hs,h3,Sn];rw[NJ];rfl
  ·have ee:¬ (xs.length:Int)=(m:Int):=by omega
   rw[hZ h1];simp_arith[n0,decide_eq_false ee];rfl
 |DH x|ins x n d=>cases hx
 |_=>rfl
noncomputable def PV:List D->M OT:=zH Hm
theorem SS:Txt K mg->BV P w K mg base "is_order" 2 2 PV:=(zB Hm).1
theorem LP:∀(m:Nat) (x d:D),m<=60->sQ d->PV [.tup [.int m,x],d]=.ok (.sh (.bl (EQ m d))):=(zB Hm).2
theorem Di:∃F:List D->M OT,(∀ {P w K mg base},Txt K mg->BV P w K mg base "checked_order" 3 2 F)/\((∀(m:Nat) (x:D) (L:List Int),m<=60->L.Perm (B2 m)->F [.tup [.int m,x],.lst (L.map .int)]=.ok (.lst ((L.map D.int).map .sh)))/\(∀(m:Nat) (x d:D),m<=60->sQ d->EQ m d=false->F [.tup [.int m,x],d]=.ex "NoOrder")):=by
 refine⟨_,λ T=>AI (k:=2) T.Ma Lj _ (λ f B4 A outer s H E hr=>(A4 (B7 (Ci (BO (c:=true) (An (Ad A9.toXCall (SS T) (hr.mono (by decide)) rfl (A2 (A1 0 (pv 0)) (A2 (A1 1 (pv 1)) A8)) rfl)))) (A5 (L0 (c:=true) T.Xo A9 rfl rfl TF)) Ay) (A5 (Al (Mp rfl T.EA (A1 1 (pv 1))))))),?_⟩;refine⟨λ m x L hm hL=>?_,λ m x d hm hd ho=>?_⟩
 ·have e0:AG ["net","thing"] [.tup [.int m,x],.lst (L.map .int)]=[some (.val (.tup [.int m,x])),some (.val (.lst (L.map .int)))]:=rfl;rw[e0];have hd:sQ (.lst (L.map D.int)):=⟨rfl,λ xs e=>by
   cases e;exact⟨by rw[zC,GL hL];omega,λ e he=>by obtain⟨j,_,rfl⟩:=za0.mp he;rfl⟩⟩
  have h1:=LP m x _ hm hd;rw[U8 hL] at h1;refine Bl ?_;apply wp_step
  ·simp_arith[h1];rfl
  simp_arith[];exact⟨_,rfl,rfl⟩
 ·have e0:AG ["net","thing"] [.tup [.int m,x],d]=[some (.val (.tup [.int m,x])),some (.val d)]:=rfl;rw[e0];have h1:=LP m x _ hm hd;rw[ho] at h1;simp_arith[h1];rfl
noncomputable def CZ:List D->M OT:=zH Di
theorem Lp:Txt K mg->BV P w K mg base "checked_order" 3 2 CZ:=(zB Di).1
theorem Lq:(∀(m:Nat) (x:D) (L:List Int),m<=60->L.Perm (B2 m)->CZ [.tup [.int m,x],.lst (L.map .int)]=.ok (.lst ((L.map D.int).map .sh)))/\(∀(m:Nat) (x d:D),m<=60->sQ d->EQ m d=false->CZ [.tup [.int m,x],d]=.ex "NoOrder"):=(zB Di).2
theorem F9:∃F:List D->M OT,(∀ {P w K mg base},Txt K mg->BV P w K mg base "first_bows" 2 1 F)/\(∀(m:Nat) (rs:List Road),m<=20->(∀r∈rs,HY m r/\r.a≠r.b)->F [Ah m rs]=.ok (.Bd true ((BL rs).map pD) ((D4 (BL rs)).map .sh))):=by
 refine⟨_,λ T=>AI (k:=1) T.R4 F3 _ (λ f B4 A outer s H E hr=>(A4 (Cw 1 F3.nd rfl (zan rfl) (RV true)) (A4 (BC A9.toXCall.own rfl (Be (Ae (AU hr 16 (by decide)) (A1 0 (pv 0)) A6)) (AN 2 F3.nd rfl (zan rfl)) (A5 (B7 (HA (c:=true) (An (Ad A9.toXCall (FN T) (hr.mono (by decide)) rfl (A2 (A1 2 (pv 2)) A8) rfl))) (A5 (Mt (AU hr 16 (by decide)) (C1 1 (pv 1)) (AR (A2 (Ae (AU hr 16 (by decide)) (A1 2 (pv 2)) A6) (A2 (Ae (AU hr 16 (by decide)) (A1 2 (pv 2)) A6) A8))) CQ)) Ay))) (A5 (DR 1 (pv 1)))))),?_⟩;intro m rs hm Au;have e0:AG ["net","bows","road"] [Ah m rs]=[some (.val (Ah m rs)),none,none]:=rfl;rw[e0];refine Bl ?_;apply wp_step
 ·rfl
 have n1:Bf (Ah m rs) (.int 1)=.ok (.lst (rs.map Ca)):=rfl;refine C4 (I:=λ ρ=>∃s2,ρ=[some (.val (Ah m rs)),some (.ow (.tree none (.Bd true ((BL rs).map pD) ((D4 (BL rs)).map .sh)))),s2]) ?_ ?_
 ·simp_arith[n1];refine BD (λ i ρ=>∃s2,ρ=[some (.val (Ah m rs)),some (.ow (.tree none (.Bd true ((BL (rs.take i)).map pD) ((D4 (BL (rs.take i))).map .sh)))),s2]) ⟨none,rfl⟩ ?_ ?_
  ·rintro i d ρ hd ⟨s2,rfl⟩;rw[za2] at hd;cases hq:rs[i]? with
   |none=>rw[hq] at hd;cases hd
   |some r =>
    rw[hq] at hd;cases hd;have hr:=zM hq;have et:rs.take (i+1)=rs.take i++[r]:=by rw[zb7,hq];rfl
    have eb:BL (rs.take (i+1))=(match r.l with|none=>BL (rs.take i)|some _=>L9 (BL (rs.take i)) (r.a,r.b)):=by
     unfold BL;rw[et,List.foldl_append];rfl
    have yz:=Si (m:=m) (rs:=rs.take i) λ r' h'=>Au r' (zb9 h');have hlen:=yz.len hm;have h1:=FO r;refine⟨_,rfl,?_⟩;cases hl:r.l with
    |none =>
     have e1:Cq r=none:=by unfold Cq;rw[hl]
     rw[hl] at eb;rw[e1] at h1;simp_arith[h1,cst,Bj];exact⟨_,by rw[eb]⟩
    |some l =>
     have e1:Cq r=some (l,1):=by unfold Cq;rw[hl]
     rw[hl] at eb;rw[e1] at h1;have i0:Bf (Ca r) (.int 0)=.ok (.int r.a):=rfl;have i1:Bf (Ca r) (.int 1)=.ok (.int r.b):=rfl;have kk:keyOk true (D.tup [.int r.a,.int r.b])=true/\((BL (rs.take i)).map pD).length<1000:=⟨rfl,by rw[zC];exact hlen⟩;have pp:putD ((BL (rs.take i)).map pD) (D4 (BL (rs.take i))) (D.tup [.int r.a,.int r.b]) (.bl true)=_:=VC (BL (rs.take i)) (r.a,r.b);simp_arith[h1,cst,Bj,Bool.not_false,if_true,i0,i1,if_pos kk,pp];exact⟨_,by rw[eb]⟩
  ·rintro ρ ⟨s2,rfl⟩;rw[zC,zb6];exact⟨s2,rfl⟩
 ·rintro ρ ⟨s2,rfl⟩;exact⟨_,rfl,rfl⟩
noncomputable def LQ:List D->M OT:=zH F9
theorem OL:Txt K mg->BV P w K mg base "first_bows" 2 1 LQ:=(zB F9).1
theorem OM:∀(m:Nat) (rs:List Road),m<=20->(∀r∈rs,HY m r/\r.a≠r.b)->LQ [Ah m rs]=.ok (.Bd true ((BL rs).map pD) ((D4 (BL rs)).map .sh)):=(zB F9).2
theorem DC:∃F:List D->M OT,(∀ {P w K mg base},Txt K mg->BV P w K mg base "missing_bows" 1 3 F)/\(∀(B:List (Int×Int)) (vs:List D) (L:List Int) (v:Int),L.length<=30->F [.Bd true (B.map pD) vs,.lst (L.map .int),.int v]=.ok (.lst (((B3 B L v).map pD).map .sh))):=by
 refine⟨_,λ T=>AI (k:=0) T.O4 BU _ (λ f B4 A outer s H E hr=>(A4 (JB (NB:=["u","bows","place"]) 3 [none,some 0,some 2] BU.nd rfl (zan rfl) rfl (Be (A1 1 (pv 1))) rfl rfl (Bw 0 (by decide) rfl rfl rfl) (λ _ _ _ _=>Fy (L7 (c:=true) (AU hr 16 (by decide)) (AR (A2 (A1 0 (pv 0)) (A2 (A1 2 (pv 2)) A8))) (A1 1 (pv 1)))) (λ _ _ _ _=>(A1 0 (pv 0)))) (A4 (JB (NB:=["w","bows","place"]) 4 [none,some 0,some 2] BU.nd rfl (zan rfl) rfl (Be (A1 1 (pv 1))) rfl rfl (Bw 0 (by decide) rfl rfl rfl) (λ _ _ _ _=>Fy (L7 (c:=true) (AU hr 16 (by decide)) (AR (A2 (A1 2 (pv 2)) (A2 (A1 0 (pv 0)) A8))) (A1 1 (pv 1)))) (λ _ _ _ _=>(A1 0 (pv 0)))) (A4 (Cw 5 BU.nd rfl (zan rfl) (L5 DQ)) (A4 (BC A9.toXCall.own rfl (Be (A1 3 (pv 3))) (AN 6 BU.nd rfl (Or.inr rfl)) (A5 (YR (C1 5 (pv 5)) (by exact (DU (NB:=["w","u","bows"]) [none,some 6,some 0] rfl (Be (A1 4 (pv 4))) rfl rfl (Bw 0 (by decide) rfl rfl rfl) (λ _ _ _ _=>Fy (DW.dt (IL (Gx (c:=true) (AU hr 16 (by decide)) (A1 1 (pv 1)) (A1 0 (pv 0))) (Fw (Mr (c:=true) (AU hr 16 (by decide)) (AR (A2 (A1 1 (pv 1)) (A2 (A1 0 (pv 0)) A8))) (A1 2 (pv 2))))))) (λ _ _ _ _=>(AR (A2 (A1 1 (pv 1)) (A2 (A1 0 (pv 0)) A8))))))))) (A5 (DR 5 (pv 5)))))))),?_⟩;intro B vs L v hl;have e0:AG ["bows","left","place","ahead","behind","missing","u"] [.Bd true (B.map pD) vs,.lst (L.map .int),.int v]=[some (.val (.Bd true (B.map pD) vs)),some (.val (.lst (L.map .int))),some (.val (.int v)),none,none,none,none]:=rfl;rw[e0];refine Bl ?_;have hL:(L.map D.int).length<=1000:=by rw[zC];omega
 apply wp_step
 ·simp_arith[if_pos hL];rw[C5 (λ u=>decide ((u,v)∈B)) D.int (λ u hu=>⟨_,rfl,by simp[sI,sJ,MH,zV,zP,M.A7,HG,HF,JG,JX,JY,JZ,Mx,IW,IX,Pp,JO,JP,HI,Vd,Mu,Mv,JQ,fT,HJ,HK,FC,Qu,D8,Qv,JR,JS,HL,Vg,JN,Fi,toCl_list,toCl_listP,toCl_dct,My,K0,K1,K2,K3,Mz,K4,K5,K6,pE,pC,JT,Vh,JU,Vi,JV,JW,Mw,Vj,tW,tX,fW,fX,fY,fZ,gB,gC,toCl_nil,JA,Iv,P9,Qw,HM,MA,MB,K7,K8,MC,MD,ME,MF,MG,K9,Ka,Kb,Kc,HN,HP,HQ,HR,HS,Kd,HU,HV,Vk,Vl,Vm,Vn,Vo,HW,ite_tt,ite_ff,Bool.not_true,Bool.not_false,zb4,zaa,Fl,Km,Kn,fV,iA,fU,iD,iE,iF,MN,QI,QJ,QK,Eb,Ig,MO,QB,iP,VI,QQ,QC],λ _=>by simp_arith[]⟩)];simp_arith[];rfl
 apply wp_step
 ·simp_arith[if_pos hL];rw[C5 (λ w=>decide ((v,w)∈B)) D.int (λ u hu=>⟨_,rfl,by simp[sI,sJ,MH,zV,zP,M.A7,HG,HF,JG,JX,JY,JZ,Mx,IW,IX,Pp,JO,JP,HI,Vd,Mu,Mv,JQ,fT,HJ,HK,FC,Qu,D8,Qv,JR,JS,HL,Vg,JN,Fi,toCl_list,toCl_listP,toCl_dct,My,K0,K1,K2,K3,Mz,K4,K5,K6,pE,pC,JT,Vh,JU,Vi,JV,JW,Mw,Vj,tW,tX,fW,fX,fY,fZ,gB,gC,toCl_nil,JA,Iv,P9,Qw,HM,MA,MB,K7,K8,MC,MD,ME,MF,MG,K9,Ka,Kb,Kc,HN,HP,HQ,HR,HS,Kd,HU,HV,Vk,Vl,Vm,Vn,Vo,HW,ite_tt,ite_ff,Bool.not_true,Bool.not_false,zb4,zaa,Fl,Km,Kn,fV,iA,fU,iD,iE,iF,MN,QI,QJ,QK,Eb,Ig,MO,QB,iP,VI,QQ,QC],λ _=>by simp_arith[]⟩)];simp_arith[];rfl
 apply wp_step
 ·rfl
 try simp only[zV,zP]
 have wS:((L.filter λ w=>decide ((v,w)∈B)).map D.int).length<=1000:=by rw[zC];exact zat (zbp _ _) (by omega)
 have hlen:=X2 B L v;have zt:L.length*L.length<=30*30:=Nat.mul_le_mul hl hl;generalize hA:L.filter (λ u=>decide ((u,v)∈B))=A;generalize hW:L.filter (λ w=>decide ((v,w)∈B))=W at wS ⊢;obtain⟨G,hG⟩:∃G:Int->List (Int×Int),G=λ u=>((W.filter λ w=>decide (u≠w) && !decide ((u,w)∈B)).map λ w=>(u,w)):=⟨_,rfl⟩;have fc:B3 B L v=A.flatMap G:=by unfold B3;rw[hA,hW,hG]
 refine C4 (I:=λ ρ=>∃s6,ρ=[some (.val (.Bd true (B.map pD) vs)),some (.val (.lst (L.map .int))),some (.val (.int v)),some (.val (.lst (A.map .int))),some (.val (.lst (W.map .int))),some (.own ((A.flatMap G).map pD)),s6]) ?_ ?_
 ·simp_arith[];refine BD (λ i ρ=>∃s6,ρ=[some (.val (.Bd true (B.map pD) vs)),some (.val (.lst (L.map .int))),some (.val (.int v)),some (.val (.lst (A.map .int))),some (.val (.lst (W.map .int))),some (.own (((A.take i).flatMap G).map pD)),s6]) ⟨none,rfl⟩ ?_ ?_
  ·rintro i d ρ hd ⟨s6,rfl⟩;obtain⟨u,hu,rfl⟩:=C6 hd;have et:A.take (i+1)=A.take i++[u]:=by rw[zb7,hu];rfl
   refine⟨_,rfl,?_⟩;have hb:(((A.take i).flatMap G).map pD).length+((G u).map pD).length<=1000:=by
    have h1:((A.take (i+1)).flatMap G).length<=(A.flatMap G).length:=by
     conv=>rhs;rw[<-zbg (i+1) A,List.flatMap_append,za7]
     omega
    rw[et,List.flatMap_append,za7] at h1;rw[fc] at hlen;simp only[List.flatMap_cons,List.flatMap_nil,zal] at h1;rw[zC,zC];omega
   have mh:(((W.filter λ w=>decide (u≠w) && !decide ((u,w)∈B)).map λ w=>(u,w)).map pD)=(W.filter λ w=>decide (u≠w) && !decide ((u,w)∈B)).map λ w=>D.tup [.int u,.int w]:=by rw[zam];rfl
   refine Bm (ρ':=[some (.val (.Bd true (B.map pD) vs)),some (.val (.lst (L.map .int))),some (.val (.int v)),some (.val (.lst (A.map .int))),some (.val (.lst (W.map .int))),some (.own (((A.take (i+1)).flatMap G).map pD)),some (.val (.int u))]) ?_ ⟨_,rfl⟩;simp_arith[if_pos wS];rw[C5 (λ w=>decide (u≠w) && !decide ((u,w)∈B)) (λ w=>D.tup [.int u,.int w]) (λ w hw=>⟨_,rfl,by
    simp[sI,sJ,MH,zV,zP,M.A7,HG,HF,JG,JX,JY,JZ,Mx,IW,IX,Pp,JO,JP,HI,Vd,Mu,Mv,JQ,fT,HJ,HK,FC,Qu,D8,Qv,JR,JS,HL,Vg,JN,Fi,toCl_list,toCl_listP,toCl_dct,My,K0,K1,K2,K3,Mz,K4,K5,K6,pE,pC,JT,Vh,JU,Vi,JV,JW,Mw,Vj,tW,tX,fW,fX,fY,fZ,gB,gC,toCl_nil,JA,Iv,P9,Qw,HM,MA,MB,K7,K8,MC,MD,ME,MF,MG,K9,Ka,Kb,Kc,HN,HP,HQ,HR,HS,Kd,HU,HV,Vk,Vl,Vm,Vn,Vo,HW,ite_tt,ite_ff,Bool.not_true,Bool.not_false,zb4,zaa,Fl,Km,Kn,fV,iA,fU,iD,iE,iF,MN,QI,QJ,QK,Eb,Ig,MO,QB,iP,VI,QQ,QC,Wo,IJ,AM,Ax];by_cases h:u=w<;>simp[h],λ _=>by simp_arith[]⟩)]
   rw[<-mh];have y2:((W.filter λ w=>decide (u≠w) && !decide ((u,w)∈B)).map λ w=>(u,w))=G u:=by rw[hG]
   rw[y2];simp_arith[if_pos hb];rw[et,List.flatMap_append,List.flatMap_cons,List.flatMap_nil,zal,<-zag]
  ·rintro ρ ⟨s6,rfl⟩;rw[zC,zb6];exact⟨s6,rfl⟩
 ·rintro ρ ⟨s6,rfl⟩;rw[fc];exact⟨_,rfl,rfl⟩
noncomputable def IB:List D->M OT:=zH DC
theorem Ge:Txt K mg->BV P w K mg base "missing_bows" 1 3 IB:=(zB DC).1
theorem Gg:∀(B:List (Int×Int)) (vs:List D) (L:List Int) (v:Int),L.length<=30->IB [.Bd true (B.map pD) vs,.lst (L.map .int),.int v]=.ok (.lst (((B3 B L v).map pD).map .sh)):=(zB DC).2
theorem Hn:∃F:List D->M OT,(∀ {P w K mg base},Txt K mg->BV P w K mg base "lightest" 2 2 F)/\(∀(B:List (Int×Int)) (vs:List D) (L:List Int),L≠[]->L.length<=30->F [.Bd true (B.map pD) vs,.lst (L.map .int)]=.ok (.sh (.int (Bn B L)))):=by
 refine⟨_,λ T=>AI (k:=1) T.Uu SA _ (λ f B4 A outer s H E hr=>(A5 (Al (B1 (Ae (AU hr 16 (by decide)) (fK rfl (AU hr 16 (by decide)) rfl T.ZW (An (DU (NB:=["place","bows","left"]) [none,some 0,some 1] rfl (Be (A1 1 (pv 1))) rfl rfl (Bw 0 (by decide) rfl rfl rfl) (λ _ _ _ _=>Dk) (λ _ _ _ _=>(AR (A2 (Fx rfl T.Kx (An (Cj (Ad (BH rfl).toXCall (Ge T) (hr.mono (by decide)) rfl (A2 (A1 1 (pv 1)) (A2 (A1 2 (pv 2)) (A2 (A1 0 (pv 0)) A8))) rfl)))) (A2 (A1 0 (pv 0)) A8))))))) A6))))),?_⟩;intro B vs L af hl;have e0:AG ["bows","left"] [.Bd true (B.map pD) vs,.lst (L.map .int)]=[some (.val (.Bd true (B.map pD) vs)),some (.val (.lst (L.map .int)))]:=rfl;rw[e0];refine Bl ?_;have hL:(L.map D.int).length<=1000:=by rw[zC];omega
 simp_arith[if_pos hL];rw[CB (λ p=>D.tup ([((B3 B L p).length:Int),p].map D.int)) (λ p hp=>⟨_,rfl,rfl,by
  have h1:=Gg B vs L p hl;simp_arith[h1,Ws,zC,zG,List.map_nil]⟩)]
 simp_arith[Vc];rw[PB];have hb:=X3 (λ p=>D.tup ([((B3 B L p).length:Int),p].map D.int)) (L.map λ p=>(p,[((B3 B L p).length:Int),p]));rw[zam] at hb;have e2:((λ b:Int×List Int=>(D.tup ([((B3 B L b.1).length:Int),b.1].map D.int),b.2)) ∘ λ p=>(p,[((B3 B L p).length:Int),p]))=λ p=>(D.tup ([((B3 B L p).length:Int),p].map D.int),[((B3 B L p).length:Int),p]):=rfl;rw[e2] at hb;dsimp only;rw[hb];unfold Bn;cases q:B0 (L.map λ p=>(p,[((B3 B L p).length:Int),p])) with
 |none=>exact (Nt (λ z=>af (List.map_eq_nil_iff.mp z)) q).elim
 |some k =>
  simp only[zbd,M.A7];rfl
noncomputable def PX:List D->M OT:=zH Hn
theorem SU:Txt K mg->BV P w K mg base "lightest" 2 2 PX:=(zB Hn).1
theorem SV:∀(B:List (Int×Int)) (vs:List D) (L:List Int),L≠[]->L.length<=30->PX [.Bd true (B.map pD) vs,.lst (L.map .int)]=.ok (.sh (.int (Bn B L))):=(zB Hn).2
theorem Lr:∃F:List D->M OT,(∀ {P w K mg base},Txt K mg->BV P w K mg base "ranked" 3 1 F)/\(∀(m:Nat) (rs:List Road),m<=20->(∀r∈rs,HY m r/\r.a≠r.b)->F [Ah m rs]=.ok (.lst (((Xw m (BL rs) (B2 m)).map D.int).map .sh))):=by
 refine⟨_,λ T=>AI (k:=2) T.ZU Ec _ (λ f B4 A outer s H E hr=>(A4 (Cw 1 Ec.nd rfl (zan rfl) (Ad A9.toXCall (OL T) (hr.mono (by decide)) rfl (A2 (A1 0 (pv 0)) A8) rfl)) (A4 (Cw 2 Ec.nd rfl (zan rfl) (JM rfl rfl T.EA rfl T.BP (Ae (AU hr 16 (by decide)) (A1 0 (pv 0)) A6))) (A4 (Cw 3 Ec.nd rfl (zan rfl) (L5 DQ)) (A4 (RM A9.toXCall.own (L6 (BO (c:=true) (A1 2 (pv 2)))) (A4 (AV 4 Ec.nd rfl (zan rfl) (An (FA (Ad A9.toXCall (SU T) (hr.mono (by decide)) rfl (A2 (A1 1 (pv 1)) (A2 (A1 2 (pv 2)) A8)) rfl)))) (A4 (BC A9.toXCall.own rfl (Be (An (FA (Ad A9.toXCall (Ge T) (hr.mono (by decide)) rfl (A2 (A1 1 (pv 1)) (A2 (A1 2 (pv 2)) (A2 (A1 4 (pv 4)) A8))) rfl)))) (AN 5 Ec.nd rfl (zan rfl)) (A5 (Mt (AU hr 16 (by decide)) (C1 1 (pv 1)) (A1 5 (pv 5)) CQ))) (A4 (WM (C1 2 (pv 2)) (A1 4 (pv 4))) (A5 (KY 3 (pv 3) (A1 4 (pv 4)))))))) (A5 (DR 3 (pv 3)))))))),?_⟩;intro m rs hm Au;have e0:AG ["net","bows","left","order","place","bow"] [Ah m rs]=[some (.val (Ah m rs)),none,none,none,none,none]:=rfl;rw[e0];refine Bl ?_;have h1:=OM m rs hm Au;have n0:Bf (Ah m rs) (.int 0)=.ok (.int m):=rfl;have h2:=Qs (n:=m) (by omega);rw[NH] at h2;apply wp_step
 ·simp_arith[h1];rfl
 apply wp_step
 ·simp_arith[n0,h2];rfl
 apply wp_step
 ·rfl
 try simp only[zV,zP]
 refine C4 (I:=λ ρ=>∃s1 s2 s4 s5,ρ=[some (.val (Ah m rs)),s1,s2,some (.own ((Xw m (BL rs) (B2 m)).map D.int)),s4,s5]) ?_ ?_
 ·refine RW (lt:=λ a b:Nat=>a<b) (λ n ρ=>∃(B:List (Int×Int)) (L O:List Int) (s4 s5:Option Cl),ρ=[some (.val (Ah m rs)),some (.ow (.tree none (.Bd true (B.map pD) ((D4 B).map .sh)))),some (.own (L.map D.int)),some (.own (O.map D.int)),s4,s5]/\L.length=n/\n+O.length=m/\Cm m B/\(∀p∈L,0<=p/\p<(m:Int))/\O++Xw n B L=Xw m (BL rs) (B2 m)) (Nat.lt_wfRel.wf.apply m) ⟨BL rs,B2 m,[],none,none,rfl,GJ m,by simp,Si Au,λ p hp=>Kl.mp hp,rfl⟩ ?_;rintro n ρ ⟨B,L,O,s4,s5,rfl,hn,hO,hB,hL,dr⟩;by_cases lj:L=[]
  ·subst lj;left;have:n=0:=by simpa using hn.symm
   subst this;rw[Xw,zal] at dr;exact⟨rfl,⟨_,_,_,_,by rw[dr]⟩⟩
  ·right;have lm:L.length<=30:=by omega
   have q1:=SV B (D4 B) L lj lm;have q2:=Gg B (D4 B) L (Bn B L) lm;obtain⟨bf,_⟩:=X5 (B:=B) lj;have ln:0<L.length:=List.length_pos_of_mem bf;obtain⟨n',rfl⟩:∃n',n=n'+1:=⟨n-1,by omega⟩;rw[Xw,if_neg lj] at dr;constructor
   ·simp_arith[YY];cases L with
    |nil=>exact (lj rfl).elim
    |cons x r=>rfl
   apply wp_step
   ·simp_arith[q1,nE gE];rfl
   try simp only[zV,zP]
   have kg:JE ((B3 B L (Bn B L)).map pD)=true:=RY Zk _;refine C4 (I:=λ ρ=>∃s5,ρ=[some (.val (Ah m rs)),some (.ow (.tree none (.Bd true ((Ck B (B3 B L (Bn B L))).map pD) ((D4 (Ck B (B3 B L (Bn B L)))).map .sh)))),some (.own (L.map D.int)),some (.own (O.map D.int)),some (.val (.int (Bn B L))),s5]) ?_ ?_
   ·simp_arith[q2,gD kg];refine BD (λ i ρ=>∃s5,ρ=[some (.val (Ah m rs)),some (.ow (.tree none (.Bd true ((Ck B ((B3 B L (Bn B L)).take i)).map pD) ((D4 (Ck B ((B3 B L (Bn B L)).take i))).map .sh)))),some (.own (L.map D.int)),some (.own (O.map D.int)),some (.val (.int (Bn B L))),s5]) ⟨s5,rfl⟩ ?_ ?_
    ·rintro i d ρ hd ⟨s5,rfl⟩;obtain⟨p,hp,rfl⟩:=C6 hd;refine⟨_,rfl,?_⟩;have y3:Cm m (Ck B ((B3 B L (Bn B L)).take i)):=hB.Ck λ q hq=>by
      have:=PD (zb9 hq);exact⟨this.2.2,hL _ this.1,hL _ this.2.1⟩
     have kk:keyOk true (pD p)=true/\((Ck B ((B3 B L (Bn B L)).take i)).map pD).length<1000:=⟨rfl,by rw[zC];exact y3.len hm⟩;have et:(B3 B L (Bn B L)).take (i+1)=(B3 B L (Bn B L)).take i++[p]:=by rw[zb7,hp];rfl
     have ea:Ck B ((B3 B L (Bn B L)).take (i+1))=L9 (Ck B ((B3 B L (Bn B L)).take i)) p:=by
      unfold Ck;rw[et,List.foldl_append];rfl
     simp_arith[if_pos kk,VC];exact⟨_,by rw[ea]⟩
    ·rintro ρ ⟨s5,rfl⟩;rw[zC,zb6];exact⟨s5,rfl⟩
   ·rintro ρ ⟨s5,rfl⟩;have y4:(O.map D.int).length<1000:=by rw[zC];omega
    apply wp_step
    ·simp_arith[E8,if_pos bf];rfl
    refine Bm (ρ':=[some (.val (Ah m rs)),some (.ow (.tree none (.Bd true ((Ck B (B3 B L (Bn B L))).map pD) ((D4 (Ck B (B3 B L (Bn B L)))).map .sh)))),some (.own ((L.erase (Bn B L)).map D.int)),some (.own ((O++[Bn B L]).map D.int)),some (.val (.int (Bn B L))),s5]) ?_ ?_
    ·simp_arith[if_pos y4,zag,zG,List.map_nil]
    ·have hlen:=List.length_erase_of_mem bf;refine⟨n',by omega,_,_,_,_,_,rfl,by omega,by rw[za7];simp;omega,hB.Ck λ q hq=>?_,λ p hp=>hL p (List.mem_of_mem_erase hp),?_⟩
     ·have:=PD hq;exact⟨this.2.2,hL _ this.1,hL _ this.2.1⟩
     ·rw[zaw];exact dr
 ·rintro ρ ⟨s1,s2,s4,s5,rfl⟩;exact⟨_,rfl,rfl⟩
noncomputable def VY:List D->M OT:=zH Lr
theorem Xq:Txt K mg->BV P w K mg base "ranked" 3 1 VY:=(zB Lr).1
theorem Xr:∀(m:Nat) (rs:List Road),m<=20->(∀r∈rs,HY m r/\r.a≠r.b)->VY [Ah m rs]=.ok (.lst (((Xw m (BL rs) (B2 m)).map D.int).map .sh)):=(zB Lr).2
theorem Fb:∃F:List D->M OT,(∀ {P w K mg base},Txt K mg->BV P w K mg base "costs_from" 2 2 F)/\(∀(m s:Nat) (rs:List Road),s<m->m<=900->(∀r∈rs,HY m r)->∃cs:List Co,Right m s rs cs/\F [Ah m rs,.int s]=.ok (.lst ((cs.map cst).map .sh))):=by
 refine⟨_,λ T=>AI (k:=1) T.R5 BE _ (λ f B4 A outer s H E hr=>(A4 (Cw 2 BE.nd rfl (zan rfl) (Z0 Fu (Ae (AU hr 16 (by decide)) (A1 0 (pv 0)) A6))) (A4 (YD 2 (pv 2) (AR (A2 A6 (A2 A6 A8))) (A1 1 (pv 1))) (A4 (AV 3 BE.nd rfl (zan rfl) CQ) (A4 (RM A9.toXCall.own (BO (c:=true) (A1 3 (pv 3))) (A4 (AV 3 BE.nd rfl (zan rfl) CQ) (A5 (BC A9.toXCall.own rfl (Be (Ae (AU hr 16 (by decide)) (A1 0 (pv 0)) A6)) (AN 4 BE.nd rfl (zan rfl)) (A4 (AV 5 BE.nd rfl (zan rfl) (An (FA (Ad A9.toXCall (KA T) (hr.mono (by decide)) rfl (A2 (IK (A2 (Ae (AU hr 16 (by decide)) (A1 2 (pv 2)) (Ae (AU hr 16 (by decide)) (A1 4 (pv 4)) A6)) (A2 (An (Ad A9.toXCall (Ky T) (hr.mono (by decide)) rfl (A2 (Ae (AU hr 16 (by decide)) (A1 2 (pv 2)) (Ae (AU hr 16 (by decide)) (A1 4 (pv 4)) A6)) (A2 (An (Ad A9.toXCall (FN T) (hr.mono (by decide)) rfl (A2 (A1 4 (pv 4)) A8) rfl)) A8)) rfl)) A8))) A8) rfl)))) (A5 (B7 (L6 (Gx (c:=true) (AU hr 16 (by decide)) (A1 5 (pv 5)) (Ae (AU hr 16 (by decide)) (A1 2 (pv 2)) (Ae (AU hr 16 (by decide)) (A1 4 (pv 4)) A6)))) (A4 (YD 2 (pv 2) (A1 5 (pv 5)) (Ae (AU hr 16 (by decide)) (A1 4 (pv 4)) A6)) (A5 (AV 3 BE.nd rfl (zan rfl) CQ))) Ay))))))) (A5 (DR 2 (pv 2)))))))),?_⟩;intro m s rs hs hm Au;have e0:AG ["net","start","costs","changed","road","cost"] [Ah m rs,.int s]=[some (.val (Ah m rs)),some (.val (.int s)),none,none,none,none]:=rfl;rw[e0];refine (λ h:∃t,_/\∃cs:List Co,Right m s rs cs/\t=.lst ((cs.map cst).map .sh)=>by
  obtain⟨t,h1,cs,h2,rfl⟩:=h;exact⟨cs,h2,h1⟩) (Nw ?_)
 have n0:Bf (Ah m rs) (.int 0)=.ok (.int m):=rfl;have n1:Bf (Ah m rs) (.int 1)=.ok (.lst (rs.map Ca)):=rfl;have du:=S1 (d:=.AF) (n:=m) (by omega);have ss:zR m D.AF=(zR m (none:Co)).map cst:=by rw[List.map_replicate];rfl
 rw[ss] at du;apply wp_step
 ·simp_arith[n0,du];rfl
 try simp only[zV,zP]
 have bI:=VE (i:=2) (ρ:=[some (.val (Ah m rs)),some (.val (.int s)),some (.own ((zR m (none:Co)).map cst)),none,none,none]) (d:=.tup [.int 0,.int 0]) (p:=(s:Int)) rfl (by omega) (by rw[zC,zcc];omega);have ij:((zR m (none:Co)).map cst).set (s:Int).toNat (.tup [.int 0,.int 0])=((zR m none).set s (some (0,0))).map cst:=by rw[zax,List.map_set];rfl
 rw[ij] at bI;apply wp_step
 ·simp_arith[bI];rfl
 try simp only[zV,zP]
 apply wp_step
 ·rfl
 try simp only[zV,zP]
 refine C4 (I:=λ ρ=>∃(cs:List Co) (s3 s4 s5:Option Cl),ρ=[some (.val (Ah m rs)),some (.val (.int s)),some (.own (cs.map cst)),s3,s4,s5]/\Right m s rs cs) ?_ ?_
 ·refine RW (lt:=vT) (λ z ρ=>∃(s4 s5:Option Cl),ρ=[some (.val (Ah m rs)),some (.val (.int s)),some (.own (z.1.map cst)),some (.val (.bl z.2)),s4,s5]/\Good m s rs z.1/\(z.2=false->Right m s rs z.1)) (oE _) ⟨none,none,rfl,NG rs hs,λ e=>by cases e⟩ ?_;rintro ⟨cs,b⟩ ρ ⟨s4,s5,rfl,g,hR⟩;cases b with
  |false=>exact .inl ⟨rfl,cs,_,s4,s5,rfl,hR rfl⟩
  |true =>
   refine .inr ⟨rfl,?_⟩;apply wp_step
   ·rfl
   try simp only[zV,zP]
   simp_arith[n1];refine BD (λ i ρ=>∃(a8:List Co) (ch:Bool) (s4 s5:Option Cl),ρ=[some (.val (Ah m rs)),some (.val (.int s)),some (.own (a8.map cst)),some (.val (.bl ch)),s4,s5]/\Good m s rs a8/\(ch=true->Oh ltN a8 cs)/\(ch=false->a8=cs/\∀r∈rs.take i,Dq (atC cs r.b) (Ap (atC cs r.a) (Cq r))=atC cs r.b)) ⟨cs,false,s4,s5,rfl,g,(λ h=>by cases h),λ _=>⟨rfl,λ r hr=>by rw[List.take_zero] at hr;cases hr⟩⟩ ?_ ?_
   ·rintro i d ρ hd ⟨a8,ch,s4,s5,rfl,g1,h1,h2⟩;obtain⟨r,hq,rfl⟩:=C6 hd;have hr:=zM hq;have ok:=Au r hr;obtain⟨g2,_,g4,g5⟩:=WW g1 hr Au;have dn:r.b<a8.length:=by rw[g1.len];exact ok.b1
    have y6:r.a<a8.length:=by rw[g1.len];exact ok.a1
    have r0:Bf (Ca r) (.int 0)=.ok (.int r.a):=rfl;have r1:Bf (Ca r) (.int 1)=.ok (.int r.b):=rfl;have x0:Bf (.lst (a8.map cst)) (.int r.a)=.ok (cst (atC a8 r.a)):=GI ok.a0 y6;have x1:Bf (.lst (a8.map cst)) (.int r.b)=.ok (cst (atC a8 r.b)):=GI ok.b0 dn;have y7:=FO r;have ie:=Kz (atC a8 r.a) (Cq r);have hle:Lo [.lst [cst (atC a8 r.b),cst (Ap (atC a8 r.a) (Cq r))]]=.ok (.sh (cst (Dq (atC a8 r.b) (Ap (atC a8 r.a) (Cq r))))):=KC [atC a8 r.b,Ap (atC a8 r.a) (Cq r)] (by simp);have af:=gY (Dq (atC a8 r.b) (Ap (atC a8 r.a) (Cq r))) (atC a8 r.b);refine⟨_,rfl,?_⟩;apply wp_step
    ·simp_arith[r0,r1,x0,x1,y7,ie,hle];rfl
    try simp only[zV,zP]
    by_cases hc:Dq (atC a8 r.b) (Ap (atC a8 r.a) (Cq r))=atC a8 r.b
    ·rw[decide_eq_true hc] at af;refine Bm (ρ':=_) (by simp_arith[r1,x1,af];rfl) ⟨a8,ch,_,_,rfl,g1,h1,λ hf=>?_⟩;obtain⟨e1,e2⟩:=h2 hf;subst e1;refine⟨rfl,λ r' bn=>?_⟩;rw[zb7,hq] at bn;rcases za5.mp bn with bn|bn
     ·exact e2 r' bn
     ·have:r'=r:=by simpa using bn
      rw[this];exact hc
    ·rw[decide_eq_false hc] at af;have bI:=VE (i:=2) (ρ:=[some (.val (Ah m rs)),some (.val (.int s)),some (.own (a8.map cst)),some (.val (.bl ch)),some (.val (Ca r)),some (.val (cst (Dq (atC a8 r.b) (Ap (atC a8 r.a) (Cq r)))))]) (d:=cst (Dq (atC a8 r.b) (Ap (atC a8 r.a) (Cq r)))) (p:=r.b) rfl ok.b0 (by rw[zC];exact dn);have ij:(a8.map cst).set r.b.toNat (cst (Dq (atC a8 r.b) (Ap (atC a8 r.a) (Cq r))))=(Dc r a8).map cst:=by unfold Dc;rw[List.map_set]
     rw[ij] at bI;simp_arith[r1,x1,af,if_true];apply wp_step
     ·simp_arith[r1,bI];rfl
     refine Bm (ρ':=_) rfl ⟨Dc r a8,true,_,_,rfl,g2,λ _=>?_,λ hf=>by cases hf⟩;cases ch with
     |false=>obtain⟨e1,_⟩:=h2 rfl;subst e1;exact g5 hc
     |true=>exact Oh.trans ltN WU (g5 hc) (h1 rfl)
   ·rintro ρ' ⟨a8,ch,s4,s5,rfl,g1,h1,h2⟩;cases ch with
    |true=>exact⟨(a8,true),⟨rfl,.inr ⟨rfl,h1 rfl⟩⟩,s4,s5,rfl,g1,λ e=>by cases e⟩
    |false =>
     obtain⟨e1,e2⟩:=h2 rfl;subst e1;rw[zC,zb6] at e2;exact⟨(a8,false),⟨rfl,.inl rfl⟩,s4,s5,rfl,g1,λ _=>right_of g1 e2⟩
 ·rintro ρ' ⟨cs,s3,s4,s5,rfl,hR⟩;exact⟨_,rfl,cs,hR,rfl⟩
noncomputable def LR:List D->M OT:=zH Fb
theorem ON:Txt K mg->BV P w K mg base "costs_from" 2 2 LR:=(zB Fb).1
theorem OO:∀(m s:Nat) (rs:List Road),s<m->m<=900->(∀r∈rs,HY m r)->∃cs:List Co,Right m s rs cs/\LR [Ah m rs,.int s]=.ok (.lst ((cs.map cst).map .sh)):=(zB Fb).2
theorem CD:∃F:List D->M OT,(∀ {P w K mg base},Txt K mg->BV P w K mg base "order_or_ranked" 4 2 F)/\(∀(m:Nat) (rs:List Road),m<=20->(∀r∈rs,HY m r/\r.a≠r.b)->(∀L:List Int,L.Perm (B2 m)->F [Ah m rs,.lst (L.map .int)]=.ok (.lst ((L.map D.int).map .sh)))/\F [Ah m rs,.AF]=.ok (.lst (((Xw m (BL rs) (B2 m)).map D.int).map .sh))):=by
 refine⟨_,λ T=>AI (k:=3) T.Kv J7 _ (λ f B4 A outer s H E hr=>(A4 (B7 (Gy (c:=true) (A1 1 (pv 1))) (A5 (Al (Ad A9.toXCall (Xq T) (hr.mono (by decide)) rfl (A2 (A1 0 (pv 0)) A8) rfl))) Ay) (A5 (Al (Ad A9.toXCall (Lp T) (hr.mono (by decide)) rfl (A2 (A1 0 (pv 0)) (A2 (A1 1 (pv 1)) A8)) rfl))))),?_⟩;intro m rs hm Au;have h1:=Xr m rs hm Au;refine⟨λ L hL=>?_,?_⟩
 ·have h2:CZ [Ah m rs,.lst (L.map .int)]=.ok (.lst ((L.map D.int).map .sh)):=Lq.1 m (.lst (rs.map Ca)) L (by omega) hL;have e0:AG ["net","order"] [Ah m rs,.lst (L.map .int)]=[some (.val (Ah m rs)),some (.val (.lst (L.map .int)))]:=rfl;rw[e0];refine Bl ?_;apply wp_step
  ·rfl
  simp_arith[h2];exact⟨_,rfl,rfl⟩
 ·have e0:AG ["net","order"] [Ah m rs,.AF]=[some (.val (Ah m rs)),some (.val .AF)]:=rfl;rw[e0];refine Bl ?_;simp_arith[Bj,h1];exact⟨_,rfl,rfl⟩
noncomputable def Cg:List D->M OT:=zH CD
theorem Jg:Txt K mg->BV P w K mg base "order_or_ranked" 4 2 Cg:=(zB CD).1
theorem EH:∀(m:Nat) (rs:List Road),m<=20->(∀r∈rs,HY m r/\r.a≠r.b)->(∀L:List Int,L.Perm (B2 m)->Cg [Ah m rs,.lst (L.map .int)]=.ok (.lst ((L.map D.int).map .sh)))/\Cg [Ah m rs,.AF]=.ok (.lst (((Xw m (BL rs) (B2 m)).map D.int).map .sh)):=(zB CD).2
theorem FR:∃F:List D->M OT,(∀ {P w K mg base},Txt K mg->BV P w K mg base "kept_arcs" 3 2 F)/\(∀(m:Nat) (rs:List Road) (A:LA),m<=20->(∀r∈rs,HY m r)->Fo m A->∃K:List (Int×Int),F [Ah m rs,LH A]=.ok (.lst ((K.map pD).map .sh))/\K.Nodup/\∀p,p∈K↔KP rs A p):=by
 refine⟨_,λ T=>AI (k:=2) T.SH DY _ (λ f B4 A outer s H E hr=>(A4 (Cw 2 DY.nd rfl (zan rfl) (L5 DQ)) (A4 (BC A9.toXCall.own rfl (Bi (c:=true) rfl T.BP (Ae (AU hr 16 (by decide)) (A1 0 (pv 0)) A6)) (AN 3 DY.nd rfl (Or.inr rfl)) (A4 (AV 4 DY.nd rfl (Or.inr rfl) (An (Ad A9.toXCall (ON T) (hr.mono (by decide)) rfl (A2 (A1 0 (pv 0)) (A2 (A1 3 (pv 3)) A8)) rfl))) (A5 (YR (C1 2 (pv 2)) (by exact (DU (NB:=["w","u","laid","costs"]) [none,some 3,some 1,some 4] rfl (Bi (c:=true) rfl T.BP (Ae (AU hr 16 (by decide)) (A1 0 (pv 0)) A6)) rfl rfl (Bw 0 (by decide) rfl rfl rfl) (λ _ _ _ _=>Fy (DW.dt (IL (L7 (c:=true) (AU hr 16 (by decide)) (AR (A2 (A1 1 (pv 1)) (A2 (A1 0 (pv 0)) A8))) (A1 2 (pv 2))) (Fw (Ly (c:=true) (AU hr 16 (by decide)) (Ae (AU hr 16 (by decide)) (Ae (AU hr 16 (by decide)) (A1 2 (pv 2)) (AR (A2 (A1 1 (pv 1)) (A2 (A1 0 (pv 0)) A8)))) A6) (Ae (AU hr 16 (by decide)) (A1 3 (pv 3)) (A1 0 (pv 0)))))))) (λ _ _ _ _=>(AR (A2 (A1 1 (pv 1)) (A2 (A1 0 (pv 0)) A8)))))))))) (A5 (DR 2 (pv 2)))))),?_⟩;intro m rs A hm Au hA;have e0:AG ["net","laid","kept","u","costs"] [Ah m rs,LH A]=[some (.val (Ah m rs)),some (.val (LH A)),none,none,none]:=rfl;rw[e0];refine (λ h:∃t,_/\∃K:List (Int×Int),t=.lst ((K.map pD).map .sh)/\K.Nodup/\∀p,p∈K↔KP rs A p=>by
  obtain⟨t,h1,K,rfl,h2⟩:=h;exact⟨K,h1,h2⟩) (Nw ?_)
 have n0:Bf (Ah m rs) (.int 0)=.ok (.int m):=rfl;have hr:Wv (.int (m:Int))=.ok ((B2 m).map D.int):=by rw[Jz (by omega),Uj]
 have hl:((B2 m).map D.int).length<=1000:=by rw[zC,GJ];omega
 apply wp_step
 ·rfl
 try simp only[zV,zP]
 refine C4 (I:=λ ρ=>∃(K:List (Int×Int)) (s3 s4:Option Cl),ρ=[some (.val (Ah m rs)),some (.val (LH A)),some (.own (K.map pD)),s3,s4]/\K.Nodup/\∀p,p∈K↔KP rs A p) ?_ ?_
 ·simp_arith[n0,hr];refine BD (λ i ρ=>i<=m/\∃(K:List (Int×Int)) (s3 s4:Option Cl),ρ=[some (.val (Ah m rs)),some (.val (LH A)),some (.own (K.map pD)),s3,s4]/\K.Nodup/\∀p,p∈K↔(p.1<i/\KP rs A p)) ⟨zak _,[],none,none,rfl,zb5,λ p=>⟨(λ h=>by cases h),λ h=>by
   obtain⟨c,hc,_⟩:=h.2;have:=(hA.rg p (Fm hc)).2.1;omega⟩⟩ ?_ ?_
  ·rintro i d ρ hd ⟨hi,K,s3,s4,rfl,hn,hK⟩;obtain⟨u,hu,rfl⟩:=C6 hd;have aj:i<m:=by have:=(zY.mp hu).1;rw[GJ] at this;exact this
   have eu:u=(i:Int):=by
    unfold B2 at hu;rw[za2,zc2 aj] at hu;exact (za6 hu).symm
   subst eu;obtain⟨cs,hR,hF⟩:=OO m i rs aj (by omega) Au;refine⟨_,rfl,?_⟩;apply wp_step
   ·simp_arith[hF];rfl
   try simp only[zV,zP]
   obtain⟨W,hW⟩:∃W,W=(B2 m).filter λ w=>sU A cs i w:=⟨_,rfl⟩;have wT:∀w,w∈W↔KP rs A ((i:Int),w):=λ w=>by
    rw[hW,zas,Kl];constructor
    ·rintro ⟨hw,h⟩;exact (ZC hR Au hw.1 hw.2).mp h
    ·intro h;obtain⟨c,hc,_⟩:=id h;have:=(hA.rg _ (Fm hc)).2.2;exact⟨this,(ZC hR Au this.1 this.2).mpr h⟩
   have y8:W.Nodup:=by rw[hW];exact (NI m).filter _
   have aD:(K++W.map λ w=>((i:Int),w)).Nodup:=by
    rw[za9];refine⟨hn,List.pairwise_map.mpr (y8.imp fun {a b} lf e=>lf (by cases e;rfl)),λ x hx y hy e=>?_⟩;subst e;obtain⟨w,_,rfl⟩:=za0.mp hy;have:=(hK _).mp hx;simp at this
   have wY:∀p,p∈K++W.map (λ w=>((i:Int),w))↔(p.1<((i+1:Nat):Int)/\KP rs A p):=λ p=>by
    rw[za5,hK];constructor
    ·rintro (h|h)
     ·exact⟨by have:=h.1;omega,h.2⟩
     ·obtain⟨w,hw,rfl⟩:=za0.mp h;exact⟨by dsimp only;omega,(wT w).mp hw⟩
    ·rintro ⟨h1,h2⟩;by_cases e:p.1<(i:Int)
     ·exact .inl ⟨e,h2⟩
     ·have e2:p.1=(i:Int):=by omega
      obtain⟨p1,p2⟩:=p;dsimp only at e2;subst e2;exact .inr (za0.mpr ⟨p2,(wT p2).mpr h2,rfl⟩)
   have hlen:=oF hA hm aD λ p hp=>((wY p).mp hp).2;have hb:(K.map pD).length+((W.map λ w=>((i:Int),w)).map pD).length<=1000:=by
    rw[za7] at hlen;rw[zC,zC];omega
   refine Bm (ρ':=[some (.val (Ah m rs)),some (.val (LH A)),some (.own ((K++W.map λ w=>((i:Int),w)).map pD)),some (.val (.int i)),some (.val (.lst (cs.map cst)))]) ?_ ⟨aj,_,_,_,rfl,aD,wY⟩;have t1:∀a b:Int,D.tup [.int a,.int b]=pD (a,b):=λ a b=>rfl;simp_arith[n0,hr,if_pos hl];rw[C5 (λ w=>sU A cs i w) (λ w=>pD ((i:Int),w)) (λ w hw=>⟨_,rfl,by
    have wZ:=Kl.mp hw;have x1:Bf (.lst (cs.map cst)) (.int w)=.ok (cst (atC cs w)):=GI wZ.1 (by rw[hR.1];exact wZ.2);have dq:=QL A ((i:Int),w) false;unfold sU Ao;cases q:Av A ((i:Int),w) with
    |none =>
     rw[q] at dq;simp_arith[t1,dq];rfl
    |some v =>
     rw[q] at dq;have hit:=QM q;have h0:Bf (Xa v) (.int 0)=.ok (cst (some v.1)):=rfl;have he:=ML (some v.1) (atC cs w);simp_arith[t1,dq,hit,h0,x1,he];rfl,λ _=>by simp_arith[t1]⟩)]
   rw[<-hW];have ew:W.map (λ w=>pD ((i:Int),w))=(W.map λ w=>((i:Int),w)).map pD:=by rw[zam];rfl
   rw[ew];simp_arith[if_pos hb];rw[<-zag]
  ·rintro ρ ⟨_,K,s3,s4,rfl,hn,hK⟩;refine⟨K,s3,s4,rfl,hn,λ p=>(hK p).trans ⟨λ h=>h.2,λ h=>⟨?_,h⟩⟩⟩;obtain⟨c,hc,_⟩:=h;have:=(hA.rg p (Fm hc)).2.1;rw[zC,GJ];omega
 ·rintro ρ ⟨K,s3,s4,rfl,hn,hK⟩;exact⟨_,rfl,K,rfl,hn,hK⟩
noncomputable def Od:List D->M OT:=zH FR
theorem R9:Txt K mg->BV P w K mg base "kept_arcs" 3 2 Od:=(zB FR).1
theorem Ra:∀(m:Nat) (rs:List Road) (A:LA),m<=20->(∀r∈rs,HY m r)->Fo m A->∃K:List (Int×Int),Od [Ah m rs,LH A]=.ok (.lst ((K.map pD).map .sh))/\K.Nodup/\∀p,p∈K↔KP rs A p:=(zB FR).2
theorem CF:∃F:OT->List D->M (OT×OT),(∀ {P w K mg base},Txt K mg->S8 P w K mg base "Ladder" 6 3 F)/\(∀(m:Nat) (rs:List Road) (o:D) (L:List Int),1<=m->m<=16->rs.length<=60->(∀r∈rs,J2 m r)->L.Perm (B2 m)->(o=.lst (L.map D.int)\/(o=.AF/\L=Xw m (BL rs) (B2 m)))->∃(A:LA) (K:List (Int×Int)),BI m rs L A K/\∃t,F (.ins "Ladder" [] []) [Ah m rs,o]=.ok (t,.sh .AF)/\er t=AJ m rs L A K):=by
 refine⟨_,λ T=>Zd (k:=5) T.Kw J8 _ (λ f B4 A outer s H E hr=>(A4 (MJ ["Ladder"] (Bx T.BJ C2) (C1 0 (pv 0)) (An (Ad A9.toXCall (UE T) (hr.mono (by decide)) rfl (A2 (A1 1 (pv 1)) A8) rfl))) (A4 (MJ ["Ladder"] (Bx T.CC C2) (C1 0 (pv 0)) (An (FA (Ad A9.toXCall (Jg T) (hr.mono (by decide)) rfl (A2 (EY ["Ladder"] (Bx T.BJ C2) (A1 0 (pv 0))) (A2 (A1 2 (pv 2)) A8)) rfl)))) (A4 (MJ ["Ladder"] (Bx T.Dm C2) (C1 0 (pv 0)) (An (FA (Ad A9.toXCall (R7 T) (hr.mono (by decide)) rfl (A2 (EY ["Ladder"] (Bx T.BJ C2) (A1 0 (pv 0))) (A2 (EY ["Ladder"] (Bx T.CC C2) (A1 0 (pv 0))) A8)) rfl)))) (A5 (MJ ["Ladder"] (Bx T.EB C2) (C1 0 (pv 0)) (An (FA (Ad A9.toXCall (R9 T) (hr.mono (by decide)) rfl (A2 (EY ["Ladder"] (Bx T.BJ C2) (A1 0 (pv 0))) (A2 (EY ["Ladder"] (Bx T.Dm C2) (A1 0 (pv 0))) A8)) rfl))))))))),?_⟩;intro m rs o L cg cL lp i8 hL ho;have Au:∀r∈rs,HY m r/\r.a≠r.b:=λ r hr=>(i8 r hr).wU;have sv:=Zq cg cL lp i8;have h1:=UG.1 m rs sv lp;have h2:Cg [Ah m rs,o]=.ok (.lst ((L.map D.int).map .sh)):=by
  rcases ho with rfl|⟨rfl,rfl⟩
  ·exact (EH m rs (by omega) Au).1 L hL
  ·exact (EH m rs (by omega) Au).2
 have h3:=R8 m rs L (by omega) hL Au;have hA:=(NP hL Au).1;obtain⟨K,h4,hn,hK⟩:=Ra m rs (BS rs L) (by omega) (λ r hr=>(Au r hr).1) hA;refine⟨BS rs L,K,⟨cg,cL,lp,Au,hL,rfl,hn,hK⟩,.ins "Ladder" ["own_map","own_order","laid","kept_ones"] [.sh (Ah m rs),.sh (.lst (L.map D.int)),.sh (LH (BS rs L)),.sh (.lst (K.map pD))],?_,rfl⟩;have e0:D3 ["self","net","order"] (.ins "Ladder" [] []) [Ah m rs,o]=[some (.ow (.tree (some 0) (.ins "Ladder" [] []))),some (.val (Ah m rs)),some (.val o)]:=rfl;rw[e0];refine Ui ?_;have e1:er (.tup [.sh (.int m),.lst ((rs.map Ca).map .sh)])=Ah m rs:=by rw[iC,Pp,IX];rfl
 have T:∀(ns:List Str) (ds:List D),er (.ins "Ladder" ns (ds.map .sh))=.ins "Ladder" ns ds:=λ ns ds=>by rw[er,Qo]
 have T1:=T ["own_map"] [Ah m rs];have T2:=T ["own_map","own_order"] [Ah m rs,.lst (L.map D.int)];have T3:=T ["own_map","own_order","laid"] [Ah m rs,.lst (L.map D.int),LH (BS rs L)];simp only[zG,List.map_nil] at T1 T2 T3;have d1:=ZD L;have d2:=iM (BS rs L);have d3:=iL K;have f1:Oz ["Ladder"] "own_map" (.ins "Ladder" ["own_map"] [Ah m rs])=.ok (Ah m rs):=rfl;have f2:Oz ["Ladder"] "own_map" (.ins "Ladder" ["own_map","own_order"] [Ah m rs,.lst (L.map D.int)])=.ok (Ah m rs):=rfl;have f3:Oz ["Ladder"] "own_order" (.ins "Ladder" ["own_map","own_order"] [Ah m rs,.lst (L.map D.int)])=.ok (.lst (L.map D.int)):=rfl;have f4:Oz ["Ladder"] "own_map" (.ins "Ladder" ["own_map","own_order","laid"] [Ah m rs,.lst (L.map D.int),LH (BS rs L)])=.ok (Ah m rs):=rfl;have f5:Oz ["Ladder"] "laid" (.ins "Ladder" ["own_map","own_order","laid"] [Ah m rs,.lst (L.map D.int),LH (BS rs L)])=.ok (LH (BS rs L)):=rfl;refine wp_step (ρ':=[some (.ow (.tree (some 0) (.ins "Ladder" ["own_map"] [.sh (Ah m rs)]))),some (.val (Ah m rs)),some (.val o)]) (by simp_arith[h1,e1];rfl) ?_;refine wp_step (ρ':=[some (.ow (.tree (some 0) (.ins "Ladder" ["own_map","own_order"] [.sh (Ah m rs),.sh (.lst (L.map D.int))]))),some (.val (Ah m rs)),some (.val o)]) (by simp_arith[T1,f1,h2,d1];rfl) ?_;refine wp_step (ρ':=[some (.ow (.tree (some 0) (.ins "Ladder" ["own_map","own_order","laid"] [.sh (Ah m rs),.sh (.lst (L.map D.int)),.sh (LH (BS rs L))]))),some (.val (Ah m rs)),some (.val o)]) (by simp_arith[T2,f2,f3,h3,d2];rfl) ?_;refine Bm (ρ':=[some (.ow (.tree (some 0) (.ins "Ladder" ["own_map","own_order","laid","kept_ones"] [.sh (Ah m rs),.sh (.lst (L.map D.int)),.sh (LH (BS rs L)),.sh (.lst (K.map pD))]))),some (.val (Ah m rs)),some (.val o)]) (by simp_arith[T3,f4,f5,h4,d3];rfl) ⟨rfl,rfl⟩
noncomputable def Dj:OT->List D->M (OT×OT):=zH CF
theorem Jh:Txt K mg->S8 P w K mg base "Ladder" 6 3 Dj:=(zB CF).1
theorem Ji:∀(m:Nat) (rs:List Road) (o:D) (L:List Int),1<=m->m<=16->rs.length<=60->(∀r∈rs,J2 m r)->L.Perm (B2 m)->(o=.lst (L.map D.int)\/(o=.AF/\L=Xw m (BL rs) (B2 m)))->∃(A:LA) (K:List (Int×Int)),BI m rs L A K/\∃t,Dj (.ins "Ladder" [] []) [Ah m rs,o]=.ok (t,.sh .AF)/\er t=AJ m rs L A K:=(zB CF).2
theorem EI:∃F:List D->M OT,(∀ {P w K mg base},Txt K mg->BV P w K mg base "_law_cell_at" 1 2 F)/\(∀(ns:List Int) (k:Nat),(∀n∈ns,Sm n)->∃v:Int,Sm v/\F [.lst (ns.map D.int),.int k]=.ok (.sh (.int v))):=by
 refine⟨_,λ T=>AI (k:=0) T.OI O0 _ (λ f B4 A outer s H E hr=>(A4 (B7 (rJ (c:=true) (A1 1 (pv 1)) (Fx rfl T.Kx (A1 0 (pv 0)))) (A5 (Al (B1 (Ae (AU hr 16 (by decide)) (A1 0 (pv 0)) (A1 1 (pv 1)))))) Ay) (A5 (Al (B1 A6))))),?_⟩;intro ns k bN;have e0:AG ["_law_script","_law_k"] [.lst (ns.map D.int),.int k]=[some (.val (.lst (ns.map D.int))),some (.val (.int k))]:=rfl;rw[e0];by_cases hk:(k:Int)<((ns.map D.int).length:Int)
 ·have y9:=hk;rw[zC] at y9;have i1:Bf (.lst (ns.map D.int)) (.int k)=.ok (.int (ns[k]'(by omega))):=HZ (by omega) (by rw[zax];exact zJ _);refine⟨ns[k]'(by omega),bN _ (List.getElem_mem _),Bl ?_⟩;simp_arith[decide_eq_true hk,i1];rfl
 ·refine⟨0,by unfold Sm;decide,Bl ?_⟩;simp_arith[decide_eq_false hk];rfl
noncomputable def DZ:List D->M OT:=zH EI
theorem Ho:Txt K mg->BV P w K mg base "_law_cell_at" 1 2 DZ:=(zB EI).1
theorem Hq:∀(ns:List Int) (k:Nat),(∀n∈ns,Sm n)->∃v:Int,Sm v/\DZ [.lst (ns.map D.int),.int k]=.ok (.sh (.int v)):=(zB EI).2
theorem FT:∃F:List D->M OT,(∀ {P w K mg base},Txt K mg->BV P w K mg base "_law_mixed" 1 2 F)/\(∀c k:Int,0<=k->k<=1000->∃v:Int,0<=v/\F [.int c,.int k]=.ok (.sh (.int v))):=by
 refine⟨_,λ T=>AI (k:=0) T.SI FJ _ (λ f B4 A outer s H E hr=>(A4 (AV 2 FJ.nd rfl (zan rfl) (BN (BX (BN (A1 0 (pv 0)) A6) (Mm A6 (BX (A1 1 (pv 1)) A6))) A6)) (A4 (AV 2 FJ.nd rfl (zan rfl) (BN (BX (BX (Mm (A1 2 (pv 2)) (A1 2 (pv 2))) (Mm A6 (A1 1 (pv 1)))) A6) A6)) (A5 (Al (B1 (BN (Mm (A1 2 (pv 2)) (A1 2 (pv 2))) A6))))))),?_⟩;intro c k h0 h1;have e0:AG ["_law_cell","_law_k","_law_number"] [.int c,.int k]=[some (.val (.int c)),some (.val (.int k)),none]:=rfl;rw[e0];have m1:Nm (.int 48271) (.int (k+1))=.ok (.int (48271*(k+1))):=JD (.inr (.inr (.inr ⟨by omega,by omega⟩)));obtain⟨x,hx⟩:∃x,x=(c%2147483629+48271*(k+1))%2147483647:=⟨_,rfl⟩;have x0:0<=x:=by omega
 have x1:x<2147483647:=by omega
 have m2:Nm (.int x) (.int x)=.ok (.int (x*x)):=JD (.inr (.inr (.inr ⟨by omega,by omega⟩)));have m3:Nm (.int 69621) (.int k)=.ok (.int (69621*k)):=JD (.inr (.inr (.inr ⟨by omega,by omega⟩)));obtain⟨y,hy⟩:∃y,y=(x*x+69621*k+7)%2147483587:=⟨_,rfl⟩;have y0:0<=y:=by rw[hy];exact zbh _ (by decide)
 have y1:y<2147483587:=by rw[hy];exact zbi _ (by decide)
 have m4:Nm (.int y) (.int y)=.ok (.int (y*y)):=JD (.inr (.inr (.inr ⟨by omega,by omega⟩)));refine⟨y*y%2147483579,zbh _ (by decide),?_⟩;simp[sI,sJ,m1,mK,Gi,Bo,<-hx,m2,m3,<-hy,m4,WG,Ys,pC,WH]
noncomputable def Oe:List D->M OT:=zH FT
theorem FU:Txt K mg->BV P w K mg base "_law_mixed" 1 2 Oe:=(zB FT).1
theorem FV:∀c k:Int,0<=k->k<=1000->∃v:Int,0<=v/\Oe [.int c,.int k]=.ok (.sh (.int v)):=(zB FT).2
theorem Hr:∃F:List D->M OT,(∀ {P w K mg base},Txt K mg->BV P w K mg base "_law_road" 2 3 F)/\(∀(c k:Int) (m:Nat),2<=m->m<=16->0<=k->k<=100->∃r:Road,J2 m r/\F [.int c,.int m,.int k]=.ok (.sh (Ca r))):=by
 refine⟨_,λ T=>AI (k:=1) T.Uv CM _ (λ f B4 A outer s H E hr=>(A4 (AV 0 CM.nd rfl (zan rfl) (BN (A1 0 (pv 0)) (Yl A6 A6))) (A4 (AV 3 CM.nd rfl (zan rfl) (An (Ad A9.toXCall (FU T) (hr.mono (by decide)) rfl (A2 (A1 0 (pv 0)) (A2 (A1 2 (pv 2)) A8)) rfl))) (A4 (AV 4 CM.nd rfl (zan rfl) (BN (A1 3 (pv 3)) (A1 1 (pv 1)))) (A4 (AV 5 CM.nd rfl (zan rfl) (BN (BX (BX (A1 4 (pv 4)) A6) (BN (CS (A1 3 (pv 3)) A6) (mL (A1 1 (pv 1)) A6))) (A1 1 (pv 1)))) (A4 (AV 6 CM.nd rfl (zan rfl) (Ae (AU hr 16 (by decide)) (IK (A2 Fu (A2 A6 (A2 A6 (A2 A6 (A2 (BN (CS (A1 3 (pv 3)) A6) A6) (A2 (BN (CS (A1 3 (pv 3)) A6) A6) (A2 (BN (CS (A1 3 (pv 3)) A6) A6) (A2 (A1 0 (pv 0)) A8))))))))) (BN (CS (A1 3 (pv 3)) A6) A6))) (A5 (Al (B1 (AR (A2 (A1 4 (pv 4)) (A2 (A1 5 (pv 5)) (A2 (A1 6 (pv 6)) (A2 (Ae (AU hr 16 (by decide)) (IK (A2 (BN (CS (A1 3 (pv 3)) A6) A6) (A2 (CS (A1 0 (pv 0)) A6) A8))) (BN (CS (A1 3 (pv 3)) A6) A6)) A8)))))))))))))),?_⟩;intro c k m cg cL h0 h1;have ht:=U9;have e0:AG ["_law_cell","_law_many","_law_k","_law_x","_law_one","_law_other","_law_length"] [.int c,.int m,.int k]=[some (.val (.int c)),some (.val (.int m)),some (.val (.int k)),none,none,none,none]:=rfl;rw[e0];obtain⟨g,hg⟩:∃g,g=c%M5:=⟨_,rfl⟩;have g0:0<=g:=by rw[hg];exact zbh _ (by omega)
 have g1:g<M5:=by rw[hg];exact zbi _ (by omega)
 obtain⟨v,v0,hv⟩:=FV g k h0 (by omega);have na:(0:Int)<(m:Int):=by omega
 have lq:(0:Int)<(m:Int)-1:=by omega
 obtain⟨o,ho⟩:∃o,o=v%(m:Int):=⟨_,rfl⟩;obtain⟨o',bq⟩:∃o',o'=(o+1+v / 16%((m:Int)-1))%(m:Int):=⟨_,rfl⟩;have o0:0<=o:=by rw[ho];exact zbh _ (by omega)
 have o1:o<m:=by rw[ho];exact zbi _ na
 have p0:0<=o':=by rw[bq];exact zbh _ (by omega)
 have p1:o'<m:=by rw[bq];exact zbi _ na
 have s0:0<=v / 16%((m:Int)-1):=zbh _ (by omega);have s1:v / 16%((m:Int)-1)<(m:Int)-1:=zbi _ lq;have lf:o≠o':=by
  have:=nF (a:=o) (s:=1+v / 16%((m:Int)-1)) (m:=m) o0 o1 (by omega) (by omega);rw[bq,Int.add_assoc];exact λ z=>this z.symm
 have lr:G1 (.int v) (.int 16)=.ok (.int (v / 16)):=Ce ⟨by decide,by decide⟩;have ls:G1 (.int v) (.int 2048)=.ok (.int (v / 2048)):=Ce ⟨by decide,by decide⟩;have sw:G1 (.int v) (.int 256)=.ok (.int (v / 256)):=Ce ⟨by decide,by decide⟩;have lu:G1 (.int v) (.int 4096)=.ok (.int (v / 4096)):=Ce ⟨by decide,by decide⟩;have yE:G1 (.int v) (.int 32)=.ok (.int (v / 32)):=Ce ⟨by decide,by decide⟩;have d7:G1 (.int g) (.int 7)=.ok (.int (g / 7)):=Ce ⟨by decide,by decide⟩;have q1:Gi (.int v) (.int (m:Int))=.ok (.int o):=by rw[ho];exact By na
 have q2:Gi (.int (v / 16)) (.int ((m:Int)-1))=.ok (.int (v / 16%((m:Int)-1))):=By lq;have q3:Gi (.int (o+1+v / 16%((m:Int)-1))) (.int (m:Int))=.ok (.int o'):=by rw[bq];exact By na
 have q4:Gi (.int (v / 2048)) (.int 4)=.ok (.int (v / 2048%4)):=By (by decide);have q5:Gi (.int (v / 2048)) (.int 100)=.ok (.int (v / 2048%100)):=By (by decide);have q6:Gi (.int (v / 256)) (.int 8)=.ok (.int (v / 256%8)):=By (by decide);have q8:Gi (.int (v / 4096)) (.int 5)=.ok (.int (v / 4096%5)):=By (by decide);have q9:Gi (.int (v / 32)) (.int 2)=.ok (.int (v / 32%2)):=By (by decide);obtain⟨l,hpl,l0⟩:=oN (a:=v / 2048%4) (b:=v / 2048%100) (g:=g) (i:=v / 256%8) (by omega) (by omega) ⟨g0,g1⟩ (by omega) (by omega);obtain⟨w,yF,w0⟩:=oH (a:=v / 4096%5) (b:=g / 7) (i:=v / 32%2) (by omega) (by omega) (by omega) (by omega);have yG:D.tup [.int o,.int o',EK l,.int w]=Ca ⟨o,o',l,w⟩:=rfl;refine⟨⟨o,o',l,w⟩,⟨o0,o1,p0,p1,lf,l0,w0.1,w0.2⟩,Bl ?_⟩;apply wp_step
 ·simp_arith[kA,iB];rw[<-hg]
 try simp only[zV,zP]
 apply wp_step
 ·simp_arith[hv];rfl
 try simp only[zV,zP]
 apply wp_step
 ·simp_arith[q1];rfl
 try simp only[zV,zP]
 apply wp_step
 ·simp_arith[lr,q2,q3];rfl
 try simp only[zV,zP]
 apply wp_step
 ·simp_arith[ls,q4,q5,sw,q6,hpl];rfl
 try simp only[zV,zP]
 simp_arith[lu,q8,d7,yE,q9,yF,yG];rfl
noncomputable def Ih:List D->M OT:=zH Hr
theorem SW:Txt K mg->BV P w K mg base "_law_road" 2 3 Ih:=(zB Hr).1
theorem SX:∀(c k:Int) (m:Nat),2<=m->m<=16->0<=k->k<=100->∃r:Road,J2 m r/\Ih [.int c,.int m,.int k]=.ok (.sh (Ca r)):=(zB Hr).2
theorem Jj:∃F:List D->M OT,(∀ {P w K mg base},Txt K mg->BV P w K mg base "_law_map" 3 3 F)/\(∀ns:List Int,ns.length<=63->(∀n∈ns,Sm n)->∃(m:Nat) (rs:List Road),1<=m/\m<=6/\rs.length<=25/\(∀r∈rs,J2 m r)/\∃t,F [.lst (ns.map D.int),.int 6,.int 24]=.ok t/\er t=Ah m rs):=by
 refine⟨_,λ T=>AI (k:=2) T.Xm Dh _ (λ f B4 A outer s H E hr=>(A4 (AV 3 Dh.nd rfl (zan rfl) (An (Nu (A1 0 (pv 0)) (Mi A6) (Mi (BX A6 (A1 2 (pv 2))))))) (A4 (AV 4 Dh.nd rfl (zan rfl) (An (Ad A9.toXCall (FU T) (hr.mono (by decide)) rfl (A2 (An (Ad A9.toXCall (Ho T) (hr.mono (by decide)) rfl (A2 (A1 0 (pv 0)) (A2 A6 A8)) rfl)) (A2 A6 A8)) rfl))) (A4 (AV 5 Dh.nd rfl (Or.inr rfl) (BX A6 (BN (A1 4 (pv 4)) (fS rfl rfl T.ZW (A1 1 (pv 1)) (BX A6 (CS (Fx rfl T.Kx (A1 3 (pv 3))) A6)))))) (A4 (B7 (Ly (c:=true) (AU hr 16 (by decide)) (A1 5 (pv 5)) A6) (A5 (Al (TY (Fj (B1 A6) (Fj (L5 DQ) DQ))))) Ay) (A4 (JB (NB:=["_law_k","_law_cell","_law_many"]) 6 [none,none,some 5] Dh.nd rfl (zan rfl) rfl (Qi rfl T.GZ (A1 3 (pv 3))) rfl rfl (Qt (n:=2) rfl (Ea 0 (by decide) rfl rfl rfl (Ea 1 (by decide) rfl rfl rfl Nv))) (λ _ _ _ _=>Dk) (λ _ _ _ _=>(An (Cj (Ad (BH rfl).toXCall (SW T) (hr.mono (by decide)) rfl (A2 (A1 1 (pv 1)) (A2 (A1 2 (pv 2)) (A2 (A1 0 (pv 0)) A8))) rfl))))) (A4 (B7 (DW.dt (IL (Ly (c:=true) (AU hr 16 (by decide)) (BN (CS (A1 4 (pv 4)) A6) A6) A6) (Fw (Gx (c:=true) (AU hr 16 (by decide)) (A1 6 (pv 6)) (IK A8))))) (A5 (AV 6 Dh.nd rfl (zan rfl) (An (fN (A1 6 (pv 6)) (IK (A2 (Ae (AU hr 16 (by decide)) (A1 6 (pv 6)) (BN (CS (A1 4 (pv 4)) A6) (Fx rfl T.Kx (A1 6 (pv 6))))) A8)))))) Ay) (A5 (Al (B1 (AR (A2 (A1 5 (pv 5)) (A2 (A1 6 (pv 6)) A8))))))))))))),?_⟩;intro ns f8 bN;have e0:AG ["_law_script","_law_places","_law_most","_law_cells","_law_x","_law_many","_law_roads"] [.lst (ns.map D.int),.int 6,.int 24]=[some (.val (.lst (ns.map D.int))),some (.val (.int 6)),some (.val (.int 24)),none,none,none,none]:=rfl;rw[e0];refine (λ h:∃t,_/\∃(m:Nat) (rs:List Road),1<=m/\m<=6/\rs.length<=25/\(∀r∈rs,J2 m r)/\er t=Ah m rs=>by
  obtain⟨t,h1,m,rs,h2,h3,h4,h5,h6⟩:=h;exact⟨m,rs,h2,h3,h4,h5,t,h1,h6⟩) (Nw ?_)
 obtain⟨cs,i9⟩:∃cs,cs=(ns.drop 2).take 24:=⟨_,rfl⟩;have cA:cs.length<=24:=by rw[i9,zc5];omega
 have sl:fM (some 2) (some (2+24)) (.lst (ns.map D.int))=.ok (.lst ((cs.map D.int).map .sh)):=by rw[i9,List.map_take,List.map_drop];exact gF _ 2 26
 obtain⟨z0,zu,lw⟩:=Hq ns 0 bN;have sx:DZ [.lst (ns.map D.int),.int 0]=.ok (.sh (.int z0)):=lw;obtain⟨v,v0,hv⟩:=FV z0 40 (by decide) (by decide);apply wp_step
 ·simp_arith[sl];rfl
 try simp only[zV,zP]
 apply wp_step
 ·simp_arith[sx,hv];rfl
 try simp only[zV,zP]
 have d2:G1 (.int ((cs.map D.int).length:Int)) (.int 2)=.ok (.int ((cs.map D.int).length / 2)):=Ce ⟨by decide,by decide⟩;obtain⟨n,hn⟩:∃n:Int,n=(if 2+((cs.map D.int).length:Int) / 2<6 then 2+((cs.map D.int).length:Int) / 2 else 6):=⟨_,rfl⟩;have aD:2<=n/\n<=6:=by rw[hn];split<;>omega
 have q1:Gi (.int v) (.int n)=.ok (.int (v%n)):=By (by omega);obtain⟨m,hm⟩:∃m:Nat,(m:Int)=1+v%n:=⟨(1+v%n).toNat,by have:=zbh v (b:=n) (by omega);omega⟩;have nc:1<=m/\m<=6:=by
  have:=zbh v (b:=n) (by omega);have:=zbi v (b:=n) (by omega);omega
 refine wp_step (ρ':=[some (.val (.lst (ns.map D.int))),some (.val (.int 6)),some (.val (.int 24)),some (.val (.lst (cs.map D.int))),some (.val (.int v)),some (.val (.int m)),none]) (by
  simp_arith[d2];rw[<-hn,q1];simp_arith[];rw[<-hm]) ?_
 by_cases cg:(m:Int)=1
 ·simp_arith[decide_eq_true cg];refine⟨_,rfl,m,[],nc.1,nc.2,by simp,(λ r hr=>by cases hr),?_⟩;have:m=1:=by omega
  subst this;rfl
 apply wp_step
 ·simp_arith[decide_eq_false cg];rfl
 have fg:∀i:Nat,i<cs.length->∃r:Road,J2 m r/\Ih [.int (cs.getD i 0),.int m,.int i]=.ok (.sh (Ca r)):=λ i hi=>SX (cs.getD i 0) i m (by omega) (by omega) (by omega) (by omega);obtain⟨f,hf⟩:∃f:Nat->Road,∀i:Nat,i<cs.length->J2 m (f i)/\Ih [.int (cs.getD i 0),.int m,.int i]=.ok (.sh (Ca (f i))):=⟨λ i=>if h:i<cs.length then zH (fg i h) else ⟨0,0,none,0⟩,λ i hi=>by
  dsimp only;rw[dif_pos hi];exact zB (fg i hi)⟩
 have aE:((zW cs.length).map λ i:Nat=>D.tup [.int (i:Int),.int (cs.getD i 0)]).length<=1000:=by rw[zC,zbm];omega
 simp_arith[Uo,if_pos aE];rw[CB (λ i:Nat=>Ca (f i)) (λ i hi=>⟨_,rfl,rfl,by
  have h1:=(hf i (zbe.mp hi)).2;simp_arith[h1]⟩)]
 simp_arith[];have HD:∀S:List D,S=S:=λ _=>rfl;refine wp_step (ρ':=[some (.val (.lst (ns.map D.int))),some (.val (.int 6)),some (.val (.int 24)),some (.val (.lst (cs.map D.int))),some (.val (.int v)),some (.val (.int m)),some (.val (.lst (((zW cs.length).map f).map Ca)))]) (by rw[zam];rfl) ?_;obtain⟨ce,ik⟩:∃ce,ce=(zW cs.length).map f:=⟨_,rfl⟩;have dv:∀r∈ce,J2 m r:=λ r hr=>by
  rw[ik] at hr;obtain⟨i,hi,rfl⟩:=za0.mp hr;exact (hf i (zbe.mp hi)).1
 have wP:ce.length<=24:=by rw[ik,zC,zbm];exact cA
 rw[<-ik];refine C4 (I:=λ ρ=>∃rs:List Road,ρ=[some (.val (.lst (ns.map D.int))),some (.val (.int 6)),some (.val (.int 24)),some (.val (.lst (cs.map D.int))),some (.val (.int v)),some (.val (.int m)),some (.val (.lst (rs.map Ca)))]/\rs.length<=25/\∀r∈rs,J2 m r) ?_ ?_
 ·have lr:G1 (.int v) (.int 16)=.ok (.int (v / 16)):=Ce ⟨by decide,by decide⟩;have q3:Gi (.int (v / 16)) (.int 3)=.ok (.int (v / 16%3)):=By (by decide);have yH:G1 (.int v) (.int 64)=.ok (.int (v / 64)):=Ce ⟨by decide,by decide⟩;have af:=Sx ce;by_cases c1:v / 16%3=1
  ·by_cases c2:ce=[]
   ·rw[decide_eq_false (by simp[c2])] at af;refine Bm (ρ':=_) (by simp_arith[lr,q3,decide_eq_true c1,af];rfl) ⟨ce,rfl,by omega,dv⟩
   ·rw[decide_eq_true c2] at af;have ln:0<(ce.map Ca).length:=by rw[zC];exact List.length_pos_iff.mpr c2
    obtain⟨p1,y,hy,p2⟩:=Zr ln (show 0<=v / 64 by omega);obtain⟨r,hr,rfl⟩:=za0.mp hy;have hpl:RQ (.lst (ce.map Ca)) (.lst [Ca r])=.ok (.lst (((ce++[r]).map Ca).map .sh)):=by rw[zag];exact hX (by rw[zC];simp;omega)
    refine Bm (ρ':=[some (.val (.lst (ns.map D.int))),some (.val (.int 6)),some (.val (.int 24)),some (.val (.lst (cs.map D.int))),some (.val (.int v)),some (.val (.int m)),some (.val (.lst ((ce++[r]).map Ca)))]) (by
     simp_arith[lr,q3,decide_eq_true c1,af,yH,p1,p2,hpl];rfl) ⟨ce++[r],rfl,by rw[za7];simp;omega,λ r2 h2=>by
     rcases za5.mp h2 with h|h
     ·exact dv r2 h
     ·rw[zS.mp h];exact dv r hr⟩
  ·refine Bm (ρ':=_) (by simp_arith[lr,q3,decide_eq_false c1];try rfl) ⟨ce,rfl,by omega,dv⟩
 ·rintro ρ ⟨rs,rfl,hl,Au⟩;simp_arith[];exact⟨m,rs,nc.1,nc.2,hl,Au,rfl⟩
noncomputable def SY:List D->M OT:=zH Jj
theorem UI:Txt K mg->BV P w K mg base "_law_map" 3 3 SY:=(zB Jj).1
theorem UJ:∀ns:List Int,ns.length<=63->(∀n∈ns,Sm n)->∃(m:Nat) (rs:List Road),1<=m/\m<=6/\rs.length<=25/\(∀r∈rs,J2 m r)/\∃t,SY [.lst (ns.map D.int),.int 6,.int 24]=.ok t/\er t=Ah m rs:=(zB Jj).2
theorem FX:∃F:List D->M OT,(∀ {P w K mg base},Txt K mg->BV P w K mg base "_law_order" 2 3 F)/\(∀(c:Int) (m:Nat),m<=60->∃L:List Int,L.Perm (B2 m)/\F [.int c,.int m,.int 0]=.ok (.lst ((L.map D.int).map .sh))):=by
 refine⟨_,λ T=>AI (k:=1) T.SJ FK _ (λ f B4 A outer s H E hr=>(A4 (Cw 3 FK.nd rfl (zan rfl) (L5 DQ)) (A4 (BC A9.toXCall.own rfl (Bi (c:=true) rfl T.BP (A1 1 (pv 1))) (AN 4 FK.nd rfl (zan rfl)) (A5 (WB 3 (pv 3) (BN (An (Ad A9.toXCall (FU T) (hr.mono (by decide)) rfl (A2 (A1 0 (pv 0)) (A2 (BX (A1 2 (pv 2)) (A1 4 (pv 4))) A8)) rfl)) (BX (A1 4 (pv 4)) A6)) (A1 4 (pv 4))))) (A5 (DR 3 (pv 3)))))),?_⟩;intro c m hm;have e0:AG ["_law_cell","_law_many","_law_k","_law_order_here","_law_place"] [.int c,.int m,.int 0]=[some (.val (.int c)),some (.val (.int m)),some (.val (.int 0)),none,none]:=rfl;rw[e0];refine (λ h:∃t,_/\∃L:List Int,t=OT.lst ((L.map D.int).map .sh)/\L.Perm (B2 m)=>by
  obtain⟨t,h1,L,rfl,h2⟩:=h;exact⟨L,h2,h1⟩) (Nw ?_)
 have hr:=Jz (n:=m) (by omega);apply wp_step
 ·rfl
 try simp only[zV,zP]
 refine C4 (I:=λ ρ=>∃(L:List Int) (s3:Option Cl),ρ=[some (.val (.int c)),some (.val (.int m)),some (.val (.int 0)),some (.own (L.map D.int)),s3]/\L.Perm (B2 m)) ?_ ?_
 ·simp_arith[hr];refine BD (λ i ρ=>i<=m/\∃(L:List Int) (s3:Option Cl),ρ=[some (.val (.int c)),some (.val (.int m)),some (.val (.int 0)),some (.own (L.map D.int)),s3]/\L.Perm (B2 i)) ⟨zak _,[],none,rfl,.refl _⟩ ?_ ?_
  ·rintro i d ρ hd ⟨_,L,s3,rfl,hL⟩;obtain⟨aI,hi⟩:=BB hd;rw[zcg] at aI;subst aI;have hlen:=GL hL;refine⟨_,rfl,?_⟩;obtain⟨v,v0,hv⟩:=FV c (0+i) (by omega) (by omega);have cg:Gi (.int v) (.int ((i:Int)+1))=.ok (.int (v%((i:Int)+1))):=By (by omega);have b0:0<=v%((i:Int)+1):=zbh _ (by omega);have b1:v%((i:Int)+1)<(i:Int)+1:=zbi _ (by omega);refine Bm (ρ':=[some (.val (.int c)),some (.val (.int m)),some (.val (.int 0)),some (.own ((L.take (v%((i:Int)+1)).toNat++(i:Int)::L.drop (v%((i:Int)+1)).toNat).map D.int)),some (.val (.int i))]) ?_ ⟨by omega,_,_,rfl,X7 hL _⟩;simp_arith[hv,cg];rw[if_pos ⟨b0,by rw[zC];omega,by rw[zC];omega⟩];simp only[zag,zG,List.map_take,List.map_drop];rfl
  ·rintro ρ ⟨_,L,s3,rfl,hL⟩;exact⟨L,s3,rfl,by rw[Bk] at hL;exact hL⟩
 ·rintro ρ ⟨L,s3,rfl,hL⟩;exact⟨_,rfl,L,rfl,hL⟩
noncomputable def Of:List D->M OT:=zH FX
theorem Rb:Txt K mg->BV P w K mg base "_law_order" 2 3 Of:=(zB FX).1
theorem Rc:∀(c:Int) (m:Nat),m<=60->∃L:List Int,L.Perm (B2 m)/\Of [.int c,.int m,.int 0]=.ok (.lst ((L.map D.int).map .sh)):=(zB FX).2
theorem Hs:∃F:List D->M OT,(∀ {P w K mg base},Txt K mg->BV P w K mg base "_law_plus" 1 2 F)/\(∀a b:Co,F [cst a,cst b]=.ok (.sh (cst (Ap a b)))):=by
 refine⟨_,λ T=>AI (k:=0) T.Uw SD _ (λ f B4 A outer s H E hr=>(A4 (B7 (DW.dt (DJ (Gy (c:=true) (A1 0 (pv 0))) (CT (Gy (c:=true) (A1 1 (pv 1)))))) (A5 (Al (B1 Fu))) Ay) (A5 (Al (B1 (AR (A2 (BX (Ae (AU hr 16 (by decide)) (A1 0 (pv 0)) A6) (Ae (AU hr 16 (by decide)) (A1 1 (pv 1)) A6)) (A2 (BX (Ae (AU hr 16 (by decide)) (A1 0 (pv 0)) A6) (Ae (AU hr 16 (by decide)) (A1 1 (pv 1)) A6)) A8)))))))),?_⟩;intro a b;rcases a with _|⟨a1,a2⟩<;>rcases b with _|⟨b1,b2⟩<;>rfl
noncomputable def PY:List D->M OT:=zH Hs
theorem LS:Txt K mg->BV P w K mg base "_law_plus" 1 2 PY:=(zB Hs).1
theorem LU:∀a b:Co,PY [cst a,cst b]=.ok (.sh (cst (Ap a b))):=(zB Hs).2
theorem FY:∃F:List D->M OT,(∀ {P w K mg base},Txt K mg->BV P w K mg base "_law_least" 1 2 F)/\(∀a b:Co,F [cst a,cst b]=.ok (.sh (cst (Dq a b)))):=by
 refine⟨_,λ T=>AI (k:=0) T.SK QY _ (λ f B4 A outer s H E hr=>(A4 (B7 (DW.dt (DJ (Gy (c:=true) (A1 0 (pv 0))) (CT (DW.dt (IL (HA (c:=true) (A1 1 (pv 1))) (Fw (Zb (c:=true) (AU hr 16 (by decide)) (A1 1 (pv 1)) (A1 0 (pv 0))))))))) (A5 (Al (B1 (A1 1 (pv 1))))) Ay) (A5 (Al (B1 (A1 0 (pv 0))))))),?_⟩;intro a b;have e0:AG ["_law_one","_law_other"] [cst a,cst b]=[some (.val (cst a)),some (.val (cst b))]:=rfl;rw[e0];refine Bl ?_;cases a with
 |none =>
  have hn:Bj (cst none)=true:=rfl;have el:Dq none b=b:=by cases b<;>rfl
  rw[el];simp_arith[hn];rfl
 |some p =>
  have hn:Bj (cst (some p))=false:=rfl;cases b with
  |none =>
   have aD:Bj (cst none)=true:=rfl;have el:Dq (some p) none=some p:=rfl;rw[el];simp_arith[hn,aD];rfl
  |some q =>
   have aD:Bj (cst (some q))=false:=rfl;have hx:=sT q p;have hl:Dq (some p) (some q)=some (cO p q):=rfl;rw[hl];unfold cO;by_cases hc:q.1<p.1\/(q.1=p.1/\q.2<p.2)
   ·rw[decide_eq_true hc] at hx;rw[if_neg (by omega)];simp_arith[hn,aD,hx];rfl
   ·rw[decide_eq_false hc] at hx;rw[if_pos (by omega)];apply wp_step
    ·simp_arith[hn,aD,hx];rfl
    simp_arith[];rfl
noncomputable def FZ:List D->M OT:=zH FY
theorem KG:Txt K mg->BV P w K mg base "_law_least" 1 2 FZ:=(zB FY).1
theorem KH:∀a b:Co,FZ [cst a,cst b]=.ok (.sh (cst (Dq a b))):=(zB FY).2
theorem Jk:∃F:List D->M OT,(∀ {P w K mg base},Txt K mg->BV P w K mg base "_law_all" 2 1 F)/\(∀(m:Nat) (rs:List Road),1<=m->m<=900->rs.length<=900->(∀r∈rs,HY m r)->∃ac:List (List Co),MM m ac/\(∀x y:Int,0<=x->x<m->0<=y->y<m->DK rs x y (at2 ac x y))/\∃t,F [Ah m rs]=.ok t/\er t=.lst ((AD ac).map D.lst)):=by
 refine⟨_,λ T=>AI (k:=1) T.Xn B9 _ (λ f B4 A outer s H E hr=>(A4 (mQ (A1 0 (pv 0)) (Qh (n:=2) rfl (Cs (AN 1 B9.nd rfl (Or.inr rfl)) (Cs (AN 2 B9.nd rfl (zan rfl)) Mj)))) (A4 (ZK (NB:=["_law_k","_law_many"]) 3 [none,some 1] B9.nd rfl (zan rfl) rfl (Bi (c:=true) rfl T.BP (A1 1 (pv 1))) rfl rfl (Bw 0 (by decide) rfl rfl rfl) (λ _ _ _ _=>Dk) (λ _ _ _ _=>(Z0 Fu (A1 1 (pv 1))))) (A4 (BC A9.toXCall.own rfl (Bi (c:=true) rfl T.BP (A1 1 (pv 1))) (AN 4 B9.nd rfl (zan rfl)) (A5 (Qm 3 (pv 3) (AR (A2 A6 (A2 A6 A8))) (A1 4 (pv 4)) (A1 4 (pv 4))))) (A4 (BC A9.toXCall.own rfl (Be (A1 2 (pv 2))) (Qh (n:=4) rfl (Cs (AN 5 B9.nd rfl (zan rfl)) (Cs (AN 6 B9.nd rfl (zan rfl)) (Cs (AN 7 B9.nd rfl (zan rfl)) (Cs (AN 8 B9.nd rfl (zan rfl)) Mj))))) (A5 (B7 (HA (c:=true) (A1 7 (pv 7))) (A5 (Qm 3 (pv 3) (An (Ad A9.toXCall (KG T) (hr.mono (by decide)) rfl (A2 (Ql 3 (pv 3) (A1 5 (pv 5)) (A1 6 (pv 6))) (A2 (AR (A2 (A1 7 (pv 7)) (A2 A6 A8))) A8)) rfl)) (A1 5 (pv 5)) (A1 6 (pv 6)))) Ay))) (A4 (BC A9.toXCall.own rfl (Bi (c:=true) rfl T.BP (A1 1 (pv 1))) (AN 9 B9.nd rfl (zan rfl)) (A5 (BC A9.toXCall.own rfl (Bi (c:=true) rfl T.BP (A1 1 (pv 1))) (AN 5 B9.nd rfl (zan rfl)) (A5 (BC A9.toXCall.own rfl (Bi (c:=true) rfl T.BP (A1 1 (pv 1))) (AN 6 B9.nd rfl (zan rfl)) (A5 (Qm 3 (pv 3) (An (Ad A9.toXCall (KG T) (hr.mono (by decide)) rfl (A2 (Ql 3 (pv 3) (A1 5 (pv 5)) (A1 6 (pv 6))) (A2 (An (Ad A9.toXCall (LS T) (hr.mono (by decide)) rfl (A2 (Ql 3 (pv 3) (A1 5 (pv 5)) (A1 9 (pv 9))) (A2 (Ql 3 (pv 3) (A1 9 (pv 9)) (A1 6 (pv 6))) A8)) rfl)) A8)) rfl)) (A1 5 (pv 5)) (A1 6 (pv 6))))))))) (A5 (DR 3 (pv 3))))))))),?_⟩;intro m rs cg hm lp Au;have e0:AG ["_law_net","_law_many","_law_roads","_law_found","_law_k","_law_u","_law_w","_law_length","_law_width","_law_v"] [Ah m rs]=[some (.val (Ah m rs)),none,none,none,none,none,none,none,none,none]:=rfl;rw[e0];refine (λ h:∃t,_/\∃ac:List (List Co),MM m ac/\(∀x y:Int,0<=x->x<m->0<=y->y<m->DK rs x y (at2 ac x y))/\er t=.lst ((AD ac).map D.lst)=>by
  obtain⟨t,h1,ac,h2,h3,h4⟩:=h;exact⟨ac,h2,h3,t,h1,h4⟩) (Nw ?_)
 have cE:=Jz (n:=m) (by omega);have du:=S1 (d:=.AF) (n:=m) (by omega);refine wp_step (ρ':=[some (.val (Ah m rs)),some (.val (.int m)),some (.val (.lst (rs.map Ca))),none,none,none,none,none,none,none]) rfl ?_;have aE:((zW m).map λ j:Nat=>D.int (j:Int)).length<=1000:=by rw[zC,zbm];omega
 refine wp_step (ρ':=[some (.val (Ah m rs)),some (.val (.int m)),some (.val (.lst (rs.map Ca))),some (.ow (.rows (AD ((zW m).map λ _=>zR m none)))),none,none,none,none,none,none]) (by
  simp_arith[cE,Ej,if_pos aE];rw[LK (λ _:Nat=>OT.lst ((zR m D.AF).map .sh)) (λ j hj=>⟨_,rfl,rfl,by simp_arith[du]⟩)];unfold NR iU;simp_arith[ZO]) ?_
 refine C4 (I:=λ ρ=>∃(ac:List (List Co)) (s4:Option Cl),ρ=[some (.val (Ah m rs)),some (.val (.int m)),some (.val (.lst (rs.map Ca))),some (.ow (.rows (AD ac))),s4,none,none,none,none,none]/\MM m ac/\∀u:Nat,u<m->OA m rs u 0 (ac.getD u [])) ?_ ?_
 ·simp_arith[cE];refine BD (λ i ρ=>∃(ac:List (List Co)) (s4:Option Cl),ρ=[some (.val (Ah m rs)),some (.val (.int m)),some (.val (.lst (rs.map Ca))),some (.ow (.rows (AD ac))),s4,none,none,none,none,none]/\MM m ac/\∀u:Nat,u<m->ac.getD u []=if u<i then (zR m none).set u (some (0,0)) else zR m none) ⟨_,none,rfl,iY m,λ u hu=>by rw[if_neg (by omega)];exact iZ hu⟩ ?_ ?_
  ·rintro i d ρ hd ⟨ac,s4,rfl,hM,a6⟩;obtain⟨aI,hi⟩:=BB hd;rw[zcg] at aI;subst aI;refine⟨_,rfl,?_⟩;have pj:=QS (ρ:=[some (.val (Ah m rs)),some (.val (.int m)),some (.val (.lst (rs.map Ca))),some (.ow (.rows (AD ac))),some (.val (.int i)),none,none,none,none,none]) (i:=3) (v:=some (0,0)) rfl hM (show (0:Int)<=i by omega) (show (i:Int)<m by omega) (show (0:Int)<=i by omega) (show (i:Int)<m by omega);have yI:RN 3 [some (.val (Ah m rs)),some (.val (.int m)),some (.val (.lst (rs.map Ca))),some (.ow (.rows (AD ac))),some (.val (.int i)),none,none,none,none,none] (.ok (.int i)) (.ok (.int i)) (.tup [.int 0,.int 0])=_:=pj;refine Bm (ρ':=[some (.val (Ah m rs)),some (.val (.int m)),some (.val (.lst (rs.map Ca))),some (.ow (.rows (AD (put2 ac i i (some (0,0)))))),some (.val (.int i)),none,none,none,none,none]) (by simp_arith[yI];try rfl) ⟨_,_,rfl,(hM.put (by omega) (by omega) (by omega) (by omega) _).1,λ u hu=>?_⟩;rw[Sy hM (by omega) (by omega)];by_cases e:(u:Int)=i
   ·have e2:u=i:=by omega
    subst e2;rw[if_pos rfl,if_pos (by omega),zax,a6 u hu,if_neg (by omega)]
   ·rw[if_neg e,a6 u hu];by_cases e3:u<i
    ·rw[if_pos e3,if_pos (by omega)]
    ·rw[if_neg e3,if_neg (by omega)]
  ·rintro ρ ⟨ac,s4,rfl,hM,a6⟩;rw[Bk] at a6;exact⟨ac,s4,rfl,hM,λ u hu=>by rw[a6 u hu,if_pos hu];exact X1 rs hu⟩
 rintro ρ ⟨a7,s4,rfl,sy,lx⟩;refine C4 (I:=λ ρ=>∃(ac:List (List Co)) (s5 s6 s7 s8:Option Cl),ρ=[some (.val (Ah m rs)),some (.val (.int m)),some (.val (.lst (rs.map Ca))),some (.ow (.rows (AD ac))),s4,s5,s6,s7,s8,none]/\MM m ac/\∀u:Nat,u<m->OA m rs u rs.length (ac.getD u [])) ?_ ?_
 ·simp_arith[];refine BD (λ j ρ=>∃(ac:List (List Co)) (s5 s6 s7 s8:Option Cl),ρ=[some (.val (Ah m rs)),some (.val (.int m)),some (.val (.lst (rs.map Ca))),some (.ow (.rows (AD ac))),s4,s5,s6,s7,s8,none]/\MM m ac/\∀u:Nat,u<m->OA m rs u j (ac.getD u [])) ⟨a7,none,none,none,none,rfl,sy,lx⟩ ?_ ?_
  ·rintro j d ρ hd ⟨ac,s5,s6,s7,s8,rfl,hM,a6⟩;obtain⟨r,hq,rfl⟩:=C6 hd;have hr:=zM hq;have ok:=Au r hr;have ea:((r.a.toNat:Nat):Int)=r.a:=by have:=ok.a0;omega
   refine⟨[some (.val (Ah m rs)),some (.val (.int m)),some (.val (.lst (rs.map Ca))),some (.ow (.rows (AD ac))),s4,some (.val (.int r.a)),some (.val (.int r.b)),some (.val (EK r.l)),some (.val (.int r.w)),none],rfl,?_⟩;cases hl:r.l with
   |none =>
    have hn:Bj (EK none)=true:=rfl;refine Bm (ρ':=_) (by simp_arith[hn];try rfl) ⟨ac,_,_,_,_,rfl,hM,λ u hu=>?_⟩;by_cases e:r.a=(u:Int)
    ·have g:=Sf (a6 u hu) hq e Au;have e2:Cq r=none:=by unfold Cq;rw[hl]
     rw[e2,ZN,iX ok.b0] at g;exact g
    ·exact Se (a6 u hu) hq e
   |some z =>
    have hn:Bj (EK (some z))=false:=rfl;have e2:Cq r=some (z,1):=by unfold Cq;rw[hl]
    have c1:=QR (ρ:=[some (.val (Ah m rs)),some (.val (.int m)),some (.val (.lst (rs.map Ca))),some (.ow (.rows (AD ac))),s4,some (.val (.int r.a)),some (.val (.int r.b)),some (.val (EK (some z))),some (.val (.int r.w)),none]) (i:=3) rfl hM ok.a0 ok.a1 ok.b0 ok.b1;have hle:=KH (at2 ac r.a r.b) (some (z,1));have cD:FZ [cst (at2 ac r.a r.b),.tup [.int z,.int 1]]=.ok (.sh (cst (Dq (at2 ac r.a r.b) (some (z,1))))):=hle;have ez:EK (some z)=.int z:=rfl;have pj:=QS (ρ:=[some (.val (Ah m rs)),some (.val (.int m)),some (.val (.lst (rs.map Ca))),some (.ow (.rows (AD ac))),s4,some (.val (.int r.a)),some (.val (.int r.b)),some (.val (EK (some z))),some (.val (.int r.w)),none]) (i:=3) (v:=Dq (at2 ac r.a r.b) (some (z,1))) rfl hM ok.a0 ok.a1 ok.b0 ok.b1;rw[ez] at c1 pj hn ⊢;refine Bm (ρ':=[some (.val (Ah m rs)),some (.val (.int m)),some (.val (.lst (rs.map Ca))),some (.ow (.rows (AD (put2 ac r.a r.b (Dq (at2 ac r.a r.b) (some (z,1))))))),s4,some (.val (.int r.a)),some (.val (.int r.b)),some (.val (.int z)),some (.val (.int r.w)),none]) (by simp_arith[hn,c1,cD,pj];try rfl) ⟨_,_,_,_,_,rfl,(hM.put ok.a0 ok.a1 ok.b0 ok.b1 _).1,λ u hu=>?_⟩;rw[Sy hM ok.a0 ok.a1];by_cases e:r.a=(u:Int)
    ·have g:=Sf (a6 u hu) hq e Au;rw[if_pos e.symm];have e3:r.a.toNat=u:=by omega
     rw[e3];rw[e2] at g;have e4:at2 ac r.a r.b=atC (ac.getD u []) r.b:=by unfold at2;rw[e3]
     rw[e4];exact g
    ·rw[if_neg (λ z=>e z.symm)];exact Se (a6 u hu) hq e
  ·rintro ρ ⟨ac,s5,s6,s7,s8,rfl,hM,a6⟩;rw[zC] at a6;exact⟨ac,s5,s6,s7,s8,rfl,hM,a6⟩
 rintro ρ ⟨ac,s5,s6,k7,k8,rfl,hM,a6⟩;have hF:=Zj hM Au a6;refine C4 (I:=λ ρ=>∃(ac:List (List Co)) (s5 s6 s9:Option Cl),ρ=[some (.val (Ah m rs)),some (.val (.int m)),some (.val (.lst (rs.map Ca))),some (.ow (.rows (AD ac))),s4,s5,s6,k7,k8,s9]/\MM m ac/\FW m m rs (at2 ac)) ?_ ?_
 ·simp_arith[cE];refine BD (λ k ρ=>∃(ac:List (List Co)) (s5 s6 s9:Option Cl),ρ=[some (.val (Ah m rs)),some (.val (.int m)),some (.val (.lst (rs.map Ca))),some (.ow (.rows (AD ac))),s4,s5,s6,k7,k8,s9]/\MM m ac/\FW m k rs (at2 ac)) ⟨ac,s5,s6,none,rfl,hM,hF⟩ ?_ ?_
  ·rintro k d ρ hd ⟨a7,s5,s6,s9,rfl,sy,lw⟩;obtain⟨aI,hk⟩:=BB hd;rw[zcg] at aI;subst aI;refine⟨_,rfl,?_⟩;have k0:(0:Int)<=k:=by omega
   have k1:(k:Int)<m:=by omega
   have oc:=Sb lw hk;have orr:=Sd lw hk;simp_arith[cE];refine BD (λ u ρ=>∃(ac:List (List Co)) (s5 s6:Option Cl),ρ=[some (.val (Ah m rs)),some (.val (.int m)),some (.val (.lst (rs.map Ca))),some (.ow (.rows (AD ac))),s4,s5,s6,k7,k8,some (.val (.int k))]/\MM m ac/\∀x y:Int,0<=x->x<m->0<=y->y<m->at2 ac x y=if x<u then over k (at2 a7) x y else at2 a7 x y) ⟨a7,s5,s6,rfl,sy,λ x y h0 h1 h2 h3=>by rw[if_neg (by omega)]⟩ ?_ ?_
   ·rintro u d ρ hd ⟨bJ,s5,s6,rfl,il,ng⟩;obtain⟨aI,hu⟩:=BB hd;rw[zcg] at aI;subst aI;have u0:(0:Int)<=u:=by omega
    have u1:(u:Int)<m:=by omega
    refine⟨_,rfl,?_⟩;simp_arith[cE];refine BD (λ w ρ=>∃(ac:List (List Co)) (s6:Option Cl),ρ=[some (.val (Ah m rs)),some (.val (.int m)),some (.val (.lst (rs.map Ca))),some (.ow (.rows (AD ac))),s4,some (.val (.int u)),s6,k7,k8,some (.val (.int k))]/\MM m ac/\∀x y:Int,0<=x->x<m->0<=y->y<m->at2 ac x y=if x<u\/(x=u/\y<w) then over k (at2 a7) x y else at2 a7 x y) ⟨bJ,s6,rfl,il,λ x y h0 h1 h2 h3=>by
     rw[ng x y h0 h1 h2 h3];by_cases h:x<u
     ·rw[if_pos h,if_pos (.inl h)]
     ·rw[if_neg h,if_neg (by omega)]⟩ ?_ ?_
    ·rintro w d ρ hd ⟨bg,s6,rfl,im,ip⟩;obtain⟨aI,hw⟩:=BB hd;rw[zcg] at aI;subst aI;have w0:(0:Int)<=w:=by omega
     have w1:(w:Int)<m:=by omega
     have a1:at2 bg u w=at2 a7 u w:=by rw[ip u w u0 u1 w0 w1,if_neg (by omega)]
     have a2:at2 bg u k=at2 a7 u k:=by
      rw[ip u k u0 u1 k0 k1];split
      ·exact oc u
      ·rfl
     have a3:at2 bg k w=at2 a7 k w:=by
      rw[ip k w k0 k1 w0 w1];split
      ·exact orr w
      ·rfl
     obtain⟨yJ,hP⟩:=im.put u0 u1 w0 w1 (over k (at2 a7) u w);have c1:=QR (ρ:=[some (.val (Ah m rs)),some (.val (.int m)),some (.val (.lst (rs.map Ca))),some (.ow (.rows (AD bg))),s4,some (.val (.int u)),some (.val (.int w)),k7,k8,some (.val (.int k))]) (i:=3) rfl im u0 u1 w0 w1;have c2:=QR (ρ:=[some (.val (Ah m rs)),some (.val (.int m)),some (.val (.lst (rs.map Ca))),some (.ow (.rows (AD bg))),s4,some (.val (.int u)),some (.val (.int w)),k7,k8,some (.val (.int k))]) (i:=3) rfl im u0 u1 k0 k1;have c3:=QR (ρ:=[some (.val (Ah m rs)),some (.val (.int m)),some (.val (.lst (rs.map Ca))),some (.ow (.rows (AD bg))),s4,some (.val (.int u)),some (.val (.int w)),k7,k8,some (.val (.int k))]) (i:=3) rfl im k0 k1 w0 w1;rw[a1] at c1;rw[a2] at c2;rw[a3] at c3;have ie:=LU (at2 a7 u k) (at2 a7 k w);have hle:FZ [cst (at2 a7 u w),cst (Ap (at2 a7 u k) (at2 a7 k w))]=.ok (.sh (cst (over k (at2 a7) u w))):=KH _ _;have pj:=QS (ρ:=[some (.val (Ah m rs)),some (.val (.int m)),some (.val (.lst (rs.map Ca))),some (.ow (.rows (AD bg))),s4,some (.val (.int u)),some (.val (.int w)),k7,k8,some (.val (.int k))]) (i:=3) (v:=over k (at2 a7) u w) rfl im u0 u1 w0 w1;refine⟨_,rfl,?_⟩;refine Bm (ρ':=[some (.val (Ah m rs)),some (.val (.int m)),some (.val (.lst (rs.map Ca))),some (.ow (.rows (AD (put2 bg u w (over k (at2 a7) u w))))),s4,some (.val (.int u)),some (.val (.int w)),k7,k8,some (.val (.int k))]) (by simp_arith[c1,c2,c3,ie,hle,pj]) ⟨_,_,rfl,yJ,λ x y h0 h1 h2 h3=>?_⟩;rw[hP x y h0 h2];by_cases h:x=u/\y=w
     ·rw[if_pos h,if_pos (by omega),h.1,h.2]
     ·rw[if_neg h,ip x y h0 h1 h2 h3];by_cases h':x<u\/(x=u/\y<w)
      ·rw[if_pos h',if_pos (by omega)]
      ·rw[if_neg h',if_neg (by omega)]
    ·rintro ρ ⟨bg,s6,rfl,im,ip⟩;rw[Bk] at ip;refine⟨bg,_,_,rfl,im,λ x y h0 h1 h2 h3=>?_⟩;rw[ip x y h0 h1 h2 h3];by_cases h:x<u\/(x=u/\y<m)
     ·rw[if_pos h,if_pos (by omega)]
     ·rw[if_neg h,if_neg (by omega)]
   ·rintro ρ ⟨bJ,s5,s6,rfl,il,ng⟩;rw[Bk] at ng;refine⟨bJ,_,_,_,rfl,il,(Zi lw hk).congr (by omega) Au λ x y h0 h1 h2 h3=>?_⟩;rw[ng x y h0 h1 h2 h3,if_pos h1]
  ·rintro ρ ⟨bJ,s5,s6,s9,rfl,il,e9⟩;rw[Bk] at e9;exact⟨bJ,s5,s6,s9,rfl,il,e9⟩
 ·rintro ρ ⟨bJ,s5,s6,s9,rfl,il,e9⟩;refine⟨_,rfl,bJ,il,λ x y h0 h1 h2 h3=>nO e9 Au h0 h1 h2 h3,?_⟩;rw[er,V1,zam];congr 1;refine zc0 λ R _=>?_;dsimp only [Function.comp];rw[IX]
noncomputable def T4:List D->M OT:=zH Jk
theorem UK:Txt K mg->BV P w K mg base "_law_all" 2 1 T4:=(zB Jk).1
theorem UL:∀(m:Nat) (rs:List Road),1<=m->m<=900->rs.length<=900->(∀r∈rs,HY m r)->∃ac:List (List Co),MM m ac/\(∀x y:Int,0<=x->x<m->0<=y->y<m->DK rs x y (at2 ac x y))/\∃t,T4 [Ah m rs]=.ok t/\er t=.lst ((AD ac).map D.lst):=(zB Jk).2
theorem Ht:∃F:List D->M OT,(∀ {P w K mg base},Txt K mg->BV P w K mg base "_law_cost" 1 2 F)/\(∀c:Co,F [cst c,cst c]=.ok (.sh (.bl true))):=by
 refine⟨_,λ T=>AI (k:=0) T.Ux LM _ (λ f B4 A outer s H E hr=>(A4 (B7 (Gy (c:=true) (A1 1 (pv 1))) (A5 (Al (B1 (TH (A1 0 (pv 0)))))) Ay) (A4 (B7 (DW.dt (DJ (Ci (BO (c:=true) (EV (IM _) rfl T.B5 rfl T.MQ (by decide +kernel) (A1 0 (pv 0))))) (CT (Gx (c:=true) (AU hr 16 (by decide)) (Fx rfl T.Kx (A1 0 (pv 0))) A6)))) (A5 (Al (B1 CQ))) Ay) (A4 (BC A9.toXCall.own rfl (oJ (A1 0 (pv 0))) (AN 2 LM.nd rfl (zan rfl)) (A5 (B7 (DW.dt (DJ (Ci (BO (c:=true) (EV (RH _) rfl T.B5 rfl T.kI (by decide +kernel) (A1 2 (pv 2))))) (CT (BO (c:=true) (EV (Pa _) rfl T.B5 rfl T.ZV (by decide +kernel) (A1 2 (pv 2))))))) (A5 (Al (B1 CQ))) Ay))) (A5 (Al (B1 (Yn (AU hr 16 (by decide)) (A1 0 (pv 0)) (A1 1 (pv 1)))))))))),?_⟩;intro c;have e0:AG ["_law_found","_law_due","_law_part"] [cst c,cst c]=[some (.val (cst c)),some (.val (cst c)),none]:=rfl;rw[e0];refine Bl ?_;cases c with
 |none=>rfl
 |some p =>
  have hn:Bj (cst (some p))=false:=rfl;have ht:cst (some p)=.tup [.int p.1,.int p.2]:=rfl;have je:=ML (some p) (some p);apply wp_step
  ·simp_arith[hn];rfl
  apply wp_step
  ·simp_arith[ht];rfl
  refine C4 (I:=λ ρ=>∃s,ρ=[some (.val (cst (some p))),some (.val (cst (some p))),s]) ?_ ?_
  ·simp_arith[ht];refine BD (λ i ρ=>∃s,ρ=[some (.val (cst (some p))),some (.val (cst (some p))),s]) ⟨none,rfl⟩ ?_ ?_
   ·rintro i d ρ hd ⟨s,rfl⟩;obtain⟨x,rfl⟩:∃x,d=D.int x:=by
     rcases i with _|_|i
     ·cases hd;exact⟨_,rfl⟩
     ·cases hd;exact⟨_,rfl⟩
     ·cases hd
    refine⟨_,rfl,?_⟩;refine Bm (ρ':=_) (by simp_arith[];rfl) ⟨_,rfl⟩
   ·rintro ρ ⟨s,rfl⟩;exact⟨s,rfl⟩
  ·rintro ρ ⟨s,rfl⟩;simp_arith[je,decide_true];rfl
noncomputable def PZ:List D->M OT:=zH Ht
theorem T5:Txt K mg->BV P w K mg base "_law_cost" 1 2 PZ:=(zB Ht).1
theorem T6:∀c:Co,PZ [cst c,cst c]=.ok (.sh (.bl true)):=(zB Ht).2
theorem Hu:∃F:List D->M OT,(∀ {P w K mg base},Txt K mg->BV P w K mg base "_law_copy" 1 1 F)/\(∀(m:Nat) (rs:List Road),F [Ah m rs]=.ok (.tup [.sh (.int m),.lst ((rs.map Ca).map .sh)])):=by
 refine⟨_,λ T=>AI (k:=0) T.Uy SE _ (λ f B4 A outer s H E hr=>(A5 (Al (TY (Fj (B1 (Ae (AU hr 16 (by decide)) (A1 0 (pv 0)) A6)) (Fj (Mp rfl T.EA (Ae (AU hr 16 (by decide)) (A1 0 (pv 0)) A6)) DQ)))))),?_⟩;intro m rs;have e0:AG ["_law_net"] [Ah m rs]=[some (.val (Ah m rs))]:=rfl;rw[e0];refine Bl ?_;have i0:Bf (Ah m rs) (.int 0)=.ok (.int m):=rfl;have i1:Bf (Ah m rs) (.int 1)=.ok (.lst (rs.map Ca)):=rfl;simp_arith[i0,i1];exact⟨_,rfl,rfl⟩
noncomputable def Q0:List D->M OT:=zH Hu
theorem T7:Txt K mg->BV P w K mg base "_law_copy" 1 1 Q0:=(zB Hu).1
theorem T8:∀(m:Nat) (rs:List Road),Q0 [Ah m rs]=.ok (.tup [.sh (.int m),.lst ((rs.map Ca).map .sh)]):=(zB Hu).2
theorem UM:∃F:List D->M D,(∀ {P w K mg base f fd},Txt K mg->Xu K "law" "law" G6 f fd->Dr P w K mg base dX 8 f fd ["_law_script"] (TQ K 1 F))/\(∀ns:List Int,ns.length<=63->(∀n∈ns,Sm n)->F [.lst (ns.map D.int)]=.ok (.bl true)):=by
 refine⟨_,fun {P w K mg base f fd} T F=>rN (k:=7) F Dw _ (λ B4 A outer s H E hr=>(A4 (AV 1 Dw.nd rfl (zan rfl) (An (Cj (Ad (BH rfl).toXCall (UI T) (hr.mono (by decide)) rfl (A2 (A1 0 (pv 0)) (A2 A6 (A2 A6 A8))) rfl)))) (A4 (AV 2 Dw.nd rfl (Or.inr rfl) (An (Cj (gK (BH rfl).toXCall (Jh T).yC (hr.mono (by decide)) rfl (A2 (An (Ad (BH rfl).toXCall (T7 T) (hr.mono (by decide)) rfl (A2 (A1 1 (pv 1)) A8) rfl)) (A2 (An (Ad (BH rfl).toXCall (Rb T) (hr.mono (by decide)) rfl (A2 (An (Ad (BH rfl).toXCall (Ho T) (hr.mono (by decide)) rfl (A2 (A1 0 (pv 0)) (A2 A6 A8)) rfl)) (A2 (Ae (AU hr 16 (by decide)) (A1 1 (pv 1)) A6) (A2 A6 A8))) rfl)) A8)) rfl)))) (A4 (AV 3 Dw.nd rfl (zan rfl) (An (Cj (Ad (BH rfl).toXCall (UK T) (hr.mono (by decide)) rfl (A2 (A1 1 (pv 1)) A8) rfl)))) (A4 (JB (NB:=["_law_place","_law_ladder"]) 4 [none,some 2] Dw.nd rfl (zan rfl) rfl (Bi (c:=true) rfl T.BP (Ae (AU hr 16 (by decide)) (A1 1 (pv 1)) A6)) rfl rfl (Bw 0 (by decide) rfl rfl rfl) (λ _ _ _ _=>Dk) (λ _ _ _ _=>(An (Cj (Ad (BH rfl).toXCall (Ga T) (hr.mono (by decide)) rfl (A2 (A1 1 (pv 1)) (A2 (A1 0 (pv 0)) A8)) rfl))))) (A4 (JB (NB:=["_law_place","_law_ladder"]) 5 [none,some 2] Dw.nd rfl (zan rfl) rfl (Bi (c:=true) rfl T.BP (Ae (AU hr 16 (by decide)) (A1 1 (pv 1)) A6)) rfl rfl (Bw 0 (by decide) rfl rfl rfl) (λ _ _ _ _=>Dk) (λ _ _ _ _=>(An (Cj (Ad (BH rfl).toXCall (Hh T) (hr.mono (by decide)) rfl (A2 (A1 1 (pv 1)) (A2 (A1 0 (pv 0)) A8)) rfl))))) (A4 (BC PassesOwn.never rfl (Bi (c:=true) rfl T.BP (Ae (AU hr 16 (by decide)) (A1 1 (pv 1)) A6)) (AN 6 Dw.nd rfl (zan rfl)) (A5 (BC PassesOwn.never rfl (Bi (c:=true) rfl T.BP (Ae (AU hr 16 (by decide)) (A1 1 (pv 1)) A6)) (AN 7 Dw.nd rfl (zan rfl)) (A4 (B7 (Ci (BO (c:=true) (An (Cj (Ad (BH rfl).toXCall (T5 T) (hr.mono (by decide)) rfl (A2 (An (Ad (BH rfl).toXCall (Mc T) (hr.mono (by decide)) rfl (A2 (A1 2 (pv 2)) (A2 (A1 6 (pv 6)) (A2 (A1 7 (pv 7)) A8))) rfl)) (A2 (Ae (AU hr 16 (by decide)) (Ae (AU hr 16 (by decide)) (A1 3 (pv 3)) (A1 6 (pv 6))) (A1 7 (pv 7))) A8)) rfl))))) (A5 (Qg (Na CQ))) Ay) (A4 (Cw 8 Dw.nd rfl (zan rfl) (L5 DQ)) (A4 (BC PassesOwn.never rfl (Bi (c:=true) rfl T.BP (Ae (AU hr 16 (by decide)) (A1 1 (pv 1)) A6)) (AN 9 Dw.nd rfl (zan rfl)) (A4 (AV 11 Dw.nd rfl (zan rfl) (An (Cj (Ad (BH rfl).toXCall (LS T) (hr.mono (by decide)) rfl (A2 (NC (AU hr 16 (by decide)) (Ae (AU hr 16 (by decide)) (A1 4 (pv 4)) (A1 6 (pv 6))) (A1 9 (pv 9))) (A2 (NC (AU hr 16 (by decide)) (Ae (AU hr 16 (by decide)) (A1 5 (pv 5)) (A1 7 (pv 7))) (A1 9 (pv 9))) A8)) rfl)))) (A5 (B7 (DW.dt (IL (HA (c:=true) (A1 11 (pv 11))) (Fw (Ly (c:=true) (AU hr 16 (by decide)) (A1 11 (pv 11)) (Ae (AU hr 16 (by decide)) (Ae (AU hr 16 (by decide)) (A1 3 (pv 3)) (A1 6 (pv 6))) (A1 7 (pv 7))))))) (A5 (KY 8 (pv 8) (A1 9 (pv 9)))) Ay)))) (A4 (Cw 10 Dw.nd rfl (zan rfl) (Cj (Ad (BH rfl).toXCall (tops_at T) (hr.mono (by decide)) rfl (A2 (A1 2 (pv 2)) (A2 (A1 6 (pv 6)) (A2 (A1 7 (pv 7)) A8))) rfl))) (A4 (B7 (L6 (DW.dt (DJ (Ci (BO (c:=true) (EV (KW _) rfl T.B5 rfl T.EA (by decide +kernel) (A1 10 (pv 10))))) (DJ (Gx (c:=true) (AU hr 16 (by decide)) (A1 10 (pv 10)) (A1 8 (pv 8))) (CT (Gx (c:=true) (AU hr 16 (by decide)) (Yn (AU hr 16 (by decide)) (A1 8 (pv 8)) (IK A8)) (TH (Ae (AU hr 16 (by decide)) (Ae (AU hr 16 (by decide)) (A1 3 (pv 3)) (A1 6 (pv 6))) (A1 7 (pv 7)))))))))) (A5 (Qg (Na CQ))) Ay) (A4 (KY 10 (pv 10) A6) (A5 (B7 (L6 (DW.dt (IL (Ly (c:=true) (AU hr 16 (by decide)) (A1 7 (pv 7)) (BN (BX (A1 6 (pv 6)) A6) (Ae (AU hr 16 (by decide)) (A1 1 (pv 1)) A6))) (Fw (Gx (c:=true) (AU hr 16 (by decide)) (An (Cj (Ad (BH rfl).toXCall (tops_at T) (hr.mono (by decide)) rfl (A2 (A1 2 (pv 2)) (A2 (A1 6 (pv 6)) (A2 (A1 7 (pv 7)) A8))) rfl))) (A1 8 (pv 8))))))) (A5 (Qg (Na CQ))) Ay))))))))))) (A5 (Qg (Na CQ)))))))))),?_⟩;intro ns f8 bN;have e0:AG ["_law_script","_law_net","_law_ladder","_law_costs","_law_ups","_law_downs","_law_start","_law_goal","_law_due","_law_place","_law_found","_law_both"] [.lst (ns.map D.int)]=[some (.val (.lst (ns.map D.int))),none,none,none,none,none,none,none,none,none,none,none]:=rfl;rw[e0];refine sH ?_;obtain⟨z1,xN,e9⟩:=Hq ns 1 bN;have sB:DZ [.lst (ns.map D.int),.int 1]=.ok (.sh (.int z1)):=e9;obtain⟨m,rs,cg,cL,lp,i8,tm,yK,yL⟩:=UJ ns f8 bN;have sK:∀r∈rs,HY m r:=λ r hr=>(i8 r hr).wU.1;have i0:Bf (Ah m rs) (.int 0)=.ok (.int m):=rfl;apply wp_step
 ·simp_arith[yK,yL];rfl
 try simp only[zV,zP]
 have yM:=T8 m rs;obtain⟨L,hL,yN⟩:=Rc z1 m (by omega);obtain⟨A,K,ok,t,hI,hE⟩:=Ji m rs (.lst (L.map D.int)) L cg (by omega) (by omega) i8 hL (.inl rfl);have yO:Z3 (Dj (.ins "Ladder" [] []) [Ah m rs,.lst (L.map D.int)])=.ok t:=by rw[hI];rfl
 have yP:=jB m rs;refine wp_step (ρ':=[some (.val (.lst (ns.map D.int))),some (.val (Ah m rs)),some (.val (AJ m rs L A K)),none,none,none,none,none,none,none,none,none]) (by simp_arith[yM,yP,sB,i0,yN,yO,hE];try rfl) ?_;obtain⟨ac,hM,hA,tc,yQ,yR⟩:=UL m rs cg (by omega) (by omega) sK;apply wp_step
 ·simp_arith[yQ,yR];rfl
 try simp only[zV,zP]
 obtain⟨Rf,xa⟩:∃Rf:Nat->RA,∀i:Nat,i<m->Cu [AJ m rs L A K,.int i]=.ok (Lb (Rf i))/\LJ L (GP A K) i L.length (Rf i):=⟨λ i=>if h:i<m then zH (Gb m rs L A K i ok h) else [],λ i hi=>by
  dsimp only;rw[dif_pos hi];exact zB (Gb m rs L A K i ok hi)⟩
 obtain⟨Gf,xb⟩:∃Gf:Nat->RA,∀i:Nat,i<m->CY [AJ m rs L A K,.int i]=.ok (Lb (Gf i))/\LJ L (PJ (GP A K)) i L.length (Gf i):=⟨λ i=>if h:i<m then zH (Hi m rs L A K i ok h) else [],λ i hi=>by
  dsimp only;rw[dif_pos hi];exact zB (Hi m rs L A K i ok hi)⟩
 have bO:Wv (.int (m:Int))=.ok (Cz 0 m):=Jz (by omega);have aE:((zW m).map λ j:Nat=>D.int (j:Int)).length<=1000:=by rw[zC,zbm];omega
 refine wp_step (ρ':=[some (.val (.lst (ns.map D.int))),some (.val (Ah m rs)),some (.val (AJ m rs L A K)),some (.val (.lst ((AD ac).map D.lst))),some (.val (.lst ((zW m).map λ i=>G5 (Rf i)))),none,none,none,none,none,none,none]) (by
  simp_arith[i0,bO,Ej,if_pos aE];rw[CB (λ i:Nat=>G5 (Rf i)) (λ i hi=>⟨_,rfl,rfl,by
   have h1:=(xa i (zbe.mp hi)).1;simp_arith[h1]⟩)]
  try rfl) ?_
 refine wp_step (ρ':=[some (.val (.lst (ns.map D.int))),some (.val (Ah m rs)),some (.val (AJ m rs L A K)),some (.val (.lst ((AD ac).map D.lst))),some (.val (.lst ((zW m).map λ i=>G5 (Rf i)))),some (.val (.lst ((zW m).map λ i=>G5 (Gf i)))),none,none,none,none,none,none]) (by
  simp_arith[i0,bO,Ej,if_pos aE];rw[CB (λ i:Nat=>G5 (Gf i)) (λ i hi=>⟨_,rfl,rfl,by
   have h1:=(xb i (zbe.mp hi)).1;simp_arith[h1]⟩)]
  try rfl) ?_
 have a6:∀s:Int,0<=s->s<m->Bf (.lst ((AD ac).map D.lst)) (.int s)=.ok (.lst ((ac.getD s.toNat []).map cst)):=λ s h0 h1=>by
  have e:=(hM.get h0 h1).1;have e2:(AD ac)[s.toNat]?=some ((ac.getD s.toNat []).map cst):=by unfold AD;rw[za2,e];rfl
  exact HZ h0 e2
 have yS:∀x y:Int,0<=x->x<m->0<=y->y<m->Bf (.lst ((ac.getD x.toNat []).map cst)) (.int y)=.ok (cst (at2 ac x y)):=λ x y a b c d=>GI c (by rw[(hM.get a b).2];exact d);have yT:∀s:Nat,s<m->Bf (.lst ((zW m).map λ i=>G5 (Rf i))) (.int (s:Int))=.ok (G5 (Rf s)):=λ s hs=>HZ (by omega) (by rw[zax,zc2 hs]);have gi:∀s:Nat,s<m->Bf (.lst ((zW m).map λ i=>G5 (Gf i))) (.int (s:Int))=.ok (G5 (Gf s)):=λ s hs=>HZ (by omega) (by rw[zax,zc2 hs]);refine C4 (I:=λ ρ=>∃(s6 s7 s8:Option Cl) (o9:Option D) (b6:Option Cl) (aT:Option D),ρ=[some (.val (.lst (ns.map D.int))),some (.val (Ah m rs)),some (.val (AJ m rs L A K)),some (.val (.lst ((AD ac).map D.lst))),some (.val (.lst ((zW m).map λ i=>G5 (Rf i)))),some (.val (.lst ((zW m).map λ i=>G5 (Gf i)))),s6,s7,s8,vO o9,b6,vO aT]) ?_ ?_
 ·simp_arith[i0,bO];refine BD (λ i ρ=>∃(s6 s7 s8:Option Cl) (o9:Option D) (b6:Option Cl) (aT:Option D),ρ=[some (.val (.lst (ns.map D.int))),some (.val (Ah m rs)),some (.val (AJ m rs L A K)),some (.val (.lst ((AD ac).map D.lst))),some (.val (.lst ((zW m).map λ i=>G5 (Rf i)))),some (.val (.lst ((zW m).map λ i=>G5 (Gf i)))),s6,s7,s8,vO o9,b6,vO aT]) ⟨none,none,none,none,none,none,rfl⟩ ?_ ?_
  ·rintro s d ρ hd ⟨s6,s7,s8,o9,b6,aT,rfl⟩;obtain⟨aI,hs⟩:=BB hd;rw[zcg] at aI;subst aI;refine⟨_,rfl,?_⟩;simp_arith[i0,bO];refine BD (λ i ρ=>∃(s7 s8:Option Cl) (o9:Option D) (b6:Option Cl) (aT:Option D),ρ=[some (.val (.lst (ns.map D.int))),some (.val (Ah m rs)),some (.val (AJ m rs L A K)),some (.val (.lst ((AD ac).map D.lst))),some (.val (.lst ((zW m).map λ i=>G5 (Rf i)))),some (.val (.lst ((zW m).map λ i=>G5 (Gf i)))),some (.val (.int s)),s7,s8,vO o9,b6,vO aT]) ⟨s7,s8,o9,b6,aT,rfl⟩ ?_ ?_
   ·rintro g d ρ hd ⟨s7,s8,o9,b6,aT,rfl⟩;obtain⟨aI,hg⟩:=BB hd;rw[zcg] at aI;subst aI;refine⟨_,rfl,?_⟩;obtain⟨yU,iq⟩:=xa s hs;obtain⟨yV,yW⟩:=xb g hg;have zv:(Rf s).length<=m:=by have:=iq.len;rw[GL ok.pm] at this;exact this
    have zw:(B8 (Rf s) (Gf g)).length<=m:=by
     have:=(Br (Gf g) (Rf s)).length_le;rw[zC,zC] at this;omega
    have hS:=Mb m rs L A K s g (Rf s) (Gf g) ok yU yV iq.nd (by omega);have cC:=ZP ok (s:=(s:Int)) (g:=(g:Int)) ⟨by omega,by omega⟩ ⟨by omega,by omega⟩ iq yW (hA s g (by omega) (by omega) (by omega) (by omega));have xc:∀k∈(Rf s).map za1,0<=k/\k<(m:Int):=λ k hk=>(BR ok.pm).mp (iq.rg k hk);have xf:=Md m rs L A K s g _ hS (by omega);have nh:=tops_eq m rs L A K s g _ hS ((Br (Gf g) (Rf s)).nodup iq.nd) (by omega);rw[tops_btw iq.nd xc,cC] at nh;rw[cC] at xf;have dw:=jC (R2:=Gf g) iq.nd xc;rw[cC] at dw;have w6:=T6 (at2 ac s g);have r1:=a6 s (by omega) (by omega);have x1:=yS s g (by omega) (by omega) (by omega) (by omega);obtain⟨B,hB⟩:∃B,B=QT (Av (Rf s)) (Av (Gf g)) (at2 ac s g) m:=⟨_,rfl⟩;have zx:B.length<=m:=by rw[hB];exact VJ _ _ _ _
    refine wp_step (ρ':=[some (.val (.lst (ns.map D.int))),some (.val (Ah m rs)),some (.val (AJ m rs L A K)),some (.val (.lst ((AD ac).map D.lst))),some (.val (.lst ((zW m).map λ i=>G5 (Rf i)))),some (.val (.lst ((zW m).map λ i=>G5 (Gf i)))),some (.val (.int s)),some (.val (.int g)),s8,vO o9,b6,vO aT]) (by simp_arith[xf,r1,x1,w6,EX];try rfl) ?_;refine wp_step (ρ':=[some (.val (.lst (ns.map D.int))),some (.val (Ah m rs)),some (.val (AJ m rs L A K)),some (.val (.lst ((AD ac).map D.lst))),some (.val (.lst ((zW m).map λ i=>G5 (Rf i)))),some (.val (.lst ((zW m).map λ i=>G5 (Gf i)))),some (.val (.int s)),some (.val (.int g)),some (.own []),vO o9,b6,vO aT]) (by simp_arith[];try rfl) ?_;refine C4 (I:=λ ρ=>∃(o9 aT:Option D),ρ=[some (.val (.lst (ns.map D.int))),some (.val (Ah m rs)),some (.val (AJ m rs L A K)),some (.val (.lst ((AD ac).map D.lst))),some (.val (.lst ((zW m).map λ i=>G5 (Rf i)))),some (.val (.lst ((zW m).map λ i=>G5 (Gf i)))),some (.val (.int s)),some (.val (.int g)),some (.own (B.map D.int)),vO o9,b6,vO aT]) ?_ ?_
    ·simp_arith[i0,bO];refine BD (λ j ρ=>∃(o9 aT:Option D),ρ=[some (.val (.lst (ns.map D.int))),some (.val (Ah m rs)),some (.val (AJ m rs L A K)),some (.val (.lst ((AD ac).map D.lst))),some (.val (.lst ((zW m).map λ i=>G5 (Rf i)))),some (.val (.lst ((zW m).map λ i=>G5 (Gf i)))),some (.val (.int s)),some (.val (.int g)),some (.own ((QT (Av (Rf s)) (Av (Gf g)) (at2 ac s g) j).map D.int)),vO o9,b6,vO aT]) ⟨o9,aT,rfl⟩ ?_ ?_
     ·rintro j d ρ hd ⟨o9,aT,rfl⟩;obtain⟨aI,hj⟩:=BB hd;rw[zcg] at aI;subst aI;refine⟨_,rfl,?_⟩;have u1:=yT s hs;have u2:=gi g hg;have g1:=Uh (Rf s) (j:Int);have g2:=Uh (Gf g) (j:Int);have ie:=LU (Av (Rf s) (j:Int)) (Av (Gf g) (j:Int));have hl:=VJ (Av (Rf s)) (Av (Gf g)) (at2 ac s g) j;apply wp_step
      ·simp_arith[u1,u2,g1,g2,ie];rfl
      try simp only[zV,zP]
      have jf:=ZF (Av (Rf s)) (Av (Gf g)) (at2 ac s g) j;have je:=ML (Ap (Av (Rf s) (j:Int)) (Av (Gf g) (j:Int))) (at2 ac s g);have ly:((QT (Av (Rf s)) (Av (Gf g)) (at2 ac s g) j).map D.int).length<1000:=by rw[zC];omega
      have cb:Bj (cst (Ap (Av (Rf s) (j:Int)) (Av (Gf g) (j:Int))))=decide (Ap (Av (Rf s) (j:Int)) (Av (Gf g) (j:Int))=none):=by cases Ap (Av (Rf s) (j:Int)) (Av (Gf g) (j:Int))<;>rfl
      by_cases c1:Ap (Av (Rf s) (j:Int)) (Av (Gf g) (j:Int))=none
      ·rw[if_neg (λ h=>h.1 c1),zal] at jf;refine Bm (ρ':=_) (by simp_arith[cb,decide_eq_true c1];rfl) ⟨some (.int j),some (cst (Ap (Av (Rf s) (j:Int)) (Av (Gf g) (j:Int)))),by rw[jf];rfl⟩
      ·by_cases c2:Ap (Av (Rf s) (j:Int)) (Av (Gf g) (j:Int))=at2 ac s g
       ·rw[if_pos ⟨c1,c2⟩] at jf;refine Bm (ρ':=[some (.val (.lst (ns.map D.int))),some (.val (Ah m rs)),some (.val (AJ m rs L A K)),some (.val (.lst ((AD ac).map D.lst))),some (.val (.lst ((zW m).map λ i=>G5 (Rf i)))),some (.val (.lst ((zW m).map λ i=>G5 (Gf i)))),some (.val (.int s)),some (.val (.int g)),some (.own ((QT (Av (Rf s)) (Av (Gf g)) (at2 ac s g) (j+1)).map D.int)),some (.val (.int j)),b6,some (.val (cst (Ap (Av (Rf s) (j:Int)) (Av (Gf g) (j:Int)))))]) (by
         rw[jf];simp_arith[cb,decide_eq_false c1,je,decide_eq_true c2,r1,x1,EX,if_pos ly,zag];rfl) ⟨some (.int j),some (cst (Ap (Av (Rf s) (j:Int)) (Av (Gf g) (j:Int)))),rfl⟩
       ·rw[if_neg (λ h=>c2 h.2),zal] at jf;refine Bm (ρ':=_) (by simp_arith[cb,decide_eq_false c1,je,decide_eq_false c2,r1,x1,EX];rfl) ⟨some (.int j),some (cst (Ap (Av (Rf s) (j:Int)) (Av (Gf g) (j:Int)))),by rw[jf];rfl⟩
     ·rintro ρ ⟨o9,aT,rfl⟩;rw[Bk,<-hB];exact⟨o9,aT,rfl⟩
    rintro ρ ⟨o9,aT,rfl⟩;rw[<-hB] at nh dw;have tf:(B.map D.int).length<1000:=by rw[zC];omega
    have af:Wo 16 (.lst (B.map D.int)) (.lst (B.map D.int))=.ok (.bl false):=by rw[Zm,decide_eq_true rfl];rfl
    have yX:cK 16 (.lst (B.map D.int)) (.lst [])=.ok (.bl (decide (B=[]))):=Sn (b:=[]);have cb:Bj (cst (at2 ac s g))=decide (B=[]):=by
     cases q:at2 ac s g with
     |none=>rw[decide_eq_true (dw.mpr q)];rfl
     |some c=>rw[decide_eq_false (λ z=>by have:=dw.mp z;rw[q] at this;cases this)];rfl
    have o7:Wo 16 (.bl (decide (B=[]))) (.bl (decide (B=[])))=.ok (.bl false):=YC (rO (n:=16) _);apply wp_step
    ·simp_arith[nh];rfl
    try simp only[zV,zP]
    refine wp_step (ρ':=[some (.val (.lst (ns.map D.int))),some (.val (Ah m rs)),some (.val (AJ m rs L A K)),some (.val (.lst ((AD ac).map D.lst))),some (.val (.lst ((zW m).map λ i=>G5 (Rf i)))),some (.val (.lst ((zW m).map λ i=>G5 (Gf i)))),some (.val (.int s)),some (.val (.int g)),some (.own (B.map D.int)),vO o9,some (.own (B.map D.int)),vO aT]) (by
     simp_arith[EX,af,yX,r1,x1,cb,o7];try rfl) ?_
    apply wp_step
    ·simp_arith[if_pos tf];rfl
    try simp only[zV,zP]
    have l5:Gi (.int ((s:Int)+1)) (.int (m:Int))=.ok (.int (((s:Int)+1)%m)):=By (by omega);refine Bm (ρ':=[some (.val (.lst (ns.map D.int))),some (.val (Ah m rs)),some (.val (AJ m rs L A K)),some (.val (.lst ((AD ac).map D.lst))),some (.val (.lst ((zW m).map λ i=>G5 (Rf i)))),some (.val (.lst ((zW m).map λ i=>G5 (Gf i)))),some (.val (.int s)),some (.val (.int g)),some (.own (B.map D.int)),vO o9,some (.own (B.map D.int++[D.int 0])),vO aT]) (by
     by_cases hk:(g:Int)=((s:Int)+1)%m
     ·simp_arith[i0,l5,decide_eq_true hk,nh,af];try rfl
     ·simp_arith[i0,l5,decide_eq_false hk];try rfl) ⟨_,_,_,_,_,rfl⟩
   ·rintro ρ ⟨s7,s8,o9,b6,aT,rfl⟩;exact⟨_,_,_,_,_,_,rfl⟩
  ·rintro ρ ⟨s6,s7,s8,o9,b6,aT,rfl⟩;exact⟨s6,s7,s8,o9,b6,aT,rfl⟩
 ·rintro ρ ⟨s6,s7,s8,o9,b6,aT,rfl⟩;rfl
noncomputable def cF:List D->M D:=zH UM
theorem oR {P w K mg base f fd}:Txt K mg->Xu K "law" "law" G6 f fd->Dr P w K mg base dX 8 f fd ["_law_script"] (TQ K 1 cF):=(zB UM).1
theorem oS:∀ns:List Int,ns.length<=63->(∀n∈ns,Sm n)->cF [.lst (ns.map D.int)]=.ok (.bl true):=(zB UM).2
theorem all_mk {l:PySem.W.OpenLaw}{w:World}{K:zy}{h:Heap}{mg:Str->Option Value}{fa:Addr}(X:K.In h)(G:h.Ns mainGlobals mg)(yY:mg "law" = some (.ref fa))
 {ag:Addr} {ni:Addr} {tj ir:Option Addr} {tq:Array (Option Value)} {tu iu iw ix dz iy:Value} {d0:Addr} {to30:Value} {tw:Option Addr} {tz:Nat} {t5:Array (Option Value)} {t6:Addr} {t7 l6:Option Addr} {t8:Array (Option Value)} {t9 l7 l8 l9 iz me:Value} {bQ:Addr} {bR:Addr} {bh:Addr}
 (ai:zE K mainGlobals "Ladder" = some (some (.ref ag))) (aK:zcl K ag Str.empty=true) (aL:PySem.W.hasDictIn K ag=true) (aM:PySem.W.plainOver K ag=true) (aN:zK K (.ref ag) "__setattr__" = some (some (.builtin "object.__setattr__"))) (aO:PySem.W.makesIn K ag=true) (aP:zah K (.ref ag)=true)
 (p1:FP K "is_whole_below" Df)
 (p2:FP K "is_measure" FF)
 (p3:FP K "is_road" Lf)
 (p4:FP K "is_map" NU)
 (p5:FP K "checked" Lh)
 (p6:FP K "added" QU)
 (p7:FP K "least" QV)
 (p8:FP K "road_cost" GQ)
 (p9:FP K "kept_costs" FG)
 (ub:FP K "kept_costs_turned" Cn)
 (uc:FP K "climbed" Li)
 (ue:FP K "climbed_from" Eu)
 (uf:FP K "climbing_to" F1)
 (ug:FP K "sums_at_tops" Ew)
 (uh:FP K "tops" Ur)
 (ui:FP K "cost_between" Ex)
 (uj:FP K "cost_so_far" F2)
 (uk:FP K "lay" ZS)
 (ul:FP K "lay_over" J4)
 (um:FP K "laid_arcs" GS)
 (uo:FP K "is_order" J5)
 (uq:FP K "checked_order" Dv)
 (ur:FP K "first_bows" FH)
 (ut:FP K "missing_bows" Ey)
 (uu:FP K "lightest" J6)
 (uv:FP K "ranked" NX)
 (uw:FP K "costs_from" FI)
 (ux:FP K "order_or_ranked" CV)
 (u3:FP K "kept_arcs" GU)
 (u4:MP K ag "order" "Ladder.order" Ez)
 (u5:MP K ag "checked_arc" "Ladder.checked_arc" C8)
 (u6:MP K ag "cost" "Ladder.cost" F4)
 (u7:MP K ag "kept" "Ladder.kept" F5)
 (u8:FP K "_law_cell_at" F6)
 (u9:FP K "_law_mixed" GV)
 (va:FP K "_law_road" J9)
 (vb:FP K "_law_map" Lk)
 (vc:FP K "_law_order" GW)
 (vd:FP K "_law_plus" Ja)
 (ve:FP K "_law_least" GX)
 (vg:FP K "_law_all" Ll)
 (vh:FP K "_law_cost" Jb)
 (vi:FP K "_law_copy" Jc)
 (vj:zK K (.ref ag) "__init__" = some (some (.ref ni))) (vn:zcm K (.ref ni)=true)
 (vo:K.lookup ni=some ⟨tu,tj,.func (zai "__init__" "Ladder.__init__" (AW Aq) (AE Aq) (A3 Aq) (.ref d0) iu iw ix ir dz iy),tq⟩) (vp:zau K dz "Ladder.__init__" = true) (vq:zah K (.ref ni)=true)
 (d4:K.lookup d0=some ⟨to30,tw,.seq #[.none] tz,t5⟩)
 (nj:zE K mainGlobals "law" = some (some (.ref t6)))
 (vt:K.lookup t6=some ⟨t9,t7,.func (zai "law" "law" (AW G6) (AE G6) (A3 G6) .none l7 l8 l9 l6 iz me),t8⟩) (vw:zau K iz "law" = true) (vx:zah K (.ref t6)=true)
 (z1:zE K mainGlobals "all" = some none)
 (z2:zE K mainGlobals "bool" = some none)
 (z3:zE K mainGlobals "dict" = some none)
 (z4:zE K mainGlobals "enumerate" = some none)
 (z5:zE K mainGlobals "int" = some none)
 (z6:zE K mainGlobals "isinstance" = some none)
 (z7:zE K mainGlobals "len" = some none)
 (z8:zE K mainGlobals "list" = some none)
 (z9:zE K mainGlobals "min" = some none)
 (vy:zE K mainGlobals "range" = some none)
 (vz:zE K mainGlobals "sorted" = some none)
 (v3:zE K mainGlobals "tuple" = some none)
 (aV:zE K mainGlobals "NoArc" = some (some (.ref bQ)))
 (aW:zE K mainGlobals "NoMap" = some (some (.ref bR)))
 (aB:zE K mainGlobals "NoOrder" = some (some (.ref bh)))
 (bo:zbn K bQ [.type "ValueError",.type "Exception",.type "BaseException",.type "object"] "ValueError.__new__" = true)
 (bp:zbn K bR [.type "ValueError",.type "Exception",.type "BaseException",.type "object"] "ValueError.__new__" = true)
 (aQ:zbn K bh [.type "ValueError",.type "Exception",.type "BaseException",.type "object"] "ValueError.__new__" = true)
 (ao:zK K (.ref ag) "kept_ones" = some none)
 (av:zK K (.ref ag) "laid" = some none)
 (aq:zK K (.ref ag) "own_map" = some none)
 (ap:zK K (.ref ag) "own_order" = some none):
 ∃fd:FuncData,(∀(s:Shared) (v:Value),BindsTo s fd ⟨[v],[]⟩ [("_law_script",v)])/\∀base:Heap,K.In base->base.Ns mainGlobals mg->Dr l.prog w K mg base dX 8 fa fd ["_law_script"] (TQ K 1 cF):=by
 have e:=yY.symm.trans (PySem.W.mg_of X G nj);cases e;have am:Wa K ag:=⟨aK,aL,aM,aN⟩;have yZ:=gQ (st:=Aq) vo vp vq;have za:Binds K (zai "__init__" "Ladder.__init__" (AW Aq) (AE Aq) (A3 Aq) (.ref d0) iu iw ix ir dz iy) ["self","net","order"] []:=λ s us hK hl=>by
  have aE:us.length=3:=by simpa using hl
  match us,aE with
  |[_,_,_],_=>exact PySem.W.binds_K hK rfl d4 rfl rfl rfl
 have zb:Binds K (zai "__init__" "Ladder.__init__" (AW Aq) (AE Aq) (A3 Aq) (.ref d0) iu iw ix ir dz iy) ["self","net","order"] [.none]:=λ s us hK hl=>by
  have aE:us.length=2:=by simpa using hl
  match us,aE with
  |[_,_],_=>exact PySem.W.binds_K hK rfl d4 rfl rfl rfl
 have zc:U5 K mg "Ladder" "Ladder.__init__" Aq ["self","net","order"]:=⟨_,_,_,⟨ai,PySem.W.mg_of X G ai⟩,⟨aO,vj,vn,aP⟩,yZ,za,zb⟩;have v4:=Tx (st:=G6) vt vw vx;have zd:AO K mg "law" G6 ["_law_script"]:=⟨_,_,v4,PySem.W.mg_of X G nj,v4.binds λ _ _ _ _ _ _ us hl=>match us,hl with|[_],_=>rfl⟩;have T:Txt K mg:=⟨AY X G p1,AY X G p2,AY X G p3,AY X G p4,AY X G p5,AY X G p6,AY X G p7,AY X G p8,AY X G p9,AY X G ub,AY X G uc,AY X G ue,AY X G uf,AY X G ug,AY X G uh,AY X G ui,AY X G uj,AY X G uk,AY X G ul,AY X G um,AY X G uo,AY X G uq,AY X G ur,AY X G ut,AY X G uu,AY X G uv,AY X G uw,AY X G ux,AY X G u3,zc,Vv ai am u4,Vv ai am u5,Vv ai am u6,Vv ai am u7,AY X G u8,AY X G u9,AY X G va,AY X G vb,AY X G vc,AY X G vd,AY X G ve,AY X G vg,AY X G vh,AY X G vi,zd,zar X G z1,zar X G z2,zar X G z3,zar X G z4,zar X G z5,zar X G z6,zar X G z7,zar X G z8,zar X G z9,zar X G vy,zar X G vz,zar X G v3,⟨_,aV,PySem.W.mg_of X G aV,bo⟩,⟨_,aW,PySem.W.mg_of X G aW,bp⟩,⟨_,aB,PySem.W.mg_of X G aB,aQ⟩,⟨_,ai,am,ao⟩,⟨_,ai,am,av⟩,⟨_,ai,am,aq⟩,⟨_,ai,am,ap⟩⟩;refine⟨zai "law" "law" (AW G6) (AE G6) (A3 G6) .none l7 l8 l9 l6 iz me,λ s v=>.of_eq rfl,λ base _ _=>?_⟩;exact oR T v4
set_option maxHeartbeats 0 in
set_option maxHeartbeats 0 in
set_option maxHeartbeats 0 in
set_option maxHeartbeats 0 in
theorem left (w:World):(PySem.W.openEnds treeTable PySem.Challenge.pw_nodeladder_k42_least_sums w 6100).map (λ s=>PySem.W.openSeen (D2 PySem.Challenge.pw_nodeladder_k42_least_sums) [] (importedModules PySem.Challenge.pw_nodeladder_k42_least_sums.main.body) (λ s=>PySem.W.xlAt (D2 PySem.Challenge.pw_nodeladder_k42_least_sums) [] s&&PySem.W.recOk [] s) true s)=some (PySem.W.openGood (D2 PySem.Challenge.pw_nodeladder_k42_least_sums) []):=by
 rw[Vw,nJ,PySem.W.Fast.te4187177175401517315,PySem.W.Fast.te5923862056798008813,PySem.W.Fast.te5351770228327538565];exact Qz (pJ w) (Qz (pK w) (Qz (pL w) (pM w)))
set_option maxHeartbeats 0 in
theorem oU (w:World):XA (Kp R0 PySem.Challenge.pw_nodeladder_k42_least_sums w) PySem.Challenge.pw_nodeladder_k42_least_sums:=by
 rw[nJ,PySem.W.Fast.te5351770228327538565];exact cR w
set_option maxHeartbeats 0 in
theorem oV (w:World):XB (Kp R0 PySem.Challenge.pw_nodeladder_k42_least_sums w) PySem.Challenge.pw_nodeladder_k42_least_sums:=by
 rw[nJ,PySem.W.Fast.te5351770228327538565];exact cS w
theorem walk {l:PySem.W.OpenLaw}{q:Program}{loose:List Str}{XP:(Str->Option Value)->Heap->Prop}{YP:World->Heap->Prop}{d:DefRec}{K:World->zy}(hn:l.most=some 63)(gu:d.params.defaults=[])
 (hY:∀(w:World) (h:Heap),YP w h->(K w).In h)
 (F:∀(w:World) (mg:Str->Option Value) (fa:Addr) (h:Heap),(K w).In h->h.Ns mainGlobals mg->mg d.name=some (.ref fa)->
  ∃fd:FuncData,(∀(s:Shared) (u:Value),BindsTo s fd ⟨[u],[]⟩ [("_law_script",u)])/\∀base:Heap,(K w).In base->base.Ns mainGlobals mg->Dr l.prog w (K w) mg base dX 8 fa fd ["_law_script"] (TQ (K w) 1 cF)):
 PySem.W.WalkO q loose XP YP l.row.toRowW d [] (λ f vs=>PySem.call f vs):=
 L2.sN (n:=63) (k:=8) (x := "_law_script") (CX:=λ _=>dX) (sp:=λ w=>TQ (K w) 1 cF) hn (by decide) gu ⟨rfl,by decide,by decide⟩ hY F (λ w H a ns bN hl _ hS=>eW oS (K w) H a ns bN hl hS) λ _ _ _ _ _ z=>z
end cQ
open PySem PySem.W PyProof.Rows L2
set_option maxRecDepth 100000 in
set_option maxHeartbeats 0 in
theorem PySem.Challenge.cw_nodeladder_k42_least_sums_holds : PySem.Challenge.rw_nodeladder_k42_least_sums.Holds := by
 w_on;o_law
 refine holds_open (q:=D2 PySem.Challenge.pw_nodeladder_k42_least_sums) (loose:=[]) (Xt:=λ s=>xlAt (D2 PySem.Challenge.pw_nodeladder_k42_least_sums) [] s&&recOk [] s) (XP:=XL (D2 PySem.Challenge.pw_nodeladder_k42_least_sums) []) (Yf:=λ s=>s.heap) (Ya:=λ w=>Xz R0 PySem.Challenge.pw_nodeladder_k42_least_sums w 6100) (YP:=λ w h=>sM (Xz R0 PySem.Challenge.pw_nodeladder_k42_least_sums w 6100) h) (N:=6100) (gR cQ.left) (λ w s e b o q=>by rw[<-e] at q;exact q) (λ w h h' a b c o q=>b c o (a c o q)) (λ s e=>xl_of s (Bool.and_eq_true_iff.mp e).1) XL.keeps (by rfl) (by rfl) (by rfl) (λ s e=>recFacts_of (Bool.and_eq_true_iff.mp e).2) (by rfl) (by first|assumption|decide +kernel) (by decide +kernel) ⟨rfl,rfl,rfl,rfl,rfl,by decide +kernel⟩ ?hw ?hc;case hw=>w_witness2
 case hc =>
  refine cQ.walk (l:=PySem.Challenge.rw_nodeladder_k42_least_sums) (K:=cQ.Kp R0 PySem.Challenge.pw_nodeladder_k42_least_sums) rfl rfl (λ w h Y=>nK Y) ?F;intro w mg fa h KX G gw;obtain⟨ai,aK,aL,aM,aN,aO,aP,p1,p2,p3,p4,p5,p6,p7,p8,p9,ub,uc,ue,uf,ug,uh,ui,uj,uk,ul,um,uo,uq,ur,ut,uu,uv,uw,ux,u3,u4,u5,u6,u7,u8⟩:=cQ.oU w;obtain⟨u9,va,vb,vc,vd,ve,vg,vh,vi,vj,vn,vo,vp,vq,d4,nj,vt,vw,vx,z1,z2,z3,z4,z5,z6,z7,z8,z9,vy,vz,v3,aV,aW,aB,bo,bp,aQ,ao,av,aq,ap⟩:=cQ.oV w;exact cQ.all_mk KX G gw ai aK aL aM aN aO aP p1 p2 p3 p4 p5 p6 p7 p8 p9 ub uc ue uf ug uh ui uj uk ul um uo uq ur ut uu uv uw ux u3 u4 u5 u6 u7 u8 u9 va vb vc vd ve vg vh vi vj vn vo vp vq d4 nj vt vw vx z1 z2 z3 z4 z5 z6 z7 z8 z9 vy vz v3 aV aW aB bo bp aQ ao av aq ap
